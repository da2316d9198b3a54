import PyProof.Rows.All
import Wide.All
import OpenK.AllK
import Wide.FinOn
import Lean
import PyProof.EqAt
import PyProof.EqKinds
import PyProof.TupleCall
import PyProof.Rows.Catch
import PyProof.InstStoreFacts
import PyProof.ExcInit
import KE.KRevIter
import KE.KDictList
import KE.KIntText
import PyProof.Rows.TupDisplay
import PyProof.Rows.SetFrom
import PyProof.Walks
import PySem.Challenge.RW_standup_k98_whole_desk
open List
set_option Elab.async false
set_option linter.all false
set_option maxRecDepth 100000
set_option maxHeartbeats 4000000
namespace L2
open PySem PySem.Spec PyProof.Rows
abbrev Key:=Sum Int Str
def qR:Key->Value->Bool
 | .inl k,v=>Value.isInt k v
 | .inr x,v=>Value.isStrOf x v
def Of (w:World):Key->Int
 | .inl k=>hashInt k
 | .inr x=>hashStr w x
theorem bX:∀ {k:Key} {v:Value},qR k v = true->(∃ i t,k = Sum.inl i/\v = Value.int i t)\/(∃ x t,k = Sum.inr x/\v = Value.str x t)
 | .inl i,v,h=>by
  obtain ⟨t,e⟩:=Value.isInt_shape (k:=i) (v:=v) h;exact .inl ⟨i,t,rfl,e⟩
 | .inr x,v,h=>by
  obtain ⟨t,e⟩:=Value.isStrOf_shape (x:=x) (v:=v) h;exact .inr ⟨x,t,rfl,e⟩
theorem zO (i:Int) (t:Tok):qR (.inl i) (.int i t) = true:=by simp [qR,Value.isInt]
theorem zN (x:Str) (t:Tok):qR (.inr x) (.str x t) = true:=by simp [qR,Value.isStrOf]
theorem GR (a b:Int):decide ((Sum.inl a:Key) = Sum.inl b) = (a == b):=by
 by_cases e:a = b
 ·subst e; simp
 ·have h:¬ (Sum.inl a:Key) = Sum.inl b:=fun q=>e (Sum.inl.inj q);rw [decide_eq_false h];exact (beq_eq_false_iff_ne.mpr e).symm
theorem GO (a b:Str):decide ((Sum.inr a:Key) = Sum.inr b) = decide (a = b):=by
 by_cases e:a = b
 ·subst e; simp
 ·have h:¬ (Sum.inr a:Key) = Sum.inr b:=fun q=>e (Sum.inr.inj q);rw [decide_eq_false h,decide_eq_false e]
theorem GQ (a:Int) (b:Str):decide ((Sum.inl a:Key) = Sum.inr b) = false:=decide_eq_false (fun q=>nomatch q)
theorem GP (a:Str) (b:Int):decide ((Sum.inr a:Key) = Sum.inl b) = false:=decide_eq_false (fun q=>nomatch q)
def cV (prog:Program) (w:World):PySem.KeyKind prog w Key where
 is:=qR
 hash:=Of w
 inj:=fun v a b ha hb=>by
  rcases bX ha with ⟨i,t,rfl,rfl⟩ | ⟨x,t,rfl,rfl⟩
  ·rcases bX hb with ⟨j,u,rfl,e⟩ | ⟨y,u,rfl,e⟩
   ·injection e with e1 _; rw [e1]
   ·exact nomatch e
  ·rcases bX hb with ⟨j,u,rfl,e⟩ | ⟨y,u,rfl,e⟩
   ·exact nomatch e
   ·injection e with e1 _; rw [e1]
 byValue:=fun k v h=>by
  rcases bX h with ⟨i,t,rfl,rfl⟩ | ⟨x,t,rfl,rfl⟩ <;> rfl
 pyHash:=fun hv h=>by
  rcases bX hv with ⟨i,t,rfl,rfl⟩ | ⟨x,t,rfl,rfl⟩
  ·exact wpAny_pyHash_int h
  ·exact wpAny_pyHash_str h
 eqBool:=fun hu hv h=>by
  rcases bX hu with ⟨i,t,rfl,rfl⟩ | ⟨x,t,rfl,rfl⟩
  ·rcases bX hv with ⟨j,u,rfl,rfl⟩ | ⟨y,u,rfl,rfl⟩
   ·rw [GR] at h; exact wpAny_eqBool_int h
   ·rw [GQ] at h; exact SeqAt.EqAt.int_str i t y u _ _ _ _ h
  ·rcases bX hv with ⟨j,u,rfl,rfl⟩ | ⟨y,u,rfl,rfl⟩
   ·rw [GP] at h; exact SeqAt.EqAt.str_int x t j u _ _ _ _ h
   ·rw [GO] at h; exact wpAny_eqBool_str h
 «strs»:=fun k x t v h=>by
  rcases bX h with ⟨i,u,rfl,e⟩ | ⟨y,u,rfl,e⟩
  ·exact nomatch e
  ·injection e with e1 _;subst e1;cases v <;> rfl
theorem u6 (prog:Program) (w:World) (i:Int) (t:Tok):(cV prog w).is (.inl i) (.int i t) = true:=zO i t
theorem uZ (prog:Program) (w:World) (x:Str) (t:Tok):(cV prog w).is (.inr x) (.str x t) = true:=zN x t
inductive V where
 | bQ | bl (b:Bool) | int (i:Int) | str (x:Str) | wq (b:Array UInt8) | AG (b:UInt64) | ref (a:Addr) | ty (n:String)
 deriving DecidableEq
def RelV:V->Value->Prop
 | .bQ,u=>u = Value.none
 | .bl b,u=>u = Value.bool b
 | .int i,u=>∃ t,u = Value.int i t
 | .str x,u=>∃ t,u = Value.str x t
 | .wq b,u=>∃ t,u = Value.bytes b t
 | .AG b,u=>∃ t,u = Value.float b t
 | .ref a,u=>u = Value.ref a
 | .ty n,u=>u = Value.type n
abbrev Vals:List V->List Value->Prop:=Paired RelV
theorem Vals.length {xs:List V} {us:List Value} (r:Vals xs us):xs.length = us.length:=Paired.length r
theorem Vals.get:∀ {xs:List V} {us:List Value} {i:Nat} {x:V},Vals xs us->xs[i]? = some x->∃ u,us[i]? = some u/\RelV x u
 | _,_,_,_,.nil,e=>by simp at e
 | _,_,0,_,.cons r _,e=>by simp at e; subst e; exact ⟨_,rfl,r⟩
 | _,_,i + 1,x,.cons _ t,e=>by
  obtain ⟨u,h1,h2⟩:=Vals.get (i:=i) (x:=x) t (by simpa using e);exact ⟨u,by simpa using h1,h2⟩
theorem Vals.set {x:V} {u:Value} (r:RelV x u):∀ {xs:List V} {us:List Value} (i:Nat),Vals xs us->Vals (xs.set i x) (us.set i u)
 | _,_,_,.nil=>.nil
 | _,_,0,.cons _ t=>.cons r t
 | _,_,i + 1,.cons q t=>.cons q (Vals.set r i t)
theorem Vals.append:∀ {xs ys:List V} {us ws:List Value},Vals xs us->Vals ys ws->Vals (xs ++ ys) (us ++ ws)
 | _,_,_,_,.nil,s=>s
 | _,_,_,_,.cons r t,s=>.cons r (Vals.append t s)
theorem Vals.take:∀ {xs:List V} {us:List Value} (n:Nat),Vals xs us->Vals (xs.take n) (us.take n)
 | _,_,0,_=>.nil
 | _,_,_ + 1,.nil=>.nil
 | _,_,n + 1,.cons r t=>.cons r (Vals.take n t)
theorem Vals.drop:∀ {xs:List V} {us:List Value} (n:Nat),Vals xs us->Vals (xs.drop n) (us.drop n)
 | _,_,0,r=>r
 | _,_,_ + 1,.nil=>.nil
 | _,_,n + 1,.cons _ t=>Vals.drop n t
def jc:Option V->Option Value->Prop
 | some v,some u=>RelV v u
 | none,none=>True
 | _,_=>False
def KV {κ : Type}:List (κ×V)->List (κ×Value)->Prop:=Paired fun (p : κ×V) (q : κ×Value)=>p.1 = q.1/\RelV p.2 q.2
def kV:Key->V
 | .inl i=>.int i
 | .inr x=>.str x
inductive HO where
 /-- a list -/
 | lst (xs:List V)
 /-- a tuple (never changes) -/
 | tup (xs:List V)
 /-- a dict Ir keys are ints and texts; one Ir keys are tuples of ints and texts (Aw empty one is both) -/
 | dK (aS:List (Key×V)) | dT (aS:List (List Key×V))
 /-- a set of ints: aO members,aO size -/
 | set (S:Int->Bool) (n:Nat)
 /-- an instance of Aw class at C,aO dict at dx,aO attributes -/
 | ins (C dx:Addr) (fs:List (Str×V))
 /-- Aw dict of Aw instance at x -/
 | own (x:Addr)
 /-- Aw dict of an exception -/
 | xd (fs:List (Str×V))
 /-- a bound method,f of x -/
 | met (f x:Addr)
 /-- a range object lo,lo + 1,.. below hi -/
 | LY (lo hi:Int)
 /-- a Iy Tf is known to Aw object (Aw A3; a dict while a loop walks it): read,never written while it is so -/
 | oT (o:Obj) (u:HO)
 /-- a code object's table -/
 | EW (ps:Array Value)
 /-- any other Iy,by MZ is true of aO one object (a def of one's own: WK a S n:=HO.ext fun h=>..) -/
 | ext (φ : Heap->Prop)
abbrev Hp:=Addr->Option HO
def upd (H:Hp) (a:Addr) (o:HO):Hp:=fun b=>if b = a then some o else H b
theorem ae {H:Hp} {a:Addr} {o:HO}:upd H a o a = some o:=by unfold upd; rw [if_pos rfl]
theorem ak {H:Hp} {a b:Addr} {o:HO} (h:b≠a):upd H a o b = H b:=by unfold upd; rw [if_neg h]
theorem JI {H:Hp} {a b:Addr} {o u:HO} (h:H a = some o) (h':H b = some u) (d:o≠u):a≠b:=by
 intro e; subst e; rw [h] at h'; exact d (Option.some.inj h')
theorem aB {H:Hp} {a b:Addr} {o:HO} (h:H a = some o) (h':H b = none):a≠b:=by
 intro e; subst e; rw [h] at h'; cases h'
section
variable (P:Program) (w:World)
def bB (H:Hp) (h:Heap) (a:Addr):HO->Prop
 | .lst xs=>xs.length<=sizeLine/\∃ (aO:List Value) (n:Nat),Vals xs aO/\h.get? a = some { cls:=.type "list",data:=.seq aO.toArray n }
 | .tup xs=>xs.length<=sizeLine/\∃ aO:List Value,Vals xs aO/\IsTup h a aO.toArray
 | .dK aS=>aS.length<=sizeLine/\(a == sysModules) = false/\∃ vs,KV aS vs/\h.DictOf (cV P w) a vs
 | .dT aS=>aS.length<=sizeLine/\(a == sysModules) = false/\∃ xs:List (List Key×Addr×Value),
   Paired (fun (p:List Key×V) (q:List Key×Addr×Value)=>p.1 = q.1/\H q.2.1 = some (.tup (p.1.map kV))/\RelV p.2 q.2.2) aS xs/\
   ∃ o es ep,h.get? a = some o/\o.ExactDict/\o.data = .dict es ep/\es.toList = xs.map (entryOfKey (tupleKind (cV P w)))/\(xs.map (·.1)).Nodup
 | .set S n=>h.SetOf (intKind P w) a S n
 | .ins C dx fs=>H dx = some (.own a)/\fs.length<=1000/\dx≠a/\h.get? a = some (PySem.W.instObj C dx)/\
   ∃ mA,h.Ns1 dx mA/\(∀ f,jc (fs.lookup f) (mA f))/\PySem.Within mA (fs.map (·.1))
 | .own _=>∃ o,h.get? a = some o
 | .xd fs=>∃ mA,h.Ns1 a mA/\∀ f,jc (fs.lookup f) (mA f)
 | .LY lo hi=>∃ t u v,h.get? a = some { cls:=.type "range",data:=.fields #[.int lo t,.int hi u,.int 1 v] }
 | .oT o u=>h.get? a = some o/\bB H h a u
 | .EW ps=>h.get? a = some { cls:=.none,data:=.fields ps }
 | .met f x=>h.get? a = some (PySem.W.methodObj (.ref f) (.ref x))
 | .ext φ=>φ h/\(∃ o,h.get? a = some o)/\∀ h1 h2:Heap,φ h1->(∀ o,h1.get? a = some o->h2.get? a = some o)->φ h2
def jd (H:Hp) (h:Heap):Prop:=∀ a o,H a = some o->bB P w H h a o
end
section
variable {P:Program} {w:World} {H H':Hp} {h h':Heap} {a:Addr} {o:HO}
theorem bB.lt (x:bB P w H h a o):a < h.objs.size:=by
 cases o with
 | lst xs=>obtain ⟨_,_,_,_,e⟩:=x; exact Heap.lt_size e
 | tup xs=>obtain ⟨_,_,_,p⟩:=x; exact p.lt
 | dK aS=>obtain ⟨_,_,_,_,o,_,_,e,_⟩:=x; exact Heap.lt_size e
 | dT aS=>obtain ⟨_,_,_,_,o,_,_,e,_⟩:=x; exact Heap.lt_size e
 | set S n=>obtain ⟨o,_,_,_,e,_⟩:=x; exact Heap.lt_size e
 | ins C dx fs=>obtain ⟨_,_,_,e,_⟩:=x; exact Heap.lt_size e
 | own y=>obtain ⟨_,e⟩:=x; exact Heap.lt_size e
 | xd fs=>obtain ⟨_,⟨_,_,_,e,_⟩,_⟩:=x; exact Heap.lt_size e
 | LY lo hi=>obtain ⟨_,_,_,e⟩:=x; exact Heap.lt_size e
 | oT ob u=>obtain ⟨e,_⟩:=x; exact Heap.lt_size e
 | EW ps=>exact Heap.lt_size (show h.get? a = some _ from x)
 | met f y=>exact Heap.lt_size (show h.get? a = some _ from x)
 | ext φ=>obtain ⟨_,⟨_,e⟩,_⟩:=x; exact Heap.lt_size e
theorem Paired.wU {α β : Type} {F G : α->β->Prop}:∀ {l₁ : List α} {l₂ : List β},Paired F l₁ l₂->(∀ a b,F a b->G a b)->Paired G l₁ l₂
 | _,_,.nil,_=>.nil
 | _,_,.cons r t,f=>.cons (f _ _ r) (Paired.wU t f)
theorem bB.iZ (x:bB P w H h a o) (k:∀ b u,(b = a\/H b = some (.own a))->h.get? b = some u->h'.get? b = some u)
  (ho:∀ b,H b = some (.own a)->H' b = some (.own a)) (ht:∀ b xs,H b = some (.tup xs)->H' b = some (.tup xs)):bB P w H' h' a o:=by
 induction o with
 | lst xs=>obtain ⟨z,aO,n,r,e⟩:=x; exact ⟨z,aO,n,r,k _ _ (.inl rfl) e⟩
 | tup xs=>obtain ⟨z,aO,r,ob,e,c⟩:=x; exact ⟨z,aO,r,ob,k _ _ (.inl rfl) e,c⟩
 | dK aS=>obtain ⟨z,y,vs,r,ob,es,ep,e,c⟩:=x; exact ⟨z,y,vs,r,ob,es,ep,k _ _ (.inl rfl) e,c⟩
 | dT aS=>
  obtain ⟨z,y,xs,r,ob,es,ep,e,c⟩:=x;exact ⟨z,y,xs,Paired.wU r fun p q z=>⟨z.1,ht _ _ z.2.1,z.2.2⟩,ob,es,ep,k _ _ (.inl rfl) e,c⟩
 | set S n=>obtain ⟨ob,es,ep,t,e,c⟩:=x; exact ⟨ob,es,ep,t,k _ _ (.inl rfl) e,c⟩
 | ins C dx fs=>
  obtain ⟨d,z,ne,e,mA,⟨od,es,ep,e2,c⟩,r⟩:=x;exact ⟨ho _ d,z,ne,k _ _ (.inl rfl) e,mA,⟨od,es,ep,k _ _ (.inr d) e2,c⟩,r⟩
 | own y=>obtain ⟨ob,e⟩:=x; exact ⟨ob,k _ _ (.inl rfl) e⟩
 | xd fs=>obtain ⟨mA,⟨od,es,ep,e,c⟩,r⟩:=x; exact ⟨mA,⟨od,es,ep,k _ _ (.inl rfl) e,c⟩,r⟩
 | LY lo hi=>obtain ⟨t,u,v,e⟩:=x; exact ⟨t,u,v,k _ _ (.inl rfl) e⟩
 | oT ob u ih=>obtain ⟨e,q⟩:=x; exact ⟨k _ _ (.inl rfl) e,ih q⟩
 | EW ps=>
  have e:h.get? a = some { cls:=.none,data:=.fields ps }:=x;show h'.get? a = some { cls:=.none,data:=.fields ps };exact k a _ (.inl rfl) e
 | met f y=>
  have e:h.get? a = some (PySem.W.methodObj (.ref f) (.ref y)):=x;show h'.get? a = some (PySem.W.methodObj (.ref f) (.ref y));exact k a _ (.inl rfl) e
 | ext φ=>obtain ⟨p,⟨o,e⟩,st⟩:=x; exact ⟨st _ _ p fun o q=>k _ _ (.inl rfl) q,⟨o,k _ _ (.inl rfl) e⟩,st⟩
theorem jd.lt (x:jd P w H h) (e:H a = some o):a < h.objs.size:=(x a o e).lt
theorem jd.fresh (x:jd P w H h) (e:h.objs.size<=a):H a = none:=by
 cases q:H a with
 | none=>rfl
 | some u=>exact absurd (Nat.lt_of_lt_of_le (x.lt q) e) (Nat.lt_irrefl _)
theorem jd.kept (x:jd P w H h) (k:∀ b u,h.get? b = some u->h'.get? b = some u):jd P w H h':=fun a o e=>
 (x a o e).iZ (fun b u _ q=>k b u q) (fun _ q=>q) fun _ _ q=>q
theorem jd.laid (x:jd P w H h) (k:∀ b u,h.get? b = some u->h'.get? b = some u) (hp:h.objs.size<=a) (new:bB P w (upd H a o) h' a o):jd P w (upd H a o) h':=fun b u e=>by
 have hn:=x.fresh hp;by_cases hb:b = a
 ·subst hb; rw [ae] at e; cases e; exact new
 ·rw [ak hb] at e;exact (x b u e).iZ (fun c v _ q=>k c v q) (fun c q=>by rw [ak (aB q hn)]; exact q) fun c xs q=>by rw [ak (aB q hn)]; exact q
end
def Rd (H:Hp) (a:Addr) (u:HO):Prop:=H a = some u\/∃ o,H a = some (.oT o u)
theorem Rd.ok {P:Program} {w:World} {H:Hp} {h:Heap} {a:Addr} {u:HO} (r:Rd H a u) (x:jd P w H h):bB P w H h a u:=by
 rcases r with r | ⟨o,r⟩
 ·exact x a u r
 ·obtain ⟨_,q⟩:=x a _ r;exact q
def LD:Option HO->Prop
 | some (.lst _)=>True
 | some (.dK _)=>True
 | some (.dT _)=>True
 | some (.set _ _)=>True
 | some (.ins _ _ _)=>True
 | some (.ext _)=>True
 | _=>False
section
variable {P:Program} {w:World} {H:Hp} {h h':Heap} {x e:Addr} {o':HO}
theorem jd.write (ok:jd P w H h) (mu:LD (H x)) (he:e = x\/H e = some (.own x)) (k:∀ b u,b≠e->h.get? b = some u->h'.get? b = some u) (Ig:∃ u,h'.get? e = some u)
  (new:bB P w (upd H x o') h' x o'):jd P w (upd H x o') h':=fun b u q=>by
 have JE:∀ c y,H c = some (.own y)->c≠x:=fun c y r z=>by subst z; rw [r] at mu; exact mu
 have NZ:∀ c xs,H c = some (.tup xs)->c≠x:=fun c xs r z=>by subst z; rw [r] at mu; exact mu
 by_cases hb:b = x
 ·subst hb; rw [ae] at q; cases q; exact new
 ·rw [ak hb] at q;by_cases Hf:b = e
  ·have q':H b = some (.own x):=by
    rcases he with z | z
    ·exact absurd (Hf.trans z) hb
    ·rw [Hf]; exact z
   rw [q] at q'; cases q';obtain ⟨v,hv⟩:=Ig;exact ⟨v,by rw [Hf]; exact hv⟩
  ·refine (ok b u q).iZ (fun c v hc r=>k c v ?_ r) (fun c r=>by rw [ak (JE c b r)]; exact r) fun c xs r=>by rw [ak (NZ c xs r)]; exact r
   rcases hc with rfl | hc
   ·exact Hf
   ·rintro rfl;rcases he with z | z
    ·exact JE c b hc z
    ·rw [hc] at z; cases z; exact hb rfl
end
structure Un (fs ex:List Addr) (H H':Hp) (h h':Heap):Prop where
 keep:∀ b o,h.get? b = some o->H b = none->b∉fs->b∉ex->h'.get? b = some o
 slot:∀ b o,h.get? b = some o->H b = none->b∈fs->b∉ex->∃ sl,h'.get? b = some { o with slots:=sl }
 free:∀ b o,h.get? b = some o->H b = none->b∉ex->H' b = none
 there:∀ b o,h.get? b = some o->b∉ex->∃ o',h'.get? b = some o'
 rR:∀ b xs,H b = some (.tup xs)->H' b = some (.tup xs)
 pY:∀ b o u,H b = some (.oT o u)->H' b = some (.oT o u)
 rS:∀ b ps,H b = some (.EW ps)->∃ more,H' b = some (.EW (ps ++ more))
section
variable {fs KR ex XZ:List Addr} {H H1 H2:Hp} {h h1 h2 h':Heap} {a x e:Addr} {o:HO}
theorem Un.any (u:Un fs ex H H1 h h1) {b:Addr} {ob:Obj} (q:h.get? b = some ob) (n:H b = none) (hx:b∉ex):∃ sl,h1.get? b = some { ob with slots:=sl }:=by
 by_cases hb:b∈fs
 ·exact u.slot b ob q n hb hx
 ·exact ⟨ob.slots,u.keep b ob q n hb hx⟩
theorem Un.kept (k:∀ b u,h.get? b = some u->h'.get? b = some u):Un fs ex H H h h':=
 ⟨fun b ob q _ _ _=>k b ob q,fun b ob q _ _ _=>⟨ob.slots,k b ob q⟩,fun _ _ _ n _=>n,fun b ob q _=>⟨ob,k b ob q⟩,fun _ _ q=>q,fun _ _ _ q=>q,fun _ ps q=>⟨#[],by rw [q]; simp⟩⟩
theorem Un.refl:Un fs ex H H h h:=Un.kept fun _ _ q=>q
theorem Un.laid (k:∀ b u,h.get? b = some u->h'.get? b = some u) (hp:h.objs.size<=a) (hn:H a = none):Un fs ex H (upd H a o) h h' where
 keep:=fun b u q _ _ _=>k b u q
 slot:=fun b u q _ _ _=>⟨u.slots,k b u q⟩
 free:=fun b u q n _=>by rw [ak (Nat.ne_of_lt (Nat.lt_of_lt_of_le (Heap.lt_size q) hp))]; exact n
 there:=fun b u q _=>⟨u,k b u q⟩
 rR:=fun b xs q=>by rw [ak (aB q hn)]; exact q
 pY:=fun b u xs q=>by rw [ak (aB q hn)]; exact q
 rS:=fun b ps q=>⟨#[],by rw [ak (aB q hn),q]; simp⟩
theorem Un.write (mu:LD (H x)) (he:e = x\/H e = some (.own x)) (k:∀ b u,b≠e->h.get? b = some u->h'.get? b = some u) (Ig:∃ u,h'.get? e = some u):Un fs ex H (upd H x o) h h':=by
 have hx:∀ b,H b = none->b≠x:=fun b n z=>by subst z; rw [n] at mu; exact mu
 have hb:∀ b,H b = none->b≠e:=fun b n z=>by
  subst z;rcases he with r | r
  ·exact hx b n r
  ·rw [n] at r; cases r
 have hm:∀ b u,H b = some u->¬ LD (some u)->b≠x:=fun b u q nm z=>by subst z; rw [q] at mu; exact nm mu
 refine ⟨fun b u q n _ _=>k b u (hb b n) q,fun b u q n _ _=>⟨u.slots,k b u (hb b n) q⟩,fun b u q n _=>by rw [ak (hx b n)]; exact n,fun b u q _=>?_,
  fun b xs q=>by rw [ak (hm b _ q fun z=>z)]; exact q,fun b u xs q=>by rw [ak (hm b _ q fun z=>z)]; exact q,fun b ps q=>⟨#[],by rw [ak (hm b _ q fun z=>z),q]; simp⟩⟩
 by_cases Hf:b = e
 ·subst Hf; exact Ig
 ·exact ⟨u,k b u Hf q⟩
end
def LM (h:Heap) (H:Hp):List Addr:=(List.range h.objs.size).filter fun a=>(H a).isSome
def tD (h:Heap) (H:Hp):Heap:=PySem.W.hideAll h (LM h H)
theorem zV (h:Heap) (H:Hp):(tD h H).objs.size = h.objs.size:=PySem.W.hideAll_size _ _
theorem B1 {h:Heap} {H:Hp} {b:Addr} {o:Obj} (e:h.get? b = some o) (n:H b = none):(tD h H).get? b = some o:=
 PySem.W.hideAll_get _ e fun hm=>by
  have q:(H b).isSome = true:=(List.mem_filter.mp hm).2;rw [n] at q; simp at q
theorem DV {h:Heap} {H:Hp} {b:Addr} {o:Obj} (e:(tD h H).get? b = some o):h.get? b = some o/\H b = none:=by
 have e':h.get? b = some o:=PySem.W.of_hideAll (LM h H) e;refine ⟨e',?_⟩;cases q:H b with
 | none=>rfl
 | some x=>
  have hm:b∈LM h H:=List.mem_filter.mpr ⟨List.mem_range.mpr (Heap.lt_size e'),by simp [q]⟩;have z:(tD h H).get? b = none:=PySem.W.hideAll_none (LM h H) hm;rw [z] at e; cases e
def EH (g h:Heap) (L:Addr):List (Addr×Obj):=(List.range h.objs.size).filterMap fun a=>if a = L\/(g.get? a).isSome = true then none else (h.get? a).map fun o=>(a,o)
def rest (g h:Heap) (L d:Addr):List (Addr×Obj):=(EH g h L).filter fun p=>decide (p.1≠d)
structure Mod (K:PySem.W.Frag) (mg:Str->Option Value) (base:Heap):Prop where
 HW:K.In base
 glob:base.Ns mainGlobals mg
 blt:∃ mb,base.Ns builtinsNs mb/\∀ x:Str,x≠ "__name__"->mb x = bootBuiltins x
 nolimit:base.NoLimit
structure Cx where
 prog:Program
 w:World
 K:PySem.W.Frag
 mg:Str->Option Value
 base:Heap
 A:Around
 N:List Str
 s₀ : Shared
 H₀ : Hp
 env:Env
 outer:List Env
 stack:List Env
 ex:List Addr
 fn:Str->Bool
 calm:Bool
 pn:List (Addr×Obj)
 xe:Value->Shared->Prop
def jb (l:List Env):List Addr:=l.filterMap (·.frame)
abbrev Cx.fs (X:Cx):List Addr:=jb X.outer
def MO (sc:Scope) (x:Str):Prop:=sc.names.lookup x = some .local\/sc.names.lookup x = some .cell\/sc.names.lookup x = some .free
def Loc (sc:Scope) (x:Str):Prop:=sc.names.lookup x = some .local\/sc.names.lookup x = some .cell
def Look (env:Env) (h:Heap) (m:Str->Option Value) (x:Str) (u:Value):Prop:=
 (env.kindOf x = some .local/\m x = some u)\/((env.kindOf x = some .cell\/env.kindOf x = some .free)/\∃ c,env.cells.lookup x = some c/\h.IsCell c (some u))
structure Cx.Ok (X:Cx):Prop where
 mod:Mod X.K X.mg X.base
 kind:X.env.scope.kind = .function
 glob:X.env.globals = mainGlobals
 blt:X.env.builtins = builtinsNs
 above:X.s₀.heap.objs.size<=X.env.locals
 inj:∀ x y c,X.env.cells.lookup x = some c->X.env.cells.lookup y = some c->x = y
 has:∀ x,(X.env.kindOf x = some .cell\/X.env.kindOf x = some .free)->∃ c,X.env.cells.lookup x = some c
 FE:∀ x c,X.fn x = true->X.env.cells.lookup x = some c->X.s₀.heap.objs.size<=c
 hd:X.calm = true->X.A.handled = none
 frames:X.A.frames = some X.stack
 wa:X.stack = X.outer\/(X.stack = X.env :: X.outer/\X.env.frame = some X.env.locals)
 K2:∀ b∈X.ex,b≠X.env.locals/\∀ x c,X.env.cells.lookup x = some c->c≠b
 bs:∀ b o,X.base.get? b = some o->X.s₀.heap.get? b = some o/\X.H₀ b = none
 Cw:X.base.objs.size<=X.s₀.heap.objs.size
 uV:∀ b o,X.base.get? b = some o->b∉X.ex
 xr:∀ b∈X.ex,b∉X.fs
 ja:X.s₀.heap.FunFrames X.base X.outer
 CU:∀ b∈X.fs,X.H₀ b = none
structure Inv (X:Cx) (pins:List (Addr×Obj)) (σ : List (Option V)) (H:Hp) (s:Shared):Prop where
 ok:X.Ok
 os:s.os = X.s₀.os
 bare:AllBare s.gens
 base:Un X.fs X.ex X.H₀ H X.s₀.heap s.heap
 loc:∃ m,s.heap.Ns X.env.locals m/\∀ (i:Nat) (x:Str) (v:V),X.N[i]? = some x->σ[i]? = some (some v)->MO X.env.scope x->∃ u,RelV v u/\Look X.env s.heap m x u
 cell:∀ x c,X.env.cells.lookup x = some c->∃ v,s.heap.IsCell c v
 free:H X.env.locals = none
 fm:∀ x c,X.env.cells.lookup x = some c->H c = none
 pin:∀ p∈X.pn ++ pins,s.heap.get? p.1 = some p.2/\H p.1 = none/\p.1≠X.env.locals/\p.1∉X.fs/\∀ v,p.2.data≠.cell v
 bF:jd X.prog X.w H s.heap
 len : σ.length = X.N.length
section
variable {X:Cx} {pins:List (Addr×Obj)} {σ : List (Option V)} {H H':Hp} {s:Shared} {h':Heap}
theorem Cx.Ok.N2 (ok:X.Ok) {b:Addr} {o:Obj} (e:X.base.get? b = some o):b∉X.fs:=fun hb=>by
 have:=(ok.ja.mem hb).1;rw [e] at this; cases this
theorem Inv.bs (I:Inv X pins σ H s):∀ b o,X.base.get? b = some o->s.heap.get? b = some o/\H b = none:=fun b o e=>
 ⟨I.base.keep b o (I.ok.bs b o e).1 (I.ok.bs b o e).2 (I.ok.N2 e) (I.ok.uV b o e),I.base.free b o (I.ok.bs b o e).1 (I.ok.bs b o e).2 (I.ok.uV b o e)⟩
theorem Inv.bk (I:Inv X pins σ H s):∀ b o,X.base.get? b = some o->s.heap.get? b = some o:=fun b o e=>(I.bs b o e).1
theorem Inv.mod (I:Inv X pins σ H s):Mod X.K X.mg X.base:=I.ok.mod
theorem Inv.lO (I:Inv X pins σ H s):X.K.In s.heap:=I.ok.mod.HW.keeps I.bk
theorem Inv.lt (I:Inv X pins σ H s):X.env.locals < s.heap.objs.size:=let ⟨_,hn,_⟩:=I.loc; hn.lt
theorem Inv.sz (I:Inv X pins σ H s):X.s₀.heap.objs.size<=s.heap.objs.size:=Nat.le_trans I.ok.above (Nat.le_of_lt I.lt)
theorem Inv.N1 (I:Inv X pins σ H s) {a:Addr} (h:s.heap.objs.size<=a):a∉X.fs:=fun hb=>by
 obtain ⟨_,o,ho,_⟩:=I.ok.ja.mem hb;exact absurd (Nat.lt_of_lt_of_le (Heap.lt_size ho) (Nat.le_trans I.sz h)) (Nat.lt_irrefl _)
theorem Inv.Ht (I:Inv X pins σ H s):∀ x c,X.env.cells.lookup x = some c->c≠X.env.locals:=fun x c e z=>by
 obtain ⟨v,o,ho,hd⟩:=I.cell x c e;obtain ⟨m,⟨o',es,ep,G6,O8,_⟩,_⟩:=I.loc;rw [z,G6] at ho; cases ho; rw [O8] at hd; cases hd
theorem Inv.ja (I:Inv X pins σ H s):s.heap.FunFrames X.base X.outer:=by
 have all:∀ (l:List Env),(∀ b∈jb l,b∈X.fs)->X.s₀.heap.FunFrames X.base l->s.heap.FunFrames X.base l:=by
  intro l
  induction l with
  | nil=>intro _ _; trivial
  | cons env r ih=>
   intro hs hl;obtain ⟨hk,⟨L,o,hf,hn,ho,hd⟩,hr⟩:=hl;have hL:L∈X.fs:=hs L (by unfold jb; rw [filterMap_cons,hf]; exact mem_cons_self);obtain ⟨sl,e⟩:=I.base.slot L o ho (I.ok.CU L hL) hL fun z=>I.ok.xr L z hL;exact ⟨hk,⟨L,_,hf,hn,e,hd⟩,ih (fun b hb=>hs b (by unfold jb; rw [filterMap_cons,hf]; exact mem_cons_of_mem _ hb)) hr⟩
 exact all X.outer (fun _ hb=>hb) I.ok.ja
theorem Inv.stack (I:Inv X pins σ H s):s.heap.FunFrames X.base X.stack:=by
 rcases I.ok.wa with e | ⟨e,hf⟩
 ·rw [e]; exact I.ja
 ·rw [e];obtain ⟨m,hn,_⟩:=I.loc;refine .cons (by rw [I.ok.kind]; decide) hf hn ?_ I.ja;exact Heap.get?_none_of_le (Nat.le_trans I.ok.Cw I.ok.above)
theorem Inv.jh (I:Inv X pins σ H s):∀ b∈jb X.stack,b∈X.env.locals :: X.fs:=fun b hb=>by
 rcases I.ok.wa with e | ⟨e,hf⟩
 ·rw [e] at hb; exact mem_cons_of_mem _ hb
 ·rw [e] at hb;unfold jb at hb;rw [filterMap_cons,hf] at hb;exact hb
theorem Inv.rW (I:Inv X pins σ H s):∀ b∈jb X.stack,H b = none:=fun b hb=>by
 rcases List.mem_cons.mp (I.jh b hb) with e | hb
 ·rw [e]; exact I.free
 ·obtain ⟨_,o,ho,_⟩:=I.ok.ja.mem hb;exact I.base.free b o ho (I.ok.CU b hb) fun z=>I.ok.xr b z hb
theorem Inv.step {g':Array GenState} {t':Nat} {d':Drawn} {ch:List Addr} (I:Inv X pins σ H s)
  (CQ:∀ b∈ch,(b∈X.ex\/X.s₀.heap.objs.size<=b)/\b≠X.env.locals/\(∀ x c,X.env.cells.lookup x = some c->c≠b)/\∀ p∈X.pn ++ pins,p.1≠b)
  (keep:∀ b o,b≠X.env.locals->b∉X.fs->b∉ch->s.heap.get? b = some o->H b = none->h'.get? b = some o)
  (slot:∀ b o,b≠X.env.locals->b∈X.fs->b∉ch->s.heap.get? b = some o->H b = none->∃ sl,h'.get? b = some { o with slots:=sl }) (free:∀ b o,b∉ch->s.heap.get? b = some o->H b = none->H' b = none)
  (there:∀ b o,b∉ch->s.heap.get? b = some o->∃ o',h'.get? b = some o')
  (rR:∀ b xs,H b = some (.tup xs)->H' b = some (.tup xs)) (pY:∀ b o u,H b = some (.oT o u)->H' b = some (.oT o u)) (rS:∀ b ps,H b = some (.EW ps)->∃ more,H' b = some (.EW (ps ++ more)))
  (ns:∀ m,s.heap.Ns X.env.locals m->h'.Ns X.env.locals m) (bF:jd X.prog X.w H' h') (hg:AllBare g') :
  Inv X pins σ H' { s with heap:=h',gens:=g',drawn:=d',toks:=t' }:=by
 have Ru:∀ b o,X.s₀.heap.get? b = some o->b≠X.env.locals:=fun b o e=>Nat.ne_of_lt (Nat.lt_of_lt_of_le (Heap.lt_size e) I.ok.above);have Mg:∀ b o,X.s₀.heap.get? b = some o->b∉X.ex->b∉ch:=fun b o e hx hb=>by
  rcases (CQ b hb).1 with z | z
  ·exact hx z
  ·exact absurd (Nat.lt_of_lt_of_le (Heap.lt_size e) z) (Nat.lt_irrefl _)
 have cellK:∀ x c,X.env.cells.lookup x = some c->∀ v,s.heap.IsCell c v->h'.IsCell c v:=fun x c e v ⟨o,ho,hd⟩=>by
  have yw:c∉ch:=fun z=>(CQ c z).2.2.1 x c e rfl;by_cases hc:c∈X.fs
  ·obtain ⟨sl,q⟩:=slot c o (I.Ht x c e) hc yw ho (I.fm x c e);exact ⟨_,q,hd⟩
  ·exact ⟨o,keep c o (I.Ht x c e) hc yw ho (I.fm x c e),hd⟩
 refine ⟨I.ok,I.os,hg,⟨fun b o e n hb hx=>?_,fun b o e n hb hx=>?_,fun b o e n hx=>?_,fun b o e hx=>?_,fun b xs e=>rR b xs (I.base.rR b xs e),fun b o xs e=>pY b o xs (I.base.pY b o xs e),fun b ps e=>?_⟩,?_,fun x c e=>?_,?_,fun x c e=>?_,fun p hp=>?_,bF,I.len⟩
 ·exact keep b o (Ru b o e) hb (Mg b o e hx) (I.base.keep b o e n hb hx) (I.base.free b o e n hx)
 ·obtain ⟨sl,e1⟩:=I.base.slot b o e n hb hx;obtain ⟨TF,e2⟩:=slot b _ (Ru b o e) hb (Mg b o e hx) e1 (I.base.free b o e n hx);exact ⟨TF,e2⟩
 ·obtain ⟨o',e1⟩:=I.base.there b o e hx;exact free b o' (Mg b o e hx) e1 (I.base.free b o e n hx)
 ·obtain ⟨o',e1⟩:=I.base.there b o e hx;exact there b o' (Mg b o e hx) e1
 ·obtain ⟨m1,e1⟩:=I.base.rS b ps e;obtain ⟨m2,e2⟩:=rS b _ e1;exact ⟨m1 ++ m2,by rw [e2,Array.append_assoc]⟩
 ·obtain ⟨m,hn,hl⟩:=I.loc;refine ⟨m,ns m hn,fun i x v e1 e2 e3=>?_⟩;obtain ⟨u,r,l⟩:=hl i x v e1 e2 e3;refine ⟨u,r,?_⟩;rcases l with l | ⟨k,c,e,z⟩
  ·exact .inl l
  ·exact .inr ⟨k,c,e,cellK x c e _ z⟩
 ·obtain ⟨v,z⟩:=I.cell x c e;exact ⟨v,cellK x c e v z⟩
 ·obtain ⟨m,⟨o,_,_,ho,_⟩,_⟩:=I.loc;exact free _ o (fun z=>(CQ _ z).2.1 rfl) ho I.free
 ·obtain ⟨v,o,ho,hd⟩:=I.cell x c e;exact free c o (fun z=>(CQ c z).2.2.1 x c e rfl) ho (I.fm x c e)
 ·obtain ⟨e,n,ne,nf,d⟩:=I.pin p hp;have yw:p.1∉ch:=fun z=>(CQ p.1 z).2.2.2 p hp rfl;exact ⟨keep p.1 p.2 ne nf yw e n,free p.1 p.2 yw e n,ne,nf,d⟩
theorem Inv.un {t':Nat} (I:Inv X pins σ H s) (u:Un X.fs [] H H' s.heap h') (bF:jd X.prog X.w H' h'):Inv X pins σ H' { s with heap:=h',toks:=t' }:=by
 obtain ⟨m,⟨o,es,ep,ho,r⟩,_⟩:=id I.loc;obtain ⟨sl,hL⟩:=u.any ho I.free (by simp);exact I.step (g':=s.gens) (d':=s.drawn) (ch:=[]) (fun _ z=>nomatch z) (fun b o _ hb _ e n=>u.keep b o e n hb (by simp)) (fun b o _ hb _ e n=>u.slot b o e n hb (by simp)) (fun b o _ e n=>u.free b o e n (by simp)) (fun b o _ e=>u.there b o e (by simp)) u.rR u.pY u.rS (fun m' hm=>by
  obtain ⟨o',PB,PD,G6,r'⟩:=hm;rw [ho] at G6; cases G6;exact ⟨_,PB,PD,hL,r'⟩) bF I.bare
theorem Inv.call {g':Array GenState} {t':Nat} {d':Drawn} {ch:List Addr} (I:Inv X pins σ H s) (u:Un (jb X.stack) ch H H' s.heap h') (bF:jd X.prog X.w H' h') (hg:AllBare g')
  (CQ:∀ b∈ch,(b∈X.ex\/X.s₀.heap.objs.size<=b)/\b≠X.env.locals/\(∀ x c,X.env.cells.lookup x = some c->c≠b)/\∀ p∈X.pn ++ pins,p.1≠b) :
  Inv X pins σ H' { s with heap:=h',gens:=g',drawn:=d',toks:=t' }:=by
 obtain ⟨m,⟨o,es,ep,ho,r⟩,_⟩:=id I.loc;obtain ⟨sl,hL⟩:=u.any ho I.free fun z=>(CQ _ z).2.1 rfl;exact I.step (ch:=ch) CQ (fun b o hL hb hc e n=>u.keep b o e n (fun z=>(List.mem_cons.mp (I.jh b z)).elim hL hb) hc) (fun b o _ _ hc e n=>u.any e n hc) (fun b o hc e n=>u.free b o e n hc) (fun b o hc e=>u.there b o e hc) u.rR u.pY u.rS (fun m' hm=>by
  obtain ⟨o',PB,PD,G6,r'⟩:=hm;rw [ho] at G6; cases G6;exact ⟨_,PB,PD,hL,r'⟩) bF hg
theorem Inv.turned {t':Nat} {it:Addr} (I:Inv X pins σ H s) (k:∀ b o,b≠it->s.heap.get? b = some o->h'.get? b = some o) (hn:H it = none) (hL:it≠X.env.locals)
  (h1:it∈X.ex\/X.s₀.heap.objs.size<=it) (h2:∀ x c,X.env.cells.lookup x = some c->c≠it) (h3:∀ p∈X.pn ++ pins,p.1≠it):Inv X pins σ H { s with heap:=h',toks:=t' }:=by
 have Rr:∀ b u,H b = some u->b≠it:=fun b u e z=>by rw [z,hn] at e; cases e
 refine I.step (g':=s.gens) (d':=s.drawn) (ch:=[it]) (fun b hb=>?_) (fun b o _ _ hc e _=>k b o (fun z=>hc (by simp [z])) e) (fun b o _ _ hc e _=>⟨o.slots,k b o (fun z=>hc (by simp [z])) e⟩) (fun _ _ _ _ n=>n)
  (fun b o hc e=>⟨o,k b o (fun z=>hc (by simp [z])) e⟩) (fun _ _ e=>e) (fun _ _ _ e=>e) (fun b ps e=>⟨#[],by rw [e]; simp⟩) (fun m hm=>?_) (fun b u e=>?_) I.bare
 ·have e:b = it:=by simpa using hb
  subst e;exact ⟨h1,hL,h2,h3⟩
 ·obtain ⟨o,es,ep,ho,r⟩:=hm;exact ⟨o,es,ep,k _ o (Ne.symm hL) ho,r⟩
 ·refine (I.bF b u e).iZ (fun c v hc q=>k c v ?_ q) (fun _ q=>q) fun _ _ q=>q;rcases hc with z | z
  ·rw [z]; exact Rr b u e
  ·exact Rr c _ z
theorem Inv.tok (I:Inv X pins σ H s) (t:Nat):Inv X pins σ H { s with toks:=t }:=I.un (h':=s.heap) (t':=t) Un.refl I.bF
theorem Inv.kept {t':Nat} (I:Inv X pins σ H s) (k:∀ b u,s.heap.get? b = some u->h'.get? b = some u):Inv X pins σ H { s with heap:=h',toks:=t' }:=I.un (Un.kept k) (I.bF.kept k)
theorem Inv.laid {a:Addr} {o:HO} {t':Nat} (I:Inv X pins σ H s) (k:∀ b u,s.heap.get? b = some u->h'.get? b = some u) (hp:s.heap.objs.size<=a) (new:bB X.prog X.w (upd H a o) h' a o) :
  Inv X pins σ (upd H a o) { s with heap:=h',toks:=t' }:=I.un (Un.laid k hp (I.bF.fresh hp)) (I.bF.laid k hp new)
theorem Inv.write {x e:Addr} {o:HO} {t':Nat} (I:Inv X pins σ H s) (mu:LD (H x)) (he:e = x\/H e = some (.own x)) (k:∀ b u,b≠e->s.heap.get? b = some u->h'.get? b = some u) (Ig:∃ u,h'.get? e = some u)
  (new:bB X.prog X.w (upd H x o) h' x o):Inv X pins σ (upd H x o) { s with heap:=h',toks:=t' }:=I.un (Un.write mu he k Ig) (I.bF.write mu he k Ig new)
theorem Inv.mK {Ff:List (Addr×Obj)} (I:Inv X pins σ H s) (h:∀ p∈Ff,s.heap.get? p.1 = some p.2/\H p.1 = none/\p.1≠X.env.locals/\p.1∉X.fs/\∀ v,p.2.data≠.cell v):Inv X Ff σ H s:=
 ⟨I.ok,I.os,I.bare,I.base,I.loc,I.cell,I.free,I.fm,fun p hp=>(List.mem_append.mp hp).elim (fun z=>I.pin p (mem_append_left _ z)) (h p),I.bF,I.len⟩
theorem uW {N:List Str} (hN:N.Nodup) {i j:Nat} {x:Str} (a:N[i]? = some x) (b:N[j]? = some x):i = j:=by
 obtain ⟨h1,e1⟩:=List.getElem?_eq_some_iff.mp a;obtain ⟨h2,e2⟩:=List.getElem?_eq_some_iff.mp b;exact (getElem_inj hN).mp (e1.trans e2.symm)
theorem qt {M:Model} {A:Around} {E:Value->Shared->Prop} {i:Nat} {x:Str} {v:V} {u:Value} {Q:Unit->Shared->Prop} (I:Inv X pins σ H s) (hN:X.N.Nodup) (hi:X.N[i]? = some x) (hx:Loc X.env.scope x) (r:RelV v u)
  (h:∀ s',Inv X pins (σ.set i (some v)) H s'->(∃ a,Heap.SameBut a s.heap s'.heap/\(a = X.env.locals\/X.env.cells.lookup x = some a))->Q () s') (hf:X.fn x = true\/X.env.scope.names.lookup x = some .local:=by first | exact .inl rfl | exact .inr rfl | assumption):wpAny M A (storeName X.env x u) Q E s:=by
 obtain ⟨m,hn,hl⟩:=id I.loc;have Pb:(X.env.scope.kind == .class || (X.env.scope.kind == .module && X.env.locals != X.env.globals)) = false:=by rw [I.ok.kind]; rfl
 have hiσ : i < σ.length:=by rw [I.len]; exact (List.getElem?_eq_some_iff.mp hi).1
 have Ht:=I.Ht;have tracked:∀ {a:Addr} {h':Heap},(∃ o,s.heap.get? a = some o/\H a = none)->Heap.SameBut a s.heap h'->jd X.prog X.w H h':=fun {a h'} ha hs b ob e=>by
  obtain ⟨_,_,yG⟩:=ha;refine (I.bF b ob e).iZ (fun c w' hc q=>(hs.2 c ?_).trans q) (fun _ q=>q) fun _ _ q=>q;rintro rfl;rcases hc with rfl | hc
  ·rw [yG] at e; cases e
  ·rw [yG] at hc; cases hc
 rcases hx with hk | hk
 ·refine wpAny_storeName_local hk hn (fun h' Mu hs=>?_) Pb;obtain ⟨oL,_,_,VA,_⟩:=id hn;refine h _ ⟨I.ok,I.os,I.bare,⟨fun b o e n hb hx=>?_,fun b o e n hb hx=>?_,I.base.free,fun b o e hx=>?_,I.base.rR,I.base.pY,I.base.rS⟩,⟨_,Mu,fun j y v' e1 e2 e3=>?_⟩,fun y c e=>?_,I.free,I.fm,fun p hp=>?_,tracked ⟨oL,VA,I.free⟩ hs,by simpa using I.len⟩ ⟨_,hs,.inl rfl⟩
  ·exact (hs.2 b (Nat.ne_of_lt (Nat.lt_of_lt_of_le (Heap.lt_size e) I.ok.above))).trans (I.base.keep b o e n hb hx)
  ·obtain ⟨sl,e1⟩:=I.base.slot b o e n hb hx;exact ⟨sl,(hs.2 b (Nat.ne_of_lt (Nat.lt_of_lt_of_le (Heap.lt_size e) I.ok.above))).trans e1⟩
  ·obtain ⟨o',e1⟩:=I.base.there b o e hx;exact ⟨o',(hs.2 b (Nat.ne_of_lt (Nat.lt_of_lt_of_le (Heap.lt_size e) I.ok.above))).trans e1⟩
  ·by_cases hj:j = i
   ·subst hj;rw [hi] at e1; cases e1;rw [getElem?_set_self hiσ] at e2;cases e2
    exact ⟨u,r,.inl ⟨hk,by simp⟩⟩
   ·rw [getElem?_set_ne (Ne.symm hj)] at e2;obtain ⟨u',r',q⟩:=hl j y v' e1 e2 e3;refine ⟨u',r',?_⟩;rcases q with ⟨k,e⟩ | ⟨k,c,e,z⟩
    ·refine .inl ⟨k,?_⟩;have:y≠x:=fun e=>hj (uW hN e1 (e▸hi));simp [this,e]
    ·exact .inr ⟨k,c,e,z.sameBut hs (Ht y c e)⟩
  ·obtain ⟨w',z⟩:=I.cell y c e;exact ⟨w',z.sameBut hs (Ht y c e)⟩
  ·obtain ⟨e,n,ne,nf,d⟩:=I.pin p hp;exact ⟨(hs.2 p.1 ne).trans e,n,ne,nf,d⟩
 ·have O5:X.fn x = true:=by
   rcases hf with z | z
   ·exact z
   ·rw [z] at hk; cases hk
  obtain ⟨c,hc⟩:=I.ok.has x (.inl hk);obtain ⟨w',z⟩:=I.cell x c hc;refine wpAny_storeName_cell I.ok.kind hk hc z (fun h' yI hs=>?_);obtain ⟨oc,RX,OM⟩:=id z;refine h { s with heap:=h' } ⟨I.ok,I.os,I.bare,⟨fun b o e n hb hx=>?_,fun b o e n hb hx=>?_,I.base.free,fun b o e hx=>?_,I.base.rR,I.base.pY,I.base.rS⟩,⟨m,hn.sameBut hs (Ne.symm (Ht x c hc)),fun j y v' e1 e2 e3=>?_⟩,fun y c' e=>?_,I.free,I.fm,fun p hp=>?_,tracked ⟨oc,RX,I.fm x c hc⟩ hs,by simpa using I.len⟩ ⟨c,hs,.inr hc⟩
  ·exact (hs.2 b (Nat.ne_of_lt (Nat.lt_of_lt_of_le (Heap.lt_size e) (I.ok.FE x c O5 hc)))).trans (I.base.keep b o e n hb hx)
  ·obtain ⟨sl,e1⟩:=I.base.slot b o e n hb hx;exact ⟨sl,(hs.2 b (Nat.ne_of_lt (Nat.lt_of_lt_of_le (Heap.lt_size e) (I.ok.FE x c O5 hc)))).trans e1⟩
  ·obtain ⟨o',e1⟩:=I.base.there b o e hx;exact ⟨o',(hs.2 b (Nat.ne_of_lt (Nat.lt_of_lt_of_le (Heap.lt_size e) (I.ok.FE x c O5 hc)))).trans e1⟩
  ·by_cases hj:j = i
   ·subst hj;rw [hi] at e1; cases e1;rw [getElem?_set_self hiσ] at e2;cases e2
    exact ⟨u,r,.inr ⟨.inl hk,c,hc,yI⟩⟩
   ·rw [getElem?_set_ne (Ne.symm hj)] at e2;obtain ⟨u',r',q⟩:=hl j y v' e1 e2 e3;refine ⟨u',r',?_⟩;rcases q with q | ⟨k,c',e,z'⟩
    ·exact .inl q
    ·refine .inr ⟨k,c',e,z'.sameBut hs ?_⟩;rintro rfl;exact hj (uW hN e1 (I.ok.inj _ _ _ e hc▸hi))
  ·by_cases Kz:c' = c
   ·subst Kz; exact ⟨_,yI⟩
   ·obtain ⟨w2,z2⟩:=I.cell y c' e;exact ⟨w2,z2.sameBut hs Kz⟩
  ·obtain ⟨e,n,ne,nf,d⟩:=I.pin p hp;refine ⟨(hs.2 p.1 ?_).trans e,n,ne,nf,d⟩;intro q;rw [q,RX] at e;have q':oc = p.2:=Option.some.inj e;exact d w' (by rw [<- q']; exact OM)
theorem jF {M:Model} {A:Around} {E:Value->Shared->Prop} {i:Nat} {x:Str} {v:V} {u:Value} {Q:Unit->Shared->Prop} (I:Inv X pins σ H s) (hN:X.N.Nodup) (hi:X.N[i]? = some x) (hx:Loc X.env.scope x) (r:RelV v u)
  (h:∀ s',Inv X pins (σ.set i (some v)) H s'->Q () s') (hf:X.fn x = true\/X.env.scope.names.lookup x = some .local:=by first | exact .inl rfl | exact .inr rfl | assumption):wpAny M A (storeName X.env x u) Q E s:=
 qt I hN hi hx r (fun s' I' _=>h s' I') hf
theorem Inv.FD {s':Shared} {ch:List Addr} (I:Inv X pins σ H s) (ho:s'.os = s.os) (u:Un (jb X.stack) ch H H' s.heap s'.heap) (bF:jd X.prog X.w H' s'.heap) (hg:AllBare s'.gens)
  (CQ:∀ b∈ch,(b∈X.ex\/X.s₀.heap.objs.size<=b)/\b≠X.env.locals/\(∀ x c,X.env.cells.lookup x = some c->c≠b)/\∀ p∈X.pn ++ pins,p.1≠b):Inv X pins σ H' s':=by
 obtain ⟨h',g',d',t',o'⟩:=s';have e:o' = s.os:=ho;subst e;exact I.call (g':=g') (t':=t') (d':=d') u bF hg CQ
end
abbrev XK:=Value->Option Addr->Hp->Prop
abbrev St:=List (Option V)
abbrev VK:=V->Hp->Prop
abbrev TE:=St->Hp->VK->Prop
abbrev TT:=St->Hp->(Bool->Hp->Prop)->Prop
abbrev TA:=St->Hp->(List V->Hp->Prop)->Prop
structure Ends where
 nx:St->Hp->Prop
 rt:VK
 bk:St->Hp->Prop:=fun _ _=>False
 ct:St->Hp->Prop:=fun _ _=>False
abbrev TS:=Ends->St->Hp->Prop
def EP (X:Cx) (pins:List (Addr×Obj)) (σ : St) (Q:VK) (u:Value) (s':Shared):Prop:=∃ v H',Inv X pins σ H' s'/\RelV v u/\Q v H'
def TP (X:Cx) (pins:List (Addr×Obj)) (σ : St) (Q:Bool->Hp->Prop) (b:Bool) (s':Shared):Prop:=∃ H',Inv X pins σ H' s'/\Q b H'
def AP (X:Cx) (pins:List (Addr×Obj)) (σ : St) (Q:List V->Hp->Prop) (us:List Value) (s':Shared):Prop:=∃ vs H',Inv X pins σ H' s'/\Vals vs us/\Q vs H'
def SP (X:Cx) (pins:List (Addr×Obj)) (D:Ends) (f:Flow) (s':Shared):Prop:=
 match f with
 | .next=>∃ σ' H',Inv X pins σ' H' s'/\D.nx σ' H'
 | .brk=>∃ σ' H',Inv X pins σ' H' s'/\D.bk σ' H'
 | .cont=>∃ σ' H',Inv X pins σ' H' s'/\D.ct σ' H'
 | .ret u=>∃ v σ' H',Inv X pins σ' H' s'/\RelV v u/\D.rt v H'
def PE (X:Cx) (e:Expr) (t:TE):Prop:=
 ∀ (pins:List (Addr×Obj)) (s:Shared) (σ : St) (H:Hp) (Q:VK),Inv X pins σ H s->t σ H Q->wpAny (model X.prog X.w) X.A (eval e X.env) (EP X pins σ Q) X.xe s
def PT (X:Cx) (e:Expr) (t:TT):Prop:=
 ∀ (pins:List (Addr×Obj)) (s:Shared) (σ : St) (H:Hp) (Q:Bool->Hp->Prop),Inv X pins σ H s->t σ H Q->wpAny (model X.prog X.w) X.A (isTrue e X.env (eval e X.env)) (TP X pins σ Q) X.xe s
def PW (X:Cx) (e:Expr) (t:TT):Prop:=
 ∀ (whole:Sem Value) (pins:List (Addr×Obj)) (s:Shared) (σ : St) (H:Hp) (Q:Bool->Hp->Prop),Inv X pins σ H s->t σ H Q->wpAny (model X.prog X.w) X.A (isTrue e X.env whole) (TP X pins σ Q) X.xe s
theorem PW.pt {X:Cx} {e:Expr} {t:TT} (h:PW X e t):PT X e t:=h _
def PA (X:Cx) (es:List Expr) (t:TA):Prop:=
 ∀ (pos:Pos) (pins:List (Addr×Obj)) (s:Shared) (σ : St) (H:Hp) (Q:List V->Hp->Prop),Inv X pins σ H s->t σ H Q->wpAny (model X.prog X.w) X.A (spliced (backTo pos (starEach es X.env))) (AP X pins σ Q) X.xe s
def PS (X:Cx) (st:Stmt) (t:TS):Prop:=
 ∀ (pins:List (Addr×Obj)) (s:Shared) (σ : St) (H:Hp) (D:Ends),Inv X pins σ H s->t D σ H->wpAny (model X.prog X.w) X.A (exec st X.env) (SP X pins D) X.xe s
def pj (X:Cx) (st:List Stmt) (t:TS):Prop:=
 ∀ (pins:List (Addr×Obj)) (s:Shared) (σ : St) (H:Hp) (D:Ends),Inv X pins σ H s->t D σ H->wpAny (model X.prog X.w) X.A (execs st X.env) (SP X pins D) X.xe s
theorem cF {α : Type} {t:Sem α} {Q Q' : α->Shared->Prop} {M:Model} {A:Around} {E:Value->Shared->Prop} {s:Shared} (h:wpAny M A t Q E s) (hQ:∀ a s,Q a s->Q' a s):wpAny M A t Q' E s:=wpAny_mono h hQ fun _ _ x=>x
section
variable {X:Cx}
theorem bin {a b:Expr} {ta tb:TE} (ha:PE X a ta) (hb:PE X b tb) {pins:List (Addr×Obj)} {s:Shared} {σ : St} {H:Hp} {R:V->V->Hp->Prop} (I:Inv X pins σ H s) (h:ta σ H fun x H1=>tb σ H1 fun y H2=>R x y H2)
  {α : Type} {Q : α->Shared->Prop} {f:Value->Value->Sem α}
  (hf:∀ v u s2 x y H2,Inv X pins σ H2 s2->RelV x v->RelV y u->R x y H2->wpAny (model X.prog X.w) X.A (f v u) Q X.xe s2) :
  wpAny (model X.prog X.w) X.A (eval a X.env) (fun v s₁=>wpAny (model X.prog X.w) X.A (eval b X.env) (fun u s₂=>wpAny (model X.prog X.w) X.A (f v u) Q X.xe s₂) X.xe s₁) X.xe s:=by
 refine cF (ha pins s σ H _ I h) fun v s1 ⟨x,H1,I1,r1,q1⟩=>?_;refine cF (hb pins s1 σ H1 _ I1 q1) fun u s2 ⟨y,H2,I2,r2,q2⟩=>?_;exact hf v u s2 x y H2 I2 r1 r2 q2
def gP (i:Nat):TE:=fun σ H Q=>∃ v,σ[i]? = some (some v)/\Q v H
def tC (v:V):TE:=fun _ H Q=>Q v H
theorem Gw {i:Nat} {x:Str} {pos:Pos} (hN:X.N[i]? = some x) (hv:MO X.env.scope x) (hd:(x == ("__debug__" : Str)) = false:=by decide) (tE:(x == ("__classdict__" : Str)) = false:=by decide):PE X (.Name x pos) (gP i):=by
 intro pins s σ H Q I h;obtain ⟨v,e,h⟩:=h;obtain ⟨m,hn,hl⟩:=I.loc;obtain ⟨u,r,l⟩:=hl i x v hN e hv;have fin:EP X pins σ Q u s:=⟨v,H,I,r,h⟩;rcases l with ⟨hk,hm⟩ | ⟨hk,c,hc,Fv⟩
 ·exact wpAny_Name (wpAny_loadName_local I.ok.kind hk hn hm fin) hd
 ·rcases hk with hk | hk
  ·exact wpAny_Name (wpAny_loadName_cell I.ok.kind hk hc Fv fin) hd
  ·exact wpAny_Name (wpAny_loadName_free I.ok.kind hk hc Fv fin tE) hd
theorem ai {i j pos}:PE X (.Constant (.int i) j pos) (tC (.int i)):=fun _ _ _ H _ I h=>wpAny_Constant_int ⟨.int i,H,I.tok _,⟨_,rfl⟩,h⟩
theorem cA {b j pos}:PE X (.Constant (.bool b) j pos) (tC (.bl b)):=fun _ _ _ H _ I h=>Constant_bool ⟨.bl b,H,I,rfl,h⟩
theorem Bp {j pos}:PE X (.Constant .none j pos) (tC .bQ):=fun _ _ _ H _ I h=>Constant_none ⟨.bQ,H,I,rfl,h⟩
theorem js {x j pos}:PE X (.Constant (.str x) j pos) (tC (.str x)):=fun _ _ _ H _ I h=>Calls.Constant_str ⟨.str x,H,I.tok _,⟨_,rfl⟩,h⟩
def Gl (X:Cx) (x:Str):Prop:=X.env.kindOf x = some .globalImplicit
theorem mQ {E:Value->Shared->Prop} {pins:List (Addr×Obj)} {s:Shared} {σ : St} {H:Hp} {x:Str} {u:Value} {pos:Pos} {Q:Value->Shared->Prop} (I:Inv X pins σ H s) (hg:Gl X x) (hm:X.mg x = some u) (h:Q u s)
  (hd:(x == ("__debug__" : Str)) = false:=by decide):wpAny (model X.prog X.w) X.A (eval (.Name x pos) X.env) Q E s:=
 Calls.Name_function_global I.ok.kind hg (Calls.loadGlobal_global (by rw [I.ok.glob]; exact I.mod.glob.keeps I.bk) hm h) hd
theorem iH {E:Value->Shared->Prop} {pins:List (Addr×Obj)} {s:Shared} {σ : St} {H:Hp} {x:Str} {u:Value} {pos:Pos} {Q:Value->Shared->Prop} (I:Inv X pins σ H s) (hg:Gl X x) (hm:X.mg x = none) (hv:bootBuiltins x = some u) (h:Q u s)
  (hn:x≠ "__name__":=by decide) (hd:(x == ("__debug__" : Str)) = false:=by decide):wpAny (model X.prog X.w) X.A (eval (.Name x pos) X.env) Q E s:=by
 obtain ⟨mb,h1,h2⟩:=I.mod.blt;exact Calls.Name_function_global I.ok.kind hg (Calls.loadGlobal_builtin (by rw [I.ok.glob]; exact I.mod.glob.keeps I.bk) hm (by rw [I.ok.blt]; exact h1.keeps I.bk) ((h2 x hn).trans hv) h) hd
theorem yt {x:Str} {v:V} {u:Value} {pos:Pos} (hg:Gl X x) (hm:X.mg x = none) (hv:bootBuiltins x = some u) (r:RelV v u) (hn:x≠ "__name__":=by decide) (hd:(x == ("__debug__" : Str)) = false:=by decide):PE X (.Name x pos) (tC v):=
 fun _ _ _ H _ I h=>iH I hg hm hv ⟨v,H,I,r,h⟩ hn hd
def LQ (ta tb:TE) (k:Int->Int->Hp->Prop):St->Hp->Prop:=fun σ H=>ta σ H fun x H1=>tb σ H1 fun y H2=>∃ i j,x = .int i/\y = .int j/\k i j H2
def Tu (ta tb:TE):TE:=fun σ H Q=>LQ ta tb (fun i j H2=>Q (.int (i + j)) H2) σ H
def Th (ta tb:TE):TE:=fun σ H Q=>LQ ta tb (fun i j H2=>Q (.int (i - j)) H2) σ H
def Tn (ta tb:TE):TE:=fun σ H Q=>LQ ta tb (fun i j H2=>(-(2 ^ 64) < i/\i < 2 ^ 64)/\Q (.int (i * j)) H2) σ H
variable {a b:Expr} {ta tb:TE} {pos:Pos}
def PC (X:Cx) (op:CmpOp) (a b:Expr) (t:TE):Prop:=
 ∀ (pins:List (Addr×Obj)) (s:Shared) (σ : St) (H:Hp) (Q:VK),Inv X pins σ H s->t σ H Q->
  wpAny (model X.prog X.w) X.A (eval a X.env) (fun v s₁=>wpAny (model X.prog X.w) X.A (eval b X.env) (fun u s₂=>wpAny (model X.prog X.w) X.A (compareOp op v u) (EP X pins σ Q) X.xe s₂) X.xe s₁) X.xe s
theorem uX (b:Expr) {op:CmpOp} (h:op≠.In) (h2:op≠.NotIn):behindInMarks op b = false:=by
 have e1:(op == CmpOp.In) = false:=by cases op <;> first | rfl | exact absurd rfl h
 have e2:(op == CmpOp.NotIn) = false:=by cases op <;> first | rfl | exact absurd rfl h2
 cases b <;> simp [behindInMarks,e1,e2]
def zp (p:Int->Int->Bool) (ta tb:TE):TE:=fun σ H Q=>LQ ta tb (fun i j H2=>Q (.bl (p i j)) H2) σ H
abbrev Xa:TE->TE->TE:=zp fun i j=>decide (i < j)
abbrev Xb:TE->TE->TE:=zp fun i j=>decide (i<=j)
abbrev Xd:TE->TE->TE:=zp fun i j=>decide (j < i)
abbrev Xe:TE->TE->TE:=zp fun i j=>decide (j<=i)
abbrev Tq:TE->TE->TE:=zp fun i j=>decide (i = j)
abbrev Tj:TE->TE->TE:=zp fun i j=>!decide (i = j)
def IL (ta:TE):TE:=fun σ H Q=>ta σ H fun x H1=>Q (.bl (decide (x = .bQ))) H1
def EY (ta:TE):TE:=fun σ H Q=>ta σ H fun x H1=>Q (.bl (!decide (x = .bQ))) H1
theorem RelV.uU {x:V} {v:Value} (r:RelV x v):(v == Value.none) = decide (x = .bQ):=by
 cases x with
 | bQ=>cases r; rfl
 | bl _=>cases r; rfl
 | int _=>obtain ⟨t,rfl⟩:=r; rfl
 | str _=>obtain ⟨t,rfl⟩:=r; rfl
 | wq _=>obtain ⟨t,rfl⟩:=r; rfl
 | AG _=>obtain ⟨t,rfl⟩:=r; rfl
 | ref _=>cases r; rfl
 | ty _=>cases r; rfl
theorem Gz {j pos'} (ha:PE X a ta):PC X .Is a (.Constant .none j pos') (IL ta):=by
 intro pins s σ H Q I h;refine cF (ha pins s σ H _ I h) fun v s1 ⟨x,H1,I1,r1,q1⟩=>?_;exact Constant_none (is_none_gen ⟨.bl _,H1,I1,by rw [r1.uU]; rfl,q1⟩)
theorem DP {j pos'} (ha:PE X a ta):PC X .IsNot a (.Constant .none j pos') (EY ta):=by
 intro pins s σ H Q I h;refine cF (ha pins s σ H _ I h) fun v s1 ⟨x,H1,I1,r1,q1⟩=>?_;exact Constant_none (isnot_none_gen ⟨.bl _,H1,I1,by rw [r1.uU]; rfl,q1⟩)
def tB (t:TE):TT:=fun σ H Q=>t σ H fun x H1=>∃ c,x = .bl c/\Q c H1
theorem Gy {op:CmpOp} {t:TE} (h:PC X op a b t) (h1:behindInMarks op b = false:=by first | exact uX _ (by decide) (by decide) | rfl):PE X (.Compare a [op] [b] pos) t:=fun pins s σ H Q I hw=>wpAny_Compare1 (h pins s σ H Q I hw) h1
theorem sF {op:CmpOp} {t:TE} (h:PC X op a b t) (h1:behindInMarks op b = false:=by first | exact uX _ (by decide) (by decide) | rfl):PT X (.Compare a [op] [b] pos) (tB t):=by
 intro pins s σ H Q I hw;refine wpAny_isTrue_Compare1 (cF (h pins s σ H _ I hw) fun v s1 h1=>cF h1 fun u s2 h2=>cF h2 fun c s3 ⟨x,H1,I1,r1,q1⟩=>?_) h1;obtain ⟨d,rfl,q⟩:=q1;cases r1
 exact wpAny_truthy_bool ⟨H1,I1,q⟩
theorem eC {e:Expr} {t:TE} (h:PE X e t) (he:∀ whole,isTrue e X.env whole = (do let v <- whole; standAt e.pos; holding [v] (truthy v)):=by intro _; rfl):PT X e (tB t):=by
 intro pins s σ H Q I hw;refine isTrue_plain (cF (h pins s σ H _ I hw) fun v s1 ⟨x,H1,I1,r1,q1⟩=>?_) (he _);obtain ⟨d,rfl,q⟩:=q1;cases r1
 exact wpAny_truthy_bool ⟨H1,I1,q⟩
variable {tA LP:TT} {rest:List Expr}
def IS (t u:TT):TT:=fun σ H Q=>t σ H fun c H1=>if c = true then u σ H1 Q else Q false H1
def QI (t u:TT):TT:=fun σ H Q=>t σ H fun c H1=>if c = true then Q true H1 else u σ H1 Q
def II (t:TT):TT:=fun σ H Q=>t σ H fun c H1=>Q (!c) H1
theorem pw_and1 (ha:PT X a tA):PW X (.BoolOp .And [a] pos) tA:=by
 intro wh pins s σ H Q I h;refine isTrue_and (cF (ha pins s σ H Q I h) fun c s1 e=>?_);cases c with
 | true=>exact isTrue_and_nil e
 | false=>exact e
theorem pw_or1 (ha:PT X a tA):PW X (.BoolOp .Or [a] pos) tA:=by
 intro wh pins s σ H Q I h;refine isTrue_or (cF (ha pins s σ H Q I h) fun c s1 e=>?_);cases c with
 | false=>exact isTrue_or_nil e
 | true=>exact e
theorem pw_and (ha:PT X a tA) (hb:PW X (.BoolOp .And (b :: rest) pos) LP):PW X (.BoolOp .And (a :: b :: rest) pos) (IS tA LP):=by
 intro wh pins s σ H Q I h;refine isTrue_and (cF (ha pins s σ H _ I h) fun c s1 ⟨H1,I1,q1⟩=>?_);cases c with
 | true=>exact hb wh pins s1 σ H1 Q I1 q1
 | false=>exact ⟨H1,I1,q1⟩
theorem pw_or (ha:PT X a tA) (hb:PW X (.BoolOp .Or (b :: rest) pos) LP):PW X (.BoolOp .Or (a :: b :: rest) pos) (QI tA LP):=by
 intro wh pins s σ H Q I h;refine isTrue_or (cF (ha pins s σ H _ I h) fun c s1 ⟨H1,I1,q1⟩=>?_);cases c with
 | true=>exact ⟨H1,I1,q1⟩
 | false=>exact hb wh pins s1 σ H1 Q I1 q1
theorem eZ (ha:PT X a tA):PT X (.UnaryOp .Not a pos) (II tA):=by
 intro pins s σ H Q I h;exact isTrue_not (ha pins s σ H (fun c H1=>Q (!c) H1) I h)
def QO (ta tb:TE):TE:=fun σ H Q=>ta σ H fun x H1=>∃ c,x = .bl c/\if c = true then tb σ H1 Q else Q (.bl false) H1
def IH (ta tb:TE):TE:=fun σ H Q=>ta σ H fun x H1=>∃ c,x = .bl c/\if c = true then Q (.bl true) H1 else tb σ H1 Q
def QJ (ta:TE):TE:=fun σ H Q=>ta σ H fun x H1=>∃ c,x = .bl c/\Q (.bl (!c)) H1
theorem Gx {op} {t:TE} (h:PE X a t):PE X (.BoolOp op [a] pos) t:=fun pins s σ H Q I hw=>BoolOp_one (h pins s σ H Q I hw)
theorem Jy (ha:PE X a ta) (hb:PE X (.BoolOp .Or (b :: rest) pos) tb):PE X (.BoolOp .Or (a :: b :: rest) pos) (IH ta tb):=by
 intro pins s σ H Q I h;refine BoolOp_or (cF (ha pins s σ H _ I h) fun v s1 ⟨x,H1,I1,r1,q1⟩=>?_);obtain ⟨c,rfl,q1⟩:=q1;cases r1
 refine wpAny_truthy_bool ?_;cases c with
 | false=>exact hb pins s1 σ H1 Q I1 q1
 | true=>exact ⟨.bl true,H1,I1,rfl,q1⟩
def Xc (t:TT) (ta tb:TE):TE:=fun σ H Q=>t σ H fun c H1=>if c = true then ta σ H1 Q else tb σ H1 Q
end
def aw (K:PySem.W.Frag) (H:Hp) (a:Addr) (xs:List V):Prop:=
 Rd H a (.lst xs)\/
  ∃ (o:Obj) (aO:Array Value) (n:Nat),K.lookup a = some o/\o.cls = .type "list"/\o.dict = none/\o.data = .seq aO n/\aO.size<=sizeLine/\Vals xs aO.toList
def SqT (K:PySem.W.Frag) (H:Hp) (a:Addr) (xs:List V):Prop:=
 Rd H a (.tup xs)\/
  ∃ (o:Obj) (aO:Array Value) (n:Nat),K.lookup a = some o/\o.cls = .type "tuple"/\o.data = .seq aO n/\aO.size<=sizeLine/\Vals xs aO.toList
def P9:Value->Option V
 | .none=>some .bQ
 | .bool b=>some (.bl b)
 | .int i _=>some (.int i)
 | .str x _=>some (.str x)
 | .bytes b _=>some (.wq b)
 | .float b _=>some (.AG b)
 | .ref a=>some (.ref a)
 | .type n=>some (.ty n)
 | _=>none
theorem RelV.abs {x:V} {u:Value} (r:RelV x u):P9 u = some x:=by
 cases x with
 | bQ=>cases r; rfl
 | bl _=>cases r; rfl
 | int _=>obtain ⟨t,rfl⟩:=r; rfl
 | str _=>obtain ⟨t,rfl⟩:=r; rfl
 | wq _=>obtain ⟨t,rfl⟩:=r; rfl
 | AG _=>obtain ⟨t,rfl⟩:=r; rfl
 | ref _=>cases r; rfl
 | ty _=>cases r; rfl
theorem RelV.inj {x y:V} {u:Value} (r:RelV x u) (q:RelV y u):x = y:=Option.some.inj (r.abs.symm.trans q.abs)
theorem Vals.inj:∀ {xs ys:List V} {us:List Value},Vals xs us->Vals ys us->xs = ys
 | _,_,_,.nil,.nil=>rfl
 | _,_,_,.cons r t,.cons r' t'=>by rw [r.inj r',Vals.inj t t']
section
variable {X:Cx} {pins:List (Addr×Obj)} {σ : St} {H:Hp} {s:Shared} {a:Addr} {xs ys:List V}
theorem aw.of {K:PySem.W.Frag} (h:H a = some (.lst xs)):aw K H a xs:=.inl (.inl h)
theorem SqT.of {K:PySem.W.Frag} (h:H a = some (.tup xs)):SqT K H a xs:=.inl (.inl h)
theorem Inv.list (I:Inv X pins σ H s) (h:aw X.K H a xs):∃ aO:List Value,Vals xs aO/\PlainL s.heap a aO.toArray/\xs.length<=sizeLine:=by
 rcases h with h | ⟨o,aO,n,hk,hc,hd,hs,hz,r⟩
 ·obtain ⟨z,aO,n,r,e⟩:=h.ok I.bF;exact ⟨aO,r,⟨_,n,e,rfl,rfl,rfl⟩,z⟩
 ·refine ⟨aO.toList,r,⟨o,n,I.lO a o hk,hc,hd,by simpa using hs⟩,?_⟩;have e:=r.length;simp only [Array.length_toList] at e;omega
theorem Inv.tuple (I:Inv X pins σ H s) (h:SqT X.K H a xs):∃ aO:List Value,Vals xs aO/\IsTup s.heap a aO.toArray/\xs.length<=sizeLine:=by
 rcases h with h | ⟨o,aO,n,hk,hc,hs,hz,r⟩
 ·obtain ⟨z,aO,r,p⟩:=h.ok I.bF;exact ⟨aO,r,p,z⟩
 ·refine ⟨aO.toList,r,⟨o,I.lO a o hk,hc,n,by simpa using hs⟩,?_⟩;have e:=r.length;simp only [Array.length_toList] at e;omega
theorem Inv.jZ (I:Inv X pins σ H s) (h:aw X.K H a xs) (h':aw X.K H a ys):xs = ys:=by
 obtain ⟨aO,r,⟨o,n,e,_,_,d⟩,_⟩:=I.list h;obtain ⟨its',r',⟨o',n',e',_,_,d'⟩,_⟩:=I.list h';rw [e] at e'; cases e';rw [d] at d';injection d' with d1 _;have:aO = its':=by simpa using congrArg Array.toList d1
 subst this;exact r.inj r'
end
abbrev Cx.pI (X:Cx) (E:Value->Shared->Prop):Cx:={ X with xe:=E }
abbrev Cx.Bz (X:Cx):Cx:=X.pI fun _ _=>False
theorem Cx.Ok.pI {X:Cx} (ok:X.Ok) (E:Value->Shared->Prop):(X.pI E).Ok:=
 ⟨ok.mod,ok.kind,ok.glob,ok.blt,ok.above,ok.inj,ok.has,ok.FE,ok.hd,ok.frames,ok.wa,ok.K2,ok.bs,ok.Cw,ok.uV,ok.xr,ok.ja,ok.CU⟩
theorem Cx.Ok.gX {X:Cx} {E:Value->Shared->Prop} (ok:(X.pI E).Ok):X.Ok:=
 ⟨ok.mod,ok.kind,ok.glob,ok.blt,ok.above,ok.inj,ok.has,ok.FE,ok.hd,ok.frames,ok.wa,ok.K2,ok.bs,ok.Cw,ok.uV,ok.xr,ok.ja,ok.CU⟩
section
variable {X:Cx} {pins:List (Addr×Obj)} {σ : St} {H:Hp} {s:Shared} {E:Value->Shared->Prop}
theorem Inv.pI (I:Inv X pins σ H s) (E:Value->Shared->Prop):Inv (X.pI E) pins σ H s:=⟨I.ok.pI E,I.os,I.bare,I.base,I.loc,I.cell,I.free,I.fm,I.pin,I.bF,I.len⟩
theorem Inv.gX (I:Inv (X.pI E) pins σ H s):Inv X pins σ H s:=⟨I.ok.gX,I.os,I.bare,I.base,I.loc,I.cell,I.free,I.fm,I.pin,I.bF,I.len⟩
theorem SP.gX {D:Ends} {f:Flow} {s':Shared} (h:SP (X.pI E) pins D f s'):SP X pins D f s':=by
 cases f with
 | next=>obtain ⟨σ',H',I,q⟩:=h; exact ⟨σ',H',I.gX,q⟩
 | brk=>obtain ⟨σ',H',I,q⟩:=h; exact ⟨σ',H',I.gX,q⟩
 | cont=>obtain ⟨σ',H',I,q⟩:=h; exact ⟨σ',H',I.gX,q⟩
 | ret u=>obtain ⟨v,σ',H',I,r,q⟩:=h; exact ⟨v,σ',H',I.gX,r,q⟩
theorem pj.Bz {st:List Stmt} {t:TS} (h:pj X.Bz st t):pj X st t:=fun pins s σ H D I hw=>
 wpAny_mono (h pins s σ H D (I.pI _) hw) (fun _ _ q=>q.gX) fun _ _ z=>False.elim z
end
section
variable {X:Cx} {st:Stmt} {rest:List Stmt} {t u:TS} {e:Expr} {te:TE} {pos:Pos}
def EZ:TS:=fun D σ H=>D.nx σ H
def FT (t u:TS):TS:=fun D σ H=>t { D with nx:=u D } σ H
theorem aK:pj X [] EZ:=fun _ _ σ H _ I h=>wpAny_execs_nil ⟨σ,H,I,h⟩
theorem ag (h1:PS X st t) (h2:pj X rest u):pj X (st :: rest) (FT t u):=by
 intro pins s σ H D I h;refine wpAny_execs_cons (cF (h1 pins s σ H { D with nx:=u D } I h) fun f s1 q=>?_);cases f with
 | next=>
  obtain ⟨σ',H',I',q⟩:=q;exact h2 pins s1 σ' H' D I' q
 | ret v=>exact q
 | brk=>exact q
 | cont=>exact q
theorem aj (h1:PS X st t):pj X [st] t:=by
 intro pins s σ H D I h;refine wpAny_execs_cons (cF (h1 pins s σ H D I h) fun f s1 q=>?_);cases f with
 | next=>exact wpAny_execs_nil q
 | ret v=>exact q
 | brk=>exact q
 | cont=>exact q
def Np:TS:=fun D σ H=>D.bk σ H
def QL:TS:=fun D σ H=>D.ct σ H
theorem Inv.quiet {pins:List (Addr×Obj)} {σ : St} {H:Hp} {s:Shared} (I:Inv X pins σ H s):interactive X.env = false:=by simp [interactive,I.ok.kind]
def E1 (te:TE):TS:=fun D σ H=>te σ H fun _ H1=>D.nx σ H1
theorem aU (he:PE X e te) (hs:swapsWith e none pos.line X.env = pure false:=by rfl):PS X (.Expr e pos) (E1 te):=by
 intro pins s σ H D I h;exact wpAny_Expr_any (cF (he pins s σ H _ I h) fun v s1 ⟨x,H1,I1,r1,q1⟩=>⟨σ,H1,I1,q1⟩) I.quiet hs
def Df (te:TE):TS:=fun D σ H=>te σ H D.rt
theorem aP (he:PE X e te):PS X (.Return (some e) pos) (Df te):=by
 intro pins s σ H D I h;exact wpAny_Return_some (cF (he pins s σ H _ I h) fun v s1 ⟨x,H1,I1,r1,q1⟩=>⟨x,σ,H1,I1,r1,q1⟩)
def QH:TS:=fun D _ H=>D.rt .bQ H
def FV (c:TT) (t u:TS):TS:=fun D σ H=>c σ H fun b H1=>if b = true then t D σ H1 else u D σ H1
theorem aZ {c:Expr} {a b:List Stmt} {tc:TT} (hc:PT X c tc) (ha:pj X a t) (hb:pj X b u):PS X (.If c a b pos) (FV tc t u):=by
 intro pins s σ H D I h;refine wpAny_If (cF (hc pins s σ H _ I h) fun d s1 ⟨H1,I1,q1⟩=>?_);cases d with
 | true=>exact ha pins s1 σ H1 D I1 q1
 | false=>exact hb pins s1 σ H1 D I1 q1
def FU:TS:=fun _ _ _=>False
theorem Bk:PS X st FU:=fun _ _ _ _ _ _ h=>h.elim
end
abbrev TG:=V->St->Hp->(St->Hp->Prop)->Prop
abbrev CZ:=List V->St->Hp->(St->Hp->Prop)->Prop
def PG (X:Cx) (target:Expr) (t:TG):Prop:=
 ∀ (pins:List (Addr×Obj)) (s:Shared) (σ : St) (H:Hp) (v:V) (u:Value) (Q:St->Hp->Prop),Inv X pins σ H s->RelV v u->t v σ H Q->
  wpAny (model X.prog X.w) X.A (assign target X.env u) (fun _ s'=>∃ σ' H',Inv X pins σ' H' s'/\Q σ' H') X.xe s
def LA (X:Cx) (ts:List Expr) (t:CZ):Prop:=
 ∀ (pins:List (Addr×Obj)) (s:Shared) (σ : St) (H:Hp) (vs:List V) (us:List Value) (Q:St->Hp->Prop),Inv X pins σ H s->Vals vs us->t vs σ H Q->
  wpAny (model X.prog X.w) X.A (assignInOrder ((assignEach ts X.env).map (·.2)) us) (fun _ s'=>∃ σ' H',Inv X pins σ' H' s'/\Q σ' H') X.xe s
abbrev CC:=V->V->V->Hp->(Hp->Prop)->Prop
def Lz (X:Cx) (t:CC):Prop:=
 ∀ (pins:List (Addr×Obj)) (s:Shared) (σ : St) (H:Hp) (o i v:V) (ov iv u:Value) (Q:Hp->Prop),Inv X pins σ H s->RelV o ov->RelV i iv->RelV v u->t o i v H Q->
  wpAny (model X.prog X.w) X.A (setItem ov iv u) (fun _ s'=>∃ H',Inv X pins σ H' s'/\Q H') X.xe s
abbrev MP:=V->V->Hp->VK->Prop
def Ye (X:Cx) (op:Operator) (t:MP):Prop:=
 ∀ (pins:List (Addr×Obj)) (s:Shared) (σ : St) (H:Hp) (x y:V) (v u:Value) (Q:VK),Inv X pins σ H s->RelV x v->RelV y u->t x y H Q->
  wpAny (model X.prog X.w) X.A (inplaceOp op v u) (EP X pins σ Q) X.xe s
section
variable {X:Cx} {pos:Pos}
def lU (i:Nat):TG:=fun v σ H Q=>Q (σ.set i (some v)) H
theorem aN {i:Nat} {x:Str} (hN:X.N.Nodup) (hi:X.N[i]? = some x) (hx:Loc X.env.scope x) (hf:X.fn x = true\/X.env.scope.names.lookup x = some .local:=by first | exact .inl rfl | exact .inr rfl | assumption):PG X (.Name x pos) (lU i):=by
 intro pins s σ H v u Q I r h;exact wpAny_assign_Name (jF I hN hi hx r (fun s' I'=>⟨_,H,I',h⟩) hf)
def KN:CZ:=fun vs σ H Q=>vs = []/\Q σ H
def Fy (t:TG) (u:CZ):CZ:=fun vs σ H Q=>∃ v r,vs = v :: r/\t v σ H fun σ' H'=>u r σ' H' Q
theorem gm:LA X [] KN:=by
 intro pins s σ H vs us Q I r h;obtain ⟨e,h⟩:=h;subst e;cases r
 exact assignInOrder_nil ⟨σ,H,I,h⟩
theorem bW {e:Expr} {es:List Expr} {t:TG} {u:CZ} (h1:PG X e t) (h2:LA X es u)
  (hs:(assignEach (e :: es) X.env).map (·.2) = assign e X.env :: (assignEach es X.env).map (·.2):=by rfl):LA X (e :: es) (Fy t u):=by
 intro pins s σ H vs us Q I r h;obtain ⟨v,vr,e1,h⟩:=h;subst e1;cases r with
 | cons r rr=>
  rw [hs];refine assignInOrder_cons (cF (h1 pins s σ H _ _ _ I r h) fun _ s1 ⟨σ1,H1,I1,q1⟩=>?_);exact h2 pins s1 σ1 H1 _ _ Q I1 rr q1
def Hk (K:PySem.W.Frag) (n:Nat) (t:CZ):TG:=fun v σ H Q=>∃ a xs,v = .ref a/\SqT K H a xs/\xs.length = n/\t xs σ H Q
theorem kL {es:List Expr} {k:Nat} {t:CZ} {n:Nat} (hc:X.calm = true) (h:LA X es t)
  (hn:(assignEach es X.env).length = n:=by rfl) (BR:(assignEach es X.env).findIdx? (·.1) = none:=by rfl):PG X (.Tuple es k pos) (Hk X.K n t):=by
 intro pins s σ H v u Q I r hw;obtain ⟨a,xs,e1,hq,hl,hw⟩:=hw;subst e1;cases r
 obtain ⟨aO,rv,ht,hz⟩:=I.tuple hq;refine assign_Tuple_tuple (I.ok.hd hc) ht (by simp [hn,<- hl,rv.length]) BR fun h' hx=>?_;have I1:Inv X pins σ H { s with heap:=h' }:=I.kept (t':=s.toks) fun b o e=>hx b o (Nat.ne_of_lt (Heap.lt_size e)) e;exact h pins _ σ H xs _ Q I1 (by simpa using rv) hw
def KL (to ti:TE) (t:CC):TG:=fun v σ H Q=>to σ H fun o H1=>ti σ H1 fun i H2=>t o i v H2 fun H3=>Q σ H3
theorem kO {o i:Expr} {to ti:TE} {t:CC} (ho:PE X o to) (hi:PE X i ti) (hs:Lz X t)
  (ha:∀ v,assign (.Subscript o i pos) X.env v = (do
   let ov <- holding [v] (eval o X.env);let iv <- holding [v,ov] (eval i X.env)
   standAt pos
   holding [v,ov,iv] (setItem ov iv v)
   release [v,ov,iv] []):=by intro _; rfl):PG X (.Subscript o i pos) (KL to ti t):=by
 intro pins s σ H v u Q I r h;rw [ha];refine wpAny_bind (wpAny_holding (cF (ho pins s σ H _ I h) fun ov s1 ⟨x,H1,I1,r1,q1⟩=>?_));refine wpAny_bind (wpAny_holding (cF (hi pins s1 σ H1 _ I1 q1) fun iv s2 ⟨y,H2,I2,r2,q2⟩=>?_));refine wpAny_bind (wpAny_standAt (wpAny_bind (wpAny_holding (cF (hs pins s2 σ H2 x y v ov iv u _ I2 r1 r2 r q2) fun _ s3 ⟨H3,I3,q3⟩=>?_))));exact wpAny_release ⟨σ,H3,I3,q3⟩
def zq (te:TE) (g:TG):TS:=fun D σ H=>te σ H fun x H1=>g x σ H1 D.nx
theorem kH {tg e:Expr} {te:TE} {g:TG} (he:PE X e te) (hg:PG X tg g) (hs:swapsWithSole [tg] e pos.line X.env = pure false:=by rfl) (hw:swappedStores [tg] e X.env = pure none:=by rfl)
  (h1:(assignEach [tg] X.env).map (·.2) = [assign tg X.env]:=by rfl):PS X (.Assign [tg] e pos) (zq te g):=by
 intro pins s σ H D I h;refine wpAny_Assign_stores (cF (he pins s σ H _ I h) fun v s1 ⟨x,H1,I1,r1,q1⟩=>?_) hs hw;rw [h1];exact cF (hg pins s1 σ H1 x v _ I1 r1 q1) fun _ s2 q=>q
theorem az {i:Nat} {x:Str} {e:Expr} {te:TE} {pos':Pos} (hN:X.N.Nodup) (hi:X.N[i]? = some x) (hx:Loc X.env.scope x) (he:PE X e te) (hs:swapsWith e (some (.Name x pos')) pos.line X.env = pure false:=by rfl) (hf:X.fn x = true\/X.env.scope.names.lookup x = some .local:=by first | exact .inl rfl | exact .inr rfl | assumption) :
  PS X (.Assign [.Name x pos'] e pos) (zq te (lU i)):=by
 intro pins s σ H D I h;refine wpAny_Assign_Name (cF (he pins s σ H _ I h) fun v s1 ⟨y,H1,I1,r1,q1⟩=>?_) hs;exact jF I1 hN hi hx r1 (fun s2 I2=>⟨_,H1,I2,q1⟩) hf
def IG (i j:Nat) (ta:TA):TS:=fun D σ H=>ta σ H fun vs H1=>∃ v w,vs = [v,w]/\D.nx ((σ.set i (some v)).set j (some w)) H1
theorem Gr {i j:Nat} {x y:Str} {a b:Expr} {ta:TA} {px py pt:Pos} {kt k2 NT} (hc:X.calm = true) (hN:X.N.Nodup) (hi:X.N[i]? = some x) (hj:X.N[j]? = some y) (Ie:i≠j)
  (hx:X.env.scope.names.lookup x = some .local) (hy:X.env.scope.names.lookup y = some .local) (ha:PA X [a,b] ta)
  (hw:swappedStores [.Tuple [.Name x px,.Name y py] kt pt] (.Tuple [a,b] k2 NT) X.env = pure (some [x,y]))
  (hs:swapsWithSole [.Tuple [.Name x px,.Name y py] kt pt] (.Tuple [a,b] k2 NT) pos.line X.env = pure false:=by rfl) :
  PS X (.Assign [.Tuple [.Name x px,.Name y py] kt pt] (.Tuple [a,b] k2 NT) pos) (IG i j ta):=by
 intro pins s σ H D I h;rw [exec_Assign_arm];refine wpAny_bind (wpAny_standAt ?_);rw [hs];refine wpAny_bind (wpAny_pure ?_);rw [if_neg (by decide)];refine wpAny_bind (Tuple_ (cF (ha _ pins s σ H _ I h) fun us s1 ⟨vs,H1,I1,r1,q1⟩=>?_));obtain ⟨v,w,e1,q1⟩:=q1;subst e1;obtain ⟨u1,u2,rfl,rv,A6⟩:∃ u1 u2,us = [u1,u2]/\RelV v u1/\RelV w u2:=by
  cases r1 with
  | cons p q=>
   cases q with
   | cons p' q'=>
    cases q'
    exact ⟨_,_,rfl,p,p'⟩
 refine wpAny_newObj_type ?_ (by show 2<=sizeLine; decide);have I2:Inv X pins σ H1 { s1 with heap:=s1.heap.push { cls:=.type "tuple",data:=.seq [u1,u2].toArray } }:=I1.kept (t':=s1.toks) fun b o e=>Heap.get?_push_of_some _ e;rw [hw];refine wpAny_bind (wpAny_pure ?_);show wpAny (model X.prog X.w) X.A (do rule "assign.swapped-stores"; let items <- unpackItems (.ref s1.heap.objs.size) 2 none; assignInOrder [fun v=>bindName X.env y v,fun v=>bindName X.env x v] items.reverse; pure Flow.next) _ _ _;refine wpAny_bind (wpAny_rule (wpAny_bind (unpackItems_tuple (items:=#[u1,u2]) (I.ok.hd hc) (IsTup.new s1.heap _) fun h' GY=>?_)));have I3:=I2.kept (h':=h') (t':=s1.toks) fun b o e=>GY b o (Nat.ne_of_lt (Heap.lt_size e)) e;show wpAny _ _ (assignInOrder [fun v=>bindName X.env y v,fun v=>bindName X.env x v] [u2,u1] >>= fun _=>pure Flow.next) _ _ _;refine wpAny_bind (assignInOrder_cons (wpAny_bindName (jF I3 hN hj (.inl hy) A6 (fun s2 I4=>?_) (.inr hy))));refine assignInOrder_cons (wpAny_bindName (jF I4 hN hi (.inl hx) rv (fun s3 I5=>assignInOrder_nil (wpAny_pure ?_)) (.inr hx)));rw [set_comm _ _ (Ne.symm Ie)] at I5;exact ⟨_,H1,I5,q1⟩
def Tt (i:Nat) (te:TE) (ti:MP):TS:=fun D σ H=>∃ x,σ[i]? = some (some x)/\te σ H fun y H1=>ti x y H1 fun z H2=>D.nx (σ.set i (some z)) H2
def QN (to ti te:TE) (M8:V->V->Hp->VK->Prop) (Td:MP) (M4:CC):TS:=fun D σ H=>to σ H fun o H1=>ti σ H1 fun i H2=>M8 o i H2 fun x H3=>te σ H3 fun y H4=>Td x y H4 fun z H5=>M4 o i z H5 fun H6=>D.nx σ H6
def WL (X:Cx) (t:V->V->Hp->VK->Prop):Prop:=
 ∀ (pins:List (Addr×Obj)) (s:Shared) (σ : St) (H:Hp) (o i:V) (ov iv:Value) (Q:VK),Inv X pins σ H s->RelV o ov->RelV i iv->t o i H Q->
  wpAny (model X.prog X.w) X.A (getItem ov iv) (EP X pins σ Q) X.xe s
def XN (f:Int->Int->Int):MP:=fun x y H Q=>∃ i j,x = .int i/\y = .int j/\Q (.int (f i j)) H
end
section
variable {X:Cx} {pos:Pos}
def AV (c:TT) (tb:TS):TS:=fun D σ H=>∃ W:Nat->St->Hp->Prop,(∃ m,W m σ H)/\∀ m σ H,W m σ H->
 c σ H fun b H1=>if b = true then ∃ N:St->Hp->Prop,(∀ σ' H',N σ' H'->∃ m',m' < m/\W m' σ' H')/\tb { D with nx:=N,ct:=N,bk:=D.nx } σ H1 else D.nx σ H1
theorem uL {c:Expr} {body:List Stmt} {tc:TT} {tb:TS} (hp:PassesOwn (model X.prog X.w) X.A X.env X.xe) (hc:PT X c tc) (hb:pj X body tb):PS X (.While c body [] pos) (AV tc tb):=by
 intro pins s σ H D I h;obtain ⟨W,⟨m0,w0⟩,turn⟩:=h;refine wpAny_While (codeAny_whileLoop (fun n s'=>∃ σ' H',Inv X pins σ' H' s'/\W n σ' H') ?_ m0 ⟨σ,H,I,w0⟩);rintro n s1 ⟨σ1,H1,I1,w1⟩;refine wpAny_passesOwn hp (cF (hc pins s1 σ1 H1 _ I1 (turn n σ1 H1 w1)) fun b s2 ⟨H2,I2,q2⟩=>?_);cases b with
 | true=>
  obtain ⟨N,hN,q2⟩:=q2;rw [if_pos rfl];refine wpAny_passesOwn hp (cF (hb pins s2 σ1 H2 _ I2 q2) fun f s3 q3=>?_);cases f with
  | next=>
   obtain ⟨σ3,H3,I3,n3⟩:=q3;obtain ⟨m',hm,w3⟩:=hN σ3 H3 n3;exact ⟨m',hm,σ3,H3,I3,w3⟩
  | cont=>
   obtain ⟨σ3,H3,I3,n3⟩:=q3;obtain ⟨m',hm,w3⟩:=hN σ3 H3 n3;exact ⟨m',hm,σ3,H3,I3,w3⟩
  | brk=>exact q3
  | ret v=>exact q3
 | false=>
  rw [if_neg Bool.false_ne_true];exact wpAny_execs_nil ⟨σ1,H2,I2,q2⟩
end
structure It where
 go:Nat->Hp->Prop
 Av:Nat->Hp->V->Hp->Prop
 stop:Nat->Hp->Prop
def pH (X:Cx) (pins:List (Addr×Obj)) (H:Hp) (b:Addr):Prop:=
 H b = none/\b≠X.env.locals/\b∉X.fs/\(b∈X.ex\/X.s₀.heap.objs.size<=b)/\(∀ x c,X.env.cells.lookup x = some c->c≠b)/\∀ p∈X.pn ++ pins,p.1≠b
theorem Inv.zZ {X:Cx} {pins:List (Addr×Obj)} {σ : St} {H H':Hp} {s:Shared} {b:Addr} (I:Inv X pins σ H s) (hb:s.heap.objs.size<=b) (hn:H' b = none):pH X pins H' b:=by
 refine ⟨hn,Nat.ne_of_gt (Nat.lt_of_lt_of_le I.lt hb),I.N1 hb,.inr (Nat.le_trans I.sz hb),fun x c e z=>?_,fun p hp z=>?_⟩
 ·obtain ⟨v,q⟩:=I.cell x c e;exact absurd (Nat.lt_of_lt_of_le q.lt (by rw [z]; exact hb)) (Nat.lt_irrefl _)
 ·exact absurd (Nat.lt_of_lt_of_le (Heap.lt_size (I.pin p hp).1) (by rw [z]; exact hb)) (Nat.lt_irrefl _)
structure Turn (P:Program) (w:World) (K:PySem.W.Frag) (tg:Expr) (J:It) (fp:List Addr) (it:Addr) (tn:Nat->Heap->Prop):Prop where
 mem:it∈fp
 obj:∀ i h,tn i h->∀ b∈fp,∃ o,h.get? b = some o/\∀ v,o.data≠.cell v
 keep:∀ i h h',tn i h->(∀ b∈fp,∀ o,h.get? b = some o->h'.get? b = some o)->tn i h'
 item:∀ (X:Cx),X.prog = P->X.w = w->X.K = K->X.calm = true->∀ (i:Nat) (pins:List (Addr×Obj)) (s:Shared) (σ : St) (H:Hp) (E:Value->Shared->Prop),Inv X pins σ H s->(∀ b∈fp,pH X pins H b)->tn i s.heap->J.go i H->
  wpAny (model P w) X.A (pyNext (.ref it)) (fun r s1=>∃ u,r = some u/\
   wpAny (model P w) X.A (letOwnedTupleGo tg (.ref it) u) (fun _ s2=>∃ x H',Inv X pins σ H' s2/\RelV x u/\J.Av i H x H'/\tn (i + 1) s2.heap/\∀ b∈fp,H' b = none) E s1) E s
 done:∀ (X:Cx),X.prog = P->X.w = w->X.K = K->X.calm = true->∀ (i:Nat) (pins:List (Addr×Obj)) (s:Shared) (σ : St) (H:Hp) (E:Value->Shared->Prop),Inv X pins σ H s->(∀ b∈fp,pH X pins H b)->tn i s.heap->J.stop i H->
  wpAny (model P w) X.A (pyNext (.ref it)) (fun r s1=>r = none/\Inv X pins σ H s1) E s
 self:∀ (A:Around) (i:Nat) (s:Shared) (Q:Value->Shared->Prop) (E:Value->Shared->Prop),tn i s.heap->Q (.ref it) s->wpAny (model P w) A (pyIter (.ref it)) Q E s
abbrev TI:=St->Hp->(It->Hp->Prop)->Prop
def SR (X:Cx) (pins:List (Addr×Obj)) (σ : St) (tg:Expr) (R:It->Hp->Prop) (Oi:Value) (s2:Shared):Prop:=
 ∃ (it:Addr) (fp:List Addr) (tn:Nat->Heap->Prop) (J:It) (H':Hp),Oi = .ref it/\Inv X pins σ H' s2/\Turn X.prog X.w X.K tg J fp it tn/\tn 0 s2.heap/\(∀ b∈fp,pH X pins H' b)/\R J H'
def PI (X:Cx) (tg iter:Expr) (wi:TI):Prop:=
 ∀ (pins:List (Addr×Obj)) (s:Shared) (σ : St) (H:Hp) (R:It->Hp->Prop),Inv X pins σ H s->wi σ H R->
  wpAny (model X.prog X.w) X.A (eval iter X.env) (fun v s1=>wpAny (model X.prog X.w) X.A (pyIter v) (SR X pins σ tg R) X.xe s1) X.xe s
theorem Fx {M:Model} {A:Around} {E:Value->Shared->Prop} {s:Shared} {tg:Expr} {it:Addr} {u:Value} {o:Obj} {n:String} {vs:Array Value} {Q:Unit->Shared->Prop} (ho:s.heap.get? it = some o) (hc:o.cls = .type n) (hd:o.data = .fields vs)
  (hn:["enumerate", "zip", "dict_itemiterator", "dict_reverseitemiterator", "odict_iterator", "itertools.zip_longest", "itertools.pairwise"].contains n = false) (hQ:Q () s):wpAny M A (letOwnedTupleGo tg (.ref it) u) Q E s:=by
 unfold letOwnedTupleGo;cases tg <;> first
  | exact wpAny_pure hQ
  | (cases u <;> first
    | exact wpAny_pure hQ
    | (
       refine wpAny_bind (wpAny_load ho ?_);rw [hc,hd];show wpAny M A (if (["enumerate", "zip", "dict_itemiterator", "dict_reverseitemiterator", "odict_iterator", "itertools.zip_longest", "itertools.pairwise"].contains n && vs[0]? == some (rawInt _)) = true then _ else _) Q E s;rw [if_neg (by intro h; rw [hn,Bool.false_and] at h; cases h)];exact wpAny_pure hQ))
def EM (K:PySem.W.Frag) (a:Addr):It:=
 ⟨fun i H=>∃ xs x,aw K H a xs/\xs[i]? = some x,fun i H x H'=>H' = H/\∀ xs,aw K H a xs->xs[i]? = some x,fun i H=>∃ xs,aw K H a xs/\xs.length<=i⟩
def WQ (K:PySem.W.Frag) (a:Addr):It:=
 ⟨fun i H=>∃ xs x,SqT K H a xs/\xs[i]? = some x,fun i H x H'=>H' = H/\∀ xs,SqT K H a xs->xs[i]? = some x,fun i H=>∃ xs,SqT K H a xs/\xs.length<=i⟩
def C1 (lo:Int) (n:Nat):It:=⟨fun i _=>i < n,fun i H x H'=>H' = H/\x = .int (lo + i),fun i _=>n<=i⟩
theorem zh {P:Program} {w:World} {K:PySem.W.Frag} {tg:Expr} (a it:Addr):Turn P w K tg (EM K a) [it] it (fun i h=>h.IsListIter it a i) where
 mem:=by simp
 obj:=fun i h st b hb=>by
  have e:b = it:=by simpa using hb
  subst e;obtain ⟨o,e,c,d⟩:=st;exact ⟨o,e,fun v z=>by rw [d] at z; cases z⟩
 keep:=fun i h h' st k=>st.at fun o e=>k it (by simp) o e
 item:=by
  intro X hP hw hK hc i pins s σ H E I hf st hg;subst hP hw hK;obtain ⟨xs,x,hq,hx⟩:=hg;obtain ⟨aO,rv,p,hz⟩:=I.list hq;obtain ⟨u,hu,ru⟩:=rv.get hx;obtain ⟨f0,f1,f2,f3,f4,f5⟩:=hf it (by simp);refine wpAny_pyNext_list_item st p.isList (x:=u) (by simpa using hu) fun h' A2 sb=>?_;have I1:Inv X pins σ H { s with heap:=h' }:=I.turned (t':=s.toks) (fun b o hb e=>(sb.2 b hb).trans e) f0 f1 f3 f4 f5;obtain ⟨o,e,c,d⟩:=id A2;exact ⟨u,rfl,Fx (s:={ s with heap:=h' }) e c d (by decide) ⟨x,H,I1,ru,⟨rfl,fun ys hy=>by rw [I.jZ hy hq]; exact hx⟩,A2,fun b hb=>(hf b hb).1⟩⟩
 done:=by
  intro X hP hw hK hc i pins s σ H E I hf st hg;subst hP hw hK;obtain ⟨xs,hq,hx⟩:=hg;obtain ⟨aO,rv,p,hz⟩:=I.list hq;obtain ⟨f0,f1,f2,f3,f4,f5⟩:=hf it (by simp);have hl:=rv.length;exact wpAny_pyNext_list_end (I.ok.hd hc) st p.isList (by simp; omega) fun h' eb=>⟨rfl,I.turned (t':=s.toks) (fun b o hb e=>eb b o hb e) f0 f1 f3 f4 f5⟩
 self:=fun _ _ _ _ _ st h=>wpAny_pyIter_listiter st h
theorem wu {P:Program} {w:World} {K:PySem.W.Frag} {tg:Expr} (it:Addr) (lo:Int) (n:Nat):Turn P w K tg (C1 lo n) [it] it (fun i h=>IsRangeIter h it (lo + (i:Nat) * 1) ((n:Int) - (i:Nat)) 1) where
 mem:=by simp
 obj:=fun i h st b hb=>by
  have e:b = it:=by simpa using hb
  subst e;exact ⟨_,st,fun v z=>by
   have z':Data.fields _ = Data.cell v:=z;cases z'⟩
 keep:=fun i h h' st k=>k it (by simp) _ st
 item:=by
  intro X hP hw hK hc i pins s σ H E I hf st hg;subst hP hw hK;obtain ⟨f0,f1,f2,f3,f4,f5⟩:=hf it (by simp);have W:=Walks.range (prog:=X.prog) (w:=X.w) (I.ok.hd hc) it lo 1 n;refine W.item i s _ _ hg st fun v h' tk hv A2 kk=>?_;obtain ⟨t,rfl⟩:=hv;have I1:Inv X pins σ H { s with heap:=h',toks:=tk }:=I.turned (fun b o hb e=>kk b o (by simpa using hb) e) f0 f1 f3 f4 f5;refine ⟨_,rfl,Fx (s:={ s with heap:=h',toks:=tk }) (n:= "range_iterator") A2 rfl rfl (by decide) ⟨.int (lo + i),H,I1,⟨t,?_⟩,⟨rfl,rfl⟩,A2,fun b hb=>(hf b hb).1⟩⟩;rw [Int.mul_one]
 done:=by
  intro X hP hw hK hc i pins s σ H E I hf st hg;subst hP hw hK;obtain ⟨f0,f1,f2,f3,f4,f5⟩:=hf it (by simp);exact wpAny_pyNext_range_end (I.ok.hd hc) st (by have:n<=i:=hg; omega) fun h' eb=>⟨rfl,I.turned (t':=s.toks) (fun b o hb e=>eb b o hb e) f0 f1 f3 f4 f5⟩
 self:=fun _ _ _ _ _ st h=>wpAny_pyIter_rangeiter st h
section
variable {X:Cx} {tg:Expr}
def qT (K:PySem.W.Frag) (tl:TE):TI:=fun σ H R=>tl σ H fun x H1=>∃ a,x = .ref a/\(∃ xs,aw K H1 a xs)/\R (EM K a) H1
def Vc (K:PySem.W.Frag) (tl:TE):TI:=fun σ H R=>tl σ H fun x H1=>∃ a,x = .ref a/\(∃ xs,SqT K H1 a xs)/\R (WQ K a) H1
theorem bM {l:Expr} {tl:TE} (hl:PE X l tl):PI X tg l (qT X.K tl):=by
 intro pins s σ H R I h;refine cF (hl pins s σ H _ I h) fun v s1 ⟨x,H1,I1,r1,q1⟩=>?_;obtain ⟨a,e,⟨xs,hq⟩,q⟩:=q1;subst e;cases r1
 obtain ⟨aO,rv,p,hz⟩:=I1.list hq;refine wpAny_pyIter_list p.isList ?_;refine ⟨s1.heap.objs.size,[s1.heap.objs.size],_,_,H1,rfl,I1.kept (t':=s1.toks) fun b o e=>Heap.get?_push_of_some _ e,zh a _,⟨_,Heap.get?_push_size _ rfl,rfl,rfl⟩,fun b hb=>?_,q⟩;have e:b = s1.heap.objs.size:=by simpa using hb
 subst e;exact I1.zZ (Nat.le_refl _) (I1.bF.fresh (Nat.le_refl _))
theorem Ba {pins:List (Addr×Obj)} {σ : St} {H:Hp} {s:Shared} {R:It->Hp->Prop} {E:Value->Shared->Prop} {lo hi:Int} {t u v:Tok} {tk:Nat} (I:Inv X pins σ H s) (h1 : -(2 ^ 62)<=lo) (h2:lo < 2 ^ 62) (h3 : -(2 ^ 62)<=hi) (h4:hi < 2 ^ 62)
  (q:R (C1 lo (hi - lo).toNat) H):wpAny (model X.prog X.w) X.A (pyIter (.ref s.heap.objs.size)) (SR X pins σ tg R) E { s with heap:=s.heap.push { cls:=.type "range",data:=.fields #[.int lo t,.int hi u,.int 1 v] },toks:=tk }:=by
 refine wpAny_pyIter_range (IsRange.new ..) (small_one h1 h2 h3 h4) ?_;have I1:Inv X pins σ H { s with heap:=s.heap.push { cls:=.type "range",data:=.fields #[.int lo t,.int hi u,.int 1 v] },toks:=tk }:=I.kept fun b o e=>Heap.get?_push_of_some _ e;refine ⟨(s.heap.push { cls:=.type "range",data:=.fields #[.int lo t,.int hi u,.int 1 v] }).objs.size,[(s.heap.push { cls:=.type "range",data:=.fields #[.int lo t,.int hi u,.int 1 v] }).objs.size],_,_,H,rfl,
  I1.kept (t':=tk) fun b o e=>Heap.get?_push_of_some _ e,wu _ lo (hi - lo).toNat,?_,fun b hb=>?_,q⟩
 ·have e1:lo + ((0:Nat):Int) * 1 = lo:=by simp
  have e2:(((hi - lo).toNat:Nat):Int) - ((0:Nat):Int) = Builtin.Range.rangeSize lo hi 1:=by rw [rangeSize_one]; split <;> omega
  show IsRangeIter _ _ (lo + ((0:Nat):Int) * 1) ((((hi - lo).toNat:Nat):Int) - ((0:Nat):Int)) 1;rw [e1,e2];exact Heap.get?_push_size _ rfl
 ·have e:b = (s.heap.push { cls:=.type "range",data:=.fields #[.int lo t,.int hi u,.int 1 v] }).objs.size:=by simpa using hb
  subst e;exact I1.zZ (Nat.le_refl _) (I1.bF.fresh (Nat.le_refl _))
def JW (ta:TA):TI:=fun σ H R=>ta σ H fun vs H1=>∃ j:Int,vs = [.int j]/\-(2 ^ 62)<=j/\j < 2 ^ 62/\R (C1 0 j.toNat) H1
def RM (ta:TA):TI:=fun σ H R=>ta σ H fun vs H1=>∃ i j:Int,vs = [.int i,.int j]/\(-(2 ^ 62)<=i/\i < 2 ^ 62/\-(2 ^ 62)<=j/\j < 2 ^ 62)/\R (C1 i (j - i).toNat) H1
theorem cU {a:Expr} {ta:TA} {p pos:Pos} (hg:Gl X "range") (hm:X.mg "range" = none) (ha:PA X [a] ta) (hs:starEach [a] X.env = [(false,eval a X.env)]:=by rfl):PI X tg (.Call (.Name "range" p) [a] [] pos) (JW ta):=by
 intro pins s σ H R I h;refine Call_ (iH I hg hm boot_range (PyProof.Rows.callWith_type1 (cF (ha pos pins s σ H _ I h) fun us s1 ⟨vs,H1,I1,r1,q1⟩=>?_) hs rfl));obtain ⟨j,e,q1,q2,q⟩:=q1;subst e;cases r1 with
 | cons r rr=>
  cases rr
  obtain ⟨t,rfl⟩:=r;exact call_range_1 (Ba I1 (by omega) (by omega) q1 q2 (by simpa using q))
def IM (wi:TI) (g:TG) (tb:TS):TS:=fun D σ H=>wi σ H fun J H1=>∃ W:Nat->Nat->St->Hp->Prop,(∃ m,W 0 m σ H1)/\∀ i m σ H,W i m σ H->
 (J.stop i H/\D.nx σ H)\/(J.go i H/\∃ N:St->Hp->Prop,(∀ σ' H',N σ' H'->∃ m',m' < m/\W (i + 1) m' σ' H')/\∀ x H',J.Av i H x H'->g x σ H' fun σ2 H2=>tb { D with nx:=N,ct:=N,bk:=D.nx } σ2 H2)
def nP (fp:List Addr) (h:Heap):List (Addr×Obj):=fp.filterMap fun b=>(h.get? b).map fun o=>(b,o)
theorem gv {fp:List Addr} {h:Heap} {b:Addr} {o:Obj} (hb:b∈fp) (e:h.get? b = some o):(b,o)∈nP fp h:=List.mem_filterMap.mpr ⟨b,hb,by rw [e]; rfl⟩
theorem zG {fp:List Addr} {h:Heap} {p:Addr×Obj} (hp:p∈nP fp h):p.1∈fp/\h.get? p.1 = some p.2:=by
 obtain ⟨b,hb,e⟩:=List.mem_filterMap.mp hp;cases q:h.get? b with
 | none=>rw [q] at e; cases e
 | some o=>
  rw [q] at e;have e':(b,o) = p:=Option.some.inj e;subst e';exact ⟨hb,q⟩
theorem Inv.pinned {pins:List (Addr×Obj)} {σ : St} {H:Hp} {s:Shared} {fp:List Addr} (I:Inv X pins σ H s) (hf:∀ b∈fp,pH X pins H b) (ho:∀ b∈fp,∃ o,s.heap.get? b = some o/\∀ v,o.data≠.cell v):Inv X (pins ++ nP fp s.heap) σ H s:=
 I.mK fun p hp=>(List.mem_append.mp hp).elim (fun z=>I.pin p (mem_append_right _ z)) fun z=>by
  obtain ⟨hb,e⟩:=zG z;obtain ⟨f0,f1,f2,_⟩:=hf p.1 hb;obtain ⟨o,e',d⟩:=ho p.1 hb;rw [e] at e'; cases e';exact ⟨e,f0,f1,f2,d⟩
theorem Inv.jD {pins pl:List (Addr×Obj)} {σ : St} {H:Hp} {s:Shared} (I:Inv X (pins ++ pl) σ H s):Inv X pins σ H s:=I.mK fun p hp=>I.pin p (mem_append_right _ (mem_append_left _ hp))
theorem bZ {iter:Expr} {body:List Stmt} {wi:TI} {g:TG} {tb:TS} {pos:Pos} (hp:PassesOwn (model X.prog X.w) X.A X.env X.xe) (hc:X.calm = true) (hi:PI X tg iter wi) (hg:PG X tg g) (hb:pj X body tb)
  (hs:∀ x,foldedSetIterable iter X.env x = pure x:=by intro _; rfl):PS X (.For tg iter body [] pos) (IM wi g tb):=by
 intro pins s σ H D I h;refine wpAny_For (cF (hi pins s σ H _ I h) fun v s1 h1=>cF h1 fun Oi s2 h2=>?_) hs;obtain ⟨it,fp,tn,J,H2,e,I2,T,HR,f2,W,⟨m0,w0⟩,turn⟩:=h2;subst e
 -- MZ stays true of Aw iterator's objects through Aw loop
 have FX:∀ {H':Hp},(∀ b∈fp,H' b = none)->∀ b∈fp,pH X pins H' b:=fun hn b hb=>⟨hn b hb,(f2 b hb).2⟩;refine codeAny_forLoop_any (fun n s'=>∃ i σ' H',Inv X pins σ' H' s'/\tn i s'.heap/\(∀ b∈fp,H' b = none)/\W i n σ' H') ?_ m0 ⟨0,σ,H2,I2,HR,fun b hb=>(f2 b hb).1,w0⟩;rintro n s3 ⟨i,σ3,H3,I3,QQ,pZ,w3⟩;rcases turn i n σ3 H3 w3 with ⟨stop,qn⟩ | ⟨go,N,hN,step⟩
 ·refine wpAny_passesOwn hp (cF (T.done X rfl rfl rfl hc i pins s3 σ3 H3 X.xe I3 (FX pZ) QQ stop) fun r s4 ⟨hr,I4⟩=>?_);subst hr;exact wpAny_execs_nil ⟨σ3,H3,I4,qn⟩
 ·refine wpAny_passesOwn hp (cF (T.item X rfl rfl rfl hc i pins s3 σ3 H3 X.xe I3 (FX pZ) QQ go) fun r s4 ⟨u,hr,h4⟩=>?_);subst hr;refine wpAny_passesOwn hp (cF h4 fun _ s5 ⟨x,H5,I5,r5,y5,Nr,Pw⟩=>?_);have WX:=I5.pinned (FX Pw) (T.obj _ _ Nr);refine wpAny_passesOwn hp (cF (hg _ s5 σ3 H5 x u _ WX r5 (step x H5 y5)) fun _ s6 ⟨σ6,H6,I6,q6⟩=>?_);refine wpAny_passesOwn hp (cF (hb _ s6 σ6 H6 _ I6 q6) fun f s7 q7=>?_);have again:∀ {σ7:St} {H7:Hp},Inv X (pins ++ nP fp s5.heap) σ7 H7 s7->N σ7 H7->∃ m,m < n/\∃ i σ' H',Inv X pins σ' H' s7/\tn i s7.heap/\(∀ b∈fp,H' b = none)/\W i m σ' H':=fun {σ7 H7} I7 n7=>by
   obtain ⟨m',hm,w7⟩:=hN σ7 H7 n7;refine ⟨m',hm,i + 1,σ7,H7,I7.jD,T.keep _ _ _ Nr fun b hb o e=>(I7.pin (b,o) (mem_append_right _ (mem_append_right _ (gv hb e)))).1,fun b hb=>?_,w7⟩;obtain ⟨o,e,d⟩:=T.obj _ _ Nr b hb;exact (I7.pin (b,o) (mem_append_right _ (mem_append_right _ (gv hb e)))).2.1
  cases f with
  | next=>obtain ⟨σ7,H7,I7,n7⟩:=q7; exact again I7 n7
  | cont=>obtain ⟨σ7,H7,I7,n7⟩:=q7; exact again I7 n7
  | brk=>obtain ⟨σ7,H7,I7,q7⟩:=q7; exact ⟨σ7,H7,I7.jD,q7⟩
  | ret v=>obtain ⟨x7,σ7,H7,I7,r7,q7⟩:=q7; exact ⟨x7,σ7,H7,I7.jD,r7,q7⟩
end
theorem dO {K:PySem.W.Frag} {a:Addr} {xs:List V} {g:TG} {tb:TS} {D:Ends} {σ : St} {H:Hp} (Pv:Nat->St->Hp->Prop) (h0:Pv 0 σ H) (hl:∀ i σ H,i<=xs.length->Pv i σ H->aw K H a xs)
  (hs:∀ i x σ H,xs[i]? = some x->Pv i σ H->g x σ H fun σ2 H2=>tb { D with nx:=Pv (i + 1),ct:=Pv (i + 1),bk:=D.nx } σ2 H2) (hd:∀ σ H,Pv xs.length σ H->D.nx σ H) :
  ∃ W:Nat->Nat->St->Hp->Prop,(∃ m,W 0 m σ H)/\∀ i m σ H,W i m σ H->
   ((EM K a).stop i H/\D.nx σ H)\/((EM K a).go i H/\∃ N:St->Hp->Prop,(∀ σ' H',N σ' H'->∃ m',m' < m/\W (i + 1) m' σ' H')/\∀ x H',(EM K a).Av i H x H'->g x σ H' fun σ2 H2=>tb { D with nx:=N,ct:=N,bk:=D.nx } σ2 H2):=by
 refine ⟨fun i m σ H=>m = xs.length - i/\i<=xs.length/\Pv i σ H,⟨xs.length,by simp,Nat.zero_le _,h0⟩,?_⟩;rintro i m σ H ⟨rfl,hi,p⟩;have q:=hl i σ H hi p;by_cases ef:i < xs.length
 ·refine .inr ⟨⟨xs,xs[i],q,by simp [ef]⟩,Pv (i + 1),fun σ' H' p'=>⟨xs.length - (i + 1),by omega,rfl,ef,p'⟩,fun x H' y=>?_⟩;obtain ⟨e,y⟩:=y;subst e;exact hs i x σ _ (y xs q) p
 ·have e:i = xs.length:=by omega
  subst e;exact .inl ⟨⟨xs,q,Nat.le_refl _⟩,hd σ H p⟩
theorem dv {lo:Int} {n:Nat} {g:TG} {tb:TS} {D:Ends} {σ : St} {H:Hp} (Pv:Nat->St->Hp->Prop) (h0:Pv 0 σ H)
  (hs:∀ i σ H,i < n->Pv i σ H->g (.int (lo + i)) σ H fun σ2 H2=>tb { D with nx:=Pv (i + 1),ct:=Pv (i + 1),bk:=D.nx } σ2 H2) (hd:∀ σ H,Pv n σ H->D.nx σ H) :
  ∃ W:Nat->Nat->St->Hp->Prop,(∃ m,W 0 m σ H)/\∀ i m σ H,W i m σ H->
   ((C1 lo n).stop i H/\D.nx σ H)\/((C1 lo n).go i H/\∃ N:St->Hp->Prop,(∀ σ' H',N σ' H'->∃ m',m' < m/\W (i + 1) m' σ' H')/\∀ x H',(C1 lo n).Av i H x H'->g x σ H' fun σ2 H2=>tb { D with nx:=N,ct:=N,bk:=D.nx } σ2 H2):=by
 refine ⟨fun i m σ H=>m = n - i/\i<=n/\Pv i σ H,⟨n,by simp,Nat.zero_le _,h0⟩,?_⟩;rintro i m σ H ⟨rfl,hi,p⟩;by_cases ef:i < n
 ·refine .inr ⟨ef,Pv (i + 1),fun σ' H' p'=>⟨n - (i + 1),by omega,rfl,ef,p'⟩,fun x H' y=>?_⟩;obtain ⟨e,y⟩:=y;subst e y;exact hs i σ _ ef p
 ·have e:i = n:=by omega
  subst e;exact .inl ⟨Nat.le_refl _,hd σ H p⟩
abbrev R2:=V->V->Hp->VK->Prop
def lX (X:Cx) (f:Value->Value->Sem Value) (r:R2):Prop:=
 ∀ (pins:List (Addr×Obj)) (s:Shared) (σ : St) (H:Hp) (x y:V) (v u:Value) (Q:VK),Inv X pins σ H s->RelV x v->RelV y u->r x y H Q->
  wpAny (model X.prog X.w) X.A (f v u) (EP X pins σ Q) X.xe s
def Qe (X:Cx) (f:Value->Sem Value) (r:V->Hp->VK->Prop):Prop:=
 ∀ (pins:List (Addr×Obj)) (s:Shared) (σ : St) (H:Hp) (x:V) (v:Value) (Q:VK),Inv X pins σ H s->RelV x v->r x H Q->
  wpAny (model X.prog X.w) X.A (f v) (EP X pins σ Q) X.xe s
def fL (X:Cx) (f:Value) (r:List V->Hp->VK->Prop):Prop:=
 ∀ (pins:List (Addr×Obj)) (s:Shared) (σ : St) (H:Hp) (xs:List V) (us:List Value) (Q:VK),Inv X pins σ H s->Vals xs us->r xs H Q->
  wpAny (model X.prog X.w) X.A (call f us) (EP X pins σ Q) X.xe s
def WH (X:Cx) (r:V->Hp->(Bool->Hp->Prop)->Prop):Prop:=
 ∀ (pins:List (Addr×Obj)) (s:Shared) (σ : St) (H:Hp) (x:V) (v:Value) (Q:Bool->Hp->Prop),Inv X pins σ H s->RelV x v->r x H Q->
  wpAny (model X.prog X.w) X.A (truthy v) (TP X pins σ Q) X.xe s
def HQ (r:R2) (ta tb:TE):TE:=fun σ H Q=>ta σ H fun x H1=>tb σ H1 fun y H2=>r x y H2 Q
def QE (r:V->Hp->VK->Prop) (ta:TE):TE:=fun σ H Q=>ta σ H fun x H1=>r x H1 Q
def rI (C:Int->Int->Prop) (g:Int->Int->V):R2:=fun x y H Q=>∃ i j,x = .int i/\y = .int j/\C i j/\Q (g i j) H
def DF (g:Int->Int->V):R2:=fun x y H Q=>∃ i j,x = .int i/\y = .int j/\Q (g i j) H
def rU (g:Int->V):V->Hp->VK->Prop:=fun x H Q=>∃ i,x = .int i/\Q (g i) H
section
variable {X:Cx} {a b c:Expr} {ta tb tc:TE} {pos:Pos}
theorem HC (ha:PE X a ta) (hb:PE X b tb) {pins:List (Addr×Obj)} {s:Shared} {σ : St} {H:Hp} {R:V->V->Hp->Prop} (I:Inv X pins σ H s)
  (h:ta σ H fun x H1=>tb σ H1 fun y H2=>R x y H2) {Q:Value->Shared->Prop} {f:Value->Value->Sem Value}
  (hf:∀ v u s2 x y H2,Inv X pins σ H2 s2->RelV x v->RelV y u->R x y H2->wpAny (model X.prog X.w) X.A (f v u) Q X.xe s2) :
  wpAny (model X.prog X.w) X.A (eval a X.env) (fun v s₁=>wpAny (model X.prog X.w) X.A (eval b X.env) (fun u s₂=>wpAny (model X.prog X.w) X.A (f v u) Q X.xe s₂) X.xe s₁) X.xe s:=by
 refine cF (ha pins s σ H _ I h) fun v s1 ⟨x,H1,I1,r1,q1⟩=>?_;refine cF (hb pins s1 σ H1 _ I1 q1) fun u s2 ⟨y,H2,I2,r2,q2⟩=>?_;exact hf v u s2 x y H2 I2 r1 r2 q2
theorem aD {op:Operator} {r:R2} (ho:lX X (binaryOp op) r) (ha:PE X a ta) (hb:PE X b tb):PE X (.BinOp a op b pos) (HQ r ta tb):=by
 intro pins s σ H Q I h;exact wpAny_BinOp (HC ha hb I h fun v u s2 x y H2 I2 rx ry q=>ho pins s2 σ H2 x y v u Q I2 rx ry q)
theorem Fg {op:UnaryOp} {r:V->Hp->VK->Prop} (ho:Qe X (unaryOp op) r) (ha:PE X a ta):PE X (.UnaryOp op a pos) (QE r ta):=by
 intro pins s σ H Q I h;exact UnaryOp_ (cF (ha pins s σ H _ I h) fun v s1 ⟨x,H1,I1,r1,q1⟩=>ho pins s1 σ H1 x v Q I1 r1 q1)
theorem L9 {f:Value->Value->Sem Value} {C:Int->Int->Prop} {g:Int->Int->Int}
  (rule:∀ (i j:Int) (t u:Tok) (s:Shared) (Q:Value->Shared->Prop) (E:Value->Shared->Prop),C i j->Q (.int (g i j) s.toks) { s with toks:=s.toks + 1 }->wpAny (model X.prog X.w) X.A (f (.int i t) (.int j u)) Q E s) :
  lX X f (rI C fun i j=>.int (g i j)):=by
 intro pins s σ H x y v u Q I rx ry h;obtain ⟨i,j,rfl,rfl,hc,q⟩:=h;obtain ⟨t,rfl⟩:=rx;obtain ⟨t',rfl⟩:=ry;exact rule i j t t' s _ _ hc ⟨.int (g i j),H,I.tok _,⟨_,rfl⟩,q⟩
theorem Jz {f:Value->Value->Sem Value} {g:Int->Int->Int}
  (rule:∀ (i j:Int) (t u:Tok) (s:Shared) (Q:Value->Shared->Prop) (E:Value->Shared->Prop),Q (.int (g i j) s.toks) { s with toks:=s.toks + 1 }->wpAny (model X.prog X.w) X.A (f (.int i t) (.int j u)) Q E s) :
  lX X f (DF fun i j=>.int (g i j)):=by
 intro pins s σ H x y v u Q I rx ry h;obtain ⟨i,j,rfl,rfl,q⟩:=h;obtain ⟨t,rfl⟩:=rx;obtain ⟨t',rfl⟩:=ry;exact rule i j t t' s _ _ ⟨.int (g i j),H,I.tok _,⟨_,rfl⟩,q⟩
theorem GB {f:Value->Value->Sem Value} {g:Int->Int->Bool}
  (rule:∀ (i j:Int) (t u:Tok) (s:Shared) (Q:Value->Shared->Prop) (E:Value->Shared->Prop),Q (.bool (g i j)) s->wpAny (model X.prog X.w) X.A (f (.int i t) (.int j u)) Q E s) :
  lX X f (DF fun i j=>.bl (g i j)):=by
 intro pins s σ H x y v u Q I rx ry h;obtain ⟨i,j,rfl,rfl,q⟩:=h;obtain ⟨t,rfl⟩:=rx;obtain ⟨t',rfl⟩:=ry;exact rule i j t t' s _ _ ⟨.bl (g i j),H,I,rfl,q⟩
def W7 (i j:Int):Prop:=0 < j/\j < 1073741824
def SU (i j:Int):Prop:=j≠0/\j.natAbs < 1073741824
def Qt (i j:Int):Prop:=0<=j/\j<=1000000/\i.natAbs < 2 ^ 64
def W6 (i j:Int):Prop:=(-(2 ^ 64) < i/\i < 2 ^ 64)\/(-(2 ^ 64) < j/\j < 2 ^ 64)
theorem dG:lX X (binaryOp .Add) (DF fun i j=>.int (i + j)):=Jz fun _ _ _ _ _ _ _ q=>add_int q
theorem gu:lX X (binaryOp .Sub) (DF fun i j=>.int (i - j)):=Jz fun _ _ _ _ _ _ _ q=>sub_int q
theorem a9:lX X (binaryOp .Mod) (rI (fun _ j=>0 < j) fun i j=>.int (i % j)):=L9 fun i j _ _ _ _ _ hc q=>by
 have h1:(0:Int) < j:=hc;exact mod_int' (by omega) (by rw [Int.fmod_eq_emod_of_nonneg i (by omega)]; exact q)
theorem nU:lX X (binaryOp .Pow) (rI Qt fun i j=>.int (i ^ j.toNat)):=L9 fun _ _ _ _ _ _ _ hc q=>pow_int_small hc.1 hc.2.1 hc.2.2 q
theorem Ta {f:Value->Sem Value} {g:Int->Int}
  (rule:∀ (i:Int) (t:Tok) (s:Shared) (Q:Value->Shared->Prop) (E:Value->Shared->Prop),Q (.int (g i) s.toks) { s with toks:=s.toks + 1 }->wpAny (model X.prog X.w) X.A (f (.int i t)) Q E s) :
  Qe X f (rU fun i=>.int (g i)):=by
 intro pins s σ H x v Q I rx h;obtain ⟨i,rfl,q⟩:=h;obtain ⟨t,rfl⟩:=rx;exact rule i t s _ _ ⟨.int (g i),H,I.tok _,⟨_,rfl⟩,q⟩
theorem AN:Qe X (unaryOp .USub) (rU fun i=>.int (-i)):=Ta fun _ _ _ _ _ q=>neg_int q
end
def IW:V->V->Bool
 | .bQ,.bQ=>true | .bQ,.int _=>true | .int _,.bQ=>true | .bQ,.bl _=>true | .bl _,.bQ=>true | .bQ,.str _=>true | .str _,.bQ=>true
 | .int _,.int _=>true | .bl _,.bl _=>true | .str _,.str _=>true | .wq _,.wq _=>true
 | .int _,.str _=>true | .str _,.int _=>true | .bl _,.str _=>true | .str _,.bl _=>true
 | _,_=>false
def Q9:R2:=fun x y H Q=>IW x y = true/\Q (.bl (decide (x = y))) H
def Q8:R2:=fun x y H Q=>IW x y = true/\Q (.bl (!decide (x = y))) H
theorem mW {i j:Int}:decide (V.int i = V.int j) = (i == j):=by
 rw [Bool.eq_iff_iff];simp
theorem Cj {i j:Bool}:decide (V.bl i = V.bl j) = (i == j):=by
 rw [Bool.eq_iff_iff];simp
theorem yP {i j:Str}:decide (V.str i = V.str j) = (i == j):=by
 rw [Bool.eq_iff_iff];simp
theorem yQ {i j:Array UInt8}:decide (V.wq i = V.wq j) = (i.toList == j.toList):=by
 rw [Bool.eq_iff_iff];cases i
 cases j
 simp
section
variable {X:Cx} {a b c:Expr} {ta tb tc:TE} {pos:Pos}
theorem ba {pins:List (Addr×Obj)} {σ : St} {H:Hp} {s:Shared} {Q:VK} {k k':Bool} (I:Inv X pins σ H s) (q:Q (.bl k) H) (e:k = k'):EP X pins σ Q (.bool k') s:=by
 subst e;exact ⟨.bl k,H,I,rfl,q⟩
theorem cX:lX X (compareOp .Eq) Q9:=by
 intro pins s σ H x y v u Q I rx ry h;obtain ⟨hs,q⟩:=h;cases x with
 | bQ=>
  cases rx
  cases y with
  | bQ=>cases ry; exact PySem.EqNone.eq_none_none (ba I q (by simp))
  | bl j=>cases ry; exact PySem.EqNone.eq_none_bool (ba I q (by simp))
  | int j=>obtain ⟨t',rfl⟩:=ry; exact PySem.EqNone.eq_none_int (ba I q (by simp))
  | str j=>obtain ⟨t',rfl⟩:=ry; exact PySem.EqNone.eq_none_str (ba I q (by simp))
  | _=>exact absurd (show false = true from hs) Bool.false_ne_true
 | bl i=>
  cases rx
  cases y with
  | bQ=>cases ry; exact PySem.EqNone.eq_bool_none (ba I q (by simp))
  | bl j=>cases ry; exact eq_bool (ba I q Cj)
  | str j=>obtain ⟨t',rfl⟩:=ry; exact PySem.EqMixed.eq_bool_str (ba I q (by simp))
  | _=>exact absurd (show false = true from hs) Bool.false_ne_true
 | int i=>
  obtain ⟨t,rfl⟩:=rx;cases y with
  | bQ=>cases ry; exact PySem.EqNone.eq_int_none (ba I q (by simp))
  | int j=>obtain ⟨t',rfl⟩:=ry; exact eq_int (ba I q mW)
  | str j=>obtain ⟨t',rfl⟩:=ry; exact PySem.EqMixed.eq_int_str (ba I q (by simp))
  | _=>exact absurd (show false = true from hs) Bool.false_ne_true
 | str i=>
  obtain ⟨t,rfl⟩:=rx;cases y with
  | bQ=>cases ry; exact PySem.EqNone.eq_str_none (ba I q (by simp))
  | bl j=>cases ry; exact PySem.EqMixed.eq_str_bool (ba I q (by simp))
  | int j=>obtain ⟨t',rfl⟩:=ry; exact PySem.EqMixed.eq_str_int (ba I q (by simp))
  | str j=>obtain ⟨t',rfl⟩:=ry; exact eq_str (ba I q yP)
  | _=>exact absurd (show false = true from hs) Bool.false_ne_true
 | wq i=>
  obtain ⟨t,rfl⟩:=rx;cases y with
  | wq j=>obtain ⟨t',rfl⟩:=ry; exact PySem.W.eq_bytes (ba I q yQ)
  | _=>exact absurd (show false = true from hs) Bool.false_ne_true
 | _=>cases y <;> exact absurd (show false = true from hs) Bool.false_ne_true
theorem jf:lX X (compareOp .NotEq) Q8:=by
 intro pins s σ H x y v u Q I rx ry h;obtain ⟨hs,q⟩:=h;cases x with
 | bQ=>
  cases rx
  cases y with
  | bQ=>cases ry; exact PySem.EqNone.ne_none_none (ba I q (by simp))
  | bl j=>cases ry; exact PySem.EqNone.ne_none_bool (ba I q (by simp))
  | int j=>obtain ⟨t',rfl⟩:=ry; exact PySem.EqNone.ne_none_int (ba I q (by simp))
  | str j=>obtain ⟨t',rfl⟩:=ry; exact PySem.EqNone.ne_none_str (ba I q (by simp))
  | _=>exact absurd (show false = true from hs) Bool.false_ne_true
 | bl i=>
  cases rx
  cases y with
  | bQ=>cases ry; exact PySem.EqNone.ne_bool_none (ba I q (by simp))
  | bl j=>cases ry; exact ne_bool (ba I q (congrArg not Cj))
  | str j=>obtain ⟨t',rfl⟩:=ry; exact PySem.EqMixed.ne_bool_str (ba I q (by simp))
  | _=>exact absurd (show false = true from hs) Bool.false_ne_true
 | int i=>
  obtain ⟨t,rfl⟩:=rx;cases y with
  | bQ=>cases ry; exact PySem.EqNone.ne_int_none (ba I q (by simp))
  | int j=>obtain ⟨t',rfl⟩:=ry; exact ne_int (ba I q (congrArg not mW))
  | str j=>obtain ⟨t',rfl⟩:=ry; exact PySem.EqMixed.ne_int_str (ba I q (by simp))
  | _=>exact absurd (show false = true from hs) Bool.false_ne_true
 | str i=>
  obtain ⟨t,rfl⟩:=rx;cases y with
  | bQ=>cases ry; exact PySem.EqNone.ne_str_none (ba I q (by simp))
  | bl j=>cases ry; exact PySem.EqMixed.ne_str_bool (ba I q (by simp))
  | int j=>obtain ⟨t',rfl⟩:=ry; exact PySem.EqMixed.ne_str_int (ba I q (by simp))
  | str j=>obtain ⟨t',rfl⟩:=ry; exact ne_str (ba I q (congrArg not yP))
  | _=>exact absurd (show false = true from hs) Bool.false_ne_true
 | wq i=>
  obtain ⟨t,rfl⟩:=rx;cases y with
  | wq j=>obtain ⟨t',rfl⟩:=ry; exact PySem.W.ne_bytes (ba I q (congrArg not yQ))
  | _=>exact absurd (show false = true from hs) Bool.false_ne_true
 | _=>cases y <;> exact absurd (show false = true from hs) Bool.false_ne_true
theorem lI:lX X (compareOp .Lt) (DF fun i j=>.bl (decide (i < j))):=GB fun _ _ _ _ _ _ _ q=>lt_int q
theorem Bs:lX X (compareOp .Gt) (DF fun i j=>.bl (decide (j < i))):=GB fun _ _ _ _ _ _ _ q=>gt_int q
theorem Bt:lX X (compareOp .GtE) (DF fun i j=>.bl (decide (j<=i))):=GB fun _ _ _ _ _ _ _ q=>ge_int q
def isObj:HO->Bool
 | .lst _=>true
 | .ins _ _ _=>true
 | _=>false
theorem aL (b:Expr) {op:CmpOp} (h:op≠.In:=by decide) (h2:op≠.NotIn:=by decide):behindInMarks op b = false:=by
 have e1:(op == CmpOp.In) = false:=by cases op <;> first | rfl | exact absurd rfl h
 have e2:(op == CmpOp.NotIn) = false:=by cases op <;> first | rfl | exact absurd rfl h2
 cases b <;> simp [behindInMarks,e1,e2]
theorem jT {op:CmpOp} {r:R2} (ho:lX X (compareOp op) r) (ha:PE X a ta) (hb:PE X b tb) (hm:behindInMarks op b = false):PE X (.Compare a [op] [b] pos) (HQ r ta tb):=by
 intro pins s σ H Q I h;exact wpAny_Compare1 (HC ha hb I h fun v u s2 x y H2 I2 rx ry q=>ho pins s2 σ H2 x y v u Q I2 rx ry q) hm
def AW (t:TE):TT:=fun σ H Q=>t σ H fun x H'=>∃ k,x = .bl k/\Q k H'
theorem ax {op:CmpOp} {r:R2} (ho:lX X (compareOp op) r) (ha:PE X a ta) (hb:PE X b tb) (hm:behindInMarks op b = false):PT X (.Compare a [op] [b] pos) (AW (HQ r ta tb)):=by
 intro pins s σ H Q I h;refine wpAny_isTrue_Compare1 (cF (ha pins s σ H _ I h) fun v s1 ⟨x,H1,I1,r1,q1⟩=>cF (hb pins s1 σ H1 _ I1 q1) fun u s2 ⟨y,H2,I2,r2,q2⟩=>
  cF (ho pins s2 σ H2 x y v u _ I2 r1 r2 q2) fun c s3 ⟨z,H3,I3,r3,k,e,q3⟩=>?_) hm
 subst e;cases r3
 exact wpAny_truthy_bool ⟨H3,I3,q3⟩
def Nm (r r':R2) (ta tb tc:TE):TE:=fun σ H Q=>ta σ H fun x H1=>tb σ H1 fun y H2=>r x y H2 fun z H3=>∃ k,z = .bl k/\
 (if k = true then tc σ H3 fun w' H4=>r' y w' H4 Q else Q (.bl false) H3)
def WG (K:PySem.W.Frag) (x:V) (H:Hp) (k:Bool):Prop:=
 match x with
 | .bQ=>k = false
 | .bl b=>k = b
 | .int i=>k = (i != 0)
 | .str y=>y.length<=sizeLine/\k = ((y.length:Int) != 0)
 | .wq y=>y.size<=sizeLine/\k = ((y.size:Int) != 0)
 | .ref p=>(∃ xs,aw K H p xs/\k = !xs.isEmpty)\/(∃ xs,SqT K H p xs/\k = !xs.isEmpty)\/∃ aS,H p = some (.dK aS)/\k = !aS.isEmpty
 | _=>False
theorem kX:(sizeLine:Nat) < 2 ^ 63:=by rw [sizeLine_eq]; decide
def Ly (b:Expr):Prop:=∀ o i,subscripted b false o i = operate [o,i] (getItem o i)
theorem vals1 {x:V} {us:List Value} (r:Vals [x] us):∃ u,us = [u]/\RelV x u:=by
 cases r with
 | cons r1 r2=>cases r2; exact ⟨_,rfl,r1⟩
theorem vals2 {x y:V} {us:List Value} (r:Vals [x,y] us):∃ u w',us = [u,w']/\RelV x u/\RelV y w':=by
 cases r with
 | cons r1 r2=>
  cases r2 with
  | cons r3 r4=>cases r4; exact ⟨_,_,rfl,r1,r3⟩
theorem lA (hc:X.calm = true):fL X (.builtin "max") (fun xs H Q=>∃ i j,xs = [.int i,.int j]/\Q (.int (if j > i then j else i)) H):=by
 intro pins s σ H xs us Q I r h;obtain ⟨i,j,rfl,q⟩:=h;obtain ⟨u,w',rfl,⟨t,rfl⟩,⟨t',rfl⟩⟩:=vals2 r;refine max_two_ints (I.ok.hd hc) fun h' tk k=>⟨_,H,I.kept k,?_,q⟩;by_cases hj:j > i
 ·rw [if_pos hj,if_pos hj]; exact ⟨_,rfl⟩
 ·rw [if_neg hj,if_neg hj]; exact ⟨_,rfl⟩
theorem rF (hc:X.calm = true):fL X (.builtin "min") (fun xs H Q=>∃ i j,xs = [.int i,.int j]/\Q (.int (if j < i then j else i)) H):=by
 intro pins s σ H xs us Q I r h;obtain ⟨i,j,rfl,q⟩:=h;obtain ⟨u,w',rfl,⟨t,rfl⟩,⟨t',rfl⟩⟩:=vals2 r;refine min_two_ints (I.ok.hd hc) fun h' tk k=>⟨_,H,I.kept k,?_,q⟩;by_cases hj:j < i
 ·rw [if_pos hj,if_pos hj]; exact ⟨_,rfl⟩
 ·rw [if_neg hj,if_neg hj]; exact ⟨_,rfl⟩
def HK (K:PySem.W.Frag) (x:V) (H:Hp) (n:Nat):Prop:=
 match x with
 | .str y=>y.length<=sizeLine/\n = y.length
 | .wq y=>y.size<=sizeLine/\n = y.size
 | .ref p=>(∃ xs,aw K H p xs/\n = xs.length)\/∃ xs,SqT K H p xs/\n = xs.length
 | _=>False
theorem aM:fL X (.builtin "len") (fun xs H Q=>∃ x n,xs = [x]/\HK X.K x H n/\Q (.int n) H):=by
 intro pins s σ H xs us Q I r h;obtain ⟨x,n,rfl,e,q⟩:=h;obtain ⟨u,rfl,rx⟩:=vals1 r;have hl:=kX;have hs:sizeLine = 16777216:=sizeLine_eq;cases x with
 | str y=>
  obtain ⟨t,rfl⟩:=rx;obtain ⟨hy,e'⟩:y.length<=sizeLine/\n = y.length:=e;subst e';exact len_str (by omega) ⟨.int _,H,I.tok _,⟨_,rfl⟩,q⟩
 | wq y=>
  obtain ⟨t,rfl⟩:=rx;obtain ⟨hy,e'⟩:y.size<=sizeLine/\n = y.size:=e;subst e';exact PySem.W.len_bytes (by omega) ⟨.int _,H,I.tok _,⟨_,rfl⟩,q⟩
 | ref p=>
  cases rx
  have e':(∃ xs,aw X.K H p xs/\n = xs.length)\/∃ xs,SqT X.K H p xs/\n = xs.length:=e;rcases e' with ⟨xs,hx,e'⟩ | ⟨xs,hx,e'⟩
  ·subst e';obtain ⟨aO,r',pl,hz⟩:=I.list hx;have hlen:=r'.length;exact Calls.call_len_list pl.isList (by simp only [size_toArray]; omega) ⟨.int xs.length,H,I.tok _,⟨_,by simp only [size_toArray]; rw [hlen]⟩,q⟩
  ·subst e';obtain ⟨aO,r',pl,hz⟩:=I.tuple hx;have hlen:=r'.length;exact len_tuple pl (by simp only [size_toArray]; omega) ⟨.int xs.length,H,I.tok _,⟨_,by simp only [size_toArray]; rw [hlen]⟩,q⟩
 | _=>exact (show False from e).elim
end
structure xK (h:Heap) (x dx C:Addr) (mA:Str->Option Value):Prop where
 obj:h.get? x = some (PySem.W.instObj C dx)
 ns:h.Ns1 dx mA
 ne:dx≠x
theorem zJ {h:Heap} {dx:Addr} {mA:Str->Option Value} (n:h.Ns1 dx mA):∃ od,h.get? dx = some od/\∀ name,PySem.W.lookIn name od = some (mA name):=by
 obtain ⟨o,es,ep,ho,hd,hk,_,hm⟩:=n;refine ⟨o,ho,fun name=>?_⟩;have e:=hm name;unfold nsFind findBy at e;rw [<- Array.find?_toList] at e;unfold PySem.W.lookIn;rw [hd];dsimp only;split
 ·rename_i y q;rw [q] at e;exact congrArg some e
 ·rename_i q;rw [q] at e;have a:es.toList.any (·.refKey) = false:=by
   rw [any_eq_false];intro y hy;obtain ⟨z,t,OX⟩:=hk y (Array.mem_toList_iff.mp hy);simp [DictEntry.refKey,OX]
  have a':¬ es.toList.any (·.refKey) = true:=by rw [a]; exact Bool.false_ne_true
  rw [if_neg a'];exact congrArg some e
theorem xK.look {h:Heap} {x dx C:Addr} {mA:Str->Option Value} (I:xK h x dx C mA):∃ od,PySem.W.InstAt h x (PySem.W.instObj C dx) C (some od)/\∀ name,PySem.W.lookIn name od = some (mA name):=
 let ⟨od,ho,hl⟩:=zJ I.ns
 ⟨od,⟨I.obj,rfl,rfl,ho⟩,hl⟩
section
variable {prog:Program} {w:World} {A:Around} {E:Value->Shared->Prop} {s:Shared} {K:PySem.W.Frag} {x dx C f:Addr} {mA:Str->Option Value} {name:Str} {v:Value}
theorem get_map {expr:Bool} {Q:Value->Shared->Prop} (X:K.In s.heap) (I:xK s.heap x dx C mA) (hg:PySem.W.plainGet K C name = true) (hh:PySem.W.hasDictIn K C = true)
  (ha:PySem.W.findIn K (.ref C) name = some none) (hv:mA name = some v) (GZ:PySem.W.handedIn v = true) (h:Q v { s with toks:=s.toks + 1 }) :
  wpAny (model prog w) A (getAttr (.ref x) name expr) Q E s:=by
 obtain ⟨od,J,hl⟩:=I.look;exact PySem.W.get_value X J (PySem.W.plainGet_of hg).1 (PySem.W.findObj_own hh ha rfl (by rw [hl,hv])) GZ h
theorem B8 {pl:Sem Bool} {Q:Value×List Value->Shared->Prop} (X:K.In s.heap) (I:xK s.heap x dx C mA) (hg:PySem.W.plainGet K C name = true)
  (hf:PySem.W.findIn K (.ref C) name = some (some (.ref f))) (ht:PySem.W.isFn K (.ref f) = true) (hv:mA name = none) (h:Q (.ref f,[.ref x]) s) :
  wpAny (model prog w) A (getMethod (.ref x) name pl) Q E s:=by
 obtain ⟨od,J,hl⟩:=I.look;exact PySem.W.method_fn X J (PySem.W.plainGet_of hg).1 (PySem.W.plainGet_of hg).2 hf (beq_iff_eq.mp ht) (by show (PySem.W.lookIn name od).map (·.isSome) = some false; rw [hl,hv]; rfl) h
theorem Dq {ns:List Str} {Q:Unit->Shared->Prop} (X:K.In s.heap) (I:xK s.heap x dx C mA)
  (hs:PySem.W.findIn K (.ref C) "__setattr__" = some (some (.builtin "object.__setattr__"))) (hp:PySem.W.plainOver K C = true) (ht:PySem.W.takerIn K C name = some none) (hh:PySem.W.hasDictIn K C = true)
  (hw:PySem.Within mA ns) (hsz:ns.length<=sizeLine)
  (h:∀ h',xK h' x dx C (fun y=>if y = name then some v else mA y)->Heap.SameBut dx s.heap h'->Q () { s with heap:=h',toks:=s.toks + 2 }) :
  wpAny (model prog w) A (setAttr (.ref x) name v) Q E s:=by
 obtain ⟨od,J,hl⟩:=I.look;refine PySem.W.set_plain X J hs (PySem.W.osa_open (s:={ s with toks:=s.toks + 1 }) (r:=none) X J hp ht fun b=>?_);obtain ⟨cd,hc,O8⟩:=PySem.W.any_some hh;have hx:s.heap.get? x = some ⟨.ref C,some dx,.plain,#[]⟩:=I.obj;refine wpAny_bind (wpAny_pure (wpAny_bind (wpAny_bind (wpAny_loadPart hx (wpAny_bind (PySem.W.Looks.here (s:={ s with toks:=s.toks + 1 }) (PySem.W.looks_clsIn X hc) ?_))))));rw [O8];refine wpAny_pure (a:=some dx) (wpAny_bind (wpAny_pure (wpAny_bind ?_)));refine wpAny_nsSet1 (s:={ s with toks:=s.toks + 1 }) I.ns fun h' Mt xj=>?_;obtain ⟨oD,X1,X2,VB,Ek,VR⟩:=Mt.count (PySem.Within.cons name v hw);refine wpAny_bind (wpAny_lookBehind VB (by rw [Ek]; exact pastItsLine_dict (Nat.le_trans VR (by rw [length_cons]; omega))) ?_);exact wpAny_pure (h _ ⟨(xj.2 _ (Ne.symm I.ne)).trans I.obj,Mt,I.ne⟩ xj)
theorem BF {R:Result->Shared->Prop} {vs:List Value} {kw:List (Str×Value)} (X:K.In s.heap) (hm:PySem.W.makesIn K C = true)
  (hi:PySem.W.findIn K (.ref C) "__init__" = some (some (.ref f))) (hf:PySem.W.typeIn K (.ref f) = some (.type "function"))
  (h:codeAny (model prog w) (A.under (.builtin "type.__call__" ⟨.ref C :: vs,kw⟩)) (.call (.ref f) ⟨.ref (s.heap.objs.size + 1) :: vs,kw⟩) (PySem.W.InitBack (s.heap.objs.size + 1) R)
   { s with heap:=(s.heap.push PySem.W.emptyDict).push (PySem.W.instObj C s.heap.objs.size) }) :
  codeAny (model prog w) A (.call (.ref C) ⟨vs,kw⟩) R s:=by
 obtain ⟨hh,g,d,t,os⟩:=s;exact PySem.W.make_core (PySem.W.makes_of X hm) (PySem.W.looks_findIn X hi) (fun self=>PySem.W.bind_fn X self hf) (.inl rfl) h
end
def gQ (f:Str) (v:V):List (Str×V)->List (Str×V)
 | []=>[(f,v)]
 | (g,x) :: r=>if g = f then (g,v) :: r else (g,x) :: gQ f v r
theorem lJ (f g:Str) (v:V):∀ fs:List (Str×V),(gQ f v fs).lookup g = if g = f then some v else fs.lookup g
 | []=>by
  show List.lookup g [(f,v)] = _;by_cases h:g = f
  ·have hb:(g == f) = true:=beq_iff_eq.mpr h;simp only [List.lookup,hb,if_pos h]
  ·have hb:(g == f) = false:=beq_eq_false_iff_ne.mpr h;simp only [List.lookup,hb,if_neg h]
 | (k,x) :: r=>by
  have ih:=lJ f g v r;rw [show gQ f v ((k,x) :: r) = (if k = f then (k,v) :: r else (k,x) :: gQ f v r) from rfl];by_cases hk:k = f
  ·rw [if_pos hk];by_cases h:g = k
   ·have hb:(g == k) = true:=beq_iff_eq.mpr h;simp only [List.lookup,hb,if_pos (h.trans hk)]
   ·have hb:(g == k) = false:=beq_eq_false_iff_ne.mpr h;simp only [List.lookup,hb,if_neg (fun e:g = f=>h (e.trans hk.symm))]
  ·rw [if_neg hk];by_cases h:g = k
   ·have hb:(g == k) = true:=beq_iff_eq.mpr h;simp only [List.lookup,hb,if_neg (fun e:g = f=>hk (h.symm.trans e))]
   ·have hb:(g == k) = false:=beq_eq_false_iff_ne.mpr h;simp only [List.lookup,hb];exact ih
theorem kZ (f:Str) (v:V):∀ fs:List (Str×V),f∈(gQ f v fs).map (·.1)/\∀ g,g∈fs.map (·.1)->g∈(gQ f v fs).map (·.1)
 | []=>⟨by simp [gQ],fun g h=>by simp at h⟩
 | (k,x) :: r=>by
  obtain ⟨i1,i2⟩:=kZ f v r;rw [show gQ f v ((k,x) :: r) = (if k = f then (k,v) :: r else (k,x) :: gQ f v r) from rfl];by_cases hk:k = f
  ·rw [if_pos hk];subst hk;exact ⟨by simp,fun g h=>by simpa using h⟩
  ·rw [if_neg hk];refine ⟨?_,fun g h=>?_⟩
   ·rw [map_cons];exact mem_cons_of_mem _ i1
   ·rw [map_cons] at h ⊢;rcases List.mem_cons.mp h with e | e
    ·exact List.mem_cons.mpr (.inl e)
    ·exact mem_cons_of_mem _ (i2 g e)
theorem lM (f:Str) (v:V):∀ fs:List (Str×V),(gQ f v fs).length<=fs.length + 1
 | []=>by simp [gQ]
 | (k,x) :: r=>by
  have ih:=lM f v r;rw [show gQ f v ((k,x) :: r) = (if k = f then (k,v) :: r else (k,x) :: gQ f v r) from rfl];by_cases hk:k = f
  ·rw [if_pos hk,length_cons,length_cons]; omega
  ·rw [if_neg hk,length_cons,length_cons]; omega
theorem jc.some_of {v:V} {o:Option Value} (r:jc (some v) o):∃ u,o = some u/\RelV v u:=by
 cases o with
 | none=>exact (show False from r).elim
 | some u=>exact ⟨u,rfl,r⟩
theorem jc.none_of {o:Option Value} (r:jc none o):o = none:=by
 cases o with
 | none=>rfl
 | some u=>exact (show False from r).elim
theorem zX {v:V} {u:Value} (r:RelV v u):PySem.W.handedIn u = true:=by
 cases v with
 | bQ=>cases (show u = Value.none from r); rfl
 | bl b=>cases (show u = Value.bool b from r); rfl
 | int i=>obtain ⟨t,e⟩:=(show ∃ t,u = Value.int i t from r); cases e; rfl
 | str x=>obtain ⟨t,e⟩:=(show ∃ t,u = Value.str x t from r); cases e; rfl
 | wq b=>obtain ⟨t,e⟩:=(show ∃ t,u = Value.bytes b t from r); cases e; rfl
 | AG b=>obtain ⟨t,e⟩:=(show ∃ t,u = Value.float b t from r); cases e; rfl
 | ref a=>cases (show u = Value.ref a from r); rfl
 | ty n=>cases (show u = Value.type n from r); rfl
section
variable {P:Program} {w:World} {H H':Hp} {h h':Heap} {a C dx:Addr} {fs KR:List (Str×V)}
theorem mS (bF:jd P w H h) (e:H a = some (.ins C dx fs)):∃ mA,xK h a dx C mA/\(∀ f,jc (fs.lookup f) (mA f))/\PySem.Within mA (fs.map (·.1))/\fs.length<=1000/\H dx = some (.own a):=by
 obtain ⟨d,z,ne,ob,mA,n,r,q⟩:=(show bB P w H h a (.ins C dx fs) from bF a _ e);exact ⟨mA,⟨ob,n,ne⟩,r,q,z,d⟩
end
structure uh (K:PySem.W.Frag) (C:Addr):Prop where
 pg:PySem.W.plainGet K C Str.empty = true
 hd:PySem.W.hasDictIn K C = true
 po:PySem.W.plainOver K C = true
 sa:PySem.W.findIn K (.ref C) "__setattr__" = some (some (.builtin "object.__setattr__"))
theorem uh.get {K:PySem.W.Frag} {C:Addr} (c:uh K C) (f:Str):PySem.W.plainGet K C f = true:=c.pg
def eG (K:PySem.W.Frag) (C:Addr) (f:Str):Prop:=PySem.W.findIn K (.ref C) f = some none
theorem eG.IC {K:PySem.W.Frag} {C:Addr} {f:Str} (n:eG K C f):PySem.W.takerIn K C f = some none:=by
 unfold PySem.W.takerIn;rw [show PySem.W.findIn K (.ref C) f = some none from n]
 rfl
structure W5 (K:PySem.W.Frag) (C:Addr) (f:Str) (v:V) (u:Value):Prop where
 at_:PySem.W.findIn K (.ref C) f = some (some u)
 rel:RelV v u
 get:PySem.W.specialIn K u "__get__" = some none
 cp:PySem.W.copiedNames.contains f = false
structure Meth (K:PySem.W.Frag) (C:Addr) (m:Str) (f:Addr):Prop where
 at_:PySem.W.findIn K (.ref C) m = some (some (.ref f))
 fn:PySem.W.isFn K (.ref f) = true
 kp:PySem.W.keepIn K (.ref f) = true
section
variable {X:Cx} {pins:List (Addr×Obj)} {σ : St} {H:Hp} {s:Shared} {a C dx:Addr} {fs:List (Str×V)} {f:Str} {v:V} {A:Around} {E:Value->Shared->Prop}
theorem xo {b:Bool} {Q:Value->Shared->Prop} (I:Inv X pins σ H s) (e:H a = some (.ins C dx fs)) (c:uh X.K C) (n:eG X.K C f) (l:fs.lookup f = some v)
  (h:∀ u s',Inv X pins σ H s'->RelV v u->Q u s'):wpAny (model X.prog X.w) A (getAttr (.ref a) f b) Q E s:=by
 obtain ⟨mA,O,r,_,_,_⟩:=mS I.bF e;obtain ⟨u,hu,ru⟩:=jc.some_of (v:=v) (o:=mA f) (by rw [<- l]; exact r f);exact get_map I.lO O (c.get f) c.hd n hu (zX ru) (h u _ (I.tok _) ru)
theorem jv {m:Str} {g:Addr} {pl:Sem Bool} {Q:Value×List Value->Shared->Prop} (I:Inv X pins σ H s) (e:H a = some (.ins C dx fs)) (c:uh X.K C) (k:Meth X.K C m g) (l:fs.lookup m = none)
  (h:Q (.ref g,[.ref a]) s):wpAny (model X.prog X.w) A (getMethod (.ref a) m pl) Q E s:=by
 obtain ⟨mA,O,r,_,_,_⟩:=mS I.bF e;have hn:mA m = none:=jc.none_of (by rw [<- l]; exact r m);exact B8 I.lO O (c.get m) k.at_ k.fn hn h
theorem wy {y:V} {u:Value} {Q:Unit->Shared->Prop} (I:Inv X pins σ H s) (e:H a = some (.ins C dx fs)) (c:uh X.K C) (n:eG X.K C f) (hl:fs.length < 1000) (ry:RelV y u)
  (h:∀ s',Inv X pins σ (upd H a (.ins C dx (gQ f y fs))) s'->Q () s'):wpAny (model X.prog X.w) A (setAttr (.ref a) f u) Q E s:=by
 obtain ⟨mA,O,r,wi,_,ho⟩:=mS I.bF e;have hz:(fs.map (·.1)).length<=sizeLine:=by rw [length_map,sizeLine_eq]; omega
 refine Dq I.lO O c.sa c.po n.IC c.hd wi hz fun h' O' sb=>h _ ?_;have hd:∃ o,h'.get? dx = some o:=let ⟨o,_,_,e',_⟩:=O'.ns; ⟨o,e'⟩
 refine I.write (x:=a) (e:=dx) (by rw [e]; exact True.intro) (.inr ho) (fun b q hb z=>(sb.2 b hb).trans z) hd ?_;refine ⟨by rw [ak O.ne]; exact ho,?_,O.ne,O'.obj,_,O'.ns,fun g=>?_,fun g hg=>?_⟩
 ·have:=lM f y fs; omega
 ·show jc ((gQ f y fs).lookup g) (if g = f then some u else mA g);rw [lJ];by_cases q:g = f
  ·rw [if_pos q,if_pos q]; exact ry
  ·rw [if_neg q,if_neg q]; exact r g
 ·by_cases q:g = f
  ·rw [q]; exact (kZ f y fs).1
  ·refine (kZ f y fs).2 g (wi g fun z=>hg ?_);show (if g = f then some u else mA g) = none;rw [if_neg q]; exact z
theorem Inv.made (I:Inv X pins σ H s):Inv X pins σ (upd (upd H s.heap.objs.size (.own (s.heap.objs.size + 1))) (s.heap.objs.size + 1) (.ins C s.heap.objs.size []))
  { s with heap:=(s.heap.push PySem.W.emptyDict).push (PySem.W.instObj C s.heap.objs.size) }:=by
 have e1:(s.heap.push PySem.W.emptyDict).get? s.heap.objs.size = some PySem.W.emptyDict:=Heap.get?_push_size s.heap rfl;have e2:((s.heap.push PySem.W.emptyDict).push (PySem.W.instObj C s.heap.objs.size)).get? (s.heap.objs.size + 1) = some (PySem.W.instObj C s.heap.objs.size):=by
  have:=Heap.get?_push_size (s.heap.push PySem.W.emptyDict) (o:=PySem.W.instObj C s.heap.objs.size) rfl;rwa [Heap.size_push] at this
 have e3:(s.heap.push PySem.W.emptyDict).Ns s.heap.objs.size (fun _=>none):=⟨PySem.W.emptyDict,#[],_,e1,rfl,(fun e he=>absurd he (by simp)),fun _=>rfl⟩;have I1:=I.laid (a:=s.heap.objs.size) (o:=.own (s.heap.objs.size + 1)) (h':=s.heap.push PySem.W.emptyDict) (t':=s.toks) (fun b u q=>Heap.get?_push_of_some _ q) (Nat.le_refl _) ⟨_,e1⟩;refine I1.laid (a:=s.heap.objs.size + 1) (o:=.ins C s.heap.objs.size []) (t':=s.toks) (fun b u q=>Heap.get?_push_of_some _ q) (Nat.le_of_eq (Heap.size_push _ _)) ?_;have ne:s.heap.objs.size≠s.heap.objs.size + 1:=Nat.ne_of_lt (Nat.lt_succ_self _);refine ⟨by rw [ak ne,ae],Nat.zero_le _,ne,e2,fun _=>none,(Heap.Ns1.of_empty e3).at fun o q=>Heap.get?_push_of_some _ q,fun _=>True.intro,fun y hy=>absurd rfl hy⟩
theorem EF {prog:Program} {w:World} {env:Env} {e:Expr} {f:Str} {pos:Pos} {s:Shared} {Q:Value->Shared->Prop} (hb:attributeBase e f env (eval e env) = eval e env)
  (h:wpAny (model prog w) A (eval e env) (fun o s₁=>wpAny (model prog w) A (getAttr o f true) Q E s₁) E s):wpAny (model prog w) A (eval (.Attribute e f pos) env) Q E s:=
 Attribute_any_ h (by rw [arm_eval_Attribute,hb])
end
def IP (K:PySem.W.Frag) (ta:TE) (f:Str):TE:=fun σ H Q=>ta σ H fun x H1=>∃ a C dx fs v,x = .ref a/\H1 a = some (.ins C dx fs)/\uh K C/\eG K C f/\fs.lookup f = some v/\Q v H1
def Ts (K:PySem.W.Frag) (ta:TE) (f:Str):TE:=fun σ H Q=>ta σ H fun x H1=>∃ a C dx fs v u,x = .ref a/\H1 a = some (.ins C dx fs)/\uh K C/\W5 K C f v u/\fs.lookup f = none/\Q v H1
def IX (K:PySem.W.Frag) (ta tv:TE) (f:Str):TS:=fun D σ H=>tv σ H fun y H1=>ta σ H1 fun x H2=>∃ a C dx fs,x = .ref a/\H2 a = some (.ins C dx fs)/\uh K C/\eG K C f/\fs.length < 1000/\
 D.nx σ (upd H2 a (.ins C dx (gQ f y fs)))
def WW (X:Cx) (op:Operator) (rd:V->V->Hp->VK->Prop):Prop:=
 ∀ (pins:List (Addr×Obj)) (s:Shared) (σ : St) (H:Hp) (x y:V) (u v:Value) (Q:VK),Inv X pins σ H s->RelV x u->RelV y v->rd x y H Q->wpAny (model X.prog X.w) X.A (inplaceOp op u v) (EP X pins σ Q) X.xe s
def LW (K:PySem.W.Frag) (ta tv:TE) (rd:V->V->Hp->VK->Prop) (f:Str):TS:=fun D σ H=>ta σ H fun x H1=>∃ a C dx fs v,x = .ref a/\H1 a = some (.ins C dx fs)/\uh K C/\eG K C f/\fs.lookup f = some v/\
 tv σ H1 fun y H2=>rd v y H2 fun z H3=>∃ SA KR,H3 a = some (.ins C SA KR)/\KR.length < 1000/\D.nx σ (upd H3 a (.ins C SA (gQ f z KR)))
section
variable {X:Cx} {o e value:Expr} {f:Str} {pos pos' M6:Pos} {ta tv:TE}
theorem de (he:PE X e ta) (hb:attributeBase e f X.env (eval e X.env) = eval e X.env):PE X (.Attribute e f pos) (IP X.K ta f):=by
 intro pins s σ H Q I h;refine EF hb (cF (he pins s σ H _ I h) fun u s1 ⟨x,H1,I1,rx,a,C,dx,fs,v,ex,ea,c,n,l,q⟩=>?_);subst ex;obtain rfl:u = Value.ref a:=rx;exact xo I1 ea c n l fun u' s2 I2 ru=>⟨v,H1,I2,ru,q⟩
theorem jr (ha:PE X o ta) (hv:PE X value tv) (hs:swapsWith value (some (.Attribute o f pos')) pos.line X.env = pure false):PS X (.Assign [.Attribute o f pos'] value pos) (IX X.K ta tv f):=by
 intro pins s σ H D I h;refine plainObj_wpAny_Assign_Attribute (cF (hv pins s σ H _ I h) fun u s1 ⟨y,H1,I1,ry,q⟩=>cF (ha pins s1 σ H1 _ I1 q) fun ov s2 ⟨x,H2,I2,rx,a,C,dx,fs,ex,ea,c,n,l,q2⟩=>?_) hs;subst ex;obtain rfl:ov = Value.ref a:=rx;exact wy I2 ea c n l ry fun s3 I3=>⟨σ,_,I3,q2⟩
def Ug:V->V->Hp->VK->Prop:=fun x y H Q=>∃ i j,x = .int i/\y = .int j/\Q (.int (i + j)) H
def T5:V->V->Hp->VK->Prop:=fun x y H Q=>∃ i j,x = .int i/\y = .int j/\Q (.int (i - j)) H
theorem Fp {pl:Sem Bool} {m:Str} {apos:Pos} {args:List Expr} {pins:List (Addr×Obj)} {s:Shared} {σ : St} {H:Hp} {Q:Value->Shared->Prop} {te:TE} (he:PE X e te) (I:Inv X pins σ H s)
  (h:te σ H fun x H1=>∃ a C dx fs g,x = .ref a/\H1 a = some (.ins C dx fs)/\uh X.K C/\Meth X.K C m g/\fs.lookup m = none/\
   ∀ s1,Inv X pins σ H1 s1->wpAny (model X.prog X.w) X.A (callWith pos (.ref g) [.ref a] (backTo pos (starEach args X.env)) (backToKw pos (keywordEach [] X.env))) Q X.xe s1)
  (ht:eval (.Call (.Attribute e m apos) args [] pos) X.env = (do
   let ov <- eval e X.env
   standAt apos.atName
   let (f,first) <- holding [ov] (getMethod ov m pl)
   callWith pos f first (backTo pos (starEach args X.env)) (backToKw pos (keywordEach [] X.env)))) :
  wpAny (model X.prog X.w) X.A (eval (.Call (.Attribute e m apos) args [] pos) X.env) Q X.xe s:=by
 refine PySem.W.methodCall_KW (pl:=pl) (cF (he pins s σ H _ I h) fun u s1 ⟨x,H1,I1,rx,a,C,dx,fs,g,ex,ea,c,k,l,q⟩=>?_) ht;subst ex;obtain rfl:u = Value.ref a:=rx;exact jv I1 ea c k l (q s1 I1)
end
section
variable {X:Cx} {pins:List (Addr×Obj)} {σ : St} {H:Hp} {s:Shared} {A:Around} {E:Value->Shared->Prop} {Q:Value->Shared->Prop} {c:Value} {b:Bool}
inductive kr (K:PySem.W.Frag) (H:Hp):V->Value->Prop where
 | bQ:kr K H .bQ (.type "NoneType")
 | bl (x:Bool):kr K H (.bl x) (.type "bool")
 | int (i:Int):kr K H (.int i) (.type "int")
 | str (x:Str):kr K H (.str x) (.type "str")
 | AG (x:UInt64):kr K H (.AG x) (.type "float")
 | lst {a:Addr} {xs:List V} (e:H a = some (.lst xs)):kr K H (.ref a) (.type "list")
 | oT {a:Addr} {o:Obj} {xs:List V} (e:H a = some (.oT o (.lst xs))):kr K H (.ref a) (.type "list")
 | tup {a:Addr} {xs:List V} (e:H a = some (.tup xs)):kr K H (.ref a) (.type "tuple")
 | dK {a:Addr} {aS:List (Key×V)} (e:H a = some (.dK aS)):kr K H (.ref a) (.type "dict")
 | dT {a:Addr} {aS:List (List Key×V)} (e:H a = some (.dT aS)):kr K H (.ref a) (.type "dict")
 | ins {a C dx:Addr} {fs:List (Str×V)} (e:H a = some (.ins C dx fs)) (cl:uh K C) (ha:PySem.W.findIn K (.ref C) "__class__" = some (some (.builtin "object.__class__")))
   (hn:PySem.W.specialIn K (.builtin "object.__class__") "__get__" = some (some (.builtin "getset_descriptor.__get__"))) (OC:PySem.W.takesIn K (.builtin "object.__class__") = some true)
   (hm:PySem.W.mroIn K C (.type "object") = some true):kr K H (.ref a) (.ref C)
theorem zP {x:V} {u t:Value} (I:Inv X pins σ H s) (rx:RelV x u) (ty:kr X.K H x t) (e:PySem.W.kitOne X.K t c = some b) (h:∀ tk,Q (.bool b) { s with toks:=tk }) :
  wpAny (model X.prog X.w) A (call (.builtin "isinstance") [u,c]) Q E s:=by
 cases ty with
 | bQ=>cases (show u = Value.none from rx); exact PySem.W.kia_one PySem.W.kitx_none I.lO True.intro e (fun z=>nomatch z) h
 | bl y=>cases (show u = Value.bool y from rx); exact PySem.W.kia_one PySem.W.kitx_bool I.lO True.intro e (fun z=>nomatch z) h
 | int i=>obtain ⟨t,q⟩:=(show ∃ t,u = Value.int i t from rx); cases q; exact PySem.W.kia_one PySem.W.kitx_int I.lO True.intro e (fun z=>nomatch z) h
 | str y=>obtain ⟨t,q⟩:=(show ∃ t,u = Value.str y t from rx); cases q; exact PySem.W.kia_one PySem.W.kitx_str I.lO True.intro e (fun z=>nomatch z) h
 | AG y=>obtain ⟨t,q⟩:=(show ∃ t,u = Value.float y t from rx); cases q; exact PySem.W.kia_one PySem.W.kitx_float I.lO True.intro e (fun z=>nomatch z) h
 | @lst a xs ea=>
  cases (show u = Value.ref a from rx)
  obtain ⟨_,_,n,_,h1⟩:=(show bB X.prog X.w H s.heap a (.lst xs) from I.bF a _ ea);exact PySem.W.kia_one PySem.W.kitx_list I.lO ⟨_,h1,rfl⟩ e (fun z=>nomatch z) h
 | @oT a ob xs ea=>
  cases (show u = Value.ref a from rx)
  obtain ⟨_,_,_,n,_,h1⟩:=(show bB X.prog X.w H s.heap a (.oT ob (.lst xs)) from I.bF a _ ea);exact PySem.W.kia_one PySem.W.kitx_list I.lO ⟨_,h1,rfl⟩ e (fun z=>nomatch z) h
 | @tup a xs ea=>
  cases (show u = Value.ref a from rx)
  obtain ⟨_,_,_,p⟩:=(show bB X.prog X.w H s.heap a (.tup xs) from I.bF a _ ea);obtain ⟨o,h1,h2,_⟩:=p;exact PySem.W.kia_one PySem.W.kitx_tuple I.lO ⟨o,h1,h2⟩ e (fun z=>nomatch z) h
 | @dK a aS ea=>
  cases (show u = Value.ref a from rx)
  obtain ⟨_,_,vs,_,p⟩:=(show bB X.prog X.w H s.heap a (.dK aS) from I.bF a _ ea);obtain ⟨o,es,ep,h1,h2,_⟩:=p;exact PySem.W.kia_one PySem.W.kitx_dict I.lO ⟨o,h1,h2.1⟩ e (fun z=>nomatch z) h
 | @dT a aS ea=>
  cases (show u = Value.ref a from rx)
  obtain ⟨_,_,xs,_,o,es,ep,h1,h2,_⟩:=(show bB X.prog X.w H s.heap a (.dT aS) from I.bF a _ ea);exact PySem.W.kia_one PySem.W.kitx_dict I.lO ⟨o,h1,h2.1⟩ e (fun z=>nomatch z) h
 | @ins a C dx fs ea cl ha hn OC hm=>
  cases (show u = Value.ref a from rx)
  obtain ⟨mA,O,_⟩:=mS I.bF ea;obtain ⟨od,J,_⟩:=O.look;exact PySem.W.kia_one (PySem.W.kitx_own (cl.get _) cl.hd ha hn OC hm) I.lO J e (fun z=>nomatch z) h
end
structure cu (k:Nat) (A:Around):Prop where
 hd:A.handled = none
 dp:A.depth + 3 * k + 5 < recursionLimit
 un:A.units + 16 * k + 200 < cLine
theorem cu.mono {j k:Nat} {A:Around} (r:cu k A) (h:j<=k):cu j A:=⟨r.hd,by have:=r.dp; omega,by have:=r.un; omega⟩
theorem cu.deeper {k:Nat} {A:Around} (r:cu (k + 1) A) (env:Env):cu k (A.deeper env):=
 ⟨r.hd,by have:=r.dp; show A.depth + 1 + 3 * k + 5 < _; omega,by have:=r.un; show A.units + 3 + 16 * k + 200 < _; omega⟩
theorem wW {A:Around} {C:Addr} {us:List Value} {kw:List (Str×Value)}:(A.under (.builtin "type.__call__" ⟨.ref C :: us,kw⟩)).depth = A.depth + 1:=by
 first | rfl | simp [Around.under,Code.weight,Code.isCreation,Code.isGuard,Code.isCaller,Code.frames,Code.isFrame,guardIds]
theorem wV {A:Around} {C:Addr} {us:List Value} {kw:List (Str×Value)}:(A.under (.builtin "type.__call__" ⟨.ref C :: us,kw⟩)).units = A.units + 1:=by
 first | rfl | simp [Around.under,Code.cUnits,Code.frames,Code.isFrame]
theorem cu.make {k:Nat} {A:Around} (r:cu (k + 1) A) (C:Addr) (us:List Value) (kw:List (Str×Value)):cu k (A.under (.builtin "type.__call__" ⟨.ref C :: us,kw⟩)):=
 ⟨r.hd,by have:=r.dp; rw [wW]; omega,by have:=r.un; rw [wV]; omega⟩
theorem cu.depth {k:Nat} {A:Around} (r:cu k A):A.depth < recursionLimit:=by have:=r.dp; omega
theorem cu.units {k:Nat} {A:Around} (r:cu k A):A.units + 64 < cLine:=by have:=r.un; omega
theorem cu.FO {k:Nat} {A:Around} (r:cu k A):A.units < cLine:=by have:=r.un; omega
def um:TA:=fun _ H Q=>Q [] H
def je (ta:TE) (tr:TA):TA:=fun σ H Q=>ta σ H fun x H1=>tr σ H1 fun xs H2=>Q (x :: xs) H2
section
variable {X:Cx} {e:Expr} {es:List Expr} {te:TE} {t:TA} {pos:Pos}
theorem af:PA X [] um:=fun _ _ _ _ H Q I h=>Calls.spliced_nil ⟨[],H,I,.nil,h⟩
theorem aa (ha:PE X e te) (hr:PA X es t) (hs:starEach (e :: es) X.env = (false,eval e X.env) :: starEach es X.env:=by rfl):PA X (e :: es) (je te t):=by
 intro pos pins s σ H Q I h;rw [hs];show wpAny _ _ (spliced ((false,eval e X.env) :: backTo pos (starEach es X.env))) _ _ s;refine Calls.spliced_cons (cF (ha pins s σ H _ I h) fun u s1 ⟨x,H1,I1,r1,q1⟩=>?_);exact cF (hr pos pins s1 σ H1 _ I1 q1) fun us s2 ⟨xs,H2,I2,r2,q2⟩=>⟨x :: xs,H2,I2,.cons r1 r2,q2⟩
def ID (t:TA):TE:=fun σ H Q=>t σ H fun xs H1=>xs.length<=sizeLine/\∀ p,H1 p = none->Q (.ref p) (upd H1 p (.tup xs))
def AZ (t:TA):TE:=fun σ H Q=>t σ H fun xs H1=>xs.length<=sizeLine/\∀ p,H1 p = none->Q (.ref p) (upd H1 p (.lst xs))
theorem fP {x1} (h:PA X es t):PE X (.Tuple es x1 pos) (ID t):=by
 intro pins s σ H Q I hq;refine wpAny_Tuple_spliced (cF (h pos pins s σ H _ I hq) fun us s1 ⟨xs,H1,I1,r,z,q⟩=>⟨by rw [<- r.length]; exact z,?_⟩);have hf:H1 s1.heap.objs.size = none:=I1.bF.fresh (Nat.le_refl _);refine ⟨.ref s1.heap.objs.size,upd H1 s1.heap.objs.size (.tup xs),I1.laid (t':=s1.toks) (fun b u e=>Heap.get?_push_of_some _ e) (Nat.le_refl _) ?_,rfl,q _ hf⟩;exact ⟨z,us,r,⟨_,Heap.get?_push_size _ rfl,rfl,_,rfl⟩⟩
theorem aY (h:PA X es t):PE X (.List es pos) (AZ t):=by
 intro pins s σ H Q I hq;refine wpAny_List_spliced (cF (h pos pins s σ H _ I hq) fun us s1 ⟨xs,H1,I1,r,z,q⟩=>⟨by rw [<- r.length]; exact z,?_⟩);have hf:H1 s1.heap.objs.size = none:=I1.bF.fresh (Nat.le_refl _);refine ⟨.ref s1.heap.objs.size,upd H1 s1.heap.objs.size (.lst xs),I1.laid (t':=s1.toks) (fun b u e=>Heap.get?_push_of_some _ e) (Nat.le_refl _) ?_,rfl,q _ hf⟩;exact ⟨z,us,0,r,Heap.get?_push_size _ rfl⟩
end
abbrev Sp:=List V->Hp->VK->XK->Prop
abbrev qj:=List Env->Hp->Shared->XK->Value->Shared->Prop
structure xN (P:Program) (w:World) (K:PySem.W.Frag) (mg:Str->Option Value) (base:Heap) (A:Around) (outer:List Env) (s:Shared) (H:Hp):Prop where
 frames:A.frames = some outer
 mod:Mod K mg base
 bs:∀ b o,base.get? b = some o->s.heap.get? b = some o/\H b = none
 Cw:base.objs.size<=s.heap.objs.size
 ja:s.heap.FunFrames base outer
 CU:∀ b∈jb outer,H b = none
 bF:jd P w H s.heap
 bare:AllBare s.gens
def CE (outer:List Env) (P:Program) (w:World) (H:Hp) (s:Shared) (Q:VK) (u:Value) (s':Shared):Prop:=
 ∃ v H',s'.os = s.os/\AllBare s'.gens/\Un (jb outer) [] H H' s.heap s'.heap/\jd P w H' s'.heap/\RelV v u/\Q v H'
def CR (CX:qj) (outer:List Env) (P:Program) (w:World) (H:Hp) (s:Shared) (Q:VK) (E:XK) (r:Result) (s':Shared):Prop:=
 match r with
 | .ok (.ret u)=>CE outer P w H s Q u s'
 | .ok _=>False
 | .error e=>CX outer H s E e s'
structure gL (P:Program) (w:World) (K:PySem.W.Frag) (mg:Str->Option Value) (base:Heap) (CX:qj) (k:Nat) (f:Addr) (fd:FuncData) (ps:List Str) (sp:Sp):Prop where
 len:∀ vs H Q E,sp vs H Q E->vs.length = ps.length
 run:∀ (A:Around) (outer:List Env) (s:Shared) (H:Hp) (args:Args) (us:List Value) (vs:List V) (Q:VK) (E:XK),cu k A->xN P w K mg base A outer s H->BindsTo s fd args (ps.zip us)->Vals vs us->sp vs H Q E->
  codeAny (model P w) A (.call (.ref f) args) (CR CX outer P w H s Q E) s
theorem xN.make {P:Program} {w:World} {K:PySem.W.Frag} {mg:Str->Option Value} {base:Heap} {A:Around} {outer:List Env} {s:Shared} {H:Hp} (e:xN P w K mg base A outer s H) (C:Addr) (us:List Value) (kw:List (Str×Value)) :
  xN P w K mg base (A.under (.builtin "type.__call__" ⟨.ref C :: us,kw⟩)) outer s H:=⟨by first | exact e.frames | (simpa [Around.under,Code.envs,Code.isFrame,pushEnvs] using e.frames),e.mod,e.bs,e.Cw,e.ja,e.CU,e.bF,e.bare⟩
section
variable {X:Cx} {pins:List (Addr×Obj)} {σ : St} {H:Hp} {s s':Shared}
theorem Inv.K5 (I:Inv X pins σ H s):xN X.prog X.w X.K X.mg X.base X.A X.stack s H:=
 ⟨I.ok.frames,I.ok.mod,I.bs,Nat.le_trans I.ok.Cw I.sz,I.stack,I.rW,I.bF,I.bare⟩
theorem Inv.after {Q:VK} {u:Value} (I:Inv X pins σ H s) (h:CE X.stack X.prog X.w H s Q u s'):EP X pins σ Q u s':=by
 obtain ⟨v,H',os,bare,un,bF,r,q⟩:=h;obtain ⟨hh,g,d,t,Uv⟩:=s';obtain rfl:Uv = s.os:=os;exact ⟨v,H',I.call (h':=hh) (g':=g) (d':=d) (t':=t) (ch:=[]) un bF bare (fun b z=>absurd z (by simp)),r,q⟩
end
def A1 (sp:Sp) (p9:List V) (E:XK) (t:TA):TE:=fun σ H Q=>t σ H fun vs H1=>sp (vs ++ p9) H1 Q E
def uo (C:Addr) (m:Str) (sp:Sp) (p9:List V) (E:XK) (ta:TE) (t:TA):TE:=fun σ H Q=>ta σ H fun x H1=>∃ a dx fs,x = .ref a/\H1 a = some (.ins C dx fs)/\fs.lookup m = none/\
 t σ H1 fun vs H2=>sp (x :: (vs ++ p9)) H2 Q E
def AY (C:Addr) (sp:Sp) (p9:List V) (E:XK) (t:TA):TE:=fun σ H Q=>t σ H fun vs H1=>∀ x dx,H1 x = none->H1 dx = none->dx≠x->
 sp (.ref x :: (vs ++ p9)) (upd (upd H1 dx (.own x)) x (.ins C dx [])) (fun v H2=>v = .bQ/\Q (.ref x) H2) E
def Binds (K:PySem.W.Frag) (fd:FuncData) (ps:List Str) (ds:List Value):Prop:=
 ∀ (s:Shared) (us:List Value),K.In s.heap->(us ++ ds).length = ps.length->BindsTo s fd ⟨us,[]⟩ (ps.zip (us ++ ds))
theorem Binds.all {K:PySem.W.Frag} {fd:FuncData} {ps:List Str} (h:∀ us:List Value,us.length = ps.length->bindArgs fd ⟨us,[]⟩ = pure (ps.zip us)):Binds K fd ps []:=fun s us _ hl=>by
 rw [append_nil] at hl ⊢;exact .of_eq (h us hl)
def Passes (CX:qj) (X:Cx) (E:XK):Prop:=∀ (pins:List (Addr×Obj)) (σ : St) (H:Hp) (s:Shared) (e:Value) (s':Shared),Inv X pins σ H s->CX X.stack H s E e s'->X.xe e s'
section
variable {X:Cx} {CX:qj} {k:Nat} {f C:Addr} {fd:FuncData} {ps:List Str} {sp:Sp} {p9:List V} {ds:List Value} {E:XK} {x m:Str} {p pos apos:Pos} {e o:Expr} {es:List Expr} {ta:TE} {t:TA}
theorem wC {pins:List (Addr×Obj)} {σ : St} {H:Hp} {s:Shared} {Q:VK} {us:List Value} {vs:List V} (F:gL X.prog X.w X.K X.mg X.base CX k f fd ps sp) (hr:cu k X.A) (hb:Binds X.K fd ps ds) (hd:Vals p9 ds) (hx:Passes CX X E)
  (I:Inv X pins σ H s) (r:Vals vs us) (h:sp (vs ++ p9) H Q E):wpAny (model X.prog X.w) X.A (call (.ref f) us) (EP X pins σ Q) X.xe s:=by
 have r2:Vals (vs ++ p9) (us ++ ds):=r.append hd;have hl:(us ++ ds).length = ps.length:=by rw [<- r2.length]; exact F.len _ _ _ _ h
 refine wpAny_call (codeAny_mono (F.run X.A X.stack s H ⟨us,[]⟩ (us ++ ds) (vs ++ p9) Q E hr I.K5 (hb s us I.lO hl) r2 h) fun r s' hq=>?_);cases r with
 | error e=>exact hx pins σ H s e s' I hq
 | ok fl=>
  cases fl with
  | ret u=>exact I.after hq
  | next=>exact False.elim hq
  | brk=>exact False.elim hq
  | cont=>exact False.elim hq
theorem DO (F:gL X.prog X.w X.K X.mg X.base CX k f fd ps sp) (hr:cu k X.A) (hg:Gl X x) (hm:X.mg x = some (.ref f)) (hk:PySem.W.keepIn X.K (.ref f) = true) (hb:Binds X.K fd ps ds) (hd:Vals p9 ds) (hx:Passes CX X E)
  (ha:PA X (e :: es) t) (vt:(x == ("__debug__" : Str)) = false:=by decide) (he:starEach (e :: es) X.env = (false,eval e X.env) :: starEach es X.env:=by rfl) (mU:(backTo pos (starEach es X.env)).any (·.1) = false:=by rfl) :
  PE X (.Call (.Name x p) (e :: es) [] pos) (A1 sp p9 E t):=by
 intro pins s σ H Q I h;refine wpAny_Call_Name_kw (mQ I hg hm ?_ vt);refine PySem.W.callWith_K (h₀:=X.base) I.ok.mod.HW hk (cF (ha pos pins s σ H _ I h) fun us s1 ⟨vs,H1,I1,r,q⟩=>⟨I1.lO,?_⟩) he mU;exact wC F hr hb hd hx I1 r q
theorem DK {pl:Sem Bool} (he:PE X o ta) (c:uh X.K C) (hm:Meth X.K C m f) (F:gL X.prog X.w X.K X.mg X.base CX k f fd ps sp) (hr:cu k X.A) (hb:Binds X.K fd ps ds) (hd:Vals p9 ds) (hx:Passes CX X E) (ha:PA X (e :: es) t)
  (BR:starEach (e :: es) X.env = (false,eval e X.env) :: starEach es X.env:=by rfl) (mU:(backTo pos (starEach es X.env)).any (·.1) = false:=by rfl)
  (ht:eval (.Call (.Attribute o m apos) (e :: es) [] pos) X.env = (do
   let ov <- eval o X.env
   standAt apos.atName
   let (f,first) <- holding [ov] (getMethod ov m pl)
   callWith pos f first (backTo pos (starEach (e :: es) X.env)) (backToKw pos (keywordEach [] X.env))):=by rfl) :
  PE X (.Call (.Attribute o m apos) (e :: es) [] pos) (uo C m sp p9 E ta t):=by
 intro pins s σ H Q I h;refine PySem.W.methodCall_KW (pl:=pl) (cF (he pins s σ H _ I h) fun u s1 ⟨x,H1,I1,rx,a,dx,fs,ex,ea,l,q⟩=>?_) ht;subst ex;obtain rfl:u = Value.ref a:=rx;refine jv I1 ea c hm l ?_;refine PySem.W.callWith_K (first:=[.ref a]) (h₀:=X.base) I.ok.mod.HW hm.kp (cF (ha pos pins s1 σ H1 _ I1 q) fun us s2 ⟨vs,H2,I2,r,q2⟩=>⟨I2.lO,?_⟩) BR mU;exact wC (us:=.ref a :: us) (vs:=.ref a :: vs) F hr hb hd hx I2 (.cons rfl r) q2
theorem Bq {pl:Sem Bool} (he:PE X o ta) (c:uh X.K C) (hm:Meth X.K C m f) (F:gL X.prog X.w X.K X.mg X.base CX k f fd ps sp) (hr:cu k X.A) (hb:Binds X.K fd ps ds) (hd:Vals p9 ds) (hx:Passes CX X E)
  (ht:eval (.Call (.Attribute o m apos) [] [] pos) X.env = (do
   let ov <- eval o X.env
   standAt apos.atName
   let (f,first) <- holding [ov] (getMethod ov m pl)
   callWith pos f first (backTo pos (starEach [] X.env)) (backToKw pos (keywordEach [] X.env))):=by rfl) :
  PE X (.Call (.Attribute o m apos) [] [] pos) (uo C m sp p9 E ta um):=by
 intro pins s σ H Q I h;refine PySem.W.methodCall_KW (pl:=pl) (cF (he pins s σ H _ I h) fun u s1 ⟨x,H1,I1,rx,a,dx,fs,ex,ea,l,q⟩=>?_) ht;subst ex;obtain rfl:u = Value.ref a:=rx;refine jv I1 ea c hm l ?_;exact PySem.W.callWith_K0 (first:=[.ref a]) I1.lO hm.kp (wC (us:=[.ref a]) (vs:=[.ref a]) F hr hb hd hx I1 (.cons rfl .nil) q)
structure Mk (K:PySem.W.Frag) (C f:Addr):Prop where
 makes:PySem.W.makesIn K C = true
 init:PySem.W.findIn K (.ref C) "__init__" = some (some (.ref f))
 fn:PySem.W.isFn K (.ref f) = true
 kp:PySem.W.keepIn K (.ref C) = true
theorem A7 {pins:List (Addr×Obj)} {σ : St} {H:Hp} {s:Shared} {Q:VK} {us:List Value} {vs:List V} (M:Mk X.K C f) (F:gL X.prog X.w X.K X.mg X.base CX k f fd ps sp) (hr:cu (k + 1) X.A) (hb:Binds X.K fd ps ds) (hd:Vals p9 ds)
  (hx:Passes CX X E) (I:Inv X pins σ H s) (r:Vals vs us)
  (h:∀ x dx,H x = none->H dx = none->dx≠x->sp (.ref x :: (vs ++ p9)) (upd (upd H dx (.own x)) x (.ins C dx [])) (fun v H2=>v = .bQ/\Q (.ref x) H2) E) :
  wpAny (model X.prog X.w) X.A (call (.ref C) us) (EP X pins σ Q) X.xe s:=by
 have hq:=h (s.heap.objs.size + 1) s.heap.objs.size (I.bF.fresh (Nat.le_succ _)) (I.bF.fresh (Nat.le_refl _)) (Nat.ne_of_lt (Nat.lt_succ_self _));have I2:=Inv.made (C:=C) I;have r2:Vals (V.ref (s.heap.objs.size + 1) :: (vs ++ p9)) (Value.ref (s.heap.objs.size + 1) :: (us ++ ds)):=.cons rfl (r.append hd);have hl:(Value.ref (s.heap.objs.size + 1) :: us ++ ds).length = ps.length:=by
  have e:=r2.length;rw [F.len _ _ _ _ hq] at e;exact e.symm
 refine wpAny_call (BF (f:=f) I.lO M.makes M.init (beq_iff_eq.mp M.fn) (codeAny_mono (F.run _ X.stack _ _ ⟨Value.ref (s.heap.objs.size + 1) :: us,[]⟩ (Value.ref (s.heap.objs.size + 1) :: (us ++ ds)) _ _ E (hr.make C us [])
  (I2.K5.make C us []) (hb _ (Value.ref (s.heap.objs.size + 1) :: us) I2.lO hl) r2 hq) fun r s' Ki=>?_))
 cases r with
 | error e=>exact hx pins σ _ _ e s' I2 Ki
 | ok fl=>
  cases fl with
  | ret u=>
   obtain ⟨v,H',I3,rv,ev,q3⟩:=I2.after Ki;subst ev;exact ⟨rv,⟨V.ref (s.heap.objs.size + 1),H',I3,rfl,q3⟩⟩
  | next=>exact False.elim Ki
  | brk=>exact False.elim Ki
  | cont=>exact False.elim Ki
theorem DM (M:Mk X.K C f) (F:gL X.prog X.w X.K X.mg X.base CX k f fd ps sp) (hr:cu (k + 1) X.A) (hg:Gl X x) (hm:X.mg x = some (.ref C)) (hb:Binds X.K fd ps ds) (hd:Vals p9 ds) (hx:Passes CX X E)
  (ha:PA X (e :: es) t) (vt:(x == ("__debug__" : Str)) = false:=by decide) (he:starEach (e :: es) X.env = (false,eval e X.env) :: starEach es X.env:=by rfl) (mU:(backTo pos (starEach es X.env)).any (·.1) = false:=by rfl) :
  PE X (.Call (.Name x p) (e :: es) [] pos) (AY C sp p9 E t):=by
 intro pins s σ H Q I h;refine wpAny_Call_Name_kw (mQ I hg hm ?_ vt);refine PySem.W.callWith_K (h₀:=X.base) I.ok.mod.HW M.kp (cF (ha pos pins s σ H _ I h) fun us s1 ⟨vs,H1,I1,r,q⟩=>⟨I1.lO,?_⟩) he mU;exact A7 M F hr hb hd hx I1 r q
end
def PK (X:Cx) (RH:List Keyword) (t:TA):Prop:=
 ∀ (pos:Pos) (pins:List (Addr×Obj)) (s:Shared) (σ : St) (H:Hp) (Q:List V->Hp->Prop),Inv X pins σ H s->t σ H Q->wpAny (model X.prog X.w) X.A (evalAll ((backToKw pos (keywordEach RH X.env)).map (·.2))) (AP X pins σ Q) X.xe s
section
variable {X:Cx} {CX:qj} {k:Nat} {f C:Addr} {fd:FuncData} {ps ks:List Str} {sp:Sp} {E:XK} {x m:Str} {p pos apos U3:Pos} {e o:Expr} {es:List Expr} {RH:List Keyword} {te ta:TE} {t tk:TA} {nm:Option Str}
structure Qm (K:PySem.W.Frag) (fd:FuncData) (ps ks:List Str) (g:List Value->List Value->List Value) (gV:List V->List V->List V):Prop where
 to:∀ (s:Shared) (us ws:List Value),K.In s.heap->(g us ws).length = ps.length->BindsTo s fd ⟨us,ks.zip ws⟩ (ps.zip (g us ws))
 rel:∀ {vs:List V} {us:List Value} {zs:List V} {ws:List Value},Vals vs us->Vals zs ws->Vals (gV vs zs) (g us ws)
def Nn (sp:Sp) (gV:List V->List V->List V) (E:XK) (t tk:TA):TE:=fun σ H Q=>t σ H fun vs H1=>tk σ H1 fun zs H2=>sp (gV vs zs) H2 Q E
variable {g:List Value->List Value->List Value} {gV:List V->List V->List V}
end
structure aG (N P:List Str) (sc:Scope):Prop where
 kind:sc.kind = .function
 co:sc.isCoroutine = false
 gen:sc.isGenerator = false
 nd:N.Nodup
 pre:N.take P.length = P
 par:∀ x∈P,sc.names.lookup x = some .local\/sc.names.lookup x = some .cell
 GF:∀ y∈sc.names,y.2≠.free
theorem rM {kindOf:Str->Option NameKind} {x:Str}:∀ {binds:List (Str×Value)} {m:Str->Option Value},(∀ v,(x,v)∉binds)->bindL kindOf binds m x = m x
 | [],_,_=>rfl
 | (n,v) :: r,m,h=>by
  unfold bindL;rw [rM fun w hw=>h w (mem_cons_of_mem _ hw)];split
  ·have:x≠n:=by rintro rfl; exact h v mem_cons_self
   simp [this]
  ·rfl
theorem rO {kindOf:Str->Option NameKind} {x:Str}:∀ {binds:List (Str×Value)} {m:Str->Option Value},(∀ v,(x,v)∉binds)->bindC kindOf binds m x = m x
 | [],_,_=>rfl
 | (n,v) :: r,m,h=>by
  unfold bindC;rw [rO fun w hw=>h w (mem_cons_of_mem _ hw)];split
  ·rfl
  ·have:x≠n:=by rintro rfl; exact h v mem_cons_self
   simp [this]
theorem rN {kindOf:Str->Option NameKind} {x:Str} {v:Value}:∀ {P:List Str} {vs:List Value} {i:Nat} {m:Str->Option Value},P.Nodup->P[i]? = some x->vs[i]? = some v->kindOf x = some .local->
  bindL kindOf (P.zip vs) m x = some v
 | [],_,_,_,_,h,_,_=>by simp at h
 | _ :: _,[],_,_,_,_,h,_=>by simp at h
 | p :: P,w :: vs,0,m,nd,h1,h2,hk=>by
  simp at h1 h2; subst h1; subst h2;show bindL kindOf ((p,w) :: P.zip vs) m p = _;unfold bindL;rw [rM fun v hv=>(List.nodup_cons.mp nd).1 (of_mem_zip hv).1,if_pos hk];simp
 | p :: P,w :: vs,i + 1,m,nd,h1,h2,hk=>by
  show bindL kindOf ((p,w) :: P.zip vs) m x = _;unfold bindL;exact rN (i:=i) (List.nodup_cons.mp nd).2 (by simpa using h1) (by simpa using h2) hk
theorem rP {kindOf:Str->Option NameKind} {x:Str} {v:Value}:∀ {P:List Str} {vs:List Value} {i:Nat} {m:Str->Option Value},P.Nodup->P[i]? = some x->vs[i]? = some v->kindOf x≠some .local->
  bindC kindOf (P.zip vs) m x = some v
 | [],_,_,_,_,h,_,_=>by simp at h
 | _ :: _,[],_,_,_,_,h,_=>by simp at h
 | p :: P,w :: vs,0,m,nd,h1,h2,hk=>by
  simp at h1 h2; subst h1; subst h2;show bindC kindOf ((p,w) :: P.zip vs) m p = _;unfold bindC;rw [rO fun v hv=>(List.nodup_cons.mp nd).1 (of_mem_zip hv).1,if_neg hk];simp
 | p :: P,w :: vs,i + 1,m,nd,h1,h2,hk=>by
  show bindC kindOf ((p,w) :: P.zip vs) m x = _;unfold bindC;exact rP (i:=i) (List.nodup_cons.mp nd).2 (by simpa using h1) (by simpa using h2) hk
def start (N:List Str) (vs:List V):St:=vs.map some ++ List.replicate (N.length - vs.length) none
def gH (CX:qj) (P:Program) (w:World) (K:PySem.W.Frag) (mg:Str->Option Value) (base:Heap) (N:List Str) (qual:Str) (scope:Scope) (f:Addr) (cd:Value) (A:Around) (outer:List Env) (s:Shared) (H:Hp) (E:XK):Cx where
 prog:=P
 w:=w
 K:=K
 mg:=mg
 base:=base
 A:=A.deeper (envOfC qual scope s.heap.objs.size f cd)
 N:=N
 s₀:=s
 H₀:=H
 env:=envOfC qual scope s.heap.objs.size f cd
 outer:=outer
 stack:=envOfC qual scope s.heap.objs.size f cd :: outer
 ex:=[]
 calm:=true
 fn:=fun _=>true
 pn:=[]
 xe:=fun e s'=>wpAny (model P w) (A.deeper (envOfC qual scope s.heap.objs.size f cd)) (leaving (envOfC qual scope s.heap.objs.size f cd) e) (fun _ Ds=>CX outer H s E e Ds) (fun e' Ds=>CX outer H s E e' Ds) s'
theorem vL {sc:Scope} {n:Nat} {x:Str} (h:sc.names.lookup x = some .cell):∃ c,(cellsFrom n sc.names []).lookup x = some c:=by
 have q:=PySem.W.cellsFrom_some sc.names n [] (.inl h);exact Option.isSome_iff_exists.mp q
theorem zQ {CX:qj} {P:Program} {w:World} {K:PySem.W.Frag} {mg:Str->Option Value} {base:Heap} {N ps:List Str} {qual:Str} {scope:Scope} {f:Addr} {cd:Value} {A:Around} {outer:List Env} {s s1:Shared} {H:Hp} {E:XK} {us:List Value} {vs:List V}
  (S:aG N ps scope) (hd:A.handled = none) (e0:xN P w K mg base A outer s H) (hl:vs.length = ps.length) (r:Vals vs us)
  (x:InCallC s s.heap.objs.size (bindL (envOfC qual scope s.heap.objs.size f cd).kindOf (ps.zip us) fun _=>none) (cellsFrom (s.heap.objs.size + 1) scope.names []) (bindC (envOfC qual scope s.heap.objs.size f cd).kindOf (ps.zip us) fun _=>none) s1) :
  Inv (gH CX P w K mg base N qual scope f cd A outer s H E) [] (start N vs) H s1:=by
 have mU:ps.length<=N.length:=by have:=congrArg List.length S.pre; rw [length_take] at this; omega
 obtain ⟨h1,tk,rfl,hk⟩:=x.done;have JF:∀ b:Addr,b∉(gH CX P w K mg base N qual scope f cd A outer s H E).ex:=fun b z=>absurd (show b∈([]:List Addr) from z) (by simp);refine ⟨⟨e0.mod,S.kind,rfl,rfl,Nat.le_refl _,fun y z c h1 h2=>?_,fun y hy=>?_,fun y c _ h=>?_,fun _=>hd,Around.frames_deeper e0.frames,.inr ⟨rfl,rfl⟩,fun b z=>absurd z (JF b),e0.bs,e0.Cw,fun b _ _=>JF b,fun b z=>absurd z (JF b),e0.ja,e0.CU⟩,
  rfl,e0.bare,Un.kept hk,⟨_,x.toInCall.ns,fun i y v h1 h2 h3=>?_⟩,fun y c h=>⟨_,x.cell y c h⟩,e0.bF.fresh (Nat.le_refl _),fun y c h=>?_,fun p hp=>absurd (show p∈([]:List (Addr×Obj)) from hp) (by simp),e0.bF.kept hk,?_⟩
 ·exact name_of_addr x.apart (PySem.mem_of_lookup h1) (PySem.mem_of_lookup h2)
 ·have hy:scope.names.lookup y = some .cell\/scope.names.lookup y = some .free:=hy;rcases hy with hy | hy
  ·exact vL hy
  ·exact absurd rfl (S.GF _ (PySem.mem_of_lookup hy))
 ·exact Nat.le_of_lt (x.above y c (PySem.mem_of_lookup h))
 ·have hi:i < vs.length:=by
   unfold start at h2;by_cases hi:i < vs.length
   ·exact hi
   ·rw [getElem?_append_right (by simpa using hi)] at h2;rw [getElem?_replicate] at h2;split at h2 <;> cases h2
  have ha:vs[i]? = some v:=by
   unfold start at h2;rw [getElem?_append_left (by simpa using hi),getElem?_map] at h2;cases e:vs[i]? with
   | none=>rw [e] at h2; cases h2
   | some a=>rw [e] at h2; cases h2; rfl
  obtain ⟨u,hu,rv⟩:=r.get ha;have hp:ps[i]? = some y:=by
   rw [<- S.pre,getElem?_take_of_lt (by omega)]; exact h1
  have Rv:ps.Nodup:=by rw [<- S.pre]; exact S.nd.sublist (take_sublist _ _)
  refine ⟨u,rv,?_⟩;rcases S.par y (mem_of_getElem? hp) with k | k
  ·exact .inl ⟨k,rN Rv hp hu k⟩
  ·obtain ⟨c,e⟩:=vL (n:=s.heap.objs.size + 1) k;refine .inr ⟨.inl k,c,e,?_⟩;have q:=x.cell y c e;rw [rP Rv hp hu (by show scope.names.lookup y≠_; rw [k]; decide)] at q;exact q
 ·exact e0.bF.fresh (Nat.le_of_lt (x.above y c (PySem.mem_of_lookup h)))
 ·unfold start;show _ = N.length;rw [length_append,length_map,length_replicate];omega
theorem vA {CX:qj} {P:Program} {w:World} {K:PySem.W.Frag} {mg:Str->Option Value} {base:Heap} {k:Nat} {f:Addr} {name qual:Str} {params:Arguments} {body:List Stmt} {scope:Scope} {dV kV doc pm bN ct oc:Value} {an od:Option Addr}
  {Ax:Array (Option Value)} {N ps:List Str} {sp:Sp} (lk:K.lookup f = some ⟨oc,od,.func (PySem.W.fnOf name qual params body scope dV kV doc pm an bN ct),Ax⟩) (tE:PySem.W.codeIn K bN qual = true) (S:aG N ps scope)
  (len:∀ vs H Q E,sp vs H Q E->vs.length = ps.length)
  (eg:∀ (A:Around) (outer:List Env) (s:Shared) (H:Hp) (vs:List V) (Q:VK) (E:XK),cu k (A.deeper (envOfC qual scope s.heap.objs.size f bN))->sp vs H Q E->
   ∃ t,pj (gH CX P w K mg base N qual scope f bN A outer s H E) body t/\t { nx:=fun _ H'=>Q .bQ H',rt:=Q } (start N vs) H) :
  gL P w K mg base CX (k + 1) f (PySem.W.fnOf name qual params body scope dV kV doc pm an bN ct) ps sp:=by
 refine ⟨len,fun A outer s H args us vs Q E hr e0 hb r qU=>?_⟩;have hl:=len _ _ _ _ qU;have KX:K.In s.heap:=e0.mod.HW.keeps fun b o e=>(e0.bs b o e).1;have lim:s.heap.NoLimit:=e0.mod.nolimit.keeps fun b o e=>(e0.bs b o e).1;have Ko:∀ y∈ps.zip us,scope.names.lookup y.1 = some .local\/(scope.names.lookup y.1 = some .cell/\((cellsFrom (s.heap.objs.size + 1) scope.names []).lookup y.1).isSome = true):=fun ⟨n,v⟩ hy=>by
  rcases S.par n (of_mem_zip hy).1 with q | q
  ·exact .inl q
  ·exact .inr ⟨q,PySem.W.cellsFrom_some _ _ _ (.inl q)⟩
 refine codeAny_call_function hr.depth (KX _ _ lk) rfl S.co S.gen rfl (PySem.W.codeRec_of KX tE) (hb _ _ _ _ ?_);refine wpAny_newFunctionEnv_cells S.kind Ko fun env he s1 x=>?_;subst he;refine ⟨lim.keeps x.toInCall.keep,codeAny_func ?_⟩;obtain ⟨t,ht,hq⟩:=eg A outer s H vs Q E (hr.deeper _) qU;have I:Inv (gH CX P w K mg base N qual scope f bN A outer s H E) [] (start N vs) H s1:=zQ S hr.hd e0 hl r x;refine wpAny_mono (ht [] s1 (start N vs) H _ I hq) (fun fl s' hs=>?_) fun e s' hs=>hs;have fin:∀ {σ':St} {H':Hp} {v:V} {u:Value},Inv (gH CX P w K mg base N qual scope f bN A outer s H E) [] σ' H' s'->RelV v u->Q v H'->CE outer P w H s Q u s':=
  fun {σ' H' v u} J rv q=>⟨v,H',J.os,J.bare,J.base,J.bF,rv,q⟩
 cases fl with
 | ret u=>
  obtain ⟨v,σ',H',J,rv,q⟩:=hs;exact fin J rv q
 | next=>
  obtain ⟨σ',H',J,q⟩:=hs;exact fin (v:=V.bQ) (u:=Value.none) J rfl q
 | brk=>
  obtain ⟨_,_,_,q⟩:=hs;exact False.elim q
 | cont=>
  obtain ⟨_,_,_,q⟩:=hs;exact False.elim q
section
variable {X:Cx} {x:Str} {p pos:Pos} {e:Expr} {es:List Expr} {t:TA} {id T:String} {r:List V->Hp->VK->Prop}
def LO (r:List V->Hp->VK->Prop) (t:TA):TE:=fun σ H Q=>t σ H fun vs H1=>r vs H1 Q
theorem ar (hc:fL X (.builtin id) r) (hg:Gl X x) (hm:X.mg x = none) (hv:bootBuiltins x = some (.builtin id)) (ha:PA X (e :: es) t) (hn:x≠ "__name__":=by decide) (vt:(x == ("__debug__" : Str)) = false:=by decide)
  (he:starEach (e :: es) X.env = (false,eval e X.env) :: starEach es X.env:=by rfl) (mU:(backTo pos (starEach es X.env)).any (·.1) = false:=by rfl):PE X (.Call (.Name x p) (e :: es) [] pos) (LO r t):=by
 intro pins s σ H Q I h;refine wpAny_Call_Name_kw (iH I hg hm hv ?_ hn vt);exact PyProof.Rows.callWith_builtin1 (cF (ha pos pins s σ H _ I h) fun us s1 ⟨vs,H1,I1,r1,q1⟩=>hc pins s1 σ H1 vs us Q I1 r1 q1) he mU
theorem kP (hc:fL X (.type T) r) (hg:Gl X x) (hm:X.mg x = none) (hv:bootBuiltins x = some (.type T)) (ha:PA X (e :: es) t) (hn:x≠ "__name__":=by decide) (vt:(x == ("__debug__" : Str)) = false:=by decide)
  (he:starEach (e :: es) X.env = (false,eval e X.env) :: starEach es X.env:=by rfl) (mU:(backTo pos (starEach es X.env)).any (·.1) = false:=by rfl):PE X (.Call (.Name x p) (e :: es) [] pos) (LO r t):=by
 intro pins s σ H Q I h;refine wpAny_Call_Name_kw (iH I hg hm hv ?_ hn vt);exact PyProof.Rows.callWith_type1 (cF (ha pos pins s σ H _ I h) fun us s1 ⟨vs,H1,I1,r1,q1⟩=>hc pins s1 σ H1 vs us Q I1 r1 q1) he mU
end
end L2
namespace HT
open PySem PyProof.Rows
def lexLt:List Int->List Int->Bool
 | [],[]=>false
 | [],_ :: _=>true
 | _ :: _,[]=>false
 | x :: xs,y :: ys=>if x = y then lexLt xs ys else decide (x < y)
theorem fi (x y:Int) (xs ys:List Int):lexLt (x :: xs) (y :: ys) = if x = y then lexLt xs ys else decide (x < y):=rfl
theorem pV:lexLt [] [] = false:=rfl
theorem ow (y:Int) (ys:List Int):lexLt [] (y :: ys) = true:=rfl
theorem ox (x:Int) (xs:List Int):lexLt (x :: xs) [] = false:=rfl
theorem Cc (A:Around) (s:Shared) (a:Int) (t:Tok) (c:Int) (u:Tok):∃ e,SeqAt.EqAt A s (.int a t) (.int c u) e/\(e = true↔a = c):=
 ⟨(a == c),SeqAt.EqAt.int_int a t c u,by simp⟩
theorem A9 (A:Around) (s:Shared) (a:Int) (t:Tok) (c:Int) (u:Tok) (prog:Program) (w:World) (E:Value->Shared->Prop) (Q:Value->Shared->Prop) (h:Q (.bool (decide (a < c))) s) :
  wpAny (model prog w) A (richCompare .Lt (.int a t) (.int c u)) Q E s:=
 (PyProof.Rows.lt_int h:wpAny (model prog w) A (compareOp .Lt (.int a t) (.int c u)) Q E s)
section
variable {prog:Program} {w:World} {A:Around} {E:Value->Shared->Prop} {s:Shared}
def ky (n d:Nat):Option Int->Nat
 | none=>d
 | some v=>if v < 0 then (v + (n:Int)).toNat else min v.toNat n
theorem x6 (n d k:Nat):ky n d (some (k:Int)) = min k n:=by
 show (if (k:Int) < 0 then ((k:Int) + (n:Int)).toNat else min (k:Int).toNat n) = min k n;rw [if_neg (by omega),Int.toNat_natCast]
end
end HT
namespace L2
open PySem PySem.Spec PyProof.Rows
abbrev TO:=St->Hp->(Option Int->Hp->Prop)->Prop
def PO (X:Cx) (e:Option Expr) (t:TO):Prop:=
 ∀ (pins:List (Addr×Obj)) (s:Shared) (σ : St) (H:Hp) (Q:Option Int->Hp->Prop),Inv X pins σ H s->t σ H Q->
  wpAny (model X.prog X.w) X.A (evalPart e X.env) (fun u s'=>∃ o H',Inv X pins σ H' s'/\IsPart u o/\Q o H') X.xe s
def dz:TO:=fun _ H Q=>Q none H
def m9 (t:TE):TO:=fun σ H Q=>t σ H fun x H1=>∃ i,x = .int i/\Q (some i) H1
theorem intsAre_of {ns:List Int}:∀ {us:List Value},Vals (ns.map V.int) us->IntsAre us ns:=by
 induction ns with
 | nil=>intro us r; rw [map_nil] at r; cases r; exact .nil
 | cons n ns ih=>
  intro us r;rw [map_cons] at r;cases r with
  | cons r1 r2=>
   obtain ⟨t,e⟩:=r1;subst e;exact .cons n t (ih r2)
section
variable {X:Cx} {e:Expr} {te:TE} {lo hi:Option Expr} {tl th:TO} {pos p2:Pos}
theorem bE:PO X none dz:=by
 intro pins s σ H Q I h;rw [evalPart_none];exact wpAny_pure ⟨none,H,I,.none,h⟩
theorem cS (h:PE X e te):PO X (some e) (m9 te):=by
 intro pins s σ H Q I hw;rw [evalPart_some];refine cF (h pins s σ H _ I hw) fun u s1 ⟨x,H1,I1,r1,q1⟩=>?_;obtain ⟨i,rfl,q⟩:=q1;obtain ⟨t,rfl⟩:=r1;exact ⟨some i,H1,I1,.int i t,q⟩
def Qf (X:Cx) (r:V->Option Int->Option Int->Hp->VK->Prop):Prop:=
 ∀ (pins:List (Addr×Obj)) (s:Shared) (σ : St) (H:Hp) (x:V) (v vl vu:Value) (lo hi:Option Int) (sl:Addr) (Q:VK),Inv X pins σ H s->RelV x v->s.heap.IsSliceOf sl vl vu .none->IsPart vl lo->IsPart vu hi->r x lo hi H Q->
  ∃ T id,typeLookup (.type T) "__getitem__" = pure (some (.builtin id))/\s.TypeIs v T/\wpAny (model X.prog X.w) X.A (getItem v (.ref sl)) (EP X pins σ Q) X.xe s
def De (r:V->Option Int->Option Int->Hp->VK->Prop) (te:TE) (tl th:TO):TE:=fun σ H Q=>te σ H fun x H1=>tl σ H1 fun l H2=>th σ H2 fun u H3=>r x l u H3 Q
theorem bH {r:V->Option Int->Option Int->Hp->VK->Prop} (hr:Qf X r) (he:PE X e te) (hl:PO X lo tl) (hu:PO X hi th):PE X (.Subscript e (.Slice lo hi none p2) pos) (De r te tl th):=by
 intro pins s σ H Q I h;refine Subscript_ (cF (he pins s σ H _ I h) fun v s1 ⟨x,H1,I1,r1,q1⟩=>?_);refine wpAny_Slice (cF (hl pins s1 σ H1 _ I1 q1) fun vl s2 ⟨l,H2,I2,pl,q2⟩=>cF (hu pins s2 σ H2 _ I2 q2) fun vu s3 ⟨u,H3,I3,pu,q3⟩=>?_);rw [evalPart_none];refine wpAny_pure ?_;have I4:Inv X pins σ H3 { s3 with heap:=s3.heap.push { cls:=.type "slice",data:=.fields #[vl,vu,.none] } }:=I3.kept (t':=s3.toks) fun b ob q=>Heap.get?_push_of_some _ q;obtain ⟨T,id,hT,ht,hg⟩:=hr pins { s3 with heap:=s3.heap.push { cls:=.type "slice",data:=.fields #[vl,vu,.none] } } σ H3 x v vl vu l u s3.heap.objs.size Q I4 r1 (Heap.IsSliceOf.new ..) pl pu q3;show wpAny (model X.prog X.w) X.A (subscriptTail e (.Slice lo hi none p2) v (.ref s3.heap.objs.size)) (EP X pins σ Q) X.xe { s3 with heap:=s3.heap.push { cls:=.type "slice",data:=.fields #[vl,vu,.none] } };exact tail_any (ops:=[.ref s3.heap.objs.size,v]) ht hT hg (by with_unfolding_all rfl)
def iM (xs:List V) (lo hi:Option Int):List V:=(xs.drop (HT.ky xs.length 0 lo)).take (HT.ky xs.length xs.length hi - HT.ky xs.length 0 lo)
theorem vJ (xs:List V) (lo hi:Option Int):(iM xs lo hi).length<=xs.length:=by
 unfold iM;rw [length_take,length_drop];omega
def T6 (K:PySem.W.Frag):V->Option Int->Option Int->Hp->VK->Prop:=fun x lo hi H Q=>∃ a xs,x = .ref a/\SqT K H a xs/\
 ¬ (HT.ky xs.length 0 lo = 0/\HT.ky xs.length xs.length hi = xs.length)/\∀ p,H p = none->Q (.ref p) (upd H p (.tup (iM xs lo hi)))
def T8 (K:PySem.W.Frag):R2:=fun x y H Q=>∃ a b ns ms,x = .ref a/\y = .ref b/\SqT K H a (ns.map V.int)/\SqT K H b (ms.map V.int)/\Q (.bl (HT.lexLt ns ms)) H
def Ra (K:PySem.W.Frag):R2:=fun x y H Q=>∃ a b xs ys,x = .ref a/\y = .ref b/\SqT K H a xs/\SqT K H b ys/\xs≠[]/\xs.length + ys.length<=sizeLine/\
 (ys = []->Q (.ref a) H)/\(ys≠[]->∀ p,H p = none->Q (.ref p) (upd H p (.tup (xs ++ ys))))
end
def AA (n:Nat) (i:Int):Option Nat:=if 0<=i then (if i < n then some i.toNat else none) else if -(n:Int)<=i then some (i + n).toNat else none
def gT {α : Type} (xs:List α) (i:Int):Option α:=(AA xs.length i).bind fun j=>xs[j]?
theorem yB {n:Nat} {i:Int} {j:Nat} (h:AA n i = some j):seqIndex? i n = some j/\j < n/\-(n:Int)<=i/\i < n:=by
 unfold AA at h;by_cases h0:0<=i
 ·rw [if_pos h0] at h;by_cases h1:i < n
  ·rw [if_pos h1] at h;have e:i.toNat = j:=Option.some.inj h;exact ⟨by rw [seqIndex_of h0 h1,e],by omega,by omega,h1⟩
  ·rw [if_neg h1] at h; cases h
 ·rw [if_neg h0] at h;by_cases h1 : -(n:Int)<=i
  ·rw [if_pos h1] at h;have e:(i + n).toNat = j:=Option.some.inj h;exact ⟨by rw [seqIndex_neg (by omega) h1,e],by omega,h1,by omega⟩
  ·rw [if_neg h1] at h; cases h
theorem y9 {α : Type} {xs:List α} {i:Int} {v : α} (h:gT xs i = some v):∃ j,seqIndex? i xs.length = some j/\xs[j]? = some v/\j < xs.length/\-(xs.length:Int)<=i/\i < xs.length:=by
 unfold gT at h;cases e:AA xs.length i with
 | none=>rw [e] at h; cases h
 | some j=>
  rw [e] at h;obtain ⟨h1,h2,h3,h4⟩:=yB e;exact ⟨j,h1,h,h2,h3,h4⟩
theorem eO {α : Type} {xs:List α} {j:Nat} {v : α} (h:xs[j]? = some v):gT xs (j:Int) = some v:=by
 have hj:j < xs.length:=(List.getElem?_eq_some_iff.mp h).1;have e:AA xs.length (j:Int) = some j:=by
  unfold AA;rw [if_pos (by omega),if_pos (by omega)]; simp
 unfold gT; rw [e]; exact h
theorem Cz {α : Type} (xs:List α) (v : α):gT (xs ++ [v]) (-1) = some v:=by
 have hl:(xs ++ [v]).length = xs.length + 1:=by simp
 have e:AA (xs ++ [v]).length (-1) = some xs.length:=by
  unfold AA;rw [hl,if_neg (by decide),if_pos (by omega)]
  congr 1
  omega
 unfold gT;rw [e];show (xs ++ [v])[xs.length]? = some v;simp
def EL (b:Expr):Prop:=∀ o i,subscripted b false o i = operate [o,i] (getItem o i)
def MW (X:Cx) (r:R2):Prop:=
 ∀ (value slice:Expr) (pins:List (Addr×Obj)) (s:Shared) (σ : St) (H:Hp) (x y:V) (v u:Value) (Q:VK),Inv X pins σ H s->RelV x v->RelV y u->r x y H Q->
  subscripted slice false v u = operate [v,u] (getItem v u)->wpAny (model X.prog X.w) X.A (subscriptTail value slice v u) (EP X pins σ Q) X.xe s
def Qi (X:Cx) (id:String) (r:V->List V->Hp->VK->Prop):Prop:=
 ∀ (pins:List (Addr×Obj)) (s:Shared) (σ : St) (H:Hp) (x:V) (xs:List V) (v:Value) (us:List Value) (Q:VK),Inv X pins σ H s->RelV x v->Vals xs us->r x xs H Q->
  wpAny (model X.prog X.w) X.A (call (.builtin id) (v :: us)) (EP X pins σ Q) X.xe s
section
variable {X:Cx} {a b:Expr} {ta tb:TE} {pos:Pos}
theorem aI {r:R2} (hr:MW X r) (ha:PE X a ta) (hb:PE X b tb) (hs:EL b):PE X (.Subscript a b pos) (HQ r ta tb):=by
 intro pins s σ H Q I h;exact Subscript_ (HC ha hb I h fun v u s2 x y H2 I2 rx ry q=>hr a b pins s2 σ H2 x y v u Q I2 rx ry q (hs _ _))
def DE (K:PySem.W.Frag):R2:=fun x y H Q=>∃ p xs i v,x = .ref p/\y = .int i/\aw K H p xs/\gT xs i = some v/\Q v H
def Gn (K:PySem.W.Frag):R2:=fun x y H Q=>∃ p xs i v,x = .ref p/\y = .int i/\SqT K H p xs/\gT xs i = some v/\Q v H
def NM:R2:=fun x y H Q=>∃ z i c,x = .str z/\y = .int i/\z.length<=sizeLine/\gT z.cps.toList i = some c/\Q (.str ⟨#[c]⟩) H
theorem au:MW X (DE X.K):=by
 intro value slice pins s σ H x y v u Q I rx ry h hs;obtain ⟨p,xs,i,z,rfl,rfl,hq,he,q⟩:=h;cases rx
 obtain ⟨t,rfl⟩:=ry;obtain ⟨aO,r,pl,hz⟩:=I.list hq;obtain ⟨j,h1,h2,h3,h4,h5⟩:=y9 he;obtain ⟨w,ew,A6⟩:=r.get h2;have hl:=r.length;have hn:=kX;have fin:EP X pins σ Q w s:=⟨z,H,I,A6,q⟩;by_cases h0:0<=i
 ·have hj:i.toNat = j:=by
   rw [seqIndex_of h0 h5] at h1;exact Option.some.inj h1
  exact item_listR pl.isList h0 (by omega) (by rw [hj]; simpa using ew) fin hs
 ·have hj:(i + (aO.toArray.size:Int)).toNat = j:=by
   rw [seqIndex_neg (by omega) h4] at h1;rw [size_toArray,<- hl];exact Option.some.inj h1
  exact subscriptTail_builtinR (x:=w) pl.isList.typeIs slot_list_getitem.lookup
   (wpAny_getItem_list_neg (Q:=fun r s'=>r = w/\EP X pins σ Q r s') pl.isList (by omega) (by rw [size_toArray] <;> omega) (by omega) (by rw [hj]; simpa using ew) ⟨rfl,fin⟩) hs
theorem oE:MW X (Gn X.K):=by
 intro value slice pins s σ H x y v u Q I rx ry h hs;obtain ⟨p,xs,i,z,rfl,rfl,hq,he,q⟩:=h;cases rx
 obtain ⟨t,rfl⟩:=ry;obtain ⟨aO,r,pl,hz⟩:=I.tuple hq;obtain ⟨j,h1,h2,h3,h4,h5⟩:=y9 he;obtain ⟨w,ew,A6⟩:=r.get h2;have hl:=r.length;have hn:=kX;have fin:EP X pins σ Q w s:=⟨z,H,I,A6,q⟩;exact subscriptTail_builtinR (x:=w) pl.typeIs slot_tuple_getitem.lookup
  (getItem_tuple (j:=j) (Q:=fun r s'=>r = w/\EP X pins σ Q r s') pl (by omega) (by omega) (by rw [size_toArray,<- hl]; exact h1) (by simpa using ew) ⟨rfl,fin⟩) hs
def Xp (K:PySem.W.Frag):R2:=fun x y H Q=>DE K x y H Q\/Gn K x y H Q\/NM x y H Q
theorem wR (aO:List Value) (n j:Nat) (u:Value):Obj.mapSeq (·.setIfInBounds j u) { cls:=.type "list",data:=.seq aO.toArray n } = { cls:=.type "list",data:=.seq (aO.set j u).toArray n }:=by
 simp [Obj.mapSeq]
theorem Inv.lst {pins:List (Addr×Obj)} {σ : St} {H:Hp} {s:Shared} {p:Addr} {xs:List V} (I:Inv X pins σ H s) (h:H p = some (.lst xs)) :
  ∃ (aO:List Value) (n:Nat),Vals xs aO/\s.heap.get? p = some { cls:=.type "list",data:=.seq aO.toArray n }/\xs.length<=sizeLine:=by
 obtain ⟨z,aO,n,r,e⟩:=I.bF p _ h;exact ⟨aO,n,r,e,z⟩
theorem Inv.GJ {pins:List (Addr×Obj)} {σ : St} {H:Hp} {s:Shared} {p:Addr} {xs ys:List V} {aO its':List Value} {n n':Nat} {f:Obj->Obj} (I:Inv X pins σ H s) (h:H p = some (.lst xs))
  (ho:s.heap.get? p = some { cls:=.type "list",data:=.seq aO.toArray n }) (hf:f { cls:=.type "list",data:=.seq aO.toArray n } = { cls:=.type "list",data:=.seq its'.toArray n' }) (r:Vals ys its') (hz:ys.length<=sizeLine) (t:Nat) :
  Inv X pins σ (upd H p (.lst ys)) { s with heap:=s.heap.update p f,toks:=t }:=by
 have e:(s.heap.update p f).get? p = some { cls:=.type "list",data:=.seq its'.toArray n' }:=by
  rw [Heap.get?_update_self f ho (by rw [hf] <;> rfl),hf]
 refine I.write (x:=p) (e:=p) (by rw [h]; trivial) (.inl rfl) (fun b u hb q=>(Heap.get?_update_other _ _ (Ne.symm hb)).trans q) ⟨_,e⟩ ?_;exact ⟨hz,its',n',r,e⟩
def Jn:V->V->V->Hp->(Hp->Prop)->Prop:=fun o i v H Q=>∃ p xs k j,o = .ref p/\i = .int k/\H p = some (.lst xs)/\AA xs.length k = some j/\Q (upd H p (.lst (xs.set j v)))
theorem set_list:Lz X Jn:=by
 intro pins s σ H o i v ov iv u Q I ro ri rv h;obtain ⟨p,xs,k,j,rfl,rfl,hp,hj,q⟩:=h;cases ro
 obtain ⟨t,rfl⟩:=ri;obtain ⟨aO,n,r,ho,hz⟩:=I.lst hp;obtain ⟨h1,h2,h3,h4⟩:=yB hj;have hl:=r.length;have hn:=kX;have I':Inv X pins σ (upd H p (.lst (xs.set j v))) { s with heap:=s.heap.update p (Obj.mapSeq (·.setIfInBounds j u)) }:=
  I.GJ hp ho (wR aO n j u) (r.set rv j) (by rw [length_set]; exact hz) s.toks
 by_cases h0:0<=k
 ·have hk:k.toNat = j:=by
   rw [seqIndex_of h0 h4] at h1;exact Option.some.inj h1
  exact PySem.W.ki_setAt ho h0 (by omega) (by rw [size_toArray,<- hl]; exact h4) (by rw [hk]; exact ⟨_,I',q⟩)
 ·have hk:(k + (aO.toArray.size:Int)).toNat = j:=by
   rw [seqIndex_neg (by omega) h3] at h1;rw [size_toArray,<- hl];exact Option.some.inj h1
  exact PySem.W.ki_setBack ho (by omega) (by rw [size_toArray,<- hl]; exact h3) (by omega) (by rw [hk]; exact ⟨_,I',q⟩)
theorem sg (lo hi:Option Int) (n:Nat):(sliceBounds lo hi none n).1 = ((HT.ky n 0 lo:Nat):Int)/\(sliceBounds lo hi none n).2.1 = ((HT.ky n n hi:Nat):Int)/\(sliceBounds lo hi none n).2.2 = 1:=by
 refine ⟨?_,?_,rfl⟩
 ·cases lo with
  | none=>simp [sliceBounds,HT.ky]
  | some i=>
   simp only [sliceBounds,HT.ky,Option.getD_none,show (1:Int) > 0 by decide,if_true];by_cases h:i < 0
   ·simp only [h,if_true] <;> omega
   ·simp only [h,if_false] <;> omega
 ·cases hi with
  | none=>simp [sliceBounds,HT.ky]
  | some i=>
   simp only [sliceBounds,HT.ky,Option.getD_none,show (1:Int) > 0 by decide,if_true];by_cases h:i < 0
   ·simp only [h,if_true] <;> omega
   ·simp only [h,if_false] <;> omega
theorem pJ (aO:List Value) (lo hi:Option Int):slicePick aO.toArray lo hi none = ((aO.drop (HT.ky aO.length 0 lo)).take (HT.ky aO.length aO.length hi - HT.ky aO.length 0 lo)).toArray:=by
 obtain ⟨h1,h2,h3⟩:=sg lo hi aO.toArray.size;unfold slicePick;rw [h1,h2,h3];simp only [sliceRange_one,pick_run,size_toArray] <;> rfl
def sE (K:PySem.W.Frag):V->Option Int->Option Int->Hp->VK->Prop:=fun x lo hi H Q=>∃ a xs,x = .ref a/\aw K H a xs/\∀ p,H p = none->Q (.ref p) (upd H p (.lst (iM xs lo hi)))
theorem dA:Qf X (sE X.K):=by
 intro pins s σ H x v vl vu lo hi sl Q I rx hs pl pu h;obtain ⟨a,xs,rfl,hx,q⟩:=h;cases rx
 obtain ⟨aO,r,ht,hz⟩:=I.list hx;have hlen:=r.length;refine ⟨"list",_,slot_list_getitem.lookup,ht.isList.typeIs,?_⟩;refine wpAny_getItem_list_slice ht.isList hs pl pu .none (by simp) ?_ (by rw [size_toArray] <;> omega);rw [pJ,<- hlen];refine ⟨.ref s.heap.objs.size,_,I.laid (t':=s.toks) (o:=.lst (iM xs lo hi)) (fun b ob q=>Heap.get?_push_of_some _ q) (Nat.le_refl _) ?_,rfl,q _ (I.bF.fresh (Nat.le_refl _))⟩;exact ⟨Nat.le_trans (vJ xs lo hi) hz,_,0,(r.drop (HT.ky xs.length 0 lo)).take (HT.ky xs.length xs.length hi - HT.ky xs.length 0 lo),Heap.get?_push_size _ rfl⟩
def ki:V->Bool
 | .bQ=>true
 | .bl _=>true
 | .int _=>true
 | .str _=>true
 | _=>false
def Ew:V->V->Bool
 | .bQ,.bQ=>true
 | .bl a,.bl b=>a == b
 | .bl a,.int b=>(if a then 1 else 0) == b
 | .int a,.bl b=>a == (if b then 1 else 0)
 | .int a,.int b=>a == b
 | .str a,.str b=>a == b
 | _,_=>false
theorem Hn {A:Around} {s:Shared} {y x:V} {u v:Value} (ry:RelV y u) (rx:RelV x v) (fy:ki y = true) (fx:ki x = true):SeqAt.EqAt A s u v (Ew y x):=by
 cases y with
 | bQ=>
  cases ry
  cases x with
  | bQ=>cases rx; exact SeqAt.EqAt.same _
  | bl b=>cases rx; exact SeqAt.EqAt.none_bool b
  | int b=>obtain ⟨t,rfl⟩:=rx; exact SeqAt.EqAt.none_int b t
  | str b=>obtain ⟨t,rfl⟩:=rx; exact SeqAt.EqAt.none_str b t
  | _=>exact absurd (show false = true from fx) Bool.false_ne_true
 | bl a=>
  cases ry
  cases x with
  | bQ=>cases rx; exact SeqAt.EqAt.bool_none a
  | bl b=>cases rx; exact SeqAt.EqAt.bool_bool a b
  | int b=>obtain ⟨t,rfl⟩:=rx; exact SeqAt.EqAt.bool_int a b t
  | str b=>obtain ⟨t,rfl⟩:=rx; exact SeqAt.EqAt.bool_str a b t
  | _=>exact absurd (show false = true from fx) Bool.false_ne_true
 | int a=>
  obtain ⟨t',rfl⟩:=ry;cases x with
  | bQ=>cases rx; exact SeqAt.EqAt.int_none a t'
  | bl b=>cases rx; exact SeqAt.EqAt.int_bool a t' b
  | int b=>obtain ⟨t,rfl⟩:=rx; exact SeqAt.EqAt.int_int a t' b t
  | str b=>obtain ⟨t,rfl⟩:=rx; exact SeqAt.EqAt.int_str a t' b t
  | _=>exact absurd (show false = true from fx) Bool.false_ne_true
 | str a=>
  obtain ⟨t',rfl⟩:=ry;cases x with
  | bQ=>cases rx; exact SeqAt.EqAt.str_none a t'
  | bl b=>cases rx; exact SeqAt.EqAt.str_bool a t' b
  | int b=>obtain ⟨t,rfl⟩:=rx; exact SeqAt.EqAt.str_int a t' b t
  | str b=>obtain ⟨t,rfl⟩:=rx; exact SeqAt.EqAt.str_str a t' b t
  | _=>exact absurd (show false = true from fx) Bool.false_ne_true
 | _=>exact absurd (show false = true from fy) Bool.false_ne_true
def xx (x:V) (u:Value):Bool:=match u with
 | .none=>Ew .bQ x
 | .bool b=>Ew (.bl b) x
 | .int i _=>Ew (.int i) x
 | .str z _=>Ew (.str z) x
 | _=>false
theorem Cb {x y:V} {u:Value} (r:RelV y u) (f:ki y = true):xx x u = Ew y x:=by
 cases y with
 | bQ=>cases r; rfl
 | bl b=>cases r; rfl
 | int i=>obtain ⟨t,rfl⟩:=r; rfl
 | str z=>obtain ⟨t,rfl⟩:=r; rfl
 | _=>exact absurd (show false = true from f) Bool.false_ne_true
theorem ko {x:V}:∀ {xs:List V} {us:List Value},Vals xs us->xs.all ki = true->us.any (xx x) = xs.any fun y=>Ew y x
 | _,_,.nil,_=>rfl
 | y :: xs,u :: us,.cons r t,f=>by
  rw [all_cons,Bool.and_eq_true] at f;rw [any_cons,any_cons,Cb r f.1,ko t f.2]
theorem iG {A:Around} {s:Shared} {x:V} {v:Value} (rx:RelV x v) (fx:ki x = true):∀ {xs:List V} {us:List Value},Vals xs us->xs.all ki = true->∀ u∈us,SeqAt.EqAt A s u v (xx x u)
 | _,_,.nil,_=>fun u hu=>by cases hu
 | y :: xs,u :: us,.cons r t,f=>fun u' hu=>by
  rw [all_cons,Bool.and_eq_true] at f;rcases List.mem_cons.mp hu with rfl | hu
  ·rw [Cb r f.1]; exact Hn r rx f.1 fx
  ·exact iG rx fx t f.2 u' hu
def Mi (x:V) (xs:List V):Bool:=xs.any fun y=>Ew y x
def L5 (K:PySem.W.Frag) (neg:Bool):R2:=fun x y H Q=>∃ p xs,y = .ref p/\(aw K H p xs\/SqT K H p xs)/\ki x = true/\xs.all ki = true/\Q (.bl (if neg then !Mi x xs else Mi x xs)) H
theorem kR:lX X (compareOp .In) (L5 X.K false):=by
 intro pins s σ H x y v u Q I rx ry h;obtain ⟨p,xs,rfl,hq,fx,fs,q⟩:=h;cases ry
 rcases hq with hq | hq
 ·obtain ⟨aO,r,pl,hz⟩:=I.list hq;refine SeqAt.in_listAt (xx x) pl.isList (fun w hw=>iG rx fx r fs w (by simpa using hw)) ⟨.bl _,H,I,rfl,?_⟩;rw [show aO.toArray.any (xx x) = aO.any (xx x) by simp,ko r fs];exact q
 ·obtain ⟨aO,r,pl,hz⟩:=I.tuple hq;refine SeqAt.in_tupleAt (xx x) pl (fun w hw=>iG rx fx r fs w (by simpa using hw)) ⟨.bl _,H,I,rfl,?_⟩;rw [show aO.toArray.any (xx x) = aO.any (xx x) by simp,ko r fs];exact q
theorem dF:lX X (compareOp .NotIn) (L5 X.K true):=by
 intro pins s σ H x y v u Q I rx ry h;obtain ⟨p,xs,rfl,hq,fx,fs,q⟩:=h;cases ry
 rcases hq with hq | hq
 ·obtain ⟨aO,r,pl,hz⟩:=I.list hq;refine SeqAt.notIn_listAt (xx x) pl.isList (fun w hw=>iG rx fx r fs w (by simpa using hw)) ⟨.bl _,H,I,rfl,?_⟩;rw [show aO.toArray.any (xx x) = aO.any (xx x) by simp,ko r fs];exact q
 ·obtain ⟨aO,r,pl,hz⟩:=I.tuple hq;refine SeqAt.notIn_tupleAt (xx x) pl (fun w hw=>iG rx fx r fs w (by simpa using hw)) ⟨.bl _,H,I,rfl,?_⟩;rw [show aO.toArray.any (xx x) = aO.any (xx x) by simp,ko r fs];exact q
def Iv (K:PySem.W.Frag) (T:String) (x:V) (H:Hp):Prop:=match x with
 | .str _=>T = "str"
 | .int _=>T = "int"
 | .ref p=>(T = "list"/\∃ xs,aw K H p xs)\/(T = "tuple"/\∃ o,K.lookup p = some o/\o.cls = .type "tuple"/\o.dict = none)\/
   (T = "dict"/\((∃ aS,H p = some (.dK aS))\/∃ aS,H p = some (.dT aS)))\/(T = "set"/\∃ S n,H p = some (.set S n))
 | _=>False
theorem AO {pins:List (Addr×Obj)} {σ : St} {H:Hp} {s:Shared} {T:String} {x:V} {v:Value} (I:Inv X pins σ H s) (r:RelV x v) (ty:Iv X.K T x H) :
  s.TypeIs v T/\∀ a,v = .ref a->∃ ob,s.heap.get? a = some ob/\ob.dict = none:=by
 cases x with
 | str z=>
  obtain ⟨t,rfl⟩:=r;cases (show T = "str" from ty)
  exact ⟨typeIs_str s z t,fun _ e=>nomatch e⟩
 | int i=>
  obtain ⟨t,rfl⟩:=r;cases (show T = "int" from ty)
  exact ⟨typeIs_int s i t,fun _ e=>nomatch e⟩
 | ref p=>
  cases r
  rcases ty with ⟨rfl,xs,hq⟩ | ⟨rfl,o,hk,hc,hd⟩ | ⟨rfl,hk⟩ | ⟨rfl,S,n,hk⟩
  ·obtain ⟨aO,_,pl,_⟩:=I.list hq;refine ⟨pl.isList.typeIs,fun a e=>?_⟩;cases e
   obtain ⟨o,n,e,c,hd,_⟩:=pl;exact ⟨o,e,hd⟩
  ·refine ⟨⟨o,I.lO p o hk,hc⟩,fun a e=>?_⟩;cases e
   exact ⟨o,I.lO _ o hk,hd⟩
  ·have z:∃ o,s.heap.get? p = some o/\o.ExactDict:=by
    rcases hk with ⟨aS,hk⟩ | ⟨aS,hk⟩
    ·obtain ⟨_,_,_,_,o,_,_,e,ex,_⟩:=I.bF p _ hk;exact ⟨o,e,ex⟩
    ·obtain ⟨_,_,_,_,o,_,_,e,ex,_⟩:=I.bF p _ hk;exact ⟨o,e,ex⟩
   obtain ⟨o,e,ex⟩:=z;refine ⟨⟨o,e,ex.1⟩,fun a e2=>?_⟩;cases e2
   exact ⟨o,e,ex.2.1⟩
  ·obtain ⟨o,_,_,_,e,ex,_⟩:=I.bF p _ hk;refine ⟨⟨o,e,ex.1⟩,fun a e2=>?_⟩;cases e2
   exact ⟨o,e,ex.2.1⟩
 | _=>exact False.elim ty
def IQ (K:PySem.W.Frag) (T:String) (r:V->List V->Hp->VK->Prop) (to:TE):TE:=fun σ H Q=>to σ H fun x H1=>Iv K T x H1/\r x [] H1 Q
def QM (K:PySem.W.Frag) (T:String) (r:V->List V->Hp->VK->Prop) (to:TE) (t:TA):TE:=fun σ H Q=>to σ H fun x H1=>Iv K T x H1/\t σ H1 fun xs H2=>r x xs H2 Q
variable {o e:Expr} {es:List Expr} {to:TE} {t:TA} {name:Str} {apos eN:Pos} {T id:String} {r:V->List V->Hp->VK->Prop}
theorem wL (pa:PlainAttrs T) (slot:Slot T name id) (OB:typeOf (.builtin id) = pure (.type "method_descriptor")) (hm:Qi X id r) (ho:PE X o to)
  (B5:attributeBase o name X.env (eval o X.env) = eval o X.env:=by rfl) (BY:(apos.endLine == eN.line) = true:=by rfl):PE X (.Call (.Attribute o name apos) [] [] eN) (IQ X.K T r to):=by
 intro pins s σ H Q I h;refine wpAny_Call_method0_late B5 BY (cF (ho pins s σ H _ I h) fun v s1 ⟨x,H1,I1,r1,ty,q1⟩=>?_);obtain ⟨h1,h2⟩:=AO I1 r1 ty;exact ⟨T,id,pa,slot,OB,h1,h2,Calls.callWith_builtin rfl (PySem.evalArgs_none (hm pins s1 σ H1 x [] v [] Q I1 r1 .nil q1))⟩
theorem b7 (pa:PlainAttrs T) (slot:Slot T name id) (OB:typeOf (.builtin id) = pure (.type "method_descriptor")) (hm:Qi X id r) (ho:PE X o to) (ha:PA X (e :: es) t)
  (B5:attributeBase o name X.env (eval o X.env) = eval o X.env:=by rfl)
  (O6:((backTo eN (starEach (e :: es) X.env)).all (fun x=>!x.1) && (backToKw eN (keywordEach [] X.env)).all (fun x=>x.1.isSome)
   && decide ((e :: es).length + ([]:List Keyword).length + (if ([]:List Keyword).isEmpty then 0 else 1) < 30)) = true:=by rfl)
  (BY:(apos.endLine == eN.line) = true:=by rfl) (hs:starEach (e :: es) X.env = (false,eval e X.env) :: starEach es X.env:=by rfl) (G3:(backTo eN (starEach es X.env)).any (·.1) = false:=by rfl) :
  PE X (.Call (.Attribute o name apos) (e :: es) [] eN) (QM X.K T r to t):=by
 intro pins s σ H Q I h;refine wpAny_Call_method_late B5 O6 BY rfl (cF (ho pins s σ H _ I h) fun v s1 ⟨x,H1,I1,r1,ty,q1⟩=>?_);obtain ⟨h1,h2⟩:=AO I1 r1 ty;refine ⟨T,id,pa,slot,OB,h1,h2,?_⟩;have hA:=ha eN pins s1 σ H1 _ I1 q1;rw [hs] at hA ⊢;refine Calls.callWith_builtin (by show (false || (backTo eN (starEach es X.env)).any (·.1)) = false; rw [G3] <;> rfl) (Calls.evalArgs_plain ?_);exact cF hA fun us s2 ⟨vs,H2,I2,r2,q2⟩=>hm pins s2 σ H2 x vs v us Q I2 r1 r2 q2
/- xs.append(e),list.index on a module's tuple .. are Qi facts of 06m -/
end
def HJ (X:Cx) (id:String) (r:V->List V->Hp->VK->Prop):Prop:=
 ∀ (pins:List (Addr×Obj)) (s:Shared) (σ : St) (H:Hp) (x:V) (xs:List V) (v:Value) (us:List Value) (Q:VK),Inv X pins σ H s->RelV x v->Vals xs us->r x xs H Q->
  wpAny (model X.prog X.w) X.A (call (.builtin id) (v :: us)) (EP X pins σ Q) X.xe s
theorem Vals.one:∀ {x:V} {us:List Value},Vals [x] us->∃ u,us = [u]/\RelV x u
 | _,_,.cons r .nil=>⟨_,rfl,r⟩
theorem Vals.zero:∀ {us:List Value},Vals [] us->us = []
 | _,.nil=>rfl
theorem Vals.dropLast {xs:List V} {us:List Value} (h:Vals xs us):Vals xs.dropLast us.dropLast:=by
 induction h with
 | nil=>exact .nil
 | cons r t ih=>
  cases t with
  | nil=>exact .nil
  | cons q t'=>exact .cons r ih
theorem Vals.eraseIdx:∀ {xs:List V} {us:List Value} (i:Nat),Vals xs us->Vals (xs.eraseIdx i) (us.eraseIdx i)
 | _,_,_,.nil=>.nil
 | _,_,0,.cons _ t=>t
 | _,_,i + 1,.cons r t=>.cons r (Vals.eraseIdx i t)
theorem xw {α : Type} (l:List α):l.eraseIdx (l.length - 1) = l.dropLast:=by
 induction l with
 | nil=>rfl
 | cons a r ih=>
  cases r with
  | nil=>rfl
  | cons b r=>
   have e:(a :: b :: r).length - 1 = ((b :: r).length - 1) + 1:=by
    have h1:(a :: b :: r).length = r.length + 2:=rfl;have h2:(b :: r).length = r.length + 1:=rfl;omega
   rw [e,eraseIdx_cons_succ,ih]
   all_goals rfl
section
variable {X:Cx} {pins:List (Addr×Obj)} {σ : St} {H:Hp} {s:Shared} {l b:Addr} {xs ys zs:List V}
theorem Inv.zI {aO its':List Value} {n:Nat} {f:Array Value->Array Value} {t':Nat} (I:Inv X pins σ H s) (hH:H l = some (.lst xs))
  (e:s.heap.get? l = some { cls:=.type "list",data:=.seq aO.toArray n }) (hf:f aO.toArray = its'.toArray) (hv:Vals ys its') (hz:ys.length<=sizeLine) :
  Inv X pins σ (upd H l (.lst ys)) { s with heap:=s.heap.update l (Obj.mapSeq f),toks:=t' }:=by
 have q:=PySem.IsL.update e f;rw [hf] at q;refine I.write (x:=l) (e:=l) (by rw [hH]; exact trivial) (.inl rfl) (fun b' u hb hu=>(Heap.get?_update_other s.heap (Obj.mapSeq f) (Ne.symm hb)).trans hu) ⟨_,q⟩ ?_;exact ⟨hz,its',_,hv,q⟩
theorem Inv.Ob {aO:List Value} {t':Nat} (I:Inv X pins σ H s) (hv:Vals ys aO) (hz:ys.length<=sizeLine) :
  Inv X pins σ (upd H s.heap.objs.size (.lst ys)) { s with heap:=s.heap.push { cls:=.type "list",data:=.seq aO.toArray },toks:=t' }:=
 I.laid (fun _ _ q=>Heap.get?_push_of_some _ q) (Nat.le_refl _) ⟨hz,aO,0,hv,Heap.get?_push_size _ rfl⟩
theorem Inv.fresh (I:Inv X pins σ H s):H s.heap.objs.size = none:=I.bF.fresh (Nat.le_refl _)
theorem Inv.ot (I:Inv X pins σ H s) (hH:H l = some (.lst xs)):xs.length<=sizeLine/\∃ (aO:List Value) (n:Nat),Vals xs aO/\xs.length = aO.length/\s.heap.get? l = some { cls:=.type "list",data:=.seq aO.toArray n }:=by
 obtain ⟨z,aO,n,r,e⟩:=I.bF l _ hH;exact ⟨z,aO,n,r,r.length,e⟩
theorem BA {n:Nat} (h:n<=sizeLine):Builtin.List.listTooLong n = false:=by
 unfold Builtin.List.listTooLong;exact decide_eq_false (by omega)
end
section
variable {X:Cx}
def yg:V->List V->Hp->VK->Prop:=fun x vs H Q=>∃ l xs y,x = .ref l/\vs = [y]/\H l = some (.lst xs)/\xs.length < sizeLine/\Q .bQ (upd H l (.lst (xs ++ [y])))
theorem bC:HJ X "list.append" yg:=by
 intro pins s σ H x vs v us Q I rx rv h;obtain ⟨l,xs,y,rfl,rfl,hH,hz,q⟩:=h;cases rx
 obtain ⟨u,rfl,ru⟩:=rv.one;obtain ⟨z,aO,n,r,hl,e⟩:=I.ot hH;refine call_meets F.slot_list_append ⟨_,e,rfl⟩ F.entry_list_append (F.args_list_append_2 _ _) (PySem.list_append l aO.toArray n u (by rw [size_toArray]; omega)) ⟨e,?_⟩;refine ⟨.bQ,_,I.zI (its':=aO ++ [u]) hH e (by simp) (r.append (.cons ru .nil)) ?_,rfl,q⟩;rw [length_append,length_singleton];omega
def yf:V->List V->Hp->VK->Prop:=fun x vs H Q=>∃ l b xs zs,x = .ref l/\vs = [.ref b]/\H l = some (.lst xs)/\H b = some (.lst zs)/\xs.length + zs.length<=sizeLine/\Q .bQ (upd H l (.lst (xs ++ zs)))
theorem zH:HJ X "list.extend" yf:=by
 intro pins s σ H x vs v us Q I rx rv h;obtain ⟨l,b,xs,zs,rfl,rfl,hH,hB,hz,q⟩:=h;cases rx
 obtain ⟨u,rfl,ru⟩:=rv.one;cases ru
 obtain ⟨z,aO,n,r,hl,e⟩:=I.ot hH;obtain ⟨z2,vn,n2,r2,iW,e2⟩:=I.ot hB;have hsz:aO.toArray.size + vn.toArray.size<=sizeLine:=by rw [size_toArray,size_toArray]; omega
 have Km:¬ (!aO.toArray.isEmpty && Builtin.List.listTooLong (aO.toArray.size + vn.toArray.size)) = true:=by
  rw [BA hsz,Bool.and_false];exact Bool.false_ne_true
 refine call_meets F.slot_list_extend ⟨_,e,rfl⟩ F.entry_list_extend (F.args_list_extend_2 _ _)
  (AutoSeq1.list_extend_list_list_0 l aO.toArray n b vn.toArray n2 Km (by rw [size_toArray]; omega) (by omega)) ⟨e,e2,?_⟩
 refine ⟨.bQ,_,I.zI (its':=aO ++ vn) hH e (by simp) (r.append r2) ?_,rfl,q⟩;rw [length_append];omega
def Jq:V->List V->Hp->VK->Prop:=fun x vs H Q=>∃ l xs y,x = .ref l/\vs = []/\H l = some (.lst xs)/\xs[xs.length - 1]? = some y/\Q y (upd H l (.lst xs.dropLast))
theorem BD:HJ X "list.pop" Jq:=by
 intro pins s σ H x vs v us Q I rx rv h;obtain ⟨l,xs,y,rfl,rfl,hH,hy,q⟩:=h;cases rx
 have OA:=rv.zero;subst OA;obtain ⟨z,aO,n,r,hl,e⟩:=I.ot hH;obtain ⟨u,hu,ru⟩:=r.get hy;have JZ:aO.toArray[aO.toArray.size - 1]? = some u:=by
  show aO.toArray[aO.length - 1]? = some u;rw [<- Array.getElem?_toList,<- hl];exact hu
 refine call_meets F.slot_list_pop ⟨_,e,rfl⟩ F.entry_list_pop (F.args_list_pop_1 _) (MeetsSeq.list_pop_last l aO.toArray n u JZ (by rw [size_toArray]; omega)) ⟨e,?_⟩;refine ⟨y,_,I.zI (its':=aO.dropLast) hH e ?_ r.dropLast ?_,ru,q⟩
 ·show aO.toArray.eraseIdxIfInBounds (aO.toArray.size - 1) = aO.dropLast.toArray;rw [size_toArray,eraseIdxIfInBounds_toArray,xw]
 ·rw [length_dropLast];omega
def NK:V->List V->Hp->VK->Prop:=fun x vs H Q=>∃ l xs i k y,x = .ref l/\vs = [.int i]/\H l = some (.lst xs)/\-(2 ^ 63)<=i/\i < 2 ^ 63/\seqIndex? i xs.length = some k/\xs[k]? = some y/\Q y (upd H l (.lst (xs.eraseIdx k)))
def Jp:V->List V->Hp->VK->Prop:=fun x vs H Q=>∃ l xs,x = .ref l/\vs = []/\H l = some (.lst xs)/\Q .bQ (upd H l (.lst xs.reverse))
def Gq:V->List V->Hp->VK->Prop:=fun x vs H Q=>∃ l xs,x = .ref l/\vs = []/\H l = some (.lst xs)/\Q .bQ (upd H l (.lst []))
theorem BE:HJ X "list.clear" Gq:=by
 intro pins s σ H x vs v us Q I rx rv h;obtain ⟨l,xs,rfl,rfl,hH,q⟩:=h;cases rx
 have OA:=rv.zero;subst OA;obtain ⟨z,aO,n,r,hl,e⟩:=I.ot hH;refine call_meets F.slot_list_clear ⟨_,e,rfl⟩ F.entry_list_clear (F.args_list_clear_1 _) (AutoSeq1.list_clear_list_0 l aO.toArray n (by rw [size_toArray]; omega)) ⟨e,?_⟩;exact ⟨.bQ,_,I.zI (its':=[]) (ys:=[]) hH e rfl .nil (Nat.zero_le _),rfl,q⟩
def NP:R2:=fun x y H Q=>∃ l b xs zs,x = .ref l/\y = .ref b/\H l = some (.lst xs)/\H b = some (.lst zs)/\xs.length + zs.length<=sizeLine/\∀ p,H p = none->Q (.ref p) (upd H p (.lst (xs ++ zs)))
theorem jt:lX X (binaryOp .Add) NP:=by
 intro pins s σ H x y v u Q I rx ry h;obtain ⟨l,b,xs,zs,rfl,rfl,hH,hB,hz,q⟩:=h;cases rx
 cases ry
 obtain ⟨z,aO,n,r,hl,e⟩:=I.ot hH;obtain ⟨z2,vn,n2,r2,iW,e2⟩:=I.ot hB;refine PySem.P.add_list e e2 ?_ (by rw [size_toArray,size_toArray]; omega);have ea:aO.toArray ++ vn.toArray = (aO ++ vn).toArray:=by simp
 rw [ea];exact ⟨.ref _,_,I.Ob (t':=s.toks) (r.append r2) (by rw [length_append]; omega),rfl,q _ I.fresh⟩
def T7:R2:=fun x y H Q=>∃ l k xs,x = .ref l/\y = .int k/\H l = some (.lst xs)/\-(2 ^ 63)<=k/\k < 2 ^ 63/\xs.length * k.toNat<=sizeLine/\
 ∀ p,H p = none->Q (.ref p) (upd H p (.lst (List.replicate k.toNat xs).flatten))
end
section
variable {κ : Type} [DecidableEq κ]
def fV (aS:List (κ×V)) (k : κ):Option V:=(aS.find? fun kv=>decide (kv.1 = k)).map (·.2)
def putK (aS:List (κ×V)) (k : κ) (v:V):List (κ×V):=
 if (aS.any fun kv=>decide (kv.1 = k)) = true then aS.map (fun kv=>if kv.1 = k then (kv.1,v) else kv) else aS ++ [(k,v)]
def Cg (aS:List (κ×V)) (k : κ):List (κ×V):=aS.filter fun kv=>decide (kv.1≠k)
theorem gU {p : κ×V} {r:List (κ×V)} {k : κ} (e:p.1 = k):fV (p :: r) k = some p.2:=by simp [fV,find?_cons,e]
theorem fU {p : κ×V} {r:List (κ×V)} {k : κ} (e:¬ p.1 = k):fV (p :: r) k = fV r k:=by simp [fV,find?_cons,e]
theorem mZ (k : κ):∀ aS:List (κ×V),(aS.any fun kv=>decide (kv.1 = k)) = (fV aS k).isSome
 | []=>rfl
 | p :: r=>by
  rw [any_cons];by_cases e:p.1 = k
  ·simp only [gU e,decide_eq_true e,Bool.true_or,Option.isSome_some]
  ·rw [fU e,decide_eq_false e,Bool.false_or]; exact mZ k r
theorem lK (aS:List (κ×V)) (k : κ) (v:V):(putK aS k v).length<=aS.length + 1:=by
 unfold putK;split
 ·rw [length_map]; omega
 ·rw [length_append,length_cons,length_nil]; omega
theorem uK {aS:List (κ×V)} {k : κ} (v:V) (h:fV aS k = none):putK aS k v = aS ++ [(k,v)]:=by
 unfold putK;rw [mZ,h];exact if_neg (by decide)
theorem jc.k6 {o:Option V} {u:Option Value} (r:jc o u):o.isSome = u.isSome:=by
 cases o with
 | none=>cases u with
  | none=>rfl
  | some _=>exact (show False from r).elim
 | some _=>cases u with
  | none=>exact (show False from r).elim
  | some _=>rfl
theorem KV.val {aS:List (κ×V)} {vs:List (κ×Value)} (r:KV aS vs) (k : κ):jc (fV aS k) (valueAt vs k):=by
 unfold KV at r
 induction r with
 | nil=>exact True.intro
 | @cons p q ps qs h t ih=>
  obtain ⟨h1,h2⟩:=h;by_cases e:p.1 = k
  ·have e':q.1 = k:=h1.symm.trans e;have b:valueAt (q :: qs) k = some q.2:=by simp [valueAt,find?_cons,e']
   rw [gU e,b]; exact h2
  ·have e':¬ q.1 = k:=fun z=>e (h1.trans z);have b:valueAt (q :: qs) k = valueAt qs k:=by simp [valueAt,find?_cons,e']
   rw [fU e,b]; exact ih
theorem KV.any {aS:List (κ×V)} {vs:List (κ×Value)} (r:KV aS vs) (k : κ):(aS.any fun kv=>decide (kv.1 = k)) = vs.any fun kv=>decide (kv.1 = k):=by
 unfold KV at r
 induction r with
 | nil=>rfl
 | cons h t ih=>rw [any_cons,any_cons,ih,h.1]
theorem KV.F7 {aS:List (κ×V)} {vs:List (κ×Value)} (r:KV aS vs) (k : κ) {y:V} {u:Value} (ry:RelV y u) :
  KV (aS.map fun kv=>if kv.1 = k then (kv.1,y) else kv) (vs.map fun kv=>if kv.1 = k then (kv.1,u) else kv):=by
 unfold KV at r ⊢
 induction r with
 | nil=>exact .nil
 | @cons p q ps qs h t ih=>
  rw [map_cons,map_cons];refine .cons ?_ ih;obtain ⟨h1,h2⟩:=h;by_cases e:p.1 = k
  ·rw [if_pos e,if_pos (h1.symm.trans e)]; exact ⟨h1,ry⟩
  ·rw [if_neg e,if_neg (fun z=>e (h1.trans z))]; exact ⟨h1,h2⟩
theorem KV.put {aS:List (κ×V)} {vs:List (κ×Value)} (r:KV aS vs) (k : κ) {y:V} {u:Value} (ry:RelV y u):KV (putK aS k y) (stored vs k u):=by
 unfold putK stored;rw [r.any k];by_cases e:(vs.any fun kv=>decide (kv.1 = k)) = true
 ·rw [if_pos e,if_pos e]; exact r.F7 k ry
 ·rw [if_neg e,if_neg e]; exact Paired.snoc r ⟨rfl,ry⟩
theorem KV.length {aS:List (κ×V)} {vs:List (κ×Value)} (r:KV aS vs):aS.length = vs.length:=Paired.length r
end
theorem yA {P:Program} {w:World} {k:Key} {u:Value} (r:RelV (kV k) u):(cV P w).is k u = true:=by
 cases k with
 | inl i=>obtain ⟨t,e⟩:=(show ∃ t,u = Value.int i t from r); subst e; exact u6 P w i t
 | inr x=>obtain ⟨t,e⟩:=(show ∃ t,u = Value.str x t from r); subst e; exact uZ P w x t
theorem qS {P:Program} {w:World}:∀ {ks:List Key} {us:List Value},Vals (ks.map kV) us->ItemsAre (cV P w) ks us
 | [],_,r=>by rw [map_nil] at r; cases r; exact .nil
 | k :: ks,_,r=>by
  rw [map_cons] at r;cases r with
  | cons h t=>exact .cons (yA h) (qS t)
abbrev KT (H:Hp):List (List Key×V)->List (List Key×Addr×Value)->Prop:=Paired fun p q=>p.1 = q.1/\H q.2.1 = some (.tup (p.1.map kV))/\RelV p.2 q.2.2
theorem KT.val {H:Hp} {aS:List (List Key×V)} {xs:List (List Key×Addr×Value)} (r:KT H aS xs) (k:List Key):jc (fV aS k) ((atKey xs k).map (·.2)):=by
 induction r with
 | nil=>exact True.intro
 | @cons p q ps qs h t ih=>
  obtain ⟨h1,_,h2⟩:=h;by_cases e:p.1 = k
  ·have e':q.1 = k:=h1.symm.trans e;have b:atKey (q :: qs) k = some q.2:=by simp [atKey,find?_cons,e']
   rw [gU e,b]; exact h2
  ·have e':¬ q.1 = k:=fun z=>e (h1.trans z);have b:atKey (q :: qs) k = atKey qs k:=by simp [atKey,find?_cons,e']
   rw [fU e,b]; exact ih
theorem KT.F7 {H:Hp} {aS:List (List Key×V)} {xs:List (List Key×Addr×Value)} (r:KT H aS xs) (k:List Key) {y:V} {u:Value} (ry:RelV y u) :
  KT H (aS.map fun kv=>if kv.1 = k then (kv.1,y) else kv) (xs.map (putAt k u)):=by
 induction r with
 | nil=>exact .nil
 | @cons p q ps qs h t ih=>
  rw [map_cons,map_cons];refine .cons ?_ ih;obtain ⟨h1,h2,h3⟩:=h;unfold putAt;by_cases e:p.1 = k
  ·rw [if_pos e,if_pos (h1.symm.trans e)]; exact ⟨h1,h2,ry⟩
  ·rw [if_neg e,if_neg (fun z=>e (h1.trans z))]; exact ⟨h1,h2,h3⟩
theorem KT.put {H:Hp} {aS:List (List Key×V)} {xs:List (List Key×Addr×Value)} (r:KT H aS xs) (k:List Key) {b:Addr} {y:V} {u:Value} (hb:H b = some (.tup (k.map kV))) (ry:RelV y u) :
  KT H (putK aS k y) (storedH xs k b u):=by
 have e:(aS.any fun kv=>decide (kv.1 = k)) = (atKey xs k).isSome:=by
  rw [mZ,(r.val k).k6,Option.isSome_map]
 unfold putK storedH;rw [e];by_cases q:(atKey xs k).isSome = true
 ·rw [if_pos q,if_pos q]; exact r.F7 k ry
 ·rw [if_neg q,if_neg q]; exact Paired.snoc r ⟨rfl,hb,ry⟩
theorem KT.keeps {H H':Hp} {aS:List (List Key×V)} {xs:List (List Key×Addr×Value)} (r:KT H aS xs) (ht:∀ b ys,H b = some (.tup ys)->H' b = some (.tup ys)):KT H' aS xs:=
 Paired.wU r fun _ _ z=>⟨z.1,ht _ _ z.2.1,z.2.2⟩
section
variable {P:Program} {w:World} {H:Hp} {h:Heap} {a:Addr}
theorem E7 {u:HO} (ok:jd P w H h) (e:Rd H a u):bB P w H h a u:=e.ok ok
theorem yO {aS:List (Key×V)} (ok:jd P w H h) (e:Rd H a (.dK aS)):aS.length<=sizeLine/\(a == sysModules) = false/\∃ vs,KV aS vs/\h.DictOf (cV P w) a vs:=
 show bB P w H h a (.dK aS) from E7 ok e
theorem Lc {aS:List (Key×V)} (ok:jd P w H h) (e:H a = some (.dK aS)):aS.length<=sizeLine/\(a == sysModules) = false/\∃ vs,KV aS vs/\h.DictOf (cV P w) a vs:=yO ok (.inl e)
theorem sZ {ks:List Key} (ok:jd P w H h) (e:H a = some (.tup (ks.map kV))):(tupleKind (cV P w)).is h ks a:=by
 obtain ⟨_,aO,r,o,h1,h2,n,h3⟩:=(show bB P w H h a (.tup (ks.map kV)) from ok a _ e);exact ⟨o,aO.toArray,n,h1,h2,h3,by simpa using qS r⟩
theorem yN {aS:List (List Key×V)} (ok:jd P w H h) (e:Rd H a (.dT aS)):aS.length<=sizeLine/\(a == sysModules) = false/\
  ∃ xs,KT H aS xs/\h.DictOfH (tupleKind (cV P w)) a xs:=by
 obtain ⟨z,y,xs,r,o,es,ep,h1,h2,h3,h4,h5⟩:=(show bB P w H h a (.dT aS) from E7 ok e);refine ⟨z,y,xs,r,o,es,ep,h1,h2,h3,h4,fun x hx=>?_,h5⟩;have all:∀ {l:List (List Key×V)} {m:List (List Key×Addr×Value)},KT H l m->∀ x∈m,(tupleKind (cV P w)).is h x.1 x.2.1:=by
  intro l m q
  induction q with
  | nil=>intro x hx; exact nomatch hx
  | @cons p q ps qs hq t ih=>
   intro x hx;rcases List.mem_cons.mp hx with e | hx
   ·subst e;exact sZ ok (by rw [<- hq.1]; exact hq.2.1)
   ·exact ih x hx
 exact all r x hx
theorem Lb {aS:List (List Key×V)} (ok:jd P w H h) (e:H a = some (.dT aS)):aS.length<=sizeLine/\(a == sysModules) = false/\
  ∃ xs,KT H aS xs/\h.DictOfH (tupleKind (cV P w)) a xs:=yN ok (.inl e)
end
def iR (H:Hp) (a:Addr) (y:V) (r:Option V):Prop:=
 (∃ aS k,Rd H a (.dK aS)/\y = kV k/\r = fV aS k)\/∃ aS k b,Rd H a (.dT aS)/\y = .ref b/\H b = some (.tup (k.map kV))/\r = fV aS k
def uc (H:Hp) (a:Addr) (y v:V) (H':Hp):Prop:=
 (∃ aS k,H a = some (.dK aS)/\y = kV k/\aS.length < sizeLine/\H' = upd H a (.dK (putK aS k v)))\/
 ∃ aS k b,H a = some (.dT aS)/\y = .ref b/\H b = some (.tup (k.map kV))/\aS.length < sizeLine/\H' = upd H a (.dT (putK aS k v))
theorem iR.t {H:Hp} {a b:Addr} {aS:List (List Key×V)} {k:List Key} (e:H a = some (.dT aS)) (eb:H b = some (.tup (k.map kV))):iR H a (.ref b) (fV aS k):=.inr ⟨aS,k,b,.inl e,rfl,eb,rfl⟩
theorem uc.t {H:Hp} {a b:Addr} {aS:List (List Key×V)} {k:List Key} {v:V} (e:H a = some (.dT aS)) (eb:H b = some (.tup (k.map kV))) (hl:aS.length < sizeLine) :
  uc H a (.ref b) v (upd H a (.dT (putK aS k v))):=.inr ⟨aS,k,b,e,rfl,eb,hl,rfl⟩
section
variable {X:Cx} {pins:List (Addr×Obj)} {σ : St} {H:Hp} {s:Shared} {a:Addr} {y v:V} {u r:Value} {o:Option V} {A:Around} {E:Value->Shared->Prop}
theorem Inv.big (I:Inv X pins σ H s):sysModules < s.heap.objs.size:=by
 have h:mainGlobals < s.heap.objs.size:=(I.mod.glob.keeps I.bk).lt;exact Nat.lt_trans (by decide) h
theorem Ai {Q:Value->Shared->Prop} (hu:A.units + 1 < cLine) (I:Inv X pins σ H s) (g:iR H a y (some v)) (ry:RelV y u) (h:∀ w' s',Inv X pins σ H s'->RelV v w'->Q w' s') :
  wpAny (model X.prog X.w) A (getItem (.ref a) u) Q E s:=by
 rcases g with ⟨aS,k,e,ey,l⟩ | ⟨aS,k,b,e,ey,eb,l⟩
 ·subst ey;obtain ⟨z,hd,vs,rel,dd⟩:=yO I.bF e;obtain ⟨w',hw,A6⟩:=jc.some_of (v:=v) (o:=valueAt vs k) (by rw [l]; exact rel.val k);exact wpAny_getItem_of (yA ry) dd.mapOf hw (h w' _ (I.tok _) A6)
 ·subst ey;cases (show u = Value.ref b from ry)
  obtain ⟨z,hd,xs,rel,dd⟩:=yN I.bF e;obtain ⟨w',hw,A6⟩:=jc.some_of (v:=v) (o:=(atKey xs k).map (·.2)) (by rw [l]; exact rel.val k);obtain ⟨p,hp,we⟩:=Option.map_eq_some_iff.mp hw;refine wpAny_getItem_heap (tupleKind_room_in1 hu) (sZ I.bF eb) dd hp ?_;rw [we];exact h w' _ (I.tok _) A6
theorem EA {Q:Value->Shared->Prop} (hu:A.units + 1 < cLine) (I:Inv X pins σ H s) (g:iR H a y o) (ry:RelV y u) (h:∀ s',Inv X pins σ H s'->Q (.bool (!o.isSome)) s') :
  wpAny (model X.prog X.w) A (compareOp .NotIn u (.ref a)) Q E s:=by
 rcases g with ⟨aS,k,e,ey,l⟩ | ⟨aS,k,b,e,ey,eb,l⟩
 ·subst ey;obtain ⟨z,hd,vs,rel,dd⟩:=yO I.bF e;refine wpAny_notIn_of (yA ry) hd dd.mapOf ?_;rw [<- (rel.val k).k6,<- l];exact h _ (I.tok _)
 ·subst ey;cases (show u = Value.ref b from ry)
  obtain ⟨z,hd,xs,rel,dd⟩:=yN I.bF e;refine wpAny_notIn_heap (tupleKind_room_in1 hu) (sZ I.bF eb) hd dd ?_;have q:=(rel.val k).k6;rw [Option.isSome_map] at q;rw [<- q,<- l];exact h _ (I.tok _)
theorem yS {h':Heap} {t':Nat} {ob:HO} (I:Inv X pins σ H s) (mu:LD (H a)) (hs:Heap.SameBut a s.heap h') (he:∃ q,h'.get? a = some q) (new:bB X.prog X.w (upd H a ob) h' a ob) :
  Inv X pins σ (upd H a ob) { s with heap:=h',toks:=t' }:=
 I.write (x:=a) (e:=a) mu (.inl rfl) (fun b q hb z=>(hs.2 b hb).trans z) he new
theorem Hr {P:Program} {w:World} {H':Hp} {h':Heap} {aS:List (Key×V)} {vs:List (Key×Value)} (z:aS.length<=sizeLine) (hd:(a == sysModules) = false) (rel:KV aS vs) (dd:h'.DictOf (cV P w) a vs) :
  bB P w H' h' a (.dK aS):=⟨z,hd,vs,rel,dd⟩
theorem Ah {H':Hp} {Q:Unit->Shared->Prop} (hu:A.units + 1 < cLine) (I:Inv X pins σ H s) (g:uc H a y v H') (ry:RelV y u) (rv:RelV v r) (h:∀ s',Inv X pins σ H' s'->Q () s') :
  wpAny (model X.prog X.w) A (setItem (.ref a) u r) Q E s:=by
 rcases g with ⟨aS,k,e,ey,l,eH⟩ | ⟨aS,k,b,e,ey,eb,l,eH⟩
 ·subst ey eH;obtain ⟨z,hd,vs,rel,dd⟩:=Lc I.bF e;have hz:vs.length<=sizeLine:=by rw [<- rel.length]; exact z
  have hl:(putK aS k v).length<=sizeLine:=by have:=lK aS k v; omega
  refine wpAny_setItem_pairs (hsz:=hz) (yA ry) dd fun h' CW hs=>h _ ?_;have he:∃ q,h'.get? a = some q:=let ⟨q,_,_,hq,_⟩:=CW; ⟨q,hq⟩
  exact yS I (by rw [e]; exact True.intro) hs he (Hr hl hd (rel.put k rv) CW)
 ·subst ey eH;cases (show u = Value.ref b from ry)
  obtain ⟨z,hd,xs,rel,dd⟩:=Lb I.bF e;have hz:xs.length<=sizeLine:=by rw [<- Paired.length rel]; exact z
  have hl:(putK aS k v).length<=sizeLine:=by have:=lK aS k v; omega
  refine wpAny_setItem_heap (hsz:=hz) (tupleKind_room_in1 hu) (sZ I.bF eb) dd fun h' CW hs=>h _ ?_;obtain ⟨q,es,ep,hq,h2,h3,h4,_,h5⟩:=CW;refine yS I (by rw [e]; exact True.intro) hs ⟨q,hq⟩ ⟨hl,hd,_,(rel.put k eb rv).keeps fun c ys ec=>?_,q,es,ep,hq,h2,h3,h4,h5⟩;rw [ak (JI ec e (fun z=>nomatch z))];exact ec
end
def LB (i:Expr):Prop:=∀ ov iv,subscripted i false ov iv = operate [ov,iv] (getItem ov iv)
theorem Dg {prog:Program} {w:World} {A:Around} {E:Value->Shared->Prop} {s:Shared} {env:Env} {value slice:Expr} {pos:Pos} {T id:String} {Q:Value->Shared->Prop}
  (hl:typeLookup (.type T) "__getitem__" = pure (some (.builtin id))) (hs:LB slice)
  (h:wpAny (model prog w) A (eval value env) (fun o s₁=>wpAny (model prog w) A (eval slice env) (fun i s₂=>s₂.TypeIs o T/\wpAny (model prog w) A (getItem o i) Q E s₂) E s₁) E s) :
  wpAny (model prog w) A (eval (.Subscript value slice pos) env) Q E s:=by
 refine Subscript_ (wpAny_mono h (fun o s₁ h₁=>wpAny_mono h₁ (fun i s₂ h₂=>?_) fun _ _ x=>x) fun _ _ x=>x);obtain ⟨hT,h₂⟩:=h₂;unfold subscriptTail;refine wpAny_bind ?_;rw [getitemInPython_of_ne hT.not_modules];refine wpAny_bind (wpAny_specialOf hT hl ?_);have fin:wpAny (model prog w) A (subscripted slice false o i) (fun r s₃=>wpAny (model prog w) A (letTemporaryGo value o r >>= fun _=>pure r) Q E s₃) E s₂:=by
  rw [hs o i];exact wpAny_operating (wpAny_mono h₂ (fun r s₃ h₃=>wpAny_bind (wpAny_letTemporaryGo (wpAny_pure h₃))) fun _ _ x=>x)
 first
  | exact wpAny_pure (wpAny_bind fin)
  | exact wpAny_bind (wpAny_pure (wpAny_bind fin))
  | exact wpAny_bind fin
theorem vG {X:Cx} {pins:List (Addr×Obj)} {σ : St} {H:Hp} {s:Shared} {a:Addr} {y:V} {o:Option V} (I:Inv X pins σ H s) (g:iR H a y o):s.TypeIs (.ref a) "dict":=by
 rcases g with ⟨aS,k,e,_,_⟩ | ⟨aS,k,b,e,_,_,_⟩
 ·obtain ⟨_,_,vs,_,dd⟩:=yO I.bF e;exact dd.typeIs
 ·obtain ⟨_,_,xs,_,dd⟩:=yN I.bF e;exact dd.typeIs
def E2 (td ty:TE):TE:=fun σ H Q=>td σ H fun x H1=>ty σ H1 fun y H2=>∃ a v,x = .ref a/\iR H2 a y (some v)/\Q v H2
def Tr (ty td:TE):TE:=fun σ H Q=>ty σ H fun y H1=>td σ H1 fun x H2=>∃ a o,x = .ref a/\iR H2 a y o/\Q (.bl o.isSome) H2
def xT (ty td:TE):TE:=fun σ H Q=>ty σ H fun y H1=>td σ H1 fun x H2=>∃ a o,x = .ref a/\iR H2 a y o/\Q (.bl (!o.isSome)) H2
def E6 (td ty tv:TE):TS:=fun D σ H=>tv σ H fun v H1=>td σ H1 fun x H2=>ty σ H2 fun y H3=>∃ a H4,x = .ref a/\uc H3 a y v H4/\D.nx σ H4
def QZ (td ty tv:TE) (rd:V->V->Hp->VK->Prop):TS:=fun D σ H=>td σ H fun x H1=>ty σ H1 fun y H2=>∃ a v,x = .ref a/\iR H2 a y (some v)/\
 tv σ H2 fun y2 H3=>rd v y2 H3 fun z H4=>∃ H5,uc H4 a y z H5/\D.nx σ H5
def QY (td ty:TE):TS:=fun D σ H=>td σ H fun x H1=>ty σ H1 fun y H2=>∃ a aS k,x = .ref a/\H2 a = some (.dK aS)/\y = kV k/\(fV aS k).isSome = true/\D.nx σ (upd H2 a (.dK (Cg aS k)))
section
variable {X:Cx} {o i e value:Expr} {pos pos' M6:Pos} {td ty tv:TE}
theorem DN (hu:X.A.units + 1 < cLine) (ho:PE X o td) (hi:PE X i ty) (hs:LB i):PE X (.Subscript o i pos) (E2 td ty):=by
 intro pins s σ H Q I h;refine Dg PySem.F.slot_dict_getitem.lookup hs (cF (ho pins s σ H _ I h) fun u s1 ⟨x,H1,I1,rx,q1⟩=>cF (hi pins s1 σ H1 _ I1 q1) fun iv s2 ⟨y,H2,I2,ry,a,v,ex,g,q2⟩=>?_);subst ex;obtain rfl:u = Value.ref a:=rx;exact ⟨vG I2 g,Ai hu I2 g ry fun w' s3 I3 A6=>⟨v,H2,I3,A6,q2⟩⟩
theorem kQ (hu:X.A.units + 1 < cLine) (hi:PE X i ty) (ho:PE X o td):PC X .NotIn i o (xT ty td):=by
 intro pins s σ H Q I h;refine cF (hi pins s σ H _ I h) fun iv s1 ⟨y,H1,I1,ry,q1⟩=>cF (ho pins s1 σ H1 _ I1 q1) fun u s2 ⟨x,H2,I2,rx,a,ov,ex,g,q2⟩=>?_;subst ex;obtain rfl:u = Value.ref a:=rx;exact EA hu I2 g ry fun s3 I3=>⟨.bl (!ov.isSome),H2,I3,rfl,q2⟩
theorem sG (hu:X.A.units + 1 < cLine) (ho:PE X o td) (hi:PE X i ty) (hv:PE X value tv) (hs:swapsWith value (some (.Subscript o i pos')) pos.line X.env = pure false) :
  PS X (.Assign [.Subscript o i pos'] value pos) (E6 td ty tv):=by
 intro pins s σ H D I h;refine wpAny_Assign_Subscript (cF (hv pins s σ H _ I h) fun r s1 ⟨v,H1,I1,rv,q1⟩=>cF (ho pins s1 σ H1 _ I1 q1) fun u s2 ⟨x,H2,I2,rx,q2⟩=>cF (hi pins s2 σ H2 _ I2 q2) fun iv s3 ⟨y,H3,I3,ry,a,H4,ex,g,q3⟩=>?_) hs;subst ex;obtain rfl:u = Value.ref a:=rx;exact Ah hu I3 g ry rv fun s4 I4=>⟨σ,H4,I4,q3⟩
end
theorem Cf {P:Program} {w:World} {H:Hp} (h:Heap) (hb:sysModules < h.objs.size):bB P w H (h.push { cls:=.type "dict",data:=.dict #[] }) h.objs.size (.dT []):=
 ⟨Nat.zero_le _,beq_eq_false_iff_ne.mpr (Ne.symm (Nat.ne_of_lt hb)),[],.nil,_,#[],0,Heap.get?_push_size _ rfl,⟨rfl,rfl,rfl⟩,rfl,rfl,nodup_nil⟩
def Nh:TE:=fun _ H Q=>∀ p,H p = none->Q (.ref p) (upd H p (.dK []))
def FW:TE:=fun _ H Q=>∀ p,H p = none->Q (.ref p) (upd H p (.dT []))
section
variable {X:Cx} {pos:Pos}
theorem nT:PE X (.Dict [] [] pos) FW:=fun pins s σ H Q I h=>
 wpAny_Dict_empty ⟨.ref s.heap.objs.size,_,I.laid (a:=s.heap.objs.size) (o:=.dT []) (t':=s.toks) (fun _ _ q=>Heap.get?_push_of_some _ q) (Nat.le_refl _) (Cf s.heap I.big),rfl,h _ (I.bF.fresh (Nat.le_refl _))⟩
end
def rT:List (TE×TE)->St->Hp->(List (V×V)->Hp->Prop)->Prop
 | [],_,H,Q=>Q [] H
 | (tk,tv) :: r,σ,H,Q=>tk σ H fun x H1=>tv σ H1 fun y H2=>rT r σ H2 fun ps H3=>Q ((x,y) :: ps) H3
abbrev VV:List (V×V)->List (Value×Value)->Prop:=Paired fun p q=>RelV p.1 q.1/\RelV p.2 q.2
def Yd (X:Cx) (pos:Pos) (keys:List (Option Expr)) (values:List Expr) (M5:List (TE×TE)):Prop:=
 ∀ (pins:List (Addr×Obj)) (s:Shared) (σ : St) (H:Hp) (Q:List (V×V)->Hp->Prop),Inv X pins σ H s->rT M5 σ H Q->
  wpAny (model X.prog X.w) X.A (evalPairs (pairTrees keys values X.env pos)) (fun vs s'=>∃ ps H',Inv X pins σ H' s'/\VV ps vs/\Q ps H') X.xe s
def GI (aS more:List (Key×V)):List (Key×V):=more.foldl (fun acc kv=>putK acc kv.1 kv.2) aS
def QK (M5:List (TE×TE)):TE:=fun σ H Q=>∀ p,H p = none->rT M5 σ (upd H p (.dK [])) fun ps H2=>H2 p = some (.dK [])/\∃ aS:List (Key×V),ps = aS.map (fun kv=>(kV kv.1,kv.2))/\aS.length<=15/\Q (.ref p) (upd H2 p (.dK (GI [] aS)))
structure M1 (X:Cx) (o:Expr) (m:Str) (apos:Pos) (e:Expr) (eN:Pos):Prop where
 base:attributeBase o m X.env (eval o X.env) = eval o X.env
 Ac:((backTo eN (starEach [e] X.env)).all (fun x=>!x.1) && (backToKw eN (keywordEach [] X.env)).all (fun x=>x.1.isSome)
  && decide (([e]:List Expr).length + ([]:List Keyword).length + (if ([]:List Keyword).isEmpty then 0 else 1) < 30)) = true
 line:(apos.endLine == eN.line) = true
 trees:backTo eN (starEach [e] X.env) = [(false,eval e X.env)]
structure M2 (X:Cx) (o:Expr) (m:Str) (apos:Pos) (e f:Expr) (eN:Pos):Prop where
 base:attributeBase o m X.env (eval o X.env) = eval o X.env
 Ac:((backTo eN (starEach [e,f] X.env)).all (fun x=>!x.1) && (backToKw eN (keywordEach [] X.env)).all (fun x=>x.1.isSome)
  && decide (([e,f]:List Expr).length + ([]:List Keyword).length + (if ([]:List Keyword).isEmpty then 0 else 1) < 30)) = true
 line:(apos.endLine == eN.line) = true
 trees:backTo eN (starEach [e,f] X.env) = [(false,eval e X.env),(false,eval f X.env)]
def LI (H:Hp) (a:Addr):Prop:=(∃ aS,Rd H a (.dK aS))\/∃ aS,Rd H a (.dT aS)
def Nk (td ty:TE):TE:=fun σ H Q=>td σ H fun x H1=>∃ a,x = .ref a/\LI H1 a/\ty σ H1 fun y H2=>∃ o,iR H2 a y o/\Q (o.getD .bQ) H2
def Nj (td ty tx:TE):TE:=fun σ H Q=>td σ H fun x H1=>∃ a,x = .ref a/\LI H1 a/\ty σ H1 fun y H2=>tx σ H2 fun z H3=>∃ o,iR H3 a y o/\Q (o.getD z) H3
def Ng (td ty:TE):TE:=fun σ H Q=>td σ H fun x H1=>∃ a,x = .ref a/\LI H1 a/\ty σ H1 fun y H2=>∃ aS k v,H2 a = some (.dK aS)/\y = kV k/\fV aS k = some v/\Q v (upd H2 a (.dK (Cg aS k)))
def Nd (td ty tx:TE):TE:=fun σ H Q=>td σ H fun x H1=>∃ a,x = .ref a/\LI H1 a/\ty σ H1 fun y H2=>tx σ H2 fun z H3=>∃ aS k,H3 a = some (.dK aS)/\y = kV k/\
 (∀ v,fV aS k = some v->Q v (upd H3 a (.dK (Cg aS k))))/\(fV aS k = none->Q z H3)
end L2
namespace SW
open PySem PySem.W PySem.Calls PyProof.Rows
theorem mq {P:Params} {h:Heap}:∀ (ns:List Int) (vs:List Value),WellAll P h vs (ns.map WData.int)->IntsAre vs ns:=by
 intro ns
 induction ns with
 | nil=>
  intro vs w;rw [map_nil] at w;cases w
  exact .nil
 | cons n ns ih=>
  intro vs w;rw [map_cons] at w;cases w with
  | cons a b=>
   cases a
   exact .cons _ _ (ih _ b)
theorem zt {l:OpenLaw} {n:Nat} (hn:l.most = some n) {P:Params} {h:Heap} {args:List WData} {vals:List Value}
  (Eh:l.row.toRowW.claim.pre args = true) (Oy:WellAll P h vals args) :
  ∃ a vs ns,vals = [Value.ref a]/\args = [WData.list (ns.map WData.int)]/\h.get? a = some { cls:=.type "list",data:=.seq vs.toArray }/\IntsAre vs ns/\ns.length<=n:=by
 have Vr:WShape.hasAll [] args [.list .int] = true:=(pre_splitW Eh).1;have hc:l.pre.holds [] { args:=args } = true:=(pre_splitW Eh).2;obtain ⟨d,r,rfl,h1,h2⟩:=hasAllW_cons Vr;obtain rfl:=hasAllW_nil h2;obtain ⟨xs,rfl,h3⟩:=hasW_list h1;obtain ⟨ns,rfl⟩:=items_int h3;have hlen:ns.length<=n:=by
  unfold OpenLaw.pre at hc;have h4:(WTm.not (.lt (.lit (.int (n:Int))) (.len (.arg 0)))).holds [] { args:=[.list (ns.map .int)] } = true:=by
   have h4:=(holds_andW hc).1;rw [hn] at h4;exact h4
  have h5:=condW_of h4 (w_not (w_lt w_lit (w_len_list (w_arg rfl))));rw [length_map] at h5;refine Nat.le_of_not_lt fun q=>?_;have q':(n:Int) < ((ns.length:Nat):Int):=by omega
  first
   | (rw [decide_eq_true q'] at h5; exact absurd h5 (by decide))
   | (simp at h5; omega)
 cases Oy with
 | cons w1 w2=>
  cases w2
  cases w1 with
  | list ho Pg=>exact ⟨_,_,ns,rfl,rfl,ho,mq ns _ Pg,hlen⟩
theorem zA (l:OpenLaw) (args:List WData):l.row.toRowW.claim.post args (.bool true) args = true:=
 postW_of (r:=l.row.toRowW) (X:=(true == true))
  (show WShape.has [] (.bool true) .bool = true by first | rfl | decide | simp [WShape.has,WShape.arms,WShape.armsAll])
  (show (WTm.eq .res (.lit (.bool true))).value [] { args:=args,res:=some (.bool true),after:=args } = some (.bool (true == true)) from w_eq_bool (w_res rfl) w_lit) rfl
theorem vO {l:OpenLaw} {n:Nat} {q:Program} {loose:List Str} {XP:(Str->Option Value)->Heap->Prop} {YP:World->Heap->Prop} {d:DefRec}
  (hn:l.most = some n) (Kx:d.params.defaults = [])
  (call:∀ (w:World) (s₀ s₁ : Shared) (mg mb:Str->Option Value) (fa:Addr) (o:Obj) (pm cd doc:Value) (a:Addr) (vs:List Value) (ns:List Int),
   Ground q loose [] XP w s₀ mg mb s₁.heap->YP w s₁.heap->
   s₁.heap.get? fa = some o->o.data = .func (docDef d.name d.params d.body d.scope pm cd doc)->s₁.heap.CodeRec cd d.name->mg d.name = some (.ref fa)->
   s₁.heap.get? a = some { cls:=.type "list",data:=.seq vs.toArray }->IntsAre vs ns->ns.length<=n->s₁.gens = #[]->
   codeAny (model l.prog w) callerA (.call (.ref fa) ⟨[.ref a],[]⟩) (fun r s'=>r = .ok (.ret (.bool true))/\OldK s₁.heap s'.heap/\s'.os = s₁.os/\AllBare s'.gens) s₁) :
  WalkO q loose XP YP l.row.toRowW d [] (fun f vs=>PySem.call f vs):=by
 intro w s₀ s₁ mg mb G Y fa o pm cd doc dV kV ho hd tE hD Kk hg args vals as Eh VH XQ Oy XS;obtain rfl:dV = .none:=Dflts.none hD Kx;obtain rfl:kV = .none:=Dflts.noKw hD;obtain ⟨a,vs,ns,rfl,rfl,G5,hints,hlen⟩:=zt hn Eh Oy;refine enter_call (codeAny_mono (call w s₀ s₁ mg mb fa o pm cd doc a vs ns G Y ho (fd_plain hd) tE Kk G5 hints hlen hg) fun r s' hq=>?_);obtain ⟨rfl,h2,h3,h4⟩:=hq;exact ⟨.inl ⟨.bool true,.bool true,[],rfl,fun _=>rfl,.bool true,zA l _,fun _=>⟨List.Pairwise.nil,fun _ hm=>(nomatch hm)⟩⟩,h2,h3,h4⟩
section
variable {prog:Program} {w:World} {A:Around} {E:Value->Shared->Prop} {s:Shared} {K:Frag}
def N3 (h:Heap):Heap:={ h with objs:=#[] }
def ledger (h:Heap) (L d:Addr):List (Addr×Obj):=(List.range h.objs.size).filterMap fun a=>if a = L\/a = d then none else (h.get? a).map fun o=>(a,o)
end
end SW
namespace L2
open PySem PySem.Spec PyProof.Rows
theorem kz:∀ {vs:List Value} {ns:List Int},IntsAre vs ns->Vals (ns.map V.int) vs
 | _,_,.nil=>.nil
 | _,_,.cons n t h=>.cons ⟨t,rfl⟩ (kz h)
def HI (H:Hp):Prop:=∀ b,H b = none\/∃ o xs,H b = some (.oT o (.lst xs))
theorem BL {P:Program} {w:World} {K:PySem.W.Frag} {mg mb:Str->Option Value} {CX:qj} {k:Nat} {fa a:Addr} {fd:FuncData} {x:Str} {sp:Sp} {s₁ : Shared} {vs:List Value} {ns:List Int}
  (KX:K.In s₁.heap) (CP:s₁.heap.Ns mainGlobals mg) (hb:s₁.heap.Ns builtinsNs mb) (VU:∀ x:Str,x≠ "__name__"->mb x = bootBuiltins x) (OS:s₁.heap.NoLimit) (hg:s₁.gens = #[])
  (ha:s₁.heap.get? a = some { cls:=.type "list",data:=.seq vs.toArray }) (hi:IntsAre vs ns) (hl:ns.length<=sizeLine) (hr:cu k callerA)
  (F:∀ base:Heap,K.In base->base.Ns mainGlobals mg->gL P w K mg base CX k fa fd [x] sp) (KC:∀ (s:Shared) (u:Value),BindsTo s fd ⟨[u],[]⟩ [(x,u)])
  (qU:∀ H:Hp,HI H->aw K H a (ns.map V.int)->sp [.ref a] H (fun v _=>v = .bl true) fun _ _ _=>False)
  (Pn:∀ H e s',CX [] H s₁ (fun _ _ _=>False) e s'->False) :
  codeAny (model P w) callerA (.call (.ref fa) ⟨[.ref a],[]⟩) (fun r s'=>r = .ok (.ret (.bool true))/\OldK s₁.heap s'.heap/\s'.os = s₁.os/\AllBare s'.gens) s₁:=by
 have rv:=kz hi;have Oc:=hi.length
 -- from an abstract heap in Qw nothing but Aw A3 may be tracked
 have core:∀ H:Hp,HI H->aw K H a (ns.map V.int)->jd P w H s₁.heap->(∀ b,H b≠none->b = a)->(H a≠none->K.lookup a = none)->
   codeAny (model P w) callerA (.call (.ref fa) ⟨[.ref a],[]⟩) (fun r s'=>r = .ok (.ret (.bool true))/\OldK s₁.heap s'.heap/\s'.os = s₁.os/\AllBare s'.gens) s₁:=by
  intro H hO hS bF hA hK;have yY:∀ {b:Addr} {o:Obj},s₁.heap.get? b = some o->H b = none->(tD s₁.heap H).get? b = some o:=fun e n=>B1 e n;have JF:∀ {b:Addr} {o:Obj} {es:Array DictEntry} {ep:Nat},s₁.heap.get? b = some o->o.data = .dict es ep->H b = none:=fun {b o es ep} e d=>by
   cases q:H b with
   | none=>rfl
   | some u=>
    have e':b = a:=hA b (by rw [q]; simp);subst e';rw [ha] at e; cases e;have d':Data.seq vs.toArray _ = Data.dict es ep:=d;cases d'
  have Mc:∀ {b:Addr} {m:Str->Option Value},s₁.heap.Ns b m->(tD s₁.heap H).Ns b m:=fun {b m} ⟨o,es,ep,e,d,r⟩=>⟨o,es,ep,yY e (JF e d),d,r⟩;have Sh:K.In (tD s₁.heap H):=fun b o e=>yY (KX b o e) (by
   cases q:H b with
   | none=>rfl
   | some u=>
    have e':b = a:=hA b (by rw [q]; simp);subst e';rw [hK (by rw [q]; simp)] at e; cases e)
  have hM:Mod K mg (tD s₁.heap H):=⟨Sh,Mc CP,⟨mb,Mc hb,VU⟩,let ⟨mc,h1,h2⟩:=OS; ⟨mc,Mc h1,h2⟩⟩;have e0:xN P w K mg (tD s₁.heap H) callerA [] s₁ H:=⟨rfl,hM,fun b o e=>DV e,Nat.le_of_eq (zV _ _),trivial,fun b hb=>absurd (show b∈([]:List Addr) from hb) (by simp),bF,.of_eq hg⟩;refine codeAny_mono ((F _ Sh (Mc CP)).run callerA [] s₁ H ⟨[.ref a],[]⟩ [.ref a] [.ref a] _ _ hr e0 (KC s₁ (.ref a)) (.cons rfl .nil) (qU H hO hS)) fun r s' h=>?_;cases r with
  | error e=>exact (Pn H e s' h).elim
  | ok fl=>
   cases fl with
   | next=>exact False.elim h
   | brk=>exact False.elim h
   | cont=>exact False.elim h
   | ret u=>
    obtain ⟨v,H',os,bare,un,OL,r',q⟩:=h;have q':v = .bl true:=q;subst q';obtain rfl:u = Value.bool true:=r';refine ⟨rfl,OldK.of_keep fun b o e=>?_,os,bare⟩;cases q:H b with
    | none=>exact un.keep b o e q (by intro z; exact absurd (show b∈([]:List Addr) from z) (by simp)) (by simp)
    | some u=>
     rcases hO b with z | ⟨ob,xs,z⟩
     ·rw [q] at z; cases z
     ·have z2:=un.pY b ob _ z;obtain ⟨e1,_⟩:=bF b _ z;obtain ⟨e2,_⟩:=OL b _ z2;rw [e] at e1; cases e1;exact e2
 cases hk:K.lookup a with
 | some o=>
  -- Aw A3 is one of Aw module's own objects
  have e:=KX a o hk;rw [ha] at e;cases e
  refine core (fun _=>none) (fun _=>.inl rfl) (.inr ⟨_,vs.toArray,_,hk,rfl,rfl,rfl,by rw [size_toArray,Oc]; exact hl,by simpa using rv⟩) (fun b u z=>by have z':(none:Option HO) = some u:=z; cases z') (fun b z=>absurd rfl z) fun z=>absurd rfl z
 | none=>
  refine core (fun b=>if b = a then some (.oT { cls:=.type "list",data:=.seq vs.toArray } (.lst (ns.map V.int))) else none) (fun b=>?_) (.inl (.inr ⟨{ cls:=.type "list",data:=.seq vs.toArray },if_pos rfl⟩)) (fun b u z=>?_) (fun b z=>?_) fun _=>hk
  ·by_cases hb:b = a
   ·exact .inr ⟨_,_,if_pos hb⟩
   ·exact .inl (if_neg hb)
  ·by_cases hb:b = a
   ·have z':=(if_pos hb).symm.trans z;cases z'
    subst hb;exact ⟨ha,by rw [length_map]; exact hl,vs,_,rv,ha⟩
   ·have z':=(if_neg hb).symm.trans z;cases z'
  ·by_cases hb:b = a
   ·exact hb
   ·exact absurd (if_neg hb) z
abbrev Yh {K:PySem.W.Frag} {h:Heap} (_:K.In h):PySem.W.Frag:=K
theorem C7 {l:PySem.W.OpenLaw} {n k:Nat} {q:Program} {loose:List Str} {XP:(Str->Option Value)->Heap->Prop} {YP:World->Heap->Prop} {d:DefRec} {K:Params->PySem.W.Frag} {CX:World->qj} {sp:World->Sp} {x:Str}
  (hn:l.most = some n) (Mt:n<=sizeLine) (Kx:d.params.defaults = []) (hr:cu k callerA)
  (hY:∀ (w:World) (h:Heap),YP w h->(K w.params).In h)
  (F:∀ (w:World) (mg:Str->Option Value) (fa:Addr) (h:Heap),(K w.params).In h->h.Ns mainGlobals mg->mg d.name = some (.ref fa)->
   ∃ fd:FuncData,(∀ (s:Shared) (u:Value),BindsTo s fd ⟨[u],[]⟩ [(x,u)])/\
    ∀ base:Heap,(K w.params).In base->base.Ns mainGlobals mg->gL l.prog w (K w.params) mg base (CX w) k fa fd [x] (sp w))
  (qU:∀ (w:World) (H:Hp) (a:Addr) (ns:List Int),ns.length<=n->HI H->aw (K w.params) H a (ns.map V.int)->sp w [.ref a] H (fun v _=>v = .bl true) fun _ _ _=>False)
  (Pn:∀ (w:World) (H:Hp) (s:Shared) (e:Value) (s':Shared),CX w [] H s (fun _ _ _=>False) e s'->False) :
  PySem.W.WalkO q loose XP YP l.row.toRowW d [] (fun f vs=>PySem.call f vs):=by
 refine SW.vO hn Kx fun w s₀ s₁ mg mb fa o pm cd doc a vs ns G Y ho hd tE Kk G5 hints hlen hg=>?_;have KX:=hY w _ Y;obtain ⟨fd,hb,hF⟩:=F w mg fa _ KX G.T.g Kk;exact BL KX G.T.g G.T.b G.T.builtins G.T.nolimit hg G5 hints (Nat.le_trans hlen Mt) hr hF hb (fun H hO hS=>qU w H a ns hlen hO hS) fun H e s'=>Pn w H s₁ e s'
def inClass (s:Stmt) (j:Nat):Stmt:=match s with
 | .ClassDef _ _ _ body _ _ _ _ _ _ _=>body.getD j (.Pass ⟨0,0,0,0⟩)
 | _=>.Pass ⟨0,0,0,0⟩
def c8 (s:Stmt):Arguments:=match s with
 | .FunctionDef _ a _ _ _ _ _ _ _ _=>a
 | _=>{ posonlyargs:=[],args:=[],vararg:=none,kwonlyargs:=[],kw_defaults:=[],kwarg:=none,defaults:=[] }
def bI (s:Stmt):List Stmt:=match s with
 | .FunctionDef _ _ b _ _ _ _ _ _ _=>b
 | _=>[]
def ao (s:Stmt):Scope:=match s with
 | .FunctionDef _ _ _ _ _ _ sc _ _ _=>sc
 | _=>{ kind:=.function,names:=[],isGenerator:=false,isCoroutine:=false }
abbrev Yv:qj:=fun _ _ _ _ _ _=>False
abbrev E0:XK:=fun _ _ _=>False
structure Ar (K:PySem.W.Frag) (x qual:Str) (st:Stmt) (f:Addr) (fd:FuncData):Prop where
 ex:∃ (oc:Value) (od:Option Addr) (kV doc pm:Value) (an:Option Addr) (bN ct:Value) (Ax:Array (Option Value)),
  fd = PySem.W.fnOf x qual (c8 st) (bI st) (ao st) .none kV doc pm an bN ct/\K.lookup f = some ⟨oc,od,.func fd,Ax⟩/\PySem.W.codeIn K bN qual = true
 kp:PySem.W.keepIn K (.ref f) = true
section
variable {P:Program} {w:World} {K:PySem.W.Frag} {mg:Str->Option Value} {base:Heap}
theorem Ar.binds {x qual:Str} {st:Stmt} {f:Addr} {fd:FuncData} {ps:List Str} (F:Ar K x qual st f fd)
  (h:∀ (kV doc pm:Value) (an:Option Addr) (bN ct:Value) (us:List Value),us.length = ps.length->bindArgs (PySem.W.fnOf x qual (c8 st) (bI st) (ao st) .none kV doc pm an bN ct) ⟨us,[]⟩ = pure (ps.zip us)):Binds K fd ps []:=by
 obtain ⟨oc,od,kV,doc,pm,an,bN,ct,Ax,rfl,lk,tE⟩:=F.ex;exact .all (h kV doc pm an bN ct)
theorem jw {x qual:Str} {st:Stmt} {f:Addr} {oc:Value} {od an:Option Addr} {Ax:Array (Option Value)} {kV doc pm bN ct:Value} (l:K.lookup f = some ⟨oc,od,.func (PySem.W.fnOf x qual (c8 st) (bI st) (ao st) .none kV doc pm an bN ct),Ax⟩)
  (c:PySem.W.codeIn K bN qual = true) (k:PySem.W.keepIn K (.ref f) = true):Ar K x qual st f (PySem.W.fnOf x qual (c8 st) (bI st) (ao st) .none kV doc pm an bN ct):=⟨⟨oc,od,kV,doc,pm,an,bN,ct,Ax,rfl,l,c⟩,k⟩
end
theorem oG {A:Around} {k:Nat} (hr:cu k A):A.units + 1 < cLine:=Nat.lt_of_le_of_lt (Nat.add_le_add_left (by decide:1<=64) _) hr.units
section
variable {X:Cx}
theorem pv (i:Nat) {x:Str} {pos:Pos} (hN:X.N[i]? = some x:=by rfl) (hv:MO X.env.scope x:=by first | exact Or.inl rfl | exact Or.inr (Or.inl rfl) | exact Or.inr (Or.inr rfl)) (hd:(x == ("__debug__" : Str)) = false:=by decide)
  (tE:(x == ("__classdict__" : Str)) = false:=by decide):PE X (.Name x pos) (gP i):=Gw hN hv hd tE
end
theorem Ec {A B:Prop} (h:B):if false = true then A else B:=by
 rw [if_neg Bool.false_ne_true];exact h
theorem Eb {A B:Prop} (h:A):if true = true then A else B:=by
 rw [if_pos rfl];exact h
def ah (H H':Hp):Prop:=∀ b o,H b = some o->H' b = some o
theorem ah.refl (H:Hp):ah H H:=fun _ _ h=>h
theorem ah.trans {H H1 H2:Hp} (a:ah H H1) (b:ah H1 H2):ah H H2:=fun c o h=>b c o (a c o h)
theorem ah.free {H H':Hp} (e:ah H H') {l:Addr} (h:H' l = Option.none):H l = Option.none:=by
 cases q:H l with
 | none=>rfl
 | some o=>
  rw [e l o q] at h;cases h
theorem ah.seq {K:PySem.W.Frag} {H H':Hp} {a:Addr} {xs:List V} (e:ah H H') (h:aw K H a xs):aw K H' a xs:=by
 rcases h with (h | ⟨o,h⟩) | h
 ·exact .inl (.inl (e _ _ h))
 ·exact .inl (.inr ⟨o,e _ _ h⟩)
 ·exact .inr h
end L2

section
namespace L2
open PySem PySem.Spec PyProof.Rows
def Sz (n:Nat) (x:Int):Prop:=x.natAbs < 2 ^ n
theorem Sz.mono {m n:Nat} {x:Int} (h:Sz m x) (VF:m<=n):Sz n x:=Nat.lt_of_lt_of_le h (Nat.pow_le_pow_right (by decide) VF)
theorem Sz.Fo {m n:Nat} {x y:Int} (hx:Sz m x) (hy:Sz n y) (hm:m + n<=134217728:=by decide):IntMulOk x y:=
 PySem.IntMulOk.of_le (PySem.intBits_le_iff.mpr hx) (PySem.intBits_le_iff.mpr hy) hm
section
variable {X:Cx}
theorem fF:lX X (binaryOp .Mult) (rI IntMulOk fun i j=>.int (i * j)):=L9 fun _ _ _ _ _ _ _ hc q=>mul_int q hc
def Qv (_ j:Int):Prop:=j≠0/\Sz 9000 j
theorem Qv.np {i j:Int} (h:Qv i j):Builtin.divisionGoesByPylong i j = false:=by
 refine PyProof.noPylong_of_log2 ?_;have h0:j.natAbs≠0:=fun e=>h.1 (Int.natAbs_eq_zero.mp e);exact (Nat.log2_lt h0).mpr h.2
def Qu (_ j:Int):Prop:=0 < j/\Sz 9000 j
theorem bJ:lX X (binaryOp .FloorDiv) (rI Qu fun i j=>.int (i / j)):=L9 fun i j _ _ _ _ _ hc q=>by
 have h1:(0:Int) < j:=hc.1;exact floordiv_int (by omega) (by rw [Int.fdiv_eq_ediv_of_nonneg i (by omega)]; exact q) (.inl (Qv.np ⟨by omega,hc.2⟩))
end
structure cw (P:Program) (w:World) (K:PySem.W.Frag) (mg:Str->Option Value) (base:Heap) (CX:qj) (x:Str) (k:Nat) (ps:List Str) (sp:Sp):Prop where
 ex:∃ f fd,gL P w K mg base CX k f fd ps sp/\mg x = some (.ref f)/\PySem.W.keepIn K (.ref f) = true/\Binds K fd ps []
section
variable {X:Cx} {CX:qj} {k j:Nat} {ps:List Str} {sp:Sp} {E:XK} {x:Str} {p pos:Pos} {e:Expr} {es:List Expr} {t:TA}
theorem aA (h:cw X.prog X.w X.K X.mg X.base CX x k ps sp) (hr:cu j X.A) (hx:Passes CX X E) (ha:PA X (e :: es) t) (hk:k<=j:=by decide) (hg:Gl X x:=by rfl) (vt:(x == ("__debug__" : Str)) = false:=by decide)
  (he:starEach (e :: es) X.env = (false,eval e X.env) :: starEach es X.env:=by rfl) (mU:(backTo pos (starEach es X.env)).any (·.1) = false:=by rfl) :
  PE X (.Call (.Name x p) (e :: es) [] pos) (A1 sp [] E t):=by
 obtain ⟨f,fd,F,hm,Fs,hb⟩:=h.ex;exact DO F (hr.mono hk) hg hm Fs hb .nil hx ha vt he mU
end
inductive Au:V->Value->Prop where
 | ty (n:String):Au (.ty n) (.type n)
 | ref (a:Addr):Au (.ref a) (.ref a)
def Fb (K:PySem.W.Frag):List V->Hp->VK->Prop:=fun xs H Q=>∃ x c t u b,xs = [x,c]/\kr K H x t/\Au c u/\PySem.W.kitOne K t u = some b/\Q (.bl b) H
theorem rG {X:Cx}:fL X (.builtin "isinstance") (Fb X.K):=by
 intro pins s σ H xs us Q I r h;obtain ⟨x,c,t,u,b,rfl,ty,rc,e,q⟩:=h;obtain ⟨u1,u2,rfl,r1,r2⟩:=vals2 r;have e2:u2 = u:=by
  cases rc <;> (cases r2; rfl)
 subst e2;exact zP I r1 ty e fun tk=>⟨.bl b,H,I.tok _,rfl,q⟩
section
variable {X:Cx} {pins:List (Addr×Obj)} {σ : St} {H:Hp} {s:Shared} {h':Heap}
theorem Inv.qp {t':Nat} {ch:List Addr} {a:Addr} {o:HO} (I:Inv X pins σ H s) (k:∀ b u,b∉ch->s.heap.get? b = some u->h'.get? b = some u) (hf:∀ b∈ch,pH X pins H b) (hp:s.heap.objs.size<=a)
  (new:bB X.prog X.w (upd H a o) h' a o):Inv X pins σ (upd H a o) { s with heap:=h',toks:=t' }:=by
 have hn:=I.bF.fresh hp;have yw:∀ b u,H b = some u->b∉ch:=fun b u e z=>by rw [(hf b z).1] at e; cases e
 refine I.step (g':=s.gens) (d':=s.drawn) (ch:=ch) (fun b hb=>?_) (fun b o _ _ hc e _=>k b o hc e) (fun b o _ _ hc e _=>⟨o.slots,k b o hc e⟩) (fun b u _ e n=>?_) (fun b o hc e=>⟨o,k b o hc e⟩)
  (fun b xs e=>by rw [ak (aB e hn)]; exact e) (fun b u v e=>by rw [ak (aB e hn)]; exact e) (fun b ps e=>⟨#[],by rw [ak (aB e hn),e]; simp⟩) (fun m hm=>?_) (fun b u e=>?_) I.bare
 ·obtain ⟨f0,f1,f2,f3,f4,f5⟩:=hf b hb;exact ⟨f3,f1,f4,f5⟩
 ·rw [ak (Nat.ne_of_lt (Nat.lt_of_lt_of_le (Heap.lt_size e) hp))]; exact n
 ·obtain ⟨o,es,ep,ho,r⟩:=hm;exact ⟨o,es,ep,k _ o (fun z=>(hf _ z).2.1 rfl) ho,r⟩
 ·by_cases hb:b = a
  ·subst hb; rw [ae] at e; cases e; exact new
  ·rw [ak hb] at e;refine (I.bF b u e).iZ (fun c v hc q=>k c v ?_ q) (fun c q=>by rw [ak (aB q hn)]; exact q) fun c xs q=>by rw [ak (aB q hn)]; exact q
   rcases hc with z | z
   ·rw [z]; exact yw b u e
   ·exact yw c _ z
theorem Inv.xR {t':Nat} {ch:List Addr} (I:Inv X pins σ H s) (k:∀ b u,b∉ch->s.heap.get? b = some u->h'.get? b = some u) (hf:∀ b∈ch,pH X pins H b):Inv X pins σ H { s with heap:=h',toks:=t' }:=by
 have yw:∀ b u,H b = some u->b∉ch:=fun b u e z=>by rw [(hf b z).1] at e; cases e
 refine I.step (g':=s.gens) (d':=s.drawn) (ch:=ch) (fun b hb=>?_) (fun b o _ _ hc e _=>k b o hc e) (fun b o _ _ hc e _=>⟨o.slots,k b o hc e⟩) (fun b u _ e n=>n) (fun b o hc e=>⟨o,k b o hc e⟩)
  (fun b xs e=>e) (fun b u v e=>e) (fun b ps e=>⟨#[],by rw [e]; simp⟩) (fun m hm=>?_) (fun b u e=>?_) I.bare
 ·obtain ⟨f0,f1,f2,f3,f4,f5⟩:=hf b hb;exact ⟨f3,f1,f4,f5⟩
 ·obtain ⟨o,es,ep,ho,r⟩:=hm;exact ⟨o,es,ep,k _ o (fun z=>(hf _ z).2.1 rfl) ho,r⟩
 ·refine (I.bF b u e).iZ (fun c v hc q=>k c v ?_ q) (fun c q=>q) fun c xs q=>q;rcases hc with z | z
  ·rw [z]; exact yw b u e
  ·exact yw c _ z
end
def LH (K:PySem.W.Frag) (a:Addr):It:=
 ⟨fun i H=>∃ xs x,aw K H a xs/\xs[i]? = some x,
  fun i H x H'=>∃ p y,H p = none/\x = .ref p/\(∀ xs,aw K H a xs->xs[i]? = some y)/\H' = upd H p (.tup [.int i,y]),
  fun i H=>∃ xs,aw K H a xs/\xs.length<=i⟩
theorem zi {P:Program} {w:World} {K:PySem.W.Frag} {elts:List Expr} {kx:Nat} {px:Pos} (a e it:Addr) (iV:e≠it) :
  Turn P w K (.Tuple elts kx px) (LH K a) [e,it] e (fun i h=>(∃ old,IsEnum h e it (i:Nat) old)/\h.IsListIter it a i) where
 mem:=by simp
 obj:=fun i h st b hb=>by
  obtain ⟨⟨old,he⟩,hit⟩:=st;rcases List.mem_cons.mp hb with rfl | hb
  ·exact ⟨_,he,fun v z=>by cases z⟩
  ·obtain rfl:b = it:=by simpa using hb
   obtain ⟨o,e1,c,d⟩:=hit;exact ⟨o,e1,fun v z=>by rw [d] at z; cases z⟩
 keep:=fun i h h' st k=>by
  obtain ⟨⟨old,he⟩,hit⟩:=st;exact ⟨⟨old,k e (by simp) _ he⟩,hit.at fun o q=>k it (by simp) o q⟩
 item:=by
  intro X hP hw hK hc i pins s σ H E I hf st hg;subst hP hw hK;obtain ⟨⟨old,he⟩,hit⟩:=st;obtain ⟨xs,x,hq,hx⟩:=hg;obtain ⟨aO,rv,p,hz⟩:=I.list hq;obtain ⟨u,hu,ru⟩:=rv.get hx;have Kt:e < s.heap.objs.size:=Heap.lt_size he;have O1:it < s.heap.objs.size:=by obtain ⟨_,q,_⟩:=id hit; exact Heap.lt_size q
  refine wpAny_pyNext_enum_item he hit p.isList (x:=u) (by simpa using hu) iV fun h' ho O0 hT hsz hk=>⟨_,rfl,?_⟩;refine wpAny_letOwnedTupleGo_enum ho fun h2 Ih xj=>?_;replace xj:Heap.SameBut e h' h2:=xj;have hn:H s.heap.objs.size = none:=I.bF.fresh (Nat.le_refl _);have kk:∀ b o,b∉[e,it]->s.heap.get? b = some o->h2.get? b = some o:=fun b o hb q=>(xj.2 b fun z=>hb (by simp [z])).trans (hk b o (fun z=>hb (by simp [z])) (fun z=>hb (by simp [z])) q);have Pk:h2.get? s.heap.objs.size = some { cls:=.type "tuple",data:=.seq #[.int i s.toks,u] }:=(xj.2 _ (Nat.ne_of_gt Kt)).trans hT;refine ⟨.ref s.heap.objs.size,upd H s.heap.objs.size (.tup [.int i,x]),Inv.qp (s:=s) (h':=h2) (t':=s.toks + 1) I kk hf (Nat.le_refl _) ⟨by simp only [length_cons,length_nil]; rw [sizeLine_eq]; decide,[.int i s.toks,u],.cons ⟨_,rfl⟩ (.cons ru .nil),⟨_,Pk,rfl,_,rfl⟩⟩,rfl,
   ⟨_,x,hn,rfl,fun ys hy=>by rw [I.jZ hy hq]; exact hx,rfl⟩,⟨⟨_,Ih⟩,O0.at fun o q=>(xj.2 it (Ne.symm iV)).trans q⟩,fun b hb=>?_⟩
  rw [ak ?_]
  ·exact (hf b hb).1
  ·rcases List.mem_cons.mp hb with rfl | hb
   ·exact Nat.ne_of_lt Kt
   ·obtain rfl:b = it:=by simpa using hb
    exact Nat.ne_of_lt O1
 done:=by
  intro X hP hw hK hc i pins s σ H E I hf st hg;subst hP hw hK;obtain ⟨⟨old,he⟩,hit⟩:=st;obtain ⟨xs,hq,hx⟩:=hg;obtain ⟨aO,rv,p,hz⟩:=I.list hq;have hl:=rv.length;exact wpAny_pyNext_enum_end (I.ok.hd hc) he hit p.isList (by simp; omega) fun h' eb=>⟨rfl,Inv.xR (t':=s.toks) (ch:=[e,it]) I (fun b o hb q=>eb b o (fun z=>hb (by simp [z])) q) hf⟩
 self:=fun _ _ _ _ _ st h=>by
  obtain ⟨⟨old,he⟩,hit⟩:=st;exact wpAny_pyIter_enum he h
def JX (K:PySem.W.Frag) (ta:TA):TI:=fun σ H R=>ta σ H fun vs H1=>∃ a,vs = [.ref a]/\(∃ xs,aw K H1 a xs)/\R (LH K a) H1
theorem mM {X:Cx} {l:Expr} {ta:TA} {p pos:Pos} {elts:List Expr} {kx:Nat} {px:Pos} (hm:X.mg "enumerate" = none) (ha:PA X [l] ta) (hg:Gl X "enumerate":=by rfl) (hs:starEach [l] X.env = [(false,eval l X.env)]:=by rfl) :
  PI X (.Tuple elts kx px) (.Call (.Name "enumerate" p) [l] [] pos) (JX X.K ta):=by
 intro pins s σ H R I h;refine Call_ (iH I hg hm boot_enumerate (PyProof.Rows.callWith_type1 (cF (ha pos pins s σ H _ I h) fun us s1 ⟨vs,H1,I1,r1,q1⟩=>?_) hs rfl));obtain ⟨a,rfl,⟨xs,hq⟩,q⟩:=q1;obtain ⟨u,rfl,ru⟩:=vals1 r1;cases ru
 obtain ⟨aO,rv,pl,hz⟩:=I1.list hq;refine call_enumerate_list pl.isList fun h' he hit hsz hk=>?_;refine wpAny_pyIter_enum he ?_;have I2:Inv X pins σ H1 { s1 with heap:=h' }:=I1.kept (t':=s1.toks) fun b o e=>hk b o e;refine ⟨_,[s1.heap.objs.size + 1,s1.heap.objs.size],_,_,H1,rfl,I2,zi a _ _ (Nat.succ_ne_self _),⟨⟨_,he⟩,hit⟩,fun b hb=>?_,q⟩;rcases List.mem_cons.mp hb with rfl | hb
 ·exact I1.zZ (Nat.le_succ _) (I1.bF.fresh (Nat.le_succ _))
 ·obtain rfl:b = s1.heap.objs.size:=by simpa using hb
  exact I1.zZ (Nat.le_refl _) (I1.bF.fresh (Nat.le_refl _))
theorem kh {K:PySem.W.Frag} {a:Addr} {xs:List V} {g:TG} {tb:TS} {D:Ends} {σ : St} {H:Hp} (Pv:Nat->St->Hp->Prop) (h0:Pv 0 σ H) (hl:∀ i σ H,i<=xs.length->Pv i σ H->aw K H a xs)
  (hs:∀ i x p σ H,xs[i]? = some x->Pv i σ H->H p = none->g (.ref p) σ (upd H p (.tup [.int i,x])) fun σ2 H2=>tb { D with nx:=Pv (i + 1),ct:=Pv (i + 1),bk:=D.nx } σ2 H2) (hd:∀ σ H,Pv xs.length σ H->D.nx σ H) :
  ∃ W:Nat->Nat->St->Hp->Prop,(∃ m,W 0 m σ H)/\∀ i m σ H,W i m σ H->
   ((LH K a).stop i H/\D.nx σ H)\/((LH K a).go i H/\∃ N:St->Hp->Prop,(∀ σ' H',N σ' H'->∃ m',m' < m/\W (i + 1) m' σ' H')/\∀ x H',(LH K a).Av i H x H'->g x σ H' fun σ2 H2=>tb { D with nx:=N,ct:=N,bk:=D.nx } σ2 H2):=by
 refine ⟨fun i m σ H=>m = xs.length - i/\i<=xs.length/\Pv i σ H,⟨xs.length,by simp,Nat.zero_le _,h0⟩,?_⟩;rintro i m σ H ⟨rfl,hi,p⟩;have q:=hl i σ H hi p;by_cases ef:i < xs.length
 ·refine .inr ⟨⟨xs,xs[i],q,by simp [ef]⟩,Pv (i + 1),fun σ' H' p'=>⟨xs.length - (i + 1),by omega,rfl,ef,p'⟩,fun x H' y=>?_⟩;obtain ⟨r,y,hr,rfl,hy,rfl⟩:=y;exact hs i y r σ H (hy xs q) p hr
 ·have e:i = xs.length:=by omega
  subst e;exact .inl ⟨⟨xs,q,Nat.le_refl _⟩,hd σ H p⟩
section
variable {σ : St} {H:Hp} {Q:VK} {D:Ends}
theorem r_var {i:Nat} {v:V} (h : σ[i]? = some (some v)) (q:Q v H):gP i σ H Q:=⟨v,h,q⟩
theorem r_c {v:V} (q:Q v H):tC v σ H Q:=q
theorem r_op {r:R2} {ta tb:TE} (h:ta σ H fun x H1=>tb σ H1 fun y H2=>r x y H2 Q):HQ r ta tb σ H Q:=h
theorem Nz {r:V->Hp->VK->Prop} {ta:TE} (h:ta σ H fun x H1=>r x H1 Q):QE r ta σ H Q:=h
theorem qJ {g:Int->Int->V} {i j:Int} (q:Q (g i j) H):DF g (.int i) (.int j) H Q:=⟨i,j,rfl,rfl,q⟩
theorem jN {C:Int->Int->Prop} {g:Int->Int->V} {i j:Int} (c:C i j) (q:Q (g i j) H):rI C g (.int i) (.int j) H Q:=⟨i,j,rfl,rfl,c,q⟩
theorem NB {g:Int->V} {i:Int} (q:Q (g i) H):rU g (.int i) H Q:=⟨i,rfl,q⟩
theorem Jk {i j:Int} (q:Q (.bl (decide (i = j))) H):Q9 (.int i) (.int j) H Q:=⟨rfl,by rw [mW,Bool.beq_eq_decide_eq]; exact q⟩
theorem Jf {i j:Int} (q:Q (.bl (!decide (i = j))) H):Q8 (.int i) (.int j) H Q:=⟨rfl,by rw [mW,Bool.beq_eq_decide_eq]; exact q⟩
theorem r_seq {t u:TS} (h:t { D with nx:=u D } σ H):FT t u D σ H:=h
theorem sx (h:D.nx σ H):EZ D σ H:=h
theorem r_asg {te:TE} {g:TG} (h:te σ H fun x H1=>g x σ H1 D.nx):zq te g D σ H:=h
theorem r_gname {i:Nat} {v:V} {R:St->Hp->Prop} (h:R (σ.set i (some v)) H):lU i v σ H R:=h
theorem uH {te:TE} (h:te σ H D.rt):Df te D σ H:=h
theorem Gh {te:TE} (h:te σ H fun _ H1=>D.nx σ H1):E1 te D σ H:=h
theorem E9 {c:TT} {t u:TS} (h:c σ H fun b H1=>if b = true then t D σ H1 else u D σ H1):FV c t u D σ H:=h
theorem F8 {t:TE} {R:Bool->Hp->Prop} (h:t σ H fun x H'=>∃ k,x = .bl k/\R k H'):AW t σ H R:=h
theorem T3 {t:TE} {R:Bool->Hp->Prop} (h:t σ H fun x H'=>∃ k,x = .bl k/\R k H'):tB t σ H R:=h
theorem NH {k:Bool} {R:Bool->Prop} (h:R k):∃ k',V.bl k = .bl k'/\R k':=⟨k,rfl,h⟩
theorem Je {t:TT} {R:Bool->Hp->Prop} (h:t σ H fun c H1=>R (!c) H1):II t σ H R:=h
theorem Jm {t u:TT} {R:Bool->Hp->Prop} (h:t σ H fun c H1=>if c = true then u σ H1 R else R false H1):IS t u σ H R:=h
theorem NC {t u:TT} {R:Bool->Hp->Prop} (h:t σ H fun c H1=>if c = true then R true H1 else u σ H1 R):QI t u σ H R:=h
theorem Jd {ta tb:TE} (h:ta σ H fun x H1=>∃ c,x = .bl c/\if c = true then Q (.bl true) H1 else tb σ H1 Q):IH ta tb σ H Q:=h
theorem uI {R:List V->Hp->Prop} (h:R [] H):um σ H R:=h
theorem wI {ta:TE} {tr:TA} {R:List V->Hp->Prop} (h:ta σ H fun x H1=>tr σ H1 fun xs H2=>R (x :: xs) H2):je ta tr σ H R:=h
theorem Gk {sp:Sp} {E:XK} {t:TA} (h:t σ H fun vs H1=>sp (vs ++ []) H1 Q E):A1 sp [] E t σ H Q:=h
theorem NF {r:List V->Hp->VK->Prop} {t:TA} (h:t σ H fun vs H1=>r vs H1 Q):LO r t σ H Q:=h
theorem Jb {t:TA} (h:t σ H fun xs H1=>xs.length<=sizeLine/\∀ p,H1 p = none->Q (.ref p) (upd H1 p (.tup xs))):ID t σ H Q:=h
theorem Jh {t:TA} (h:t σ H fun xs H1=>xs.length<=sizeLine/\∀ p,H1 p = none->Q (.ref p) (upd H1 p (.lst xs))):AZ t σ H Q:=h
theorem Jc {i j:Nat} {ta:TA} (h:ta σ H fun vs H1=>∃ v w,vs = [v,w]/\D.nx ((σ.set i (some v)).set j (some w)) H1):IG i j ta D σ H:=h
theorem cW {wi:TI} {g:TG} {tb:TS} (h:wi σ H fun J H1=>∃ W:Nat->Nat->St->Hp->Prop,(∃ m,W 0 m σ H1)/\∀ i m σ H,W i m σ H->
 (J.stop i H/\D.nx σ H)\/(J.go i H/\∃ N:St->Hp->Prop,(∀ σ' H',N σ' H'->∃ m',m' < m/\W (i + 1) m' σ' H')/\∀ x H',J.Av i H x H'->g x σ H' fun σ2 H2=>tb { D with nx:=N,ct:=N,bk:=D.nx } σ2 H2)):IM wi g tb D σ H:=h
theorem Oq {A B:Prop} (h:A):if true = true then A else B:=Eb h
theorem RL {A B:Prop} (h:B):if false = true then A else B:=Ec h
theorem if2 {c A B:Prop} [Decidable c] (h1:c->A) (h2:¬ c->B):if decide c = true then A else B:=by
 by_cases h:c
 ·rw [decide_eq_true h]; exact Eb (h1 h)
 ·rw [decide_eq_false h]; exact Ec (h2 h)
theorem i9 {c A B:Prop} [Decidable c] (h1:¬ c->A) (h2:c->B):if (!decide c) = true then A else B:=by
 by_cases h:c
 ·rw [decide_eq_true h]; exact Ec (h2 h)
 ·rw [decide_eq_false h]; exact Eb (h1 h)
end
theorem aQ:bootBuiltins "len" = some (.builtin "len"):=by decide +kernel
theorem jg:bootBuiltins "isinstance" = some (.builtin "isinstance"):=by decide +kernel
theorem yV:bootBuiltins "list" = some (.type "list"):=by decide +kernel
structure Def (K:PySem.W.Frag) (mg:Str->Option Value) (x:Str) (st:Stmt) (ps:List Str):Prop where
 ex:∃ f fd,Ar K x x st f fd/\mg x = some (.ref f)/\Binds K fd ps []
theorem ah.upd {H:Hp} {p:Addr} {o:HO} (h:H p = none):ah H (upd H p o):=fun b u e=>by rw [ak (aB e h)]; exact e
section
variable {σ : St} {H:Hp} {Q:VK} {K:PySem.W.Frag}
theorem Bd {p:Addr} {xs:List V} {i:Int} {v:V} (h:SqT K H p xs) (hi:gT xs i = some v) (q:Q v H):Gn K (.ref p) (.int i) H Q:=⟨p,xs,i,v,rfl,rfl,h,hi,q⟩
theorem aR {p:Addr} {xs:List V} {i:Int} {v:V} (h:aw K H p xs) (hi:gT xs i = some v) (q:Q v H):DE K (.ref p) (.int i) H Q:=⟨p,xs,i,v,rfl,rfl,h,hi,q⟩
theorem Be {x c:V} {t u:Value} {b:Bool} (ty:kr K H x t) (hc:Au c u) (e:PySem.W.kitOne K t u = some b) (q:Q (.bl b) H):Fb K [x,c] H Q:=⟨x,c,t,u,b,rfl,ty,hc,e,q⟩
theorem iB {n:Nat} {t:CZ} {a:Addr} {xs:List V} {R:St->Hp->Prop} (h:SqT K H a xs) (hl:xs.length = n) (q:t xs σ H R):Hk K n t (.ref a) σ H R:=⟨a,xs,rfl,h,hl,q⟩
theorem DA {t:TG} {u:CZ} {v:V} {vs:List V} {R:St->Hp->Prop} (q:t v σ H fun σ' H'=>u vs σ' H' R):Fy t u (v :: vs) σ H R:=⟨v,vs,rfl,q⟩
theorem Gg {R:St->Hp->Prop} (q:R σ H):KN [] σ H R:=⟨rfl,q⟩
end
end L2
namespace Fr
structure Yg (a b t u:Int):Prop where
 pos:0 < u
 co:Int.gcd t u = 1
 eq:t * b = a * u
 ta:t.natAbs<=a.natAbs
 ub:u.natAbs<=b.natAbs
end Fr
namespace L2
open PySem PySem.Spec PyProof.Rows
theorem xQ {c:TT} {tb:TS} {D:Ends} {σ : St} {H:Hp} (Pv:St->Hp->Prop) (μ : St->Hp->Nat) (h0:Pv σ H)
  (hs:∀ σ H,Pv σ H->c σ H fun b H1=>if b = true then ∃ N:St->Hp->Prop,(∀ σ' H',N σ' H'->∃ m',m' < μ σ H/\(m' = μ σ' H'/\Pv σ' H'))/\tb { D with nx:=N,ct:=N,bk:=D.nx } σ H1 else D.nx σ H1):AV c tb D σ H:=
 ⟨fun m σ H=>m = μ σ H/\Pv σ H,⟨_,rfl,h0⟩,by rintro m σ H ⟨rfl,p⟩; exact hs σ H p⟩
theorem w_turn {tb:TS} {r:VK} {bk:St->Hp->Prop} {σ : St} {H:Hp} {Pv:St->Hp->Prop} {μ : St->Hp->Nat} {m:Nat} (h:tb { nx:=fun σ' H'=>Pv σ' H'/\μ σ' H' < m,rt:=r,bk:=bk,ct:=fun σ' H'=>Pv σ' H'/\μ σ' H' < m } σ H) :
  ∃ N:St->Hp->Prop,(∀ σ' H',N σ' H'->∃ m',m' < m/\(m' = μ σ' H'/\Pv σ' H'))/\tb { nx:=N,rt:=r,bk:=bk,ct:=N } σ H:=⟨_,fun _ _ p=>⟨_,p.2,rfl,p.1⟩,h⟩
theorem Ot {A B:Prop} (h:B):if (!true) = true then A else B:=Ec h
theorem Ou {A B:Prop} (h:A):if (!false) = true then A else B:=Eb h
theorem LR:2<=sizeLine:=by rw [sizeLine_eq]; decide
theorem TC:3<=sizeLine:=by rw [sizeLine_eq]; decide
theorem b8 {CX:qj} {P:Program} {w:World} {K:PySem.W.Frag} {mg:Str->Option Value} {base:Heap} {N:List Str} {q:Str} {sc:Scope} {f:Addr} {cd:Value} {A:Around} {o:List Env} {s:Shared} {H:Hp} {E:XK}:(gH CX P w K mg base N q sc f cd A o s H E).K = K:=rfl
section
variable {K:PySem.W.Frag}
theorem BP:PySem.W.kitOne K (.type "list") (.type "list") = some true:=by kernel_rfl
end
theorem mulL {a b:Int} (h1 : -(2 ^ 64) < a) (h2:a < 2 ^ 64):IntMulOk a b:=.of_left (intBits_le_64 h1 h2)
theorem Sz.TR {n:Nat} {x:Int} (h1 : -(2 ^ 64) < x) (h2:x < 2 ^ 64) (hn:64<=n):Sz n x:=Sz.mono (m:=64) (by unfold Sz; omega) hn
theorem ED {i j:Int} (h1:0 < j) (h2:j < 2 ^ 64):Qu i j:=⟨h1,Sz.TR (by omega) h2 (by decide)⟩
section
variable {X:Cx} {a b:Expr} {i j v:Int} {op:Operator} {pos:Pos} {C:Int->Int->Prop} {g:Int->Int->V}
theorem jS (ho:lX X (binaryOp op) (rI C g)) (ha:PE X a (tC (.int i))) (hb:PE X b (tC (.int j))) (c:C i j) (e:g i j = .int v):PE X (.BinOp a op b pos) (tC (.int v)):=
 fun pins s σ H Q I h=>aD ho ha hb pins s σ H Q I ⟨i,j,rfl,rfl,c,by rw [e]; exact h⟩
end
end L2
end
section
namespace L2
open PySem PySem.Spec PySem.W PySem.Calls PyProof.Rows Builtin Builtin.ObjectAttr Builtin.Getset_descriptor
def ExcAt (C:Addr) (a:Addr) (h:Heap):Prop:=∃ ob,h.get? a = some ob/\ob.cls = .ref C/\PySem.W.notCls ob = true
def K3 (C a:Addr):HO:=.ext (ExcAt C a)
def Qr (C:Addr) (D:Option Addr) (a:Addr) (h:Heap):Prop:=∃ ob,h.get? a = some ob/\ob.cls = .ref C/\PySem.W.notCls ob = true/\ob.dict = D
def Eu (C:Addr) (D:Option Addr) (a:Addr):HO:=.ext (Qr C D a)
def Pz (C:Addr) (D:Option Addr) (a:Addr):HO:=match D with | none=>K3 C a | some d=>Eu C (some d) a
structure CI (K:Frag) (D:Addr):Prop where
 XU:findIn K (.ref D) "__getattribute__" = some (some (.builtin "BaseException.__getattribute__"))
 XT:findIn K (.ref D) "__getattr__" = some none
 XR:mroIn K D (.type "BaseException") = some true
 cl:(clsIn K D).isSome = true
 ha:findIn K (.ref D) "__class__" = some (some (.builtin "object.__class__"))
 hn:specialIn K (.builtin "object.__class__") "__get__" = some (some (.builtin "getset_descriptor.__get__"))
 OC:takesIn K (.builtin "object.__class__") = some true
 hm:mroIn K D (.type "object") = some true
end L2
end
section
namespace Kd
open PySem
def Kp {α : Type}:Sem α->Prop
 | .pure _=>True
 | .raise _=>True
 | .unsupported _=>True
 | .finish _=>True
 | .rule _ k=>Kp (k ())
 | .at _ k=>Kp (k ())
 | .load _ _ k=>∀ o,Kp (k o)
 | .update _ _ f k=>(∀ o,(f o).dict = o.dict)/\Kp (k ())
 | .alloc _ k=>∀ a,Kp (k a)
 | .loadIfAlive _ k=>∀ o,Kp (k o)
 | .point _ k=>Kp (k ())
 | .register _ _=>True
 | .fresh k=>∀ t,Kp (k t)
 | .ask k=>∀ x,Kp (k x)
 | .choose _ _ k=>∀ x,Kp (k x)
 | .os _ _ k=>∀ x,Kp (k x)
 | .call ..=>False
 | .handled _ k=>∀ x,Kp (k x)
 | .newGen _ k=>∀ x,Kp (k x)
 | .genState _ k=>∀ x,Kp (k x)
 | .resume ..=>False
 | .yield ..=>True
 | .stack k=>∀ x,Kp (k x)
 | .fork ..=>True
 | .thread k=>∀ x,Kp (k x)
 | .await ..=>True
def Dc (e:Addr) (D:Option Addr) (h:Heap):Prop:=∃ o,h.objs[e]? = some o/\o.dict = D
theorem Dc.upd {e a:Addr} {D:Option Addr} {h:Heap} {f:Obj->Obj} (x:Dc e D h) (hf:∀ o,(f o).dict = o.dict):Dc e D (h.update a f):=by
 obtain ⟨o,h1,h2⟩:=x;cases h with
 | mk objs l=>
  unfold Heap.update;by_cases q:a = e
  ·exact ⟨f o,by simp only [Array.getElem?_modify,if_pos q]; simp only at h1; rw [h1]; rfl,by rw [hf,h2]⟩
  ·exact ⟨o,by simp only [Array.getElem?_modify,if_neg q]; exact h1,h2⟩
theorem Dc.push {e:Addr} {D:Option Addr} {h:Heap} (x:Dc e D h) (o:Obj):Dc e D (h.push o):=by
 obtain ⟨o',h1,h2⟩:=x;cases h with
 | mk objs l=>
  unfold Heap.push;have lt:e < objs.size:=(Array.getElem?_eq_some_iff.mp h1).1;exact ⟨o',by simp only [Array.getElem?_push,if_neg (Nat.ne_of_lt lt)]; exact h1,h2⟩
theorem Dc.of {e:Addr} {D:Option Addr} {h:Heap} {o:Obj} (h1:h.get? e = some o) (h2:o.dict = D):Dc e D h:=⟨o,(Heap.get?_some_iff.mp h1).1,h2⟩
theorem JS {α : Type} {M:Model} {Γ : Ctx} {e:Addr} {D:Option Addr}:∀ {t:Sem α} {Q : α->Pos->Shared->Prop} {E:Value->Pos->Shared->Prop} {p:Pos} {s:Shared},Kp t->Dc e D s.heap->Sem.wp M Γ t Q E p s->
  Sem.wp M Γ t (fun a p s'=>Q a p s'/\Dc e D s'.heap) (fun v p s'=>E v p s'/\Dc e D s'.heap) p s:=by
 intro t
 induction t with
 | pure a=>intro Q E p s _ d h; exact ⟨h,d⟩
 | raise v=>intro Q E p s _ d h; exact ⟨h,d⟩
 | unsupported _=>intro Q E p s _ d h; exact h
 | finish _=>intro Q E p s _ d h; exact h
 | rule _ k ih=>intro Q E p s kk d h; exact ih () kk d h
 | «at» _ k ih=>intro Q E p s kk d h; exact ih () kk d h
 | load a _ k ih=>intro Q E p s kk d h; obtain ⟨o,ho,h⟩:=h; exact ⟨o,ho,ih o (kk o) d h⟩
 | update a _ f k ih=>intro Q E p s kk d h; exact ⟨h.1,ih () kk.2 (d.upd kk.1) h.2⟩
 | alloc o k ih=>intro Q E p s kk d h; exact ih _ (kk _) (d.push o) h
 | loadIfAlive a k ih=>intro Q E p s kk d h; exact ih _ (kk _) d h
 | point _ k ih=>intro Q E p s kk d h; exact ih () kk d h
 | register _ _ _=>intro Q E p s _ d h; exact h
 | fresh k ih=>intro Q E p s kk d h; exact ih _ (kk _) d h
 | ask k ih=>intro Q E p s kk d h; exact ih _ (kk _) d h
 | choose _ _ k ih=>intro Q E p s kk d h; exact ⟨h.1,ih _ (kk _) d h.2⟩
 | os _ _ k ih=>intro Q E p s kk d h; exact ih _ (kk _) d h
 | call=>intro Q E p s kk d h; exact kk.elim
 | handled _ k ih=>intro Q E p s kk d h; exact ih _ (kk _) d h
 | newGen _ k ih=>intro Q E p s kk d h; exact ih _ (kk _) d h
 | genState _ k ih=>intro Q E p s kk d h; obtain ⟨st,hs,h⟩:=h; exact ⟨st,hs,ih _ (kk _) d h⟩
 | resume=>intro Q E p s kk d h; exact kk.elim
 | yield=>intro Q E p s _ d h; exact h
 | stack k ih=>intro Q E p s kk d h; exact ih _ (kk _) d h
 | fork=>intro Q E p s _ d h; exact h
 | thread k ih=>intro Q E p s kk d h; exact ih _ (kk _) d h
 | await=>intro Q E p s _ d h; exact h
theorem BO {α : Type} {M:Model} {A:Around} {e:Addr} {D:Option Addr} {t:Sem α} {Q : α->Shared->Prop} {E:Value->Shared->Prop} {s:Shared} (k:Kp t) (d:Dc e D s.heap) (h:wpAny M A t Q E s) :
  wpAny M A t (fun a s'=>Q a s'/\Dc e D s'.heap) (fun v s'=>E v s'/\Dc e D s'.heap) s:=fun Γ p hΓ=>JS k d (h Γ p hΓ)
theorem Kp.bind {α β : Type} {f : α->Sem β} (hf:∀ a,Kp (f a)):∀ {m:Sem α},Kp m->Kp (m >>= f):=by
 intro m;show Kp m->Kp (Sem.bind m f)
 induction m with
 | pure a=>intro _; exact hf a
 | raise v=>intro _; trivial
 | unsupported _=>intro _; trivial
 | finish _=>intro _; trivial
 | rule _ k ih=>intro kk; exact ih () kk
 | «at» _ k ih=>intro kk; exact ih () kk
 | load a _ k ih=>intro kk o; exact ih o (kk o)
 | update a _ f k ih=>intro kk; exact ⟨kk.1,ih () kk.2⟩
 | alloc o k ih=>intro kk a; exact ih a (kk a)
 | loadIfAlive a k ih=>intro kk o; exact ih o (kk o)
 | point _ k ih=>intro kk; exact ih () kk
 | register _ _ _=>intro _; trivial
 | fresh k ih=>intro kk x; exact ih x (kk x)
 | ask k ih=>intro kk x; exact ih x (kk x)
 | choose _ _ k ih=>intro kk x; exact ih x (kk x)
 | os _ _ k ih=>intro kk x; exact ih x (kk x)
 | call=>intro kk; exact kk.elim
 | handled _ k ih=>intro kk x; exact ih x (kk x)
 | newGen _ k ih=>intro kk x; exact ih x (kk x)
 | genState _ k ih=>intro kk x; exact ih x (kk x)
 | resume=>intro kk; exact kk.elim
 | yield=>intro _; trivial
 | stack k ih=>intro kk x; exact ih x (kk x)
 | fork=>intro _; trivial
 | thread k ih=>intro kk x; exact ih x (kk x)
 | await=>intro _; trivial
theorem sX (a:Addr):Kp (load a):=fun _=>trivial
theorem vm (v:Value):Kp (fieldsOf v):=by
 unfold fieldsOf;split
 ·refine Kp.bind (fun o=>?_) (sX _);split
  ·trivial
  ·trivial
 ·trivial
theorem j8 (v:Value) (i:Nat):Kp (field v i):=by
 unfold field;refine Kp.bind (fun o=>?_) (vm v);split
 ·trivial
 ·trivial
theorem iI (v:Value) (i:Nat) (x:Value):Kp (setField v i x):=by
 unfold setField;split
 ·unfold updateField;refine Kp.bind (fun o=>?_) (sX _);split
  ·split
   ·exact ⟨fun o=>by cases o with | mk c d dt sl=>cases dt <;> rfl,trivial⟩
   ·trivial
  ·trivial
 ·trivial
theorem sV (v:Value) (f:Option Addr):Kp (setFlight v f):=by
 unfold setFlight;refine Kp.bind (fun o=>?_) (j8 v 1);split
 ·exact iI ..
 ·trivial
theorem sW (ty:String) (vs:List Value):Kp (newFields ty vs):=by
 unfold newFields newObj;dsimp only;have h:Kp (newObjAsIs (.type ty) (.fields vs.toArray)):=by
  unfold newObjAsIs;exact fun a=>trivial
 split
 ·exact trivial
 ·exact h
theorem BM:Kp stack:=fun _=>trivial
theorem D9:Kp frameEnvs:=fun _=>trivial
theorem BN (f:Addr) (b:Bool):Kp (entryPlaceOf f b):=by
 unfold entryPlaceOf;refine Kp.bind (fun o=>?_) BM;dsimp only;split
 ·trivial
 ·trivial
theorem zM (env:Env) (outer:List Env):Kp (behindIsImport env outer):=by
 unfold behindIsImport;split
 ·trivial
 ·split
  ·trivial
  ·refine Kp.bind (fun x=>?_) (j8 _ _);trivial
theorem Ea (env:Env) (b:Bool) (l:List Env):Kp (keptBack env b l):=by
 unfold keptBack;split
 ·split
  ·trivial
  ·exact fun _=>trivial
 ·trivial
theorem vk:∀ l:List Env,Kp (readyFrames l)
 | []=>trivial
 | env :: outer=>by
  unfold readyFrames;split
  ·refine Kp.bind (fun o=>?_) (sX _);split
   ·trivial
   ·refine Kp.bind (fun i=>Kp.bind (fun b=>Kp.bind (fun _=>vk outer) ?_) (Ea ..)) (zM ..);exact ⟨fun o=>rfl,trivial⟩
  ·trivial
theorem xf (env:Env):Kp (frameOf env):=by
 unfold frameOf;refine Kp.bind (fun l=>Kp.bind (fun o=>?_) ?_) D9
 ·split
  ·trivial
  ·trivial
 ·unfold frameObject;split
  ·trivial
  ·refine Kp.bind (fun x=>?_) (vk _);trivial
theorem D8 (v:Value) (env:Env):Kp (noteFrame v env):=by
 unfold noteFrame;split
 ·refine Kp.bind (fun o=>?_) (j8 v 1);have fin:∀ f,Kp (do setField v 1 (<- EntryCells.newEntry o (<- frameOf env) .none (rawInt f) .none (<- entryPlaceOf f (o != .none)))):=fun f=>by
   refine Kp.bind (fun x=>?_) (xf env);refine Kp.bind (m:=entryPlaceOf f (o != .none)) (fun y=>?_) (BN _ _);unfold EntryCells.newEntry;refine Kp.bind (fun z=>?_) (sW _ _);exact iI ..
  split
  ·refine Kp.bind (fun h=>?_) (j8 _ _);split
   ·trivial
   ·exact Kp.bind (fun _=>fin _) (iI ..)
  ·exact fin _
 ·trivial
theorem oB (env:Env) (v:Value):Kp (leaving env v):=by
 unfold leaving;exact Kp.bind (fun _=>sV ..) (D8 ..)
end Kd
end
section
namespace L2
open PySem PySem.Spec PySem.W PySem.Calls PyProof.Rows
theorem bB.there {P:Program} {w:World} {H:Hp} {h:Heap} {a:Addr} {o:HO} (x:bB P w H h a o):∃ ob,h.get? a = some ob:=by
 induction o with
 | lst xs=>obtain ⟨_,_,_,_,e⟩:=x; exact ⟨_,e⟩
 | tup xs=>obtain ⟨_,_,_,ob,e,_⟩:=x; exact ⟨ob,e⟩
 | dK aS=>obtain ⟨_,_,_,_,o,_,_,e,_⟩:=x; exact ⟨o,e⟩
 | dT aS=>obtain ⟨_,_,_,_,o,_,_,e,_⟩:=x; exact ⟨o,e⟩
 | set S n=>obtain ⟨ob,_,_,_,e,_⟩:=x; exact ⟨ob,e⟩
 | ins C dx fs=>obtain ⟨_,_,_,e,_⟩:=x; exact ⟨_,e⟩
 | own y=>exact x
 | xd fs=>obtain ⟨_,⟨od,_,_,e,_⟩,_⟩:=x; exact ⟨od,e⟩
 | LY lo hi=>obtain ⟨_,_,_,e⟩:=x; exact ⟨_,e⟩
 | oT ob u ih=>obtain ⟨e,_⟩:=x; exact ⟨ob,e⟩
 | EW ps=>exact ⟨_,x⟩
 | met f y=>exact ⟨_,x⟩
 | ext φ=>obtain ⟨_,e,_⟩:=x; exact e
def vZ (B:Heap) (fr:List Addr) (h:Heap):Prop:=∀ b o,h.get? b = some o->b∉fr->∃ o',B.get? b = some o'
section
variable {X:Cx} {pins:List (Addr×Obj)} {σ : St} {H:Hp} {s:Shared} {B h':Heap}
theorem Inv.yJ {t':Nat} (I:Inv X pins σ H s) (hex:X.ex = []) (b1:B.StaysIn s.heap) (b2:B.StaysIn h') (c0:vZ B (jb X.stack) X.s₀.heap) (ct:∀ b o,H b = some o->∃ ob,B.get? b = some ob)
  (cp:∀ p∈X.pn ++ pins,∃ ob,B.get? p.1 = some ob) (up:s.heap.UpToSlots h'):Inv X pins σ H { s with heap:=h',toks:=t' }:=by
 have HX:∀ {b o ob},s.heap.get? b = some o->B.get? b = some ob->h'.get? b = some o:=fun {b o ob} e q=>by
  have:=b1 b ob q;rw [e] at this; cases this;exact b2 b _ q
 have nL:∀ b o,X.s₀.heap.get? b = some o->b∉X.fs->b∉jb X.stack:=fun b o e hb z=>by
  rcases List.mem_cons.mp (I.jh b z) with q | q
  ·exact absurd (Nat.lt_of_lt_of_le (Heap.lt_size e) I.ok.above) (by rw [q]; exact Nat.lt_irrefl _)
  ·exact hb q
 have Rt:∀ b:Addr,b∉X.ex:=fun b z=>by rw [hex] at z; cases z
 have fr:∀ b∈X.fs,∃ o,s.heap.get? b = some o/\∀ vs,o.data≠.fields vs:=fun b hb=>(I.ja.mem hb).2;have cellK:∀ {c v},s.heap.IsCell c v->h'.IsCell c v:=fun {c v} ⟨o,ho,hd⟩=>by
  obtain ⟨sl,e⟩:=up c o ho fun vs z=>by rw [hd] at z; cases z
  exact ⟨_,e,hd⟩
 refine ⟨I.ok,I.os,I.bare,⟨fun b o e n hb _=>?_,fun b o e n hb _=>?_,I.base.free,fun b o e _=>?_,I.base.rR,I.base.pY,I.base.rS⟩,?_,fun x c e=>?_,I.free,I.fm,fun p hp=>?_,fun b u e=>?_,I.len⟩
 ·obtain ⟨ob,q⟩:=c0 b o e (nL b o e hb);exact HX (I.base.keep b o e n hb (Rt b)) q
 ·obtain ⟨sl,q⟩:=I.base.slot b o e n hb (Rt b);obtain ⟨o2,q2,nf⟩:=fr b hb;obtain ⟨LR,q3⟩:=up b o2 q2 nf;rw [q] at q2; cases q2;exact ⟨LR,q3⟩
 ·by_cases hb:b∈X.fs
  ·obtain ⟨o2,q2,nf⟩:=fr b hb;obtain ⟨LR,q3⟩:=up b o2 q2 nf;exact ⟨_,q3⟩
  ·obtain ⟨ob,q⟩:=c0 b o e (nL b o e hb);exact ⟨ob,b2 b ob q⟩
 ·obtain ⟨m,hn,hl⟩:=I.loc;refine ⟨m,up.ns hn,fun i x v e1 e2 e3=>?_⟩;obtain ⟨u,r,l⟩:=hl i x v e1 e2 e3;refine ⟨u,r,?_⟩;rcases l with l | ⟨k,c,e,z⟩
  ·exact .inl l
  ·exact .inr ⟨k,c,e,cellK z⟩
 ·obtain ⟨v,z⟩:=I.cell x c e;exact ⟨v,cellK z⟩
 ·obtain ⟨e,n,ne,nf,d⟩:=I.pin p hp;obtain ⟨ob,q⟩:=cp p hp;exact ⟨HX e q,n,ne,nf,d⟩
 ·refine (I.bF b u e).iZ (fun c v hc q=>?_) (fun _ q=>q) fun _ _ q=>q;rcases hc with z | z
  ·subst z;obtain ⟨ob,q2⟩:=ct c u e;exact HX q q2
  ·obtain ⟨ob,q2⟩:=ct c _ z;exact HX q q2
end
structure As (P:Program) (w:World) (outer:List Env) (H:Hp) (s:Shared) (a:Addr) (cls:Value) (D:Option Addr) (H':Hp) (s':Shared):Prop where
 os:s'.os = s.os
 bare:AllBare s'.gens
 un:Un (jb outer) [] H H' s.heap s'.heap
 bF:jd P w H' s'.heap
 Aa:∃ B a0,Heap.FlyingW B outer a cls a0 s'.heap/\vZ B (jb outer) s.heap/\∀ b o,H' b = some o->∃ ob,B.get? b = some ob
 new:H' a = none
 fresh:s.heap.get? a = none
 Wn:Kd.Dc a D s'.heap
def bo (P:Program) (w:World):qj:=fun outer H s E e s'=>∃ a cls D H',e = .ref a/\As P w outer H s a cls D H' s'/\E cls D H'
section
variable {M:Model} {A:Around} {E:Value->Shared->Prop} {s:Shared} {base h:Heap} {env:Env} {outer:List Env} {L e:Addr} {cls a0:Value} {D:Option Addr} {Q:Unit->Shared->Prop}
theorem wX (yH:A.frames = some (env :: outer)) (hf:env.frame = some L) (VN:Heap.FlyingW base (env :: outer) e cls a0 s.heap) (dc:Kd.Dc e D s.heap)
  (hQ:∀ h',Heap.FlyingW base outer e cls a0 h'->s.heap.UpToSlots h'->Kd.Dc e D h'->Q () { s with heap:=h' }):wpAny M A (leaving env (.ref e)) Q E s:=
 wpAny_mono (Kd.BO (Kd.oB _ _) dc (wpAny_leaves_onW (Q:=fun _ s'=>∃ h',s' = { s with heap:=h' }/\Heap.FlyingW base outer e cls a0 h'/\s.heap.UpToSlots h') yH hf VN fun h' f u=>⟨h',rfl,f,u⟩))
  (fun _ s' ⟨⟨h',q,f,u⟩,d⟩=>by subst q; exact hQ h' f u d) fun _ _ z=>z.1
theorem pW {oe:Obj} {vs:Array Value} (yH:A.frames = some (env :: outer)) (hl:s.heap.FunFrames base (env :: outer)) (hf:env.frame = some L) (he:s.heap.get? e = some oe) (Kq:base.StaysIn s.heap) (My:base.get? e = none)
  (hd:oe.data = .fields vs) (h1:vs[1]? = some .none) (h0:vs[0]? = some a0) (hQ:∀ h',Heap.FlyingW base outer e oe.cls a0 h'->s.heap.UpToSlots h'->Kd.Dc e oe.dict h'->Q () { s with heap:=h' }):wpAny M A (leaving env (.ref e)) Q E s:=
 wpAny_mono (Kd.BO (Kd.oB _ _) (Kd.Dc.of he rfl) (wpAny_leaving_firstW (Q:=fun _ s'=>∃ h',s' = { s with heap:=h' }/\Heap.LeftW base (env :: outer) e oe.cls a0 s.heap h') yH hl hf he Kq My hd h1 h0 fun h' l=>⟨h',rfl,l⟩))
  (fun _ s' ⟨⟨h',q,k1,⟨_,_,k2⟩,k3,k4⟩,d⟩=>by subst q; exact hQ h' ⟨k1,My,k2,k3⟩ k4 d) fun _ _ z=>z.1
end
section
variable {X:Cx} {pins:List (Addr×Obj)} {σ : St} {H:Hp} {s:Shared}
structure Body (X:Cx):Prop where
 ex:X.ex = []
 pn:X.pn = []
 wa:X.stack = X.env :: X.outer
 fr:X.env.frame = some X.env.locals
theorem yW {CX:qj} {P:Program} {w:World} {K:Frag} {mg:Str->Option Value} {base:Heap} {N:List Str} {qual:Str} {scope:Scope} {f:Addr} {cd:Value} {A:Around} {outer:List Env} {s:Shared} {H:Hp} {E:XK} :
  Body (gH CX P w K mg base N qual scope f cd A outer s H E):=⟨rfl,rfl,rfl,rfl⟩
theorem Inv.none_of (I:Inv X pins σ H s) {a:Addr} (e:s.heap.get? a = none):H a = none:=by
 cases q:H a with
 | none=>rfl
 | some o=>
  obtain ⟨ob,z⟩:=(I.bF a o q).there;rw [e] at z; cases z
theorem Inv.B9 (I:Inv X pins σ H s) (hex:X.ex = []) {a:Addr} (e:s.heap.get? a = none):X.s₀.heap.get? a = none:=by
 cases q:X.s₀.heap.get? a with
 | none=>rfl
 | some o=>
  obtain ⟨o',z⟩:=I.base.there a o q (by rw [hex]; simp);rw [e] at z; cases z
theorem leave_new {E:XK} {E':Value->Shared->Prop} {h':Heap} {e:Addr} {oe:Obj} {vs:Array Value} {a0:Value} (I:Inv X pins σ H s) (hb:Body X) (kp:∀ b o,s.heap.get? b = some o->h'.get? b = some o) (nw:s.heap.get? e = none)
  (he:h'.get? e = some oe) (hd:oe.data = .fields vs) (h1:vs[1]? = some .none) (h0:vs[0]? = some a0) (q:E oe.cls oe.dict H) :
  wpAny (model X.prog X.w) X.A (leaving X.env (.ref e)) (fun _ Ds=>bo X.prog X.w X.outer X.H₀ X.s₀ E (.ref e) Ds) E' { s with heap:=h' }:=by
 have Mw:∀ env∈X.stack,∀ b,env.frame = some b->b∈X.stack.filterMap (·.frame):=fun env he b hb=>List.mem_filterMap.mpr ⟨env,he,hb⟩;have Kq:(hideAll s.heap (jb X.stack)).StaysIn s.heap:=fun b o q=>of_hideAll _ q;have yH:X.A.frames = some (X.env :: X.outer):=by rw [<- hb.wa]; exact I.ok.frames
 have hl:s.heap.FunFrames (hideAll s.heap (jb X.stack)) (X.env :: X.outer):=by rw [<- hb.wa]; exact funFrames_hide I.stack Mw
 have cv:∀ {b o},s.heap.get? b = some o->b∉jb X.stack->(hideAll s.heap (jb X.stack)).get? b = some o:=fun e n=>hideAll_get _ e n;have My:(hideAll s.heap (jb X.stack)).get? e = none:=by
  cases hq:(hideAll s.heap (jb X.stack)).get? e with
  | none=>rfl
  | some o'=>have:=Kq e o' hq; rw [nw] at this; cases this
 refine pW (base:=hideAll s.heap (jb X.stack)) (s:={ s with heap:=h' }) yH (hl.of_keeps fun b o hb _=>⟨o,kp b o hb,rfl⟩) hb.fr he (fun b o hq=>kp b o (Kq b o hq)) My hd h1 h0 fun h2 Aa up dc=>?_;have S3:s.heap.UpToSlots h2:=(Heap.UpToSlots.of_keeps kp).trans up;have c0:vZ (hideAll s.heap (jb X.stack)) (jb X.stack) X.s₀.heap:=fun b o e n=>by
  obtain ⟨o',z⟩:=I.base.there b o e (by rw [hb.ex]; simp);exact ⟨o',cv z n⟩
 have ct:∀ b o,H b = some o->∃ ob,(hideAll s.heap (jb X.stack)).get? b = some ob:=fun b o e=>by
  obtain ⟨ob,z⟩:=(I.bF b o e).there;exact ⟨ob,cv z fun m=>by rw [I.rW b m] at e; cases e⟩
 have J:Inv X [] σ H { s with heap:=h2,toks:=s.toks }:=Inv.yJ (I.mK fun p hp=>by cases hp) hb.ex Kq Aa.1 c0 ct (fun p hp=>by rw [hb.pn] at hp; cases hp) S3;refine ⟨e,oe.cls,oe.dict,H,rfl,⟨J.os,J.bare,?_,J.bF,⟨_,_,Aa,?_,ct⟩,I.none_of nw,I.B9 hb.ex nw,dc⟩,q⟩
 ·have:=J.base;rw [hb.ex] at this;exact this
 ·intro b o e' n;refine c0 b o e' fun m=>?_;rw [hb.wa] at m;unfold jb at m;rw [filterMap_cons,hb.fr] at m;rcases List.mem_cons.mp m with z | z
  ·exact absurd (Nat.lt_of_lt_of_le (Heap.lt_size e') I.ok.above) (by rw [z]; exact Nat.lt_irrefl _)
  ·exact n z
theorem wZ {E:XK} {E':Value->Shared->Prop} {h':Heap} {e:Addr} {cls:Value} {vs:List Value} (I:Inv X pins σ H s) (hb:Body X) (hx:Heap.MadeExcOf s.heap h' e cls vs) (q:E cls none H) :
  wpAny (model X.prog X.w) X.A (leaving X.env (.ref e)) (fun _ Ds=>bo X.prog X.w X.outer X.H₀ X.s₀ E (.ref e) Ds) E' { s with heap:=h' }:=by
 obtain ⟨t,he,XO,ht⟩:=hx.there;exact leave_new I hb hx.keeps hx.new he rfl rfl rfl q
theorem As.inv {a:Addr} {cls:Value} {D:Option Addr} {H':Hp} {s':Shared} (I:Inv X pins σ H s) (F:As X.prog X.w X.stack H s a cls D H' s'):Inv X pins σ H' s':=
 I.FD (ch:=[]) F.os F.un F.bF F.bare fun b z=>by cases z
theorem wY {E:XK} {E':Value->Shared->Prop} {a:Addr} {cls:Value} {D:Option Addr} {H':Hp} {s':Shared} (I:Inv X pins σ H s) (hb:Body X) (F:As X.prog X.w X.stack H s a cls D H' s') (q:E cls D H') :
  wpAny (model X.prog X.w) X.A (leaving X.env (.ref a)) (fun _ Ds=>bo X.prog X.w X.outer X.H₀ X.s₀ E (.ref a) Ds) E' s':=by
 obtain ⟨B,a0,Aa,ML,ct⟩:=F.Aa;have yH:X.A.frames = some (X.env :: X.outer):=by rw [<- hb.wa]; exact I.ok.frames
 have I':=F.inv I;have KZ:=Aa;rw [hb.wa] at KZ;refine wX yH hb.fr KZ F.Wn fun h2 KY up dc=>?_;have c0:vZ B (jb X.stack) X.s₀.heap:=fun b o e n=>by
  obtain ⟨o',z⟩:=I.base.there b o e (by rw [hb.ex]; simp);exact ML b o' z n
 have J:Inv X [] σ H' { s' with heap:=h2,toks:=s'.toks }:=Inv.yJ (I'.mK fun p hp=>by cases hp) hb.ex Aa.1 KY.1 c0 ct (fun p hp=>by rw [hb.pn] at hp; cases hp) up;refine ⟨a,cls,D,H',rfl,⟨J.os,J.bare,?_,J.bF,⟨_,_,KY,?_,ct⟩,F.new,I.B9 hb.ex F.fresh,dc⟩,q⟩
 ·have:=J.base;rw [hb.ex] at this;exact this
 ·intro b o e' n;refine c0 b o e' fun m=>?_;rw [hb.wa] at m;unfold jb at m;rw [filterMap_cons,hb.fr] at m;rcases List.mem_cons.mp m with z | z
  ·exact absurd (Nat.lt_of_lt_of_le (Heap.lt_size e') I.ok.above) (by rw [z]; exact Nat.lt_irrefl _)
  ·exact n z
end
theorem yv {P:Program} {w:World} {K:Frag} {mg:Str->Option Value} {base:Heap} {N:List Str} {qual:Str} {scope:Scope} {f:Addr} {cd:Value} {A:Around} {outer:List Env} {s:Shared} {H:Hp} {E:XK} :
  Passes (bo P w) (gH (bo P w) P w K mg base N qual scope f cd A outer s H E) E:=by
 rintro pins σ H1 s1 e s' I ⟨a,cls,D,H',rfl,F,q⟩;exact wY I yW F q
theorem aX {P:Program} {w:World} {X:Cx}:Passes (bo P w) X E0:=by
 rintro pins σ H1 s1 e s' I ⟨a,cls,D,H',rfl,F,q⟩;exact q.elim
theorem Es {K:Frag} {h:Heap} {C:Addr} {HB:List Value} {newId:String} (X:K.In h) (q:excIn K C HB newId = true) :
  ∃ bm N nm qn bs hdct sn sub ab col dd k0 k1 k2 k3 k5 mN,h.get? C = some (excClassObj nm qn C N bs bm hdct sn sub ab col dd k0 k1 k2 k3 k5 newId)/\h.Ns N mN/\mN "__init__" = none/\OwnTail h HB bm:=by
 unfold excIn at q;split at q
 ·rename_i dd cd sl ho;split at q
  ·rename_i C' bm k0 k1 k2 k3 n k5 hm hs;simp only [Bool.and_eq_true,beq_iff_eq,Bool.not_eq_true'] at q;obtain ⟨⟨⟨⟨⟨q1,q2⟩,Ky⟩,ht⟩,bF⟩,Ms⟩:=q;subst q1 q2;obtain ⟨nm,bs,mro,ns,qn,hd,sn,sub,ab,col,del⟩:=cd;dsimp only at hm Ky bF Ms;subst hm Ky;obtain ⟨l⟩:=sl;have hl:l = [k0,k1,k2,k3,some (.builtin n),k5]:=hs;subst hl;exact ⟨bm,ns,nm,qn,bs,hd,sn,sub,ab,col,dd,k0,k1,k2,k3,k5,_,X _ _ ho,.of_isNs (isNs_of_in X bF),nsMap_none_of_in X bF Ms,tail_of_in X ht⟩
  ·cases q
 ·cases q
def AX (Ex:XK) (C:Addr) (ta:TA):TS:=fun _ σ H=>ta σ H fun vs H1=>vs.length<=sizeLine/\Ex (.ref C) none H1
theorem fb {X:Cx} {x:Str} {C:Addr} {Bn newId GV:String} {HB:List Value} {np eN pos:Pos} {e:Expr} {es:List Expr} {ta:TA} {Ex:XK} (FB:ExcBaseFacts Bn newId GV HB) (hq:excIn X.K C HB newId = true) (hm:X.mg x = some (.ref C))
  (hc:X.calm = true) (ha:PA X (e :: es) ta)
  (hx:∀ pins s σ H h' a vs,Inv X pins σ H s->Heap.MadeExcOf s.heap h' a (.ref C) vs->Ex (.ref C) none H->X.xe (.ref a) { s with heap:=h' }) (hg:Gl X x:=by rfl) (vt:(x == ("__debug__" : Str)) = false:=by decide)
  (he:starEach (e :: es) X.env = (false,eval e X.env) :: starEach es X.env:=by rfl) (mU:(backTo eN (starEach es X.env)).any (·.1) = false:=by rfl) :
  PS X (.Raise (some (.Call (.Name x np) (e :: es) [] eN)) none pos) (AX Ex C ta):=by
 intro pins s σ H D I h;obtain ⟨tl,N,nm,q,bs,hdct,sn,sub,ab,col,dd,k0,k1,k2,k3,k5,mN,hC,hN,Ms,T⟩:=Es I.ok.mod.HW hq;refine wpAny_Raise_call_subT (C:=C) (nm:=nm) (q:=q) (N:=N) (bs:=bs) (bm:=tl) (hdct:=hdct) (sn:=sn) (sub:=sub) (ab:=ab) (col:=col) (dd:=dd) (k0:=k0) (k1:=k1) (k2:=k2) (k3:=k3) (k5:=k5)
  FB (mN:=mN) (T.hasType FB.hasBase) (I.ok.hd hc) (by rw [he]; show (false || (backTo eN (starEach es X.env)).any (·.1)) = false; rw [mU]; rfl) Ms (mQ I hg hm ⟨rfl,?_⟩ vt)
 have h2:=ha eN pins s σ H _ I h;rw [he] at h2 ⊢;refine Calls.evalArgs_plain (wpAny_mono h2 (fun us s2 z=>?_) fun _ _ y=>y);obtain ⟨vs,H1,I1,r1,hl,qx⟩:=z;exact ⟨rfl,by rw [<- r1.length]; exact hl,I1.bk _ _ hC,hN.keeps I1.bk,T.keeps I1.bk,fun h' a mk=>hx pins s2 σ H1 h' a us I1 mk qx⟩
theorem jm {P:Program} {w:World} {K:Frag} {mg:Str->Option Value} {base:Heap} {N:List Str} {qual:Str} {scope:Scope} {f:Addr} {cd:Value} {A:Around} {outer:List Env} {s0:Shared} {H0:Hp} {E:XK} {C:Addr} :
  ∀ pins s σ H h' a vs,Inv (gH (bo P w) P w K mg base N qual scope f cd A outer s0 H0 E) pins σ H s->Heap.MadeExcOf s.heap h' a (.ref C) vs->E (.ref C) none H->
   (gH (bo P w) P w K mg base N qual scope f cd A outer s0 H0 E).xe (.ref a) { s with heap:=h' }:=fun pins s σ H h' a vs I mk q=>wZ I yW mk q
section
variable {X:Cx} {pins:List (Addr×Obj)} {σ : St} {H:Hp} {s:Shared}
def Cx.marked (X:Cx) (a:Addr):Cx:={ X with A:=X.A.mark (some (.ref a)),calm:=false,xe:=fun _ _=>False }
theorem Inv.mark {a:Addr} (I:Inv X pins σ H s):Inv (X.marked a) pins σ H s:=
 ⟨⟨I.ok.mod,I.ok.kind,I.ok.glob,I.ok.blt,I.ok.above,I.ok.inj,I.ok.has,I.ok.FE,(fun z=>absurd (show false = true from z) Bool.false_ne_true),I.ok.frames,I.ok.wa,I.ok.K2,I.ok.bs,I.ok.Cw,I.ok.uV,I.ok.xr,I.ok.ja,I.ok.CU⟩,I.os,I.bare,I.base,I.loc,I.cell,I.free,I.fm,I.pin,I.bF,I.len⟩
theorem Inv.unmark {a:Addr} (J:X.Ok) (I:Inv (X.marked a) pins σ H s):Inv X pins σ H s:=⟨J,I.os,I.bare,I.base,I.loc,I.cell,I.free,I.fm,I.pin,I.bF,I.len⟩
end
def EX (X:Cx) (pins:List (Addr×Obj)) (σ : St) (Ex:XK) (e:Value) (s':Shared):Prop:=
 ∃ a cls D H' s0 H0,e = .ref a/\Inv X pins σ H0 s0/\As X.prog X.w X.stack H0 s0 a cls D H' s'/\Ex cls D H'
def Sk (K:Frag) (M:Addr) (jn:Nat) (ts:TS) (D:Ends) (σ : St):XK:=fun cls dx H'=>∃ C,cls = .ref C/\exmOne K (.ref C) (.ref M) = some true/\
 ∀ a,H' a = none->ts { nx:=fun σ' H2=>D.nx (σ'.set jn none) H2,rt:=D.rt,bk:=fun σ' H2=>D.bk (σ'.set jn none) H2,ct:=fun σ' H2=>D.ct (σ'.set jn none) H2 } (σ.set jn (some (.ref a))) (upd H' a (Pz C dx a))
def Na (K:Frag) (sp:Sp) (ta:TA) (M:Addr) (jn:Nat) (ts:TS):TS:=fun D σ H=>ta σ H fun vs H1=>sp (vs ++ []) H1 (fun _ H2=>D.nx σ H2) (Sk K M jn ts D σ)
section
variable {P:Program} {w:World} {K:PySem.W.Frag} {mg:Str->Option Value} {base:Heap}
theorem Def.dh {x:Str} {st:Stmt} {N ps:List Str} {k:Nat} {sp:Sp} (D:Def K mg x st ps) (S:aG N ps (ao st)) (len:∀ vs H Q E,sp vs H Q E->vs.length = ps.length)
  (eg:∀ (f:Addr) (bN:Value) (A:Around) (outer:List Env) (s:Shared) (H:Hp) (vs:List V) (Q:VK) (E:XK),cu k (A.deeper (envOfC x (ao st) s.heap.objs.size f bN))->sp vs H Q E->
   ∃ t,pj (gH (bo P w) P w K mg base N x (ao st) f bN A outer s H E).Bz (bI st) t/\t { nx:=fun _ H'=>Q .bQ H',rt:=Q } (start N vs) H):cw P w K mg base (bo P w) x (k + 1) ps sp:=by
 obtain ⟨f,fd,F,hm,hb⟩:=D.ex;have kp:=F.kp;obtain ⟨oc,od,kV,doc,pm,an,bN,ct,Ax,rfl,lk,tE⟩:=F.ex;refine ⟨⟨f,_,vA lk tE S len fun A o s H vs Q E hr qU=>?_,hm,kp,hb⟩⟩;obtain ⟨t,h,q⟩:=eg f bN A o s H vs Q E hr qU;exact ⟨t,h.Bz,q⟩
theorem Def.oJ {x:Str} {st:Stmt} {N ps:List Str} {k:Nat} {sp:Sp} (D:Def K mg x st ps) (S:aG N ps (ao st)) (len:∀ vs H Q E,sp vs H Q E->vs.length = ps.length)
  (eg:∀ (f:Addr) (bN:Value) (A:Around) (outer:List Env) (s:Shared) (H:Hp) (vs:List V) (Q:VK) (E:XK),cu k (A.deeper (envOfC x (ao st) s.heap.objs.size f bN))->sp vs H Q E->
   ∃ t,pj (gH (bo P w) P w K mg base N x (ao st) f bN A outer s H E) (bI st) t/\t { nx:=fun _ H'=>Q .bQ H',rt:=Q } (start N vs) H):cw P w K mg base (bo P w) x (k + 1) ps sp:=by
 obtain ⟨f,fd,F,hm,hb⟩:=D.ex;have kp:=F.kp;obtain ⟨oc,od,kV,doc,pm,an,bN,ct,Ax,rfl,lk,tE⟩:=F.ex;exact ⟨⟨f,_,vA lk tE S len fun A o s H vs Q E hr qU=>eg f bN A o s H vs Q E hr qU,hm,kp,hb⟩⟩
theorem Ar.okN {x:Str} {st:Stmt} {f:Addr} {fd:FuncData} {N ps:List Str} {k:Nat} {sp:Sp} (F:Ar K x x st f fd) (S:aG N ps (ao st)) (len:∀ vs H Q E,sp vs H Q E->vs.length = ps.length)
  (eg:∀ (bN:Value) (A:Around) (outer:List Env) (s:Shared) (H:Hp) (vs:List V) (Q:VK) (E:XK),cu k (A.deeper (envOfC x (ao st) s.heap.objs.size f bN))->sp vs H Q E->
   ∃ t,pj (gH (bo P w) P w K mg base N x (ao st) f bN A outer s H E).Bz (bI st) t/\t { nx:=fun _ H'=>Q .bQ H',rt:=Q } (start N vs) H):gL P w K mg base (bo P w) (k + 1) f fd ps sp:=by
 obtain ⟨oc,od,kV,doc,pm,an,bN,ct,Ax,rfl,lk,tE⟩:=F.ex;refine vA lk tE S len fun A o s H vs Q E hr qU=>?_;obtain ⟨t,h,q⟩:=eg bN A o s H vs Q E hr qU;exact ⟨t,h.Bz,q⟩
end
theorem Aj {P:Program} {w:World} {o:List Env} {H:Hp} {s:Shared} {e:Value} {s':Shared} (h:bo P w o H s (fun _ _ _=>False) e s'):False:=by
 obtain ⟨_,_,_,_,_,_,z⟩:=h;exact z
theorem pd {CX:qj} {P:Program} {w:World} {K:Frag} {mg:Str->Option Value} {base:Heap} {N:List Str} {qual:Str} {scope:Scope} {f:Addr} {cd:Value} {A:Around} {outer:List Env} {s:Shared} {H:Hp} {E:XK} :
  Body (gH CX P w K mg base N qual scope f cd A outer s H E).Bz:=⟨rfl,rfl,rfl,rfl⟩
inductive Lx (K:Frag) (H:Hp):V->Value->Prop where
 | bQ:Lx K H .bQ (.type "NoneType")
 | exc {a C:Addr} (e:H a = some (K3 C a)) (c:CI K C):Lx K H (.ref a) (.ref C)
 | Eu {a C:Addr} {D:Option Addr} (e:H a = some (Eu C D a)) (c:CI K C):Lx K H (.ref a) (.ref C)
def NN (K:Frag):List V->Hp->VK->Prop:=fun xs H Q=>∃ x c t u b,xs = [x,c]/\Lx K H x t/\Au c u/\kitOne K t u = some b/\Q (.bl b) H
def NO (K:Frag):List V->Hp->VK->Prop:=fun xs H Q=>∃ x tp cs t us b,xs = [x,.ref tp]/\Lx K H x t/\H tp = some (.tup cs)/\Paired Au cs us/\kitAny K t us = some b/\Q (.bl b) H
section
variable {H:Hp} {Q:VK} {K:Frag}
theorem Dy {Ex:XK} {C:Addr} {ta:TA} {D:Ends} {σ : St} (h:ta σ H fun vs H1=>vs.length<=sizeLine/\Ex (.ref C) none H1):AX Ex C ta D σ H:=h
end
def Jr (K:Frag):R2:=fun x y H Q=>∃ p q a b c d,x = .ref p/\y = .ref q/\SqT K H p [.int a,.int b]/\SqT K H q [.int c,.int d]/\Q (.bl (!decide (a = c/\b = d))) H
theorem GA {X:Cx} (hu:X.A.units < cLine):lX X (compareOp .NotEq) (Jr X.K):=by
 intro pins s σ H x y v u Q I rx ry h;obtain ⟨p,q,a,b,c,d,rfl,rfl,hp,hq,qq⟩:=h;cases rx
 cases ry
 obtain ⟨aO,r1,p1,_⟩:=I.tuple hp;obtain ⟨vn,r2,p2,_⟩:=I.tuple hq;obtain ⟨u1,u2,rfl,⟨t1,rfl⟩,⟨t2,rfl⟩⟩:=vals2 r1;obtain ⟨w1,w2,rfl,⟨t3,rfl⟩,⟨t4,rfl⟩⟩:=vals2 r2;refine SeqAt.RcNeAt.tuples (e:=fun j=>if j = 0 then a == c else b == d) p1 p2 hu (fun j h1 h2=>?_) X.prog X.w X.xe _ (ba I qq ?_)
 ·have hj:j = 0\/j = 1:=by
   have:j < 2:=h1;omega
  rcases hj with rfl | rfl
  ·exact SeqAt.EqAt.int_int a t1 c t3
  ·exact SeqAt.EqAt.int_int b t2 d t4
 ·show (!decide (a = c/\b = d)) = (!((List.range 2).all (fun j=>if j = 0 then a == c else b == d) && (2 == 2)));have e:(List.range 2).all (fun j=>if j = 0 then a == c else b == d) = ((a == c) && (b == d)):=by
   rw [show List.range 2 = [0,1] from rfl];simp
  rw [e];by_cases h1:a = c <;> by_cases h2:b = d <;> simp [h1,h2]
theorem Jg {K:Frag} {H:Hp} {Q:VK} {p q:Addr} {a b c d:Int} (hp:SqT K H p [.int a,.int b]) (hq:SqT K H q [.int c,.int d]) (k:Q (.bl (!decide (a = c/\b = d))) H):Jr K (.ref p) (.ref q) H Q:=⟨p,q,a,b,c,d,rfl,rfl,hp,hq,k⟩
theorem Ji {σ : St} {H:Hp} {Q:VK} {ta:TE} (h:ta σ H fun x H1=>Q (.bl (decide (x = .bQ))) H1):IL ta σ H Q:=h
theorem Gd {σ : St} {H:Hp} {Q:VK} {ta:TE} (h:ta σ H fun x H1=>Q (.bl (!decide (x = .bQ))) H1):EY ta σ H Q:=h
theorem AM {X:Cx} {k:Nat} (hr:cu k X.A):X.A.units < cLine:=hr.FO
def AllIn (cells:List (Str×Addr)):List (Str×Addr)->Prop
 | []=>True
 | p :: r=>cells.lookup p.1 = some p.2/\AllIn cells r
theorem AllIn.get {cells:List (Str×Addr)}:∀ {cl:List (Str×Addr)},AllIn cells cl->∀ {x c},cl.lookup x = some c->cells.lookup x = some c
 | [],_,x,c,e=>by cases e
 | (n,d) :: r,h,x,c,e=>by
  rw [lookup_cons] at e;cases q:x == n with
  | true=>
   rw [q] at e; cases e;have z:x = n:=by simpa using q
   subst z;exact h.1
  | false=>rw [q] at e; exact AllIn.get h.2 e
def CD (X:Cx) (ifs:List Expr) (t:TT):Prop:=
 ∀ (pins:List (Addr×Obj)) (s:Shared) (σ : St) (H:Hp) (Q:Bool->Hp->Prop),Inv X pins σ H s->t σ H Q->
  wpAny (model X.prog X.w) X.A (forIn ifs true fun c r=>if r = true then do let ok <- isTrue c X.env (eval c X.env); pure (ForInStep.yield ok) else pure (ForInStep.yield r)) (TP X pins σ Q) X.xe s
def xS:TT:=fun _ H Q=>Q true H
theorem dE {X:Cx}:CD X [] xS:=fun _ _ _ H _ I h=>wpAny_tests_nil ⟨H,I,h⟩
theorem jR {X:Cx} {c:Expr} {t:TT} (h:PT X c t):CD X [c] t:=fun pins s σ H Q I hw=>wpAny_tests_one (h pins s σ H Q I hw)
section
variable {prog:Program} {w:World} {A:Around} {R:Result->Shared->Prop} {s:Shared}
theorem Am {elt target iter:Expr} {ifs:List Expr} {scope:Scope} {pos:Pos} {it acc:Value} {env:Env} (I:Nat->Shared->Prop)
  (turn:∀ n s,I n s->wpAny (model prog w) A (pyNext it) (fun r s₁=>match r with
   | none=>R (.ok .next) s₁
   | some v=>wpAny (model prog w) A (letOwnedTupleGo target it v) (fun _ s1=>wpAny (model prog w) A (assign target env v) (fun _ s₂=>
     wpAny (model prog w) A (forIn ifs true fun c r=>if r = true then do let ok <- isTrue c env (eval c env); pure (ForInStep.yield ok) else pure (ForInStep.yield r)) (fun ok s₃=>
      if ok = true then wpAny (model prog w) A (eval elt env) (fun x s₄=>wpAny (model prog w) A (call (.builtin "list.append") [acc,x]) (fun _ s₅=>∃ m,m < n/\I m s₅) (fun _ _=>False) s₄) (fun _ _=>False) s₃
      else ∃ m,m < n/\I m s₃) (fun _ _=>False) s₂) (fun _ _=>False) s1) (fun _ _=>False) s₁) (fun _ _=>False) s)
  (n:Nat) (h:I n s):codeAny (model prog w) A (.compLoop (.ListComp elt [⟨target,iter,ifs,0⟩] scope pos) 0 it acc env) R s:=by
 refine codeAny_loop rfl I (fun n s hI=>?_) n h;show wpAny _ A ((compTurn (.ListComp elt [⟨target,iter,ifs,0⟩] scope pos) 0 it acc env).onRaise (fun x=>do noteFrame x env; theTreesLotGoes x)) _ _ s;refine wpAny_noted ?_;rw [compTurn_list];refine wpAny_bind (wpAny_standAt (wpAny_bind (wpAny_mono (turn n s hI) (fun r s₁ h₁=>?_) fun _ _ z=>False.elim z)));cases r with
 | none=>exact wpAny_pure h₁
 | some v=>
  refine wpAny_bind (wpAny_mono h₁ (fun _ s1 h1=>wpAny_bind (wpAny_mono h1 (fun _ s₂ h₂=>wpAny_bind (wpAny_mono h₂ (fun ok s₃ h₃=>?_) fun _ _ z=>False.elim z)) fun _ _ z=>False.elim z)) fun _ _ z=>False.elim z);cases ok with
  | false=>exact wpAny_pure ⟨rfl,h₃⟩
  | true=>
   exact wpAny_bind (wpAny_bind (wpAny_mono h₃ (fun x s₄ h₄=>wpAny_bind (wpAny_mono h₄ (fun _ s₅ h₅=>wpAny_pure (wpAny_pure ⟨rfl,h₅⟩)) fun _ _ z=>False.elim z)) fun _ _ z=>False.elim z))
end
def Cx.block (X:Cx) (scope:Scope) (cl:List (Str×Addr)) (C:Addr) (N:List Str) (fp:List Addr) (pins:List (Addr×Obj)) (s:Shared) (H:Hp):Cx:=
 { X with N:=N,s₀:=s,H₀:=H,env:=compEnvC scope cl C X.env,outer:=X.stack,ex:=fp,fn:=fun _=>false,pn:=X.pn ++ pins,xe:=fun _ _=>False }
def iX (n:Nat) (fr:List Nat) (σ : St):St:=List.replicate n none ++ fr.map fun i=>(σ[i]?).join
structure mY (X:Cx) (scope:Scope) (cl:List (Str×Addr)) (tg:List Str) (fr:List (Str×Nat)):Prop where
 kind:scope.kind = .function
 GG:∀ y∈scope.names,y.2≠.cell
 names:∀ y∈scope.names,y.2 = .local->scope.names.lookup y.1 = some .local
 Lm:closureFor scope X.env = pure cl
 FF:AllIn X.env.cells cl
 has:((relabel scope X.env).names.all fun p=>!(p.2 == .cell || p.2 == .free) || (cl.lookup p.1).isSome) = true
 V6:∀ p∈fr,X.N[p.2]? = some p.1/\MO X.env.scope p.1/\(cl.lookup p.1).isSome = true/\(relabel scope X.env).names.lookup p.1 = some .cell
 V7:∀ p∈fr,X.env.kindOf p.1 = some .cell
section
variable {X:Cx} {pins:List (Addr×Obj)} {σ : St} {H:Hp} {s:Shared} {scope:Scope} {cl:List (Str×Addr)} {tg:List Str} {fr:List (Str×Nat)}
theorem lookup_mem {κ α : Type} [BEq κ] [LawfulBEq κ]:∀ {l:List (κ×α)} {x : κ} {v : α},l.lookup x = some v->(x,v)∈l
 | [],_,_,e=>by cases e
 | (k,u) :: r,x,v,e=>by
  rw [lookup_cons] at e;cases q:x == k with
  | true=>
   rw [q] at e; cases e;have z:x = k:=by simpa using q
   subst z;exact mem_cons_self
  | false=>rw [q] at e; exact mem_cons_of_mem _ (lookup_mem e)
theorem vN {C:Addr} {fp:List Addr} {h':Heap} {t':Nat} {m:Str->Option Value} (B:mY X scope cl tg fr) (I:Inv X pins σ H s) (hf:∀ b∈fp,pH X pins H b/\b < s.heap.objs.size) (hC:s.heap.objs.size<=C) (hn:h'.Ns C m) (k:∀ b o,s.heap.get? b = some o->h'.get? b = some o)
  {H2:Hp} (hu:Un (jb X.stack) fp H H2 s.heap h') (bF:jd X.prog X.w H2 h') (yG:H2 C = none) :
  Inv (X.block scope cl C (tg ++ fr.map (·.1)) fp pins s H) [] (iX tg.length (fr.map (·.2)) σ) H2 { s with heap:=h',toks:=t' }:=by
 have cells:∀ {x c},cl.lookup x = some c->X.env.cells.lookup x = some c:=fun e=>B.FF.get e;have cC:∀ x c,X.env.cells.lookup x = some c->c≠C:=fun x c e z=>by
  obtain ⟨v,o,ho,_⟩:=I.cell x c e;exact absurd (Nat.lt_of_lt_of_le (Heap.lt_size ho) hC) (by rw [z]; exact Nat.lt_irrefl _)
 have cellK:∀ {c v},s.heap.IsCell c v->h'.IsCell c v:=fun {c v} ⟨o,e,d⟩=>⟨o,k c o e,d⟩;have FC:∀ x c,X.env.cells.lookup x = some c->c∉fp/\H2 c = none:=fun x c e=>by
  have nf:c∉fp:=fun z=>(hf c z).1.2.2.2.2.1 x c e rfl;obtain ⟨v,o,ho,_⟩:=I.cell x c e;exact ⟨nf,hu.free c o ho (I.fm x c e) nf⟩
 have NU:∀ p∈X.pn ++ pins,p.1∉fp/\H2 p.1 = none:=fun p hp=>by
  have nf:p.1∉fp:=fun z=>(hf p.1 z).1.2.2.2.2.2 p hp rfl;obtain ⟨e,n,_⟩:=I.pin p hp;exact ⟨nf,hu.free p.1 _ e n nf⟩
 have TB:∀ b∈jb X.stack,b < s.heap.objs.size:=fun b hb=>by
  obtain ⟨_,o,ho,_⟩:=I.stack.mem hb;exact Heap.lt_size ho
 refine ⟨⟨I.ok.mod,B.kind,I.ok.glob,I.ok.blt,hC,fun x y c h1 h2=>I.ok.inj x y c (cells h1) (cells h2),fun x hx=>?_,fun x c z=>absurd (show false = true from z) Bool.false_ne_true,I.ok.hd,I.ok.frames,.inl rfl,fun b hb=>?_,fun b o e=>⟨?_,?_⟩,?_,fun b o e z=>?_,fun b hb z=>?_,I.stack,I.rW⟩,
  rfl,I.bare,hu,⟨m,hn,fun i x v h1 h2 h3=>?_⟩,fun x c e=>?_,yG,fun x c e=>(FC x c (cells e)).2,fun p hp=>?_,bF,?_⟩
 ·have e:(relabel scope X.env).names.lookup x = some .cell\/(relabel scope X.env).names.lookup x = some .free:=hx;have mem:∃ kk,(x,kk)∈(relabel scope X.env).names/\(kk == NameKind.cell || kk == NameKind.free) = true:=by
   rcases e with e | e
   ·exact ⟨_,lookup_mem e,rfl⟩
   ·exact ⟨_,lookup_mem e,rfl⟩
  obtain ⟨kk,mm,hk⟩:=mem;have z:=List.all_eq_true.mp B.has _ mm;simp only [hk,Bool.not_true,Bool.false_or] at z;exact Option.isSome_iff_exists.mp z
 ·exact ⟨fun z=>absurd (Nat.lt_of_lt_of_le (hf b hb).2 hC) (by rw [z]; exact Nat.lt_irrefl _),fun x c e z=>(FC x c (cells e)).1 (z▸hb)⟩
 ·exact (I.bs b o e).1
 ·exact (I.bs b o e).2
 ·exact Nat.le_trans I.ok.Cw I.sz
 ·rcases (hf b z).1.2.2.2.1 with q | q
  ·exact I.ok.uV b o e q
  ·exact absurd (Nat.lt_of_lt_of_le (Heap.lt_size (I.ok.bs b o e).1) q) (Nat.lt_irrefl _)
 ·have z':b∈jb X.stack:=z;rcases List.mem_cons.mp (I.jh b z') with q | q
  ·exact (hf b hb).1.2.1 q
  ·exact (hf b hb).1.2.2.1 q
 ·have hi:tg.length<=i:=by
   refine Nat.le_of_not_lt fun z=>?_;unfold iX at h2;rw [getElem?_append_left (by simpa using z),getElem?_replicate,if_pos z] at h2;cases h2
  have CT:(fr.map (·.1))[i - tg.length]? = some x:=by
   have z:(tg ++ fr.map (·.1))[i]? = some x:=h1;rw [getElem?_append_right hi] at z;exact z
  have qX:((fr.map (·.2)).map fun i=>(σ[i]?).join)[i - tg.length]? = some (some v):=by
   unfold iX at h2;rw [getElem?_append_right (by simpa using hi)] at h2;simpa using h2
  rw [getElem?_map] at CT;rw [getElem?_map,getElem?_map] at qX;cases q:fr[i - tg.length]? with
  | none=>rw [q] at CT; cases CT
  | some p=>
   rw [q] at CT qX;have ex:p.1 = x:=Option.some.inj CT;have ev:(σ[p.2]?).join = some v:=Option.some.inj qX;subst ex;obtain ⟨f1,f2,f3,f4⟩:=B.V6 p (mem_of_getElem? q);have eσ : σ[p.2]? = some (some v):=by
    cases z : σ[p.2]? with
    | none=>rw [z] at ev; cases ev
    | some w'=>rw [z] at ev; exact congrArg some ev
   obtain ⟨m0,Ib,Mv⟩:=I.loc;obtain ⟨u,r,l⟩:=Mv p.2 p.1 v f1 eσ f2;refine ⟨u,r,?_⟩;obtain ⟨c,hc⟩:=Option.isSome_iff_exists.mp f3;have hk:=B.V7 p (mem_of_getElem? q);rcases l with ⟨kl,_⟩ | ⟨_,c',yI,z⟩
   ·rw [hk] at kl; cases kl
   ·have e':=cells hc;rw [yI] at e';cases e'
    exact .inr ⟨.inl f4,c,hc,cellK z⟩
 ·obtain ⟨v,z⟩:=I.cell x c (cells e);exact ⟨v,cellK z⟩
 ·rw [append_nil] at hp;obtain ⟨e,n,ne,nf,d⟩:=I.pin p hp;refine ⟨k _ _ e,(NU p hp).2,fun z=>absurd (Nat.lt_of_lt_of_le (Heap.lt_size e) hC) (by rw [z]; exact Nat.lt_irrefl _),fun z=>?_,d⟩;rcases List.mem_cons.mp (I.jh _ z) with q | q
  ·exact ne q
  ·exact nf q
 ·unfold iX;show _ = (tg ++ fr.map (·.1)).length;simp
end
def lF (wi:TI) (g:TG) (tt:TT) (te:TE) (n:Nat) (fr:List Nat):TE:=fun σ H Q=>wi σ H fun J H1=>∀ acc,H1 acc = none->∃ W:Nat->Nat->St->List V->Hp->Prop,(∃ m,W 0 m (iX n fr σ) [] (upd H1 acc (.lst [])))/\
 ∀ i m σ' ys H2,W i m σ' ys H2->((J.stop i H2/\Q (.ref acc) H2)\/(J.go i H2/\∀ x H3,J.Av i H2 x H3->g x σ' H3 fun σ2 H4=>tt σ2 H4 fun b H5=>
  if b = true then te σ2 H5 fun y H6=>H6 acc = some (.lst ys)/\ys.length < sizeLine/\∃ m',m' < m/\W (i + 1) m' σ2 (ys ++ [y]) (upd H6 acc (.lst (ys ++ [y]))) else ∃ m',m' < m/\W (i + 1) m' σ2 ys H5))
section
variable {X:Cx} {scope:Scope} {cl:List (Str×Addr)} {tg:List Str} {fr:List (Str×Nat)} {elt target iter:Expr} {ifs:List Expr} {wi:TI} {g:TG} {tt:TT} {te:TE} {pos:Pos}
theorem rE (B:mY X scope cl tg fr) (hc:X.calm = true) (hi:PI X target iter wi)
  (hg:∀ C fp pins s H,PG (X.block scope cl C (tg ++ fr.map (·.1)) fp pins s H) target g) (ht:∀ C fp pins s H,CD (X.block scope cl C (tg ++ fr.map (·.1)) fp pins s H) ifs tt) (he:∀ C fp pins s H,PE (X.block scope cl C (tg ++ fr.map (·.1)) fp pins s H) elt te)
  {pins:List (Addr×Obj)} {σ : St} {H:Hp} {s:Shared} {Q:VK} (I:Inv X pins σ H s) (hw:lF wi g tt te tg.length (fr.map (·.2)) σ H Q) {RR:Value->Addr->Result->Shared->Prop}
  (VZ:∀ D C s1 H5 m,Inv X pins σ H5 s1->s1.heap.Ns C m->H5 C = none->C≠X.env.locals->X.s₀.heap.objs.size<=C->(∀ x c,X.env.cells.lookup x = some c->c≠C)->(∀ p∈X.pn ++ pins,p.1≠C)->Q (.ref D) H5->RR (.ref D) C (.ok .next) s1) :
  wpAny (model X.prog X.w) X.A (eval iter X.env) (fun xv s1=>wpAny (model X.prog X.w) X.A (pyIter xv) (fun it s2=>wpAny (model X.prog X.w) X.A (newList []) (fun acc s3=>
   wpAny (model X.prog X.w) X.A (newFunctionEnv scope X.env.globals cl [] X.env.qual none .none (some X.env)) (fun Lo s4=>
    codeAny (model X.prog X.w) X.A (.compStart (.ListComp elt [⟨target,iter,ifs,0⟩] scope pos) 0 it acc { Lo with scope:=relabel scope X.env }) (RR acc Lo.locals) s4) X.xe s3) X.xe s2) X.xe s1) X.xe s:=by
 refine wpAny_mono (hi pins s σ H _ I hw) (fun xv s1 h1=>wpAny_mono h1 (fun Oi s2 h2=>?_) fun _ _ z=>z) fun _ _ z=>z;obtain ⟨it,fp,tn,J,H1,rfl,I2,T,M7,f2,Vk⟩:=h2;have AG:∀ b∈fp,b < s2.heap.objs.size:=fun b hb=>by
  obtain ⟨o,e,_⟩:=T.obj _ _ M7 b hb;exact Heap.lt_size e
 refine wpAny_newObj_type (wpAny_newFunctionEnv B.GG (by intro y hy; simp at hy) (fun h3 CP Mo=>?_) B.kind);dsimp only at CP Mo ⊢;generalize hP:s2.heap.push { cls:=.type "list",dict:=none,data:=.seq ([]:List Value).toArray } = hp at CP Mo ⊢;have hC:hp.objs.size = s2.heap.objs.size + 1:=by rw [<- hP,Heap.size_push]
 have ef:s2.heap.objs.size < hp.objs.size:=by rw [hC]; exact Nat.lt_succ_self _
 have k3:∀ b o,s2.heap.get? b = some o->h3.get? b = some o:=fun b o e=>by
  have l:=Heap.lt_size e;refine Mo.extBut b o (Nat.ne_of_lt (Nat.lt_trans l ef)) (Heap.get?_push_of_some _ (hP▸Heap.get?_push_of_some _ e))
 have hD:H1 s2.heap.objs.size = none:=I2.bF.fresh (Nat.le_refl _);have bK:h3.get? s2.heap.objs.size = some { cls:=.type "list",dict:=none,data:=.seq ([]:List Value).toArray }:=Mo.extBut _ _ (Nat.ne_of_lt ef) (Heap.get?_push_of_some _ (hP▸Heap.get?_push_size _ rfl));obtain ⟨W,⟨m0,w0⟩,turn⟩:=Vk _ hD;have Tc:Un (jb X.stack) fp H1 (upd H1 s2.heap.objs.size (.lst [])) s2.heap h3:=Un.laid k3 (Nat.le_refl _) hD;have Uy:jd X.prog X.w (upd H1 s2.heap.objs.size (.lst [])) h3:=I2.bF.laid k3 (Nat.le_refl _) ⟨Nat.zero_le _,[],0,.nil,bK⟩;have fC:upd H1 s2.heap.objs.size (.lst []) hp.objs.size = none:=by rw [ak (Nat.ne_of_gt ef)]; exact I2.bF.fresh (Nat.le_of_lt ef)
 have UU:=I2.lt;have nL:hp.objs.size≠X.env.locals:=Nat.ne_of_gt (Nat.lt_trans UU ef);have TX:X.s₀.heap.objs.size<=hp.objs.size:=Nat.le_trans I2.sz (Nat.le_of_lt ef);have cC:∀ x c,X.env.cells.lookup x = some c->c≠hp.objs.size:=fun x c e z=>by
  obtain ⟨v,o,ho,_⟩:=I2.cell x c e;exact absurd (Nat.lt_trans (Heap.lt_size ho) ef) (by rw [z]; exact Nat.lt_irrefl _)
 have pC:∀ p∈X.pn ++ pins,p.1≠hp.objs.size:=fun p G4 z=>by
  exact absurd (Nat.lt_trans (Heap.lt_size (I2.pin p G4).1) ef) (by rw [z]; exact Nat.lt_irrefl _)
 have J0:=vN (t':=s2.toks + ([]:List (Str×Value)).length) B I2 (fun b hb=>⟨f2 b hb,AG b hb⟩) (Nat.le_of_lt ef) CP k3 Tc Uy fC;have Px:∀ {H':Hp} {pl:List (Addr×Obj)},(∀ b∈fp,H' b = none)->(∀ p∈pl,p.1∉fp)->∀ b∈fp,pH (X.block scope cl hp.objs.size (tg ++ fr.map (·.1)) fp pins s2 H1) pl H' b:=fun hn mU b hb=>by
  obtain ⟨g0,g1,g2,g3,g4,g5⟩:=f2 b hb;refine ⟨hn b hb,fun z=>?_,fun z=>?_,.inl hb,fun x c e=>g4 x c (B.FF.get e),fun p G4 z=>?_⟩
  ·have z':b = hp.objs.size:=z;exact absurd (Nat.lt_trans (AG b hb) ef) (by rw [z']; exact Nat.lt_irrefl _)
  ·rcases List.mem_cons.mp (I2.jh b z) with q | q
   ·exact g1 q
   ·exact g2 q
  ·rcases List.mem_append.mp G4 with q | q
   ·exact g5 p q z
   ·exact mU p q (z▸hb)
 have loop:∀ s3:Shared,s3 = { s2 with heap:=h3,toks:=s2.toks + ([]:List (Str×Value)).length }->
   codeAny (model X.prog X.w) X.A (.compLoop (.ListComp elt [⟨target,iter,ifs,0⟩] scope pos) 0 (.ref it) (.ref s2.heap.objs.size) (compEnvC scope cl hp.objs.size X.env)) (RR (.ref s2.heap.objs.size) hp.objs.size) s3:=by
  rintro s3 rfl;refine Am (fun n s'=>∃ i σ' ys H5,Inv (X.block scope cl hp.objs.size (tg ++ fr.map (·.1)) fp pins s2 H1) [] σ' H5 s'/\tn i s'.heap/\(∀ b∈fp,H5 b = none)/\W i n σ' ys H5) ?_ m0
   ⟨0,_,[],_,J0,T.keep _ _ _ M7 fun b hb o e=>k3 b o e,fun b hb=>?_,w0⟩
  ·rintro n s' ⟨i,σ',ys,H5,J5,t5,f5,w5⟩;rcases turn i n σ' ys H5 w5 with ⟨stop,q⟩ | ⟨go,step⟩
   ·refine wpAny_mono (T.done (X.block scope cl hp.objs.size (tg ++ fr.map (·.1)) fp pins s2 H1) rfl rfl rfl hc i [] s' σ' H5 (fun _ _=>False) J5 (Px f5 (by simp)) t5 stop) (fun r s6 ⟨hr,J6⟩=>?_) fun _ _ z=>z;subst hr;obtain ⟨m6,OQ,_⟩:=J6.loc;exact VZ _ _ _ H5 m6 (I2.FD (ch:=fp) J6.os J6.base J6.bF J6.bare fun b hb=>by obtain ⟨g0,g1,g2,g3,g4,g5⟩:=f2 b hb; exact ⟨g3,g1,g4,g5⟩) OQ J6.free nL TX cC pC q
   ·refine wpAny_mono (T.item (X.block scope cl hp.objs.size (tg ++ fr.map (·.1)) fp pins s2 H1) rfl rfl rfl hc i [] s' σ' H5 (fun _ _=>False) J5 (Px f5 (by simp)) t5 go) (fun r s6 ⟨u,hr,h6⟩=>?_) fun _ _ z=>z;subst hr;refine wpAny_mono h6 (fun _ s7 ⟨x,H7,J7,r7,y7,t7,f7⟩=>?_) fun _ _ z=>z;have WN:=J7.pinned (Px f7 (by simp)) (T.obj _ _ t7);have again:∀ {σ8:St} {H8:Hp} {s8:Shared} {Iq:List V},Inv (X.block scope cl hp.objs.size (tg ++ fr.map (·.1)) fp pins s2 H1) ([] ++ nP fp s7.heap) σ8 H8 s8->(∃ m',m' < n/\W (i + 1) m' σ8 Iq H8)->
      ∃ m',m' < n/\∃ i σ' ys H5,Inv (X.block scope cl hp.objs.size (tg ++ fr.map (·.1)) fp pins s2 H1) [] σ' H5 s8/\tn i s8.heap/\(∀ b∈fp,H5 b = none)/\W i m' σ' ys H5:=fun {σ8 H8 s8 Iq} J8 ⟨m',hm,w8⟩=>by
     refine ⟨m',hm,i + 1,σ8,Iq,H8,J8.jD,T.keep _ _ _ t7 fun b hb o e=>(J8.pin (b,o) (mem_append_right _ (mem_append_right _ (gv hb e)))).1,fun b hb=>?_,w8⟩;obtain ⟨o,e,d⟩:=T.obj _ _ t7 b hb;exact (J8.pin (b,o) (mem_append_right _ (mem_append_right _ (gv hb e)))).2.1
    refine wpAny_mono (hg _ _ _ _ _ _ s7 σ' H7 x u _ WN r7 (step x H7 y7)) (fun _ s8 ⟨σ8,H8,J8,q8⟩=>?_) fun _ _ z=>z;refine wpAny_mono (ht _ _ _ _ _ _ s8 σ8 H8 _ J8 q8) (fun b s9 ⟨H9,J9,q9⟩=>?_) fun _ _ z=>z;cases b with
    | false=>
     rw [if_neg Bool.false_ne_true] at q9 ⊢;exact again J9 q9
    | true=>
     rw [if_pos rfl] at q9 ⊢;refine wpAny_mono (he _ _ _ _ _ _ s9 σ8 H9 _ J9 q9) (fun y TV ⟨v,MX,SS,Uh,Ph,OW,Uk⟩=>?_) fun _ _ z=>z;refine wpAny_mono (bC (X:=X.block scope cl hp.objs.size (tg ++ fr.map (·.1)) fp pins s2 H1) _ TV σ8 MX (.ref s2.heap.objs.size) [v] (.ref s2.heap.objs.size) [y] (fun _ ES=>∃ m',m' < n/\W (i + 1) m' σ8 (ys ++ [v]) ES) SS rfl (.cons Uh .nil) ⟨_,ys,v,rfl,rfl,Ph,OW,Uk⟩) (fun _ Xl ⟨_,ES,Ip,_,Uj⟩=>?_) fun _ _ z=>z;exact again Ip Uj
  ·have l:=AG b hb;rw [ak (Nat.ne_of_lt l)]; exact (f2 b hb).1
 exact codeAny_compStart_list (loop _ rfl) (T.self X.A 0 _ _ _ (T.keep _ _ _ M7 fun b hb o e=>k3 b o e) (loop _ rfl))
theorem fD (B:mY X scope cl tg fr) (hc:X.calm = true) (hi:PI X target iter wi)
  (hg:∀ C fp pins s H,PG (X.block scope cl C (tg ++ fr.map (·.1)) fp pins s H) target g) (ht:∀ C fp pins s H,CD (X.block scope cl C (tg ++ fr.map (·.1)) fp pins s H) ifs tt) (he:∀ C fp pins s H,PE (X.block scope cl C (tg ++ fr.map (·.1)) fp pins s H) elt te)
  (hs:∀ x,foldedSetIterable iter X.env x = pure x:=by intro _; rfl):PE X (.ListComp elt [⟨target,iter,ifs,0⟩] scope pos) (lF wi g tt te tg.length (fr.map (·.2))):=by
 intro pins s σ H Q I hw;rw [eval_ListComp];refine wpAny_comprehension_free (use:=none) rfl hs B.Lm B.kind B.names (rE B hc hi hg ht he I hw (RR:=fun acc C=>compPost (model X.prog X.w) X.A X.xe none (EP X pins σ Q) acc C) fun D C s1 H5 m J hn f0 f1 f2 f3 f4 q=>?_);refine ⟨m,hn,fun h' sb=>⟨.ref D,H5,?_,rfl,q⟩⟩;exact J.turned (t':=s1.toks) (fun b o hb e=>(sb.2 b hb).trans e) f0 f1 (.inr f2) f3 f4
theorem jP {i:Nat} {y:Str} {py IT:Pos} (hN:X.N.Nodup) (hy:X.N[i]? = some y) (hl:Loc X.env.scope y) (B:mY X scope cl tg fr) (hc:X.calm = true) (hi:PI X target iter wi)
  (hg:∀ C fp pins s H,PG (X.block scope cl C (tg ++ fr.map (·.1)) fp pins s H) target g) (ht:∀ C fp pins s H,CD (X.block scope cl C (tg ++ fr.map (·.1)) fp pins s H) ifs tt) (he:∀ C fp pins s H,PE (X.block scope cl C (tg ++ fr.map (·.1)) fp pins s H) elt te)
  (hs:∀ x,foldedSetIterable iter X.env x = pure x:=by intro _; rfl) (Vq:swapsWith (.ListComp elt [⟨target,iter,ifs,0⟩] scope pos) (some (.Name y py)) IT.line X.env = pure true:=by rfl)
  (hf:X.fn y = true\/X.env.scope.names.lookup y = some .local:=by first | exact .inl rfl | exact .inr rfl | assumption) :
  PS X (.Assign [.Name y py] (.ListComp elt [⟨target,iter,ifs,0⟩] scope pos) IT) (zq (lF wi g tt te tg.length (fr.map (·.2))) (lU i)):=by
 intro pins s σ H D I hw;rw [exec_Assign_Name_used _ _ _ _ Vq];refine wpAny_bind (wpAny_standAt (wpAny_bind ?_));show wpAny _ _ (do let _ <- comprehension (.ListComp elt [⟨target,iter,ifs,0⟩] scope pos) scope X.env _ (newList []) false (eval iter X.env) (some (assign (.Name y py) X.env))) _ _ s;refine wpAny_bind (wpAny_mono (wpAny_comprehension_free (use:=some (assign (.Name y py) X.env)) (Q:=fun _ s'=>SP X pins D .next s') rfl hs B.Lm B.kind B.names
  (rE B hc hi hg ht he I hw (RR:=fun acc C=>compPost (model X.prog X.w) X.A X.xe (some (assign (.Name y py) X.env)) (fun _ s'=>SP X pins D .next s') acc C) fun R C s1 H5 m J hn f0 f1 f2 f3 f4 q=>?_)) (fun _ s' hq=>wpAny_pure (wpAny_pure hq)) fun _ _ z=>z)
 show wpAny _ _ (assign (.Name y py) X.env (.ref R)) _ _ _;refine wpAny_assign_Name (qt (v:=.ref R) J hN hy hl rfl (fun s2 J2 ⟨a,sb,ha⟩=>?_) hf);have na:C≠a:=by
  rcases ha with z | z
  ·rw [z]; exact f1
  ·exact Ne.symm (f3 y a z)
 refine ⟨m,hn.sameBut sb na,fun h' TN=>⟨_,H5,?_,q⟩⟩;exact J2.turned (t':=s2.toks) (fun b o hb e=>(TN.2 b hb).trans e) f0 f1 (.inr f2) f3 f4
end
section
variable {X:Cx}
def ye:V->List V->Hp->VK->Prop:=fun x vs H Q=>∃ l xs y,∃ k:Nat,x = .ref l/\vs = [.int k,y]/\H l = some (.lst xs)/\k<=xs.length/\xs.length < sizeLine/\Q .bQ (upd H l (.lst (xs.take k ++ y :: xs.drop k)))
theorem kW:HJ X "list.insert" ye:=by
 intro pins s σ H x vs v us Q I rx rv h;obtain ⟨l,xs,y,k,rfl,rfl,hH,hk,hz,q⟩:=h;cases rx
 obtain ⟨u1,u2,rfl,⟨t,rfl⟩,ru⟩:=vals2 rv;obtain ⟨z,aO,n,r,hl,e⟩:=I.ot hH;have V0:=kX;have fit:¬ (!Builtin.List.listFitsIndex (k:Int)) = true:=by
  have:Builtin.List.listFitsIndex (k:Int) = true:=by
   unfold Builtin.List.listFitsIndex;simp only [Bool.and_eq_true,decide_eq_true_eq];constructor <;> omega
  rw [this]; decide
 have ek:(if (k:Int) < 0 then ((k:Int) + (aO.toArray.size:Int)).toNat else min (k:Int).toNat aO.toArray.size) = k:=by
  rw [if_neg (by omega),Int.toNat_natCast,size_toArray];omega
 have ee:(aO.toArray.extract 0 k).push u2 ++ aO.toArray.extract k = (aO.take k ++ u2 :: aO.drop k).toArray:=by
  apply Array.ext';simp;rw [take_of_length_le (by rw [length_drop]; omega)]
 have rr:Vals (xs.take k ++ y :: xs.drop k) (aO.take k ++ u2 :: aO.drop k):=Vals.append (Vals.take k r) (.cons ru (Vals.drop k r));have CL:(xs.take k ++ y :: xs.drop k).length<=sizeLine:=by
  rw [length_append,length_cons,length_take,length_drop];omega
 have sz:aO.toArray.size<=sizeLine:=by rw [size_toArray]; omega
 have fin:∀ f:Array Value->Array Value,f aO.toArray = (aO.take k ++ u2 :: aO.drop k).toArray->EP X pins σ Q Value.none { s with heap:=s.heap.update l (Obj.mapSeq f),toks:=s.toks }:=fun f hf=>
  ⟨.bQ,_,I.zI (its':=aO.take k ++ u2 :: aO.drop k) (ys:=xs.take k ++ y :: xs.drop k) hH e hf rr CL,rfl,q⟩
 have fin2:EP X pins σ Q Value.none { s with heap:=s.heap.update l (Obj.mapSeq fun xs=>have kk:=if (k:Int) < 0 then ((k:Int) + (xs.size:Int)).toNat else min (k:Int).toNat xs.size; (xs.extract 0 kk).push u2 ++ xs.extract kk),toks:=s.toks }:=by
  refine fin _ ?_;dsimp only;rw [ek];exact ee
 clear fin ek ee rr CL q;generalize (k:Int) = x at fit fin2 ⊢;generalize aO.toArray = items at e sz;exact call_meets F.slot_list_insert ⟨_,e,rfl⟩ F.entry_list_insert (F.args_list_insert_3 _ _ _) (AutoSeq1.list_insert_list_int_val_1 l items n x t u2 fit sz) ⟨e,fin2⟩
def DB (K:Frag):List V->Hp->VK->Prop:=fun vs H Q=>∃ (a:Addr) (ns:List Int),vs = [.ref a]/\aw K H a (ns.map V.int)/\ns.length < 64/\∀ (nZ:List Int) p,nZ.Perm ns->nZ.Pairwise (·<=·)->H p = none->Q (.ref p) (upd H p (.lst (nZ.map V.int)))
end
section
variable {X:Cx}
theorem vM:fL X (.builtin "sorted") (DB X.K):=by
 intro pins s σ H xs us Q I r h;obtain ⟨a,ns,rfl,ha,hl,q⟩:=h;obtain ⟨u,rfl,ru⟩:=vals1 r;cases ru
 obtain ⟨aO,rv,pl,hz⟩:=I.list ha;have hI:IntsAre aO ns:=intsAre_of rv;have len:=rv.length;rw [length_map] at len;refine sorted_ints pl.isList hI (by omega) fun out nZ h1 h2 h3=>?_;have lo:=h1.length;obtain ⟨ep,k1⟩:=sortedAll_at s.heap aO out;have iW:=h2.length_eq;have CL:(nZ.map V.int).length<=sizeLine:=by rw [length_map,PySem.sizeLine_eq]; omega
 have new:bB X.prog X.w (upd H (s.heap.objs.size + 1) (.lst (nZ.map V.int))) (sortedAll s.heap aO out) (s.heap.objs.size + 1) (.lst (nZ.map V.int)):=⟨CL,out.toList,ep,kz h1,by simpa [seqObj] using k1⟩;exact ⟨.ref (s.heap.objs.size + 1),_,I.laid (t':=s.toks) (fun b o e=>sortedAll_old e) (Nat.le_succ _) new,rfl,q nZ _ h2 h3 (I.bF.fresh (Nat.le_succ _))⟩
end
mutual
inductive xI (H:Hp):V->PyData->Prop where
 | int (i:Int):xI H (.int i) (.int i)
 | lst {a:Addr} {vs:List V} {ds:List PyData}:H a = some (.lst vs)->eF H vs ds->xI H (.ref a) (.list ds)
 | tup {a:Addr} {vs:List V} {ds:List PyData}:H a = some (.tup vs)->eF H vs ds->xI H (.ref a) (.tuple ds)
inductive eF (H:Hp):List V->List PyData->Prop where
 | nil:eF H [] []
 | cons {v:V} {vs:List V} {d:PyData} {ds:List PyData}:xI H v d->eF H vs ds->eF H (v :: vs) (d :: ds)
end
section
variable {X:Cx} {pins:List (Addr×Obj)} {σ : St} {H:Hp} {s:Shared}
mutual
theorem xI.reads (I:Inv X pins σ H s):∀ {v:V} {d:PyData} {u:Value},xI H v d->RelV v u->∃ as,Reads s.heap u d as
 | _,_,u,.int i,r=>by
  obtain ⟨t,rfl⟩:=r;exact ⟨_,.int i t⟩
 | _,_,u,.lst (a:=a) (vs:=vs) e h,r=>by
  cases (show u = Value.ref a from r)
  obtain ⟨_,aO,n,rv,g⟩:=(show bB X.prog X.w H s.heap a (.lst vs) from I.bF a _ e);obtain ⟨as,ra⟩:=eF.reads I h rv;exact ⟨_,.list g rfl rfl (by simpa using ra)⟩
 | _,_,u,.tup (a:=a) (vs:=vs) e h,r=>by
  cases (show u = Value.ref a from r)
  obtain ⟨_,aO,rv,o,g,hc,n,hd⟩:=(show bB X.prog X.w H s.heap a (.tup vs) from I.bF a _ e);obtain ⟨as,ra⟩:=eF.reads I h rv;exact ⟨_,.tuple g hc hd (by simpa using ra)⟩
theorem eF.reads (I:Inv X pins σ H s):∀ {vs:List V} {ds:List PyData} {us:List Value},eF H vs ds->Vals vs us->∃ as,ReadsAll s.heap us ds as
 | _,_,_,.nil,.nil=>⟨_,.nil⟩
 | _,_,_,.cons h t,.cons r q=>by
  obtain ⟨as,ra⟩:=xI.reads I h r;obtain ⟨bs,rb⟩:=eF.reads I t q;exact ⟨_,.cons ra rb⟩
end
end
def Ju (neg:Bool):R2:=fun x y H Q=>∃ da db,xI H x da/\xI H y db/\SeqAt.shaped da = true/\SeqAt.shaped db = true/\Q (.bl (if neg then !PyData.eqv da db else PyData.eqv da db)) H
theorem Bu {X:Cx} (hu:X.A.units + 64 < cLine):lX X (compareOp .Eq) (Ju false):=by
 intro pins s σ H x y v u Q I rx ry h;obtain ⟨da,db,ra,rb,ha,hb,q⟩:=h;obtain ⟨as,r1⟩:=xI.reads I ra rx;obtain ⟨bs,r2⟩:=xI.reads I rb ry;exact SeqAt.compareEq_shaped r1 r2 ha hb hu (ba I q rfl)
theorem fQ {X:Cx} (hu:X.A.units + 64 < cLine):lX X (compareOp .NotEq) (Ju true):=by
 intro pins s σ H x y v u Q I rx ry h;obtain ⟨da,db,ra,rb,ha,hb,q⟩:=h;obtain ⟨as,r1⟩:=xI.reads I ra rx;obtain ⟨bs,r2⟩:=xI.reads I rb ry;exact SeqAt.compareNe_shaped r1 r2 ha hb hu (ba I q rfl)
def bO (l:List Int):PyData:=.list (l.map .int)
def cP (L:List (List Int)):PyData:=.list (L.map bO)
def Lk (p:Int×Int):PyData:=.tuple [.int p.1,.int p.2]
def PL (L:List (Int×Int)):PyData:=.list (L.map Lk)
theorem lay_ints:∀ l:List Int,PyData.canLayAll0 (l.map .int) = true/\PyData.depthAll (l.map .int) = 0
 | []=>⟨by simp [PyData.canLayAll0],by simp [PyData.depthAll]⟩
 | i :: l=>by
  obtain ⟨h1,h2⟩:=lay_ints l;simp [PyData.canLayAll0,PyData.depthAll,PyData.canLay0,PyData.depth,h1,h2]
theorem vj:∀ L:List (List Int),PyData.canLayAll0 (L.map bO) = true/\PyData.depthAll (L.map bO)<=1
 | []=>⟨by simp [PyData.canLayAll0],by simp [PyData.depthAll]⟩
 | l :: L=>by
  obtain ⟨h1,h2⟩:=vj L;obtain ⟨h3,h4⟩:=lay_ints l;simp [PyData.canLayAll0,PyData.depthAll,PyData.canLay0,PyData.depth,bO,h1,h3,h4];omega
theorem bc (L:List (List Int)):SeqAt.shaped (cP L) = true:=by
 obtain ⟨h1,h2⟩:=vj L;unfold SeqAt.shaped cP;simp [PyData.canLay0,PyData.depth,h1];omega
theorem oX:∀ l m:List Int,PyData.eqvAll (l.map .int) (m.map .int) = decide (l = m)
 | [],[]=>by simp [PyData.eqvAll]
 | [],_ :: _=>by simp [PyData.eqvAll]
 | _ :: _,[]=>by simp [PyData.eqvAll]
 | i :: l,j :: m=>by
  simp only [map_cons,PyData.eqvAll,PyData.eqv,oX l m];by_cases h1:i = j <;> by_cases h2:l = m <;> simp [h1,h2]
theorem rm:∀ L M:List (List Int),PyData.eqvAll (L.map bO) (M.map bO) = decide (L = M)
 | [],[]=>by simp [PyData.eqvAll]
 | [],_ :: _=>by simp [PyData.eqvAll]
 | _ :: _,[]=>by simp [PyData.eqvAll]
 | i :: l,j :: m=>by
  rw [map_cons,map_cons,PyData.eqvAll,rm l m];have e:PyData.eqv (bO i) (bO j) = decide (i = j):=by unfold bO; rw [PyData.eqv]; exact oX i j
  rw [e];by_cases h1:i = j <;> by_cases h2:l = m <;> simp [h1,h2]
theorem fo (L M:List (List Int)):PyData.eqv (cP L) (cP M) = decide (L = M):=by
 unfold cP; rw [PyData.eqv]; exact rm L M
theorem tT:bootBuiltins "min" = some (.builtin "min"):=by decide +kernel
theorem rJ:bootBuiltins "sorted" = some (.builtin "sorted"):=by decide +kernel
theorem EE {i j:Int} (h1:0 < j) (h2:j < 2 ^ 250):Qu i j:=⟨h1,Sz.mono (m:=250) (by unfold Sz; omega) (by decide)⟩
theorem sU {ns:List Int} {k:Int} (h0:0<=k) (h1:k < ns.length):∃ n,gT (ns.map V.int) k = some (V.int n):=by
 obtain ⟨j,rfl⟩:=Int.eq_ofNat_of_zero_le h0;have hj:j < ns.length:=by omega
 exact ⟨ns[j],eO (by simp [hj])⟩
theorem cG {α : Type} {p : α->Prop}:∀ x∈([]:List α),p x:=fun _ h=>by cases h
theorem aW {α : Type} {p : α->Prop} {a : α} {l:List α} (h:p a) (t:∀ x∈l,p x):∀ x∈a :: l,p x:=List.forall_mem_cons.mpr ⟨h,t⟩
section
variable {σ : St} {H:Hp} {Q:VK} {D:Ends} {K:Frag}
theorem NG {T:String} {r:V->List V->Hp->VK->Prop} {to:TE} {t:TA} (h:to σ H fun x H1=>Iv K T x H1/\t σ H1 fun xs H2=>r x xs H2 Q):QM K T r to t σ H Q:=h
theorem Jl {T:String} {r:V->List V->Hp->VK->Prop} {to:TE} (h:to σ H fun x H1=>Iv K T x H1/\r x [] H1 Q):IQ K T r to σ H Q:=h
theorem Bc {R:Bool->Hp->Prop} (h:R true H):xS σ H R:=h
theorem bV {l:Addr} {xs:List V} {y:V} (h:H l = some (.lst xs)) (hl:xs.length < sizeLine) (q:Q .bQ (upd H l (.lst (xs ++ [y])))):yg (.ref l) [y] H Q:=⟨l,xs,y,rfl,rfl,h,hl,q⟩
theorem nJ {l:Addr} {xs:List V} {y:V} {i:Int} {k:Nat} (hi:i = k) (h:H l = some (.lst xs)) (hk:k<=xs.length) (hl:xs.length < sizeLine) (q:Q .bQ (upd H l (.lst (xs.take k ++ y :: xs.drop k)))):ye (.ref l) [.int i,y] H Q:=⟨l,xs,y,k,rfl,by rw [hi],h,hk,hl,q⟩
theorem Bg {l b:Addr} {xs zs:List V} (h:H l = some (.lst xs)) (hb:H b = some (.lst zs)) (hl:xs.length + zs.length<=sizeLine) (q:Q .bQ (upd H l (.lst (xs ++ zs)))):yf (.ref l) [.ref b] H Q:=⟨l,b,xs,zs,rfl,rfl,h,hb,hl,q⟩
theorem sC {p:Addr} {x:Int} {ns:List Int} {neg:Bool} (h:aw K H p (ns.map V.int)) (q:Q (.bl (if neg then !decide (x∈ns) else decide (x∈ns))) H):L5 K neg (.int x) (.ref p) H Q:=by
 have e:Mi (.int x) (ns.map V.int) = decide (x∈ns):=by
  unfold Mi;rw [any_map];have:(fun y=>Ew y (V.int x)) ∘ V.int = fun y=>y == x:=by funext y; rfl
  rw [this];clear this q h
  induction ns with
  | nil=>simp
  | cons a l ih=>
   rw [any_cons,ih];by_cases h1:a = x
   ·subst h1; simp
   ·have h2:¬ x = a:=fun z=>h1 z.symm;simp [h1,h2]
 refine ⟨p,_,rfl,.inl h,rfl,?_,by rw [e]; exact q⟩;rw [all_map];simp [ki]
theorem fH {n i:Nat} {A:Prop} (hi:i < n) (h:A):∃ m',m' < n - i/\(m' = n - (i + 1)/\i + 1<=n/\A):=⟨_,by omega,rfl,hi,h⟩
theorem o4 {R:Hp->Prop} {acc:Addr} {lo:Int} {n:Nat} {g:TG} {tt:TT} {te:TE} (Pv:Nat->St->List V->Hp->Prop) (h0:Pv 0 σ [] H)
  (hs:∀ i σ ys H,i < n->Pv i σ ys H->g (.int (lo + i)) σ H fun σ2 H4=>tt σ2 H4 fun b H5=>if b = true then te σ2 H5 fun y H6=>H6 acc = some (.lst ys)/\ys.length < sizeLine/\∃ m',m' < n - i/\(m' = n - (i + 1)/\i + 1<=n/\Pv (i + 1) σ2 (ys ++ [y]) (upd H6 acc (.lst (ys ++ [y])))) else ∃ m',m' < n - i/\(m' = n - (i + 1)/\i + 1<=n/\Pv (i + 1) σ2 ys H5))
  (hd:∀ σ ys H,Pv n σ ys H->R H) :
  ∃ W:Nat->Nat->St->List V->Hp->Prop,(∃ m,W 0 m σ [] H)/\∀ i m σ' ys H2,W i m σ' ys H2->(((C1 lo n).stop i H2/\R H2)\/((C1 lo n).go i H2/\∀ x H3,(C1 lo n).Av i H2 x H3->g x σ' H3 fun σ2 H4=>tt σ2 H4 fun b H5=>
   if b = true then te σ2 H5 fun y H6=>H6 acc = some (.lst ys)/\ys.length < sizeLine/\∃ m',m' < m/\W (i + 1) m' σ2 (ys ++ [y]) (upd H6 acc (.lst (ys ++ [y]))) else ∃ m',m' < m/\W (i + 1) m' σ2 ys H5)):=by
 refine ⟨fun i m σ ys H=>m = n - i/\i<=n/\Pv i σ ys H,⟨n,by simp,Nat.zero_le _,h0⟩,?_⟩;rintro i m σ ys H ⟨rfl,hi,p⟩;by_cases ef:i < n
 ·refine .inr ⟨ef,fun x H' y=>?_⟩;obtain ⟨e,y⟩:=y;subst e y;exact hs i σ ys _ ef p
 ·have e:i = n:=by omega
  subst e;exact .inl ⟨Nat.le_refl _,hd σ ys H p⟩
theorem dw {R:Hp->Prop} {acc a:Addr} {xs:List V} {g:TG} {tt:TT} {te:TE} (Pv:Nat->St->List V->Hp->Prop) (h0:Pv 0 σ [] H) (hl:∀ i σ ys H,i<=xs.length->Pv i σ ys H->aw K H a xs)
  (hs:∀ i x σ ys H,xs[i]? = some x->i < xs.length->Pv i σ ys H->g x σ H fun σ2 H4=>tt σ2 H4 fun b H5=>if b = true then te σ2 H5 fun y H6=>H6 acc = some (.lst ys)/\ys.length < sizeLine/\∃ m',m' < xs.length - i/\(m' = xs.length - (i + 1)/\i + 1<=xs.length/\Pv (i + 1) σ2 (ys ++ [y]) (upd H6 acc (.lst (ys ++ [y])))) else ∃ m',m' < xs.length - i/\(m' = xs.length - (i + 1)/\i + 1<=xs.length/\Pv (i + 1) σ2 ys H5))
  (hd:∀ σ ys H,Pv xs.length σ ys H->R H) :
  ∃ W:Nat->Nat->St->List V->Hp->Prop,(∃ m,W 0 m σ [] H)/\∀ i m σ' ys H2,W i m σ' ys H2->(((EM K a).stop i H2/\R H2)\/((EM K a).go i H2/\∀ x H3,(EM K a).Av i H2 x H3->g x σ' H3 fun σ2 H4=>tt σ2 H4 fun b H5=>
   if b = true then te σ2 H5 fun y H6=>H6 acc = some (.lst ys)/\ys.length < sizeLine/\∃ m',m' < m/\W (i + 1) m' σ2 (ys ++ [y]) (upd H6 acc (.lst (ys ++ [y]))) else ∃ m',m' < m/\W (i + 1) m' σ2 ys H5)):=by
 refine ⟨fun i m σ ys H=>m = xs.length - i/\i<=xs.length/\Pv i σ ys H,⟨xs.length,by simp,Nat.zero_le _,h0⟩,?_⟩;rintro i m σ ys H ⟨rfl,hi,p⟩;have q:=hl i σ ys H hi p;by_cases ef:i < xs.length
 ·refine .inr ⟨⟨xs,xs[i],q,by simp [ef]⟩,fun x H' y=>?_⟩;obtain ⟨e,y⟩:=y;subst e;exact hs i x σ ys _ (y xs q) ef p
 ·have e:i = xs.length:=by omega
  subst e;exact .inl ⟨⟨xs,q,Nat.le_refl _⟩,hd σ ys H p⟩
theorem eY {wi:TI} {g:TG} {tt:TT} {te:TE} {n:Nat} {fr:List Nat} (h:wi σ H fun J H1=>∀ acc,H1 acc = none->∃ W:Nat->Nat->St->List V->Hp->Prop,(∃ m,W 0 m (iX n fr σ) [] (upd H1 acc (.lst [])))/\
 ∀ i m σ' ys H2,W i m σ' ys H2->((J.stop i H2/\Q (.ref acc) H2)\/(J.go i H2/\∀ x H3,J.Av i H2 x H3->g x σ' H3 fun σ2 H4=>tt σ2 H4 fun b H5=>
  if b = true then te σ2 H5 fun y H6=>H6 acc = some (.lst ys)/\ys.length < sizeLine/\∃ m',m' < m/\W (i + 1) m' σ2 (ys ++ [y]) (upd H6 acc (.lst (ys ++ [y]))) else ∃ m',m' < m/\W (i + 1) m' σ2 ys H5))):lF wi g tt te n fr σ H Q:=h
end
end L2
end
section
namespace Gm
open PySem L2
def put (l:List Int) (k:Nat) (x:Int):List Int:=l.take k ++ x :: l.drop k
theorem dD (l:List Int) (k:Nat) (x:Int):(put l k x).Perm (x :: l):=by
 unfold put;refine List.perm_middle.trans ?_;rw [take_append_drop]
theorem D3 {l:List Int} {k:Nat} {x y:Int}:y∈put l k x↔y = x\/y∈l:=by rw [(dD l k x).mem_iff,mem_cons]
theorem map_put {l:List Int} {k:Nat} {x:Int}:(l.map V.int).take k ++ V.int x :: (l.map V.int).drop k = (put l k x).map V.int:=by simp [put,map_take,map_drop]
structure av (L:List (List Int)):Prop where
 nd:∀ (i:Nat) (l:List Int),L[i]? = some l->l.Nodup
 rg:∀ (i:Nat) (l:List Int),L[i]? = some l->∀ x∈l,0<=x/\x < L.length/\x≠i
 sy:∀ (i:Nat) (l:List Int),L[i]? = some l->∀ x∈l,∀ j:Nat,x = j->∀ m,L[j]? = some m->(i:Int)∈m
structure Made (n one other:Nat) (L:List (List Int)):Prop where
 len:L.length = n
 map:av L
 bd:∀ (i:Nat) (l:List Int),L[i]? = some l->∀ x∈l,(i < one/\x < one)\/(i = one/\x < other)\/(x = one/\i < other)
structure aJ (H:Hp) (p:Addr) (as:List Addr) (L:List (List Int)):Prop where
 top:H p = some (.lst (as.map V.ref))
 len:as.length = L.length
 row:∀ (i:Nat) (a:Addr) (l:List Int),as[i]? = some a->L[i]? = some l->H a = some (.lst (l.map V.int))
section
variable {H H':Hp} {p:Addr} {as:List Addr} {L:List (List Int)}
theorem aJ.at (g:aJ H p as L) {i:Nat} (hi:i < L.length):∃ a l,as[i]? = some a/\L[i]? = some l/\H a = some (.lst (l.map V.int)):=by
 have h2:i < as.length:=by rw [g.len]; exact hi
 exact ⟨as[i],L[i],by simp [h2],by simp [hi],g.row i _ _ (by simp [h2]) (by simp [hi])⟩
theorem aJ.same (g:aJ H p as L) (e:ah H H'):aJ H' p as L:=⟨e _ _ g.top,g.len,fun i a l h1 h2=>e _ _ (g.row i a l h1 h2)⟩
theorem aJ.set (g:aJ H p as L) (nd:(p :: as).Nodup) {i:Nat} {a:Addr} {l':List Int} (hi:as[i]? = some a):aJ (upd H a (.lst (l'.map V.int))) p as (L.set i l'):=by
 have hp:p≠a:=fun z=>(List.nodup_cons.mp nd).1 (z▸mem_of_getElem? hi);refine ⟨by rw [ak hp]; exact g.top,by rw [length_set]; exact g.len,fun j b l h1 h2=>?_⟩;by_cases hj:j = i
 ·subst hj;rw [hi] at h1;cases h1
  rw [getElem?_set,if_pos rfl] at h2;split at h2
  ·cases h2; exact ae
  ·cases h2
 ·rw [getElem?_set_ne (fun z=>hj z.symm)] at h2;have hb:b≠a:=fun z=>by
   subst z;obtain ⟨q1,w1⟩:=List.getElem?_eq_some_iff.mp h1;obtain ⟨q2,w2⟩:=List.getElem?_eq_some_iff.mp hi;exact hj ((getElem_inj (List.nodup_cons.mp nd).2).mp (w1.trans w2.symm))
  rw [ak hb];exact g.row j b l h1 h2
theorem aJ.ix (g:aJ H p as L) {i:Nat} {a:Addr} (hi:as[i]? = some a):gT (as.map V.ref) (i:Int) = some (V.ref a):=eO (by rw [getElem?_map,hi]; rfl)
theorem uG {H:Hp}:∀ l:List Int,eF H (l.map V.int) (l.map PyData.int)
 | []=>.nil
 | i :: l=>.cons (.int i) (uG l)
theorem cg {a:Addr} {l:List Int} (h:H a = some (.lst (l.map V.int))):xI H (.ref a) (bO l):=.lst h (uG l)
theorem uF:∀ {as:List Addr} {L:List (List Int)},as.length = L.length->(∀ (i:Nat) (a:Addr) (l:List Int),as[i]? = some a->L[i]? = some l->H a = some (.lst (l.map V.int)))->eF H (as.map V.ref) (L.map bO)
 | [],[],_,_=>.nil
 | [],_ :: _,h,_=>by simp at h
 | _ :: _,[],h,_=>by simp at h
 | a :: as,l :: L,h,r=>.cons (cg (r 0 a l rfl rfl)) (uF (by simpa using h) fun i b m h1 h2=>r (i + 1) b m (by simpa using h1) (by simpa using h2))
theorem aJ.yb (g:aJ H p as L):xI H (.ref p) (cP L):=.lst g.top (uF g.len g.row)
end
theorem ah.fresh {H H':Hp} {a:Addr} {o:HO} (e:ah H H') (h:H a = none):ah H (upd H' a o):=fun b u q=>by rw [ak (fun z=>by rw [z,h] at q; cases q)]; exact e b u q
inductive Reach (L:List (List Int)) (s:Int):Int->Prop where
 | here:Reach L s s
 | step {i:Nat} {l:List Int} {x:Int}:Reach L s i->L[i]? = some l->x∈l->Reach L s x
theorem dJ {α : Type} [BEq α] [LawfulBEq α]:∀ {l r:List α},l.Nodup->(∀ x∈l,x∈r)->l.length<=r.length
 | [],_,_,_=>Nat.zero_le _
 | x :: l,r,n,h=>by
  have hx:x∈r:=h x mem_cons_self;have n2:=List.nodup_cons.mp n;have ih:=dJ (r:=r.erase x) n2.2 fun y hy=>by
   have ne:y≠x:=fun z=>n2.1 (z▸hy);exact (mem_erase_of_ne ne).mpr (h y (mem_cons_of_mem _ hy))
  rw [length_erase_of_mem hx] at ih;have:=length_pos_of_mem hx;rw [length_cons]; omega
theorem bz {n:Nat} {l:List Int} (h:l.Nodup) (r:∀ x∈l,0<=x/\x < n):l.length<=n:=by
 have:=dJ (r:=(List.range n).map fun i:Nat=>(i:Int)) h fun x hx=>by
  have:=r x hx;exact List.mem_map.mpr ⟨x.toNat,List.mem_range.mpr (by omega),by omega⟩
 simpa using this
theorem len_eq {α : Type} [BEq α] [LawfulBEq α] {l r:List α} (h1:l.Nodup) (h2:r.Nodup) (h:∀ x,x∈l↔x∈r):l.length = r.length:=
 Nat.le_antisymm (dJ h1 fun x=>(h x).mp) (dJ h2 fun x=>(h x).mpr)
theorem Reach.rg {L:List (List Int)} {s x:Int} (h:Reach L s x) (m:av L) (hs:0<=s/\s < L.length):0<=x/\x < L.length:=by
 cases h with
 | here=>exact hs
 | step _ e hx=>have:=m.rg _ _ e _ hx; exact ⟨this.1,this.2.1⟩
theorem aF {n:Nat} (h:n<=1000):n < sizeLine:=by rw [PySem.sizeLine_eq]; omega
def pL (i:Nat) (l:List Int):Nat->List Int
 | 0=>[]
 | j + 1=>pL i l j ++ (if ((i + 1 + j:Nat):Int)∈l then [((i + 1 + j:Nat):Int)] else [])
def cO (L:List (List Int)):Nat->List (Int×Int)
 | 0=>[]
 | k + 1=>cO L k ++ (pL k (L.getD k []) (L.length - (k + 1))).map fun x=>((k:Int),x)
theorem iF {i:Nat} {l:List Int}:∀ {j:Nat} {x:Int},x∈pL i l j↔(i:Int) < x/\x < (i + 1 + j:Nat)/\x∈l
 | 0,x=>by simp only [pL,not_mem_nil,false_iff]; intro h; omega
 | j + 1,x=>by
  rw [pL,mem_append,iF];by_cases h:((i + 1 + j:Nat):Int)∈l
  ·rw [if_pos h,mem_singleton];constructor
   ·rintro (⟨h1,h2,h3⟩ | rfl)
    ·exact ⟨h1,by omega,h3⟩
    ·exact ⟨by omega,by omega,h⟩
   ·rintro ⟨h1,h2,h3⟩;by_cases e:x = ((i + 1 + j:Nat):Int)
    ·exact .inr e
    ·exact .inl ⟨h1,by omega,h3⟩
  ·rw [if_neg h];simp only [not_mem_nil,or_false];constructor
   ·rintro ⟨h1,h2,h3⟩;exact ⟨h1,by omega,h3⟩
   ·rintro ⟨h1,h2,h3⟩;have:x≠((i + 1 + j:Nat):Int):=fun z=>h (z▸h3);exact ⟨h1,by omega,h3⟩
theorem hJ {i:Nat} {l:List Int}:∀ j,(pL i l j).Pairwise (· < ·)
 | 0=>.nil
 | j + 1=>by
  rw [pL,pairwise_append];refine ⟨hJ j,by split <;> simp,fun a ha b hb=>?_⟩;have:=iF.mp ha;split at hb
  ·rw [mem_singleton] at hb; omega
  ·cases hb
theorem nj:∀ {l r:List Int},l.Pairwise (· < ·)->r.Pairwise (· < ·)->(∀ x,x∈l↔x∈r)->l = r
 | [],[],_,_,_=>rfl
 | [],b :: r,_,_,h=>absurd ((h b).mpr mem_cons_self) (by simp)
 | a :: l,[],_,_,h=>absurd ((h a).mp mem_cons_self) (by simp)
 | a :: l,b :: r,hl,hr,h=>by
  obtain ⟨l1,l2⟩:=List.pairwise_cons.mp hl;obtain ⟨r1,r2⟩:=List.pairwise_cons.mp hr;have e:a = b:=by
   rcases List.mem_cons.mp ((h a).mp mem_cons_self) with z | z
   ·exact z
   ·rcases List.mem_cons.mp ((h b).mpr mem_cons_self) with y | y
    ·exact y.symm
    ·have:=r1 a z; have:=l1 b y; omega
  subst e;rw [nj l2 r2 fun x=>?_];constructor
  ·intro z;rcases List.mem_cons.mp ((h x).mp (mem_cons_of_mem _ z)) with y | y
   ·have:=l1 x z; omega
   ·exact y
  ·intro z;rcases List.mem_cons.mp ((h x).mpr (mem_cons_of_mem _ z)) with y | y
   ·have:=r1 x z; omega
   ·exact y
theorem strict {l:List Int} (h:l.Pairwise (·<=·)) (n:l.Nodup):l.Pairwise (· < ·):=by
 have:=h.and n;exact this.imp fun ⟨x,y⟩=>by omega
theorem F3 {i n:Nat} {l s:List Int} (p:s.Perm l) (h:s.Pairwise (·<=·)) (n1:l.Nodup) (r:∀ x∈l,x < n) (hi:i < n):s.filter (fun x=>decide ((i:Int) < x)) = pL i l (n - (i + 1)):=by
 refine nj ((strict h (p.nodup_iff.mpr n1)).filter _) (hJ _) fun x=>?_;rw [mem_filter,iF,p.mem_iff];simp only [decide_eq_true_eq];constructor
 ·rintro ⟨h1,h2⟩;have:=r x h1;exact ⟨h2,by omega,h1⟩
 ·rintro ⟨h1,h2,h3⟩;exact ⟨h3,h1⟩
theorem vf {i:Nat} {l:List Int}:∀ j,(pL i l j).length<=j
 | 0=>Nat.le_refl _
 | j + 1=>by
  rw [pL,length_append];have:=vf (i:=i) (l:=l) j;split <;> simp <;> omega
theorem vg {L:List (List Int)}:∀ k,(cO L k).length<=k * L.length
 | 0=>Nat.zero_le _
 | k + 1=>by
  rw [cO,length_append,length_map];have:=vg (L:=L) k;have:=vf (i:=k) (l:=L.getD k []) (L.length - (k + 1));rw [Nat.succ_mul]; omega
abbrev PR (H:Hp):List Addr->List (Int×Int)->Prop:=Paired fun a x=>H a = some (.tup [.int x.1,.int x.2])
theorem PR.lst {H:Hp} {t:Addr} {xs zs:List V} {ps:List Addr} {T:List (Int×Int)} (h:PR H ps T) (ht:H t = some (.lst xs)):PR (upd H t (.lst zs)) ps T:=
 Paired.wU h fun a x e=>by
  rw [ak (fun z=>by rw [z,ht] at e; cases e)]; exact e
theorem PR.same {H H':Hp} {ps:List Addr} {T:List (Int×Int)} (h:PR H ps T) (e:ah H H'):PR H' ps T:=Paired.wU h fun a x q=>e _ _ q
theorem PR.app {H:Hp}:∀ {ps qs:List Addr} {T U:List (Int×Int)},PR H ps T->PR H qs U->PR H (ps ++ qs) (T ++ U)
 | _,_,_,_,.nil,h=>h
 | _,_,_,_,.cons r t,h=>.cons r (PR.app t h)
theorem PR.len {H:Hp} {ps:List Addr} {T:List (Int×Int)} (h:PR H ps T):ps.length = T.length:=Paired.length h
structure Fl (L:List (List Int)) (s:Int) (ks ws:List Int):Prop where
 nd:ks.Nodup
 nw:ws.Nodup
 st:s∈ks
 re:∀ x∈ks,Reach L s x
 sub:∀ x∈ws,x∈ks
 cl:∀ (i:Nat) (l:List Int),(i:Int)∈ks->(i:Int)∉ws->L[i]? = some l->∀ x∈l,x∈ks
structure Fi (L:List (List Int)) (s:Int) (ks ws:List Int) (pl:Nat) (l:List Int) (k:Nat):Prop where
 nd:ks.Nodup
 nw:ws.Nodup
 st:s∈ks
 re:∀ x∈ks,Reach L s x
 sub:∀ x∈ws,x∈ks
 pk:(pl:Int)∈ks
 cl:∀ (i:Nat) (m:List Int),(i:Int)∈ks->(i:Int)∉ws->i≠pl->L[i]? = some m->∀ x∈m,x∈ks
 tk:∀ x∈l.take k,x∈ks
section
variable {L:List (List Int)} {s:Int} {ks ws:List Int} {pl k:Nat} {l:List Int} {x:Int}
theorem x5 {l:List Int} {x:Int}:(l ++ [x]).Nodup↔x∉l/\l.Nodup:=by
 rw [(perm_append_singleton x l).nodup_iff,nodup_cons]
theorem Fl.len (m:av L) (hs:0<=s/\s < L.length) {ks:List Int} (nd:ks.Nodup) (re:∀ x∈ks,Reach L s x):ks.length<=L.length:=bz nd fun x hx=>(re x hx).rg m hs
end
def Qs (L:List (List Int)) (fs:List Int):Prop:=∀ (i:Nat) (l:List Int),L[i]? = some l->(∃ x,x∈l/\x∈fs)->(i:Int)∈fs
structure Pa (L:List (List Int)) (fs:List Int) (k:Nat):Prop where
 nd:fs.Nodup
 st:(0:Int)∈fs
 re:∀ x∈fs,Reach L 0 x
 gr:Qs L fs\/k + 1<=fs.length
structure Pi (L:List (List Int)) (tM fs:List Int) (j:Nat):Prop where
 nd:fs.Nodup
 st:(0:Int)∈fs
 re:∀ x∈fs,Reach L 0 x
 kp:Qs L tM->fs = tM
 gr:tM.length < fs.length\/(fs = tM/\∀ (i:Nat) (l:List Int),i < j->L[i]? = some l->(∃ x,x∈l/\x∈fs)->(i:Int)∈fs)
section
variable {L:List (List Int)} {tM fs:List Int} {j k:Nat} {l:List Int}
theorem Pa.start:Pa L [0] 0:=⟨by simp,by simp,fun x h=>by rw [List.mem_singleton.mp h]; exact .here,.inr (by simp)⟩
theorem Pa.pass (h:Pa L fs k):Pi L fs fs 0:=⟨h.nd,h.st,h.re,fun _=>rfl,.inr ⟨rfl,fun i l h=>by omega⟩⟩
theorem Pi.done (h:Pi L tM fs L.length) (h0:Pa L tM k):Pa L fs (k + 1):=by
 refine ⟨h.nd,h.st,h.re,?_⟩;rcases h.gr with z | ⟨rfl,z⟩
 ·rcases h0.gr with c | c
  ·rw [h.kp c]; exact .inl c
  ·exact .inr (by omega)
 ·exact .inl fun i l e=>z i l (List.getElem?_eq_some_iff.mp e).1 e
theorem Pi.add (h:Pi L tM fs j) (m:av L) (hl:L[j]? = some l) (n:(j:Int)∉fs) {x:Int} (hx:x∈l) (hf:x∈fs):Pi L tM (fs ++ [(j:Int)]) (j + 1):=by
 have hr:=m.rg _ _ hl x hx;have rj:Reach L 0 (j:Int):=by
  have RP:x = (x.toNat:Int):=by omega
  obtain ⟨lx,RZ⟩:∃ lx,L[x.toNat]? = some lx:=⟨L[x.toNat]'(by omega),by simp⟩;exact .step (i:=x.toNat) (by rw [<- RP]; exact h.re x hf) RZ (m.sy _ _ hl x hx _ RP _ RZ)
 refine ⟨x5.mpr ⟨n,h.nd⟩,mem_append_left _ h.st,fun y hy=>?_,fun c=>?_,.inl ?_⟩
 ·rcases List.mem_append.mp hy with z | z
  ·exact h.re y z
  ·rw [List.mem_singleton.mp z]; exact rj
 ·have e:=h.kp c;subst e;exact absurd (c j l hl ⟨x,hx,hf⟩) n
 ·rw [length_append];rcases h.gr with z | ⟨z,_⟩
  ·simp; omega
  ·rw [z]; simp
theorem Pi.skip (h:Pi L tM fs j) (c:(j:Int)∈fs\/∀ l,L[j]? = some l->∀ x∈l,x∉fs):Pi L tM fs (j + 1):=by
 refine ⟨h.nd,h.st,h.re,h.kp,?_⟩;rcases h.gr with z | ⟨z1,z2⟩
 ·exact .inl z
 ·refine .inr ⟨z1,fun i l hi hl ⟨x,hx,hf⟩=>?_⟩;by_cases e:i = j
  ·subst e;rcases c with c | c
   ·exact c
   ·exact absurd hf (c l hl x hx)
  ·exact z2 i l (by omega) hl ⟨x,hx,hf⟩
theorem Pa.all (h:Pa L fs L.length) (m:av L) (hn:0 < L.length) (x:Int):x∈fs↔Reach L 0 x:=by
 have c:Qs L fs:=by
  rcases h.gr with z | z
  ·exact z
  ·have:=Fl.len m ⟨Int.le_refl 0,by omega⟩ h.nd h.re;omega
 refine ⟨h.re x,fun r=>?_⟩
 induction r with
 | here=>exact h.st
 | step r e hx ih=>
  rename_i i l y;have hr:=m.rg _ _ e y hx;have RO:y = (y.toNat:Int):=by omega
  obtain ⟨ly,RY⟩:∃ ly,L[y.toNat]? = some ly:=⟨L[y.toNat]'(by omega),by simp⟩;rw [RO];exact c y.toNat ly RY ⟨_,m.sy _ _ e y hx _ RO _ RY,ih⟩
end
theorem shaped_ints (l:List Int):SeqAt.shaped (bO l) = true:=by
 obtain ⟨h1,h2⟩:=lay_ints l;unfold SeqAt.shaped bO;simp [PyData.canLay0,PyData.depth,h1,h2]
theorem gD (l m:List Int):PyData.eqv (bO l) (bO m) = decide (l = m):=by unfold bO; rw [PyData.eqv]; exact oX l m
end Gm
end
section
namespace L2
open PySem PySem.Spec PySem.W PySem.Calls PyProof.Rows
section
variable {X:Cx} {K:Frag}
theorem wM (h:X.K = K):lX X (compareOp .In) (L5 K false):=h▸kR
theorem dM (h:X.K = K):MW X (DE K):=h▸au
theorem cE (h:X.K = K):fL X (.builtin "len") (fun xs H Q=>∃ x n,xs = [x]/\HK K x H n/\Q (.int n) H):=by subst h; exact aM
end
end L2
end
section
namespace L2
open PySem PySem.Spec PySem.W PySem.Calls PyProof.Rows HT
section
open PySem.SeqAt
open PySem.AutoSeq1 (wpAny_loadPart')
open PySem.MeetsSeq PySem.MeetsSeq2 PySem.MeetsSeq3
theorem mR {vs:List Value} {ns:List Int} (h:IntsAre vs ns) {i:Nat} (hi:i < ns.length):∃ t,vs[i]? = some (.int ns[i] t):=by
 induction h generalizing i with
 | nil=>simp at hi
 | cons a t r ih=>
  cases i with
  | zero=>exact ⟨t,rfl⟩
  | succ i=>
   obtain ⟨u,hu⟩:=ih (i:=i) (by simpa using hi);exact ⟨u,by simpa using hu⟩
theorem D6 (l b:Addr) (us vs:Array Value) (n1 n2:Nat) (d1 d2:Option Addr) (s1 s2:Array (Option Value)) (ns ms:List Int) (hi:IntsAre us.toList ns) (hj:IntsAre vs.toList ms) (k:Nat) :
  ∀ i:Nat,us.size - i = k->i<=ns.length->i<=ms.length->Meets (Builtin.«list.__eq__.loop» ⟨[.ref l,.ref b,rawInt i,rawInt 0],[]⟩)
   (fun A R s=>s.heap.get? l = some { cls:=.type "list",dict:=d1,data:=.seq us n1,slots:=s1 }/\
    s.heap.get? b = some { cls:=.type "list",dict:=d2,data:=.seq vs n2,slots:=s2 }/\R (.ok (.ret (.bool (lexLt (ns.drop i) (ms.drop i))))) s):=by
 have z1:us.size = ns.length:=by rw [<- hi.length]; simp
 have z2:vs.size = ms.length:=by rw [<- hj.length]; simp
 have stop:∀ i,i<=ns.length->i<=ms.length->¬ (i < ns.length/\i < ms.length)->lexLt (ns.drop i) (ms.drop i) = decide (us.size < vs.size):=fun i h1 h2 h3=>by
  by_cases q:i < ns.length
  ·have q2:ms.drop i = []:=drop_eq_nil_of_le (by omega);rw [q2,drop_eq_getElem_cons q,ox];exact (decide_eq_false (by omega)).symm
  ·have q2:ns.drop i = []:=drop_eq_nil_of_le (by omega);rw [q2];by_cases q3:i < ms.length
   ·rw [drop_eq_getElem_cons q3,ow];exact (decide_eq_true (by omega)).symm
   ·rw [drop_eq_nil_of_le (by omega),pV];exact (decide_eq_false (by omega)).symm
 have ends:∀ i,i<=ns.length->i<=ms.length->¬ (i < ns.length/\i < ms.length)->Meets (Builtin.«list.__eq__.loop» ⟨[.ref l,.ref b,rawInt i,rawInt 0],[]⟩)
   (fun A R s=>s.heap.get? l = some { cls:=.type "list",dict:=d1,data:=.seq us n1,slots:=s1 }/\
    s.heap.get? b = some { cls:=.type "list",dict:=d2,data:=.seq vs n2,slots:=s2 }/\R (.ok (.ret (.bool (lexLt (ns.drop i) (ms.drop i))))) s):=by
  intro i h1 h2 h3 prog w A R s h;have e:=stop i h1 h2 h3;obtain ⟨hp,g,d,tk,os⟩:=s; obtain ⟨hl,hb,h⟩:=h;rw [e] at h
  wp_walk using wpAny_loadPart' hb,wpAny_loadPart' hl
  by_cases q:i < us.size
  ·have x1:us[((i:Nat):Int).toNat]? = some us[i]:=by simp [q]
   have x2:vs[((i:Nat):Int).toNat]? = none:=by simp; omega
   rw [x1,x2]
   wp_walk using wpAny_loadPart' hb,wpAny_loadPart' hl
   exact h
  ·have x1:us[((i:Nat):Int).toNat]? = none:=by simp; omega
   rw [x1]
   wp_walk using wpAny_loadPart' hb,wpAny_loadPart' hl
   exact h
 induction k with
 | zero=>exact fun i hk h1 h2=>ends i h1 h2 (by omega)
 | succ k ih=>
  intro i hk h1 h2;by_cases AF:i < ms.length
  ·have Ik:i < ns.length:=by omega
   intro prog w A R s h;obtain ⟨hp,g,d,tk,os⟩:=s; obtain ⟨hl,hb,h⟩:=h;obtain ⟨t1,e1⟩:=mR hi Ik;obtain ⟨t2,e2⟩:=mR hj AF;have x1:us[((i:Nat):Int).toNat]? = some (.int ns[i] t1):=by simpa using e1
   have x2:vs[((i:Nat):Int).toNat]? = some (.int ms[i] t2):=by simpa using e2
   rw [drop_eq_getElem_cons Ik,drop_eq_getElem_cons AF,fi] at h
   wp_walk using wpAny_loadPart' hb,wpAny_loadPart' hl
   rw [x1,x2];obtain ⟨e,he,Ks⟩:=Cc A.in1 ⟨hp,g,d,tk,os⟩ ns[i] t1 ms[i] t2;refine wpAny_bind (he prog w _ _ ?_);have KA:((i:Int) + 1) = ((i + 1:Nat):Int):=by omega
   cases e with
   | true=>
    rw [if_pos (Ks.mp rfl)] at h
    wp_walk
    rw [KA];refine ⟨plainId_quiet plain_eq_loop _,codeAny_builtin entry_eq_loop ?_⟩;rw [Around.under_plainId plain_eq_loop _];exact ih (i + 1) (by omega) (by omega) (by omega) prog w A R _ ⟨hl,hb,h⟩
   | false=>
    rw [if_neg (fun q=>absurd (Ks.mpr q) Bool.false_ne_true)] at h
    wp_walk using wpAny_loadPart' hb,wpAny_loadPart' hl
    rw [x1,x2];have Vu:=A9 A.in1 ⟨hp,g,d,tk,os⟩ ns[i] t1 ms[i] t2 prog w
    wp_walk using Vu
    exact h
  ·exact ends i h1 h2 (by omega)
theorem jY (l b:Addr) (us vs:Array Value) (n1 n2:Nat) (d1 d2:Option Addr) (s1 s2:Array (Option Value)) (ns ms:List Int) (hi:IntsAre us.toList ns) (hj:IntsAre vs.toList ms) :
  Meets (Builtin.«list.__lt__» ⟨[.ref l,.ref b],[]⟩)
   (fun A R s=>s.heap.get? l = some { cls:=.type "list",dict:=d1,data:=.seq us n1,slots:=s1 }/\
    s.heap.get? b = some { cls:=.type "list",dict:=d2,data:=.seq vs n2,slots:=s2 }/\R (.ok (.ret (.bool (lexLt ns ms)))) s):=by
 intro prog w A R s h;obtain ⟨hp,g,d,tk,os⟩:=s; obtain ⟨hl,hb,h⟩:=h;have f3:=AutoSeq1.sub_list_list
 wp_walk using wpAny_loadPart' hb,wpAny_loadPart' hl
 refine ⟨plainId_quiet plain_eq_loop _,codeAny_builtin entry_eq_loop ?_⟩;rw [Around.under_plainId plain_eq_loop _];exact D6 l b us vs n1 n2 d1 d2 s1 s2 ns ms hi hj _ 0 rfl (Nat.zero_le _) (Nat.zero_le _) prog w A R _ ⟨hl,hb,h⟩
end
section
variable {prog:Program} {w:World} {A:Around} {E:Value->Shared->Prop} {s:Shared} {l b:Addr} {us vs:Array Value} {ns ms:List Int}
theorem BG {Q:Value->Shared->Prop} (hl:s.heap.IsList l us) (hb:s.heap.IsList b vs) (hi:IntsAre us.toList ns) (hj:IntsAre vs.toList ms) (hu:A.units < cLine) (h:Q (.bool (lexLt ns ms)) s) :
  wpAny (model prog w) A (compareOp .Lt (.ref l) (.ref b)) Q E s:=by
 obtain ⟨⟨c1,d1,a1,z1⟩,h1,k1,n1,q1⟩:=id hl;obtain ⟨⟨c2,d2,a2,z2⟩,h2,k2,n2,q2⟩:=id hb;dsimp only at k1 q1 k2 q2;subst k1 q1 k2 q2;exact richCompare_meets_room (op:=.Lt) ⟨_,h1,rfl⟩ ⟨_,h2,rfl⟩ PySem.F.slot_list_lt PySem.F.entry_list_lt (PySem.F.args_list_lt_2 _ _) (jY l b us vs n1 n2 d1 d2 z1 z2 ns ms hi hj)
  ⟨h1,h2,show Value.bool (lexLt ns ms)≠Value.notImplemented/\Q (.bool (lexLt ns ms)) s from ⟨nofun,h⟩⟩ hu
theorem uR {Q:Bool->Shared->Prop} (hl:s.heap.IsList l us) (hb:s.heap.IsList b vs) (hi:IntsAre us.toList ns) (hj:IntsAre vs.toList ms) (hu:A.units < cLine) (h:Q (lexLt ns ms) s) :
  wpAny (model prog w) A (oneLt' true (.ref l) (.ref b)) Q E s:=by
 obtain ⟨⟨c1,d1,a1,z1⟩,h1,k1,n1,q1⟩:=id hl;obtain ⟨⟨c2,d2,a2,z2⟩,h2,k2,n2,q2⟩:=id hb;dsimp only at k1 q1 k2 q2;subst k1 q1 k2 q2;rw [oneLt'_eq];simp only [if_true];refine wpAny_bind (wpAny_cRoomFor hu ?_);refine wpAny_bind (wpAny_callSpecialIfBound?_slot ⟨_,h1,rfl⟩ PySem.F.slot_list_lt (call_meets PySem.F.slot_list_lt ⟨_,h1,rfl⟩ PySem.F.entry_list_lt (PySem.F.args_list_lt_2 _ _) (jY l b us vs n1 n2 d1 d2 z1 z2 ns ms hi hj) ⟨h1,h2,?_⟩));exact wpAny_truthy_bool h
end
def T9 (K:Frag):R2:=fun x y H Q=>∃ (a b:Addr) (ns ms:List Int),x = .ref a/\y = .ref b/\aw K H a (ns.map V.int)/\aw K H b (ms.map V.int)/\Q (.bl (lexLt ns ms)) H
theorem mP:∀ a:List Int,lexLt a a = false
 | []=>rfl
 | x :: a=>by rw [fi,if_pos rfl]; exact mP a
theorem lex_trans:∀ {a b c:List Int},lexLt a b = true->lexLt b c = true->lexLt a c = true
 | [],[],_,h,_=>by cases h
 | [],_ :: _,[],_,h=>by cases h
 | [],_ :: _,_ :: _,_,_=>rfl
 | _ :: _,[],_,h,_=>by cases h
 | _ :: _,_ :: _,[],_,h=>by cases h
 | x :: a,y :: b,z :: c,h1,h2=>by
  rw [fi] at h1 h2 ⊢;by_cases e1:x = y
  ·subst e1;by_cases e2:x = z
   ·subst e2;rw [if_pos rfl] at h1 h2 ⊢;exact lex_trans h1 h2
   ·rw [if_neg e2] at h2 ⊢; exact h2
  ·rw [if_neg e1] at h1;have g1:x < y:=of_decide_eq_true h1;by_cases e2:y = z
   ·subst e2;rw [if_neg e1]; exact h1
   ·rw [if_neg e2] at h2;have g2:y < z:=of_decide_eq_true h2;rw [if_neg (by omega)];exact decide_eq_true (by omega)
theorem j6:∀ {a b:List Int},lexLt a b = false->lexLt b a = false->a = b
 | [],[],_,_=>rfl
 | [],_ :: _,h,_=>by cases h
 | _ :: _,[],_,h=>by cases h
 | x :: a,y :: b,h1,h2=>by
  rw [fi] at h1 h2;by_cases e:x = y
  ·subst e;rw [if_pos rfl] at h1 h2;rw [j6 h1 h2]
  ·rw [if_neg e] at h1;rw [if_neg (fun z=>e z.symm)] at h2;have g1:=of_decide_eq_false h1;have g2:=of_decide_eq_false h2;omega
theorem ve {a b:List Int} (h:lexLt a b = true):lexLt b a = false:=by
 cases q:lexLt b a with
 | false=>rfl
 | true=>have:=lex_trans h q; rw [mP] at this; cases this
def Le (a b:List Int):Prop:=lexLt b a = false
theorem Le.refl (a:List Int):Le a a:=mP a
theorem Le.trans {a b c:List Int} (h1:Le a b) (h2:Le b c):Le a c:=by
 unfold Le at *;cases q:lexLt c a with
 | false=>rfl
 | true=>
  by_cases e:lexLt a b = true
  ·have:=lex_trans q e; rw [h2] at this; cases this
  ·have e2:a = b:=j6 (by simpa using e) h1;subst e2;rw [h2] at q; cases q
theorem Le.of_lt {a b:List Int} (h:lexLt a b = true):Le a b:=ve h
theorem Le.Lu {a b:List Int} (h1:Le a b) (h2:Le b a):a = b:=j6 h2 h1
end L2
end
section
namespace L2
open PySem PySem.Spec PySem.W PySem.Calls PyProof.Rows
section
variable {cmp:Nat->Nat->(Bool->Shared->Prop)->Shared->Prop} {n:Nat} {f:Nat->List Int} {s:Shared}
def ud (cmp:Nat->Nat->(Bool->Shared->Prop)->Shared->Prop) (n:Nat) (f:Nat->List Int) (s:Shared):Prop:=∀ i j C,i < n->j < n->C (HT.lexLt (f i) (f j)) s->cmp i j C s
structure Arr (n:Nat) (p:Array Nat):Prop where
 size:p.size = n
 perm:p.Perm (List.toArray (List.range n))
def kf (f:Nat->List Int) (p:Array Nat) (i:Nat):List Int:=f (p.getD i 0)
theorem Arr.lt {p:Array Nat} (h:Arr n p) {i:Nat} (hi:i < n):p.getD i 0 < n:=by
 have e:p.getD i 0 = p[i]'(by rw [h.size]; exact hi):=by simp [Array.getD,h.size,hi]
 have m:p[i]'(by rw [h.size]; exact hi)∈p:=Array.getElem_mem _;have:=(h.perm.mem_iff).mp m;rw [e];simpa using this
theorem kf_at {p q:Array Nat} {i j:Nat} (h:p[i]? = q[j]?):kf f p i = kf f q j:=by
 unfold kf;rw [Array.getD_eq_getD_getElem?,Array.getD_eq_getD_getElem?,h]
theorem Arr.rev {p:Array Nat} (h:Arr n p) (i j:Nat):Arr n (kas_rev p i j):=⟨by unfold kas_rev; rw [mirror_size]; exact h.size,(mirror_perm _ _ _ _).trans h.perm⟩
theorem Arr.WB {p:Array Nat} (h:Arr n p) (i j:Nat):Arr n (bubble p i j):=⟨by rw [bubble_size]; exact h.size,(bubble_perm _ _ _).trans h.perm⟩
theorem sY {p:Array Nat} (h:Arr n p) {i j:Nat} (hj:j<=n) (k:Nat):kf f (kas_rev p i j) k = if i<=k/\k < j then kf f p (i + j - 1 - k) else kf f p k:=by
 have e:=getElem?_mirror_all (xs:=p) (i:=i) (j:=j) (by rw [h.size]; exact hj) k;by_cases q:i<=k/\k < j
 ·rw [if_pos q] at e ⊢; exact kf_at e
 ·rw [if_neg q] at e ⊢; exact kf_at e
def Up (f:Nat->List Int) (p:Array Nat) (m:Nat):Prop:=∀ i,i + 1 < m->Le (kf f p i) (kf f p (i + 1))
def Dn (f:Nat->List Int) (p:Array Nat) (m:Nat):Prop:=∀ i,i + 1 < m->Le (kf f p (i + 1)) (kf f p i)
theorem Up.le {p:Array Nat} {m:Nat} (h:Up f p m) {i j:Nat} (Ie:i<=j) (hj:j < m):Le (kf f p i) (kf f p j):=by
 induction j with
 | zero=>
      obtain rfl:i = 0:=by omega
      exact Le.refl _
 | succ j ih=>
  by_cases e:i = j + 1
  ·rw [e]; exact Le.refl _
  ·exact (ih (by omega) (by omega)).trans (h j hj)
theorem Dn.le {p:Array Nat} {m:Nat} (h:Dn f p m) {i j:Nat} (Ie:i<=j) (hj:j < m):Le (kf f p j) (kf f p i):=by
 induction j with
 | zero=>
      obtain rfl:i = 0:=by omega
      exact Le.refl _
 | succ j ih=>
  by_cases e:i = j + 1
  ·rw [e]; exact Le.refl _
  ·exact (h j hj).trans (ih (by omega) (by omega))
theorem xH (hc:ud cmp n f s) {p:Array Nat} (hp:Arr n p) {Q:Nat->Shared->Prop}:∀ (fu m:Nat),1<=m->m + fu<=n->Up f p m->(∀ m',m<=m'->m'<=m + fu->Up f p m'->(m' = m + fu\/HT.lexLt (kf f p m') (kf f p (m' - 1)) = true)->Q m' s)->(kas_asc p fu m).kasWp cmp Q s
 | 0,m,_,_,u,k=>k m (Nat.le_refl _) (Nat.le_refl _) u (.inl rfl)
 | fu + 1,m,h1,h2,u,k=>by
  refine hc _ _ _ (hp.lt (by omega)) (hp.lt (by omega)) ?_;show (if _ then _ else _:KasT Nat).kasWp cmp Q s;cases q:HT.lexLt (f (p.getD m 0)) (f (p.getD (m - 1) 0)) with
  | true=>rw [if_pos rfl]; exact k m (Nat.le_refl _) (by omega) u (.inr q)
  | false=>
   rw [if_neg (by decide)];refine xH hc hp fu (m + 1) (by omega) (by omega) (fun i hi=>?_) fun m' a1 a2 a3 a4=>k m' (by omega) (by omega) a3 (a4.imp (fun z=>by omega) id);by_cases e:i + 1 = m
   ·have:i = m - 1:=by omega
    rw [e,this]; exact q
   ·exact u i (by omega)
def Flt (f:Nat->List Int) (p:Array Nat) (m q:Nat):Prop:=∀ i,m - (q + 1)<=i->i < m->kf f p i = kf f p (m - 1)
theorem nI {p:Array Nat} (hp:Arr n p) {m q:Nat} (hm:m<=n) (hq:q + 1<=m) (h:Flt f p m q) (k:Nat):kf f (kas_rev p (m - (q + 1)) m) k = kf f p k:=by
 rw [sY hp hm];by_cases e:m - (q + 1)<=k/\k < m
 ·rw [if_pos e,h _ (by omega) (by omega),<- h k e.1 e.2]
 ·rw [if_neg e]
theorem mV (hc:ud cmp n f s) {Q:Array Nat×Nat×Nat->Shared->Prop}:∀ (fu:Nat) (p:Array Nat) (m q:Nat),Arr n p->1<=m->m + fu<=n->q + 1<=m->Dn f p m->Flt f p m q->
  (∀ p' m' q',Arr n p'->1<=m'->m'<=m + fu->q' + 1<=m'->Dn f p' m'->Flt f p' m' q'->Q (p',m',q') s)->(kas_desc fu p m q).kasWp cmp Q s
 | 0,p,m,q,hp,h1,_,hq,d,fl,k=>k p m q hp h1 (Nat.le_refl _) hq d fl
 | fu + 1,p,m,q,hp,h1,h2,hq,d,fl,k=>by
  refine hc _ _ _ (hp.lt (by omega)) (hp.lt (by omega)) ?_;show (if _ then _ else _:KasT _).kasWp cmp Q s;cases c:HT.lexLt (f (p.getD m 0)) (f (p.getD (m - 1) 0)) with
  | true=>
   rw [if_pos rfl];have d2:∀ p',(∀ j,kf f p' j = kf f p j)->Dn f p' (m + 1):=fun p' e i hi=>by
    rw [e,e];by_cases z:i + 1 = m
    ·have:i = m - 1:=by omega
     rw [z,this]; exact Le.of_lt c
    ·exact d i (by omega)
   have f2:∀ p',Flt f p' (m + 1) 0:=fun p' i a b=>by
    have:i = m:=by omega
    rw [this]; rfl
   by_cases z:q > 0
   ·rw [if_pos z];refine mV hc fu _ (m + 1) 0 (hp.rev _ _) (by omega) (by omega) (by omega) (d2 _ fun j=>nI hp (by omega) hq fl j) (f2 _) fun p' m' q' a1 a2 a3 a4 a5 a6=>k p' m' q' a1 a2 (by omega) a4 a5 a6
   ·rw [if_neg z];refine mV hc fu _ (m + 1) 0 hp (by omega) (by omega) (by omega) (d2 _ fun _=>rfl) (f2 _) fun p' m' q' a1 a2 a3 a4 a5 a6=>k p' m' q' a1 a2 (by omega) a4 a5 a6
  | false=>
   rw [if_neg (by decide)];refine hc _ _ _ (hp.lt (by omega)) (hp.lt (by omega)) ?_;show (if _ then _ else _:KasT _).kasWp cmp Q s;cases c2:HT.lexLt (f (p.getD (m - 1) 0)) (f (p.getD m 0)) with
   | true=>rw [if_pos rfl]; exact k p m q hp h1 (by omega) hq d fl
   | false=>
    rw [if_neg (by decide)];have e:kf f p m = kf f p (m - 1):=j6 c c2;refine mV hc fu p (m + 1) (q + 1) hp (by omega) (by omega) (by omega) (fun i hi=>?_) (fun i a b=>?_) fun p' m' q' a1 a2 a3 a4 a5 a6=>k p' m' q' a1 a2 (by omega) a4 a5 a6
    ·by_cases z:i + 1 = m
     ·have:i = m - 1:=by omega
      rw [z,this,e]; exact Le.refl _
     ·exact d i (by omega)
    ·show kf f p i = kf f p (m + 1 - 1);rw [Nat.add_sub_cancel];by_cases z:i = m
     ·rw [z]
     ·rw [fl i (by omega) (by omega),e]
theorem uk (hc:ud cmp n f s) {p:Array Nat} (hp:Arr n p) {m:Nat} (h1:1<=m) (h2:m<=n) (d:Dn f p m) {Q:Nat×Array Nat->Shared->Prop} (k:∀ m' p',Arr n p'->m'<=n->1<=m'->Up f p' m'->Q (m',p') s):(kas_tail3 m n p).kasWp cmp Q s:=by
 unfold kas_tail3;rw [KasT.kasWp_bind];refine xH hc (hp.rev 0 m) (n - m) m h1 (by omega) (fun i hi=>?_) fun m' a1 a2 a3 _=>k m' _ (hp.rev 0 m) (by omega) (by omega) a3;rw [sY hp h2,sY hp h2,if_pos (by omega),if_pos (by omega)];exact d.le (by omega) (by omega)
theorem lW (hc:ud cmp n f s) {p:Array Nat} (hp:Arr n p) {m:Nat} (h2:m + 1<=n) (h1:1<=m) (d:Dn f p (m + 1)) {Q:Nat×Array Nat->Shared->Prop} (k:∀ m' p',Arr n p'->m'<=n->1<=m'->Up f p' m'->Q (m',p') s):(kas_descPart m n p).kasWp cmp Q s:=by
 unfold kas_descPart;rw [KasT.kasWp_bind];refine mV hc (n - (m + 1)) p (m + 1) 0 hp (by omega) (by omega) (by omega) d (fun i a b=>?_) fun p' m' q' a1 a2 a3 a4 a5 a6=>?_
 ·have:i = m:=by omega
  rw [this]; rfl
 ·dsimp only;by_cases z:q' > 0
  ·rw [if_pos z];refine uk hc (a1.rev _ _) a2 (by omega) (fun i hi=>?_) k;rw [nI a1 (by omega) a4 a6,nI a1 (by omega) a4 a6];exact a5 i hi
  ·rw [if_neg z];exact uk hc a1 a2 (by omega) a5 k
theorem Co (hc:ud cmp n f s) {p:Array Nat} (hp:Arr n p) (h1:1<=n) {Q:Nat×Array Nat->Shared->Prop} (k:∀ m' p',Arr n p'->m'<=n->1<=m'->Up f p' m'->Q (m',p') s):(kas_count n p).kasWp cmp Q s:=by
 unfold kas_count;rw [KasT.kasWp_bind];refine xH hc hp (n - 1) 1 (Nat.le_refl _) (by omega) (fun i hi=>by omega) fun m a1 a2 a3 a4=>?_;by_cases z:m = n
 ·rw [if_pos (by simpa using z)];exact k m p hp (by omega) a1 a3
 ·rw [if_neg (by simpa using z)];have st:HT.lexLt (kf f p m) (kf f p (m - 1)) = true:=a4.resolve_left (by omega);by_cases y:m > 1
  ·rw [if_pos y];refine hc _ _ _ (hp.lt (by omega)) (hp.lt (by omega)) ?_;show (if _ then _ else _:KasT _).kasWp cmp Q s;cases c:HT.lexLt (f (p.getD 0 0)) (f (p.getD (m - 1) 0)) with
   | true=>rw [if_pos rfl]; exact k m p hp (by omega) a1 a3
   | false=>
    rw [if_neg (by decide)];have al:∀ i,i < m->kf f p i = kf f p (m - 1):=fun i hi=>Le.Lu (a3.le (by omega) (by omega)) (Le.trans (show Le (kf f p (m - 1)) (kf f p 0) from c) (a3.le (Nat.zero_le _) hi));have rv:∀ j,kf f (kas_rev p 0 m) j = kf f p j:=fun j=>by
     rw [sY hp (by omega)];by_cases e:0<=j/\j < m
     ·rw [if_pos e,al _ (by omega),<- al j e.2]
     ·rw [if_neg e]
    refine lW hc (hp.rev 0 m) (by omega) a1 (fun i hi=>?_) k;rw [rv,rv];by_cases e:i + 1 = m
    ·have:i = m - 1:=by omega
     rw [e,this]; exact Le.of_lt st
    ·rw [al i (by omega),al (i + 1) (by omega)]; exact Le.refl _
  ·rw [if_neg y];refine lW hc hp (by omega) a1 (fun i hi=>?_) k;have:i + 1 = m:=by omega
   have e2:i = m - 1:=by omega
   rw [this,e2]; exact Le.of_lt st
theorem nM (hc:ud cmp n f s) {p:Array Nat} (hp:Arr n p) {k:Nat} (hk:k < n) (u:Up f p k) {Q:Nat->Shared->Prop}:∀ (fu l r:Nat),r - l<=fu->l<=r->r<=k->(∀ i,i < l->Le (kf f p i) (kf f p k))->(∀ i,r<=i->i < k->Le (kf f p k) (kf f p i))->
  (∀ l',l'<=k->(∀ i,i < l'->Le (kf f p i) (kf f p k))->(∀ i,l'<=i->i < k->Le (kf f p k) (kf f p i))->Q l' s)->(kas_place p k fu l r).kasWp cmp Q s
 | 0,l,r,h1,h2,h3,h4,h5,q=>q l (by omega) h4 fun i a b=>h5 i (by omega) b
 | fu + 1,l,r,h1,h2,h3,h4,h5,q=>by
  unfold kas_place;by_cases z:l>=r
  ·rw [if_pos z];exact q l (by omega) h4 fun i a b=>h5 i (by omega) b
  ·rw [if_neg z];refine hc _ _ _ (hp.lt hk) (hp.lt (by omega)) ?_;show (if _ then _ else _:KasT _).kasWp cmp Q s;cases c:HT.lexLt (f (p.getD k 0)) (f (p.getD ((l + r) / 2) 0)) with
   | true=>
    rw [if_pos rfl];exact nM hc hp hk u fu l ((l + r) / 2) (by omega) (by omega) (by omega) h4 (fun i a b=>Le.trans (Le.of_lt c) (u.le a b)) q
   | false=>
    rw [if_neg (by decide)];exact nM hc hp hk u fu ((l + r) / 2 + 1) r (by omega) (by omega) h3 (fun i a=>Le.trans (u.le (by omega) (by omega)) (show Le (kf f p ((l + r) / 2)) (kf f p k) from c)) h5 q
theorem Cy (hc:ud cmp n f s) {Q:Array Nat->Shared->Prop}:∀ (fu:Nat) (p:Array Nat) (k:Nat),Arr n p->k + fu = n->Up f p k->(∀ p',Arr n p'->Up f p' n->Q p' s)->(kas_bin fu p k).kasWp cmp Q s
 | 0,p,k,hp,h1,u,q=>q p hp (by rw [<- h1]; exact u)
 | fu + 1,p,k,hp,h1,u,q=>by
  unfold kas_bin
  rw [KasT.kasWp_bind];refine nM hc hp (by omega) u k 0 k (by omega) (Nat.zero_le _) (Nat.le_refl _) (fun i h=>by omega) (fun i a b=>by omega) fun l hl lo hi=>?_;have ek:∀ j,kf f (bubble p k (k - l)) j = if j = l then kf f p k else if l < j/\j<=k then kf f p (j - 1) else kf f p j:=fun j=>by
   have e:=getElem?_bubble (xs:=p) (src:=k) (by rw [hp.size]; omega) (k - l) (by omega) j;have el:k - (k - l) = l:=by omega
   rw [el] at e;by_cases a:j = l
   ·rw [if_pos a] at e ⊢; exact kf_at e
   ·rw [if_neg a] at e ⊢;by_cases b:l < j/\j<=k
    ·rw [if_pos b] at e ⊢; exact kf_at e
    ·rw [if_neg b] at e ⊢; exact kf_at e
  refine Cy hc fu _ (k + 1) (hp.WB _ _) (by omega) (fun i AE=>?_) q;rw [ek,ek];by_cases a:i + 1 < l
  ·rw [if_neg (by omega),if_neg (by omega),if_neg (by omega),if_neg (by omega)];exact u i (by omega)
  ·by_cases b:i + 1 = l
   ·rw [if_neg (by omega),if_neg (by omega),if_pos b];exact lo i (by omega)
   ·by_cases c:i = l
    ·rw [if_pos c,if_neg (by omega),if_pos (by omega)];show Le (kf f p k) (kf f p (i + 1 - 1));rw [Nat.add_sub_cancel];exact hi i (by omega) (by omega)
    ·rw [if_neg c,if_pos (by omega),if_neg (by omega),if_pos (by omega)];have:i + 1 - 1 = (i - 1) + 1:=by omega
     rw [this];exact u (i - 1) (by omega)
theorem Di (hc:ud cmp n f s) (h1:1<=n) {Q:Array Nat->Shared->Prop} (q:∀ p,Arr n p->Up f p n->Q p s):(kas_sort n).kasWp cmp Q s:=by
 unfold kas_sort;rw [KasT.kasWp_bind];refine Co hc (p:=List.toArray (List.range n)) ⟨by simp,Array.Perm.refl _⟩ h1 fun m p hp a1 a2 u=>?_;dsimp only;by_cases z:m < n
 ·rw [if_pos z];have e:max m 1 = m:=by omega
  rw [e];exact Cy hc (n - m) p m hp (by omega) u q
 ·rw [if_neg z];have e:m = n:=by omega
  exact q p hp (e▸u)
end
theorem PZ (n:Nat):Arr n (List.toArray (List.range n)):=⟨by simp,Array.Perm.refl _⟩
def fR (h:Heap) (vs:List Value) (f:Nat->List Int):Prop:=∀ i,i < vs.length->∃ b us,vs[i]? = some (.ref b)/\h.IsList b us/\IntsAre us.toList (f i)
theorem fR.keep {h h':Heap} {vs:List Value} {f:Nat->List Int} (r:fR h vs f) (k:∀ (i:Nat) (b:Addr),vs[i]? = some (.ref b)->∀ o,h.get? b = some o->h'.get? b = some o):fR h' vs f:=fun i hi=>by
 obtain ⟨b,us,e,l,q⟩:=r i hi;exact ⟨b,us,e,l.at fun o z=>k i b e o z,q⟩
def fW (vs:List Value) (p:Array Nat):Array Value:=List.toArray (p.toList.map fun i=>vs.getD i Value.none)
theorem qO (vs:List Value):fW vs (List.toArray (List.range vs.length)) = vs.toArray:=by
 unfold fW
 congr 1
 apply ext_getElem?;intro i;rw [getElem?_map];by_cases h:i < vs.length
 ·simp [h]
 ·simp [h]
theorem xP:∀ l:List Value,(l.zip l).map (fun x=>x.snd) = l
 | []=>rfl
 | x :: l=>by rw [zip_cons_cons,map_cons,xP l]
def u9 (h:Heap) (a:Addr) (vs:List Value):Heap:=((h.update a (Obj.mapSeq fun _=>#[])).push (seqObj "tuple" vs.toArray 0)).push (seqObj "list" #[] 0)
theorem D0 {h:Heap} {a:Addr} {vs:List Value} {b:Addr} {o:Obj} (hb:b≠a) (e:h.get? b = some o):(u9 h a vs).get? b = some o:=by
 have l:=Heap.lt_size e;unfold u9;rw [Heap.get?_push_ne,Heap.get?_push_ne,Heap.get?_update_ne _ _ _ _ hb]
 ·exact e
 ·rw [Heap.size_update]; exact Nat.ne_of_lt l
 ·rw [size_push',Heap.size_update]; exact Nat.ne_of_lt (Nat.lt_succ_of_lt l)
section
variable {prog:Program} {w:World} {A:Around} {E:Value->Shared->Prop} {s:Shared} {vs:List Value} {f:Nat->List Int}
theorem EG (hr:fR s.heap vs f) (hu:A.units < cLine):ud (kas_cmp prog w A oneType' (pairsOf vs)) vs.length f s:=by
 intro i j C hi hj c;obtain ⟨b1,u1,e1,l1,q1⟩:=hr i hi;obtain ⟨b2,u2,e2,l2,q2⟩:=hr j hj;rw [<- kas_ask_eq];unfold kas_ask;have g1:vs.getD i Value.none = .ref b1:=by rw [getD_eq_getElem?_getD,e1]; rfl
 have g2:vs.getD j Value.none = .ref b2:=by rw [getD_eq_getElem?_getD,e2]; rfl
 rw [g1,g2,keyLt'_oneType];exact uR l1 l2 q1 q2 hu c
theorem Dj {a:Addr} {n:Nat} {P:PySem.Fin->Shared->Prop} (ho:s.heap.get? a = some (seqObj "list" vs.toArray n)) (ME:vs.length < 64) (hu:A.units < cLine) (hr:fR s.heap vs f) (iV:∀ (i:Nat) (b:Addr),vs[i]? = some (.ref b)->b≠a)
  (k:∀ p:Array Nat,Arr vs.length p->Up f p vs.length->P (.done (.ret .none)) { s with heap:=sortedHeap s.heap a vs (fW vs p) }) :
  wpAny (model prog w) A (Builtin.«list.sort» ⟨[.ref a],[]⟩) P E s:=by
 have GN:vs.length<=sizeLine:=by rw [sizeLine_eq]; omega
 obtain ⟨ep,Mr⟩:∃ ep,(s.heap.update a (Obj.mapSeq fun _=>#[])).get? a = some (seqObj "list" #[] ep):=⟨_,get?_update_seq ho (fun _=>#[])⟩;have Mq:(u9 s.heap a vs).get? a = some (seqObj "list" #[] ep):=Heap.get?_push_of_some _ (Heap.get?_push_of_some _ Mr);have r3:fR (u9 s.heap a vs) vs f:=hr.keep fun i b e o z=>D0 (iV i b e) z;rw [list_sort_plain];refine wpAny_bind (listItems_at ho rfl (wpAny_bind (listUpdate_at ho rfl (wpAny_bind (seqEpoch_at Mr rfl (wpAny_bind (wpAny_newTuple (wpAny_bind (wpAny_newList (wpAny_holding ?_) (Nat.zero_le _))) GN)))) (by rw [size_toArray]; exact GN) (Nat.zero_le _))));show wpAny (model prog w) A _ P E { s with heap:=u9 s.heap a vs };dsimp only;by_cases h2:vs.toArray.size < 2
 ·rw [if_pos h2,if_pos h2];refine wpAny_bind (wpAny_pure ?_);rw [StateT.run_pure];refine wpAny_bind (wpAny_pure (wpAny_bind (seqEpoch_at Mq rfl ?_)));have eo:(arrOf (SortSt.mk' general' (vs.toArray.zip vs.toArray) #[] 7 none)).map (·.2) = fW vs (List.toArray (List.range vs.length)):=by
   rw [qO];show (vs.toArray.zip vs.toArray).map (·.2) = vs.toArray;apply Array.ext';simp;exact xP vs
  dsimp only;rw [eo];refine wpAny_bind (listUpdate_at Mq rfl ?_ (Nat.zero_le _) (by rw [qO,size_toArray]; exact Nat.le_succ_of_le GN));simp only [bne_self_eq_false,Bool.false_eq_true,if_false];refine wpAny_pure (k _ (PZ _) fun i hi=>?_);rw [size_toArray] at h2;omega
 ·rw [if_neg h2,if_neg h2];have qX:2<=vs.length:=by rw [size_toArray] at h2; omega
  refine wpAny_bind (kas_kind (T:=.type "list") qX (fun v hv=>?_) rfl rfl ?_)
  ·obtain ⟨i,hi,rfl⟩:=List.mem_iff_getElem.mp hv;obtain ⟨b,us,e,l,q⟩:=r3 i hi;rw [getElem?_eq_getElem hi] at e;rw [Option.some.inj e];obtain ⟨o,z1,z2,z3⟩:=l;intro A' Q' E' s' kk qq;exact wpAny_typeOf (T:= "list") ⟨o,kk _ _ z1,z2⟩ qq
  ·have Wf:SortSt.mk' oneType' (vs.toArray.zip vs.toArray) #[] 7 none = kas_st oneType' (pairsOf vs) (List.toArray (List.range vs.length)):=by
    have e:=kas_range (pairsOf vs);rw [pairsOf_size] at e;unfold kas_st;rw [e]
    rfl
   have run:=kas_runs (prog:=prog) (w:=w) (A:=A) (κ:=oneType') (it:=pairsOf vs) (E:=E) (Q:=fun _ A2 s'=>s' = { s with heap:=u9 s.heap a vs }/\∃ p:Array Nat,Arr vs.length p/\Up f p vs.length/\arrOf A2 = p.map (kas_item (pairsOf vs))/\failedOf A2 = none)
    (G:=fun p s'=>s' = { s with heap:=u9 s.heap a vs }/\Arr vs.length p/\Up f p vs.length) qX ME (fun p' A2 s' a1 a2 a3 a4=>⟨a4.1,p',a4.2.1,a4.2.2,a2,a3⟩) (Di (EG (s:={ s with heap:=u9 s.heap a vs }) r3 hu) (by omega) fun p h1 h3=>⟨rfl,h1,h3⟩)
   rw [<- Wf] at run;refine wpAny_bind (wpAny_mono run ?_ fun _ _ e=>e);rintro ⟨⟨⟩,A2⟩ s' ⟨rfl,p,hp,G0,VX,hf⟩;dsimp only;have eo:(arrOf A2).map (·.2) = fW vs p:=by
    unfold fW;apply Array.toList_inj.mp;rw [VX,Array.map_map,Array.toList_map];refine map_congr_left fun i _=>?_;rw [Function.comp_apply,kas_item_eq]
   rw [eo];have zo:(fW vs p).size = vs.length:=by unfold fW; rw [size_toArray,length_map,Array.length_toList,hp.size]
   refine wpAny_bind (seqEpoch_at Mq rfl (wpAny_bind (listUpdate_at Mq rfl ?_ (Nat.zero_le _) (by rw [zo]; exact Nat.le_succ_of_le GN))));rw [hf];simp only [bne_self_eq_false,Bool.false_eq_true,if_false];exact wpAny_pure (k p hp G0)
theorem zr {l:Addr} {Q:Value->Shared->Prop} (hl:s.heap.IsList l vs.toArray) (ME:vs.length < 64) (hu:A.in1.in1.units < cLine) (hr:fR s.heap vs f)
  (k:∀ p:Array Nat,Arr vs.length p->Up f p vs.length->Q (.ref (s.heap.objs.size + 1)) { s with heap:=sortedAll s.heap vs (fW vs p) }) :
  wpAny (model prog w) A (call (.builtin "sorted") [.ref l]) Q E s:=by
 have GN:vs.length<=sizeLine:=by rw [sizeLine_eq]; omega
 refine Calls.call_function_entry kind_sorted plain_sorted entry_sorted (args_sorted1 _) ?_;unfold Builtin.«sorted»;refine wpAny_bind (m:=checkCount "sorted" 1 1 _) (wpAny_pure (wpAny_bind (collect_list hl (wpAny_bind (wpAny_newList ?_ GN)) GN)));generalize hh:(s.heap.push (seqObj "list" #[] 0)).update s.heap.objs.size (Obj.mapSeq (· ++ vs.toArray)) = h1;have z1:h1.objs.size = s.heap.objs.size + 1:=by rw [<- hh,Heap.size_update,size_push']
 have o1:(h1.push (seqObj "list" vs.toArray 0)).get? (s.heap.objs.size + 1) = some (seqObj "list" vs.toArray 0):=by rw [<- z1]; exact Heap.get?_push_size _ rfl
 have old:∀ b o,s.heap.get? b = some o->(h1.push (seqObj "list" vs.toArray 0)).get? b = some o:=fun b o q=>by
  have lt:=Heap.lt_size q;rw [Heap.get?_push_ne _ _ _ (by rw [z1]; exact Nat.ne_of_lt (Nat.lt_succ_of_lt lt)),<- hh,Heap.get?_update_ne _ _ _ _ (Nat.ne_of_lt lt),Heap.get?_push_ne _ _ _ (Nat.ne_of_lt lt)];exact q
 show wpAny _ _ _ _ _ { s with heap:=h1.push (seqObj "list" vs.toArray 0) };rw [z1];refine wpAny_bind (wpAny_holding (wpAny_call_entry slot_list_sort ⟨_,o1,rfl⟩ entry_list_sort (Dj (f:=f) o1 ME hu (hr.keep fun i b e o z=>old b o z) (fun i b e=>?_) fun p hp G0=>⟨_,rfl,?_⟩) (args_list_sort _)))
 ·obtain ⟨hi,_⟩:=List.getElem?_eq_some_iff.mp e;obtain ⟨b',us,e',⟨o,z,_⟩,_⟩:=hr i hi;rw [e] at e';cases e'
  exact Nat.ne_of_lt (Nat.lt_succ_of_lt (Heap.lt_size z))
 ·refine wpAny_pure ⟨_,rfl,?_⟩;have:=k p hp G0;unfold sortedAll at this;rw [hh] at this;exact this
end
section
variable {prog:Program} {w:World} {A:Around} {R:Result->Shared->Prop} {I:Addr} {fp wr:List Addr} {n:Nat} {P:Nat->Value->Prop} {St:Nat->Heap->Prop} {Kp:Heap->Prop} {bt:Nat->Nat->Bool} {S:Addr}
def FK (prog:Program) (w:World) (A:Around) (P:Nat->Value->Prop) (Kp:Heap->Prop) (bt:Nat->Nat->Bool):Prop:=
 ∀ (i j:Nat) (x y:Value) (t:Shared) (Q E:Value->Shared->Prop),P i x->P j y->Kp t.heap->Q (.bool (bt i j)) t->wpAny (model prog w) A (richCompare .Lt x y) Q E t
theorem xc (W:Walks prog w A.in1 I fp wr n P St) (hc:FK prog w A.in1 P Kp bt) (nf:S∉fp) (iZ:∀ h h',Kp h->(∀ b o,b∉wr->b≠S->h.get? b = some o->h'.get? b = some o)->Kp h') :
  ∀ (k j:Nat) (t:Shared) (x:Value) (c:Nat),n - (j + 1) = k->j + 1<=n->St (j + 1) t.heap->Kp t.heap->P (argBest bt j) x->t.heap.get? S = some { cls:=.type "list",dict:=none,data:=.seq #[x,x] c,slots:=#[] }->
  (∀ v h' tk,P (argBest bt (n - 1)) v->(∀ b o,b∉wr->b≠S->t.heap.get? b = some o->h'.get? b = some o)->R (.ok (.ret v)) { t with heap:=h',toks:=tk })->codeAny (model prog w) A (.builtin "min.loop" ⟨[.ref I,.none,.ref S],[]⟩) R t:=by
 have nw:S∉wr:=fun z=>nf (W.sub _ z);have nm:(toString "min" ++ toString ".loop" : String) = "min.loop":=by decide
 intro k
 induction k with
 | zero=>
  intro j t x c hk hj st kp px hS hR;have jn:j + 1 = n:=by omega
  refine codeAny_builtin F.entry_min_loop ?_;rw [Around.under_plainId F.plain_min_loop _];show wpAny _ A.in1 (seqItems? (.ref S) >>= _) _ _ t;refine wpAny_bind (wpAny_seqItems hS rfl ?_);show wpAny _ A.in1 (tryCatch (pyNext (.ref I)) _ >>= _) _ _ t;refine wpAny_bind (wpAny_tryCatch (W.done t _ _ (jn▸st) fun h' tk kk=>?_));have wm:=kk S _ nw hS;show wpAny _ A.in1 (updateSeq S (fun _=>#[]) >>= _) _ _ _;refine wpAny_bind (wpAny_updateSeq wm rfl (wpAny_bind (wpAny_letGo (wpAny_pure (hR x _ tk (by rw [<- jn]; exact px) fun b o b1 b2 e=>?_)))));rw [Heap.get?_update_other _ _ (Ne.symm b2)];exact kk b o b1 e
 | succ k ih=>
  intro j t x c hk hj st kp px hS hR;have lt:j + 1 < n:=by omega
  refine codeAny_builtin F.entry_min_loop ?_;rw [Around.under_plainId F.plain_min_loop _];show wpAny _ A.in1 (seqItems? (.ref S) >>= _) _ _ t;refine wpAny_bind (wpAny_seqItems hS rfl ?_);show wpAny _ A.in1 (tryCatch (pyNext (.ref I)) _ >>= _) _ _ t;refine wpAny_bind (wpAny_tryCatch (W.item (j + 1) t _ _ lt st fun v h' tk pv HR kk=>?_));have wm:=kk S _ nw hS;have JT:Kp h':=iZ _ _ kp fun b o b1 _ e=>kk b o b1 e;show wpAny _ A.in1 (tryCatch (holding [v,v] (richCompare .Lt v x >>= _)) _ >>= _) _ _ _;refine wpAny_bind (wpAny_tryCatch (wpAny_holding (wpAny_bind (hc (j + 1) (argBest bt j) v x _ _ _ pv px JT (wpAny_bind (wpAny_holding (wpAny_truthy_bool (wpAny_bind (wpAny_letGo (wpAny_pure ?_))))))))));cases hb:bt (j + 1) (argBest bt j) with
  | true=>
   simp only [if_true];refine wpAny_bind (wpAny_updateSeq wm rfl (wpAny_bind (wpAny_letGo ?_)));rw [nm];have up:∀ b o,b≠S->h'.get? b = some o->(h'.update S (Obj.mapSeq fun _=>#[v,v])).get? b = some o:=fun b o b2 e=>by rw [Heap.get?_update_other _ _ (Ne.symm b2)]; exact e
   refine wpAny_pure ⟨plainId_quiet F.plain_min_loop _,ih (j + 1) _ v _ (by omega) lt (W.frame _ _ _ HR fun b bf o e=>up b o (fun z=>nf (z▸bf)) e) (iZ _ _ JT fun b o _ b2 e=>up b o b2 e) (by simp only [argBest,hb,if_true]; exact pv) (Heap.get?_update_self _ wm rfl) fun v2 h2 Iw p2 k2=>?_⟩;exact hR v2 h2 Iw p2 fun b o b1 b2 e=>k2 b o b1 b2 (up b o b2 (kk b o b1 e))
  | false=>
   simp only [Bool.false_eq_true,if_false];refine wpAny_bind (wpAny_letGo ?_);rw [nm];exact wpAny_pure ⟨plainId_quiet F.plain_min_loop _,ih (j + 1) _ x c (by omega) lt HR JT (by simp only [argBest,hb,Bool.false_eq_true,if_false]; exact px) wm fun v2 h2 Iw p2 k2=>hR v2 h2 Iw p2 fun b o b1 b2 e=>k2 b o b1 b2 (kk b o b1 e)⟩
theorem vh (W:Walks prog w A.in1 I fp wr n P St) (hc:FK prog w A.in1 P Kp bt) (nf:S∉fp) (iZ:∀ h h',Kp h->(∀ b o,b∉wr->b≠S->h.get? b = some o->h'.get? b = some o)->Kp h') (n0:0 < n)
  {t:Shared} {c:Nat} (st:St 0 t.heap) (kp:Kp t.heap) (hS:t.heap.get? S = some { cls:=.type "list",dict:=none,data:=.seq #[] c,slots:=#[] })
  (hR:∀ v h' tk,P (argBest bt (n - 1)) v->(∀ b o,b∉wr->b≠S->t.heap.get? b = some o->h'.get? b = some o)->R (.ok (.ret v)) { t with heap:=h',toks:=tk }):codeAny (model prog w) A (.builtin "min.loop" ⟨[.ref I,.none,.ref S],[]⟩) R t:=by
 have nw:S∉wr:=fun z=>nf (W.sub _ z);have nm:(toString "min" ++ toString ".loop" : String) = "min.loop":=by decide
 refine codeAny_builtin F.entry_min_loop ?_;rw [Around.under_plainId F.plain_min_loop _];show wpAny _ A.in1 (seqItems? (.ref S) >>= _) _ _ t;refine wpAny_bind (wpAny_seqItems hS rfl ?_);show wpAny _ A.in1 (tryCatch (pyNext (.ref I)) _ >>= _) _ _ t;refine wpAny_bind (wpAny_tryCatch (W.item 0 t _ _ n0 st fun v h' tk pv HR kk=>?_));have wm:=kk S _ nw hS;show wpAny _ A.in1 (updateSeq S (fun _=>#[v,v]) >>= _) _ _ _;refine wpAny_bind (wpAny_updateSeq wm rfl ?_);rw [nm];have up:∀ b o,b≠S->h'.get? b = some o->(h'.update S (Obj.mapSeq fun _=>#[v,v])).get? b = some o:=fun b o b2 e=>by rw [Heap.get?_update_other _ _ (Ne.symm b2)]; exact e
 have JT:Kp h':=iZ _ _ kp fun b o b1 _ e=>kk b o b1 e;exact wpAny_pure ⟨plainId_quiet F.plain_min_loop _,xc W hc nf iZ _ 0 _ v _ rfl n0 (W.frame _ _ _ HR fun b bf o e=>up b o (fun z=>nf (z▸bf)) e) (iZ _ _ JT fun b o _ b2 e=>up b o b2 e) pv (Heap.get?_update_self _ wm rfl)
  fun v2 h2 Iw p2 k2=>hR v2 h2 Iw p2 fun b o b1 b2 e=>k2 b o b1 b2 (up b o b2 (kk b o b1 e))⟩
end
theorem yX (f:Nat->List Int):∀ k,argBest (fun i j=>HT.lexLt (f i) (f j)) k<=k/\∀ j,j<=k->Le (f (argBest (fun i j=>HT.lexLt (f i) (f j)) k)) (f j)
 | 0=>⟨Nat.le_refl _,fun j hj=>by
                    obtain rfl:j = 0:=by omega
                    exact Le.refl _⟩
 | k + 1=>by
  obtain ⟨h1,h2⟩:=yX f k;unfold argBest;cases q:HT.lexLt (f (k + 1)) (f (argBest (fun i j=>HT.lexLt (f i) (f j)) k)) with
  | true=>
   rw [if_pos rfl];refine ⟨Nat.le_refl _,fun j hj=>?_⟩;by_cases e:j = k + 1
   ·rw [e]; exact Le.refl _
   ·exact Le.trans (Le.of_lt q) (h2 j (by omega))
  | false=>
   rw [if_neg (by decide)];refine ⟨by omega,fun j hj=>?_⟩;by_cases e:j = k + 1
   ·rw [e]; exact q
   ·exact h2 j (by omega)
section
variable {prog:Program} {w:World} {A:Around} {E:Value->Shared->Prop} {s:Shared} {vs:List Value} {f:Nat->List Int} {l:Addr}
theorem BK {Q:Value->Shared->Prop} (hh:A.handled = none) (hl:s.heap.IsList l vs.toArray) (hu:A.in1.units < cLine) (hr:fR s.heap vs f) (h0:0 < vs.length)
  (k:∀ (i:Nat) (v:Value) h' tk,vs[i]? = some v->(∀ j,j < vs.length->Le (f i) (f j))->(∀ b o,s.heap.get? b = some o->h'.get? b = some o)->Q v { s with heap:=h',toks:=tk }) :
  wpAny (model prog w) A (call (.builtin "min") [.ref l]) Q E s:=by
 have nm:(toString "min" ++ toString ".loop" : String) = "min.loop":=by decide
 have ll:l < s.heap.objs.size:=by obtain ⟨_,e,_⟩:=id hl; exact Heap.lt_size e
 have low:∀ (i:Nat) (b:Addr),vs[i]? = some (.ref b)->b < s.heap.objs.size:=fun i b e=>by
  obtain ⟨b',us,e',⟨o,z,_⟩,_⟩:=hr i (List.getElem?_eq_some_iff.mp e).1;rw [e] at e';cases e'
  exact Heap.lt_size z
 refine call_function_tree F.kind_min F.plain_min F.entry_min (F.args_min1 _) ?_;show wpAny _ A.in1 (Builtin.Builtins.bindParams "min" ["key", "default"] 0 ⟨[],[]⟩ >>= _) _ _ s;refine wpAny_bind (wpAny_of_eq (show Builtin.Builtins.bindParams "min" ["key", "default"] 0 ⟨[],[]⟩ = pure [none,none] from rfl) (wpAny_bind (wpAny_pure (wpAny_bind (wpAny_pyIter_list hl (wpAny_bind (wpAny_newObj_type ?_)))))));rw [nm];generalize hg:s.heap.push { cls:=.type "list_iterator",data:=.fields #[.ref l,.int 0 0] } = g;have zg:g.objs.size = s.heap.objs.size + 1:=by rw [<- hg,Heap.size_push]
 have og:∀ b o,s.heap.get? b = some o->g.get? b = some o:=fun b o e=>hg▸Heap.get?_push_of_some _ e;have il:g.IsListIter s.heap.objs.size l 0:=hg▸⟨_,Heap.get?_push_size _ rfl,rfl,rfl⟩;refine wpAny_pure ⟨plainId_quiet F.plain_min_loop _,vh (Kp:=fun h=>fR h vs f) (bt:=fun i j=>HT.lexLt (f i) (f j)) (W:=Walks.list (A:=A.in1) hh s.heap.objs.size l (Nat.ne_of_lt ll) vs.toArray) (S:=g.objs.size)
  (fun i j x y t Q' E' px py kp q=>?_) (fun z=>?_) (fun h h' r kk=>?_) (by simpa using h0) ⟨il.at fun o e=>Heap.get?_push_of_some _ e,hl.at fun o e=>Heap.get?_push_of_some _ (og _ _ e)⟩ (hr.keep fun i b _ o e=>Heap.get?_push_of_some _ (og _ _ e)) (Heap.get?_push_size _ rfl) fun v h' tk pv kk=>?_⟩
 ·have Ri:vs[i]? = some x:=by simpa using px
  have Rh:vs[j]? = some y:=by simpa using py
  obtain ⟨b1,u1,e1,l1,q1⟩:=kp i (List.getElem?_eq_some_iff.mp Ri).1;obtain ⟨b2,u2,e2,l2,q2⟩:=kp j (List.getElem?_eq_some_iff.mp Rh).1;rw [Ri] at e1;rw [Rh] at e2;cases e1
  cases e2
  exact BG l1 l2 q1 q2 hu q
 ·have:g.objs.size = s.heap.objs.size\/g.objs.size = l:=by simpa using z
  rcases this with e | e
  ·exact absurd (zg.symm.trans e) (Nat.succ_ne_self _)
  ·exact absurd (zg.symm.trans e) (Nat.ne_of_gt (Nat.lt_succ_of_lt ll))
 ·refine r.keep fun i b e o z=>kk b o (fun y=>?_) (fun y=>?_) z
  ·have:b = s.heap.objs.size:=by simpa using y
   exact absurd (low i b e) (by rw [this]; exact Nat.lt_irrefl _)
  ·exact absurd (low i b e) (by rw [y,zg]; exact Nat.lt_asymm (Nat.lt_succ_self _))
 ·have Uo:vs[argBest (fun i j=>HT.lexLt (f i) (f j)) (vs.length - 1)]? = some v:=by simpa using pv
  have bl:=yX f (vs.length - 1);refine k _ v h' tk Uo (fun j hj=>bl.2 j (by omega)) fun b o e=>kk b o ?_ ?_ (Heap.get?_push_of_some _ (og b o e))
  ·intro z;have:b = s.heap.objs.size:=by simpa using z
   exact absurd (Heap.lt_size e) (by rw [this]; exact Nat.lt_irrefl _)
  ·intro z;exact absurd (Heap.lt_size e) (by rw [z,zg]; exact Nat.lt_asymm (Nat.lt_succ_self _))
end
theorem lh:∀ (l:List Int) (y:Int) (m:Nat) (h:m < l.length),m < l.idxOf y->l[m]≠y
 | [],_,m,h,_=>by simp at h
 | z :: l,y,m,h,hm=>by
  rw [idxOf_cons] at hm;by_cases e:z = y
  ·rw [e] at hm; simp at hm
  ·have e2:(z == y) = false:=beq_false_of_ne e;rw [e2] at hm;cases m with
   | zero=>exact e
   | succ m=>
    have h2:m < l.length:=by simpa using h
    have h3:m < l.idxOf y:=by simpa using hm
    exact lh l y m h2 h3
section
variable {X:Cx}
theorem x9 {pins:List (Addr×Obj)} {σ : St} {H:Hp} {s:Shared} (I:Inv X pins σ H s):∀ {as:List Addr} {L:List (List Int)} {aO:List Value},Vals (as.map V.ref) aO->as.length = L.length->(∀ (i:Nat) (a:Addr) (l:List Int),as[i]? = some a->L[i]? = some l->aw X.K H a (l.map V.int))->fR s.heap aO (fun i=>L.getD i []):=by
 intro as L aO rv hl hs i hi;have z:=rv.length;rw [length_map] at z;have ha:i < as.length:=by omega
 have hL:i < L.length:=by omega
 obtain ⟨u,hu,ru⟩:=rv.get (i:=i) (show (as.map V.ref)[i]? = some (V.ref as[i]) by simp [ha]);cases ru
 obtain ⟨rs,rr,rp,_⟩:=I.list (hs i as[i] L[i] (by simp [ha]) (by simp [hL]));refine ⟨as[i],rs.toArray,hu,rp.isList,?_⟩;have e:L.getD i [] = L[i]:=by simp [hL]
 dsimp only;rw [e];exact intsAre_of rr
def pick {α : Type} (d : α) (L:List α) (p:Array Nat):List α:=p.toList.map fun i=>L.getD i d
def Bj (K:Frag):List V->Hp->VK->Prop:=fun vs H Q=>∃ (a:Addr) (as:List Addr) (L:List (List Int)),vs = [.ref a]/\aw K H a (as.map V.ref)/\as.length = L.length/\(∀ (i:Nat) (b:Addr) (l:List Int),as[i]? = some b->L[i]? = some l->aw K H b (l.map V.int))/\as.length < 64/\
 ∀ (p:Array Nat) (q:Addr),Arr L.length p->Up (fun i=>L.getD i []) p L.length->H q = none->Q (.ref q) (upd H q (.lst ((pick 0 as p).map V.ref)))
theorem tS (hu:X.A.units + 64 < cLine):fL X (.builtin "sorted") (Bj X.K):=by
 intro pins s σ H xs us Q I r h;obtain ⟨a,as,L,rfl,ha,hl,hs,ME,q⟩:=h;obtain ⟨u,rfl,ru⟩:=vals1 r;cases ru
 obtain ⟨aO,rv,pl,hz⟩:=I.list ha;have z:=rv.length;rw [length_map] at z;refine zr (f:=fun i=>L.getD i []) pl.isList (by omega) (by simp only [Around.in1_units]; omega) (x9 I rv hl hs) fun p hp G0=>?_;obtain ⟨ep,k1⟩:=sortedAll_at s.heap aO (fW aO p);have G4:Arr L.length p:=by rw [<- hl,z]; exact hp
 have CL:((pick 0 as p).map V.ref).length<=sizeLine:=by unfold pick; rw [length_map,length_map,Array.length_toList,hp.size,PySem.sizeLine_eq]; omega
 have TY:Vals ((pick 0 as p).map V.ref) (fW aO p).toList:=by
  have go:∀ l:List Nat,(∀ i∈l,i < aO.length)->Vals ((l.map fun i=>as.getD i 0).map V.ref) (l.map fun i=>aO.getD i Value.none):=by
   intro l
   induction l with
   | nil=>intro _; exact .nil
   | cons i l ih=>
    intro h;refine .cons ?_ (ih fun j hj=>h j (mem_cons_of_mem _ hj));have hi:=h i mem_cons_self;have AE:i < as.length:=by omega
    obtain ⟨u,hu,ru⟩:=rv.get (i:=i) (show (as.map V.ref)[i]? = some (V.ref as[i]) by simp [AE]);have e1:as.getD i 0 = as[i]:=by simp [AE]
    have e2:aO.getD i Value.none = u:=by rw [getD_eq_getElem?_getD,hu]; rfl
    dsimp only;rw [e1,e2];exact ru
  refine go _ fun i hi=>?_;have:=(hp.perm.mem_iff).mp (Array.mem_toList_iff.mp hi);simpa using this
 have new:bB X.prog X.w (upd H (s.heap.objs.size + 1) (.lst ((pick 0 as p).map V.ref))) (sortedAll s.heap aO (fW aO p)) (s.heap.objs.size + 1) (.lst ((pick 0 as p).map V.ref)):=⟨CL,(fW aO p).toList,ep,TY,by simpa [seqObj] using k1⟩;exact ⟨.ref (s.heap.objs.size + 1),_,I.laid (t':=s.toks) (fun b o e=>sortedAll_old e) (Nat.le_succ _) new,rfl,q p _ G4 (by rw [<- hl,z]; exact G0) (I.bF.fresh (Nat.le_succ _))⟩
def Js (K:Frag):List V->Hp->VK->Prop:=fun vs H Q=>∃ (a:Addr) (as:List Addr) (L:List (List Int)),vs = [.ref a]/\aw K H a (as.map V.ref)/\as.length = L.length/\(∀ (i:Nat) (b:Addr) (l:List Int),as[i]? = some b->L[i]? = some l->aw K H b (l.map V.int))/\0 < as.length/\
 ∀ (i:Nat) (b:Addr) (l:List Int),as[i]? = some b->L[i]? = some l->(∀ m∈L,Le l m)->Q (.ref b) H
theorem An (hc:X.calm = true) (hu:X.A.units + 64 < cLine):fL X (.builtin "min") (Js X.K):=by
 intro pins s σ H xs us Q I r h;obtain ⟨a,as,L,rfl,ha,hl,hs,h0,q⟩:=h;obtain ⟨u,rfl,ru⟩:=vals1 r;cases ru
 obtain ⟨aO,rv,pl,hz⟩:=I.list ha;have z:=rv.length;rw [length_map] at z;refine BK (f:=fun i=>L.getD i []) (I.ok.hd hc) pl.isList (by simp only [Around.in1_units]; omega) (x9 I rv hl hs) (by omega) fun i v h' tk hv hle kk=>?_;have hi:i < aO.length:=(List.getElem?_eq_some_iff.mp hv).1;have AE:i < as.length:=by omega
 have Fu:i < L.length:=by omega
 obtain ⟨u,hu,ru⟩:=rv.get (i:=i) (show (as.map V.ref)[i]? = some (V.ref as[i]) by simp [AE]);rw [hv] at hu;cases hu
 cases ru
 refine ⟨.ref as[i],H,I.kept kk,rfl,q i as[i] L[i] (by simp [AE]) (by simp [Fu]) fun m hm=>?_⟩;obtain ⟨j,hj,rfl⟩:=List.mem_iff_getElem.mp hm;have:=hle j (by omega);have e1:L.getD i [] = L[i]:=by simp [Fu]
 have e2:L.getD j [] = L[j]:=by simp [hj]
 rw [e1,e2] at this;exact this
def Jt (K:Frag):List V->Hp->VK->Prop:=fun vs H Q=>∃ (a:Addr) (ns:List Int),vs = [.ref a]/\aw K H a (ns.map V.int)/\ns≠[]/\∀ m,m∈ns->(∀ x∈ns,m<=x)->Q (.int m) H
theorem Ao (hc:X.calm = true):fL X (.builtin "min") (Jt X.K):=by
 intro pins s σ H xs us Q I r h;obtain ⟨a,ns,rfl,ha,h0,q⟩:=h;obtain ⟨u,rfl,ru⟩:=vals1 r;cases ru
 obtain ⟨aO,rv,pl,hz⟩:=I.list ha;have hi:IntsAre aO ns:=intsAre_of rv;obtain ⟨xs,e⟩:=hi.allInts.items;have CP:ns = xs.toList.map (·.1):=by rw [<- hi.numsOf,<- nums_intItems,<- e]
 have hl:=pl.isList;rw [e] at hl;have h1:0 < xs.size:=by
  have:=List.length_pos_iff.mpr h0;rw [CP,length_map,Array.length_toList] at this;exact this
 refine min_intList (I.ok.hd hc) hl h1 fun v h' tk hv kk=>?_;obtain ⟨t,rfl⟩:=intItems_at hv;obtain ⟨g1,g2⟩:=argBest_lt (numAt xs) (xs.size - 1);refine ⟨.int _,H,I.kept kk,⟨t,rfl⟩,q _ ?_ fun x hx=>?_⟩
 ·rw [CP,numAt_eq]; exact getD_mem (by rw [length_map,Array.length_toList]; omega)
 ·rw [CP] at hx;obtain ⟨j,hj,rfl⟩:=mem_getD hx;rw [length_map,Array.length_toList] at hj;rw [<- numAt_eq];exact g2 j (by omega)
def T4 (K:Frag):List V->Hp->VK->Prop:=fun vs H Q=>∃ (a:Addr) (ns:List Int),vs = [.ref a]/\aw K H a (ns.map V.int)/\ns.length<=1000/\(∀ x∈ns,0<=x/\x<=100000)/\Q (.int ns.sum) H
def Gp (K:Frag):V->List V->Hp->VK->Prop:=fun x vs H Q=>∃ (l:Addr) (ns:List Int) (y:Int),x = .ref l/\vs = [.int y]/\H l = some (.lst (ns.map V.int))/\y∈ns/\Q (.int (ns.idxOf y:Nat)) H
theorem ff:HJ X "list.index" (Gp X.K):=by
 intro pins s σ H x vs v us Q I rx rv h;obtain ⟨l,ns,y,rfl,rfl,hH,hy,q⟩:=h;cases rx
 obtain ⟨u,rfl,t,rfl⟩:=rv.one;obtain ⟨z,aO,n,r,hl,e⟩:=I.ot hH;have hi:IntsAre aO ns:=intsAre_of r;have zl:=hi.length;have V0:=kX;have hj:ns.idxOf y < ns.length:=idxOf_lt_length_of_mem hy;rw [length_map] at z;let ev:Value->Bool:=fun v=>match v with | .int i _=>i == y | _=>false
 have at_:∀ m (hm:m < ns.length),∃ t,aO[m]? = some (.int ns[m] t):=fun m hm=>mR hi hm;refine call_meets F.slot_list_index ⟨_,e,rfl⟩ F.entry_list_index (F.args_list_index_2 _ _) (SeqAt.list_indexAt l aO.toArray n none #[] (.int y t) ev (ns.idxOf y) (by rw [size_toArray]; omega) (by omega) ?_ ?_) ⟨e,?_,?_⟩
 ·obtain ⟨t1,e1⟩:=at_ _ hj;have:aO.toArray[ns.idxOf y]'(by rw [size_toArray]; omega) = .int ns[ns.idxOf y] t1:=by
   have:=(List.getElem?_eq_some_iff.mp e1).2;simpa using this
  rw [this];show (ns[ns.idxOf y] == y) = true;rw [getElem_idxOf hj];simp
 ·intro m hm ef;obtain ⟨t1,e1⟩:=at_ m (by omega);have:aO.toArray[m] = .int (ns[m]'(by omega)) t1:=by
   have:=(List.getElem?_eq_some_iff.mp e1).2;simpa using this
  rw [this];show (ns[m]'(by omega) == y) = false;exact beq_false_of_ne (lh ns y m (by omega) ef)
 ·intro w hw;have Oz:w∈aO:=by simpa using hw
  obtain ⟨m,hm,rfl⟩:=List.mem_iff_getElem.mp Oz;obtain ⟨t1,e1⟩:=at_ m (by omega);rw [(List.getElem?_eq_some_iff.mp e1).2];exact SeqAt.EqAt.int_int _ _ _ _
 ·exact ⟨.int (ns.idxOf y:Nat),H,I.tok _,⟨_,rfl⟩,q⟩
end
section
variable {X:Cx} {K:Frag}
theorem eR (h:X.K = K):Qf X (sE K):=h▸dA
end
end L2
end
section
namespace Gm
open PySem L2
def cy (r:List Int) (j:Nat):Int:=r.getD (j % r.length) 0
theorem iL {r:List Int} {i j:Nat} (h:i % r.length = j % r.length):cy r i = cy r j:=by unfold cy; rw [h]
theorem gO {r:List Int} {j:Nat} (h:j < r.length):cy r j = r[j]:=by unfold cy; rw [Nat.mod_eq_of_lt h]; simp [h]
theorem oZ {r:List Int} {j:Nat} (h:0 < r.length):cy r j∈r:=by
 have hm:=Nat.mod_lt j h;have:cy r j = r[j % r.length]:=by unfold cy; simp [hm]
 rw [this]; exact getElem_mem _
theorem cQ {r:List Int} {i:Int} {j:Nat} (h1 : -(r.length:Int)<=i) (h2:i < r.length) (e:(j:Int) = i\/(j:Int) = i + r.length):gT (r.map V.int) i = some (V.int (cy r j)):=by
 unfold gT AA;rw [length_map];by_cases h0:0<=i
 ·rw [if_pos h0,if_pos h2];have hi:i.toNat < r.length:=by omega
  have em:j % r.length = i.toNat:=by
   rcases e with e | e
   ·rw [Nat.mod_eq_of_lt (by omega)]; omega
   ·have:j = i.toNat + r.length:=by omega
    rw [this,Nat.add_mod_right,Nat.mod_eq_of_lt hi]
  show (r.map V.int)[i.toNat]? = _;unfold cy;rw [em];simp [hi]
 ·rw [if_neg h0,if_pos h1];have hj:(i + (r.length:Int)).toNat = j:=by omega
  have hl:j < r.length:=by omega
  show (r.map V.int)[(i + (r.length:Int)).toNat]? = _;rw [hj,gO hl];simp [hl]
theorem Cm {r q:List Int} (hl:r.length = q.length) (h:∀ j,cy r j = cy q j):r = q:=by
 refine ext_getElem hl fun i h1 h2=>?_;have:=h i;rw [gO h1,gO h2] at this;exact this
def bU (r:List Int) (k:Nat):List Int:=r.drop k ++ r.take k
theorem cK {r:List Int} {k:Nat} (h:k<=r.length):(bU r k).length = r.length:=by unfold bU; simp; omega
theorem qg {a b n:Nat} (ha:a < n) (hb:b < n):(a + b) % n = if a + b < n then a + b else a + b - n:=by
 by_cases h:a + b < n
 ·rw [if_pos h,Nat.mod_eq_of_lt h]
 ·rw [if_neg h,Nat.mod_eq_sub_mod (by omega),Nat.mod_eq_of_lt (by omega)]
theorem gG {r:List Int} {k:Nat} (h:k < r.length) (j:Nat):cy (bU r k) j = cy r (j + k):=by
 have hm:=Nat.mod_lt j (show 0 < r.length by omega);have e:(j + k) % r.length = if j % r.length + k < r.length then j % r.length + k else j % r.length + k - r.length:=by
  rw [<- qg hm h,Nat.mod_add_mod]
 unfold cy;rw [cK (by omega),e];unfold bU;rw [getD_eq_getElem?_getD,getD_eq_getElem?_getD]
 congr 1
 by_cases c:j % r.length + k < r.length
 ·rw [if_pos c,getElem?_append_left (by rw [length_drop]; omega),getElem?_drop,Nat.add_comm]
 ·rw [if_neg c,getElem?_append_right (by rw [length_drop]; omega),length_drop,getElem?_take,if_pos (by omega)]
  congr 1
  omega
theorem mF {r:List Int} {k i:Nat} (hk:k < r.length) (hi:i < r.length):bU (bU r k) i = bU r ((i + k) % r.length):=by
 have hl:(bU r k).length = r.length:=cK (by omega);have hm:=Nat.mod_lt (i + k) (show 0 < r.length by omega);refine Cm (by rw [cK (by rw [hl]; omega),hl,cK (by omega)]) fun j=>?_;rw [gG (by rw [hl]; exact hi),gG hk,gG hm];refine iL ?_;rw [Nat.add_assoc,Nat.add_mod_mod]
abbrev aq:=Int×Int
def rowOf (L:List (List Int)) (a:Int):List Int:=L.getD a.toNat []
def pre (l:List Int) (x:Int):Int:=cy l (l.idxOf x + l.length - 1)
structure Dt (L:List (List Int)) (d:aq):Prop where
 lo:0<=d.1
 hi:d.1 < L.length
 mem:d.2∈rowOf L d.1
def nx (L:List (List Int)) (d:aq):aq:=(d.2,pre (rowOf L d.2) d.1)
theorem ay {L:List (List Int)} {a:Int} (h0:0<=a) (h1:a < L.length):L[a.toNat]? = some (rowOf L a):=by
 unfold rowOf;have:a.toNat < L.length:=by omega
 simp [this]
theorem DG {l:List Int} {x:Int} (h:x∈l):pre l x∈l:=oZ (length_pos_of_mem h)
theorem md {i n:Nat} (h:i < n):(i + n - 1) % n = if i = 0 then n - 1 else i - 1:=by
 by_cases e:i = 0
 ·rw [if_pos e,e,Nat.zero_add,Nat.mod_eq_of_lt (by omega)]
 ·rw [if_neg e];have:i + n - 1 = (i - 1) + n:=by omega
  rw [this,Nat.add_mod_right,Nat.mod_eq_of_lt (by omega)]
theorem DH {l:List Int} {x y:Int} (n:l.Nodup) (hx:x∈l) (hy:y∈l) (h:pre l x = pre l y):x = y:=by
 have ix:=idxOf_lt_length_of_mem hx;have iy:=idxOf_lt_length_of_mem hy;have p0:0 < l.length:=by omega
 unfold pre cy at h;have mx:=Nat.mod_lt (l.idxOf x + l.length - 1) p0;have my:=Nat.mod_lt (l.idxOf y + l.length - 1) p0;have e1:l.getD ((l.idxOf x + l.length - 1) % l.length) 0 = l[(l.idxOf x + l.length - 1) % l.length]:=by simp [mx]
 have e2:l.getD ((l.idxOf y + l.length - 1) % l.length) 0 = l[(l.idxOf y + l.length - 1) % l.length]:=by simp [my]
 rw [e1,e2] at h;have e:=(getElem_inj n).mp h;rw [md ix,md iy] at e;have ei:l.idxOf x = l.idxOf y:=by split at e <;> split at e <;> omega
 have g1:=getElem_idxOf ix;have g2:=getElem_idxOf iy;rw [<- g1,<- g2]
 congr 1
theorem y8 {l:List Int} {x:Int} (h:x∈l):gT (l.map V.int) ((l.idxOf x:Int) - 1) = some (V.int (pre l x)):=by
 have ix:=idxOf_lt_length_of_mem h;exact cQ (by omega) (by omega) (.inr (by omega))
section
variable {L:List (List Int)} {d e:aq}
theorem Dt.back (h:Dt L d) (m:av L):0<=d.2/\d.2 < L.length/\d.2≠d.1/\d.1∈rowOf L d.2:=by
 have r:=ay h.lo h.hi;have g:=m.rg _ _ r _ h.mem;have e1:((d.1.toNat:Nat):Int) = d.1:=Int.toNat_of_nonneg h.lo;refine ⟨g.1,g.2.1,by rw [e1] at g; exact g.2.2,?_⟩;have:=m.sy _ _ r _ h.mem d.2.toNat (by omega) _ (ay g.1 g.2.1);rwa [e1] at this
theorem Dt.nx (h:Dt L d) (m:av L):Dt L (nx L d):=by
 obtain ⟨a,b,c,f⟩:=h.back m;exact ⟨a,b,DG f⟩
theorem dH (m:av L) (h1:Dt L d) (h2:Dt L e) (h:Gm.nx L d = Gm.nx L e):d = e:=by
 obtain ⟨a,b,c,f⟩:=h1.back m;obtain ⟨a',b',c',f'⟩:=h2.back m;unfold Gm.nx at h;have e2:d.2 = e.2:=congrArg Prod.fst h;have e3:pre (rowOf L d.2) d.1 = pre (rowOf L e.2) e.1:=congrArg Prod.snd h;rw [<- e2] at e3 f';exact Prod.ext (DH (m.nd _ _ (ay a b)) f f' e3) e2
def ck (L:List (List Int)):Nat->List aq
 | 0=>[]
 | k + 1=>ck L k ++ (rowOf L k).map fun x=>((k:Int),x)
theorem iU:∀ {k:Nat},d∈ck L k↔0<=d.1/\d.1 < k/\d.2∈rowOf L d.1
 | 0=>by simp only [ck,not_mem_nil,false_iff]; intro h; omega
 | k + 1=>by
  rw [ck,mem_append,iU,mem_map];constructor
  ·rintro (⟨h1,h2,h3⟩ | ⟨x,hx,rfl⟩)
   ·exact ⟨h1,by omega,h3⟩
   ·exact ⟨by simp,by simp; omega,hx⟩
  ·rintro ⟨h1,h2,h3⟩;by_cases e:d.1 = k
   ·right;rw [e] at h3;exact ⟨d.2,h3,Prod.ext e.symm rfl⟩
   ·left; exact ⟨h1,by omega,h3⟩
theorem bS (m:av L):∀ {k:Nat},k<=L.length->(ck L k).Nodup
 | 0,_=>.nil
 | k + 1,h=>by
  rw [ck,nodup_append];refine ⟨bS m (by omega),?_,fun a ha b hb z=>?_⟩
  ·have n:=m.nd _ _ (ay (L:=L) (a:=(k:Int)) (by omega) (by omega));exact List.Pairwise.map _ (fun x y mr z=>mr (congrArg Prod.snd z)) n
  ·have:=(iU.mp ha).2.1;obtain ⟨x,_,rfl⟩:=List.mem_map.mp hb;rw [z] at this;simp at this
theorem Dt.all (h:Dt L d):d∈ck L L.length:=iU.mpr ⟨h.lo,h.hi,h.mem⟩
theorem Dt.of (h:d∈ck L L.length):Dt L d:=by have:=iU.mp h; exact ⟨this.1,this.2.1,this.2.2⟩
def it (L:List (List Int)) (d:aq):Nat->aq
 | 0=>d
 | k + 1=>Gm.nx L (it L d k)
theorem lP (m:av L) (h:Dt L d):∀ k,Dt L (it L d k)
 | 0=>h
 | k + 1=>(lP m h k).nx m
theorem oF (i:Nat):∀ k,it L d (i + k) = it L (it L d i) k
 | 0=>rfl
 | k + 1=>by show Gm.nx L (it L d (i + k)) = Gm.nx L (it L (it L d i) k); rw [oF i k]
theorem yD (m:av L) (h:Dt L d) {k:Nat}:∀ i,it L d i = it L d (i + k)->it L d k = d
 | 0,e=>by rw [Nat.zero_add] at e; exact e.symm
 | i + 1,e=>by
  rw [Nat.add_right_comm] at e;exact yD m h i (dH m (lP m h _) (lP m h _) e)
def iO (L:List (List Int)) (d:aq) (k:Nat):Prop:=∀ i,0 < i->i < k->it L d i≠d
def tr (L:List (List Int)) (d:aq) (k:Nat):List aq:=(List.range k).map (it L d)
theorem jE (m:av L) (h:Dt L d) {k:Nat} (n:iO L d k):(tr L d k).Nodup:=by
 unfold tr;refine List.Pairwise.map _ (R:=fun a b=>a < b/\a < k/\b < k) (fun a b MA z=>?_) ?_
 ·obtain ⟨j,rfl⟩:∃ j,b = a + j:=⟨b - a,by omega⟩;exact n j (by omega) (by omega) (yD m h a z)
 ·have:=pairwise_lt_range (n:=k);refine List.Pairwise.imp_of_mem (fun ha hb MA=>⟨MA,List.mem_range.mp ha,List.mem_range.mp hb⟩) this
theorem oj (m:av L) (h:Dt L d) {k:Nat} (n:iO L d k):k<=(ck L L.length).length:=by
 have:=dJ (jE m h n) (r:=ck L L.length) fun x hx=>by
  obtain ⟨i,_,rfl⟩:=List.mem_map.mp hx;exact (lP m h i).all
 simpa [tr] using this
def dj (r:List Int) (j:Nat):aq:=(cy r j,cy r (j + 1))
structure Good (L:List (List Int)) (r:List Int):Prop where
 two:2<=r.length
 dt:∀ j,Dt L (dj r j)
 st:∀ j,Gm.nx L (dj r j) = dj r (j + 1)
def sh (s:Nat) (r:List Int):List aq:=(List.range r.length).map fun j=>dj r (j + s)
theorem ft {r:List Int} {i j:Nat} (h:i % r.length = j % r.length):dj r i = dj r j:=by
 unfold dj;rw [iL h,iL (show (i + 1) % r.length = (j + 1) % r.length by rw [Nat.add_mod,h,<- Nat.add_mod])]
theorem Dl (r:List Int) (s:Nat):(sh (s + 1) r).Perm (sh s r):=by
 unfold sh;cases hn:r.length with
 | zero=>exact List.Perm.refl _
 | succ n=>
  have e1:(List.range (n + 1)).map (fun j=>dj r (j + (s + 1))) = (List.range n).map (fun j=>dj r (j + (s + 1))) ++ [dj r (n + (s + 1))]:=by rw [range_succ,map_append]; rfl
  have e2:(List.range (n + 1)).map (fun j=>dj r (j + s)) = dj r s :: (List.range n).map (fun j=>dj r (j + (s + 1))):=by
   rw [range_succ_eq_map,map_cons,map_map,Nat.zero_add]
   congr 1
   refine map_congr_left fun j _=>?_;show dj r (j + 1 + s) = _
   congr 1
   omega
  have e3:dj r (n + (s + 1)) = dj r s:=ft (by rw [hn,show n + (s + 1) = s + (n + 1) by omega,Nat.add_mod_right]);rw [e1,e2,e3];exact perm_append_singleton _ _
theorem fz (r:List Int):∀ s,(sh s r).Perm (sh 0 r)
 | 0=>List.Perm.refl _
 | s + 1=>(Dl r s).trans (fz r s)
theorem df {r:List Int} {s:Nat} (h0:0 < r.length):d∈sh s r↔∃ j,d = dj r j:=by
 rw [(fz r s).mem_iff];unfold sh;rw [mem_map];constructor
 ·rintro ⟨j,_,rfl⟩; exact ⟨_,rfl⟩
 ·rintro ⟨j,rfl⟩;exact ⟨j % r.length,List.mem_range.mpr (Nat.mod_lt _ h0),ft (by rw [Nat.add_zero,Nat.mod_mod])⟩
theorem tR {r:List Int} {k:Nat} (h:k < r.length) (j:Nat):dj (bU r k) j = dj r (j + k):=by
 unfold dj;rw [gG h,gG h]
 congr 2
 omega
theorem F0 {r:List Int} {k:Nat} (h:k < r.length):sh 0 (bU r k) = sh k r:=by
 unfold sh;rw [cK (by omega)];exact map_congr_left fun j _=>tR h j
theorem Good.bU {r:List Int} {k:Nat} (g:Good L r) (h:k < r.length):Good L (Gm.bU r k):=by
 refine ⟨by rw [cK (by omega)]; exact g.two,fun j=>by rw [tR h]; exact g.dt _,fun j=>?_⟩;rw [tR h,tR h,g.st]
 congr 1
 omega
def aH (L:List (List Int)) (d:aq) (k:Nat):List Int:=(List.range k).map fun i=>(it L d i).1
theorem GU {k:Nat} (e:it L d k = d) (j:Nat):it L d (j + k) = it L d j:=by rw [Nat.add_comm,oF,e]
theorem xh {k:Nat} (e:it L d k = d) (j:Nat):it L d (j % k) = it L d j:=by
 have go:∀ q,it L d (j % k + k * q) = it L d (j % k):=by
  intro q
  induction q with
  | zero=>rfl
  | succ q ih=>rw [Nat.mul_succ,<- Nat.add_assoc,GU e,ih]
 rw [<- go (j / k),Nat.mod_add_div]
theorem yT {k:Nat} (hk:0 < k) (e:it L d k = d) (j:Nat):cy (aH L d k) j = (it L d j).1:=by
 have hl:(aH L d k).length = k:=by unfold aH; simp
 have hm:=Nat.mod_lt j hk;unfold cy;rw [hl];unfold aH;rw [getD_eq_getElem?_getD,getElem?_map,getElem?_range hm];show (it L d (j % k)).1 = _;rw [xh e]
theorem gF {k:Nat} (hk:0 < k) (e:it L d k = d) (j:Nat):dj (aH L d k) j = it L d j:=by
 unfold dj;rw [yT hk e,yT hk e]
 rfl
theorem qI (m:av L) (h:Dt L d) {k:Nat} (hk:0 < k) (e:it L d k = d):Good L (aH L d k):=by
 refine ⟨?_,fun j=>by rw [gF hk e]; exact lP m h j,fun j=>by rw [gF hk e,gF hk e]; rfl⟩;have hl:(aH L d k).length = k:=by unfold aH; simp
 rw [hl];by_cases z:k = 1
 ·subst z;have:=(h.back m).2.2.1;exact absurd (congrArg Prod.fst e) this
 ·omega
theorem wF (m:av L) (h:Dt L d) {k:Nat} (hk:0 < k) (e:it L d k = d) (n:iO L d k):(sh 0 (aH L d k)).Nodup:=by
 have hl:(aH L d k).length = k:=by unfold aH; simp
 have:sh 0 (aH L d k) = tr L d k:=by
  unfold sh tr;rw [hl];exact map_congr_left fun j _=>by rw [gF hk e,Nat.add_zero]
 rw [this];exact jE m h n
def zd (r:List Int):Prop:=∀ k,k < r.length->Le r (bU r k)
theorem zK {r:List Int} {k:Nat} (hk:k < r.length) (h:∀ j,j < r.length->Le (bU r k) (bU r j)):zd (bU r k):=fun i hi=>by
 rw [cK (by omega)] at hi;rw [mF hk hi];exact h _ (Nat.mod_lt _ (by omega))
structure bj (L R:List (List Int)):Prop where
 good:∀ r∈R,Good L r
 least:∀ r∈R,zd r
 sorted:R.Pairwise (fun a b=>HT.lexLt a b = true)
 nd:(R.flatMap (sh 0)).Nodup
 all:∀ d,Dt L d->d∈R.flatMap (sh 0)
structure Lp (L R:List (List Int)) (ks:List aq):Prop where
 good:∀ r∈R,Good L r
 least:∀ r∈R,zd r
 nd:ks.Nodup
 pm:ks.Perm (R.flatMap (sh 0))
 two:2 * R.length<=ks.length
theorem Lp.start:Lp L [] []:=⟨by simp,by simp,.nil,.nil,Nat.le_refl _⟩
theorem Lp.dt {R:List (List Int)} {ks:List aq} (p:Lp L R ks) (h:d∈ks):Dt L d:=by
 obtain ⟨r,hr,hd⟩:=List.mem_flatMap.mp (p.pm.mem_iff.mp h);obtain ⟨j,rfl⟩:=(df (by have:=(p.good r hr).two; omega)).mp hd;exact (p.good r hr).dt j
theorem Lp.len {R:List (List Int)} {ks:List aq} (p:Lp L R ks):ks.length<=(ck L L.length).length:=dJ p.nd fun x hx=>(p.dt hx).all
theorem Lp.on {R:List (List Int)} {ks:List aq} (p:Lp L R ks) (h:d∈ks):∀ t,it L d t∈ks:=by
 intro t;obtain ⟨r,hr,hd⟩:=List.mem_flatMap.mp (p.pm.mem_iff.mp h);have g:=p.good r hr;have r0:0 < r.length:=by have:=g.two; omega
 obtain ⟨j,rfl⟩:=(df r0).mp hd;have e:it L (dj r j) t = dj r (j + t):=by
  induction t with
  | zero=>rfl
  | succ t ih=>show Gm.nx L (it L (dj r j) t) = _; rw [ih,g.st]; rfl
 rw [e];exact p.pm.mem_iff.mpr (List.mem_flatMap.mpr ⟨r,hr,(df r0).mpr ⟨_,rfl⟩⟩)
theorem Lp.new {R:List (List Int)} {ks:List aq} (p:Lp L R ks) {k:Nat} (hk:0 < k) (e:it L d k = d) (n:d∉ks) (j:Nat):it L d j∉ks:=by
 intro h;refine n ?_;have:=p.on h (k * j - j);rw [<- oF,show j + (k * j - j) = k * j from by have:=Nat.le_mul_of_pos_left j hk; omega,Nat.mul_comm] at this;have z:=xh e (j * k);rw [Nat.mul_mod_left] at z;rw [<- z] at this;exact this
theorem Lp.add {R:List (List Int)} {ks:List aq} (m:av L) (p:Lp L R ks) (h:Dt L d) {k c:Nat} (hk:0 < k) (e:it L d k = d) (nr:iO L d k) (n:d∉ks) (hc:c < k) (hl:∀ j,j < k->Le (Gm.bU (aH L d k) c) (Gm.bU (aH L d k) j)) :
  Lp L (R ++ [Gm.bU (aH L d k) c]) (ks ++ sh (k - 1) (aH L d k)):=by
 have zl:(aH L d k).length = k:=by unfold aH; simp
 have g:=qI m h hk e;have yI:c < (aH L d k).length:=by rw [zl]; exact hc
 refine ⟨fun r hr=>?_,fun r hr=>?_,?_,?_,?_⟩
 ·rcases List.mem_append.mp hr with z | z
  ·exact p.good r z
  ·rw [List.mem_singleton.mp z]; exact g.bU yI
 ·rcases List.mem_append.mp hr with z | z
  ·exact p.least r z
  ·rw [List.mem_singleton.mp z]; exact zK yI (by rw [zl]; exact hl)
 ·rw [nodup_append];refine ⟨p.nd,((fz _ _).nodup_iff).mpr (wF m h hk e nr),fun a ha b hb z=>?_⟩;obtain ⟨j,rfl⟩:=(df (by omega)).mp hb;rw [gF hk e] at z;exact p.new hk e n j (z▸ha)
 ·rw [flatMap_append,flatMap_singleton,F0 yI];exact p.pm.append ((fz _ _).trans (fz _ _).symm)
 ·have:=g.two;have:=p.two;rw [length_append,length_append,length_singleton];unfold sh;rw [length_map,length_range];omega
end
theorem xp {R:List (List Int)} (h:(R.flatMap (sh 0)).Nodup) (n:∀ r∈R,2<=r.length):R.Nodup:=by
 have:=(List.pairwise_flatMap.mp h).2;refine List.Pairwise.imp_of_mem (fun {a b} ha hb MA z=>?_) this;subst z;have r0:0 < a.length:=by have:=n a ha; omega
 exact MA (dj a 0) ((df r0).mpr ⟨0,rfl⟩) (dj a 0) ((df r0).mpr ⟨0,rfl⟩) rfl
theorem yk {α : Type} {d : α} {L:List α} {p:Array Nat} (i:Nat):(pick d L p)[i]? = (p[i]?).map fun j=>L.getD j d:=by unfold pick; simp
theorem range_getD {α : Type} {d : α} (L:List α):((List.range L.length).map fun i=>L.getD i d) = L:=by
 apply ext_getElem?;intro i;rw [getElem?_map];by_cases h:i < L.length
 ·simp [h]
 ·simp [h]
theorem kK {α : Type} {d : α} {L:List α} {p:Array Nat} (h:Arr L.length p):(pick d L p).Perm L:=by
 have e:=range_getD (d:=d) L;have:p.toList.Perm (List.range L.length):=by have:=h.perm; rw [Array.perm_iff_toList_perm] at this; simpa using this
 have q:=this.map fun i=>L.getD i d;rw [e] at q;exact q
theorem nQ {α : Type} {d : α} {L:List α} {p:Array Nat} {n:Nat} (h:Arr n p):(pick d L p).length = n:=by unfold pick; simp [h.size]
theorem aJ.pick {H:Hp} {t q:Addr} {as:List Addr} {R:List (List Int)} {p:Array Nat} (g:aJ H t as R) (h:Arr R.length p) (hq:H q = none):aJ (upd H q (.lst ((pick 0 as p).map V.ref))) q (pick 0 as p) (pick [] R p):=by
 refine ⟨ae,by rw [nQ h,nQ h],fun i a l h1 h2=>?_⟩;rw [yk] at h1 h2;cases e:p[i]? with
 | none=>rw [e] at h1; cases h1
 | some j=>
  rw [e] at h1 h2;have hi:i < p.size:=by
   rcases Nat.lt_or_ge i p.size with z | z
   ·exact z
   ·rw [Array.getElem?_eq_none z] at e; cases e
  have hj:j < R.length:=by
   have:=h.lt (i:=i) (by rw [<- h.size]; exact hi);rw [Array.getD_eq_getD_getElem?,e] at this;exact this
  have Ft:j < as.length:=by rw [g.len]; exact hj
  have e1:as.getD j 0 = as[j]:=by simp [Ft]
  have e2:R.getD j [] = R[j]:=by simp [hj]
  have CT:as.getD j 0 = a:=Option.some.inj h1;have qX:R.getD j [] = l:=Option.some.inj h2;have:=g.row j as[j] R[j] (by simp [Ft]) (by simp [hj]);rw [<- e1,<- e2,CT,qX] at this;rw [ak (aB this hq)];exact this
theorem Lp.lands {L R:List (List Int)} {ks:List aq} {p:Array Nat} (h:Lp L R ks) (hp:Arr R.length p) (up:Up (fun i=>R.getD i []) p R.length) (all:∀ d,Dt L d->d∈ks):bj L (pick [] R p):=by
 have pm:=kK (d:=([]:List Int)) hp;have nd:((pick [] R p).flatMap (sh 0)).Nodup:=((pm.flatMap_right (sh 0)).nodup_iff).mpr ((h.pm.nodup_iff).mp h.nd);have good:∀ r∈pick [] R p,Good L r:=fun r hr=>h.good r (pm.mem_iff.mp hr);refine ⟨good,fun r hr=>h.least r (pm.mem_iff.mp hr),?_,nd,fun d hd=>((pm.flatMap_right (sh 0)).mem_iff).mpr (h.pm.mem_iff.mp (all d hd))⟩;have n2:=xp nd fun r hr=>(good r hr).two;refine List.pairwise_iff_getElem.mpr fun i j hi hj Ie=>?_;have hl:=nQ (d:=([]:List Int)) (L:=R) hp;have at_:∀ k (hk:k < (pick [] R p).length),(pick [] R p)[k] = kf (fun i=>R.getD i []) p k:=fun k hk=>by
  have e:=yk (d:=([]:List Int)) (L:=R) (p:=p) k;rw [getElem?_eq_getElem hk] at e;unfold kf;rw [Array.getD_eq_getD_getElem?];cases z:p[k]? with
  | none=>rw [z] at e; cases e
  | some m=>rw [z] at e; exact Option.some.inj e
 have le:Le (pick [] R p)[i] (pick [] R p)[j]:=by rw [at_ i hi,at_ j hj]; exact up.le (by omega) (by omega)
 cases q:HT.lexLt (pick [] R p)[i] (pick [] R p)[j] with
 | true=>rfl
 | false=>
  have:=(getElem_inj n2).mp (j6 q le);omega
def eL (d:aq):List Key:=[.inl d.1,.inl d.2]
def kD (ks:List aq):List (List Key×V):=ks.map fun d=>(eL d,V.bl true)
theorem oC {d e:aq} (h:eL d = eL e):d = e:=by
 unfold eL at h;simp only [List.cons.injEq,Sum.inl.injEq,and_true] at h;exact Prod.ext h.1 h.2
theorem fT:∀ (ks:List aq) (d:aq),(fV (kD ks) (eL d)).isSome = decide (d∈ks)
 | [],d=>rfl
 | e :: ks,d=>by
  unfold kD;rw [map_cons];by_cases z:e = d
  ·subst z;rw [gU rfl];simp
  ·rw [fU (fun y=>z (oC y))];have:=fT ks d;unfold kD at this;rw [this];have z2:¬ d = e:=fun y=>z y.symm;simp [z2]
theorem uJ {ks:List aq} {d:aq} (h:d∉ks):putK (kD ks) (eL d) (.bl true) = kD (ks ++ [d]):=by
 rw [uK]
 ·unfold kD; rw [map_append]; rfl
 ·have:=fT ks d;rw [decide_eq_false h] at this;exact Option.isNone_iff_eq_none.mp (by rw [<- Option.not_isSome,this]; rfl)
theorem BQ (ks:List aq):(kD ks).length = ks.length:=by unfold kD; simp
theorem vI {r:List Int} {k:Nat} (h:k<=r.length):iM (r.map V.int) (some (k:Int)) none = (r.drop k).map V.int:=by
 unfold iM HT.ky;rw [length_map];dsimp only;rw [if_neg (by omega),show min ((k:Int).toNat) r.length = k by omega,take_of_length_le (by rw [length_drop,length_map]; omega),map_drop]
theorem vH {r:List Int} {k:Nat} (h:k<=r.length):iM (r.map V.int) none (some (k:Int)) = (r.take k).map V.int:=by
 unfold iM HT.ky;rw [length_map];dsimp only;rw [if_neg (by omega),show min ((k:Int).toNat) r.length = k by omega,drop_zero,Nat.sub_zero,map_take]
section
variable {σ : St} {H:Hp} {Q:VK} {K:PySem.W.Frag}
theorem Bh {ty td:TE} (h:ty σ H fun y H1=>td σ H1 fun x H2=>∃ a o,x = .ref a/\iR H2 a y o/\Q (.bl (!o.isSome)) H2):xT ty td σ H Q:=h
theorem Gi {td ty tv:TE} {D:Ends} (h:tv σ H fun v H1=>td σ H1 fun x H2=>ty σ H2 fun y H3=>∃ a H4,x = .ref a/\uc H3 a y v H4/\D.nx σ H4):E6 td ty tv D σ H:=h
theorem iS {a:Addr} {i k n:Nat} {r:List Int} (h1 : σ[i]? = some (some (.ref a))) (h2 : σ[k]? = some (some (.int (n:Int)))) (hs:aw K H a (r.map V.int)) (hn:n<=r.length) (q:∀ p,H p = none->Q (.ref p) (upd H p (.lst ((r.drop n).map V.int)))) :
  De (sE K) (gP i) (m9 (gP k)) dz σ H Q:=⟨_,h1,⟨_,h2,⟨_,rfl,⟨a,_,rfl,hs,fun p hp=>by rw [vI hn]; exact q p hp⟩⟩⟩⟩
theorem jO {a:Addr} {i k n:Nat} {r:List Int} (h1 : σ[i]? = some (some (.ref a))) (h2 : σ[k]? = some (some (.int (n:Int)))) (hs:aw K H a (r.map V.int)) (hn:n<=r.length) (q:∀ p,H p = none->Q (.ref p) (upd H p (.lst ((r.take n).map V.int)))) :
  De (sE K) (gP i) dz (m9 (gP k)) σ H Q:=⟨_,h1,⟨_,h2,⟨_,rfl,⟨a,_,rfl,hs,fun p hp=>by rw [vH hn]; exact q p hp⟩⟩⟩⟩
end
theorem aJ.snoc {H:Hp} {t b:Addr} {bs:List Addr} {R:List (List Int)} {l:List Int} (g:aJ H t bs R) (nt:t∉bs) (nb:b≠t) (hb:H b = some (.lst (l.map V.int))):aJ (upd H t (.lst (bs.map V.ref ++ [.ref b]))) t (bs ++ [b]) (R ++ [l]):=by
 refine ⟨by rw [map_append]; exact ae,by rw [length_append,length_append,g.len]; rfl,fun i a m h1 h2=>?_⟩;rcases Nat.lt_or_ge i bs.length with hi | hi
 ·rw [getElem?_append_left hi] at h1;rw [getElem?_append_left (by rw [<- g.len]; exact hi)] at h2;have am:=mem_of_getElem? h1;have ne:a≠t:=fun z=>nt (by rw [<- z]; exact am);rw [ak ne];exact g.row i a m h1 h2
 ·rw [getElem?_append_right hi] at h1;rw [getElem?_append_right (by rw [<- g.len]; exact hi),<- g.len] at h2;have:i - bs.length = 0:=by
   have:=(List.getElem?_eq_some_iff.mp h1).1;rw [length_singleton] at this;omega
  rw [this] at h1 h2;simp at h1 h2;subst h1 h2;rw [ak nb];exact hb
theorem aJ.other {H:Hp} {t g:Addr} {bs:List Addr} {R:List (List Int)} {aS:List (List Key×V)} {o:HO} (h:aJ H t bs R) (hg:H g = some (.dT aS)):aJ (upd H g o) t bs R:=by
 refine ⟨?_,h.len,fun i a l h1 h2=>?_⟩
 ·rw [ak (fun z=>by have:=h.top; rw [z,hg] at this; cases this)]; exact h.top
 ·have:=h.row i a l h1 h2;rw [ak (fun z=>by rw [z,hg] at this; cases this)]; exact this
theorem aJ.fe {H:Hp} {t b:Addr} {bs:List Addr} {R:List (List Int)} (g:aJ H t bs R) (hb:H b = none):b∉t :: bs:=fun z=>by
 rcases List.mem_cons.mp z with z | z
 ·rw [z,g.top] at hb; cases hb
 ·obtain ⟨k,hk,lQ⟩:=List.mem_iff_getElem.mp z;have kl:k < R.length:=by rw [<- g.len]; exact hk
  have:=g.row k b _ (by rw [getElem?_eq_getElem hk,lQ]) (getElem?_eq_getElem kl);rw [hb] at this; cases this
theorem eK {α : Type} {A B:List α} {x : α} {j:Nat} (h:(A ++ B).Nodup) (e:B[j]? = some x):x∉A ++ B.take j:=by
 obtain ⟨h1,h2,h3⟩:=List.nodup_append.mp h;intro z;rcases List.mem_append.mp z with z | z
 ·exact h3 x z x (mem_of_getElem? e) rfl
 ·obtain ⟨hj,ex⟩:=List.getElem?_eq_some_iff.mp e;obtain ⟨i,hi,ei⟩:=List.mem_iff_getElem.mp z;rw [getElem_take] at ei;rw [length_take] at hi;have:=(getElem_inj h2).mp (ei.trans ex.symm);omega
theorem bR (s:Nat) (r:List Int):(sh s r).length = r.length:=by unfold sh; simp
theorem qC {s:Nat} {r:List Int} {j:Nat} (h:j < r.length):(sh s r)[j]? = some (dj r (j + s)):=by unfold sh; simp [h]
theorem take_snoc {α : Type} {l:List α} {j:Nat} {x : α} (h:l[j]? = some x):l.take (j + 1) = l.take j ++ [x]:=by rw [take_succ,h]; rfl
theorem dX {l:List Addr} {x:Addr}:(l ++ [x]).Nodup↔x∉l/\l.Nodup:=by rw [(perm_append_singleton x l).nodup_iff,nodup_cons]
def Yw (g:Addr) (H H':Hp):Prop:=∀ b o,b≠g->H b = some o->H' b = some o
def fl (R:List (List Int)) (k:Nat):List aq:=(R.take k).flatMap fun r=>sh (r.length - 2) r
theorem Ce {L:List (List Int)} (m:av L):∀ {k:Nat},k<=L.length->(ck L k).length<=k * (L.length - 1)
 | 0,_=>Nat.zero_le _
 | k + 1,h=>by
  have i:=Ce m (k:=k) (by omega);have e:=ay (L:=L) (a:=(k:Int)) (by omega) (by omega);have n:(rowOf L (k:Int)).length<=L.length - 1:=by
   have n1:((k:Int) :: rowOf L (k:Int)).Nodup:=List.nodup_cons.mpr ⟨fun z=>by have:=m.rg _ _ e _ z; rw [Int.toNat_natCast] at this; exact this.2.2 rfl,m.nd _ _ e⟩;have:=bz (n:=L.length) n1 fun x hx=>by
    rcases List.mem_cons.mp hx with z | z
    ·omega
    ·have:=m.rg _ _ e _ z; exact ⟨this.1,this.2.1⟩
   rw [length_cons] at this;omega
  rw [ck,length_append,length_map,Nat.succ_mul];omega
theorem Ag {L:List (List Int)} (m:av L) (h:L.length<=11):(ck L L.length).length < 128:=by
 have h1:=Ce m (Nat.le_refl L.length);have h2:L.length * (L.length - 1)<=11 * 10:=Nat.mul_le_mul h (by omega);omega
theorem nG {r:List Int} {i:Nat} (hi:i < r.length):bU r i = cy r i :: (r.drop (i + 1) ++ r.take i):=by
 unfold bU;rw [drop_eq_getElem_cons hi,gO hi]
 rfl
theorem F4 {r:List Int} {i j:Nat} (hi:i < r.length) (hj:j < r.length) (h:cy r i < cy r j):HT.lexLt (bU r i) (bU r j) = true:=by
 rw [nG hi,nG hj,HT.fi,if_neg (by omega)];exact decide_eq_true h
def dW:Int->List Int->Int->Int
 | p,[],_=>p
 | p,h :: t,x=>if h = x then p else dW h t x
def lst (l:List Int):Int:=l.getD (l.length - 1) 0
theorem oo (h:Int) {t:List Int} (n:t≠[]):lst (h :: t) = lst t:=by
 unfold lst;cases t with
 | nil=>exact absurd rfl n
 | cons a t=>simp
theorem gw (u:List Int) {v:List Int} (n:v≠[]):lst (u ++ v) = lst v:=by
 induction u with
 | nil=>rfl
 | cons h t ih=>rw [cons_append,oo h (by simp [n]),ih]
theorem D7 {l:List Int} (n:l≠[]):lst l∈l:=by
 unfold lst;have:l.length - 1 < l.length:=by have:=List.length_pos_iff.mpr n; omega
 simp [this]
theorem yo:∀ {l:List Int} {p x:Int},x∈l->dW p l x = if l.idxOf x = 0 then p else l.getD (l.idxOf x - 1) 0
 | [],_,_,h=>by cases h
 | h :: t,p,x,hx=>by
  unfold dW;rw [idxOf_cons];by_cases e:h = x
  ·rw [if_pos e,e]; simp
  ·rw [if_neg e];have e2:(h == x) = false:=beq_false_of_ne e;rw [e2];have GY:x∈t:=(List.mem_cons.mp hx).resolve_left (fun z=>e z.symm);rw [yo GY];simp only [cond_false];rw [if_neg (Nat.succ_ne_zero _)];cases q:t.idxOf x with
   | zero=>simp
   | succ k=>simp
theorem jQ {l:List Int} {x:Int} (h:x∈l):pre l x = dW (lst l) l x:=by
 have ix:=idxOf_lt_length_of_mem h;rw [yo h];unfold pre cy lst;rw [md ix];split <;> rfl
theorem sH:∀ (l:List Int) (p x:Int),dW p l x = p\/dW p l x∈l
 | [],p,x=>.inl rfl
 | h :: t,p,x=>by
  unfold dW;by_cases e:h = x
  ·rw [if_pos e]; exact .inl rfl
  ·rw [if_neg e];rcases sH t h x with z | z
   ·rw [z]; exact .inr mem_cons_self
   ·exact .inr (mem_cons_of_mem _ z)
theorem qM:∀ {l:List Int} {p x y:Int},l.Nodup->p≠y->x∈l->x≠y->dW p (l.erase y) x = if dW p l x = y then dW p l y else dW p l x
 | [],_,_,_,_,_,h,_=>by cases h
 | h :: t,p,x,y,n,hp,hx,mr=>by
  obtain ⟨n1,n2⟩:=List.nodup_cons.mp n;by_cases e:h = y
  ·subst e;rw [erase_cons_head];have GY:x∈t:=(List.mem_cons.mp hx).resolve_left mr;have a1:dW p (h :: t) x = dW h t x:=by show (if h = x then p else dW h t x) = _; rw [if_neg (fun z=>mr z.symm)]
   have a2:dW p (h :: t) h = p:=by show (if h = h then p else dW h t h) = _; rw [if_pos rfl]
   rw [a1,a2];cases t with
   | nil=>cases GY
   | cons k s=>
    by_cases e2:k = x
    ·have b1:dW p (k :: s) x = p:=by show (if k = x then p else dW k s x) = _; rw [if_pos e2]
     have b2:dW h (k :: s) x = h:=by show (if k = x then h else dW k s x) = _; rw [if_pos e2]
     rw [b1,b2,if_pos rfl]
    ·have b1:dW p (k :: s) x = dW k s x:=by show (if k = x then p else dW k s x) = _; rw [if_neg e2]
     have b2:dW h (k :: s) x = dW k s x:=by show (if k = x then h else dW k s x) = _; rw [if_neg e2]
     rw [b1,b2,if_neg];intro z;rcases sH s k x with y | y
     ·rw [y] at z; exact n1 (by rw [<- z]; exact mem_cons_self)
     ·rw [z] at y; exact n1 (mem_cons_of_mem _ y)
  ·rw [erase_cons_tail (by simpa using e)];by_cases e2:h = x
   ·have b1:∀ s,dW p (h :: s) x = p:=fun s=>by show (if h = x then p else dW h s x) = _; rw [if_pos e2]
    rw [b1,b1,if_neg hp]
   ·have GY:x∈t:=(List.mem_cons.mp hx).resolve_left (fun z=>e2 z.symm);have b1:∀ s,dW p (h :: s) x = dW h s x:=fun s=>by show (if h = x then p else dW h s x) = _; rw [if_neg e2]
    have b2:dW p (h :: t) y = dW h t y:=by show (if h = y then p else dW h t y) = _; rw [if_neg e]
    rw [b1,b1,b2];exact qM n2 e GY mr
theorem uP:∀ {u:List Int} {w:List Int} {p x:Int},x∈u->dW p (u ++ w) x = dW p u x
 | [],_,_,_,h=>by cases h
 | h :: t,w,p,x,hx=>by
  show (if h = x then p else dW h (t ++ w) x) = if h = x then p else dW h t x
  by_cases e:h = x
  ·rw [if_pos e,if_pos e]
  ·rw [if_neg e,if_neg e];exact uP ((List.mem_cons.mp hx).resolve_left (fun z=>e z.symm))
theorem yp:∀ {u:List Int} {p y:Int},y∉u->dW p (u ++ [y]) y = if u = [] then p else lst u
 | [],p,y,_=>by show (if y = y then p else dW y [] y) = _; rw [if_pos rfl,if_pos rfl]
 | h :: t,p,y,n=>by
  have e:h≠y:=fun z=>n (by rw [z]; exact mem_cons_self);show (if h = y then p else dW h (t ++ [y]) y) = _;rw [if_neg e,if_neg (by simp),yp (fun z=>n (mem_cons_of_mem _ z))];by_cases q:t = []
  ·subst q; rw [if_pos rfl]; rfl
  ·rw [if_neg q,oo h q]
theorem qK {l:List Int} {x y:Int} (n:l.Nodup) (hx:x∈l) (hy:y∈l) (mr:x≠y):pre (l.erase y) x = if pre l x = y then pre l y else pre l x:=by
 have yE:x∈l.erase y:=(mem_erase_of_ne mr).mpr hx;rw [jQ yE,jQ hx,jQ hy];obtain ⟨u,v,rfl⟩:=append_of_mem hy;obtain ⟨n1,n2,n3⟩:=List.nodup_append.mp n;obtain ⟨n4,n5⟩:=List.nodup_cons.mp n2;have yu:y∉u:=fun z=>n3 y z y mem_cons_self rfl;have ee:(u ++ y :: v).erase y = u ++ v:=by rw [erase_append_right _ yu,erase_cons_head]
 by_cases q:v = []
 ·subst q;rw [ee,append_nil];have xu:x∈u:=by
   rcases List.mem_append.mp hx with z | z
   ·exact z
   ·exact absurd (List.mem_singleton.mp z) mr
  have u0:u≠[]:=fun z=>by rw [z] at xu; cases xu
  rw [gw u (v:=[y]) (by simp),uP xu,yp yu,if_neg u0];show dW (lst u) u x = if dW y u x = y then lst u else dW y u x
  cases u with
  | nil=>cases xu
  | cons h t=>
   by_cases e:h = x
   ·have b:∀ q,dW q (h :: t) x = q:=fun q=>by show (if h = x then q else dW h t x) = _; rw [if_pos e]
    rw [b,b,if_pos rfl]
   ·have b:∀ q,dW q (h :: t) x = dW h t x:=fun q=>by show (if h = x then q else dW h t x) = _; rw [if_neg e]
    rw [b,b,if_neg];intro z;rcases sH t h x with w | w
    ·rw [w] at z; exact yu (by rw [<- z]; exact mem_cons_self)
    ·rw [z] at w; exact yu (mem_cons_of_mem _ w)
 ·have e1:lst (u ++ y :: v) = lst v:=by rw [gw u (by simp),oo y q]
  have e2:lst ((u ++ y :: v).erase y) = lst v:=by rw [ee,gw u q]
  rw [e1,e2];exact qM n (fun z=>n4 (by rw [<- z]; exact D7 q)) hx mr
theorem iC {l:List Int} {x:Int} (n:l.Nodup) (hx:x∈l) (h:pre l x = x):l = [x]:=by
 have ix:=idxOf_lt_length_of_mem hx;unfold pre cy at h;have mx:=Nat.mod_lt (l.idxOf x + l.length - 1) (show 0 < l.length by omega);have e1:l.getD ((l.idxOf x + l.length - 1) % l.length) 0 = l[(l.idxOf x + l.length - 1) % l.length]:=by simp [mx]
 rw [e1] at h;have g:=getElem_idxOf ix;have e:=(getElem_inj n).mp (h.trans g.symm);rw [md ix] at e;have l1:l.length = 1:=by split at e <;> omega
 match l,l1,hx with
 | [z],_,hx=>rw [List.mem_singleton.mp hx]
theorem fY {L:List (List Int)} (h:∀ x:Int,0<=x->x < L.length->(rowOf L x).Nodup/\∀ y∈rowOf L x,0<=y/\y < L.length/\y≠x/\x∈rowOf L y):av L:=by
 have at_:∀ (i:Nat) (l:List Int),L[i]? = some l->rowOf L (i:Int) = l/\(i:Int) < L.length:=fun i l e=>by
  have hi:=(List.getElem?_eq_some_iff.mp e).1;have:=ay (L:=L) (a:=(i:Int)) (by omega) (by omega);rw [Int.toNat_natCast,e] at this;exact ⟨(Option.some.inj this).symm,by omega⟩
 refine ⟨fun i l e=>?_,fun i l e x hx=>?_,fun i l e x hx j hj m em=>?_⟩
 ·obtain ⟨e1,e2⟩:=at_ i l e;rw [<- e1]; exact (h i (by omega) e2).1
 ·obtain ⟨e1,e2⟩:=at_ i l e;rw [<- e1] at hx;have:=(h i (by omega) e2).2 x hx;exact ⟨this.1,this.2.1,this.2.2.1⟩
 ·obtain ⟨e1,e2⟩:=at_ i l e;obtain ⟨e3,e4⟩:=at_ j m em;rw [<- e1] at hx;have:=((h i (by omega) e2).2 x hx).2.2.2;rw [hj,e3] at this;exact this
def rem (L:List (List Int)) (a b:Int):List (List Int):=(L.set a.toNat ((rowOf L a).erase b)).set b.toNat ((rowOf L b).erase a)
section
variable {L:List (List Int)} {a b:Int}
theorem cL:(rem L a b).length = L.length:=by unfold rem; simp
theorem sv (m:av L) (h:Dt L (a,b)) {x:Int} (hx:0<=x):rowOf (rem L a b) x = if x = b then (rowOf L b).erase a else if x = a then (rowOf L a).erase b else rowOf L x:=by
 obtain ⟨b0,b1,b2,b3⟩:=h.back m;have a0:=h.lo;have a1:=h.hi;dsimp only at a0 a1 b0 b1 b2 b3;show (rem L a b).getD x.toNat [] = _;unfold rem;rw [getD_eq_getElem?_getD,getElem?_set];by_cases e:x = b
 ·subst e;rw [if_pos rfl,if_pos rfl,if_pos (by rw [length_set]; omega)]
  rfl
 ·rw [if_neg (by omega),if_neg e,getElem?_set];by_cases e2:x = a
  ·subst e2;rw [if_pos rfl,if_pos rfl,if_pos (by omega)]
   rfl
  ·rw [if_neg (by omega),if_neg e2,<- getD_eq_getElem?_getD]
   rfl
theorem mG (m:av L) (h:Dt L (a,b)) {x y:Int} (hx:0<=x) (CM:x < L.length):y∈rowOf (rem L a b) x↔y∈rowOf L x/\¬ (x = a/\y = b)/\¬ (x = b/\y = a):=by
 obtain ⟨b0,b1,b2,b3⟩:=h.back m;have a0:=h.lo;have a1:=h.hi;dsimp only at a0 a1 b0 b1 b2 b3;rw [sv m h hx];by_cases e:x = b
 ·subst e;rw [if_pos rfl,(m.nd _ _ (ay hx CM)).mem_erase_iff];constructor
  ·rintro ⟨h1,h2⟩; exact ⟨h2,fun z=>b2 z.1,fun z=>h1 z.2⟩
  ·rintro ⟨h1,h2,h3⟩; exact ⟨fun z=>h3 ⟨rfl,z⟩,h1⟩
 ·rw [if_neg e];by_cases e2:x = a
  ·subst e2;rw [if_pos rfl,(m.nd _ _ (ay hx CM)).mem_erase_iff];constructor
   ·rintro ⟨h1,h2⟩; exact ⟨h2,fun z=>h1 z.2,fun z=>e z.1⟩
   ·rintro ⟨h1,h2,h3⟩; exact ⟨fun z=>h2 ⟨rfl,z⟩,h1⟩
  ·rw [if_neg e2];exact ⟨fun z=>⟨z,fun y=>e2 y.1,fun y=>e y.1⟩,fun z=>z.1⟩
theorem bG (m:av L) (h:Dt L (a,b)) {d:aq}:Dt (rem L a b) d↔Dt L d/\d≠(a,b)/\d≠(b,a):=by
 constructor
 ·intro q;have hi:=q.hi;rw [cL] at hi;have:=(mG m h q.lo hi).mp q.mem;exact ⟨⟨q.lo,hi,this.1⟩,fun z=>this.2.1 ⟨congrArg Prod.fst z,congrArg Prod.snd z⟩,fun z=>this.2.2 ⟨congrArg Prod.fst z,congrArg Prod.snd z⟩⟩
 ·rintro ⟨q,h1,h2⟩;refine ⟨q.lo,by rw [cL]; exact q.hi,(mG m h q.lo q.hi).mpr ⟨q.mem,fun z=>h1 (Prod.ext z.1 z.2),fun z=>h2 (Prod.ext z.1 z.2)⟩⟩
theorem mH (m:av L) (h:Dt L (a,b)):av (rem L a b):=by
 refine fY fun x x0 x1=>?_;rw [cL] at x1;have n:=m.nd _ _ (ay x0 x1);refine ⟨?_,fun y hy=>?_⟩
 ·rw [sv m h x0];split
  ·rename_i e; rw [<- e]; exact n.erase _
  ·split
   ·rename_i e; rw [<- e]; exact n.erase _
   ·exact n
 ·have q:=(mG m h x0 x1).mp hy;obtain ⟨c0,c1,c2,c3⟩:=Dt.back (d:=(x,y)) ⟨x0,x1,q.1⟩ m;rw [cL];refine ⟨c0,c1,c2,(mG m h c0 c1).mpr ⟨c3,fun z=>q.2.2 ⟨z.2,z.1⟩,fun z=>q.2.1 ⟨z.2,z.1⟩⟩⟩
theorem gk (m:av L) (h:Dt L (a,b)) {d:aq} (hd:Dt (rem L a b) d) :
  nx (rem L a b) d = if nx L d = (b,a) then nx L (a,b) else if nx L d = (a,b) then nx L (b,a) else nx L d:=by
 obtain ⟨q,h1,h2⟩:=(bG m h).mp hd;obtain ⟨b0,b1,b2,b3⟩:=h.back m;obtain ⟨c0,c1,c2,c3⟩:=q.back m;obtain ⟨x,y⟩:=d;dsimp only at b0 b1 b2 b3 c0 c1 c2 c3;have Kl:=h.mem;dsimp only at Kl;unfold nx;dsimp only;rw [sv m h c0];by_cases e:y = b
 ·subst e;have xa:x≠a:=fun z=>h1 (by rw [z]);rw [if_pos rfl,qK (m.nd _ _ (ay c0 c1)) c3 b3 xa];by_cases z:pre (rowOf L y) x = a
  ·rw [if_pos z,z,if_pos rfl]
  ·rw [if_neg z,if_neg (fun w=>z (congrArg Prod.snd w)),if_neg (fun w=>b2 (congrArg Prod.fst w))]
 ·rw [if_neg e];by_cases e2:y = a
  ·subst e2;have xb:x≠b:=fun z=>h2 (by rw [z]);rw [if_pos rfl,qK (m.nd _ _ (ay c0 c1)) c3 Kl xb];rw [if_neg (fun w=>e (congrArg Prod.fst w))];by_cases z:pre (rowOf L y) x = b
   ·rw [if_pos z,z,if_pos rfl]
   ·rw [if_neg z,if_neg (fun w=>z (congrArg Prod.snd w))]
  ·rw [if_neg e2,if_neg (fun w=>e (congrArg Prod.fst w)),if_neg (fun w=>e2 (congrArg Prod.fst w))]
end
inductive Wk (f:aq->aq):aq->List aq->aq->Prop where
 | nil (x:aq):Wk f x [] x
 | cons {x y:aq} {l:List aq}:Wk f (f x) l y->Wk f x (x :: l) y
section
variable {f g:aq->aq} {x y z w d:aq} {l m:List aq}
theorem Wk.append (h:Wk f x l y) (k:Wk f y m z):Wk f x (l ++ m) z:=by
 induction h with
 | nil _=>exact k
 | cons _ ih=>exact .cons (ih k)
theorem Wk.split:∀ {l:List aq} {x:aq},Wk f x (l ++ m) z->∃ y,Wk f x l y/\Wk f y m z
 | [],x,h=>⟨x,.nil x,h⟩
 | a :: l,x,h=>by
  cases h with
  | cons h=>
   obtain ⟨y,h1,h2⟩:=Wk.split h;exact ⟨y,.cons h1,h2⟩
theorem Wk.nil_eq (h:Wk f x [] y):x = y:=by cases h; rfl
theorem Wk.hd (h:Wk f x (d :: l) y):d = x:=by cases h; rfl
theorem Wk.tl (h:Wk f x (d :: l) y):Wk f (f x) l y:=by cases h; assumption
theorem Wk.on (h:Wk f x l y):∀ d∈l,f d∈l\/f d = y:=by
 induction h with
 | nil _=>intro d hd; cases hd
 | @cons x y l h ih=>
  intro d hd;rcases List.mem_cons.mp hd with e | e
  ·subst e;cases h with
   | nil _=>exact .inr rfl
   | cons h=>exact .inl (mem_cons_of_mem _ mem_cons_self)
  ·rcases ih d e with q | q
   ·exact .inl (mem_cons_of_mem _ q)
   ·exact .inr q
theorem Wk.new (h:Wk f x l y) (n:l≠[]) (hy:y∉l) (h1:∀ d∈l,f d = y->g d = w) (h2:∀ d∈l,f d≠y->g d = f d):Wk g x l w:=by
 induction h with
 | nil _=>exact absurd rfl n
 | @cons x y l h ih=>
  cases h with
  | nil _=>
   have:g x = w:=h1 x mem_cons_self rfl;rw [<- this];exact .cons (.nil _)
  | @cons _ _ l2 h=>
   have ne:f x≠y:=fun q=>hy (by rw [<- q]; exact mem_cons_of_mem _ mem_cons_self);have e:=h2 x mem_cons_self ne;refine .cons ?_;rw [e];exact ih (by simp) (fun q=>hy (mem_cons_of_mem _ q)) (fun d hd=>h1 d (mem_cons_of_mem _ hd)) fun d hd=>h2 d (mem_cons_of_mem _ hd)
theorem Wk.congr (h:Wk f x l y) (e:∀ d∈l,g d = f d):Wk g x l y:=by
 induction h with
 | nil _=>exact .nil _
 | @cons x y l h ih=>
  refine .cons ?_;rw [e x mem_cons_self];exact ih fun d hd=>e d (mem_cons_of_mem _ hd)
end
def rQ (f:aq->aq) (c:List aq):Prop:=∃ x l,c = x :: l/\Wk f x c x
section
variable {f:aq->aq} {c:List aq} {d:aq}
theorem rQ.ne (h:rQ f c):c≠[]:=by obtain ⟨x,l,rfl,_⟩:=h; simp
theorem rQ.on (h:rQ f c) (hd:d∈c):f d∈c:=by
 obtain ⟨x,l,rfl,k⟩:=h;rcases k.on d hd with q | q
 ·exact q
 ·rw [q]; exact mem_cons_self
theorem rQ.turn (h:rQ f c) (hd:d∈c):∃ v,(d :: v).Perm c/\Wk f (f d) v d:=by
 obtain ⟨x,l,e,k⟩:=h;obtain ⟨u,v,rfl⟩:=append_of_mem hd;obtain ⟨y,k1,k2⟩:=k.split;have:=k2.hd;subst this;exact ⟨v ++ u,by rw [<- cons_append]; exact perm_append_comm,k2.tl.append k1⟩
end
structure Dec (L:List (List Int)) (R:List (List aq)):Prop where
 jB:∀ c∈R,rQ (nx L) c
 nd:R.flatten.Nodup
 mem:∀ d,d∈R.flatten↔Dt L d
theorem nR {α : Type} {x : α} {l:List α} (h:x∈l):∃ r,l.Perm (x :: r):=by
 obtain ⟨u,v,rfl⟩:=append_of_mem h;exact ⟨u ++ v,perm_middle⟩
theorem Dec.perm {L:List (List Int)} {R S:List (List aq)} (h:Dec L R) (p:R.Perm S):Dec L S:=
 ⟨fun c hc=>h.jB c (p.mem_iff.mpr hc),(p.flatten.nodup_iff).mp h.nd,fun d=>by rw [<- p.flatten.mem_iff]; exact h.mem d⟩
theorem Dec.swap {L:List (List Int)} {R:List (List aq)} {c e:List aq} (h:Dec L (c :: R)) (p:e.Perm c) (k:rQ (nx L) e):Dec L (e :: R):=by
 have q:(e :: R).flatten.Perm (c :: R).flatten:=by rw [flatten_cons,flatten_cons]; exact p.append_right _
 refine ⟨fun s hs=>?_,q.nodup_iff.mpr h.nd,fun d=>by rw [q.mem_iff]; exact h.mem d⟩;rcases List.mem_cons.mp hs with z | z
 ·rw [z]; exact k
 ·exact h.jB s (mem_cons_of_mem _ z)
theorem Dec.front {L:List (List Int)} {R:List (List aq)} {d:aq} (h:Dec L R) (hd:Dt L d):∃ v S,Dec L ((d :: v) :: S)/\R.length = S.length + 1/\Wk (nx L) (nx L d) v d/\(∀ c∈S,c∈R):=by
 obtain ⟨c,hc,O7⟩:=List.mem_flatten.mp ((h.mem d).mpr hd);obtain ⟨S,p⟩:=nR hc;obtain ⟨v,pv,k⟩:=(h.jB c hc).turn O7;exact ⟨v,S,(h.perm p).swap pv ⟨d,v,rfl,.cons k⟩,p.length_eq,k,fun s hs=>p.mem_iff.mpr (mem_cons_of_mem _ hs)⟩
section
variable {L:List (List Int)} {a b:Int}
theorem iA (m:av L) (h:Dt L (a,b)):(ck L L.length).Perm ((a,b) :: (b,a) :: ck (rem L a b) (rem L a b).length)/\(ck L L.length).length = (ck (rem L a b) (rem L a b).length).length + 2:=by
 obtain ⟨b0,b1,b2,b3⟩:=h.back m;have hb:Dt L (b,a):=⟨b0,b1,b3⟩;have n2:((a,b) :: (b,a) :: ck (rem L a b) (rem L a b).length).Nodup:=by
  refine List.nodup_cons.mpr ⟨fun z=>?_,List.nodup_cons.mpr ⟨fun z=>?_,bS (mH m h) (Nat.le_refl _)⟩⟩
  ·rcases List.mem_cons.mp z with z | z
   ·exact b2 (congrArg Prod.fst z).symm
   ·exact ((bG m h).mp (Dt.of z)).2.1 rfl
  ·exact ((bG m h).mp (Dt.of z)).2.2 rfl
 have e:∀ x,x∈ck L L.length↔x∈(a,b) :: (b,a) :: ck (rem L a b) (rem L a b).length:=fun x=>by
  constructor
  ·intro z;by_cases e1:x = (a,b)
   ·rw [e1]; exact mem_cons_self
   ·by_cases e2:x = (b,a)
    ·rw [e2]; exact mem_cons_of_mem _ mem_cons_self
    ·exact mem_cons_of_mem _ (mem_cons_of_mem _ ((bG m h).mpr ⟨Dt.of z,e1,e2⟩).all)
  ·intro z;rcases List.mem_cons.mp z with z | z
   ·rw [z]; exact h.all
   ·rcases List.mem_cons.mp z with z | z
    ·rw [z]; exact hb.all
    ·exact ((bG m h).mp (Dt.of z)).1.all
 have n1:=bS m (Nat.le_refl L.length);have l:=len_eq n1 n2 e;refine ⟨?_,by rw [l]; rfl⟩;exact (List.perm_iff_count.mpr fun x=>by
  have c:∀ {l:List aq},l.Nodup->l.count x = if x∈l then 1 else 0:=fun {l} hn=>by
   by_cases hx:x∈l
   ·rw [if_pos hx];have h1:=List.nodup_iff_count.mp hn x;have h2:=List.count_pos_iff.mpr hx;omega
   ·rw [if_neg hx,List.count_eq_zero.mpr hx]
  rw [c n1,c n2];by_cases hx:x∈ck L L.length
  ·rw [if_pos hx,if_pos ((e x).mp hx)]
  ·rw [if_neg hx,if_neg (fun z=>hx ((e x).mpr z))])
theorem mJ {R:List (List aq)} (m:av L) (h:Dt L (a,b)) (D:Dec L R) :
  (∃ A B S,Dec (rem L a b) ((if A = [] then [] else [A]) ++ (if B = [] then [] else [B]) ++ S)/\R.length = S.length + 1/\Wk (nx L) (nx L (a,b)) A (b,a)/\Wk (nx L) (nx L (b,a)) B (a,b))\/
  (∃ A B S,Dec (rem L a b) ((A ++ B) :: S)/\R.length = S.length + 2/\A≠[]/\B≠[]/\Wk (nx (rem L a b)) (nx L (a,b)) A (nx L (b,a))/\Wk (nx (rem L a b)) (nx L (b,a)) B (nx L (a,b))/\(∀ d∈A ++ B,Dt (rem L a b) d)):=by
 obtain ⟨b0,b1,b2,b3⟩:=h.back m;have hb:Dt L (b,a):=⟨b0,b1,b3⟩;have ne:(a,b)≠(b,a):=fun z=>b2 (congrArg Prod.fst z).symm;have spec:∀ d,Dt L d->d≠(a,b)->d≠(b,a)->nx (rem L a b) d = if nx L d = (b,a) then nx L (a,b) else if nx L d = (a,b) then nx L (b,a) else nx L d:=fun d h0 h1 h2=>gk m h ((bG m h).mpr ⟨h0,h1,h2⟩)
 obtain ⟨v,S,D1,JP,kv,_⟩:=D.front h;have iT:=D1.nd;rw [flatten_cons,cons_append,nodup_cons,mem_append] at iT;obtain ⟨wO,DZ⟩:=iT;obtain ⟨UI,UM,UH⟩:=List.nodup_append.mp DZ;have La:∀ d∈v,Dt L d:=fun d hd=>(D1.mem d).mp (by rw [flatten_cons]; exact mem_append_left _ (mem_cons_of_mem _ hd));by_cases q:(b,a)∈v
 ·left;obtain ⟨A,B,rfl⟩:=append_of_mem q;obtain ⟨y,kA,kB⟩:=kv.split;have:=kB.hd;subst this;have kB:=kB.tl;obtain ⟨nA,nB,nX⟩:=List.nodup_append.mp UI;obtain ⟨N8,Xz⟩:=List.nodup_cons.mp nB;have PX:(b,a)∉A:=fun z=>nX _ z _ mem_cons_self rfl;have Qb:(a,b)∉A:=fun z=>wO (.inl (mem_append_left _ z));have Qa:(a,b)∉B:=fun z=>wO (.inl (mem_append_right _ (mem_cons_of_mem _ z)));refine ⟨A,B,S,⟨fun c hc=>?_,?_,fun d=>?_⟩,JP,kA,kB⟩
  ·rcases List.mem_append.mp hc with hc | hc
   ·rcases List.mem_append.mp hc with hc | hc
    ·by_cases z:A = []
     ·rw [if_pos z] at hc; cases hc
     ·rw [if_neg z] at hc;rw [List.mem_singleton.mp hc];have k2:Wk (nx (rem L a b)) (nx L (a,b)) A (nx L (a,b)):=kA.new z PX (fun d hd e=>by rw [spec d (La d (mem_append_left _ hd)) (fun y=>Qb (y▸hd)) (fun y=>PX (y▸hd)),if_pos e]) fun d hd e=>by
       rw [spec d (La d (mem_append_left _ hd)) (fun y=>Qb (y▸hd)) (fun y=>PX (y▸hd)),if_neg e,if_neg];intro y;rcases kA.on d hd with w | w
       ·exact Qb (y▸w)
       ·exact e w
      cases A with
      | nil=>exact absurd rfl z
      | cons p A=>have:=k2.hd; subst this; exact ⟨_,_,rfl,k2⟩
    ·by_cases z:B = []
     ·rw [if_pos z] at hc; cases hc
     ·rw [if_neg z] at hc;rw [List.mem_singleton.mp hc];have dB:∀ d∈B,Dt L d:=fun d hd=>La d (mem_append_right _ (mem_cons_of_mem _ hd));have k2:Wk (nx (rem L a b)) (nx L (b,a)) B (nx L (b,a)):=kB.new z Qa (fun d hd e=>by rw [spec d (dB d hd) (fun y=>Qa (y▸hd)) (fun y=>N8 (y▸hd)),e,if_neg ne,if_pos rfl]) fun d hd e=>by
       rw [spec d (dB d hd) (fun y=>Qa (y▸hd)) (fun y=>N8 (y▸hd)),if_neg,if_neg e];intro y;rcases kB.on d hd with w | w
       ·exact N8 (y▸w)
       ·exact e w
      cases B with
      | nil=>exact absurd rfl z
      | cons p B=>have:=k2.hd; subst this; exact ⟨_,_,rfl,k2⟩
   ·have cy:=D1.jB c (mem_cons_of_mem _ hc);have Oo:∀ d∈c,d∈S.flatten:=fun d hd=>List.mem_flatten.mpr ⟨c,hc,hd⟩;have JH:(a,b)∉c:=fun z=>wO (.inr (Oo _ z));have JG:(b,a)∉c:=fun z=>UH _ q _ (Oo _ z) rfl;obtain ⟨p,r,rfl,k⟩:=id cy;refine ⟨p,r,rfl,k.congr fun d hd=>?_⟩;have dd:Dt L d:=(D1.mem d).mp (by rw [flatten_cons]; exact mem_append_right _ (Oo d hd));have on:=cy.on hd;have o1:nx L d≠(b,a):=fun y=>JG (by rw [<- y]; exact on);have o2:nx L d≠(a,b):=fun y=>JH (by rw [<- y]; exact on);rw [spec d dd (fun y=>JH (y▸hd)) (fun y=>JG (y▸hd)),if_neg o1,if_neg o2]
  ·have fA:∀ A:List aq,(if A = [] then ([]:List (List aq)) else [A]).flatten = A:=fun A=>by
    by_cases z:A = []
    ·rw [if_pos z,z]; rfl
    ·rw [if_neg z]; simp
   rw [flatten_append,flatten_append,fA,fA,append_assoc];have:(A ++ (B ++ S.flatten)).Perm (A ++ (B ++ S.flatten)):=List.Perm.refl _;have e:((A ++ (b,a) :: B) ++ S.flatten).Perm ((b,a) :: (A ++ (B ++ S.flatten))):=by
    rw [append_assoc,cons_append];exact perm_middle
   exact (List.nodup_cons.mp (e.nodup_iff.mp DZ)).2
  ·have fA:∀ A:List aq,(if A = [] then ([]:List (List aq)) else [A]).flatten = A:=fun A=>by
    by_cases z:A = []
    ·rw [if_pos z,z]; rfl
    ·rw [if_neg z]; simp
   rw [flatten_append,flatten_append,fA,fA,append_assoc,bG m h,<- D1.mem];have e:((A ++ (b,a) :: B) ++ S.flatten).Perm ((b,a) :: (A ++ (B ++ S.flatten))):=by
    rw [append_assoc,cons_append];exact perm_middle
   have e2:=List.nodup_cons.mp (e.nodup_iff.mp DZ);rw [flatten_cons,cons_append];have e3:(a,b)∉A ++ (B ++ S.flatten):=fun z=>wO (List.mem_append.mp (e.mem_iff.mpr (mem_cons_of_mem _ z)));constructor
   ·intro z;exact ⟨mem_cons_of_mem _ (e.mem_iff.mpr (mem_cons_of_mem _ z)),fun y=>e3 (y▸z),fun y=>e2.1 (y▸z)⟩
   ·rintro ⟨z,z1,z2⟩;rcases List.mem_cons.mp z with z | z
    ·exact absurd z z1
    ·rcases List.mem_cons.mp (e.mem_iff.mp z) with z | z
     ·exact absurd z z2
     ·exact z
 ·right;have q2:(b,a)∈S.flatten:=by
   have:=(D1.mem (b,a)).mpr hb;rw [flatten_cons,cons_append] at this;rcases List.mem_cons.mp this with z | z
   ·exact absurd z.symm ne
   ·rcases List.mem_append.mp z with z | z
    ·exact absurd z q
    ·exact z
  obtain ⟨c,hc,VT⟩:=List.mem_flatten.mp q2;obtain ⟨T,pT⟩:=nR hc;obtain ⟨w,pw,kw⟩:=(D1.jB c (mem_cons_of_mem _ hc)).turn VT;have pS:S.flatten.Perm (((b,a) :: w) ++ T.flatten):=by
   refine pT.flatten.trans ?_;rw [flatten_cons];exact pw.symm.append_right _
  have nS:=pS.nodup_iff.mp UM;rw [cons_append,nodup_cons,mem_append] at nS;obtain ⟨UO,Xy⟩:=nS;have WD:(a,b)∉S.flatten:=fun z=>wO (.inr z);have P7:(a,b)∉w:=fun z=>WD (pS.mem_iff.mpr (mem_append_left _ (mem_cons_of_mem _ z)));have PV:(b,a)∉w:=fun z=>UO (.inl z);have P8:(a,b)∉v:=fun z=>wO (.inl z);have SD:∀ d∈w,Dt L d:=fun d hd=>(D1.mem d).mp (by rw [flatten_cons]; exact mem_append_right _ (pS.mem_iff.mpr (mem_append_left _ (mem_cons_of_mem _ hd))));have v0:v≠[]:=fun z=>by
   rw [z] at kv;have:nx L (a,b) = (a,b):=kv.nil_eq;exact b2 (congrArg Prod.fst this)
  have w0:w≠[]:=fun z=>by
   rw [z] at kw;have:nx L (b,a) = (b,a):=kw.nil_eq;exact b2 (congrArg Prod.fst this).symm
  have k1:Wk (nx (rem L a b)) (nx L (a,b)) v (nx L (b,a)):=kv.new v0 P8 (fun d hd e=>by rw [spec d (La d hd) (fun y=>P8 (y▸hd)) (fun y=>q (y▸hd)),e,if_neg ne,if_pos rfl]) fun d hd e=>by
   rw [spec d (La d hd) (fun y=>P8 (y▸hd)) (fun y=>q (y▸hd)),if_neg,if_neg e];intro y;rcases kv.on d hd with u | u
   ·exact q (y▸u)
   ·exact e u
  have k2:Wk (nx (rem L a b)) (nx L (b,a)) w (nx L (a,b)):=kw.new w0 PV (fun d hd e=>by rw [spec d (SD d hd) (fun y=>P7 (y▸hd)) (fun y=>PV (y▸hd)),if_pos e]) fun d hd e=>by
   rw [spec d (SD d hd) (fun y=>P7 (y▸hd)) (fun y=>PV (y▸hd)),if_neg e,if_neg];intro y;rcases kw.on d hd with u | u
   ·exact P7 (y▸u)
   ·exact e u
  have pe:((a,b) :: (v ++ S.flatten)).Perm ((a,b) :: (b,a) :: ((v ++ w) ++ T.flatten)):=by
   refine List.Perm.cons _ ?_;rw [append_assoc];exact (pS.append_left v).trans (by rw [cons_append]; exact perm_middle)
  have nA:((a,b) :: (b,a) :: ((v ++ w) ++ T.flatten)).Nodup:=pe.nodup_iff.mp (List.nodup_cons.mpr ⟨fun z=>wO (List.mem_append.mp z),DZ⟩);obtain ⟨Ry,UQ⟩:=List.nodup_cons.mp nA;obtain ⟨Rx,UP⟩:=List.nodup_cons.mp UQ;have mm:∀ d,d∈(v ++ w) ++ T.flatten↔Dt (rem L a b) d:=fun d=>by
   rw [bG m h,<- D1.mem,flatten_cons,cons_append,pe.mem_iff];constructor
   ·intro z;exact ⟨mem_cons_of_mem _ (mem_cons_of_mem _ z),fun y=>Ry (mem_cons_of_mem _ (y▸z)),fun y=>Rx (y▸z)⟩
   ·rintro ⟨z,z1,z2⟩;rcases List.mem_cons.mp z with z | z
    ·exact absurd z z1
    ·rcases List.mem_cons.mp z with z | z
     ·exact absurd z z2
     ·exact z
  refine ⟨v,w,T,⟨fun s hs=>?_,by rw [flatten_cons]; exact UP,fun d=>by rw [flatten_cons]; exact mm d⟩,by rw [JP,pT.length_eq]; rfl,v0,w0,k1,k2,fun d hd=>(mm d).mp (mem_append_left _ hd)⟩;rcases List.mem_cons.mp hs with z | z
  ·rw [z];have k:=k1.append k2;cases v with
   | nil=>exact absurd rfl v0
   | cons p v=>have:=k1.hd; subst this; exact ⟨_,_,rfl,k⟩
  ·have Vt:s∈S:=pT.mem_iff.mpr (mem_cons_of_mem _ z);have cy:=D1.jB s (mem_cons_of_mem _ Vt);have Om:∀ d∈s,d∈T.flatten:=fun d hd=>List.mem_flatten.mpr ⟨s,z,hd⟩;have JH:(a,b)∉s:=fun y=>Ry (mem_cons_of_mem _ (mem_append_right _ (Om _ y)));have JG:(b,a)∉s:=fun y=>Rx (mem_append_right _ (Om _ y));obtain ⟨p,r,rfl,k⟩:=id cy;refine ⟨p,r,rfl,k.congr fun d hd=>?_⟩;have dd:Dt L d:=((bG m h).mp ((mm d).mp (mem_append_right _ (Om d hd)))).1;have on:=cy.on hd;have o1:nx L d≠(b,a):=fun y=>JG (by rw [<- y]; exact on);have o2:nx L d≠(a,b):=fun y=>JH (by rw [<- y]; exact on);rw [spec d dd (fun y=>JH (y▸hd)) (fun y=>JG (y▸hd)),if_neg o1,if_neg o2]
end
def iso (L:List (List Int)):Nat:=L.countP (·.isEmpty)
def eJ (L:List (List Int)) (S:List Int):Prop:=∀ x:Int,0<=x->x < L.length->∃ s∈S,Reach L s x
theorem Reach.one {L:List (List Int)} {s:Int} {d:aq} (h:Reach L s d.1) (q:Dt L d):Reach L s d.2:=by
 have e:((d.1.toNat:Nat):Int) = d.1:=Int.toNat_of_nonneg q.lo;exact .step (i:=d.1.toNat) (by rw [e]; exact h) (ay q.lo q.hi) q.mem
theorem Reach.trans {L:List (List Int)} {s x y:Int} (h:Reach L s x) (k:Reach L x y):Reach L s y:=by
 induction k with
 | here=>exact h
 | step _ e hx ih=>exact .step ih e hx
theorem Reach.oY {L:List (List Int)} {i:Nat} {l:List Int} {x:Int} (e:L[i]? = some l) (hx:x∈l):Dt L ((i:Int),x):=by
 have hi:=(List.getElem?_eq_some_iff.mp e).1;have:=ay (L:=L) (a:=(i:Int)) (by omega) (by omega);rw [Int.toNat_natCast,e] at this;exact ⟨by simp,by simpa using hi,by rw [<- Option.some.inj this]; exact hx⟩
section
variable {L:List (List Int)} {a b:Int}
theorem Reach.off (m:av L) (h:Dt L (a,b)) {s x:Int} (r:Reach L s x):Reach (rem L a b) s x\/Reach (rem L a b) a x\/Reach (rem L a b) b x:=by
 induction r with
 | here=>exact .inl .here
 | step r e hx ih=>
  rename_i i l y;have d:=Reach.oY e hx;by_cases e1:((i:Int),y) = (a,b)
  ·have:y = b:=congrArg Prod.snd e1;rw [this]; exact .inr (.inr .here)
  ·by_cases e2:((i:Int),y) = (b,a)
   ·have:y = a:=congrArg Prod.snd e2;rw [this]; exact .inr (.inl .here)
   ·have d2:=(bG m h).mpr ⟨d,e1,e2⟩;rcases ih with z | z | z
    ·exact .inl (Reach.one (d:=((i:Int),y)) z d2)
    ·exact .inr (.inl (Reach.one (d:=((i:Int),y)) z d2))
    ·exact .inr (.inr (Reach.one (d:=((i:Int),y)) z d2))
theorem Reach.near (m:av L) (h:Dt L (a,b)) {s x:Int} (r:Reach L s x):Reach (rem L a b) s x\/Reach (rem L a b) s a\/Reach (rem L a b) s b:=by
 induction r with
 | here=>exact .inl .here
 | step r e hx ih=>
  rename_i i l y;have d:=Reach.oY e hx;rcases ih with z | z
  ·by_cases e1:((i:Int),y) = (a,b)
   ·have:(i:Int) = a:=congrArg Prod.fst e1;rw [this] at z; exact .inr (.inl z)
   ·by_cases e2:((i:Int),y) = (b,a)
    ·have:(i:Int) = b:=congrArg Prod.fst e2;rw [this] at z; exact .inr (.inr z)
    ·exact .inl (Reach.one (d:=((i:Int),y)) z ((bG m h).mpr ⟨d,e1,e2⟩))
  ·exact .inr z
theorem Wk.reach {x y:aq} {l:List aq} (h:Wk (nx L) x l y) (q:∀ d∈l,Dt L d):Reach L x.1 y.1:=by
 induction h with
 | nil _=>exact .here
 | @cons x y l _ ih=>
  have d:=q x mem_cons_self;exact (Reach.one (d:=x) .here d).trans (ih fun d hd=>q d (mem_cons_of_mem _ hd))
theorem eJ.more (m:av L) (h:Dt L (a,b)) {S:List Int} (s:eJ L S):∃ t,eJ (rem L a b) (t :: S):=by
 obtain ⟨b0,b1,b2,b3⟩:=h.back m;obtain ⟨s0,Ke,r0⟩:=s a h.lo h.hi;have pick:Reach (rem L a b) s0 a\/Reach (rem L a b) s0 b:=by
  rcases r0.near m h with z | z | z
  ·exact .inl z
  ·exact .inl z
  ·exact .inr z
 rcases pick with p | p
 ·refine ⟨b,fun x x0 x1=>?_⟩;rw [cL] at x1;obtain ⟨s1,Kc,r1⟩:=s x x0 x1;rcases r1.off m h with z | z | z
  ·exact ⟨s1,mem_cons_of_mem _ Kc,z⟩
  ·exact ⟨s0,mem_cons_of_mem _ Ke,p.trans z⟩
  ·exact ⟨b,mem_cons_self,z⟩
 ·refine ⟨a,fun x x0 x1=>?_⟩;rw [cL] at x1;obtain ⟨s1,Kc,r1⟩:=s x x0 x1;rcases r1.off m h with z | z | z
  ·exact ⟨s1,mem_cons_of_mem _ Kc,z⟩
  ·exact ⟨a,mem_cons_self,z⟩
  ·exact ⟨s0,mem_cons_of_mem _ Ke,p.trans z⟩
theorem eJ.E3 (m:av L) (h:Dt L (a,b)) (r1:Reach (rem L a b) a b) (r2:Reach (rem L a b) b a) {S:List Int} (s:eJ L S):eJ (rem L a b) S:=by
 obtain ⟨s0,Ke,r0⟩:=s a h.lo h.hi;have pick:Reach (rem L a b) s0 a:=by
  rcases r0.near m h with z | z | z
  ·exact z
  ·exact z
  ·exact z.trans r2
 intro x x0 x1;rw [cL] at x1;obtain ⟨s1,Kc,q⟩:=s x x0 x1;rcases q.off m h with z | z | z
 ·exact ⟨s1,Kc,z⟩
 ·exact ⟨s0,Ke,pick.trans z⟩
 ·exact ⟨s0,Ke,(pick.trans r1).trans z⟩
theorem mI (m:av L) (h:Dt L (a,b)):iso (rem L a b) = iso L + (if (rowOf L b).erase a = [] then 1 else 0) + (if (rowOf L a).erase b = [] then 1 else 0):=by
 obtain ⟨b0,b1,b2,b3⟩:=h.back m;have a0:=h.lo;have a1:=h.hi;have hm:=h.mem;dsimp only at a0 a1 b0 b1 b2 b3 hm;have la:a.toNat < L.length:=by omega
 have lb:b.toNat < L.length:=by omega
 have ea:L[a.toNat] = rowOf L a:=by have:=ay a0 a1; rw [getElem?_eq_getElem la] at this; exact Option.some.inj this
 have eb:L[b.toNat] = rowOf L b:=by have:=ay b0 b1; rw [getElem?_eq_getElem lb] at this; exact Option.some.inj this
 have na:(rowOf L a).isEmpty = false:=by cases q:rowOf L a with | nil=>rw [q] at hm; cases hm | cons _ _=>rfl
 have nb:(rowOf L b).isEmpty = false:=by cases q:rowOf L b with | nil=>rw [q] at b3; cases b3 | cons _ _=>rfl
 have iE:∀ l:List Int,(if l.isEmpty = true then 1 else 0) = (if l = [] then 1 else 0):=fun l=>by cases l <;> simp
 unfold iso rem;have iV:¬ a.toNat = b.toNat:=by omega
 have e1:(L.set a.toNat ((rowOf L a).erase b))[b.toNat]'(by rw [length_set]; exact lb) = rowOf L b:=by rw [getElem_set,if_neg iV,eb]
 rw [countP_set (by rw [length_set]; exact lb),countP_set la,e1,ea,na,nb,iE,iE];simp only [Bool.false_eq_true,if_false,Nat.sub_zero];omega
theorem dq (m:av L) (h:Dt L (a,b)):(rowOf L b).erase a = []↔nx L (a,b) = (b,a):=by
 obtain ⟨b0,b1,b2,b3⟩:=h.back m;dsimp only at b0 b1 b2 b3;have n:=m.nd _ _ (ay b0 b1);constructor
 ·intro z;have:rowOf L b = [a]:=by
   obtain ⟨u,v,e⟩:=append_of_mem b3;rw [e] at z n ⊢;have yu:a∉u:=fun y=>(List.nodup_append.mp n).2.2 a y a mem_cons_self rfl;rw [erase_append_right _ yu,erase_cons_head] at z;obtain ⟨z1,z2⟩:=List.append_eq_nil_iff.mp z;rw [z1,z2]; rfl
  unfold nx;rw [this];refine Prod.ext rfl ?_;show pre [a] a = a;unfold pre cy;simp [Nat.mod_one]
 ·intro z;have e:pre (rowOf L b) a = a:=congrArg Prod.snd z;rw [iC n b3 e];simp
theorem K4:∀ (N:Nat) {L:List (List Int)} {R:List (List aq)} {S:List Int},(ck L L.length).length = N->av L->Dec L R->eJ L S->
  ∃ E t:Int,(N:Int) = 2 * E/\(L.length:Int) + R.length + iso L = E + 2 * t/\t<=S.length:=by
 intro N
 induction N using Nat.strongRecOn with
 | _ N ih=>
 intro L R S hN m D s;cases hd:ck L L.length with
 | nil=>
  rw [hd] at hN;have no:∀ d,¬ Dt L d:=fun d z=>by have:=z.all; rw [hd] at this; cases this
  have R0:R = []:=by
   cases R with
   | nil=>rfl
   | cons c R=>
    obtain ⟨x,l,rfl,_⟩:=D.jB c mem_cons_self;exact absurd ((D.mem x).mp (by simp)) (no x)
  have i0:iso L = L.length:=by
   unfold iso;refine List.countP_eq_length.mpr fun l hl=>?_;obtain ⟨i,hi,rfl⟩:=List.mem_iff_getElem.mp hl;cases q:L[i] with
   | nil=>rfl
   | cons x r=>exact absurd (Reach.oY (i:=i) (getElem?_eq_getElem hi) (by rw [q]; exact mem_cons_self)) (no _)
  have le:L.length<=S.length:=by
   have:=dJ (l:=(List.range L.length).map fun i:Nat=>(i:Int)) (r:=S) (List.Pairwise.map _ (fun x y mr z=>mr (by omega)) nodup_range) fun x hx=>by
    obtain ⟨i,hi,rfl⟩:=List.mem_map.mp hx;have hi:=List.mem_range.mp hi;obtain ⟨s0,hs,r⟩:=s i (by omega) (by omega);cases r with
    | here=>exact hs
    | step _ e hx=>exact absurd (Reach.oY e hx) (no _)
   simpa using this
  refine ⟨0,L.length,by rw [<- hN]; rfl,by rw [R0,i0]; simp; omega,by omega⟩
 | cons d rest=>
  obtain ⟨a,b⟩:=d;have h:Dt L (a,b):=Dt.of (by rw [hd]; exact mem_cons_self);obtain ⟨b0,b1,b2,b3⟩:=h.back m;have hb:Dt L (b,a):=⟨b0,b1,b3⟩;have m':=mH m h;have lN:=(iA m h).2;rw [hN] at lN;have xi:=mI m h;have ib:=dq m h;have ia:(rowOf L a).erase b = []↔nx L (b,a) = (a,b):=dq m hb;rcases mJ m h D with ⟨A,B,T,D',lR,kA,kB⟩ | ⟨A,B,T,D',lR,A0,B0,kA,kB,dd⟩
  ·obtain ⟨t0,s'⟩:=s.more m h;obtain ⟨E,t,e1,e2,e3⟩:=ih _ (by omega) rfl m' D' s';have eA:A = []↔nx L (a,b) = (b,a):=by
    constructor
    ·intro z; rw [z] at kA; exact kA.nil_eq
    ·intro z;cases A with
     | nil=>rfl
     | cons p A=>
      have hp:=kA.hd;have dt:Dt (rem L a b) p:=(D'.mem p).mp (List.mem_flatten.mpr ⟨p :: A,by simp,mem_cons_self⟩);rw [hp,z] at dt;exact absurd rfl ((bG m h).mp dt).2.2
   have eB:B = []↔nx L (b,a) = (a,b):=by
    constructor
    ·intro z; rw [z] at kB; exact kB.nil_eq
    ·intro z;cases B with
     | nil=>rfl
     | cons p B=>
      have hp:=kB.hd;have dt:Dt (rem L a b) p:=(D'.mem p).mp (List.mem_flatten.mpr ⟨p :: B,by simp,mem_cons_self⟩);rw [hp,z] at dt;exact absurd rfl ((bG m h).mp dt).2.1
   have l1:∀ A:List aq,((if A = [] then [] else [A]):List (List aq)).length = if A = [] then 0 else 1:=fun A=>by
    by_cases z:A = []
    ·rw [if_pos z,if_pos z]; rfl
    ·rw [if_neg z,if_neg z]; rfl
   have key:(if A = [] then 0 else 1) + (if (rowOf L b).erase a = [] then 1 else 0) = 1:=by
    by_cases z:A = []
    ·rw [if_pos z,if_pos (ib.mpr (eA.mp z))]
    ·rw [if_neg z,if_neg (fun y=>z (eA.mpr (ib.mp y)))]
   have Og:(if B = [] then 0 else 1) + (if (rowOf L a).erase b = [] then 1 else 0) = 1:=by
    by_cases z:B = []
    ·rw [if_pos z,if_pos (ia.mpr (eB.mp z))]
    ·rw [if_neg z,if_neg (fun y=>z (eB.mpr (ia.mp y)))]
   rw [length_append,length_append,l1,l1,cL,xi] at e2;rw [length_cons] at e3;refine ⟨E + 1,t - 1,by omega,by omega,by omega⟩
  ·have CW:∀ d∈A,Dt (rem L a b) d:=fun d hd=>dd d (mem_append_left _ hd);have Lj:∀ d∈B,Dt (rem L a b) d:=fun d hd=>dd d (mem_append_right _ hd);have r2:Reach (rem L a b) b a:=kA.reach CW;have r1:Reach (rem L a b) a b:=kB.reach Lj;obtain ⟨E,t,e1,e2,e3⟩:=ih _ (by omega) rfl m' D' (s.E3 m h r1 r2);have nb:¬ (rowOf L b).erase a = []:=fun z=>by
    cases A with
    | nil=>exact A0 rfl
    | cons p A=>
     have hp:=kA.hd;have dt:=CW p mem_cons_self;rw [hp,ib.mp z] at dt;exact ((bG m h).mp dt).2.2 rfl
   have na:¬ (rowOf L a).erase b = []:=fun z=>by
    cases B with
    | nil=>exact B0 rfl
    | cons p B=>
     have hp:=kB.hd;have dt:=Lj p mem_cons_self;rw [hp,ia.mp z] at dt;exact ((bG m h).mp dt).2.1 rfl
   rw [if_neg nb,if_neg na] at xi;rw [length_cons,cL,xi] at e2;exact ⟨E + 1,t,by omega,by omega,e3⟩
end
theorem Wk.all {f:aq->aq} {x y:aq} {l:List aq} {P:aq->Prop} (h:Wk f x l y) (hx:P x) (s:∀ d∈l,P d->P (f d)):∀ d∈l,P d:=by
 induction h with
 | nil _=>intro d hd; cases hd
 | @cons x y l _ ih=>
  intro d hd;rcases List.mem_cons.mp hd with e | e
  ·rw [e]; exact hx
  ·exact ih (s x mem_cons_self hx) (fun d hd=>s d (mem_cons_of_mem _ hd)) d e
theorem rQ.conn {f:aq->aq} {c:List aq} {x y:aq} {P:aq->Prop} (h:rQ f c) (hx:x∈c) (hy:y∈c) (px:P x) (s:∀ d∈c,P d->P (f d)):P y:=by
 obtain ⟨v,p,k⟩:=h.turn hx;have k2:Wk f x (x :: v) x:=.cons k;exact k2.all px (fun d hd=>s d (p.mem_iff.mp hd)) y (p.mem_iff.mpr hy)
theorem Ab {R:List (List aq)} (n:R.flatten.Nodup) {c e:List aq} {d:aq} (hc:c∈R) (he:e∈R) (h1:d∈c) (h2:d∈e):c = e:=by
 have p:=(List.pairwise_flatten.mp n).2;obtain ⟨i,hi,rfl⟩:=List.mem_iff_getElem.mp hc;obtain ⟨j,hj,rfl⟩:=List.mem_iff_getElem.mp he;have q:=List.pairwise_iff_getElem.mp p;rcases Nat.lt_trichotomy i j with z | z | z
 ·exact absurd rfl (q i j hi hj z d h1 d h2)
 ·subst z; rfl
 ·exact absurd rfl (q j i hj hi z d h2 d h1)
def Ek (c:List aq):aq:=c.headD (0,0)
def rep (R:List (List aq)) (d:aq):aq:=((R.find? fun c=>decide (d∈c)).map Ek).getD (0,0)
theorem wG {R:List (List aq)} {d:aq} (h:d∈R.flatten):∃ c∈R,d∈c/\rep R d = Ek c:=by
 obtain ⟨c,hc,hd⟩:=List.mem_flatten.mp h;unfold rep;cases q:R.find? fun c=>decide (d∈c) with
 | none=>have:=List.find?_eq_none.mp q c hc; simp [hd] at this
 | some e=>
  have h1:=find?_some q;exact ⟨e,mem_of_find?_eq_some q,by simpa using h1,rfl⟩
theorem oI {c:List aq} (h:c≠[]):Ek c∈c:=by cases c with | nil=>exact absurd rfl h | cons a l=>exact mem_cons_self
theorem Dec.le {L:List (List Int)} {R S:List (List aq)} (h:Dec L R) (k:Dec L S):R.length<=S.length:=by
 have hm:∀ c∈R,Ek c∈S.flatten:=fun c hc=>(k.mem _).mpr ((h.mem _).mp (List.mem_flatten.mpr ⟨c,hc,oI (h.jB c hc).ne⟩));have n:(R.map fun c=>rep S (Ek c)).Nodup:=by
  have p:=(List.pairwise_flatten.mp h.nd).2;refine List.Pairwise.map _ (fun x y mr=>mr) (List.Pairwise.imp_of_mem (fun {c e} hc he VP z=>?_) p);obtain ⟨c',h1,h2,h3⟩:=wG (hm c hc);obtain ⟨e',g1,g2,g3⟩:=wG (hm e he);rw [h3,g3] at z;have ee:c' = e':=Ab k.nd h1 g1 (oI (k.jB c' h1).ne) (by rw [z]; exact oI (k.jB e' g1).ne);subst ee;have:Ek e∈c:=(k.jB c' h1).conn (P:=fun d=>d∈c) h2 g2 (oI (h.jB c hc).ne) fun d _ hd=>(h.jB c hc).on hd;exact VP _ this _ (oI (h.jB e he).ne) rfl
 have:=dJ n (r:=S.map Ek) fun x hx=>by
  obtain ⟨c,hc,rfl⟩:=List.mem_map.mp hx;obtain ⟨c',h1,h2,h3⟩:=wG (hm c hc);rw [h3];exact List.mem_map.mpr ⟨c',h1,rfl⟩
 simpa using this
theorem Dec.count {L:List (List Int)} {R S:List (List aq)} (h:Dec L R) (k:Dec L S):R.length = S.length:=Nat.le_antisymm (h.le k) (k.le h)
theorem EU {L:List (List Int)} {r:List Int} (g:Good L r):∀ (n s:Nat),Wk (nx L) (dj r s) ((List.range n).map fun j=>dj r (j + s)) (dj r (s + n))
 | 0,s=>.nil _
 | n + 1,s=>by
  have e2:(List.range (n + 1)).map (fun j=>dj r (j + s)) = dj r s :: (List.range n).map (fun j=>dj r (j + (s + 1))):=by
   rw [range_succ_eq_map,map_cons,map_map,Nat.zero_add]
   congr 1
   refine map_congr_left fun j _=>?_;show dj r (j + 1 + s) = _
   congr 1
   omega
  rw [e2];refine .cons ?_;rw [g.st,show s + (n + 1) = s + 1 + n by omega];exact EU g n (s + 1)
theorem Good.jB {L:List (List Int)} {r:List Int} (g:Good L r):rQ (nx L) (sh 0 r):=by
 have k:=EU g r.length 0;have e:dj r (0 + r.length) = dj r 0:=ft (by rw [Nat.zero_add,Nat.mod_self,Nat.zero_mod]);rw [e] at k;have two:=g.two;have k':Wk (nx L) (dj r 0) (sh 0 r) (dj r 0):=k;cases q:sh 0 r with
 | nil=>have:=bR 0 r; rw [q] at this; simp at this; omega
 | cons x l=>
  rw [q] at k';have:=k'.hd;subst this;exact ⟨_,_,rfl,k'⟩
theorem bj.dec {L R:List (List Int)} (h:bj L R):Dec L (R.map (sh 0)):=by
 have e:(R.map (sh 0)).flatten = R.flatMap (sh 0):=rfl;refine ⟨fun c hc=>?_,by rw [e]; exact h.nd,fun d=>?_⟩
 ·obtain ⟨r,hr,rfl⟩:=List.mem_map.mp hc;exact (h.good r hr).jB
 ·rw [e];constructor
  ·intro z;obtain ⟨r,hr,hd⟩:=List.mem_flatMap.mp z;obtain ⟨j,rfl⟩:=(df (by have:=(h.good r hr).two; omega)).mp hd;exact (h.good r hr).dt j
  ·exact h.all d
theorem fh {L:List (List Int)}:∀ {k:Nat} {d:aq},k<=L.length->(d∈cO L k↔0<=d.1/\d.1 < k/\d.1 < d.2/\d.2 < L.length/\d.2∈rowOf L d.1)
 | 0,d,_=>by simp only [cO,not_mem_nil,false_iff]; intro h; omega
 | k + 1,d,hk=>by
  rw [cO,mem_append,fh (by omega),mem_map];have er:L.getD k [] = rowOf L (k:Int):=rfl;rw [er];constructor
  ·rintro (⟨h1,h2,h3⟩ | ⟨x,hx,rfl⟩)
   ·exact ⟨h1,by omega,h3⟩
   ·have:=iF.mp hx;exact ⟨by simp,by simp; omega,this.1,by have:=this.2.1; dsimp only; omega,this.2.2⟩
  ·rintro ⟨h1,h2,h3,h4,h5⟩;by_cases e:d.1 = k
   ·right;rw [e] at h5 h3;exact ⟨d.2,iF.mpr ⟨h3,by omega,h5⟩,Prod.ext e.symm rfl⟩
   ·left; exact ⟨h1,by omega,h3,h4,h5⟩
theorem oh {L:List (List Int)}:∀ {k:Nat},k<=L.length->(cO L k).Nodup
 | 0,_=>.nil
 | k + 1,hk=>by
  rw [cO,nodup_append];refine ⟨oh (by omega),?_,fun a ha b hb z=>?_⟩
  ·exact List.Pairwise.map _ (fun x y mr z=>by have:=congrArg Prod.snd z; dsimp only at this; omega) (hJ (i:=k) (l:=L.getD k []) (L.length - (k + 1)))
  ·have:=((fh (by omega)).mp ha).2.1;obtain ⟨x,_,rfl⟩:=List.mem_map.mp hb;rw [z] at this;simp at this
theorem vD:∀ (l:List aq) (p:aq->Bool),l.length = (l.filter p).length + (l.filter fun d=>!p d).length
 | [],_=>rfl
 | x :: l,p=>by
  have:=vD l p;cases q:p x with
  | true=>rw [filter_cons_of_pos q,filter_cons_of_neg (by simp [q]),length_cons,length_cons]; omega
  | false=>rw [filter_cons_of_neg (by simp [q]),filter_cons_of_pos (by simp [q]),length_cons,length_cons]; omega
theorem bp {L:List (List Int)} (m:av L):(ck L L.length).length = 2 * (cO L L.length).length:=by
 have n:=bS m (Nat.le_refl L.length);have nd:=oh (L:=L) (Nat.le_refl L.length);have s:=vD (ck L L.length) (fun d:aq=>decide (d.1 < d.2));have e1:((ck L L.length).filter fun d=>decide (d.1 < d.2)).length = (cO L L.length).length:=by
  refine len_eq (n.filter _) nd fun d=>?_;rw [mem_filter,fh (Nat.le_refl _)];constructor
  ·rintro ⟨h1,h2⟩;have q:=Dt.of h1;exact ⟨q.lo,q.hi,by simpa using h2,(q.back m).2.1,q.mem⟩
  ·rintro ⟨h1,h2,h3,h4,h5⟩;exact ⟨Dt.all ⟨h1,h2,h5⟩,by simpa using h3⟩
 have e2:((ck L L.length).filter fun d=>!decide (d.1 < d.2)).length = ((cO L L.length).map fun d=>(d.2,d.1)).length:=by
  have uY:((cO L L.length).map fun d=>(d.2,d.1)).Nodup:=List.Pairwise.map _ (fun x y mr z=>mr (Prod.ext (congrArg Prod.snd z) (congrArg Prod.fst z))) nd;refine len_eq (n.filter _) uY fun d=>?_
  ·rw [mem_filter,mem_map];constructor
   ·rintro ⟨h1,h2⟩;have q:=Dt.of h1;obtain ⟨b0,b1,b2,b3⟩:=q.back m;refine ⟨(d.2,d.1),(fh (Nat.le_refl _)).mpr ⟨b0,b1,?_,q.hi,b3⟩,rfl⟩;have:¬ d.1 < d.2:=by simpa using h2
    dsimp only;omega
   ·rintro ⟨e,he,rfl⟩;obtain ⟨h1,h2,h3,h4,h5⟩:=(fh (Nat.le_refl _)).mp he;obtain ⟨b0,b1,b2,b3⟩:=Dt.back (d:=e) ⟨h1,h2,h5⟩ m;refine ⟨Dt.all ⟨b0,b1,b3⟩,?_⟩;have:¬ e.2 < e.1:=by omega
    simpa using this
 rw [length_map] at e2;omega
theorem ET {L:List (List Int)} {d:aq}:∀ k,Wk (nx L) d (tr L d k) (it L d k)
 | 0=>.nil _
 | k + 1=>by
  have e:tr L d (k + 1) = tr L d k ++ [it L d k]:=by unfold tr; rw [range_succ,map_append]; rfl
  rw [e];exact (ET k).append (.cons (.nil _))
theorem FP {L:List (List Int)} {d:aq} {k:Nat} (hk:0 < k) (e:it L d k = d):rQ (nx L) (tr L d k):=by
 have w:=ET (L:=L) (d:=d) k;rw [e] at w;obtain ⟨j,rfl⟩:∃ j,k = j + 1:=⟨k - 1,by omega⟩;have e2:tr L d (j + 1) = d :: (tr L d (j + 1)).tail:=by unfold tr; rw [range_succ_eq_map]; rfl
 exact ⟨d,_,e2,w⟩
theorem oW {L:List (List Int)} {d:aq} (m:av L) (h:Dt L d):∃ k,0 < k/\it L d k = d/\iO L d k:=by
 have go:∀ n,(∃ k,0 < k/\it L d k = d/\iO L d k)\/iO L d (n + 1):=by
  intro n
  induction n with
  | zero=>exact .inr fun i h1 h2=>by omega
  | succ n ih=>
   rcases ih with z | z
   ·exact .inl z
   ·by_cases e:it L d (n + 1) = d
    ·exact .inl ⟨n + 1,by omega,e,z⟩
    ·refine .inr fun i h1 h2=>?_;by_cases q:i = n + 1
     ·rw [q]; exact e
     ·exact z i h1 (by omega)
 rcases go (ck L L.length).length with z | z
 ·exact z
 ·have:=oj m h z;omega
structure Dp (L:List (List Int)) (R:List (List aq)):Prop where
 jB:∀ c∈R,rQ (nx L) c
 nd:R.flatten.Nodup
 dt:∀ d∈R.flatten,Dt L d
section
variable {L:List (List Int)} {R:List (List aq)} {d:aq} {k:Nat}
theorem Dp.start:Dp L []:=⟨by simp,.nil,by simp⟩
theorem Dp.on (p:Dp L R) (h:d∈R.flatten):∀ t,it L d t∈R.flatten
 | 0=>h
 | t + 1=>by
  obtain ⟨c,hc,hd⟩:=List.mem_flatten.mp (p.on h t);exact List.mem_flatten.mpr ⟨c,hc,(p.jB c hc).on hd⟩
theorem Dp.new (p:Dp L R) (hk:0 < k) (e:it L d k = d) (n:d∉R.flatten) (j:Nat):it L d j∉R.flatten:=by
 intro h;refine n ?_;have:=p.on h (k * j - j);rw [<- oF,show j + (k * j - j) = k * j from by have:=Nat.le_mul_of_pos_left j hk; omega,Nat.mul_comm] at this;have z:=xh e (j * k);rw [Nat.mul_mod_left] at z;rw [<- z] at this;exact this
theorem Dp.add (m:av L) (p:Dp L R) (h:Dt L d) (hk:0 < k) (e:it L d k = d) (nr:iO L d k) (n:d∉R.flatten):Dp L (R ++ [tr L d k]):=by
 refine ⟨fun c hc=>?_,?_,fun x hx=>?_⟩
 ·rcases List.mem_append.mp hc with z | z
  ·exact p.jB c z
  ·rw [List.mem_singleton.mp z]; exact FP hk e
 ·rw [flatten_append,flatten_singleton,nodup_append];refine ⟨p.nd,jE m h nr,fun x hx y hy z=>?_⟩;obtain ⟨j,_,rfl⟩:=List.mem_map.mp hy;exact p.new hk e n j (z▸hx)
 ·rw [flatten_append,flatten_singleton] at hx;rcases List.mem_append.mp hx with z | z
  ·exact p.dt x z
  ·obtain ⟨j,_,rfl⟩:=List.mem_map.mp z;exact lP m h j
theorem Dp.len (p:Dp L R):R.flatten.length<=(ck L L.length).length:=dJ p.nd fun x hx=>(p.dt x hx).all
theorem Dp.Ac:∀ {R:List (List aq)},(∀ c∈R,c≠[])->R.length<=R.flatten.length
 | [],_=>Nat.le_refl _
 | c :: R,h=>by
  have:=Dp.Ac (R:=R) fun x hx=>h x (mem_cons_of_mem _ hx);have:=List.length_pos_iff.mpr (h c mem_cons_self);rw [flatten_cons,length_append,length_cons];omega
theorem Dp.dec (p:Dp L R) (all:∀ d,Dt L d->d∈R.flatten):Dec L R:=⟨p.jB,p.nd,fun d=>⟨p.dt d,all d⟩⟩
end
theorem aJ.away {H:Hp} {t b:Addr} {bs:List Addr} {R:List (List Int)} {o:HO} (g:aJ H t bs R) (n:b∉t :: bs):aJ (upd H b o) t bs R:=by
 refine ⟨?_,g.len,fun i a l h1 h2=>?_⟩
 ·rw [ak (fun z=>n (by rw [<- z]; exact mem_cons_self))]; exact g.top
 ·have am:=mem_of_getElem? h1;have ne:a≠b:=fun z=>n (by rw [<- z]; exact mem_cons_of_mem _ am);rw [ak ne];exact g.row i a l h1 h2
theorem xC {L:List (List Int)} {R:List (List aq)} {S:List Int} (m:av L) (D:Dec L R) (s:eJ L S):∃ t:Int,(L.length:Int) + R.length - (cO L L.length).length + iso L = 2 * t/\t<=S.length:=by
 obtain ⟨E,t,e1,e2,e3⟩:=K4 _ rfl m D s;have:=bp m;exact ⟨t,by omega,e3⟩
end Gm
end
section
namespace L2
open PySem PySem.Spec PySem.W PySem.Calls PyProof.Rows
theorem rk:∀ {l:List Int} {y:Int},y∈l->l.erase y = l.eraseIdx (l.idxOf y)
 | [],_,h=>by cases h
 | z :: l,y,h=>by
  by_cases e:z = y
  ·subst e; rw [erase_cons_head,idxOf_cons]; simp
  ·have e2:(z == y) = false:=beq_false_of_ne e;rw [erase_cons_tail (by simpa using e),idxOf_cons,e2,rk ((List.mem_cons.mp h).resolve_left (fun w=>e w.symm))];simp
theorem om:∀ (l:List Int) (k:Nat),(l.eraseIdx k).map V.int = (l.map V.int).eraseIdx k
 | [],_=>rfl
 | _ :: _,0=>rfl
 | x :: l,k + 1=>by rw [eraseIdx_cons_succ,map_cons,map_cons,eraseIdx_cons_succ,om l k]
section
variable {X:Cx}
def kj (ns:List Int):List Int:=ns.foldl step_dedup []
theorem xq (ns:List Int):firstMet (fun i=>ns.getD i 0) ns.length = kj ns:=by
 unfold firstMet kj;rw [show ((List.range ns.length).map fun i=>ns.getD i 0) = ns from Gm.range_getD ns]
theorem yR:∀ (ns σ : List Int),σ.Nodup->((ns.foldl step_dedup σ).length = σ.length + ns.length↔(σ ++ ns).Nodup)
 | [],σ,h=>by simp [h]
 | x :: ns,σ,h=>by
  rw [foldl_cons];by_cases e:x∈σ
  ·have e1:step_dedup σ x = σ:=by unfold step_dedup; rw [if_pos (by simpa using e)]
   rw [e1];constructor
   ·intro z;have:=foldl_step_dedup_length_le σ ns;rw [length_cons] at z;omega
   ·intro z;exact absurd rfl ((List.nodup_append.mp z).2.2 x e x mem_cons_self)
  ·have e1:step_dedup σ x = σ ++ [x]:=by unfold step_dedup; rw [if_neg (by simpa using e)]
   rw [e1];have n1:(σ ++ [x]).Nodup:=(perm_append_singleton x σ).nodup_iff.mpr (List.nodup_cons.mpr ⟨e,h⟩);have:=yR ns (σ ++ [x]) n1;rw [length_append,length_singleton,append_assoc,singleton_append] at this;rw [<- this,length_cons];omega
theorem iK (ns:List Int):(kj ns).length = ns.length↔ns.Nodup:=by
 have:=yR ns [] .nil;rw [length_nil,Nat.zero_add,nil_append] at this;exact this
def Jo (K:Frag):List V->Hp->VK->Prop:=fun vs H Q=>∃ (a:Addr) (ns:List Int),vs = [.ref a]/\aw K H a (ns.map V.int)/\ns.length<=1000/\∀ (p:Addr) (S:Int->Bool),H p = none->Q (.ref p) (upd H p (.set S (kj ns).length))
theorem lz (hc:X.calm = true):fL X (.type "set") (Jo X.K):=by
 intro pins s σ H xs us Q I r h;obtain ⟨a,ns,rfl,ha,hl,q⟩:=h;obtain ⟨u,rfl,ru⟩:=vals1 r;cases ru
 obtain ⟨aO,rv,pl,hz⟩:=I.list ha;have hi:IntsAre aO ns:=intsAre_of rv;have zl:=hi.length;refine call_set_list (I.ok.hd hc) pl.isList (by simpa using hi) (by rw [size_toArray,zl]; exact Nat.lt_of_le_of_lt (Nat.succ_le_succ hl) (by decide)) fun h' tk hS kk=>?_;have ez:aO.toArray.size = ns.length:=by rw [size_toArray]; exact zl
 rw [ez,xq] at hS;exact ⟨.ref s.heap.objs.size,_,I.laid (t':=tk) (fun b o e=>kk b o (Heap.lt_size e) e) (Nat.le_refl _) (show bB X.prog X.w _ h' s.heap.objs.size (.set _ (kj ns).length) from hS),rfl,q _ _ (I.bF.fresh (Nat.le_refl _))⟩
theorem lB:fL X (.builtin "len") (fun xs H Q=>∃ a S n,xs = [V.ref a]/\H a = some (.set S n)/\Q (.int (n:Nat)) H):=by
 intro pins s σ H xs us Q I r h;obtain ⟨a,S,n,rfl,ha,q⟩:=h;obtain ⟨u,rfl,ru⟩:=vals1 r;cases ru
 obtain ⟨o,es,ep,tt,ho,hex,hd,_,_,ef,hf,hn⟩:=(show s.heap.SetOf (intKind X.prog X.w) a S n from I.bF a _ ha);have lt:es.size < 4096:=ef;refine call_len_set ho hex hd hf (by omega) ⟨.int (n:Nat),H,I.tok _,⟨_,by rw [hn]⟩,q⟩
def Ub:R2:=fun x y H Q=>∃ a b:Bool,x = .bl a/\y = .bl b/\Q (.bl (a == b)) H
def Ud (K:Frag):R2:=fun x y H Q=>∃ (p l:Addr) (d:Int×Int) (ps:List Addr) (T:List (Int×Int)),x = .ref p/\y = .ref l/\H p = some (.tup [.int d.1,.int d.2])/\H l = some (.lst (ps.map V.ref))/\Gm.PR H ps T/\Q (.bl (decide (d∈T))) H
def DC:V->List V->Hp->VK->Prop:=fun x vs H Q=>∃ (l:Addr) (ns:List Int) (y:Int),x = .ref l/\vs = [.int y]/\H l = some (.lst (ns.map V.int))/\y∈ns/\Q .bQ (upd H l (.lst ((ns.erase y).map V.int)))
theorem qP:HJ X "list.remove" DC:=by
 intro pins s σ H x vs v us Q I rx rv h;obtain ⟨l,ns,y,rfl,rfl,hH,hy,q⟩:=h;cases rx
 obtain ⟨u,rfl,t,rfl⟩:=rv.one;obtain ⟨z,aO,n,r,hl,e⟩:=I.ot hH;have hi:IntsAre aO ns:=intsAre_of r;have zl:=hi.length;have hj:ns.idxOf y < ns.length:=idxOf_lt_length_of_mem hy;rw [length_map] at z;have at_:∀ m (hm:m < ns.length),∃ t,aO[m]? = some (.int ns[m] t):=fun m hm=>mR hi hm;refine call_meets F.slot_list_remove ⟨_,e,rfl⟩ F.entry_list_remove (F.args_list_remove_2 _ _) (MeetsSeq.list_remove l aO.toArray n (.int y t) (fun v=>match v with | .int i _=>i == y | _=>false) (fun w hw=>?_) (ns.idxOf y) (by rw [size_toArray]; omega) ?_ ?_ (by rw [size_toArray]; omega)) ⟨e,?_⟩
 ·have Oz:w∈aO:=by simpa using hw
  obtain ⟨m,hm,rfl⟩:=List.mem_iff_getElem.mp Oz;obtain ⟨t1,e1⟩:=at_ m (by omega);rw [(List.getElem?_eq_some_iff.mp e1).2];exact MeetsSeq.EqGives.int _ _ _ _
 ·obtain ⟨t1,e1⟩:=at_ _ hj;have:aO.toArray[ns.idxOf y]'(by rw [size_toArray]; omega) = .int ns[ns.idxOf y] t1:=by
   have:=(List.getElem?_eq_some_iff.mp e1).2;simpa using this
  rw [this];show (ns[ns.idxOf y] == y) = true;rw [getElem_idxOf hj];simp
 ·intro m hm ef;obtain ⟨t1,e1⟩:=at_ m (by omega);have:aO.toArray[m] = .int (ns[m]'(by omega)) t1:=by
   have:=(List.getElem?_eq_some_iff.mp e1).2;simpa using this
  rw [this];exact beq_false_of_ne (lh ns y m (by omega) ef)
 ·have ee:(ns.erase y).map V.int = ((ns.map V.int).eraseIdx (ns.idxOf y)):=by rw [rk hy,om]
  refine ⟨.bQ,_,I.zI (its':=aO.eraseIdx (ns.idxOf y)) (ys:=(ns.erase y).map V.int) hH e ?_ ?_ ?_,rfl,q⟩
  ·show aO.toArray.eraseIdxIfInBounds (ns.idxOf y) = _;rw [eraseIdxIfInBounds_toArray]
  ·rw [ee]; exact r.eraseIdx _
  ·rw [ee,length_eraseIdx];split <;> (try rw [length_map]) <;> omega
end
end L2
end
section
namespace Gm
open PySem L2
theorem gC {L:List (List Int)} (m:av L):∃ R,Dec L R:=by
 have go:∀ ds:List aq,(∀ d∈ds,Dt L d)->∃ R,Dp L R/\∀ d∈ds,d∈R.flatten:=by
  intro ds
  induction ds with
  | nil=>intro _; exact ⟨[],Dp.start,by simp⟩
  | cons d ds ih=>
   intro h;obtain ⟨R,p,q⟩:=ih fun x hx=>h x (mem_cons_of_mem _ hx);by_cases e:d∈R.flatten
   ·refine ⟨R,p,fun x hx=>?_⟩;rcases List.mem_cons.mp hx with z | z
    ·rw [z]; exact e
    ·exact q x z
   ·have dt:=h d mem_cons_self;obtain ⟨k,k0,ek,nr⟩:=oW m dt;refine ⟨_,p.add m dt k0 ek nr e,fun x hx=>?_⟩;rw [flatten_append,flatten_singleton];rcases List.mem_cons.mp hx with z | z
    ·rw [z]; exact mem_append_right _ (List.mem_map.mpr ⟨0,List.mem_range.mpr k0,rfl⟩)
    ·exact mem_append_left _ (q x z)
 obtain ⟨R,p,q⟩:=go (ck L L.length) fun d hd=>Dt.of hd;exact ⟨R,p.dec fun d hd=>q d hd.all⟩
theorem Wk.last {f:aq->aq} {x y:aq} {l:List aq} (h:Wk f x l y) (n:l≠[]):∃ d∈l,f d = y:=by
 induction h with
 | nil _=>exact absurd rfl n
 | @cons x y l k ih=>
  cases l with
  | nil=>exact ⟨x,mem_cons_self,k.nil_eq⟩
  | cons p l=>
   obtain ⟨d,hd,e⟩:=ih (by simp);exact ⟨d,mem_cons_of_mem _ hd,e⟩
section
variable {M:List (List Int)} {a b z1 z2:Int}
theorem zc {R R':List (List aq)} (m':av M) (h:Dt M (a,b)) (f1:nx M (z1,a) = (a,b)) (f2:nx M (z2,b) = (b,a)) (d1:Dt (rem M a b) (z1,a)) (d2:Dt (rem M a b) (z2,b)) (D:Dec (rem M a b) R) (D':Dec M R')
  (conn:∀ P:aq->Prop,P (z1,a)->(∀ d,Dt (rem M a b) d->P d->P (nx (rem M a b) d))->P (z2,b)):R'.length = R.length + 1/\iso M = iso (rem M a b):=by
 obtain ⟨b0,b1,b2,b3⟩:=h.back m';have hb:Dt M (b,a):=⟨b0,b1,b3⟩;have o1:=(bG m' h).mp d1;have o2:=(bG m' h).mp d2;have x1:nx M (a,b)≠(b,a):=fun z=>o2.2.1 (dH m' h o2.1 (z.trans f2.symm)).symm;have x2:nx M (b,a)≠(a,b):=fun z=>o1.2.2 (dH m' hb o1.1 (z.trans f1.symm)).symm;have i1:¬ (rowOf M b).erase a = []:=fun z=>x1 ((dq m' h).mp z);have i2:¬ (rowOf M a).erase b = []:=fun z=>x2 ((dq m' hb).mp z);have iE:=mI m' h;rw [if_neg i1,if_neg i2] at iE;refine ⟨?_,iE.symm⟩;rcases mJ m' h D' with ⟨A,B,S,DL,lR,kA,kB⟩ | ⟨A,B,S,DL,lR,_⟩
 ·exfalso;have A0:A≠[]:=fun z=>by rw [z] at kA; exact x1 kA.nil_eq
  have B0:B≠[]:=fun z=>by rw [z] at kB; exact x2 kB.nil_eq
  rw [if_neg A0,if_neg B0] at DL;have U9:∀ d∈A,Dt M d:=fun d hd=>((bG m' h).mp ((DL.mem d).mp (List.mem_flatten.mpr ⟨A,by simp,hd⟩))).1;have HX:∀ d∈B,Dt M d:=fun d hd=>((bG m' h).mp ((DL.mem d).mp (List.mem_flatten.mpr ⟨B,by simp,hd⟩))).1;obtain ⟨p,hp,ep⟩:=kA.last A0;obtain ⟨q,hq,eq⟩:=kB.last B0;have pe:p = (z2,b):=dH m' (U9 p hp) o2.1 (ep.trans f2.symm);have qe:q = (z1,a):=dH m' (HX q hq) o1.1 (eq.trans f1.symm);rw [pe] at hp;rw [qe] at hq;have cB:rQ (nx (rem M a b)) B:=DL.jB B (by simp);have:=conn (fun d=>d∈B) hq fun d _ hd=>cB.on hd;have nd:=DL.nd;rw [flatten_append,flatten_append,flatten_singleton,flatten_singleton,append_assoc] at nd;exact (List.nodup_append.mp nd).2.2 _ hp _ (mem_append_left _ this) rfl
 ·have:=D.count DL;rw [length_cons] at this;omega
theorem vi {R R':List (List aq)} (m':av M) (h:Dt M (a,b)) (e1:nx M (a,b) = (b,a)) (f1:nx M (z1,a) = (a,b)) (d1:Dt (rem M a b) (z1,a)) (D:Dec (rem M a b) R) (D':Dec M R'):R'.length = R.length/\iso (rem M a b) = iso M + 1:=by
 obtain ⟨b0,b1,b2,b3⟩:=h.back m';have hb:Dt M (b,a):=⟨b0,b1,b3⟩;have o1:=(bG m' h).mp d1;have x2:nx M (b,a)≠(a,b):=fun z=>o1.2.2 (dH m' hb o1.1 (z.trans f1.symm)).symm;have i2:¬ (rowOf M a).erase b = []:=fun z=>x2 ((dq m' hb).mp z);have iE:=mI m' h;rw [if_pos ((dq m' h).mpr e1),if_neg i2] at iE;refine ⟨?_,iE⟩;rcases mJ m' h D' with ⟨A,B,S,DL,lR,kA,kB⟩ | ⟨A,B,S,DL,lR,A0,B0,kA,kB,dd⟩
 ·have A0:A = []:=by
   cases A with
   | nil=>rfl
   | cons p A=>
    have hp:=kA.hd;have dt:Dt (rem M a b) p:=(DL.mem p).mp (List.mem_flatten.mpr ⟨p :: A,by simp,mem_cons_self⟩);rw [hp,e1] at dt;exact absurd rfl ((bG m' h).mp dt).2.2
  have B0:B≠[]:=fun z=>by rw [z] at kB; exact x2 kB.nil_eq
  rw [if_pos A0,if_neg B0] at DL;have:=D.count DL;rw [nil_append,singleton_append,length_cons] at this;omega
 ·cases A with
  | nil=>exact absurd rfl A0
  | cons p A=>
   have hp:=kA.hd;have dt:=dd p (by simp);rw [hp,e1] at dt;exact absurd rfl ((bG m' h).mp dt).2.2
end
structure bY (L:List (List Int)):Prop where
 map:av L
 two:2<=L.length
 span:eJ L [0]
 yU:∃ R,Dec L R/\(L.length:Int) + R.length + iso L = (cO L L.length).length + 2
theorem Reach.mono {L M:List (List Int)} (h:∀ d,Dt L d->Dt M d) {s x:Int} (r:Reach L s x):Reach M s x:=by
 induction r with
 | here=>exact .here
 | step r e hx ih=>
  rename_i i l y;exact Reach.one (d:=((i:Int),y)) ih (h _ (Reach.oY e hx))
def both (L:List (List Int)) (a b:Int) (A B:List Int):List (List Int):=(L.set a.toNat A).set b.toNat B
structure bu (L:List (List Int)) (a b:Int) (A B:List Int):Prop where
 map:av L
 a0:0<=a
 a1:a < L.length
 b0:0<=b
 b1:b < L.length
 ne:a≠b
 no:b∉rowOf L a
 pa:A.Perm (b :: rowOf L a)
 pb:B.Perm (a :: rowOf L b)
 ea:A.erase b = rowOf L a
 eb:B.erase a = rowOf L b
section
variable {L:List (List Int)} {a b:Int} {A B:List Int}
theorem bu.DW (F:bu L a b A B):a∉rowOf L b:=fun z=>F.no (Dt.back (d:=(b,a)) ⟨F.b0,F.b1,z⟩ F.map).2.2.2
theorem bP:(both L a b A B).length = L.length:=by unfold both; simp
theorem bu.row (F:bu L a b A B) {x:Int} (hx:0<=x):rowOf (both L a b A B) x = if x = b then B else if x = a then A else rowOf L x:=by
 have:=F.a0; have:=F.a1; have:=F.b0; have:=F.b1; have:=F.ne
 show (both L a b A B).getD x.toNat [] = _;unfold both;rw [getD_eq_getElem?_getD,getElem?_set];by_cases e:x = b
 ·subst e;rw [if_pos rfl,if_pos rfl,if_pos (by rw [length_set]; omega)]
  rfl
 ·rw [if_neg (by omega),if_neg e,getElem?_set];by_cases e2:x = a
  ·subst e2;rw [if_pos rfl,if_pos rfl,if_pos (by omega)]
   rfl
  ·rw [if_neg (by omega),if_neg e2,<- getD_eq_getElem?_getD]
   rfl
theorem bu.mem (F:bu L a b A B) {x y:Int} (hx:0<=x):y∈rowOf (both L a b A B) x↔y∈rowOf L x\/(x = a/\y = b)\/(x = b/\y = a):=by
 rw [F.row hx];by_cases e:x = b
 ·subst e;rw [if_pos rfl,F.pb.mem_iff,mem_cons];constructor
  ·rintro (z | z)
   ·exact .inr (.inr ⟨rfl,z⟩)
   ·exact .inl z
  ·rintro (z | z | z)
   ·exact .inr z
   ·exact absurd z.1.symm F.ne
   ·exact .inl z.2
 ·rw [if_neg e];by_cases e2:x = a
  ·subst e2;rw [if_pos rfl,F.pa.mem_iff,mem_cons];constructor
   ·rintro (z | z)
    ·exact .inr (.inl ⟨rfl,z⟩)
    ·exact .inl z
   ·rintro (z | z | z)
    ·exact .inr z
    ·exact .inl z.2
    ·exact absurd z.1 e
  ·rw [if_neg e2];exact ⟨.inl,fun z=>z.elim id fun z=>z.elim (fun w=>absurd w.1 e2) fun w=>absurd w.1 e⟩
theorem bu.fj (F:bu L a b A B):av (both L a b A B):=by
 have:=F.a0; have:=F.a1; have:=F.b0; have:=F.b1; have ne:=F.ne
 refine fY fun x x0 x1=>?_;rw [bP] at x1 ⊢;have n:=F.map.nd _ _ (ay x0 x1);refine ⟨?_,fun y hy=>?_⟩
 ·rw [F.row x0];split
  ·rename_i e; subst e; exact F.pb.nodup_iff.mpr (List.nodup_cons.mpr ⟨F.DW,n⟩)
  ·split
   ·rename_i e; subst e; exact F.pa.nodup_iff.mpr (List.nodup_cons.mpr ⟨F.no,n⟩)
   ·exact n
 ·rcases (F.mem x0).mp hy with z | ⟨z,w⟩ | ⟨z,w⟩
  ·obtain ⟨c0,c1,c2,c3⟩:=Dt.back (d:=(x,y)) ⟨x0,x1,z⟩ F.map;exact ⟨c0,c1,c2,(F.mem c0).mpr (.inl c3)⟩
  ·subst z w;exact ⟨F.b0,F.b1,ne.symm,(F.mem F.b0).mpr (.inr (.inr ⟨rfl,rfl⟩))⟩
  ·subst z w;exact ⟨F.a0,F.a1,ne,(F.mem F.a0).mpr (.inr (.inl ⟨rfl,rfl⟩))⟩
theorem bu.dt (F:bu L a b A B):Dt (both L a b A B) (a,b):=⟨F.a0,by rw [bP]; exact F.a1,(F.mem F.a0).mpr (.inr (.inl ⟨rfl,rfl⟩))⟩
theorem bu.rem (F:bu L a b A B):rem (both L a b A B) a b = L:=by
 have a0:=F.a0; have a1:=F.a1; have b0:=F.b0; have b1:=F.b1; have ne:=F.ne
 unfold Gm.rem;rw [F.row a0,F.row b0,if_neg ne,if_pos rfl,if_pos rfl,F.ea,F.eb];unfold both;apply ext_getElem?;intro i;rw [getElem?_set];by_cases e:b.toNat = i
 ·rw [if_pos e];have:i < L.length:=by omega
  rw [if_pos (by simp; omega),<- e,ay b0 b1]
 ·rw [if_neg e,getElem?_set];by_cases e2:a.toNat = i
  ·rw [if_pos e2,if_pos (by simp; omega),<- e2,ay a0 a1]
  ·rw [if_neg e2,getElem?_set,if_neg e,getElem?_set,if_neg e2]
theorem bu.sub (F:bu L a b A B) (d:aq) (h:Dt L d):Dt (both L a b A B) d:=⟨h.lo,by rw [bP]; exact h.hi,(F.mem h.lo).mpr (.inl h.mem)⟩
theorem bu.yM (F:bu L a b A B):(cO (both L a b A B) L.length).length = (cO L L.length).length + 1:=by
 have h1:=(iA F.fj F.dt).2;rw [F.rem] at h1;have h2:=bp F.fj;have h3:=bp F.map;rw [bP] at h1 h2;omega
theorem bu.lH (F:bu L a b A B) (s:bY L) {z1 z2:Int} (h1:z1∈rowOf L a) (h2:z2∈rowOf L b) (f1:pre A z1 = b) (f2:pre B z2 = a)
  (conn:∀ P:aq->Prop,P (z1,a)->(∀ d,Dt L d->P d->P (nx L d))->P (z2,b)):bY (both L a b A B):=by
 obtain ⟨c0,c1,c2,c3⟩:=Dt.back (d:=(a,z1)) ⟨F.a0,F.a1,h1⟩ F.map;obtain ⟨e0,e1,e2,e3⟩:=Dt.back (d:=(b,z2)) ⟨F.b0,F.b1,h2⟩ F.map;obtain ⟨R,D,ch⟩:=s.yU;obtain ⟨R',D'⟩:=gC F.fj;have n1:nx (both L a b A B) (z1,a) = (a,b):=by
  unfold nx; dsimp only; rw [F.row F.a0,if_neg F.ne,if_pos rfl,f1]
 have n2:nx (both L a b A B) (z2,b) = (b,a):=by
  unfold nx; dsimp only; rw [F.row F.b0,if_pos rfl,f2]
 obtain ⟨l1,l2⟩:=zc (R:=R) F.fj F.dt n1 n2 (by rw [F.rem]; exact ⟨c0,c1,c3⟩) (by rw [F.rem]; exact ⟨e0,e1,e3⟩) (by rw [F.rem]; exact D) D' (by rw [F.rem]; exact conn);rw [F.rem] at l2;refine ⟨F.fj,by rw [bP]; exact s.two,fun x x0 x1=>?_,R',D',?_⟩
 ·rw [bP] at x1;obtain ⟨t,ht,r⟩:=s.span x x0 x1;exact ⟨t,ht,r.mono F.sub⟩
 ·rw [bP,F.yM,l1,l2];omega
end
theorem dr:∀ {l:List Int} {k:Nat} {x:Int},x∉l->(put l k x).erase x = l:=fun {l k x} h=>by
 unfold put;rw [erase_append_right _ (fun z=>h (mem_of_mem_take z)),erase_cons_head,take_append_drop]
theorem yl:∀ {l:List Int} {p z x:Int},z∈l->x≠z->dW p (put l (l.idxOf z) x) z = x
 | [],_,_,_,h,_=>by cases h
 | h :: t,p,z,x,hz,hx=>by
  rw [idxOf_cons];by_cases e:h = z
  ·subst e;have:(h == h) = true:=by simp
   rw [this];show dW p (x :: h :: t) h = x;show (if x = h then p else if h = h then x else dW h t h) = x;rw [if_neg hx,if_pos rfl]
  ·have e2:(h == z) = false:=beq_false_of_ne e;rw [e2];show dW p (h :: put t (t.idxOf z) x) z = x;show (if h = z then p else dW h (put t (t.idxOf z) x) z) = x;rw [if_neg e];exact yl ((List.mem_cons.mp hz).resolve_left (fun w=>e w.symm)) hx
theorem fB {l:List Int} {z x:Int} (hz:z∈l) (hx:x∉l):pre (put l (l.idxOf z) x) z = x:=by
 rw [jQ (D3.mpr (.inr hz))];exact yl hz (fun w=>hx (w▸hz))
theorem nu {l:List Int} {x:Int} (h:x∉l):(l ++ [x]).erase x = l:=by rw [erase_append_right _ h,erase_cons_head,append_nil]
theorem uM {l:List Int} {y x:Int}:pre ((y :: l) ++ [x]) y = x:=by
 rw [jQ (by simp),gw (y :: l) (v:=[x]) (by simp)];show (if y = y then lst [x] else _) = x;rw [if_pos rfl]; rfl
theorem Reach.inv {L:List (List Int)} {s x:Int} (r:Reach L s x):x = s\/∃ (j:Nat) (l:List Int),L[j]? = some l/\x∈l:=by
 cases r with
 | here=>exact .inl rfl
 | step r e hx=>exact .inr ⟨_,_,e,hx⟩
theorem bY.Ee {L:List (List Int)} (s:bY L):iso L = 0:=by
 unfold iso;refine List.countP_eq_zero.mpr fun l hl=>?_;obtain ⟨i,hi,rfl⟩:=List.mem_iff_getElem.mp hl;have ei:L[i]? = some L[i]:=getElem?_eq_getElem hi;intro z;have e0:L[i] = []:=by simpa using z
 have two:=s.two;by_cases h0:i = 0
 ·subst h0;obtain ⟨t,ht,r⟩:=s.span 1 (by omega) (by omega);have:t = 0:=List.mem_singleton.mp ht;subst this;have go:∀ x,Reach L 0 x->x = 0:=fun x r=>by
   induction r with
   | here=>rfl
   | step r e hx ih=>
    rename_i j l y;have:j = 0:=by omega
    subst this;rw [ei] at e;cases e
    rw [e0] at hx;cases hx
  exact absurd (go 1 r) (by omega)
 ·obtain ⟨t,ht,r⟩:=s.span i (by omega) (by omega);have:t = 0:=List.mem_singleton.mp ht;subst this;rcases r.inv with w | ⟨j,l,e,hx⟩
  ·omega
  ·have:=s.map.sy _ _ e _ hx i rfl _ ei;rw [e0] at this;cases this
theorem bY.three {L:List (List Int)} (s:bY L) (h3:3<=L.length) {R:List (List aq)} (D:Dec L R) {c:List aq} (hc:c∈R):3<=c.length:=by
 have dt:∀ d∈c,Dt L d:=fun d hd=>(D.mem d).mp (List.mem_flatten.mpr ⟨c,hc,hd⟩);obtain ⟨x,l,e,k⟩:=D.jB c hc;subst e;have hx:=dt x mem_cons_self;obtain ⟨b0,b1,b2,b3⟩:=hx.back s.map;have k1:=k.tl;cases l with
 | nil=>exact absurd (congrArg Prod.fst k1.nil_eq) b2
 | cons y l=>
  cases l with
  | cons w l=>simp
  | nil=>
   exfalso;have ey:=k1.hd;have ex:=k1.tl.nil_eq;rw [<- ey] at ex;have y1:y.1 = x.2:=by rw [ey]; rfl
   have y2:y.2 = x.1:=congrArg Prod.fst ex;have p1:pre (rowOf L x.2) x.1 = x.1:=by
    have:y.2 = pre (rowOf L x.2) x.1:=by rw [ey]; rfl
    rw [<- this,y2]
   have p2:pre (rowOf L x.1) x.2 = x.2:=by
    have:pre (rowOf L y.2) y.1 = x.2:=congrArg Prod.snd ex;rwa [y1,y2] at this
   have r1:=iC (s.map.nd _ _ (ay b0 b1)) b3 p1;have r2:=iC (s.map.nd _ _ (ay hx.lo hx.hi)) hx.mem p2;have go:∀ u,Reach L 0 u->((u = x.1\/u = x.2)↔((0:Int) = x.1\/(0:Int) = x.2)):=fun u r=>by
    induction r with
    | here=>exact Iff.rfl
    | step r e hv ih=>
     rename_i i l v;refine Iff.trans ?_ ih;have d:=Reach.oY e hv;obtain ⟨q0,q1,q2,q3⟩:=d.back s.map;have dm:=d.mem;dsimp only at q0 q1 q2 q3 dm;constructor
     ·rintro (z | z)
      ·rw [z,r2] at q3; exact .inr (List.mem_singleton.mp q3)
      ·rw [z,r1] at q3; exact .inl (List.mem_singleton.mp q3)
     ·rintro (z | z)
      ·rw [z,r2] at dm; exact .inr (List.mem_singleton.mp dm)
      ·rw [z,r1] at dm; exact .inl (List.mem_singleton.mp dm)
   have reach:∀ u:Int,0<=u->u < L.length->Reach L 0 u:=fun u h0 h1=>by
    obtain ⟨t,ht,r⟩:=s.span u h0 h1;rw [List.mem_singleton.mp ht] at r; exact r
   have z0:=(go x.1 (reach x.1 hx.lo hx.hi)).mp (.inl rfl);have l1:=hx.lo;have c0:=(go 0 (reach 0 (by omega) (by omega))).mpr z0;have c1:=(go 1 (reach 1 (by omega) (by omega))).mpr z0;have c2:=(go 2 (reach 2 (by omega) (by omega))).mpr z0;omega
theorem oU:∀ {R:List (List aq)},(∀ c∈R,3<=c.length)->3 * R.length<=R.flatten.length
 | [],_=>Nat.le_refl _
 | c :: R,h=>by
  have:=oU (R:=R) fun x hx=>h x (mem_cons_of_mem _ hx);have:=h c mem_cons_self;rw [flatten_cons,length_append,length_cons];omega
theorem Dec.len {L:List (List Int)} {R:List (List aq)} (m:av L) (D:Dec L R):R.flatten.length = (ck L L.length).length:=
 len_eq D.nd (bS m (Nat.le_refl _)) fun d=>(D.mem d).trans ⟨fun h=>h.all,fun h=>Dt.of h⟩
theorem bY.Ac {L:List (List Int)} (s:bY L) (h:L.length<=20):(ck L L.length).length < 128:=by
 by_cases h3:3<=L.length
 ·obtain ⟨R,D,ch⟩:=s.yU;have f:=oU fun c hc=>s.three h3 D hc;rw [D.len s.map] at f;have i:=s.Ee;have d:=bp s.map;omega
 ·exact Ag s.map (by omega)
def c5 (L:List (List Int)):List (List Int):=L ++ [[]]
section
variable {L:List (List Int)}
theorem cM {x:Int} (x0:0<=x):rowOf (c5 L) x = if x < L.length then rowOf L x else []:=by
 unfold rowOf c5;rw [getD_eq_getElem?_getD,getD_eq_getElem?_getD];by_cases h:x < L.length
 ·rw [if_pos h,getElem?_append_left (by omega)]
 ·rw [if_neg h,getElem?_append_right (by omega)];cases q:([[]]:List (List Int))[x.toNat - L.length]? with
  | none=>rfl
  | some l=>
   have:=mem_of_getElem? q;rw [List.mem_singleton.mp this]; rfl
theorem dI {d:aq}:Dt (c5 L) d↔Dt L d:=by
 constructor
 ·intro h;have m:=h.mem;rw [cM h.lo] at m;by_cases z:d.1 < L.length
  ·rw [if_pos z] at m; exact ⟨h.lo,z,m⟩
  ·rw [if_neg z] at m; cases m
 ·intro h;refine ⟨h.lo,by unfold c5; have:=h.hi; simp; omega,?_⟩;rw [cM h.lo,if_pos h.hi]; exact h.mem
theorem dZ:(c5 L).length = L.length + 1:=by unfold c5; simp
theorem ou (m:av L):av (c5 L):=by
 refine fY fun x x0 x1=>?_;rw [cM x0];by_cases z:x < L.length
 ·rw [if_pos z];refine ⟨m.nd _ _ (ay x0 z),fun y hy=>?_⟩;obtain ⟨c0,c1,c2,c3⟩:=Dt.back (d:=(x,y)) ⟨x0,z,hy⟩ m;dsimp only at c0 c1 c2 c3;rw [cM c0,if_pos c1,dZ];exact ⟨c0,by omega,c2,c3⟩
 ·rw [if_neg z]; exact ⟨.nil,fun y hy=>by cases hy⟩
theorem jX (m:av L) {d:aq} (h:Dt L d):nx (c5 L) d = nx L d:=by
 obtain ⟨b0,b1,b2,b3⟩:=h.back m;unfold nx;rw [cM b0,if_pos b1]
theorem vc {R:List (List aq)} (m:av L) (D:Dec L R):Dec (c5 L) R:=by
 refine ⟨fun c hc=>?_,D.nd,fun d=>(D.mem d).trans dI.symm⟩;obtain ⟨x,l,e,k⟩:=D.jB c hc;exact ⟨x,l,e,k.congr fun d hd=>jX m ((D.mem d).mp (List.mem_flatten.mpr ⟨c,hc,hd⟩))⟩
theorem va:iso (c5 L) = iso L + 1:=by unfold iso c5; rw [countP_append]; rfl
theorem vb (m:av L):(ck (c5 L) (c5 L).length).length = (ck L L.length).length:=
 len_eq (bS (ou m) (Nat.le_refl _)) (bS m (Nat.le_refl _)) fun d=>⟨fun h=>(dI.mp (Dt.of h)).all,fun h=>(dI.mpr (Dt.of h)).all⟩
end
structure Pl (L:List (List Int)) (r:List Int) (c1 cj:Nat) (dn:List Nat) (M:List (List Int)):Prop where
 sh:bY M
 len:M.length = L.length + 1
 new:rowOf M (L.length:Int) = dn.map (cy r)
 hd:∃ rest,dn = c1 :: rest
 keep:∀ x:Int,0<=x->x < L.length->(∀ c∈dn,cy r c≠x)->rowOf M x = rowOf L x
 sub:∀ d,Dt L d->Dt M d
 le:c1<=cj
 top:cj < r.length
 i1:∀ i,cj<=i->i + 1 < c1 + r.length->nx M (dj r i) = dj r (i + 1)
 i2:nx M (dj r (c1 + (r.length - 1))) = (cy r c1,(L.length:Int))
 i3:nx M (cy r c1,(L.length:Int)) = ((L.length:Int),cy r cj)
 i4:nx M ((L.length:Int),cy r cj) = dj r cj
section
variable {L:List (List Int)} {r:List Int}
theorem rB {i j:Nat} (n:(sh 0 r).Nodup) (h:i < j) (h2:j < i + r.length):dj r i≠dj r j:=by
 intro z;have r0:0 < r.length:=by omega
 have e1:dj r (i % r.length) = dj r i:=ft (Nat.mod_mod _ _);have e2:dj r (j % r.length) = dj r j:=ft (Nat.mod_mod _ _);have m1:=Nat.mod_lt i r0;have m2:=Nat.mod_lt j r0;have at_:∀ k (hk:k < r.length),(sh 0 r)[k]'(by rw [bR]; exact hk) = dj r k:=fun k hk=>by
  have:=qC (s:=0) hk;rw [getElem?_eq_getElem (by rw [bR]; exact hk)] at this;exact Option.some.inj this
 have e3:i % r.length = j % r.length:=by
  refine (getElem_inj (h₀:=by rw [bR]; exact m1) (h₁:=by rw [bR]; exact m2) n).mp ?_;rw [at_ _ m1,at_ _ m2,e1,e2,z]
 have:=Nat.div_add_mod i r.length;have:=Nat.div_add_mod j r.length;have a:r.length * (i / r.length) < r.length * (j / r.length):=by omega
 have b:i / r.length + 1<=j / r.length:=Nat.lt_of_mul_lt_mul_left a;have c:=Nat.mul_le_mul_left r.length b;rw [Nat.mul_add,Nat.mul_one] at c;omega
theorem bT (g:Good L r) (m:av L) {c:Nat}:cy r (c + (r.length - 1))∈rowOf L (cy r c)/\0<=cy r c/\cy r c < L.length/\dj r (c + (r.length - 1)) = (cy r (c + (r.length - 1)),cy r c):=by
 have two:=g.two;have e:cy r (c + (r.length - 1) + 1) = cy r c:=iL (by rw [show c + (r.length - 1) + 1 = c + r.length by omega,Nat.add_mod_right]);have d:=g.dt (c + (r.length - 1));have b:=d.back m;have ed:dj r (c + (r.length - 1)) = (cy r (c + (r.length - 1)),cy r c):=by unfold dj; rw [e]
 rw [ed] at b;exact ⟨b.2.2.2,b.1,b.2.1,ed⟩
theorem kU {x:Int} (m:av L) (x0:0<=x) (x1:x < L.length):(L.length:Int)∉rowOf L x:=fun z=>by
 have:=m.rg _ _ (ay x0 x1) _ z;omega
theorem Pl.first (s:bY L) (g:Good L r) (nd:(Gm.sh 0 r).Nodup) {c:Nat} (hc:c < r.length) :
  bu (c5 L) (cy r c) (L.length:Int) (put (rowOf L (cy r c)) ((rowOf L (cy r c)).idxOf (cy r (c + (r.length - 1)))) L.length) [cy r c]/\
  Pl L r c c [c] (both (c5 L) (cy r c) (L.length:Int) (put (rowOf L (cy r c)) ((rowOf L (cy r c)).idxOf (cy r (c + (r.length - 1)))) L.length) [cy r c]):=by
 have two:=g.two;obtain ⟨z1,x0,x1,ed⟩:=bT g s.map (c:=c);generalize hx:cy r c = x at z1 x0 x1 ed ⊢;generalize hz:cy r (c + (r.length - 1)) = z at z1 ed ⊢;have nn:=kU s.map x0 x1;have lx:rowOf (c5 L) x = rowOf L x:=by rw [cM x0,if_pos x1]
 have ln:rowOf (c5 L) (L.length:Int) = []:=by rw [cM (by omega),if_neg (by omega)]
 have F:bu (c5 L) x (L.length:Int) (put (rowOf L x) ((rowOf L x).idxOf z) L.length) [x]:=
  ⟨ou s.map,x0,by rw [dZ]; omega,by omega,by rw [dZ]; omega,by omega,by rw [lx]; exact nn,by rw [lx]; exact dD _ _ _,by rw [ln],by rw [lx]; exact dr nn,by rw [ln]; simp⟩
 refine ⟨F,?_⟩;generalize hM:both (c5 L) x (L.length:Int) (put (rowOf L x) ((rowOf L x).idxOf z) L.length) [x] = M at F ⊢;have FM:av M:=hM▸F.fj;have Fd:Dt M (x,(L.length:Int)):=hM▸F.dt;have Fr:rem M x (L.length:Int) = c5 L:=hM▸F.rem;have gK:∀ {y:Int},0<=y->rowOf M y = if y = (L.length:Int) then [x] else if y = x then put (rowOf L x) ((rowOf L x).idxOf z) L.length else rowOf (c5 L) y:=fun h=>hM▸F.row h
 have Ml:M.length = L.length + 1:=by rw [<- hM,bP,dZ]
 have xn:x≠(L.length:Int):=by omega
 have sub:∀ d,Dt L d->Dt M d:=fun d hd=>hM▸F.sub d (dI.mpr hd);have f1:nx M (z,x) = (x,(L.length:Int)):=by unfold nx; dsimp only; rw [gK x0,if_neg xn,if_pos rfl,fB z1 nn]
 have f2:nx M (x,(L.length:Int)) = ((L.length:Int),x):=by
  unfold nx; dsimp only; rw [gK (by omega),if_pos rfl];refine Prod.ext rfl ?_;show pre [x] x = x;unfold pre cy;simp [Nat.mod_one]
 have xB:Dt L (z,x):=by
  obtain ⟨c0,c1,c2,c3⟩:=Dt.back (d:=(x,z)) ⟨x0,x1,z1⟩ s.map;exact ⟨c0,c1,c3⟩
 have CK:∀ d,Dt L d->d≠(z,x)->nx M d = nx L d:=fun d hd iV=>by
  have h0:=gk FM Fd (d:=d) (by rw [Fr]; exact dI.mpr hd);rw [Fr,jX s.map hd] at h0;have dm:=sub d hd;have n1:nx M d≠((L.length:Int),x):=fun w=>by
   have:=dH FM dm Fd (w.trans f2.symm);rw [this] at hd;exact kU s.map x0 x1 hd.mem
  have n2:nx M d≠(x,(L.length:Int)):=fun w=>iV (dH FM dm (sub _ xB) (w.trans f1.symm));rw [if_neg n1,if_neg n2] at h0;exact h0.symm
 have GD:nx M ((L.length:Int),x) = nx L (z,x):=by
  have h0:=gk FM Fd (d:=(z,x)) (by rw [Fr]; exact dI.mpr xB);rw [Fr,jX s.map xB,f1,if_neg (fun w=>xn (congrArg Prod.fst w)),if_pos rfl] at h0;exact h0.symm
 obtain ⟨R,D,ch⟩:=s.yU;obtain ⟨R',D'⟩:=gC FM;obtain ⟨l1,l2⟩:=vi (R:=R) (z1:=z) FM Fd f2 f1 (by rw [Fr]; exact dI.mpr xB) (by rw [Fr]; exact vc s.map D) D';rw [Fr,va] at l2;have yM:(cO M M.length).length = (cO L L.length).length + 1:=by
  have h1:=(iA FM Fd).2;rw [Fr,vb s.map] at h1;have h2:=bp FM;have h3:=bp s.map;omega
 have jz:bY M:=by
  refine ⟨FM,by have:=s.two; omega,fun y y0 y1=>?_,R',D',?_⟩
  ·by_cases e:y < L.length
   ·obtain ⟨t,ht,q⟩:=s.span y y0 e;exact ⟨t,ht,q.mono sub⟩
   ·have ey:y = (L.length:Int):=by rw [Ml] at y1; omega
    obtain ⟨t,ht,q⟩:=s.span x x0 x1;rw [ey];exact ⟨t,ht,Reach.one (d:=(x,(L.length:Int))) (q.mono sub) Fd⟩
  ·rw [yM,Ml,l1];omega
 have Ho:dj r (c + (r.length - 1)) = (z,x):=ed;refine ⟨jz,Ml,by rw [gK (by omega),if_pos rfl,map_singleton,hx],⟨[],rfl⟩,fun y y0 y1 hy=>?_,sub,Nat.le_refl _,hc,fun i O2 AE=>?_,?_,?_,?_⟩
 ·have:cy r c≠y:=hy c (by simp);rw [hx] at this;rw [gK y0,if_neg (by omega),if_neg (fun w=>this w.symm),cM y0,if_pos y1]
 ·rw [CK _ (g.dt i) (by rw [<- Ho]; exact rB nd (by omega) (by omega)),g.st]
 ·rw [Ho,f1,hx]
 ·rw [hx,f2]
 ·rw [hx,GD,<- Ho,g.st];exact ft (by rw [show c + (r.length - 1) + 1 = c + r.length by omega,Nat.add_mod_right])
theorem Pl.next {M:List (List Int)} {c1 cj c:Nat} {dn:List Nat} (s:bY L) (g:Good L r) (nd:(Gm.sh 0 r).Nodup) (p:Pl L r c1 cj dn M) (hc:cj < c) (zW:c < r.length) (un:∀ e∈dn,cy r e≠cy r c) :
  bu M (cy r c) (L.length:Int) (put (rowOf L (cy r c)) ((rowOf L (cy r c)).idxOf (cy r (c + (r.length - 1)))) L.length) (rowOf M (L.length:Int) ++ [cy r c])/\
  Pl L r c1 c (dn ++ [c]) (both M (cy r c) (L.length:Int) (put (rowOf L (cy r c)) ((rowOf L (cy r c)).idxOf (cy r (c + (r.length - 1)))) L.length) (rowOf M (L.length:Int) ++ [cy r c])):=by
 have two:=g.two;have le:=p.le;obtain ⟨z1,x0,x1,ed⟩:=bT g s.map (c:=c);have rx:=p.keep (cy r c) x0 x1 un;have AK:cy r c∉rowOf M (L.length:Int):=by
  rw [p.new];intro w;obtain ⟨e,he,h⟩:=List.mem_map.mp w;exact un e he h
 have BB:=p.new;generalize hx:cy r c = x at z1 x0 x1 ed rx AK ⊢;generalize hz:cy r (c + (r.length - 1)) = z at z1 ed ⊢;have nn:=kU s.map x0 x1;have F:bu M x (L.length:Int) (put (rowOf L x) ((rowOf L x).idxOf z) L.length) (rowOf M (L.length:Int) ++ [x]):=
  ⟨p.sh.map,x0,by rw [p.len]; omega,by omega,by rw [p.len]; omega,by omega,by rw [rx]; exact nn,by rw [rx]; exact dD _ _ _,perm_append_singleton _ _,by rw [rx]; exact dr nn,nu AK⟩
 refine ⟨F,?_⟩;obtain ⟨rest,hd⟩:=p.hd;have wD:rowOf M (L.length:Int) = cy r c1 :: rest.map (cy r):=by rw [BB,hd]; rfl
 have e1:dj r (c - 1) = (z,x):=by
  rw [<- ed];exact (ft (by rw [show c + (r.length - 1) = (c - 1) + r.length by omega,Nat.add_mod_right])).symm
 have xB:Dt L (z,x):=e1▸g.dt (c - 1);have dyn:Dt M (cy r c1,(L.length:Int)):=by
  have:=Dt.back (d:=((L.length:Int),cy r c1)) ⟨by simp,by rw [p.len]; simp; omega,by rw [wD]; exact mem_cons_self⟩ p.sh.map;exact ⟨this.1,this.2.1,this.2.2.2⟩
 have K1:pre (put (rowOf L x) ((rowOf L x).idxOf z) L.length) z = (L.length:Int):=fB z1 nn;have K0:pre (rowOf M (L.length:Int) ++ [x]) (cy r c1) = x:=by rw [wD]; exact uM
 have conn:∀ P:aq->Prop,P (z,x)->(∀ d,Dt M d->P d->P (nx M d))->P (cy r c1,(L.length:Int)):=fun P h0 hs=>by
  have go:∀ k,c - 1 + k<=c1 + (r.length - 1)->P (dj r (c - 1 + k)):=by
   intro k
   induction k with
   | zero=>intro _; rw [Nat.add_zero,e1]; exact h0
   | succ k ih=>
    intro hk;have:=hs _ (p.sub _ (g.dt (c - 1 + k))) (ih (by omega));rw [p.i1 (c - 1 + k) (by omega) (by omega)] at this;exact this
  have:=go (c1 + (r.length - 1) - (c - 1)) (by omega);rw [show c - 1 + (c1 + (r.length - 1) - (c - 1)) = c1 + (r.length - 1) by omega] at this;have:=hs _ (p.sub _ (g.dt _)) this;rw [p.i2] at this;exact this
 have jz:=F.lH p.sh (z1:=z) (z2:=cy r c1) (by rw [rx]; exact z1) (by rw [wD]; exact mem_cons_self) K1 K0 conn;generalize hM:both M x (L.length:Int) (put (rowOf L x) ((rowOf L x).idxOf z) L.length) (rowOf M (L.length:Int) ++ [x]) = N at F jz ⊢;have FM:av N:=hM▸F.fj;have Fd:Dt N (x,(L.length:Int)):=hM▸F.dt;have Fr:rem N x (L.length:Int) = M:=hM▸F.rem;have gK:∀ {y:Int},0<=y->rowOf N y = if y = (L.length:Int) then rowOf M (L.length:Int) ++ [x] else if y = x then put (rowOf L x) ((rowOf L x).idxOf z) L.length else rowOf M y:=fun h=>hM▸F.row h
 have Nl:N.length = L.length + 1:=by rw [<- hM,bP,p.len]
 have xn:x≠(L.length:Int):=by omega
 have rV:∀ d,Dt M d->Dt N d:=fun d hd=>hM▸F.sub d hd;have f1:nx N (z,x) = (x,(L.length:Int)):=by unfold nx; dsimp only; rw [gK x0,if_neg xn,if_pos rfl,K1]
 have f2:nx N (cy r c1,(L.length:Int)) = ((L.length:Int),x):=by unfold nx; dsimp only; rw [gK (by omega),if_pos rfl,K0]
 have CK:∀ d,Dt M d->d≠(z,x)->d≠(cy r c1,(L.length:Int))->nx N d = nx M d:=fun d hd iV G8=>by
  have h0:=gk FM Fd (d:=d) (by rw [Fr]; exact hd);rw [Fr] at h0;have dm:=rV d hd;have n1:nx N d≠((L.length:Int),x):=fun w=>G8 (dH FM dm (rV _ dyn) (w.trans f2.symm));have n2:nx N d≠(x,(L.length:Int)):=fun w=>iV (dH FM dm (rV _ (p.sub _ xB)) (w.trans f1.symm));rw [if_neg n1,if_neg n2] at h0;exact h0.symm
 have GD:nx N ((L.length:Int),x) = nx M (z,x):=by
  have h0:=gk FM Fd (d:=(z,x)) (by rw [Fr]; exact p.sub _ xB);rw [Fr,f1,if_neg (fun w=>xn (congrArg Prod.fst w)),if_pos rfl] at h0;exact h0.symm
 have JV:∀ i,dj r i≠(cy r c1,(L.length:Int)):=fun i w=>by
  have d:=g.dt i;have:=(d.back s.map).2.1;rw [w] at this;simp at this
 refine ⟨jz,Nl,?_,⟨rest ++ [c],by rw [hd]; rfl⟩,fun y y0 y1 hy=>?_,fun d hd=>rV d (p.sub d hd),by omega,zW,fun i O2 AE=>?_,?_,?_,?_⟩
 ·rw [gK (by omega),if_pos rfl,BB,map_append,map_singleton,hx]
 ·have h1:cy r c≠y:=hy c (by simp);rw [hx] at h1;rw [gK y0,if_neg (by omega),if_neg (fun w=>h1 w.symm)];exact p.keep y y0 y1 fun e he=>hy e (mem_append_left _ he)
 ·rw [CK _ (p.sub _ (g.dt i)) (by rw [<- e1]; exact (rB nd (by omega) (by omega)).symm) (JV i)];exact p.i1 i (by omega) AE
 ·rw [CK _ (p.sub _ (g.dt _)) (by rw [<- e1]; exact (rB nd (by omega) (by omega)).symm) (JV _)];exact p.i2
 ·rw [f2,hx]
 ·rw [hx,GD,<- e1,p.i1 (c - 1) (by omega) (by omega)];rw [show c - 1 + 1 = c by omega]
end
end Gm
end
section
namespace L2
open PySem PySem.Spec PySem.W PySem.Calls PyProof.Rows
theorem xD:bootBuiltins "set" = some (.type "set"):=by decide +kernel
end L2
namespace Gm
open PySem L2
theorem mD {H:Hp} {c b:Addr} {o:HO} {as:List Addr} (hc:c∈as) (hb:b∉as):upd H c o b = H b:=ak (fun z=>hb (by rw [z]; exact hc))
theorem ah.off {H H1 H2:Hp} {as:List Addr} (e:ah H H1) (fr:∀ b∈as,H b = none) (o:∀ b u,b∉as->H1 b = some u->H2 b = some u):ah H H2:=fun b u h=>o b u (fun z=>by rw [fr b z] at h; cases h) (e b u h)
theorem bY.pos {L:List (List Int)} {R:List (List aq)} (s:bY L) (D:Dec L R):0 < R.length:=by
 refine Nat.pos_of_ne_zero fun z=>?_;have R0:R = []:=List.length_eq_zero_iff.mp z;subst R0;have two:=s.two;have i0:=s.Ee;unfold iso at i0;have:=List.countP_eq_zero.mp i0 L[0] (getElem_mem (by omega));cases q:L[0] with
 | nil=>rw [q] at this; exact this rfl
 | cons x r=>
  have d:=Reach.oY (L:=L) (i:=0) (getElem?_eq_getElem (by omega)) (by rw [q]; exact mem_cons_self);have:=(D.mem _).mpr d;cases this
theorem PR.at {H:Hp}:∀ {ps:List Addr} {T:List (Int×Int)},PR H ps T->∀ {i:Nat} {a:Addr},ps[i]? = some a->∃ x:Int×Int,T[i]? = some x/\H a = some (.tup [.int x.1,.int x.2])
 | _,_,.nil,_,_,e=>by simp at e
 | _,_,.cons r t,0,_,e=>by simp at e; subst e; exact ⟨_,rfl,r⟩
 | _,_,.cons r t,i + 1,_,e=>by
  obtain ⟨x,h1,h2⟩:=PR.at t (i:=i) (by simpa using e);exact ⟨x,by simpa using h1,h2⟩
theorem yC {L:List (List Int)} {d:aq} (k:Nat):it L (nx L d) k = it L d (k + 1):=by
 rw [Nat.add_comm,oF]; rfl
theorem AL {L:List (List Int)} {x y:aq} {l:List aq} (h:Wk (nx L) x l y):l = tr L x l.length/\y = it L x l.length:=by
 induction h with
 | nil x=>exact ⟨rfl,rfl⟩
 | @cons x y l _ ih=>
  obtain ⟨h1,h2⟩:=ih;refine ⟨?_,by rw [length_cons,<- yC]; exact h2⟩;rw [length_cons];unfold tr;rw [range_succ_eq_map,map_cons,map_map];show x :: l = x :: _
  congr 1
  refine h1.trans ?_;unfold tr;refine map_congr_left fun j _=>?_;exact yC j
theorem Dm {L:List (List Int)} {d:aq} {k:Nat} (hk:0 < k) (e:it L d k = d):sh 0 (aH L d k) = tr L d k:=by
 have hl:(aH L d k).length = k:=by unfold aH; simp
 unfold sh tr;rw [hl];exact map_congr_left fun j _=>by rw [gF hk e,Nat.add_zero]
theorem Dec.good {L:List (List Int)} {R:List (List aq)} (m:av L) (D:Dec L R) {c:List aq} (hc:c∈R):Good L (c.map (·.1))/\sh 0 (c.map (·.1)) = c/\c.Nodup:=by
 obtain ⟨x,l,e,k⟩:=D.jB c hc;obtain ⟨h1,h2⟩:=AL k;have k0:0 < c.length:=by rw [e]; simp
 have dx:Dt L x:=(D.mem x).mp (List.mem_flatten.mpr ⟨c,hc,by rw [e]; exact mem_cons_self⟩);have er:c.map (·.1) = aH L x c.length:=by
  conv=>lhs; rw [h1]
  unfold aH tr;rw [map_map]; rfl
 have hn:c.Nodup:=(List.pairwise_flatten.mp D.nd).1 c hc;rw [er];exact ⟨qI m dx k0 h2.symm,(Dm k0 h2.symm).trans h1.symm,hn⟩
theorem Good.on {L:List (List Int)} {r:List Int} (g:Good L r) {P:aq->Prop} (hs:∀ d,Dt L d->P d->P (nx L d)) {i:Nat} (h:P (dj r i)) (j:Nat):P (dj r j):=by
 have two:=g.two;have go:∀ k,P (dj r (i + k)):=by
  intro k
  induction k with
  | zero=>exact h
  | succ k ih=>have:=hs _ (g.dt _) ih; rw [g.st] at this; exact this
 have:=go (j + i * r.length - i);have e:i<=i * r.length:=Nat.le_mul_of_pos_right i (by omega);rw [show i + (j + i * r.length - i) = j + i * r.length by omega] at this;rw [ft (i:=j + i * r.length) (j:=j) (by rw [Nat.add_mul_mod_self_right])] at this;exact this
theorem xG:bY [[1],[0]]:=by
 have m:av [[1],[0]]:=by
  refine fY fun x x0 x1=>?_;have x1:x < 2:=x1;have:x = 0\/x = 1:=by omega
  rcases this with rfl | rfl
  ·refine ⟨by decide,fun y hy=>?_⟩;have:y = 1:=List.mem_singleton.mp hy;subst this;decide
  ·refine ⟨by decide,fun y hy=>?_⟩;have:y = 0:=List.mem_singleton.mp hy;subst this;decide
 have dd:ck [[1],[0]] 2 = [((0:Int),(1:Int)),(1,0)]:=rfl;refine ⟨m,by decide,fun x x0 x1=>?_,[[(0,1),(1,0)]],⟨fun c hc=>?_,by decide,fun d=>?_⟩,by decide⟩
 ·have x1:x < 2:=x1;have:x = 0\/x = 1:=by omega
  rcases this with rfl | rfl
  ·exact ⟨0,by simp,.here⟩
  ·exact ⟨0,by simp,Reach.one (d:=(0,1)) .here (Dt.of (by show _∈ck [[1],[0]] 2; rw [dd]; simp))⟩
 ·rw [List.mem_singleton.mp hc];exact ⟨(0,1),[(1,0)],rfl,.cons (.cons (.nil _))⟩
 ·have e:d∈ck [[1],[0]] 2↔Dt [[1],[0]] d:=⟨fun h=>Dt.of h,fun h=>h.all⟩;rw [<- e,dd];simp
theorem qr {M:List (List Int)} {x:Int} {n:Nat} {A B:List Int} (hn:M.length = n + 1) (x1:x.toNat < n):(both M x (n:Int) A B).take n = (M.take n).set x.toNat A:=by
 unfold both;rw [Int.toNat_natCast];apply ext_getElem?;intro i;rw [getElem?_take];by_cases h:i < n
 ·rw [if_pos h,getElem?_set_ne (by omega)];by_cases e:i = x.toNat
  ·subst e;rw [getElem?_set,if_pos rfl,if_pos (by omega),getElem?_set,if_pos rfl,if_pos (by rw [length_take]; omega)]
  ·rw [getElem?_set_ne (fun w=>e w.symm),getElem?_set_ne (fun w=>e w.symm),getElem?_take,if_pos h]
 ·rw [if_neg h,getElem?_eq_none (by rw [length_set,length_take]; omega)]
theorem zk {M:List (List Int)} {n:Nat} (hn:M.length = n + 1):M.take n ++ [rowOf M (n:Int)] = M:=by
 have h:=ay (L:=M) (a:=(n:Int)) (by omega) (by omega);rw [Int.toNat_natCast] at h;rw [<- take_snoc h,take_of_length_le (by omega)]
structure Sn (S:List Int) (L:List (List Int)):Prop where
 map:av L
 span:eJ L S
 yU:∃ R,Dec L R/\(L.length:Int) + R.length + iso L = (cO L L.length).length + 2 * (S.length:Int)
theorem bY.sn {L:List (List Int)} (s:bY L):Sn [0] L:=⟨s.map,s.span,let ⟨R,D,c⟩:=s.yU; ⟨R,D,by rw [c]; rfl⟩⟩
section
variable {L:List (List Int)} {a b:Int} {A B:List Int}
theorem bu.sn (F:bu L a b A B) {S:List Int} (s:Sn S L) {z1 z2:Int} (h1:z1∈rowOf L a) (h2:z2∈rowOf L b) (f1:pre A z1 = b) (f2:pre B z2 = a)
  (conn:∀ P:aq->Prop,P (z1,a)->(∀ d,Dt L d->P d->P (nx L d))->P (z2,b)):Sn S (both L a b A B):=by
 obtain ⟨c0,c1,c2,c3⟩:=Dt.back (d:=(a,z1)) ⟨F.a0,F.a1,h1⟩ F.map;obtain ⟨e0,e1,e2,e3⟩:=Dt.back (d:=(b,z2)) ⟨F.b0,F.b1,h2⟩ F.map;obtain ⟨R,D,ch⟩:=s.yU;obtain ⟨R',D'⟩:=gC F.fj;have n1:nx (both L a b A B) (z1,a) = (a,b):=by
  unfold nx; dsimp only; rw [F.row F.a0,if_neg F.ne,if_pos rfl,f1]
 have n2:nx (both L a b A B) (z2,b) = (b,a):=by
  unfold nx; dsimp only; rw [F.row F.b0,if_pos rfl,f2]
 obtain ⟨l1,l2⟩:=zc (R:=R) F.fj F.dt n1 n2 (by rw [F.rem]; exact ⟨c0,c1,c3⟩) (by rw [F.rem]; exact ⟨e0,e1,e3⟩) (by rw [F.rem]; exact D) D' (by rw [F.rem]; exact conn);rw [F.rem] at l2;refine ⟨F.fj,fun x x0 x1=>?_,R',D',?_⟩
 ·rw [bP] at x1;obtain ⟨t,ht,r⟩:=s.span x x0 x1;exact ⟨t,ht,r.mono F.sub⟩
 ·rw [bP,F.yM,l1,l2];omega
end
structure FI (S:List Int) (L:List (List Int)) (r:List Int) (c1 cj:Nat) (dn:List Nat) (M:List (List Int)):Prop where
 sh:Sn S M
 len:M.length = L.length + 1
 new:rowOf M (L.length:Int) = dn.map (cy r)
 hd:∃ rest,dn = c1 :: rest
 keep:∀ x:Int,0<=x->x < L.length->(∀ c∈dn,cy r c≠x)->rowOf M x = rowOf L x
 sub:∀ d,Dt L d->Dt M d
 le:c1<=cj
 top:cj < r.length
 i1:∀ i,cj<=i->i + 1 < c1 + r.length->nx M (dj r i) = dj r (i + 1)
 i2:nx M (dj r (c1 + (r.length - 1))) = (cy r c1,(L.length:Int))
 i3:nx M (cy r c1,(L.length:Int)) = ((L.length:Int),cy r cj)
 i4:nx M ((L.length:Int),cy r cj) = dj r cj
section
variable {L:List (List Int)} {r:List Int}
theorem FI.first {S:List Int} (s:Sn S L) (g:Good L r) (nd:(Gm.sh 0 r).Nodup) {c:Nat} (hc:c < r.length) :
  bu (c5 L) (cy r c) (L.length:Int) (put (rowOf L (cy r c)) ((rowOf L (cy r c)).idxOf (cy r (c + (r.length - 1)))) L.length) [cy r c]/\
  FI S L r c c [c] (both (c5 L) (cy r c) (L.length:Int) (put (rowOf L (cy r c)) ((rowOf L (cy r c)).idxOf (cy r (c + (r.length - 1)))) L.length) [cy r c]):=by
 have two:=g.two;obtain ⟨z1,x0,x1,ed⟩:=bT g s.map (c:=c);generalize hx:cy r c = x at z1 x0 x1 ed ⊢;generalize hz:cy r (c + (r.length - 1)) = z at z1 ed ⊢;have nn:=kU s.map x0 x1;have lx:rowOf (c5 L) x = rowOf L x:=by rw [cM x0,if_pos x1]
 have ln:rowOf (c5 L) (L.length:Int) = []:=by rw [cM (by omega),if_neg (by omega)]
 have F:bu (c5 L) x (L.length:Int) (put (rowOf L x) ((rowOf L x).idxOf z) L.length) [x]:=
  ⟨ou s.map,x0,by rw [dZ]; omega,by omega,by rw [dZ]; omega,by omega,by rw [lx]; exact nn,by rw [lx]; exact dD _ _ _,by rw [ln],by rw [lx]; exact dr nn,by rw [ln]; simp⟩
 refine ⟨F,?_⟩;generalize hM:both (c5 L) x (L.length:Int) (put (rowOf L x) ((rowOf L x).idxOf z) L.length) [x] = M at F ⊢;have FM:av M:=hM▸F.fj;have Fd:Dt M (x,(L.length:Int)):=hM▸F.dt;have Fr:rem M x (L.length:Int) = c5 L:=hM▸F.rem;have gK:∀ {y:Int},0<=y->rowOf M y = if y = (L.length:Int) then [x] else if y = x then put (rowOf L x) ((rowOf L x).idxOf z) L.length else rowOf (c5 L) y:=fun h=>hM▸F.row h
 have Ml:M.length = L.length + 1:=by rw [<- hM,bP,dZ]
 have xn:x≠(L.length:Int):=by omega
 have sub:∀ d,Dt L d->Dt M d:=fun d hd=>hM▸F.sub d (dI.mpr hd);have f1:nx M (z,x) = (x,(L.length:Int)):=by unfold nx; dsimp only; rw [gK x0,if_neg xn,if_pos rfl,fB z1 nn]
 have f2:nx M (x,(L.length:Int)) = ((L.length:Int),x):=by
  unfold nx; dsimp only; rw [gK (by omega),if_pos rfl];refine Prod.ext rfl ?_;show pre [x] x = x;unfold pre cy;simp [Nat.mod_one]
 have xB:Dt L (z,x):=by
  obtain ⟨c0,c1,c2,c3⟩:=Dt.back (d:=(x,z)) ⟨x0,x1,z1⟩ s.map;exact ⟨c0,c1,c3⟩
 have CK:∀ d,Dt L d->d≠(z,x)->nx M d = nx L d:=fun d hd iV=>by
  have h0:=gk FM Fd (d:=d) (by rw [Fr]; exact dI.mpr hd);rw [Fr,jX s.map hd] at h0;have dm:=sub d hd;have n1:nx M d≠((L.length:Int),x):=fun w=>by
   have:=dH FM dm Fd (w.trans f2.symm);rw [this] at hd;exact kU s.map x0 x1 hd.mem
  have n2:nx M d≠(x,(L.length:Int)):=fun w=>iV (dH FM dm (sub _ xB) (w.trans f1.symm));rw [if_neg n1,if_neg n2] at h0;exact h0.symm
 have GD:nx M ((L.length:Int),x) = nx L (z,x):=by
  have h0:=gk FM Fd (d:=(z,x)) (by rw [Fr]; exact dI.mpr xB);rw [Fr,jX s.map xB,f1,if_neg (fun w=>xn (congrArg Prod.fst w)),if_pos rfl] at h0;exact h0.symm
 obtain ⟨R,D,ch⟩:=s.yU;obtain ⟨R',D'⟩:=gC FM;obtain ⟨l1,l2⟩:=vi (R:=R) (z1:=z) FM Fd f2 f1 (by rw [Fr]; exact dI.mpr xB) (by rw [Fr]; exact vc s.map D) D';rw [Fr,va] at l2;have yM:(cO M M.length).length = (cO L L.length).length + 1:=by
  have h1:=(iA FM Fd).2;rw [Fr,vb s.map] at h1;have h2:=bp FM;have h3:=bp s.map;omega
 have jz:Sn S M:=by
  refine ⟨FM,fun y y0 y1=>?_,R',D',?_⟩
  ·by_cases e:y < L.length
   ·obtain ⟨t,ht,q⟩:=s.span y y0 e;exact ⟨t,ht,q.mono sub⟩
   ·have ey:y = (L.length:Int):=by rw [Ml] at y1; omega
    obtain ⟨t,ht,q⟩:=s.span x x0 x1;rw [ey];exact ⟨t,ht,Reach.one (d:=(x,(L.length:Int))) (q.mono sub) Fd⟩
  ·rw [yM,Ml,l1];omega
 have Ho:dj r (c + (r.length - 1)) = (z,x):=ed;refine ⟨jz,Ml,by rw [gK (by omega),if_pos rfl,map_singleton,hx],⟨[],rfl⟩,fun y y0 y1 hy=>?_,sub,Nat.le_refl _,hc,fun i O2 AE=>?_,?_,?_,?_⟩
 ·have:cy r c≠y:=hy c (by simp);rw [hx] at this;rw [gK y0,if_neg (by omega),if_neg (fun w=>this w.symm),cM y0,if_pos y1]
 ·rw [CK _ (g.dt i) (by rw [<- Ho]; exact rB nd (by omega) (by omega)),g.st]
 ·rw [Ho,f1,hx]
 ·rw [hx,f2]
 ·rw [hx,GD,<- Ho,g.st];exact ft (by rw [show c + (r.length - 1) + 1 = c + r.length by omega,Nat.add_mod_right])
theorem FI.next {S:List Int} {M:List (List Int)} {c1 cj c:Nat} {dn:List Nat} (s:Sn S L) (g:Good L r) (nd:(Gm.sh 0 r).Nodup) (p:FI S L r c1 cj dn M) (hc:cj < c) (zW:c < r.length) (un:∀ e∈dn,cy r e≠cy r c) :
  bu M (cy r c) (L.length:Int) (put (rowOf L (cy r c)) ((rowOf L (cy r c)).idxOf (cy r (c + (r.length - 1)))) L.length) (rowOf M (L.length:Int) ++ [cy r c])/\
  FI S L r c1 c (dn ++ [c]) (both M (cy r c) (L.length:Int) (put (rowOf L (cy r c)) ((rowOf L (cy r c)).idxOf (cy r (c + (r.length - 1)))) L.length) (rowOf M (L.length:Int) ++ [cy r c])):=by
 have two:=g.two;have le:=p.le;obtain ⟨z1,x0,x1,ed⟩:=bT g s.map (c:=c);have rx:=p.keep (cy r c) x0 x1 un;have AK:cy r c∉rowOf M (L.length:Int):=by
  rw [p.new];intro w;obtain ⟨e,he,h⟩:=List.mem_map.mp w;exact un e he h
 have BB:=p.new;generalize hx:cy r c = x at z1 x0 x1 ed rx AK ⊢;generalize hz:cy r (c + (r.length - 1)) = z at z1 ed ⊢;have nn:=kU s.map x0 x1;have F:bu M x (L.length:Int) (put (rowOf L x) ((rowOf L x).idxOf z) L.length) (rowOf M (L.length:Int) ++ [x]):=
  ⟨p.sh.map,x0,by rw [p.len]; omega,by omega,by rw [p.len]; omega,by omega,by rw [rx]; exact nn,by rw [rx]; exact dD _ _ _,perm_append_singleton _ _,by rw [rx]; exact dr nn,nu AK⟩
 refine ⟨F,?_⟩;obtain ⟨rest,hd⟩:=p.hd;have wD:rowOf M (L.length:Int) = cy r c1 :: rest.map (cy r):=by rw [BB,hd]; rfl
 have e1:dj r (c - 1) = (z,x):=by
  rw [<- ed];exact (ft (by rw [show c + (r.length - 1) = (c - 1) + r.length by omega,Nat.add_mod_right])).symm
 have xB:Dt L (z,x):=e1▸g.dt (c - 1);have dyn:Dt M (cy r c1,(L.length:Int)):=by
  have:=Dt.back (d:=((L.length:Int),cy r c1)) ⟨by simp,by rw [p.len]; simp; omega,by rw [wD]; exact mem_cons_self⟩ p.sh.map;exact ⟨this.1,this.2.1,this.2.2.2⟩
 have K1:pre (put (rowOf L x) ((rowOf L x).idxOf z) L.length) z = (L.length:Int):=fB z1 nn;have K0:pre (rowOf M (L.length:Int) ++ [x]) (cy r c1) = x:=by rw [wD]; exact uM
 have conn:∀ P:aq->Prop,P (z,x)->(∀ d,Dt M d->P d->P (nx M d))->P (cy r c1,(L.length:Int)):=fun P h0 hs=>by
  have go:∀ k,c - 1 + k<=c1 + (r.length - 1)->P (dj r (c - 1 + k)):=by
   intro k
   induction k with
   | zero=>intro _; rw [Nat.add_zero,e1]; exact h0
   | succ k ih=>
    intro hk;have:=hs _ (p.sub _ (g.dt (c - 1 + k))) (ih (by omega));rw [p.i1 (c - 1 + k) (by omega) (by omega)] at this;exact this
  have:=go (c1 + (r.length - 1) - (c - 1)) (by omega);rw [show c - 1 + (c1 + (r.length - 1) - (c - 1)) = c1 + (r.length - 1) by omega] at this;have:=hs _ (p.sub _ (g.dt _)) this;rw [p.i2] at this;exact this
 have jz:=F.sn p.sh (z1:=z) (z2:=cy r c1) (by rw [rx]; exact z1) (by rw [wD]; exact mem_cons_self) K1 K0 conn;generalize hM:both M x (L.length:Int) (put (rowOf L x) ((rowOf L x).idxOf z) L.length) (rowOf M (L.length:Int) ++ [x]) = N at F jz ⊢;have FM:av N:=hM▸F.fj;have Fd:Dt N (x,(L.length:Int)):=hM▸F.dt;have Fr:rem N x (L.length:Int) = M:=hM▸F.rem;have gK:∀ {y:Int},0<=y->rowOf N y = if y = (L.length:Int) then rowOf M (L.length:Int) ++ [x] else if y = x then put (rowOf L x) ((rowOf L x).idxOf z) L.length else rowOf M y:=fun h=>hM▸F.row h
 have Nl:N.length = L.length + 1:=by rw [<- hM,bP,p.len]
 have xn:x≠(L.length:Int):=by omega
 have rV:∀ d,Dt M d->Dt N d:=fun d hd=>hM▸F.sub d hd;have f1:nx N (z,x) = (x,(L.length:Int)):=by unfold nx; dsimp only; rw [gK x0,if_neg xn,if_pos rfl,K1]
 have f2:nx N (cy r c1,(L.length:Int)) = ((L.length:Int),x):=by unfold nx; dsimp only; rw [gK (by omega),if_pos rfl,K0]
 have CK:∀ d,Dt M d->d≠(z,x)->d≠(cy r c1,(L.length:Int))->nx N d = nx M d:=fun d hd iV G8=>by
  have h0:=gk FM Fd (d:=d) (by rw [Fr]; exact hd);rw [Fr] at h0;have dm:=rV d hd;have n1:nx N d≠((L.length:Int),x):=fun w=>G8 (dH FM dm (rV _ dyn) (w.trans f2.symm));have n2:nx N d≠(x,(L.length:Int)):=fun w=>iV (dH FM dm (rV _ (p.sub _ xB)) (w.trans f1.symm));rw [if_neg n1,if_neg n2] at h0;exact h0.symm
 have GD:nx N ((L.length:Int),x) = nx M (z,x):=by
  have h0:=gk FM Fd (d:=(z,x)) (by rw [Fr]; exact p.sub _ xB);rw [Fr,f1,if_neg (fun w=>xn (congrArg Prod.fst w)),if_pos rfl] at h0;exact h0.symm
 have JV:∀ i,dj r i≠(cy r c1,(L.length:Int)):=fun i w=>by
  have d:=g.dt i;have:=(d.back s.map).2.1;rw [w] at this;simp at this
 refine ⟨jz,Nl,?_,⟨rest ++ [c],by rw [hd]; rfl⟩,fun y y0 y1 hy=>?_,fun d hd=>rV d (p.sub d hd),by omega,zW,fun i O2 AE=>?_,?_,?_,?_⟩
 ·rw [gK (by omega),if_pos rfl,BB,map_append,map_singleton,hx]
 ·have h1:cy r c≠y:=hy c (by simp);rw [hx] at h1;rw [gK y0,if_neg (by omega),if_neg (fun w=>h1 w.symm)];exact p.keep y y0 y1 fun e he=>hy e (mem_append_left _ he)
 ·rw [CK _ (p.sub _ (g.dt i)) (by rw [<- e1]; exact (rB nd (by omega) (by omega)).symm) (JV i)];exact p.i1 i (by omega) AE
 ·rw [CK _ (p.sub _ (g.dt _)) (by rw [<- e1]; exact (rB nd (by omega) (by omega)).symm) (JV _)];exact p.i2
 ·rw [f2,hx]
 ·rw [hx,GD,<- e1,p.i1 (c - 1) (by omega) (by omega)];rw [show c - 1 + 1 = c by omega]
end
section
variable {L:List (List Int)} {a b:Int}
theorem ya (m:av L) (h:Dt L (a,b)):(cO L L.length).length = (cO (rem L a b) (rem L a b).length).length + 1:=by
 have h1:=(iA m h).2;have h2:=bp m;have h3:=bp (mH m h);omega
theorem Sn.rem {S:List Int} (s:Sn S L) (h:Dt L (a,b)):∃ S',Sn S' (rem L a b):=by
 have m:=s.map;obtain ⟨R,D,ch⟩:=s.yU;obtain ⟨b0,b1,b2,b3⟩:=h.back m;have hb:Dt L (b,a):=⟨b0,b1,b3⟩;have m':=mH m h;have yM:=ya m h;have xi:=mI m h;have ib:=dq m h;have ia:(rowOf L a).erase b = []↔nx L (b,a) = (a,b):=dq m hb;rcases mJ m h D with ⟨A,B,T,D',lR,kA,kB⟩ | ⟨A,B,T,D',lR,A0,B0,kA,kB,dd⟩
 ·obtain ⟨t0,s'⟩:=s.span.more m h;refine ⟨t0 :: S,m',s',_,D',?_⟩;have eA:A = []↔nx L (a,b) = (b,a):=by
   constructor
   ·intro z; rw [z] at kA; exact kA.nil_eq
   ·intro z;cases A with
    | nil=>rfl
    | cons p A=>
     have hp:=kA.hd;have dt:Dt (Gm.rem L a b) p:=(D'.mem p).mp (List.mem_flatten.mpr ⟨p :: A,by simp,mem_cons_self⟩);rw [hp,z] at dt;exact absurd rfl ((bG m h).mp dt).2.2
  have eB:B = []↔nx L (b,a) = (a,b):=by
   constructor
   ·intro z; rw [z] at kB; exact kB.nil_eq
   ·intro z;cases B with
    | nil=>rfl
    | cons p B=>
     have hp:=kB.hd;have dt:Dt (Gm.rem L a b) p:=(D'.mem p).mp (List.mem_flatten.mpr ⟨p :: B,by simp,mem_cons_self⟩);rw [hp,z] at dt;exact absurd rfl ((bG m h).mp dt).2.1
  have l1:∀ A:List aq,((if A = [] then [] else [A]):List (List aq)).length = if A = [] then 0 else 1:=fun A=>by
   by_cases z:A = []
   ·rw [if_pos z,if_pos z]; rfl
   ·rw [if_neg z,if_neg z]; rfl
  have key:(if A = [] then 0 else 1) + (if (rowOf L b).erase a = [] then 1 else 0) = 1:=by
   by_cases z:A = []
   ·rw [if_pos z,if_pos (ib.mpr (eA.mp z))]
   ·rw [if_neg z,if_neg (fun y=>z (eA.mpr (ib.mp y)))]
  have Og:(if B = [] then 0 else 1) + (if (rowOf L a).erase b = [] then 1 else 0) = 1:=by
   by_cases z:B = []
   ·rw [if_pos z,if_pos (ia.mpr (eB.mp z))]
   ·rw [if_neg z,if_neg (fun y=>z (eB.mpr (ia.mp y)))]
  rw [length_append,length_append,l1,l1,cL,xi,length_cons];rw [cL] at yM;omega
 ·have CW:∀ d∈A,Dt (Gm.rem L a b) d:=fun d hd=>dd d (mem_append_left _ hd);have Lj:∀ d∈B,Dt (Gm.rem L a b) d:=fun d hd=>dd d (mem_append_right _ hd);have r2:Reach (Gm.rem L a b) b a:=kA.reach CW;have r1:Reach (Gm.rem L a b) a b:=kB.reach Lj;refine ⟨S,m',s.span.E3 m h r1 r2,_,D',?_⟩;have nb:¬ (rowOf L b).erase a = []:=fun z=>by
   cases A with
   | nil=>exact A0 rfl
   | cons p A=>
    have hp:=kA.hd;have dt:=CW p mem_cons_self;rw [hp,ib.mp z] at dt;exact ((bG m h).mp dt).2.2 rfl
  have na:¬ (rowOf L a).erase b = []:=fun z=>by
   cases B with
   | nil=>exact B0 rfl
   | cons p B=>
    have hp:=kB.hd;have dt:=Lj p mem_cons_self;rw [hp,ia.mp z] at dt;exact ((bG m h).mp dt).2.1 rfl
  rw [if_neg nb,if_neg na] at xi;rw [length_cons,cL,xi];rw [cL] at yM;omega
theorem Sn.ke {S:List Int} (s:Sn S L) (h:eJ L [0]) (h1:0 < L.length):Sn [0] L:=by
 obtain ⟨R,D,ch⟩:=s.yU;obtain ⟨t,e1,e2⟩:=xC s.map D h;obtain ⟨u,hu,_⟩:=s.span 0 (by omega) (by omega);have:0 < S.length:=length_pos_of_mem hu;simp at e2;exact ⟨s.map,h,R,D,by simp; omega⟩
theorem Sn.lH (s:Sn [0] L) (h:2<=L.length):bY L:=⟨s.map,h,s.span,let ⟨R,D,c⟩:=s.yU; ⟨R,D,by rw [c]; rfl⟩⟩
theorem two_ring (m:av L) {R:List (List aq)} (D:Dec L R) {c:List aq} (hc:c∈R) (h2:c.length<=2):∃ x y:Int,c = [(x,y),(y,x)]/\rowOf L x = [y]/\rowOf L y = [x]/\Dt L (x,y):=by
 have dt:∀ d∈c,Dt L d:=fun d hd=>(D.mem d).mp (List.mem_flatten.mpr ⟨c,hc,hd⟩);obtain ⟨x,l,e,k⟩:=D.jB c hc;subst e;have hx:=dt x mem_cons_self;obtain ⟨b0,b1,b2,b3⟩:=hx.back m;have k1:=k.tl;cases l with
 | nil=>exact absurd (congrArg Prod.fst k1.nil_eq) b2
 | cons y l=>
  cases l with
  | cons w l=>simp at h2
  | nil=>
   have ey:=k1.hd;have ex:=k1.tl.nil_eq;rw [<- ey] at ex;have y1:y.1 = x.2:=by rw [ey]; rfl
   have y2:y.2 = x.1:=congrArg Prod.fst ex;have p1:pre (rowOf L x.2) x.1 = x.1:=by
    have:y.2 = pre (rowOf L x.2) x.1:=by rw [ey]; rfl
    rw [<- this,y2]
   have p2:pre (rowOf L x.1) x.2 = x.2:=by
    have:pre (rowOf L y.2) y.1 = x.2:=congrArg Prod.snd ex;rwa [y1,y2] at this
   have r1:=iC (m.nd _ _ (ay b0 b1)) b3 p1;have r2:=iC (m.nd _ _ (ay hx.lo hx.hi)) hx.mem p2;refine ⟨x.1,x.2,?_,r2,r1,hx⟩;have:y = (x.2,x.1):=Prod.ext y1 y2;rw [this]
theorem vB {T R:List (List aq)} (h:T.Sublist R):T.flatten.Sublist R.flatten:=by
 induction h with
 | slnil=>exact .slnil
 | cons a _ ih=>rw [flatten_cons]; exact ih.trans (sublist_append_right _ _)
 | cons_cons a _ ih=>rw [flatten_cons,flatten_cons]; exact (List.Sublist.refl a).append ih
theorem rh:∀ {R:List (List aq)},(∀ c∈R,2<=c.length)->3 * R.length<=R.flatten.length + (R.filter fun c=>decide (c.length<=2)).length
 | [],_=>Nat.le_refl _
 | c :: R,h=>by
  have:=rh (R:=R) fun x hx=>h x (mem_cons_of_mem _ hx);have:=h c mem_cons_self;rw [flatten_cons,length_append,length_cons,filter_cons];split
  ·rename_i z;have:=of_decide_eq_true z;rw [length_cons];omega
  ·rename_i z;have:¬ c.length<=2:=fun w=>z (decide_eq_true w);omega
theorem Dec.two {R:List (List aq)} (m:av L) (D:Dec L R):∀ c∈R,2<=c.length:=fun c hc=>by
 by_cases z:c.length<=2
 ·obtain ⟨x,y,e,_⟩:=two_ring m D hc z;rw [e]; simp
 ·omega
theorem two_few (m:av L) {R:List (List aq)} (D:Dec L R):2 * (R.filter fun c=>decide (c.length<=2)).length<=L.length:=by
 have key:∀ T:List (List aq),(∀ c∈T,c∈R/\c.length<=2)->T.flatten.Nodup->(T.flatten.map (·.1)).Nodup/\T.flatten.length = 2 * T.length:=fun T hT nd=>by
  constructor
  ·refine List.pairwise_map.mpr (List.Pairwise.imp_of_mem ?_ nd);rintro x y hx hy ne e;refine ne ?_;obtain ⟨c,hc,Ox⟩:=List.mem_flatten.mp hx;obtain ⟨c',yI,Vh⟩:=List.mem_flatten.mp hy;obtain ⟨p,q,e1,r1,r2,_⟩:=two_ring m D (hT c hc).1 (hT c hc).2;have Vj:=(D.mem x).mp (List.mem_flatten.mpr ⟨c,(hT c hc).1,Ox⟩);have Vg:=(D.mem y).mp (List.mem_flatten.mpr ⟨c',(hT c' yI).1,Vh⟩);have one:∃ z,rowOf L x.1 = [z]:=by
    rw [e1] at Ox;rcases List.mem_cons.mp Ox with z | z
    ·rw [z]; exact ⟨_,r1⟩
    ·rw [List.mem_singleton.mp z]; exact ⟨_,r2⟩
   obtain ⟨z,hz⟩:=one;have yE:=Vj.mem;have Mm:=Vg.mem;rw [<- e,hz] at Mm;rw [hz] at yE;exact Prod.ext e ((List.mem_singleton.mp yE).trans (List.mem_singleton.mp Mm).symm)
  ·clear nd
   induction T with
   | nil=>rfl
   | cons c T ih=>
    obtain ⟨p,q,e1,_⟩:=two_ring m D (hT c mem_cons_self).1 (hT c mem_cons_self).2;rw [flatten_cons,length_append,ih fun d hd=>hT d (mem_cons_of_mem _ hd),e1,length_cons];simp;omega
 obtain ⟨nd,ln⟩:=key (R.filter fun c=>decide (c.length<=2)) (fun c hc=>by
  have:=List.mem_filter.mp hc;exact ⟨this.1,of_decide_eq_true this.2⟩) (List.Sublist.nodup (vB filter_sublist) D.nd)
 have:=bz (n:=L.length) nd fun x hx=>by
  obtain ⟨d,hd,rfl⟩:=List.mem_map.mp hx;obtain ⟨c,hc,O7⟩:=List.mem_flatten.mp hd;have:=(D.mem d).mp (List.mem_flatten.mpr ⟨c,(List.mem_filter.mp hc).1,O7⟩);exact ⟨this.lo,this.hi⟩
 rw [length_map,ln] at this;exact this
theorem Ed (m:av L) {S:List Int} (s:eJ L S) {d:aq} (h:Dt L d):iso L + 1<=S.length:=by
 obtain ⟨u,hu,ru⟩:=s d.1 h.lo h.hi;have ul:∀ x,Reach L u x->(rowOf L u = []->x = u):=fun x r=>by
  induction r with
  | here=>exact fun _=>rfl
  | step r e hx ih=>
   rename_i i l y;intro z;have q:=Reach.oY e hx;have:=ih z;rw [<- this] at z;have:=q.mem;rw [z] at this;cases this
 have S4:rowOf L u≠[]:=fun z=>by
  have:=ul _ ru z;have q:=h.mem;rw [this,z] at q;cases q
 have Oj:iso L = (((List.range L.length).filter fun i:Nat=>(rowOf L (i:Int)).isEmpty).map fun i:Nat=>(i:Int)).length:=by
  rw [length_map,<- countP_eq_length_filter];unfold iso;have:L = (List.range L.length).map fun i:Nat=>rowOf L (i:Int):=by
   refine ext_getElem? fun i=>?_;rw [getElem?_map];by_cases z:i < L.length
   ·have:=ay (L:=L) (a:=(i:Int)) (by omega) (by omega);rw [Int.toNat_natCast] at this;rw [this,getElem?_range z]
    rfl
   ·rw [getElem?_eq_none (by omega),getElem?_eq_none (by simp; omega)]
    rfl
  conv=>lhs; rw [this]
  rw [countP_map]
  rfl
 have nd:(u :: ((List.range L.length).filter fun i:Nat=>(rowOf L (i:Int)).isEmpty).map fun i:Nat=>(i:Int)).Nodup:=by
  refine List.nodup_cons.mpr ⟨fun z=>?_,?_⟩
  ·obtain ⟨i,hi,e⟩:=List.mem_map.mp z;have:=(List.mem_filter.mp hi).2;rw [e] at this;exact S4 (List.isEmpty_iff.mp this)
  ·refine List.Pairwise.map _ (fun x y mr z=>mr (by omega)) (List.Pairwise.sublist filter_sublist nodup_range)
 have:=dJ nd (r:=S) fun x hx=>by
  rcases List.mem_cons.mp hx with z | z
  ·rw [z]; exact hu
  ·obtain ⟨i,hi,rfl⟩:=List.mem_map.mp z;obtain ⟨h1,h2⟩:=List.mem_filter.mp hi;have h1:=List.mem_range.mp h1;obtain ⟨v,hv,rv⟩:=s (i:Int) (by omega) (by omega);have h2:=List.isEmpty_iff.mp h2;have:(i:Int) = v:=by
    cases rv with
    | here=>rfl
    | step r e hx=>
     have q:=Reach.oY e hx;obtain ⟨q0,q1,q2,q3⟩:=q.back m;rw [h2] at q3;cases q3
   rw [this]; exact hv
 rw [length_cons,<- Oj] at this;exact this
theorem Sn.Ac {S:List Int} (s:Sn S L) (h:L.length<=12):(cO L L.length).length<=36:=by
 by_cases z:∃ d,Dt L d
 ·obtain ⟨d,hd⟩:=z;obtain ⟨R,D,ch⟩:=s.yU;have h1:=Ed s.map s.span hd;have h2:=two_few s.map D;have h3:=rh (D.two s.map);rw [D.len s.map,bp s.map] at h3;omega
 ·have:=bp s.map;cases e:ck L L.length with
  | nil=>rw [e] at this; simp at this; omega
  | cons d r=>exact absurd ⟨d,Dt.of (by rw [e]; exact mem_cons_self)⟩ z
theorem zx (m:av L) {R:List (List aq)} (D:Dec L R):R.length<=(cO L L.length).length:=by
 have h2:∀ T:List (List aq),(∀ c∈T,2<=c.length)->2 * T.length<=T.flatten.length:=fun T=>by
  induction T with
  | nil=>intro _; exact Nat.le_refl _
  | cons c T ih=>
   intro h;have:=ih fun x hx=>h x (mem_cons_of_mem _ hx);have:=h c mem_cons_self;rw [flatten_cons,length_append,length_cons];omega
 have:=h2 R (D.two m);rw [D.len m,bp m] at this;omega
end
end Gm
end
section
namespace L2
open PySem PySem.Spec PySem.W PySem.Calls PyProof.Rows
def Qp (K:Frag) (C:Addr) (HB:List Value) (newId:String):Prop:=∀ {h:Heap},K.In h->
  ∃ bm N nm qn bs sn sub ab col dd k0 k1 k2 k3 k5,h.get? C = some (excClassObj nm qn C N bs bm true sn sub ab col dd k0 k1 k2 k3 k5 newId)/\OwnTail h HB bm/\clsIn K C = some ⟨nm,bs,.ref C :: bm,N,qn,true,sn,sub,ab,col,false⟩
abbrev newExc (C:Addr) (t:Addr):Obj:={ cls:=.ref C,data:=.fields #[.ref t,.none,.none,.none,.bool false,.none] }
end L2
end
section
namespace L2
open PySem PySem.Spec PySem.W PySem.Calls PyProof.Rows Builtin Builtin.ObjectAttr
def Qq (C:Addr) (D:Option Addr) (a:Addr) (h:Heap):Prop:=∃ ob vs,h.get? a = some ob/\ob.cls = .ref C/\ob.data = .fields vs/\vs.size = 6/\vs[1]? = some .none/\ob.dict = D
def xt (C:Addr) (D:Option Addr) (a:Addr):HO:=.ext (Qq C D a)
end L2
end
section
namespace L2
open PySem PySem.Spec PySem.W PySem.Calls PyProof.Rows
abbrev W9:List Value:=[.type "ValueError",.type "Exception",.type "BaseException",.type "object"]
structure Qd (K:Frag) (C B f:Addr) (attr:Str):Prop where
 q:Qp K C W9 "ValueError.__new__"
 init:findIn K (.ref C) "__init__" = some (some (.ref f))
 fn:typeIn K (.ref f) = some (.type "function")
 kp:keepIn K (.ref C) = true
 sa:findIn K (.ref C) "__setattr__" = some (some (.builtin "object.__setattr__"))
 ob:mroIn K C (.type "object") = some true
 no:findIn K (.ref C) attr = some none
 hd:hasDictIn K C = true
 br:readsIn K B (.type "type") = true
 bg:specialIn K (.ref B) "__getattribute__" = some (some (.builtin "type.__getattribute__"))
 bf:findCls K (.ref B) (.type "type") "__init__" = some (.val (.builtin "ValueError.__init__"))
section
variable {X:Cx} {C B f:Addr} {attr:Str} {pins:List (Addr×Obj)} {σ : St} {H:Hp} {s:Shared}
def Nq (C:Addr) (ta:TA):TE:=fun σ H Q=>ta σ H fun vs H1=>∃ a D v,vs = [.ref a,v]/\H1 a = some (xt C D a)/\Q .bQ H1
def QX (C:Addr) (attr:Str) (ta tv:TE):TS:=fun D σ H=>tv σ H fun y H1=>ta σ H1 fun x H2=>∃ a,x = .ref a/\H2 a = some (xt C none a)/\∀ d,H2 d = none->d≠a->D.nx σ (upd (upd H2 a (xt C (some d) a)) d (.xd [(attr,y)]))
end
def del (H:Hp) (a:Addr):Hp:=fun b=>if b = a then none else H b
section
variable {X:Cx} {C B f:Addr} {attr:Str} {pins:List (Addr×Obj)} {σ : St} {H:Hp} {s:Shared}
def Dh (C:Addr) (attr:Str):Sp:=fun vs H Q _=>∃ a v,vs = [.ref a,v]/\H a = some (xt C none a)/\∀ d,H d = none->d≠a->Q .bQ (upd (upd H a (xt C (some d) a)) d (.xd [(attr,v)]))
end
structure Yk (P:Program) (w:World) (K:Frag) (mg:Str->Option Value) (base:Heap) (CX:qj) (k:Nat) (C B:Addr) (attr:Str) (ps:List Str):Prop where
 ex:∃ f fd,Qd K C B f attr/\gL P w K mg base CX k f fd ps (Dh C attr)/\Binds K fd ps []
section
variable {X:Cx} {C B f:Addr} {attr:Str}
def To (C:Addr) (attr:Str) (ta:TA):TE:=fun σ H Q=>ta σ H fun vs H1=>∃ v,vs = [v]/\∀ a d,H1 a = none->H1 d = none->d≠a->Q (.ref a) (upd (upd H1 a (xt C (some d) a)) d (.xd [(attr,v)]))
def LN (Ex:XK) (C:Addr) (attr:Str) (ta:TA):TS:=fun _ σ H=>ta σ H fun vs H1=>∃ v,vs = [v]/\∀ d,H1 d = none->Ex (.ref C) (some d) (upd H1 d (.xd [(attr,v)]))
end
section
variable {X:Cx} {C B f:Addr} {attr:Str}
def Tg (K:Frag) (ta:TE) (attr:Str):TE:=fun σ H Q=>ta σ H fun x H1=>∃ a C d fs v,x = .ref a/\(H1 a = some (Eu C (some d) a)\/H1 a = some (xt C (some d) a))/\H1 d = some (.xd fs)/\CI K C/\hasDictIn K C = true/\findIn K (.ref C) attr = some none/\fs.lookup attr = some v/\Q v H1
end
section
variable {P:Program} {w:World} {K:PySem.W.Frag} {mg:Str->Option Value} {base:Heap}
theorem Ar.Rj {x qual:Str} {st:Stmt} {f:Addr} {fd:FuncData} {N ps:List Str} {k:Nat} {sp:Sp} (F:Ar K x qual st f fd) (S:aG N ps (ao st)) (len:∀ vs H Q E,sp vs H Q E->vs.length = ps.length)
  (eg:∀ (bN:Value) (A:Around) (outer:List Env) (s:Shared) (H:Hp) (vs:List V) (Q:VK) (E:XK),cu k (A.deeper (envOfC qual (ao st) s.heap.objs.size f bN))->sp vs H Q E->
   ∃ t,pj (gH (bo P w) P w K mg base N qual (ao st) f bN A outer s H E).Bz (bI st) t/\t { nx:=fun _ H'=>Q .bQ H',rt:=Q } (start N vs) H):gL P w K mg base (bo P w) (k + 1) f fd ps sp:=by
 obtain ⟨oc,od,kV,doc,pm,an,bN,ct,Ax,rfl,lk,tE⟩:=F.ex;refine vA lk tE S len fun A o s H vs Q E hr qU=>?_;obtain ⟨t,h,q⟩:=eg bN A o s H vs Q E hr qU;exact ⟨t,h.Bz,q⟩
end
def j9 (s:Stmt) (j:Nat):Stmt:=match s with
 | .ClassDef _ _ _ b _ _ _ _ _ _ _=>b.getD j (.Pass ⟨0,0,0,0⟩)
 | _=>s
def Il (K:Frag) (M:Addr) (ts:TS) (D:Ends) (σ : St):XK:=fun cls _ H'=>∃ C,cls = .ref C/\exmOne K (.ref C) (.ref M) = some true/\ts D σ H'
theorem Cs {X:Cx} {x:Str} {M:Addr} {b₀ : Stmt} {ur:List Stmt} {ts:TS} {np pos:Pos} (hb:Body X) (hm:X.mg x = some (.ref M))
  (hs:∀ a,pj (X.marked a) (b₀ :: ur) ts) (hg:Gl X x:=by rfl) (vt:(x == ("__debug__" : Str)) = false:=by decide)
  {pins:List (Addr×Obj)} {σ : St} {D:Ends} {e:Value} {s':Shared} (h:EX X pins σ (Il X.K M ts D σ) e s') :
  wpAny (model X.prog X.w) X.A (noteFrame e X.env) (fun _ s2=>wpAny (model X.prog X.w) X.A (setFlight e none) (fun _ s3=>
   wpAny (model X.prog X.w) X.A (handleBy e X.env [.ExceptHandler (some (.Name x np)) none (b₀ :: ur) pos]) (SP X pins D) X.xe s3) X.xe s2) X.xe s':=by
 obtain ⟨a,cls,dx,H',s0,H0,rfl,I0,F,C,rfl,hx,q⟩:=h;obtain ⟨B,a0,Aa,ML,ct⟩:=F.Aa;have I':=F.inv I0;have yH:X.A.frames = some (X.env :: X.outer):=by rw [<- hb.wa]; exact I0.ok.frames
 have c0:vZ B (jb X.stack) X.s₀.heap:=fun b o e n=>by
  obtain ⟨o',z⟩:=I0.base.there b o e (by rw [hb.ex]; simp);exact ML b o' z n
 have cp:∀ p∈X.pn ++ pins,∃ ob,B.get? p.1 = some ob:=fun p hp=>by
  obtain ⟨e,nn,ne,nf,d⟩:=I0.pin p hp;refine ML _ _ e fun z=>?_;rcases List.mem_cons.mp (I0.jh _ z) with r | r
  ·exact ne r
  ·exact nf r
 rw [hb.wa] at Aa;refine wpAny_looks_onW yH hb.fr Aa fun h4 Ku Qy=>?_;refine wpAny_landsW Ku fun h5 Hm Qx=>?_;have J5:Inv X pins σ H' { s' with heap:=h5,toks:=s'.toks }:=Inv.yJ I' hb.ex Aa.1 Hm.1 c0 ct cp (Qy.trans Qx);obtain ⟨ob,OO,ON⟩:=Hm.there;have ty:Looks (model X.prog X.w) h5 (typeOf (.ref a)) (.ref C):=ON▸(Looks.ld OO).andThen .now;refine wpAny_handleBy_cons (codeAny_handlers_test (mQ (X:=X.marked a) J5.mark hg hm ?_ vt)) (by intro z; cases z);refine (exm_one J5.lO ty hx).at ?_;refine codeAny_handlers_suite ?_;refine lands_againW (s:={ s' with heap:=h5 }) Hm fun h6 Py S1=>?_;have J6:Inv X pins σ H' { s' with heap:=h6,toks:=s'.toks }:=Inv.yJ I' hb.ex Aa.1 Py.1 c0 ct cp ((Qy.trans Qx).trans S1);refine wpAny_mono (hs a pins _ _ _ _ J6.mark q) (fun f s9 z=>?_) fun _ _ z=>False.elim z;cases f with
 | next=>
  obtain ⟨σ',H2,J9,r⟩:=z;exact ⟨_,H2,J9.unmark J6.ok,r⟩
 | brk=>
  obtain ⟨σ',H2,J9,r⟩:=z;exact ⟨_,H2,J9.unmark J6.ok,r⟩
 | cont=>
  obtain ⟨σ',H2,J9,r⟩:=z;exact ⟨_,H2,J9.unmark J6.ok,r⟩
 | ret u=>
  obtain ⟨v,σ',H2,J9,rv,r⟩:=z;exact ⟨v,_,H2,J9.unmark J6.ok,rv,r⟩
def M9 (K:Frag) (sp:Sp) (ta:TA) (i:Nat) (M:Addr) (ts:TS):TS:=fun D σ H=>ta σ H fun vs H1=>sp (vs ++ []) H1 (fun v H2=>D.nx (σ.set i (some v)) H2) (Il K M ts D σ)
def Cx.AR (X:Cx) (pins:List (Addr×Obj)) (Et:XK):Cx:=
 { X with pn:=X.pn ++ pins,xe:=fun e s'=>∃ a cls D H' σ' s0 H0,e = .ref a/\Inv X pins σ' H0 s0/\As X.prog X.w X.stack H0 s0 a cls D H' s'/\Et cls D H' }
section
variable {X:Cx} {pins Fe:List (Addr×Obj)} {Et:XK} {σ : St} {H:Hp} {s:Shared}
theorem Inv.Te (I:Inv X pins σ H s):Inv (X.AR pins Et) [] σ H s:=
 ⟨⟨I.ok.mod,I.ok.kind,I.ok.glob,I.ok.blt,I.ok.above,I.ok.inj,I.ok.has,I.ok.FE,I.ok.hd,I.ok.frames,I.ok.wa,I.ok.K2,I.ok.bs,I.ok.Cw,I.ok.uV,I.ok.xr,I.ok.ja,I.ok.CU⟩,I.os,I.bare,I.base,I.loc,I.cell,I.free,I.fm,
  fun p hp=>I.pin p (by rw [append_nil] at hp; exact hp),I.bF,I.len⟩
theorem Inv.wx (I:Inv (X.AR pins Et) Fe σ H s):Inv X pins σ H s:=
 ⟨⟨I.ok.mod,I.ok.kind,I.ok.glob,I.ok.blt,I.ok.above,I.ok.inj,I.ok.has,I.ok.FE,I.ok.hd,I.ok.frames,I.ok.wa,I.ok.K2,I.ok.bs,I.ok.Cw,I.ok.uV,I.ok.xr,I.ok.ja,I.ok.CU⟩,I.os,I.bare,I.base,I.loc,I.cell,I.free,I.fm,
  fun p hp=>I.pin p (mem_append_left _ hp),I.bF,I.len⟩
theorem gN:Passes (bo X.prog X.w) (X.AR pins Et) Et:=by
 rintro Fe σ H s e s' I ⟨a,cls,D,H',rfl,F,q⟩;exact ⟨a,cls,D,H',σ,s,H,rfl,I.wx,F,q⟩
theorem SP.wx {D:Ends} {f:Flow} {s':Shared} (h:SP (X.AR pins Et) [] D f s'):SP X pins D f s':=by
 cases f with
 | next=>obtain ⟨σ',H',I,q⟩:=h; exact ⟨σ',H',I.wx,q⟩
 | brk=>obtain ⟨σ',H',I,q⟩:=h; exact ⟨σ',H',I.wx,q⟩
 | cont=>obtain ⟨σ',H',I,q⟩:=h; exact ⟨σ',H',I.wx,q⟩
 | ret u=>obtain ⟨v,σ',H',I,r,q⟩:=h; exact ⟨v,σ',H',I.wx,r,q⟩
end
def IE (K:Frag) (tb:XK->TS) (M:Addr) (ts:TS):TS:=fun D σ H=>tb (fun cls dx H'=>∀ σ':St,σ'.length = σ.length->Il K M ts D σ' cls dx H') D σ H
def QF (K:Frag) (tb:XK->TS) (M:Addr) (jn:Nat) (ts:TS):TS:=fun D σ H=>tb (fun cls dx H'=>∀ σ':St,σ'.length = σ.length->Sk K M jn ts D σ' cls dx H') D σ H
section
variable {X:Cx} {body:List Stmt} {tb:XK->TS} {x n:Str} {M:Addr} {jn:Nat} {b₀ : Stmt} {ur:List Stmt} {ts:TS} {np vp pos:Pos}
theorem wJ (hb:∀ pins Et,pj (X.AR pins Et) body (tb Et)) (VS:Body X) (hm:X.mg x = some (.ref M)) (hs:∀ a,pj (X.marked a) (b₀ :: ur) ts) (hg:Gl X x:=by rfl) (vt:(x == ("__debug__" : Str)) = false:=by decide) :
  PS X (.Try body [.ExceptHandler (some (.Name x np)) none (b₀ :: ur) vp] [] [] pos) (IE X.K tb M ts):=by
 intro pins s σ H D I hw;refine wpAny_Try_except (wpAny_mono (hb pins _ [] s σ H D I.Te hw) (fun f s1 z=>?_) fun ev s1 z=>?_)
 ·have z:=z.wx;cases f with
  | next=>exact wpAny_execs_nil z
  | brk=>exact z
  | cont=>exact z
  | ret u=>exact z
 ·obtain ⟨a,cls,dx,H',σ',s0,H0,rfl,I0,F,q⟩:=z;have q:=q σ' (I0.len.trans I.len.symm);exact Cs VS hm hs hg vt ⟨a,cls,dx,H',s0,H0,rfl,I0,F,q⟩
end
section
variable {σ : St} {H:Hp} {D:Ends} {K:Frag}
theorem Bb {tb:XK->TS} {M:Addr} {ts:TS} (h:tb (fun cls dx H'=>∀ σ':St,σ'.length = σ.length->Il K M ts D σ' cls dx H') D σ H):IE K tb M ts D σ H:=h
end
structure lC (K:Frag) (C:Addr) (m qual:Str) (st:Stmt) (ps:List Str):Prop where
 ex:∃ f fd,Ar K m qual st f fd/\Meth K C m f/\Binds K fd ps []
structure EN (K:Frag) (C:Addr) (qual:Str) (st:Stmt) (ps:List Str):Prop where
 ex:∃ f fd,Ar K "__init__" qual st f fd/\Mk K C f/\Binds K fd ps []
structure eI (P:Program) (w:World) (K:Frag) (mg:Str->Option Value) (base:Heap) (CX:qj) (C:Addr) (m:Str) (k:Nat) (ps:List Str) (sp:Sp):Prop where
 ex:∃ f fd,gL P w K mg base CX k f fd ps sp/\Meth K C m f/\Binds K fd ps []
structure EO (P:Program) (w:World) (K:Frag) (mg:Str->Option Value) (base:Heap) (CX:qj) (C:Addr) (k:Nat) (ps:List Str) (sp:Sp):Prop where
 ex:∃ f fd,gL P w K mg base CX k f fd ps sp/\Mk K C f/\Binds K fd ps []
section
variable {P:Program} {w:World} {K:Frag} {mg:Str->Option Value} {base:Heap} {C:Addr}
theorem Ar.Ux {x qual:Str} {st:Stmt} {f:Addr} {fd:FuncData} {N ps:List Str} {k:Nat} {sp:Sp} (F:Ar K x qual st f fd) (S:aG N ps (ao st)) (len:∀ vs H Q E,sp vs H Q E->vs.length = ps.length)
  (eg:∀ (bN:Value) (A:Around) (outer:List Env) (s:Shared) (H:Hp) (vs:List V) (Q:VK) (E:XK),cu k (A.deeper (envOfC qual (ao st) s.heap.objs.size f bN))->sp vs H Q E->
   ∃ t,pj (gH (bo P w) P w K mg base N qual (ao st) f bN A outer s H E) (bI st) t/\t { nx:=fun _ H'=>Q .bQ H',rt:=Q } (start N vs) H):gL P w K mg base (bo P w) (k + 1) f fd ps sp:=by
 obtain ⟨oc,od,kV,doc,pm,an,bN,ct,Ax,rfl,lk,tE⟩:=F.ex;exact vA lk tE S len fun A o s H vs Q E hr qU=>eg bN A o s H vs Q E hr qU
theorem lC.dh {m qual:Str} {st:Stmt} {N ps:List Str} {k:Nat} {sp:Sp} (D:lC K C m qual st ps) (S:aG N ps (ao st)) (len:∀ vs H Q E,sp vs H Q E->vs.length = ps.length)
  (eg:∀ (f:Addr) (bN:Value) (A:Around) (outer:List Env) (s:Shared) (H:Hp) (vs:List V) (Q:VK) (E:XK),cu k (A.deeper (envOfC qual (ao st) s.heap.objs.size f bN))->sp vs H Q E->
   ∃ t,pj (gH (bo P w) P w K mg base N qual (ao st) f bN A outer s H E).Bz (bI st) t/\t { nx:=fun _ H'=>Q .bQ H',rt:=Q } (start N vs) H):eI P w K mg base (bo P w) C m (k + 1) ps sp:=by
 obtain ⟨f,fd,F,hm,hb⟩:=D.ex;exact ⟨⟨f,fd,F.Rj S len (eg f),hm,hb⟩⟩
theorem lC.oJ {m qual:Str} {st:Stmt} {N ps:List Str} {k:Nat} {sp:Sp} (D:lC K C m qual st ps) (S:aG N ps (ao st)) (len:∀ vs H Q E,sp vs H Q E->vs.length = ps.length)
  (eg:∀ (f:Addr) (bN:Value) (A:Around) (outer:List Env) (s:Shared) (H:Hp) (vs:List V) (Q:VK) (E:XK),cu k (A.deeper (envOfC qual (ao st) s.heap.objs.size f bN))->sp vs H Q E->
   ∃ t,pj (gH (bo P w) P w K mg base N qual (ao st) f bN A outer s H E) (bI st) t/\t { nx:=fun _ H'=>Q .bQ H',rt:=Q } (start N vs) H):eI P w K mg base (bo P w) C m (k + 1) ps sp:=by
 obtain ⟨f,fd,F,hm,hb⟩:=D.ex;exact ⟨⟨f,fd,F.Ux S len (eg f),hm,hb⟩⟩
theorem EN.dh {qual:Str} {st:Stmt} {N ps:List Str} {k:Nat} {sp:Sp} (D:EN K C qual st ps) (S:aG N ps (ao st)) (len:∀ vs H Q E,sp vs H Q E->vs.length = ps.length)
  (eg:∀ (f:Addr) (bN:Value) (A:Around) (outer:List Env) (s:Shared) (H:Hp) (vs:List V) (Q:VK) (E:XK),cu k (A.deeper (envOfC qual (ao st) s.heap.objs.size f bN))->sp vs H Q E->
   ∃ t,pj (gH (bo P w) P w K mg base N qual (ao st) f bN A outer s H E).Bz (bI st) t/\t { nx:=fun _ H'=>Q .bQ H',rt:=Q } (start N vs) H):EO P w K mg base (bo P w) C (k + 1) ps sp:=by
 obtain ⟨f,fd,F,hm,hb⟩:=D.ex;exact ⟨⟨f,fd,F.Rj S len (eg f),hm,hb⟩⟩
end
section
variable {X:Cx} {CX:qj} {k j:Nat} {ps:List Str} {sp:Sp} {E:XK} {C:Addr} {x m:Str} {p pos apos:Pos} {e o:Expr} {es:List Expr} {t:TA} {ta:TE}
theorem fc {pl:Sem Bool} (h:eI X.prog X.w X.K X.mg X.base CX C m k ps sp) (c:uh X.K C) (hr:cu j X.A) (hx:Passes CX X E) (he:PE X o ta) (ha:PA X (e :: es) t) (hk:k<=j:=by decide)
  (BR:starEach (e :: es) X.env = (false,eval e X.env) :: starEach es X.env:=by rfl) (mU:(backTo pos (starEach es X.env)).any (·.1) = false:=by rfl)
  (ht:eval (.Call (.Attribute o m apos) (e :: es) [] pos) X.env = (do
   let ov <- eval o X.env
   standAt apos.atName
   let (f,first) <- holding [ov] (getMethod ov m pl)
   callWith pos f first (backTo pos (starEach (e :: es) X.env)) (backToKw pos (keywordEach [] X.env))):=by rfl) :
  PE X (.Call (.Attribute o m apos) (e :: es) [] pos) (uo C m sp [] E ta t):=by
 obtain ⟨f,fd,F,hm,hb⟩:=h.ex;exact DK he c hm F (hr.mono hk) hb .nil hx ha BR mU ht
theorem du {pl:Sem Bool} (h:eI X.prog X.w X.K X.mg X.base CX C m k ps sp) (c:uh X.K C) (hr:cu j X.A) (hx:Passes CX X E) (he:PE X o ta) (hk:k<=j:=by decide)
  (ht:eval (.Call (.Attribute o m apos) [] [] pos) X.env = (do
   let ov <- eval o X.env
   standAt apos.atName
   let (f,first) <- holding [ov] (getMethod ov m pl)
   callWith pos f first (backTo pos (starEach [] X.env)) (backToKw pos (keywordEach [] X.env))):=by rfl) :
  PE X (.Call (.Attribute o m apos) [] [] pos) (uo C m sp [] E ta um):=by
 obtain ⟨f,fd,F,hm,hb⟩:=h.ex;exact Bq he c hm F (hr.mono hk) hb .nil hx ht
theorem uQ (h:EO X.prog X.w X.K X.mg X.base CX C k ps sp) (hr:cu j X.A) (hm:X.mg x = some (.ref C)) (hx:Passes CX X E) (ha:PA X (e :: es) t) (hk:k + 1<=j:=by decide) (hg:Gl X x:=by rfl) (vt:(x == ("__debug__" : Str)) = false:=by decide)
  (he:starEach (e :: es) X.env = (false,eval e X.env) :: starEach es X.env:=by rfl) (mU:(backTo pos (starEach es X.env)).any (·.1) = false:=by rfl):PE X (.Call (.Name x p) (e :: es) [] pos) (AY C sp [] E t):=by
 obtain ⟨f,fd,F,hM,hb⟩:=h.ex;exact DM hM F (hr.mono hk) hg hm hb .nil hx ha vt he mU
end
section
variable {σ : St} {H:Hp} {Q:VK} {K:Frag} {D:Ends}
theorem Ge {C:Addr} {m:Str} {sp:Sp} {E:XK} {ta:TE} {t:TA} (h:ta σ H fun x H1=>∃ a dx fs,x = .ref a/\H1 a = some (.ins C dx fs)/\fs.lookup m = none/\t σ H1 fun vs H2=>sp (x :: (vs ++ [])) H2 Q E):uo C m sp [] E ta t σ H Q:=h
theorem Gf {C:Addr} {sp:Sp} {E:XK} {t:TA} (h:t σ H fun vs H1=>∀ x dx,H1 x = none->H1 dx = none->dx≠x->sp (.ref x :: (vs ++ [])) (upd (upd H1 dx (.own x)) x (.ins C dx [])) (fun v H2=>v = .bQ/\Q (.ref x) H2) E):AY C sp [] E t σ H Q:=h
theorem Jj {ta:TE} {f:Str} (h:ta σ H fun x H1=>∃ a C dx fs v,x = .ref a/\H1 a = some (.ins C dx fs)/\uh K C/\eG K C f/\fs.lookup f = some v/\Q v H1):IP K ta f σ H Q:=h
theorem Ga {ta tv:TE} {f:Str} (h:tv σ H fun y H1=>ta σ H1 fun x H2=>∃ a C dx fs,x = .ref a/\H2 a = some (.ins C dx fs)/\uh K C/\eG K C f/\fs.length < 1000/\D.nx σ (upd H2 a (.ins C dx (gQ f y fs)))):IX K ta tv f D σ H:=h
end
def FJ (K:Frag) (a b:Addr):It:=
 ⟨fun i H=>∃ xs ys x y,aw K H a xs/\aw K H b ys/\xs[i]? = some x/\ys[i]? = some y,
  fun i H v H'=>∃ p x y,H p = none/\v = .ref p/\(∀ xs,aw K H a xs->xs[i]? = some x)/\(∀ ys,aw K H b ys->ys[i]? = some y)/\H' = upd H p (.tup [x,y]),
  fun i H=>∃ xs ys,aw K H a xs/\aw K H b ys/\(xs.length<=i\/ys.length<=i)⟩
theorem AQ {P:Program} {w:World} {K:Frag} {elts:List Expr} {kx:Nat} {px:Pos} {a b z TI TO i1 i2:Addr} (D:ZipApart z TI TO i1 i2 a b) :
  Turn P w K (.Tuple elts kx px) (FJ K a b) [z,TI,TO,i1,i2] z (fun i h=>IsZip h z TI TO .none/\IsPair h TI (.ref i1) (.ref i2)/\(∃ u v,IsPair h TO u v)/\h.IsListIter i1 a i/\h.IsListIter i2 b i) where
 mem:=by simp
 obj:=fun i h st c hc=>by
  obtain ⟨h1,h2,⟨u,v,h3⟩,h4,h5⟩:=st;simp only [mem_cons,not_mem_nil,or_false] at hc;rcases hc with rfl | rfl | rfl | rfl | rfl
  ·exact ⟨_,h1,fun v q=>by cases q⟩
  ·exact ⟨_,h2,fun v q=>by cases q⟩
  ·exact ⟨_,h3,fun v q=>by cases q⟩
  ·obtain ⟨o,e1,_,d⟩:=h4; exact ⟨o,e1,fun v q=>by rw [d] at q; cases q⟩
  ·obtain ⟨o,e1,_,d⟩:=h5; exact ⟨o,e1,fun v q=>by rw [d] at q; cases q⟩
 keep:=fun i h h' st k=>by
  obtain ⟨h1,h2,⟨u,v,h3⟩,h4,h5⟩:=st;exact ⟨k z (by simp) _ h1,k TI (by simp) _ h2,⟨u,v,k TO (by simp) _ h3⟩,h4.at fun o q=>k i1 (by simp) o q,h5.at fun o q=>k i2 (by simp) o q⟩
 item:=by
  intro X hP hw hK hc i pins s σ H E I hf st hg;subst hP hw hK;obtain ⟨h1,h2,⟨u,v,h3⟩,h4,h5⟩:=st;obtain ⟨xs,ys,x,y,zT,Eg,hx,hy⟩:=hg;obtain ⟨ia,ra,pa,za⟩:=I.list zT;obtain ⟨ib,rb,pb,zb⟩:=I.list Eg;obtain ⟨u1,Vm,IZ⟩:=ra.get hx;obtain ⟨u2,Vl,IY⟩:=rb.get hy;have lt:∀ c∈[z,TI,TO,i1,i2],c < s.heap.objs.size:=fun c hc=>by
   simp only [mem_cons,not_mem_nil,or_false] at hc;rcases hc with rfl | rfl | rfl | rfl | rfl
   ·exact Heap.lt_size h1
   ·exact Heap.lt_size h2
   ·exact Heap.lt_size h3
   ·obtain ⟨_,q,_⟩:=id h4; exact Heap.lt_size q
   ·obtain ⟨_,q,_⟩:=id h5; exact Heap.lt_size q
  refine wpAny_pyNext_zip_item D h1 h2 h3 h4 h5 pa.isList pb.isList (x:=u1) (y:=u2) (by simpa using Vm) (by simpa using Vl) fun h' k1 k2 k3 k4 hT hsz hk=>⟨_,rfl,?_⟩;refine wpAny_letOwnedTupleGo_zip k1 fun qX Ih xj=>?_;have hn:H s.heap.objs.size = none:=I.bF.fresh (Nat.le_refl _);have nz:s.heap.objs.size≠z:=Nat.ne_of_gt (lt z (by simp));have kk:∀ c o,c∉[z,TI,TO,i1,i2]->s.heap.get? c = some o->qX.get? c = some o:=fun c o hc q=>by
   simp only [mem_cons,not_mem_nil,or_false,not_or] at hc;exact (xj.2 c hc.1).trans (hk c o hc.1 hc.2.2.1 hc.2.2.2.1 hc.2.2.2.2 q)
  have Pk:qX.get? s.heap.objs.size = some { cls:=.type "tuple",data:=.seq #[u1,u2] }:=(xj.2 _ nz).trans hT;refine ⟨.ref s.heap.objs.size,upd H s.heap.objs.size (.tup [x,y]),Inv.qp (s:=s) (h':=qX) (t':=s.toks) I kk hf (Nat.le_refl _) ⟨by simp only [length_cons,length_nil]; rw [sizeLine_eq]; decide,[u1,u2],.cons IZ (.cons IY .nil),⟨_,Pk,rfl,_,rfl⟩⟩,rfl,
   ⟨_,x,y,hn,rfl,fun Iq JZ=>by rw [I.jZ JZ zT]; exact hx,fun Iq JZ=>by rw [I.jZ JZ Eg]; exact hy,rfl⟩,⟨Ih,?_,⟨u1,u2,(xj.2 _ D.TOz).trans k2⟩,k3.at fun o q=>(xj.2 i1 D.i1z).trans q,k4.at fun o q=>(xj.2 i2 D.i2z).trans q⟩,fun c hc=>?_⟩
  ·exact (xj.2 _ D.TIz).trans (hk TI _ D.TIz D.TITO D.TIi1 D.TIi2 h2)
  ·rw [ak (Nat.ne_of_lt (lt c hc))];exact (hf c hc).1
 done:=by
  intro X hP hw hK hc i pins s σ H E I hf st hg;subst hP hw hK;obtain ⟨h1,h2,⟨u,v,h3⟩,h4,h5⟩:=st;obtain ⟨xs,ys,zT,Eg,vq⟩:=hg;obtain ⟨ia,ra,pa,za⟩:=I.list zT;obtain ⟨ib,rb,pb,zb⟩:=I.list Eg;have la:=ra.length;have lb:=rb.length;refine wpAny_pyNext_zip_end (I.ok.hd hc) D h1 h2 h3 h4 h5 pa.isList pb.isList ?_ fun h' eb=>⟨rfl,Inv.xR (t':=s.toks) (ch:=[z,TI,TO,i1,i2]) I (fun c o hc q=>?_) hf⟩
  ·rcases vq with q | q
   ·left; simp; omega
   ·right; simp; omega
  ·simp only [mem_cons,not_mem_nil,or_false,not_or] at hc;exact eb c o hc.1 hc.2.2.1 hc.2.2.2.1 hc.2.2.2.2 q
 self:=fun _ _ _ _ _ st h=>wpAny_pyIter_zip st.1 h
def Ov (K:Frag) (ta:TA):TI:=fun σ H R=>ta σ H fun vs H1=>∃ a b,vs = [.ref a,.ref b]/\(∃ xs,aw K H1 a xs)/\(∃ ys,aw K H1 b ys)/\R (FJ K a b) H1
theorem rK:bootBuiltins "zip" = some (.type "zip"):=by decide +kernel
theorem Bo {X:Cx} {l m:Expr} {ta:TA} {p pos:Pos} {elts:List Expr} {kx:Nat} {px:Pos} (hm:X.mg "zip" = none) (ha:PA X [l,m] ta) (hg:Gl X "zip":=by rfl) (he:starEach [l,m] X.env = (false,eval l X.env) :: starEach [m] X.env:=by rfl) (mU:(backTo pos (starEach [m] X.env)).any (·.1) = false:=by rfl) :
  PI X (.Tuple elts kx px) (.Call (.Name "zip" p) [l,m] [] pos) (Ov X.K ta):=by
 intro pins s σ H R I h;refine Call_ (iH I hg hm rK (PyProof.Rows.callWith_type1 (cF (ha pos pins s σ H _ I h) fun us s1 ⟨vs,H1,I1,r1,q1⟩=>?_) he mU));obtain ⟨a,b,rfl,⟨xs,zT⟩,⟨ys,Eg⟩,q⟩:=q1;obtain ⟨u1,u2,rfl,IZ,IY⟩:=vals2 r1;cases IZ
 cases IY
 obtain ⟨ia,ra,pa,za⟩:=I1.list zT;obtain ⟨ib,rb,pb,zb⟩:=I1.list Eg;have D5:a < s1.heap.objs.size:=by obtain ⟨_,e,_⟩:=pa.isList; exact Heap.lt_size e
 have D4:b < s1.heap.objs.size:=by obtain ⟨_,e,_⟩:=pb.isList; exact Heap.lt_size e
 have ne:∀ {j k:Nat},j≠k->s1.heap.objs.size + j≠s1.heap.objs.size + k:=fun h z=>h (Nat.add_left_cancel z);have nl:∀ {c:Addr} (k:Nat),c < s1.heap.objs.size->c≠s1.heap.objs.size + k:=fun k l=>Nat.ne_of_lt (Nat.lt_of_lt_of_le l (Nat.le_add_right _ _));have D:ZipApart (s1.heap.objs.size + 4) (s1.heap.objs.size + 2) (s1.heap.objs.size + 3) s1.heap.objs.size (s1.heap.objs.size + 1) a b:=
  ⟨ne (by decide),ne (by decide),ne (j:=0) (by decide),ne (by decide),ne (by decide),ne (k:=0) (by decide),ne (by decide),ne (k:=0) (by decide),ne (by decide),ne (j:=0) (by decide),nl _ D5,nl _ D5,nl 0 D5,nl _ D5,nl _ D4,nl _ D4,nl 0 D4,nl _ D4⟩
 refine call_zip_2 pa.isList pb.isList fun h' hz wj zY h1 h2 hsz hk=>?_;refine wpAny_pyIter_zip hz ?_;have I2:Inv X pins σ H1 { s1 with heap:=h' }:=I1.kept (t':=s1.toks) fun c o e=>hk c o e;refine ⟨_,[s1.heap.objs.size + 4,s1.heap.objs.size + 2,s1.heap.objs.size + 3,s1.heap.objs.size,s1.heap.objs.size + 1],_,_,H1,rfl,I2,AQ D,⟨hz,wj,⟨_,_,zY⟩,h1,h2⟩,fun c hc=>?_,q⟩;have le:s1.heap.objs.size<=c:=by
  simp only [mem_cons,not_mem_nil,or_false] at hc;rcases hc with rfl | rfl | rfl | rfl | rfl
  ·exact Nat.le_add_right _ _
  ·exact Nat.le_add_right _ _
  ·exact Nat.le_add_right _ _
  ·exact Nat.le_refl _
  ·exact Nat.le_add_right _ _
 exact I1.zZ le (I1.bF.fresh le)
theorem Er {K:Frag} {a b:Addr} {xs ys:List V} {g:TG} {tb:TS} {D:Ends} {σ : St} {H:Hp} (Pv:Nat->St->Hp->Prop) (h0:Pv 0 σ H) (mr:xs.length = ys.length) (hl:∀ i σ H,i<=xs.length->Pv i σ H->aw K H a xs/\aw K H b ys)
  (hs:∀ i x y p σ H,xs[i]? = some x->ys[i]? = some y->Pv i σ H->H p = none->g (.ref p) σ (upd H p (.tup [x,y])) fun σ2 H2=>tb { D with nx:=Pv (i + 1),ct:=Pv (i + 1),bk:=D.nx } σ2 H2) (hd:∀ σ H,Pv xs.length σ H->D.nx σ H) :
  ∃ W:Nat->Nat->St->Hp->Prop,(∃ m,W 0 m σ H)/\∀ i m σ H,W i m σ H->
   ((FJ K a b).stop i H/\D.nx σ H)\/((FJ K a b).go i H/\∃ N:St->Hp->Prop,(∀ σ' H',N σ' H'->∃ m',m' < m/\W (i + 1) m' σ' H')/\∀ x H',(FJ K a b).Av i H x H'->g x σ H' fun σ2 H2=>tb { D with nx:=N,ct:=N,bk:=D.nx } σ2 H2):=by
 refine ⟨fun i m σ H=>m = xs.length - i/\i<=xs.length/\Pv i σ H,⟨xs.length,by simp,Nat.zero_le _,h0⟩,?_⟩;rintro i m σ H ⟨rfl,hi,p⟩;obtain ⟨qa,qb⟩:=hl i σ H hi p;by_cases ef:i < xs.length
 ·have OR:i < ys.length:=by omega
  refine .inr ⟨⟨xs,ys,xs[i],ys[i],qa,qb,by simp [ef],by simp [OR]⟩,Pv (i + 1),fun σ' H' p'=>⟨xs.length - (i + 1),by omega,rfl,ef,p'⟩,fun x H' y=>?_⟩;obtain ⟨r,u,v,hr,rfl,hu,hv,rfl⟩:=y;exact hs i u v r σ H (hu xs qa) (hv ys qb) p hr
 ·have e:i = xs.length:=by omega
  subst e;exact .inl ⟨⟨xs,ys,qa,qb,.inl (Nat.le_refl _)⟩,hd σ H p⟩
end L2
end
section
namespace Gm
open PySem L2
theorem yy:∀ {l r:List (List Int)},l.Pairwise (fun a b=>HT.lexLt a b = true)->r.Pairwise (fun a b=>HT.lexLt a b = true)->(∀ x,x∈l↔x∈r)->l = r
 | [],[],_,_,_=>rfl
 | [],b :: r,_,_,h=>absurd ((h b).mpr mem_cons_self) (by simp)
 | a :: l,[],_,_,h=>absurd ((h a).mp mem_cons_self) (by simp)
 | a :: l,b :: r,hl,hr,h=>by
  obtain ⟨l1,l2⟩:=List.pairwise_cons.mp hl;obtain ⟨r1,r2⟩:=List.pairwise_cons.mp hr;have U8:∀ {x y:List Int},HT.lexLt x y = true->HT.lexLt y x = true->False:=fun p q=>by have:=ve p; rw [q] at this; cases this
  have e:a = b:=by
   rcases List.mem_cons.mp ((h a).mp mem_cons_self) with z | z
   ·exact z
   ·rcases List.mem_cons.mp ((h b).mpr mem_cons_self) with y | y
    ·exact y.symm
    ·exact (U8 (r1 a z) (l1 b y)).elim
  subst e;have nn:∀ {x:List Int},HT.lexLt x x = true->False:=fun p=>by rw [mP] at p; cases p
  rw [yy l2 r2 fun x=>?_];constructor
  ·intro z;rcases List.mem_cons.mp ((h x).mp (mem_cons_of_mem _ z)) with y | y
   ·subst y; exact (nn (l1 x z)).elim
   ·exact y
  ·intro z;rcases List.mem_cons.mp ((h x).mpr (mem_cons_of_mem _ z)) with y | y
   ·subst y; exact (nn (r1 x z)).elim
   ·exact y
theorem Good.it {L:List (List Int)} {r:List Int} (g:Good L r) (j:Nat):∀ i,dj r (j + i) = Gm.it L (dj r j) i
 | 0=>rfl
 | i + 1=>by show dj r (j + i + 1) = nx L (Gm.it L (dj r j) i); rw [<- g.it j i,g.st]
theorem zu {L:List (List Int)} {r q:List Int} (g:Good L r) (k:Good L q) (n1:(sh 0 r).Nodup) (n2:(sh 0 q).Nodup) {j:Nat} (h:dj r 0 = dj q j):∃ c,c < q.length/\r = bU q c:=by
 have r0:0 < r.length:=by have:=g.two; omega
 have q0:0 < q.length:=by have:=k.two; omega
 have mem:∀ x,x∈sh 0 r↔x∈sh 0 q:=fun x=>by
  have cr:=g.jB;have cq:=k.jB;have hr:dj r 0∈sh 0 r:=(df r0).mpr ⟨0,rfl⟩;have hq:dj r 0∈sh 0 q:=(df q0).mpr ⟨j,h⟩;constructor
  ·intro z; exact cr.conn (P:=fun d=>d∈sh 0 q) hr z hq fun d _ hd=>cq.on hd
  ·intro z; exact cq.conn (P:=fun d=>d∈sh 0 r) hq z hr fun d _ hd=>cr.on hd
 have len:r.length = q.length:=by have:=len_eq n1 n2 mem; rwa [bR,bR] at this
 refine ⟨j % q.length,Nat.mod_lt _ q0,?_⟩;refine Cm (by rw [cK (Nat.le_of_lt (Nat.mod_lt _ q0)),len]) fun i=>?_;rw [gG (Nat.mod_lt _ q0)];have e1:dj r i = dj q (j + i):=by
  have h1:=g.it 0 i;have h2:=k.it j i;rw [Nat.zero_add] at h1;rw [h1,h2,h]
 have e2:cy r i = cy q (j + i):=congrArg Prod.fst e1;rw [e2];exact iL (by rw [Nat.add_mod_mod,Nat.add_comm])
theorem bj.sub {L R S:List (List Int)} (h:bj L R) (k:bj L S) {r:List Int} (hr:r∈R):r∈S:=by
 have g:=h.good r hr;have r0:0 < r.length:=by have:=g.two; omega
 obtain ⟨q,hq,hd⟩:=List.mem_flatMap.mp (k.all _ (g.dt 0));have kq:=k.good q hq;have q0:0 < q.length:=by have:=kq.two; omega
 obtain ⟨j,ej⟩:=(df q0).mp hd;have n1:(sh 0 r).Nodup:=(List.pairwise_flatMap.mp h.nd).1 r hr;have n2:(sh 0 q).Nodup:=(List.pairwise_flatMap.mp k.nd).1 q hq;obtain ⟨c,hc,e⟩:=zu g kq n1 n2 ej;have l1:Le q r:=by rw [e]; exact k.least q hq c hc
 have l2:Le r q:=by
  by_cases z:c = 0
  ·have:r = q:=by rw [e,z]; unfold bU; simp
   rw [this]; exact Le.refl _
  ·have hl:r.length = q.length:=by rw [e,cK (Nat.le_of_lt hc)]
   have:=h.least r hr (q.length - c) (by omega);rw [e] at this ⊢;rw [mF hc (by omega),show q.length - c + c = q.length by omega,Nat.mod_self] at this;have Ui:bU q 0 = q:=by unfold bU; simp
   rw [Ui] at this;exact this
 rw [Le.Lu l2 l1]; exact hq
theorem bj.unique {L R S:List (List Int)} (h:bj L R) (k:bj L S):R = S:=yy h.sorted k.sorted fun _=>⟨fun z=>h.sub k z,fun z=>k.sub h z⟩
def bA (a b:List Int):Prop:=a = b\/∃ c,c < b.length/\a = bU b c
theorem bA.refl (a:List Int):bA a a:=.inl rfl
theorem bA.len {a b:List Int} (h:bA a b):a.length = b.length:=by
 rcases h with rfl | ⟨c,hc,rfl⟩
 ·rfl
 ·exact cK (Nat.le_of_lt hc)
theorem bA.idx {a b:List Int} (h:bA a b) (n:b.Nodup) {x:Int} {t:List Int} (e:a = x :: t):x∈b/\bU b (b.idxOf x) = a:=by
 have h':∃ c,c < b.length/\a = bU b c:=by
  rcases h with rfl | h
  ·exact ⟨0,by rw [e]; simp,by unfold bU; simp⟩
  ·exact h
 obtain ⟨c,hc,ea⟩:=h';have hx:x = b[c]:=by
  rw [ea,nG hc] at e;injection e with e1 e2;rw [<- e1,gO hc]
 have mem:x∈b:=by rw [hx]; exact getElem_mem _
 have ix:=idxOf_lt_length_of_mem mem;have g:=getElem_idxOf ix;have:b.idxOf x = c:=(getElem_inj n).mp (g.trans hx);exact ⟨mem,by rw [this,ea]⟩
end Gm
namespace L2
open PySem PySem.Spec PySem.W PySem.Calls PyProof.Rows
theorem xE:bootBuiltins "max" = some (.builtin "max"):=by decide +kernel
end L2
namespace Gm
open PySem L2
theorem bA.perm {a b:List Int} (h:bA a b):a.Perm b:=by
 rcases h with rfl | ⟨c,hc,rfl⟩
 ·exact List.Perm.refl _
 ·unfold bU;exact (perm_append_comm).trans (by rw [take_append_drop])
theorem av.DU {L M:List (List Int)} (m:av M) (hl:L.length = M.length) (h:∀ (i:Nat) (l k:List Int),L[i]? = some l->M[i]? = some k->l.Perm k):av L:=by
 have at_:∀ (j:Nat) (x:List Int),L[j]? = some x->∃ y,M[j]? = some y/\x.Perm y:=fun j x e=>by
  have hj:j < M.length:=by rw [<- hl]; exact (List.getElem?_eq_some_iff.mp e).1
  exact ⟨M[j],getElem?_eq_getElem hj,h j x M[j] e (getElem?_eq_getElem hj)⟩
 refine ⟨fun j x e=>?_,fun j x e y hy=>?_,fun j x e y hy k hk z ez=>?_⟩
 ·obtain ⟨y,e1,e2⟩:=at_ j x e;exact e2.nodup_iff.mpr (m.nd _ _ e1)
 ·obtain ⟨w,e1,e2⟩:=at_ j x e;rw [hl];exact m.rg _ _ e1 y (e2.mem_iff.mp hy)
 ·obtain ⟨w,e1,e2⟩:=at_ j x e;obtain ⟨w',e3,e4⟩:=at_ k z ez;exact e4.mem_iff.mpr (m.sy _ _ e1 y (e2.mem_iff.mp hy) k hk _ e3)
def aT (L M:List (List Int)):Prop:=L.length = M.length/\∀ (i:Nat) (l m:List Int),L[i]? = some l->M[i]? = some m->bA l m
theorem aT.fj {L M:List (List Int)} (h:aT L M) (m:av M):av L:=m.DU h.1 fun i l k e1 e2=>(h.2 i l k e1 e2).perm
theorem aT.mem {L M:List (List Int)} (h:aT L M) {x y:Int} (x0:0<=x) (x1:x < L.length):y∈rowOf L x↔y∈rowOf M x:=by
 have e1:=ay x0 x1;have e2:=ay (L:=M) x0 (by rw [<- h.1]; exact x1);exact (h.2 _ _ _ e1 e2).perm.mem_iff
theorem bA.trans {a b c:List Int} (h:bA a b) (k:bA b c):bA a c:=by
 rcases k with rfl | ⟨j,hj,rfl⟩
 ·exact h
 ·rcases h with rfl | ⟨i,hi,rfl⟩
  ·exact .inr ⟨j,hj,rfl⟩
  ·rw [cK (Nat.le_of_lt hj)] at hi;rw [mF hj hi];exact .inr ⟨_,Nat.mod_lt _ (by omega),rfl⟩
theorem zw {L M:List (List Int)} (hl:L.length = M.length) (h:∀ x:Int,0<=x->x < L.length->bA (rowOf L x) (rowOf M x)):aT L M:=by
 refine ⟨hl,fun i l m h1 h2=>?_⟩;have hi:=(List.getElem?_eq_some_iff.mp h1).1;have q:=h i (by omega) (by omega);have r1:=ay (L:=L) (a:=(i:Int)) (by omega) (by omega);have r2:=ay (L:=M) (a:=(i:Int)) (by omega) (by omega);rw [Int.toNat_natCast] at r1 r2;rw [r1] at h1;rw [r2] at h2;rw [<- Option.some.inj h1,<- Option.some.inj h2];exact q
theorem aT.row {L M:List (List Int)} (h:aT L M) {x:Int} (x0:0<=x) (x1:x < L.length):bA (rowOf L x) (rowOf M x):=h.2 _ _ _ (ay x0 x1) (ay x0 (by rw [<- h.1]; exact x1))
theorem aT.trans {L M N:List (List Int)} (h:aT L M) (k:aT M N):aT L N:=zw (h.1.trans k.1) fun x x0 x1=>(h.row x0 x1).trans (k.row x0 (by rw [<- h.1]; exact x1))
theorem aT.dt {L M:List (List Int)} (h:aT L M) {d:aq} (k:Dt M d):Dt L d:=⟨k.lo,by rw [h.1]; exact k.hi,(h.mem k.lo (by rw [h.1]; exact k.hi)).mpr k.mem⟩
end Gm
end
section
namespace PySem
abbrev qh (h:Heap) (z TI TO a:Addr) (f:Bool):Prop:=
 h.get? z = some { cls:=.type "zip",dict:=none,data:=.fields #[rawInt a,.bool f,.bool false,.ref TI,.ref TO],slots:=#[] }
section
variable {prog:Program} {w:World} {A:Around} {E:Value->Shared->Prop} {s:Shared}
theorem AJ {a:Addr} {o:Obj} {Q:Option Obj->Shared->Prop} (ho:s.heap.get? a = some o) (h:Q (some o) s):wpAny (model prog w) A (loadIfAlive a) Q E s:=by
 have h':Q (s.heap.get? a) s:=by rw [ho]; exact h
 exact fun _ _ _=>h'
theorem xO {z TI TO a:Addr} {f:Bool} {oa:Obj} {Q:Bool->Shared->Prop} (hz:qh s.heap z TI TO a f) (ha:s.heap.get? a = some oa)
  (h:∀ h',qh h' z TI TO a true->Heap.SameBut z s.heap h'->Q false { s with heap:=h' }):wpAny (model prog w) A (Builtin.SmallTypes.ownedTupleIsFree (.ref z)) Q E s:=by
 unfold Builtin.SmallTypes.ownedTupleIsFree;refine wpAny_bind (wpAny_field hz rfl (x:=rawInt a) rfl ?_);show wpAny _ _ (loadIfAlive ((a:Int).toNat) >>= _) _ _ _;rw [Int.toNat_natCast];refine wpAny_bind (AJ ha ?_);simp only [Option.isNone_some,Bool.false_eq_true,if_false];refine wpAny_bind (wpAny_field hz rfl (x:=.bool f) rfl ?_);cases f with
 | true=>
  rw [if_neg (show ¬ ((Value.bool true != Value.bool true) = true) from Bool.false_ne_true)];exact wpAny_pure (h _ hz (Heap.SameBut.refl _ _))
 | false=>
  rw [if_pos (show (Value.bool false != Value.bool true) = true from rfl)];refine wpAny_bind (wpAny_setField_rec hz (by simp) fun h₃ he₃ hs₃=>?_);exact wpAny_pure (h _ he₃ hs₃)
theorem C4 {z TI TO i1 i2 l1 l2 a:Addr} {f:Bool} {oa:Obj} {k1 k2:Nat} {xs ys:Array Value} {x y:Value} {Q:Value->Shared->Prop} (D:ZipApart z TI TO i1 i2 l1 l2)
  (hz:qh s.heap z TI TO a f) (ha:s.heap.get? a = some oa) (wj:IsPair s.heap TI (.ref i1) (.ref i2))
  (h1:s.heap.IsListIter i1 l1 k1) (h2:s.heap.IsListIter i2 l2 k2) (oH:s.heap.IsList l1 xs) (iW:s.heap.IsList l2 ys) (hx:xs[k1]? = some x) (hy:ys[k2]? = some y)
  (hQ:∀ h',qh h' z TI TO a true->h'.IsListIter i1 l1 (k1 + 1)->h'.IsListIter i2 l2 (k2 + 1)->IsPair h' s.heap.objs.size x y->h'.objs.size = s.heap.objs.size + 1->
   (∀ c o,c≠z->c≠i1->c≠i2->s.heap.get? c = some o->h'.get? c = some o)->Q (.ref s.heap.objs.size) { s with heap:=h' }) :
  wpAny (model prog w) A (Builtin.«zip.__next__» ⟨[.ref z],[]⟩) (fun fin s'=>∃ v,fin = .done (.ret v)/\Q v s') E s:=by
 show wpAny _ _ (field (.ref z) 2 >>= _) _ _ _;refine wpAny_bind (wpAny_field hz rfl (x:=.bool false) rfl ?_);show wpAny _ _ (field (.ref z) 3 >>= _) _ _ _;refine wpAny_bind (wpAny_field hz rfl (x:=.ref TI) rfl ?_);refine wpAny_bind (wpAny_seqItems wj rfl ?_);show wpAny _ _ (Builtin.SmallTypes.ownedTupleIsFree (.ref z) >>= _) _ _ _;refine wpAny_bind (xO hz ha fun h₁ hz₁ hs₁=>?_);simp only [Bool.false_eq_true,if_false];refine wpAny_bind ?_;rw [<- Array.forIn_toList];simp only [forIn_cons,forIn_nil];refine wpAny_bind (wpAny_bind (wpAny_holding ?_));show wpAny _ _ (Builtin.SmallTypes.nextOf (.ref i1) >>= _) _ _ _;refine wpAny_bind (wpAny_nextOf_list_item (h1.extBut hs₁.extBut D.i1z) (oH.extBut hs₁.extBut D.l1z) hx fun h₂ h1₂ hs₂=>wpAny_pure (wpAny_pure ?_));refine wpAny_bind (wpAny_bind (wpAny_holding ?_));show wpAny _ _ (Builtin.SmallTypes.nextOf (.ref i2) >>= _) _ _ _;refine wpAny_bind (wpAny_nextOf_list_item ((h2.extBut hs₁.extBut D.i2z).extBut hs₂.extBut D.i12.symm)
  ((iW.extBut hs₁.extBut D.l2z).extBut hs₂.extBut D.l2i1) hy fun h₄ h2₄ hs₄=>wpAny_pure (wpAny_pure (wpAny_pure ?_)))
 refine wpAny_bind (wpAny_newTuple (hsz:=by show 2<=sizeLine; rw [sizeLine_eq]; decide) ?_);refine wpAny_pure ⟨_,rfl,?_⟩;have hsz:h₄.objs.size = s.heap.objs.size:=by rw [hs₄.1,hs₂.1,hs₁.1]
 have hz₄ : qh h₄ z TI TO a true:=hs₄.extBut _ _ D.i2z.symm (hs₂.extBut _ _ D.i1z.symm hz₁);have h1₄ : h₄.IsListIter i1 l1 (k1 + 1):=h1₂.extBut hs₄.extBut D.i12;show Q (.ref h₄.objs.size) _;rw [hsz];refine hQ _ (Heap.get?_push_of_some _ hz₄) (h1₄.at fun o e=>Heap.get?_push_of_some _ e) (h2₄.at fun o e=>Heap.get?_push_of_some _ e) (by rw [<- hsz]; exact Heap.get?_push_size _ rfl) (by rw [Heap.size_push,hsz]) fun c o c1 c2 c3 e=>
  Heap.get?_push_of_some _ (hs₄.extBut _ _ c3 (hs₂.extBut _ _ c2 (hs₁.extBut _ _ c1 e)))
theorem FN {z TI TO i1 i2 l1 l2 a:Addr} {f:Bool} {oa:Obj} {k1 k2:Nat} {xs ys:Array Value} {Q:Fin->Shared->Prop} (hh:A.handled = none) (D:ZipApart z TI TO i1 i2 l1 l2)
  (hz:qh s.heap z TI TO a f) (ha:s.heap.get? a = some oa) (wj:IsPair s.heap TI (.ref i1) (.ref i2))
  (h1:s.heap.IsListIter i1 l1 k1) (h2:s.heap.IsListIter i2 l2 k2) (oH:s.heap.IsList l1 xs) (iW:s.heap.IsList l2 ys) (vq:xs[k1]? = none)
  (hE:∀ h' e,(∀ c o,c≠z->c≠i1->c≠i2->s.heap.get? c = some o->h'.get? c = some o)->(∃ o,h'.get? e = some o/\o.cls = .type "StopIteration")->E (.ref e) { s with heap:=h' }) :
  wpAny (model prog w) A (Builtin.«zip.__next__» ⟨[.ref z],[]⟩) Q E s:=by
 show wpAny _ _ (field (.ref z) 2 >>= _) _ _ _;refine wpAny_bind (wpAny_field hz rfl (x:=.bool false) rfl ?_);show wpAny _ _ (field (.ref z) 3 >>= _) _ _ _;refine wpAny_bind (wpAny_field hz rfl (x:=.ref TI) rfl ?_);refine wpAny_bind (wpAny_seqItems wj rfl ?_);show wpAny _ _ (Builtin.SmallTypes.ownedTupleIsFree (.ref z) >>= _) _ _ _;refine wpAny_bind (xO hz ha fun h₁ hz₁ hs₁=>?_);simp only [Bool.false_eq_true,if_false];refine wpAny_bind ?_;rw [<- Array.forIn_toList];simp only [forIn_cons,forIn_nil];refine wpAny_bind (wpAny_bind (wpAny_holding ?_));show wpAny _ _ (Builtin.SmallTypes.nextOf (.ref i1) >>= _) _ _ _;refine wpAny_bind (wpAny_nextOf_list_end hh (h1.extBut hs₁.extBut D.i1z) (oH.extBut hs₁.extBut D.l1z) vq fun h₂ e hs₂ he=>?_);exact hE h₂ e (fun c o c1 c3 _ x=>hs₂ _ _ c3 (hs₁.extBut _ _ c1 x)) he
theorem zf {z TI TO i1 i2 l1 l2 a:Addr} {f:Bool} {oa:Obj} {k1 k2:Nat} {xs ys:Array Value} {x y:Value} {Q:Option Value->Shared->Prop} (D:ZipApart z TI TO i1 i2 l1 l2)
  (hz:qh s.heap z TI TO a f) (ha:s.heap.get? a = some oa) (wj:IsPair s.heap TI (.ref i1) (.ref i2))
  (h1:s.heap.IsListIter i1 l1 k1) (h2:s.heap.IsListIter i2 l2 k2) (oH:s.heap.IsList l1 xs) (iW:s.heap.IsList l2 ys) (hx:xs[k1]? = some x) (hy:ys[k2]? = some y)
  (hQ:∀ h',qh h' z TI TO a true->h'.IsListIter i1 l1 (k1 + 1)->h'.IsListIter i2 l2 (k2 + 1)->IsPair h' s.heap.objs.size x y->h'.objs.size = s.heap.objs.size + 1->
   (∀ c o,c≠z->c≠i1->c≠i2->s.heap.get? c = some o->h'.get? c = some o)->Q (some (.ref s.heap.objs.size)) { s with heap:=h' }) :
  wpAny (model prog w) A (pyNext (.ref z)) Q E s:=by
 have hT:s.TypeIs (.ref z) "zip":=⟨_,hz,rfl⟩;unfold pyNext;exact wpAny_bind (wpAny_attempt (wpAny_callSpecial?_slot (name:=Str.ofString "__next__") hT F.slot_zip_next
  (wpAny_call_entry F.slot_zip_next hT F.entry_zip_next
   (C4 D hz ha wj h1 h2 oH iW hx hy fun h' a1 a2 a3 a4 a5 a6=>wpAny_pure (hQ h' a1 a2 a3 a4 a5 a6)) (F.args_zip_next_1 _))))
theorem AI {z TI TO i1 i2 l1 l2 a:Addr} {f:Bool} {oa:Obj} {k1 k2:Nat} {xs ys:Array Value} {Q:Option Value->Shared->Prop} (hh:A.handled = none) (D:ZipApart z TI TO i1 i2 l1 l2)
  (hz:qh s.heap z TI TO a f) (ha:s.heap.get? a = some oa) (wj:IsPair s.heap TI (.ref i1) (.ref i2))
  (h1:s.heap.IsListIter i1 l1 k1) (h2:s.heap.IsListIter i2 l2 k2) (oH:s.heap.IsList l1 xs) (iW:s.heap.IsList l2 ys) (vq:xs[k1]? = none)
  (hQ:∀ h',(∀ c o,c≠z->c≠i1->c≠i2->s.heap.get? c = some o->h'.get? c = some o)->Q none { s with heap:=h' }):wpAny (model prog w) A (pyNext (.ref z)) Q E s:=by
 have hT:s.TypeIs (.ref z) "zip":=⟨_,hz,rfl⟩;unfold pyNext;refine wpAny_bind (wpAny_attempt (wpAny_callSpecial?_slot (name:=Str.ofString "__next__") hT F.slot_zip_next
  (wpAny_call_entry F.slot_zip_next hT F.entry_zip_next (FN hh D hz ha wj h1 h2 oH iW vq fun h' e hk he=>?_) (F.args_zip_next_1 _))))
 obtain ⟨o,ho,hc⟩:=he;refine wpAny_bind (wpAny_isInstance (T:= "StopIteration") (b:=true) ⟨o,ho,hc⟩ isSubtype_stop ?_);exact wpAny_pure (hQ _ hk)
end
structure pf (h:Heap) (z TI TO i1 i2 l1 l2 S:Addr) (i:Nat):Prop where
 own:(i = 0/\IsZip h z TI TO .none/\∃ a b,IsPair h TO a b)\/∃ a f oa,qh h z TI TO a f/\h.get? a = some oa/\a∉[z,i1,i2,S]
 it:IsPair h TI (.ref i1) (.ref i2)
 one:h.IsListIter i1 l1 i
 two:h.IsListIter i2 l2 i
theorem pf.keep {h h':Heap} {z TI TO i1 i2 l1 l2 S:Addr} {i:Nat} (x:pf h z TI TO i1 i2 l1 l2 S i) (hk:∀ b o,b≠S->h.get? b = some o->h'.get? b = some o) (hS:S∉[z,TI,TO,i1,i2]):pf h' z TI TO i1 i2 l1 l2 S i:=by
 simp only [mem_cons,not_mem_nil,or_false,not_or] at hS;obtain ⟨n1,n2,n3,n4,n5⟩:=hS;refine ⟨?_,hk _ _ (Ne.symm n2) x.it,x.one.at fun o e=>hk _ _ (Ne.symm n4) e,x.two.at fun o e=>hk _ _ (Ne.symm n5) e⟩;rcases x.own with ⟨e,h1,a,b,h2⟩ | ⟨a,f,oa,h1,h2,h3⟩
 ·exact .inl ⟨e,hk _ _ (Ne.symm n1) h1,a,b,hk _ _ (Ne.symm n3) h2⟩
 ·refine .inr ⟨a,f,oa,hk _ _ (Ne.symm n1) h1,hk _ _ ?_ h2,h3⟩;simp only [mem_cons,not_mem_nil,or_false,not_or] at h3;exact h3.2.2.2
structure EK (xs ys:Array Value) (lo:Addr) (h:Heap) (as:List Addr):Prop where
 rise:as.Pairwise (· < ·)
 above:∀ a∈as,lo<=a
 pairs:∀ (j:Nat) (a:Addr),as[j]? = some a->∃ x y,xs[j]? = some x/\ys[j]? = some y/\IsPair h a x y
section
variable {prog:Program} {w:World} {A:Around} {E:Value->Shared->Prop} {s:Shared}
theorem C3 {z TI TO i1 i2 l1 l2 S:Addr} {i:Nat} {xs ys:Array Value} {x y:Value} {Q:Option Value->Shared->Prop} (D:ZipApart z TI TO i1 i2 l1 l2) (st:pf s.heap z TI TO i1 i2 l1 l2 S i) (hS:S < s.heap.objs.size)
  (oH:s.heap.IsList l1 xs) (iW:s.heap.IsList l2 ys) (hx:xs[i]? = some x) (hy:ys[i]? = some y)
  (hQ:∀ h',pf h' z TI TO i1 i2 l1 l2 S (i + 1)->IsPair h' s.heap.objs.size x y->h'.objs.size = s.heap.objs.size + 1->
   (∀ c o,c∉[z,TO,i1,i2]->s.heap.get? c = some o->h'.get? c = some o)->Q (some (.ref s.heap.objs.size)) { s with heap:=h' }) :
  wpAny (model prog w) A (pyNext (.ref z)) Q E s:=by
 have U0:i1 < s.heap.objs.size:=by obtain ⟨_,e,_⟩:=st.one; exact Heap.lt_size e
 have UZ:i2 < s.heap.objs.size:=by obtain ⟨_,e,_⟩:=st.two; exact Heap.lt_size e
 have f:∀ {c p q r t:Addr},c∉[p,q,r,t]->c≠p/\c≠q/\c≠r/\c≠t:=fun h=>by
  simpa only [mem_cons,not_mem_nil,or_false,not_or] using h
 have g:∀ {c p q r t:Addr},c≠p->c≠q->c≠r->c≠t->c∉[p,q,r,t]:=fun h1 h2 h3 h4=>by
  simp only [mem_cons,not_mem_nil,or_false,not_or]; exact ⟨h1,h2,h3,h4⟩
 rcases st.own with ⟨rfl,h1,a,b,h2⟩ | ⟨a,fl,oa,h1,h2,h3⟩
 ·refine wpAny_pyNext_zip_item D h1 st.it h2 st.one st.two oH iW hx hy fun h' k1 k2 k3 k4 hT hsz hk=>hQ h' ⟨.inr ⟨_,false,_,k1,hT,g (Nat.ne_of_gt (Heap.lt_size h1)) (Nat.ne_of_gt U0) (Nat.ne_of_gt UZ) (Nat.ne_of_gt hS)⟩,hk _ _ D.TIz D.TITO D.TIi1 D.TIi2 st.it,k3,k4⟩ hT hsz fun c o hc e=>?_;obtain ⟨c1,c2,c3,c4⟩:=f hc;exact hk c o c1 c2 c3 c4 e
 ·obtain ⟨b1,b2,b3,b4⟩:=f h3;refine zf D h1 h2 st.it st.one st.two oH iW hx hy fun h' k1 k3 k4 hT hsz hk=>hQ h' ⟨.inr ⟨a,true,oa,k1,hk _ _ b1 b2 b3 h2,h3⟩,hk _ _ D.TIz D.TIi1 D.TIi2 st.it,k3,k4⟩ hT hsz fun c o hc e=>?_;obtain ⟨c1,c2,c3,c4⟩:=f hc;exact hk c o c1 c3 c4 e
theorem FL {z TI TO i1 i2 l1 l2 S:Addr} {i:Nat} {xs ys:Array Value} {Q:Option Value->Shared->Prop} (hh:A.handled = none) (D:ZipApart z TI TO i1 i2 l1 l2) (st:pf s.heap z TI TO i1 i2 l1 l2 S i)
  (oH:s.heap.IsList l1 xs) (iW:s.heap.IsList l2 ys) (vq:xs[i]? = none)
  (hQ:∀ h',(∀ c o,c∉[z,TO,i1,i2]->s.heap.get? c = some o->h'.get? c = some o)->Q none { s with heap:=h' }):wpAny (model prog w) A (pyNext (.ref z)) Q E s:=by
 have f:∀ {c p q r t:Addr},c∉[p,q,r,t]->c≠p/\c≠q/\c≠r/\c≠t:=fun h=>by
  simpa only [mem_cons,not_mem_nil,or_false,not_or] using h
 rcases st.own with ⟨rfl,h1,a,b,h2⟩ | ⟨a,fl,oa,h1,h2,h3⟩
 ·refine wpAny_pyNext_zip_end hh D h1 st.it h2 st.one st.two oH iW (.inl vq) fun h' hk=>hQ h' fun c o hc e=>?_;obtain ⟨c1,c2,c3,c4⟩:=f hc;exact hk c o c1 c2 c3 c4 e
 ·refine AI hh D h1 h2 st.it st.one st.two oH iW vq fun h' hk=>hQ h' fun c o hc e=>?_;obtain ⟨c1,c2,c3,c4⟩:=f hc;exact hk c o c1 c3 c4 e
end
section
variable {prog:Program} {w:World} {A:Around} {s:Shared} {R:Result->Shared->Prop} {xs ys:Array Value}
theorem C2 {S z TI TO i1 i2 l1 l2:Addr} (hh:A.handled = none) (D:ZipApart z TI TO i1 i2 l1 l2) (B7:S∉[z,TI,TO,i1,i2]) (MB:l1≠S) (wm:l2≠S) (mr:xs.size = ys.size) (hn:xs.size<=sizeLine) (res:Value) {h₁ : Heap}
  (hR:∀ h' tk acc c as,(∀ b o,b≠S->b∉[z,TO,i1,i2]->h₁.get? b = some o->h'.get? b = some o)->h'.get? S = some { cls:=.type "list",dict:=none,data:=.seq acc c,slots:=#[] }->as.length = xs.size->EK xs ys h₁.objs.size h' as->
   acc.toList = as.map Value.ref->R (.ok (.ret res)) { s with heap:=h',toks:=tk }) :
  ∀ (k i:Nat) (h:Heap) (tk c:Nat) (acc:Array Value) (as:List Addr),xs.size - i = k->i<=xs.size->pf h z TI TO i1 i2 l1 l2 S i->h.IsList l1 xs->h.IsList l2 ys->(∀ b o,b≠S->b∉[z,TO,i1,i2]->h₁.get? b = some o->h.get? b = some o)->
   h.get? S = some { cls:=.type "list",dict:=none,data:=.seq acc c,slots:=#[] }->acc.toList = as.map Value.ref->as.length = i->EK xs ys h₁.objs.size h as->h₁.objs.size<=h.objs.size->(∀ c∈[z,TO,i1,i2],c < h₁.objs.size)->S < h₁.objs.size->
   codeAny (model prog w) A (.builtin "list.extend.loop" ⟨[.ref S,.ref z,res],[]⟩) R { s with heap:=h,toks:=tk }:=by
 have Sf:S∉[z,TO,i1,i2]:=by
  simp only [mem_cons,not_mem_nil,or_false,not_or] at B7 ⊢;exact ⟨B7.1,B7.2.2.1,B7.2.2.2.1,B7.2.2.2.2⟩
 intro k
 induction k with
 | zero=>
  intro i h tk c acc as hk hi BR oH iW BZ hS bK KD hG hsz ef Pm;have Mw:i = xs.size:=by omega
  refine codeAny_builtin PySem.F.entry_extend_loop ?_;rw [Around.under_plainId PySem.F.plain_extend_loop _];show wpAny _ A.in1 (pyNext (.ref z) >>= _) _ _ _;refine wpAny_bind (FL (s:={ s with heap:=h,toks:=tk }) (A:=A.in1) hh D BR oH iW (by rw [Array.getElem?_eq_none]; omega) fun h' he=>?_);refine wpAny_pure (hR h' tk acc c as (fun b o h1 h2 e=>he b o h2 (BZ b o h1 h2 e)) (he S _ Sf hS) (by omega) ⟨hG.rise,hG.above,fun j a hj=>?_⟩ bK);obtain ⟨x,y,e1,e2,e3⟩:=hG.pairs j a hj;refine ⟨x,y,e1,e2,he a _ (fun hm=>?_) e3⟩;exact absurd (ef a hm) (Nat.not_lt.mpr (hG.above a (mem_of_getElem? hj)))
 | succ k ih=>
  intro i h tk c acc as hk hi BR oH iW BZ hS bK KD hG hsz ef Pm;have G9:i < xs.size:=by omega
  have Fq:i < ys.size:=by omega
  have RV:acc.size = i:=by rw [<- Array.length_toList,bK,length_map,KD]
  refine codeAny_builtin PySem.F.entry_extend_loop ?_;rw [Around.under_plainId PySem.F.plain_extend_loop _];show wpAny _ A.in1 (pyNext (.ref z) >>= _) _ _ _;refine wpAny_bind (C3 (s:={ s with heap:=h,toks:=tk }) (S:=S) (x:=xs[i]) (y:=ys[i]) D BR (Heap.lt_size hS) oH iW (by simp [G9]) (by simp [Fq]) fun h' OE ht hz Fs=>?_);dsimp only at ht hz Fs ⊢;have MC:=Fs S _ Sf hS;have up:∀ b o,b≠S->h'.get? b = some o->(h'.update S (Obj.mapSeq (·.push (Value.ref h.objs.size)))).get? b = some o:=fun b o hb e=>(Heap.get?_update_other _ _ (Ne.symm hb)).trans e;have KH:S < h.objs.size:=Heap.lt_size hS;have UE:l1∉[z,TO,i1,i2]:=by
   simp only [mem_cons,not_mem_nil,or_false,not_or]; exact ⟨D.l1z,D.l1TO,D.l1i1,D.l1i2⟩
  have UD:l2∉[z,TO,i1,i2]:=by
   simp only [mem_cons,not_mem_nil,or_false,not_or]; exact ⟨D.l2z,D.l2TO,D.l2i1,D.l2i2⟩
  show wpAny _ A.in1 (updateSeq S (·.push (Value.ref h.objs.size)) >>= _) _ _ _;refine wpAny_bind ?_;refine wpAny_updateSeq MC rfl (wpAny_pure ⟨plainId_quiet PySem.F.plain_extend_loop _,ih (i + 1) _ tk _ (acc.push (Value.ref h.objs.size)) (as ++ [h.objs.size]) (by omega) G9 (OE.keep up B7)
   (oH.at fun o e=>up l1 o MB (Fs l1 o UE e)) (iW.at fun o e=>up l2 o wm (Fs l2 o UD e))
   (fun b o h1 h2 e=>up b o h1 (Fs b o h2 (BZ b o h1 h2 e))) (Heap.get?_update_self _ MC rfl) (by rw [Array.toList_push,bK,map_append]; rfl) (by rw [length_append,KD]; rfl) ⟨?_,?_,?_⟩ ?_ ef Pm⟩) (by rw [RV]; omega) (by show (acc.push (Value.ref h.objs.size)).size<=sizeLine + 1; rw [Array.size_push,RV]; omega)
  ·refine List.pairwise_append.mpr ⟨hG.rise,pairwise_singleton _ _,fun a ha b hb=>?_⟩;rw [List.mem_singleton.mp hb];obtain ⟨j,hj⟩:=List.mem_iff_getElem?.mp ha;obtain ⟨_,_,_,_,e⟩:=hG.pairs j a hj;exact Heap.lt_size e
  ·intro a ha;rcases List.mem_append.mp ha with ha | ha
   ·exact hG.above a ha
   ·rw [List.mem_singleton.mp ha]; exact hsz
  ·intro j b hj;rcases Nat.lt_trichotomy j as.length with h1 | h1 | h1
   ·rw [getElem?_append_left h1] at hj;obtain ⟨x',y',e1,e2,e3⟩:=hG.pairs j b hj;have hb:=hG.above b (mem_of_getElem? hj);exact ⟨x',y',e1,e2,up b _ (Nat.ne_of_gt (Nat.lt_of_lt_of_le Pm hb)) (Fs b _ (fun hm=>absurd (ef b hm) (Nat.not_lt.mpr hb)) e3)⟩
   ·subst h1;have hb:h.objs.size = b:=by simpa using hj
    subst hb;exact ⟨xs[i],ys[i],by rw [KD]; simp [G9],by rw [KD]; simp [Fq],up _ _ (Nat.ne_of_gt KH) ht⟩
   ·have Kj:(as ++ [h.objs.size])[j]? = none:=getElem?_eq_none (by rw [length_append,length_singleton]; omega);rw [Kj] at hj; cases hj
  ·have e:(h'.update S (Obj.mapSeq (·.push (Value.ref h.objs.size)))).get? h.objs.size = _:=up _ _ (Nat.ne_of_gt KH) ht;exact Nat.le_trans hsz (Nat.le_of_lt (Heap.lt_size e))
end
namespace F
theorem wt:typeLookup (.type "zip") "__len__" = pure none:=by rw [typeLookup_type,builtinLookup_eq_fast]; kernel_rfl
theorem ui:typeLookup (.type "zip") "__length_hint__" = pure none:=by rw [typeLookup_type,builtinLookup_eq_fast]; kernel_rfl
end F
section
variable {prog:Program} {w:World} {A:Around} {E:Value->Shared->Prop} {s:Shared} {xs ys:Array Value}
theorem ze {R:Result->Shared->Prop} {S z TI TO i1 i2 l1 l2:Addr} (hh:A.handled = none) (D:ZipApart z TI TO i1 i2 l1 l2) (B7:S∉[z,TI,TO,i1,i2]) (MB:l1≠S) (wm:l2≠S) (mr:xs.size = ys.size) (hn:xs.size<=sizeLine) (res:Value) (c₀ : Nat)
  (hz:IsZip s.heap z TI TO .none) (zY:∃ a b,IsPair s.heap TO a b) (wj:IsPair s.heap TI (.ref i1) (.ref i2)) (h1:s.heap.IsListIter i1 l1 0) (h2:s.heap.IsListIter i2 l2 0) (oH:s.heap.IsList l1 xs) (iW:s.heap.IsList l2 ys)
  (hS:s.heap.get? S = some { cls:=.type "list",data:=.seq #[] c₀ })
  (hR:∀ h' tk acc c as,(∀ b o,b≠S->b∉[z,TO,i1,i2]->s.heap.get? b = some o->h'.get? b = some o)->h'.get? S = some { cls:=.type "list",dict:=none,data:=.seq acc c,slots:=#[] }->as.length = xs.size->EK xs ys s.heap.objs.size h' as->
   acc.toList = as.map Value.ref->R (.ok (.ret res)) { s with heap:=h',toks:=tk }) :
  wpAny (model prog w) A.in1 (Builtin.List.listExtendWith (.ref S) (.ref z) res)
   (fun fin s'=>match fin with | .done f=>R (.ok f) s' | .again c'=>c'.quiet = true/\codeAny (model prog w) A c' R s') (fun e s'=>R (.error e) s') s:=by
 have KI:=B7;simp only [mem_cons,not_mem_nil,or_false,not_or] at KI;obtain ⟨n1,n2,n3,n4,n5⟩:=KI;have hT:s.TypeIs (.ref z) "zip":=⟨_,hz,rfl⟩;unfold Builtin.List.listExtendWith;refine wpAny_bind (wpAny_typeOf hT ?_);have q1:Builtin.List.listSameRef (.ref S) (.ref z) = false:=by simp [Builtin.List.listSameRef,n1]
 have q2:(Value.type "zip" == Value.type "list") = false:=by decide
 have q3:(Value.type "zip" == Value.type "tuple") = false:=by decide
 simp only [q1,q2,q3,Bool.or_false,Bool.false_eq_true,if_false];refine wpAny_bind (wpAny_pyIter_zip hz ?_);refine wpAny_bind (wpAny_holding ?_);unfold Builtin.List.listLengthHint;refine wpAny_bind (wpAny_specialOf hT F.wt ?_);show wpAny _ A.in1 (specialOf (Value.ref z) (Str.ofString "__length_hint__") >>= _) _ _ _;refine wpAny_bind (wpAny_specialOf hT F.ui ?_);refine wpAny_pure ?_;show wpAny _ A.in1 (rule "list.extend.makes-room" >>= fun _=>Builtin.List.listTouch (.ref S) >>= fun _=>
  again (.builtin "list.extend.loop" ⟨[.ref S,.ref z,res],[]⟩)) _ _ _
 refine wpAny_bind (wpAny_rule ?_);refine wpAny_bind ?_;show wpAny _ A.in1 (updateSeq S (·.push .none) >>= fun _=>updateSeq S (·.pop)) _ _ _;refine wpAny_bind (wpAny_updateSeq hS rfl ?_);have hS₂:=Heap.get?_update_self (Obj.mapSeq (·.push Value.none)) hS rfl;refine wpAny_updateSeq (hz:=by seq_fits) hS₂ rfl ?_;have hS₃:=Heap.get?_update_self (Obj.mapSeq (·.pop)) hS₂ rfl;have hk:∀ b o,b≠S->s.heap.get? b = some o->((s.heap.update S (Obj.mapSeq (·.push Value.none))).update S (Obj.mapSeq (·.pop))).get? b = some o:=fun b o hb e=>(Heap.get?_update_other _ _ (Ne.symm hb)).trans ((Heap.get?_update_other _ _ (Ne.symm hb)).trans e);obtain ⟨a,b,zY⟩:=zY;refine wpAny_pure ⟨plainId_quiet PySem.F.plain_extend_loop _,C2 (s:=s) (h₁:=s.heap) (xs:=xs) (ys:=ys) hh D B7 MB wm mr hn res hR xs.size 0 _ _ _ #[] [] (Nat.sub_zero _) (Nat.zero_le _)
  ⟨.inl ⟨rfl,hk _ _ (Ne.symm n1) hz,a,b,hk _ _ (Ne.symm n3) zY⟩,hk _ _ (Ne.symm n2) wj,h1.at fun o e=>hk _ _ (Ne.symm n4) e,h2.at fun o e=>hk _ _ (Ne.symm n5) e⟩ (oH.at fun o e=>hk _ _ MB e) (iW.at fun o e=>hk _ _ wm e)
  (fun b o hb _ e=>hk b o hb e) hS₃ rfl rfl ⟨List.Pairwise.nil,(fun _ ha=>nomatch ha),(fun j a hj=>by simp at hj)⟩ (by simp [Heap.size_update]) (fun c hc=>?_) (Heap.lt_size hS)⟩
 simp only [mem_cons,not_mem_nil,or_false] at hc;rcases hc with rfl | rfl | rfl | rfl
 ·exact Heap.lt_size hz
 ·exact Heap.lt_size zY
 ·obtain ⟨_,e,_⟩:=h1; exact Heap.lt_size e
 ·obtain ⟨_,e,_⟩:=h2; exact Heap.lt_size e
theorem qc {Q:Value->Shared->Prop} {z TI TO i1 i2 l1 l2:Addr} (hh:A.handled = none) (D:ZipApart z TI TO i1 i2 l1 l2) (mr:xs.size = ys.size) (hn:xs.size<=sizeLine)
  (hz:IsZip s.heap z TI TO .none) (zY:∃ a b,IsPair s.heap TO a b) (wj:IsPair s.heap TI (.ref i1) (.ref i2)) (h1:s.heap.IsListIter i1 l1 0) (h2:s.heap.IsListIter i2 l2 0) (oH:s.heap.IsList l1 xs) (iW:s.heap.IsList l2 ys)
  (hQ:∀ h' tk acc c as,(∀ b o,b∉[z,TO,i1,i2]->s.heap.get? b = some o->h'.get? b = some o)->h'.get? s.heap.objs.size = some { cls:=.type "list",dict:=none,data:=.seq acc c,slots:=#[] }->as.length = xs.size->EK xs ys (s.heap.objs.size + 1) h' as->
   acc.toList = as.map Value.ref->Q (.ref s.heap.objs.size) { s with heap:=h',toks:=tk }) :
  wpAny (model prog w) A (call (.type "list") [.ref z]) Q E s:=by
 refine callType_codes (Q₁:=fun obj s₁=>obj = .ref s.heap.objs.size/\s₁ = { s with heap:=s.heap.push { cls:=.type "list",data:=.seq #[] } }) PySem.F.called_list (PySem.F.typeCall_list_1 _) PySem.F.entry_list_init
  (code_list_new _ ⟨rfl,rfl⟩) fun obj s₁ h₁=>?_
 obtain ⟨rfl,rfl⟩:=h₁;obtain ⟨a,b,zY⟩:=zY;have hS:(s.heap.push { cls:=.type "list",data:=.seq #[] }).get? s.heap.objs.size = some { cls:=.type "list",data:=.seq #[] }:=Heap.get?_push_size _ rfl;have lt:∀ c∈[z,TI,TO,i1,i2],c < s.heap.objs.size:=fun c hc=>by
  simp only [mem_cons,not_mem_nil,or_false] at hc;rcases hc with rfl | rfl | rfl | rfl | rfl
  ·exact Heap.lt_size hz
  ·exact Heap.lt_size wj
  ·exact Heap.lt_size zY
  ·obtain ⟨_,e,_⟩:=h1; exact Heap.lt_size e
  ·obtain ⟨_,e,_⟩:=h2; exact Heap.lt_size e
 have UY:l1 < s.heap.objs.size:=by obtain ⟨_,e,_⟩:=oH; exact Heap.lt_size e
 have UX:l2 < s.heap.objs.size:=by obtain ⟨_,e,_⟩:=iW; exact Heap.lt_size e
 have B7:s.heap.objs.size∉[z,TI,TO,i1,i2]:=fun hm=>absurd (lt _ hm) (Nat.lt_irrefl _);refine ⟨⟨_,hS,rfl⟩,PySem.F.args_list_init_2 _ _,?_⟩;show wpAny _ _ (do let old <- Builtin.List.listItems (.ref s.heap.objs.size); Builtin.List.listUpdate (.ref s.heap.objs.size) (fun _=>#[]); letGo old.toList.reverse; Builtin.List.listExtendWith (.ref s.heap.objs.size) (.ref z) .none) _ _ _;refine wpAny_bind ?_;unfold Builtin.List.listItems;refine wpAny_bind (wpAny_seqItems hS rfl (wpAny_pure ?_));show wpAny _ _ (updateSeq s.heap.objs.size (fun _=>#[]) >>= fun _=>letGo (#[]:Array Value).toList.reverse >>= fun _=>Builtin.List.listExtendWith (.ref s.heap.objs.size) (.ref z) .none) _ _ _;refine wpAny_bind (wpAny_updateSeq hS rfl ?_);have hS₂:=Heap.get?_update_self (Obj.mapSeq (fun _=>(#[]:Array Value))) hS rfl;generalize hg:(s.heap.push { cls:=.type "list",data:=.seq #[] }).update s.heap.objs.size (Obj.mapSeq (fun _=>(#[]:Array Value))) = hp at hS₂;have hsz:hp.objs.size = s.heap.objs.size + 1:=by rw [<- hg]; simp [Heap.size_update,Heap.size_push]
 have Fh:∀ b o,s.heap.get? b = some o->hp.get? b = some o:=fun b o e=>by
  rw [<- hg];exact (Heap.get?_update_other _ _ (Nat.ne_of_gt (Heap.lt_size e))).trans (Heap.get?_push_of_some _ e)
 refine wpAny_bind (wpAny_letGo ?_);refine ze (A:=A.in1) (s:={ s with heap:=hp }) (xs:=xs) (ys:=ys) hh D B7 (Nat.ne_of_lt UY) (Nat.ne_of_lt UX) mr hn .none _ (Fh _ _ hz) ⟨a,b,Fh _ _ zY⟩ (Fh _ _ wj) (h1.at fun o e=>Fh _ o e) (h2.at fun o e=>Fh _ o e) (oH.at fun o e=>Fh _ o e) (iW.at fun o e=>Fh _ o e) hS₂ fun h' tk acc c as hk MC hl hG bK=>?_;refine ⟨rfl,hQ h' tk acc c as (fun b o hb e=>hk b o (Nat.ne_of_lt (Heap.lt_size e)) hb (Fh b o e)) MC hl ?_ bK⟩;rw [<- hsz]; exact hG
end
end PySem
end
section
namespace L2
open PySem PySem.Spec PySem.W PySem.Calls PyProof.Rows
section
variable {X:Cx} {pins:List (Addr×Obj)} {σ : St} {H H':Hp} {s:Shared} {h':Heap}
theorem Inv.Od {t':Nat} {ch:List Addr} (I:Inv X pins σ H s) (k:∀ b u,b∉ch->s.heap.get? b = some u->h'.get? b = some u) (hf:∀ b∈ch,pH X pins H b) (hs:∀ b u,H b = some u->H' b = some u)
  (new:∀ b u,H' b = some u->H b = none->s.heap.objs.size<=b/\bB X.prog X.w H' h' b u):Inv X pins σ H' { s with heap:=h',toks:=t' }:=by
 have yw:∀ b u,H b = some u->b∉ch:=fun b u e z=>by rw [(hf b z).1] at e; cases e
 refine I.step (g':=s.gens) (d':=s.drawn) (ch:=ch) (fun b hb=>?_) (fun b o _ _ hc e _=>k b o hc e) (fun b o _ _ hc e _=>⟨o.slots,k b o hc e⟩) (fun b u _ e n=>?_) (fun b o hc e=>⟨o,k b o hc e⟩)
  (fun b xs e=>hs _ _ e) (fun b u v e=>hs _ _ e) (fun b ps e=>⟨#[],by rw [hs _ _ e]; simp⟩) (fun m hm=>?_) (fun b u e=>?_) I.bare
 ·obtain ⟨f0,f1,f2,f3,f4,f5⟩:=hf b hb;exact ⟨f3,f1,f4,f5⟩
 ·cases q:H' b with
  | none=>rfl
  | some v=>exact absurd (Heap.lt_size e) (Nat.not_lt.mpr (new b v q n).1)
 ·obtain ⟨o,es,ep,ho,r⟩:=hm;exact ⟨o,es,ep,k _ o (fun z=>(hf _ z).2.1 rfl) ho,r⟩
 ·cases q:H b with
  | none=>exact (new b u e q).2
  | some v=>
   have e2:=hs b v q;rw [e] at e2;cases e2
   refine (I.bF b u q).iZ (fun c v hc q2=>k c v ?_ q2) (fun c q2=>hs _ _ q2) fun c xs q2=>hs _ _ q2;rcases hc with z | z
   ·rw [z]; exact yw b u q
   ·exact yw c _ z
end
def oA:List Addr->List (V×V)->Hp->Hp
 | a :: as,p :: ps,H=>upd (oA as ps H) a (.tup [p.1,p.2])
 | _,_,H=>H
theorem oy:∀ {as:List Addr} {ps:List (V×V)} {H:Hp} {b:Addr},b∉as->oA as ps H b = H b
 | [],_,_,_,_=>by simp [oA]
 | _ :: _,[],_,_,_=>by simp [oA]
 | a :: as,p :: ps,H,b,h=>by
  have nb:b≠a:=fun e=>h (by rw [e]; exact mem_cons_self);rw [oA,ak nb,oy fun e=>h (mem_cons_of_mem _ e)]
theorem yz:∀ {as:List Addr} {ps:List (V×V)} {H:Hp} {j:Nat} {a:Addr} {p:V×V},as.Nodup->as[j]? = some a->ps[j]? = some p->oA as ps H a = some (.tup [p.1,p.2])
 | [],_,_,_,_,_,_,h,_=>by simp at h
 | _ :: _,[],_,_,_,_,_,_,h=>by simp at h
 | a :: as,p :: ps,H,0,b,q,_,h1,h2=>by
  have e1:a = b:=by simpa using h1
  have e2:p = q:=by simpa using h2
  subst e1 e2;rw [oA,ae]
 | a :: as,p :: ps,H,j + 1,b,q,hn,h1,h2=>by
  have CT:as[j]? = some b:=by simpa using h1
  have qX:ps[j]? = some q:=by simpa using h2
  have Mu:=List.nodup_cons.mp hn;have nb:b≠a:=fun e=>Mu.1 (by rw [<- e]; exact mem_of_getElem? CT);rw [oA,ak nb,yz Mu.2 CT qX]
theorem qk:∀ (as:List Addr),Vals (as.map V.ref) (as.map Value.ref)
 | []=>.nil
 | _ :: as=>.cons rfl (qk as)
def uq (K:Frag) (ta:TA):TE:=fun σ H Q=>ta σ H fun vs H1=>∃ a b xs ys,vs = [.ref a,.ref b]/\aw K H1 a xs/\aw K H1 b ys/\xs.length = ys.length/\
 ∀ (l:Addr) (as:List Addr) (H2:Hp),ah H1 H2->H1 l = none->H2 l = some (.lst (as.map V.ref))->as.length = xs.length->
  (∀ (j:Nat) (a:Addr),as[j]? = some a->H1 a = none/\a≠l/\∃ x y,xs[j]? = some x/\ys[j]? = some y/\H2 a = some (.tup [x,y]))->Q (.ref l) H2
theorem xF:bootBuiltins "list" = some (.type "list"):=by decide +kernel
theorem wK {X:Cx} {l m:Expr} {ta:TA} {p p2 pos DI:Pos} (hc:X.calm = true) (hm:X.mg "zip" = none) (Ic:X.mg "list" = none) (ha:PA X [l,m] ta) (hg:Gl X "zip":=by rfl) (Hc:Gl X "list":=by rfl)
  (he:starEach [l,m] X.env = (false,eval l X.env) :: starEach [m] X.env:=by rfl) (mU:(backTo pos (starEach [m] X.env)).any (·.1) = false:=by rfl)
  (Ih:starEach [.Call (.Name "zip" p) [l,m] [] pos] X.env = (false,eval (.Call (.Name "zip" p) [l,m] [] pos) X.env) :: starEach [] X.env:=by rfl) :
  PE X (.Call (.Name "list" p2) [.Call (.Name "zip" p) [l,m] [] pos] [] DI) (uq X.K ta):=by
 intro pins s σ H Q I h;refine Call_ (iH I Hc Ic xF (PyProof.Rows.callWith_type1 ?_ Ih rfl));rw [Ih];show wpAny _ _ (spliced ((false,eval (.Call (.Name "zip" p) [l,m] [] pos) X.env) :: backTo DI (starEach [] X.env))) _ _ s;refine Calls.spliced_cons ?_;refine Call_ (iH I hg hm rK (PyProof.Rows.callWith_type1 (cF (ha pos pins s σ H _ I h) fun us s1 ⟨vs,H1,I1,r1,q1⟩=>?_) he mU));obtain ⟨a,b,xs,ys,rfl,zT,Eg,mr,q⟩:=q1;obtain ⟨u1,u2,rfl,IZ,IY⟩:=vals2 r1;cases IZ
 cases IY
 obtain ⟨ia,ra,pa,za⟩:=I1.list zT;obtain ⟨ib,rb,pb,zb⟩:=I1.list Eg;have la:=ra.length;have lb:=rb.length;have D5:a < s1.heap.objs.size:=by obtain ⟨_,e,_⟩:=pa.isList; exact Heap.lt_size e
 have D4:b < s1.heap.objs.size:=by obtain ⟨_,e,_⟩:=pb.isList; exact Heap.lt_size e
 have ne:∀ {j k:Nat},j≠k->s1.heap.objs.size + j≠s1.heap.objs.size + k:=fun h z=>h (Nat.add_left_cancel z);have nl:∀ {c:Addr} (k:Nat),c < s1.heap.objs.size->c≠s1.heap.objs.size + k:=fun k l=>Nat.ne_of_lt (Nat.lt_of_lt_of_le l (Nat.le_add_right _ _));have D:ZipApart (s1.heap.objs.size + 4) (s1.heap.objs.size + 2) (s1.heap.objs.size + 3) s1.heap.objs.size (s1.heap.objs.size + 1) a b:=
  ⟨ne (by decide),ne (by decide),ne (j:=0) (by decide),ne (by decide),ne (by decide),ne (k:=0) (by decide),ne (by decide),ne (k:=0) (by decide),ne (by decide),ne (j:=0) (by decide),nl _ D5,nl _ D5,nl 0 D5,nl _ D5,nl _ D4,nl _ D4,nl 0 D4,nl _ D4⟩
 refine call_zip_2 pa.isList pb.isList fun h' hz wj zY h1 h2 hsz hk=>?_;refine Calls.spliced_nil ?_;have I2:Inv X pins σ H1 { s1 with heap:=h' }:=I1.kept (t':=s1.toks) fun c o e=>hk c o e;obtain ⟨Vb,Q5,Uu,_⟩:=I2.list zT;obtain ⟨Va,Q2,Ut,_⟩:=I2.list Eg;have XH:=Q5.length;have XG:=Q2.length;refine qc (s:={ s1 with heap:=h' }) (xs:=Vb.toArray) (ys:=Va.toArray) (I2.ok.hd hc) D (by simp only [size_toArray]; omega) (by simp only [size_toArray]; omega) hz ⟨_,_,zY⟩ wj h1 h2 Uu.isList Ut.isList fun h3 tk acc c as VJ hS hl hG bK=>?_;have Kn:as.length = xs.length:=by rw [hl,size_toArray]; omega
 have VD:as.Nodup:=hG.rise.imp (fun e=>Nat.ne_of_lt e);have yH:∀ x,h'.objs.size<=x->H1 x = none:=fun x hx=>I2.bF.fresh hx;have Mx:∀ x∈as,h'.objs.size + 1<=x:=hG.above;have Sg:h'.objs.size∉as:=fun hm=>absurd (Mx _ hm) (Nat.not_le.mpr (Nat.lt_succ_self _));have Kb:∀ x u,H1 x = some u->x∉as/\x≠h'.objs.size:=fun x u e=>by
  constructor
  ·intro hm;have e2:=yH x (Nat.le_of_succ_le (Mx x hm));rw [e] at e2;cases e2
  ·intro hm;have e2:=yH x (Nat.le_of_eq hm.symm);rw [e] at e2;cases e2
 have Se:∀ (j:Nat) (x:Addr),as[j]? = some x->∃ v w v' w',xs[j]? = some v/\ys[j]? = some w/\RelV v v'/\RelV w w'/\IsPair h3 x v' w':=fun j x hj=>by
  obtain ⟨v',w',e1,e2,e3⟩:=hG.pairs j x hj;have R5:j < xs.length:=by have:=(List.getElem?_eq_some_iff.mp hj).1; omega
  obtain ⟨u1,f1,g1⟩:=Q5.get (show xs[j]? = some xs[j] by simp [R5]);obtain ⟨u2,f2,g2⟩:=Q2.get (show ys[j]? = some (ys[j]'(by omega)) by simp [show j < ys.length by omega]);rw [getElem?_toArray] at e1 e2;rw [e1] at f1;rw [e2] at f2;cases f1
  cases f2
  exact ⟨_,_,v',w',by simp [R5],by simp [show j < ys.length by omega],g1,g2,e3⟩
 have Si:∀ (j:Nat) (x:Addr) (v w:V),as[j]? = some x->xs[j]? = some v->ys[j]? = some w->upd (oA as (xs.zip ys) H1) h'.objs.size (.lst (as.map V.ref)) x = some (.tup [v,w]):=fun j x v w hj hv hw=>by
  have nx:x≠h'.objs.size:=fun e=>Sg (by rw [<- e]; exact mem_of_getElem? hj);rw [ak nx];exact yz (p:=(v,w)) VD hj (by rw [getElem?_zip_eq_some]; exact ⟨hv,hw⟩)
 have wm:∀ x u,H1 x = some u->upd (oA as (xs.zip ys) H1) h'.objs.size (.lst (as.map V.ref)) x = some u:=fun x u e=>by
  obtain ⟨e1,e2⟩:=Kb x u e;rw [ak e2,oy e1]; exact e
 have I3:Inv X pins σ (upd (oA as (xs.zip ys) H1) h'.objs.size (.lst (as.map V.ref))) { s1 with heap:=h3,toks:=tk }:=by
  refine Inv.Od (s:={ s1 with heap:=h' }) (ch:=[s1.heap.objs.size + 4,s1.heap.objs.size + 3,s1.heap.objs.size,s1.heap.objs.size + 1]) I2 (fun b u hb e=>VJ b u hb e) (fun c hc=>?_) wm fun x u e n=>?_
  ·have le:s1.heap.objs.size<=c:=by
    simp only [mem_cons,not_mem_nil,or_false] at hc;rcases hc with rfl | rfl | rfl | rfl
    ·exact Nat.le_add_right _ _
    ·exact Nat.le_add_right _ _
    ·exact Nat.le_refl _
    ·exact Nat.le_add_right _ _
   exact I1.zZ le (I1.bF.fresh le)
  ·by_cases hx:x = h'.objs.size
   ·subst hx;rw [ae] at e;cases e
    refine ⟨Nat.le_refl _,show bB X.prog X.w _ h3 _ (.lst (as.map V.ref)) from ⟨by rw [length_map,Kn]; exact za,as.map Value.ref,c,qk as,?_⟩⟩;rw [<- bK,Array.toArray_toList];exact hS
   ·by_cases hm:x∈as
    ·obtain ⟨j,hj⟩:=List.mem_iff_getElem?.mp hm;obtain ⟨v,w,v',w',e1,e2,g1,g2,hP⟩:=Se j x hj;rw [Si j x v w hj e1 e2] at e;cases e
     exact ⟨Nat.le_of_succ_le (Mx x hm),by simp only [length_cons,length_nil]; rw [sizeLine_eq]; decide,[v',w'],.cons g1 (.cons g2 .nil),⟨_,hP,rfl,_,rfl⟩⟩
    ·rw [ak hx,oy hm,n] at e;cases e
 refine ⟨.ref h'.objs.size,_,I3,rfl,q _ as _ (fun x u e=>wm x u e) (yH _ (Nat.le_refl _)) ae Kn fun j x hj=>?_⟩;obtain ⟨v,w,v',w',e1,e2,g1,g2,hP⟩:=Se j x hj;have hm:=mem_of_getElem? hj;exact ⟨yH x (Nat.le_of_succ_le (Mx x hm)),fun e=>Sg (e▸hm),v,w,e1,e2,Si j x v w hj e1 e2⟩
end L2
end
section
namespace Gm
open PySem L2
theorem Lp.perm {L R:List (List Int)} {ks RI:List aq} (p:Lp L R ks) (h:RI.Perm ks):Lp L R RI:=
 ⟨p.good,p.least,h.nodup_iff.mpr p.nd,h.trans p.pm,by rw [h.length_eq]; exact p.two⟩
theorem PR.mk {H:Hp}:∀ {ps:List Addr} {T:List (Int×Int)},ps.length = T.length->(∀ (j:Nat) (a:Addr) (d:Int×Int),ps[j]? = some a->T[j]? = some d->H a = some (.tup [.int d.1,.int d.2]))->PR H ps T
 | [],[],_,_=>.nil
 | [],_ :: _,h,_=>by simp at h
 | _ :: _,[],h,_=>by simp at h
 | a :: ps,d :: T,h,f=>.cons (f 0 a d rfl rfl) (PR.mk (by simpa using h) fun j b e h1 h2=>f (j + 1) b e (by simpa using h1) (by simpa using h2))
theorem Dv {r:List Int} {j:Nat} (h:j < r.length):(bU r 1)[j]? = some (cy r (j + 1)):=by
 have hl:(bU r 1).length = r.length:=cK (by omega);have e1:cy (bU r 1) j = (bU r 1)[j]'(by omega):=gO (by omega);by_cases h1:1 < r.length
 ·rw [gG h1] at e1;rw [e1];exact getElem?_eq_getElem _
 ·have e2:r.length = 1:=by omega
  have e3:j = 0:=by omega
  subst e3
  match r,e2 with
  | [x],_=>unfold bU cy; simp
theorem Lr {r:List Int} {j:Nat} (h:j < r.length):r[j]? = some (cy r j):=by
 rw [gO h]; exact getElem?_eq_getElem _
section
variable {K:PySem.W.Frag} {σ : St} {H:Hp} {Q:VK}
theorem wH {a:Addr} {i n:Nat} {m:Int} {r:List Int} (h1 : σ[i]? = some (some (.ref a))) (hs:aw K H a (r.map V.int)) (hn:n<=r.length) (q:∀ p,H p = none->Q (.ref p) (upd H p (.lst ((r.drop n).map V.int)))) (hm:m = (n:Int):=by rfl) :
  De (sE K) (gP i) (m9 (tC (.int m))) dz σ H Q:=by
 subst hm;exact ⟨_,h1,⟨_,rfl,⟨a,_,rfl,hs,fun p hp=>by rw [vI hn]; exact q p hp⟩⟩⟩
theorem Bi {a:Addr} {i n:Nat} {m:Int} {r:List Int} (h1 : σ[i]? = some (some (.ref a))) (hs:aw K H a (r.map V.int)) (hn:n<=r.length) (q:∀ p,H p = none->Q (.ref p) (upd H p (.lst ((r.take n).map V.int)))) (hm:m = (n:Int):=by rfl) :
  De (sE K) (gP i) dz (m9 (tC (.int m))) σ H Q:=by
 subst hm;exact ⟨_,h1,⟨_,rfl,⟨a,_,rfl,hs,fun p hp=>by rw [vH hn]; exact q p hp⟩⟩⟩
theorem zy {ta:TA} (h:ta σ H fun vs H1=>∃ a b xs ys,vs = [.ref a,.ref b]/\aw K H1 a xs/\aw K H1 b ys/\xs.length = ys.length/\
  ∀ (l:Addr) (as:List Addr) (H2:Hp),ah H1 H2->H1 l = none->H2 l = some (.lst (as.map V.ref))->as.length = xs.length->
   (∀ (j:Nat) (a:Addr),as[j]? = some a->H1 a = none/\a≠l/\∃ x y,xs[j]? = some x/\ys[j]? = some y/\H2 a = some (.tup [x,y]))->Q (.ref l) H2):uq K ta σ H Q:=h
end
end Gm
end
section
namespace L2
open PySem PySem.Spec PySem.W PySem.Calls PyProof.Rows
section
variable {X:Cx}
def DD (K:Frag):R2:=fun x y H Q=>∃ (p l:Addr) (d:Int×Int) (ps:List Addr) (T:List (Int×Int)),x = .ref p/\y = .ref l/\H p = some (.tup [.int d.1,.int d.2])/\H l = some (.lst (ps.map V.ref))/\Gm.PR H ps T/\Q (.bl (!decide (d∈T))) H
theorem zB (hu:X.A.units + 64 < cLine):lX X (compareOp .NotIn) (DD X.K):=by
 intro pins s σ H x y v u Q I rx ry h;obtain ⟨p,l,d,ps,T,rfl,rfl,hp,hl,pr,q⟩:=h;cases rx
 cases ry
 obtain ⟨z,aO,n,r,_,e⟩:=I.ot hl;obtain ⟨z2,ip,rp,op,Vy,hc,n2,hd⟩:=(show bB X.prog X.w H s.heap p (.tup [.int d.1,.int d.2]) from I.bF p _ hp);obtain ⟨u1,u2,rfl,⟨t1,rfl⟩,⟨t2,rfl⟩⟩:=vals2 rp;have tp:s.heap.IsTuple p #[.int d.1 t1,.int d.2 t2]:=⟨op,Vy,hc,n2,hd⟩;let ev:Value->Bool:=fun v=>match v with | .ref b=>@decide (H b = some (.tup [.int d.1,.int d.2])) (Classical.propDecidable _) | _=>false
 have key:∀ {ps:List Addr} {T:List (Int×Int)} {aO:List Value},Gm.PR H ps T->Vals (ps.map V.ref) aO->aO.any ev = decide (d∈T)/\∀ y∈aO,SeqAt.EqAt X.A.in1 s y (.ref p) (ev y):=by
  intro ps T aO pr
  induction pr generalizing aO with
  | nil=>intro rv; cases rv; exact ⟨rfl,fun y hy=>by cases hy⟩
  | @cons b x ps T hb _ ih=>
   intro rv;cases rv with
   | @cons _ u _ us ru rv=>
    cases ru
    obtain ⟨i1,i2⟩:=ih rv;have eb:ev (.ref b) = decide (x = d):=by
     show @decide (H b = some (.tup [.int d.1,.int d.2])) (Classical.propDecidable _) = _;by_cases q:x = d
     ·subst q;rw [@decide_eq_true _ (Classical.propDecidable _) hb,decide_eq_true rfl]
     ·refine (@decide_eq_false _ (Classical.propDecidable _) ?_).trans (decide_eq_false q).symm;intro w;rw [hb] at w;injection w with w;injection w with w;injection w with w1 w2;injection w1 with w1;injection w2 with w2 _;injection w2 with w2;exact q (Prod.ext w1 w2)
    refine ⟨?_,fun y hy=>?_⟩
    ·rw [any_cons,i1,eb];by_cases q:x = d
     ·subst q; simp
     ·have q2:¬ d = x:=fun w=>q w.symm;simp [q,q2]
    ·rcases List.mem_cons.mp hy with w | w
     ·subst w;rw [eb];by_cases Sa:b = p
      ·subst Sa;have:x = d:=by
        rw [hb] at hp;injection hp with w;injection w with w;injection w with w1 w2;injection w1 with w1;injection w2 with w2 _;injection w2 with w2;exact Prod.ext w1 w2
       rw [decide_eq_true this];exact SeqAt.EqAt.same _
      ·obtain ⟨_,ib,rb,ob,OO,zW,n3,hd2⟩:=(show bB X.prog X.w H s.heap b (.tup [.int x.1,.int x.2]) from I.bF b _ hb);obtain ⟨w1,w2,rfl,⟨t3,rfl⟩,⟨t4,rfl⟩⟩:=vals2 rb;have tb:s.heap.IsTuple b #[.int x.1 t3,.int x.2 t4]:=⟨ob,OO,zW,n3,hd2⟩;have rc:=SeqAt.RcAt.tuples (A:=X.A.in1) (e:=fun j=>if j = 0 then x.1 == d.1 else x.2 == d.2) tb tp (by simp only [Around.in1_units]; omega) (fun j h1 h2=>by
        have hj:j = 0\/j = 1:=by
         have:j < 2:=h1;omega
        rcases hj with rfl | rfl
        ·exact SeqAt.EqAt.int_int x.1 t3 d.1 t1
        ·exact SeqAt.EqAt.int_int x.2 t4 d.2 t2)
       have ee:((List.range (min 2 2)).all (fun j=>if j = 0 then x.1 == d.1 else x.2 == d.2) && (2:Nat) == 2) = decide (x = d):=by
        have e:(List.range (min 2 2)).all (fun j=>if j = 0 then x.1 == d.1 else x.2 == d.2) = ((x.1 == d.1) && (x.2 == d.2)):=by
         rw [show List.range (min 2 2) = [0,1] from rfl];simp
        rw [e];by_cases h1:x.1 = d.1
        ·by_cases h2:x.2 = d.2
         ·rw [decide_eq_true (Prod.ext h1 h2)]; simp [h1,h2]
         ·rw [decide_eq_false (fun w=>h2 (congrArg Prod.snd w))]; simp [h2]
        ·rw [decide_eq_false (fun w=>h1 (congrArg Prod.fst w))]; simp [h1]
       have T2:SeqAt.RcAt X.A.in1 s (.ref b) (.ref p) (decide (x = d)):=ee▸rc;exact SeqAt.EqAt.of_refs Sa T2
     ·exact i2 y w
 obtain ⟨k1,k2⟩:=key pr r;refine SeqAt.notIn_listAt ev ⟨_,e,rfl,n,rfl⟩ (fun y hy=>k2 y (by simpa using hy)) ⟨.bl (!decide (d∈T)),H,I,?_,q⟩;show Value.bool (!aO.toArray.any ev) = Value.bool (!decide (d∈T));rw [<- k1];simp
end
section
variable {K:Frag} {σ : St} {H:Hp} {Q:VK}
theorem jq {to ti:TE} {t:CC} {v:V} {Q:St->Hp->Prop} (h:to σ H fun o H1=>ti σ H1 fun i H2=>t o i v H2 fun H3=>Q σ H3):KL to ti t v σ H Q:=h
theorem EC (xs:List V):iM xs none none = xs:=by
 unfold iM HT.ky;simp
theorem nK {a:Addr} {i:Nat} {xs:List V} (h1 : σ[i]? = some (some (.ref a))) (hs:aw K H a xs) (q:∀ p,H p = none->Q (.ref p) (upd H p (.lst xs))) :
  De (sE K) (gP i) dz dz σ H Q:=⟨_,h1,⟨a,_,rfl,hs,fun p hp=>by rw [EC]; exact q p hp⟩⟩
theorem xg {n:Nat} {k:Int} (h0:0<=k) (h1:k < n):AA n k = some k.toNat:=by
 unfold AA;rw [if_pos h0,if_pos h1]
end
end L2
namespace Gm
open PySem L2
theorem aJ.wz {H:Hp} {t b:Addr} {bs:List Addr} {R:List (List Int)} {l:List Int} {k:Nat} (g:aJ H t bs R) (nt:t∉bs) (nb:b≠t) (hb:H b = some (.lst (l.map V.int))):aJ (upd H t (.lst ((bs.map V.ref).set k (.ref b)))) t (bs.set k b) (R.set k l):=by
 refine ⟨by rw [<- map_set]; exact ae,by rw [length_set,length_set,g.len],fun i a m h1 h2=>?_⟩;have iV:∀ c∈bs,c≠t:=fun c hc e=>nt (e▸hc);by_cases e:k = i
 ·subst e;by_cases hk:k < bs.length
  ·rw [getElem?_set_self (by simpa using hk)] at h1;rw [getElem?_set_self (by rw [<- g.len]; simpa using hk)] at h2;cases h1
   cases h2
   rw [ak nb];exact hb
  ·rw [getElem?_eq_none (by rw [length_set]; omega)] at h1;cases h1
 ·rw [getElem?_set_ne e] at h1 h2;rw [ak (iV a (mem_of_getElem? h1))];exact g.row i a m h1 h2
theorem kT {bs:List Addr} {b t:Addr} {k:Nat} (h:(t :: bs).Nodup) (hb:b∉t :: bs):(t :: bs.set k b).Nodup:=by
 obtain ⟨h1,h2⟩:=List.nodup_cons.mp h;refine List.nodup_cons.mpr ⟨fun z=>?_,?_⟩
 ·rcases mem_or_eq_of_mem_set z with z | z
  ·exact h1 z
  ·exact hb (z▸mem_cons_self)
 ·have nb:∀ (x:Nat) (hx:x < bs.length),bs[x]≠b:=fun x hx e=>hb (mem_cons_of_mem _ (e▸getElem_mem hx));refine List.pairwise_iff_getElem.mpr fun i j hi hj Ie=>?_;rw [length_set] at hi hj;rw [getElem_set,getElem_set];split
  ·rw [if_neg (by omega)];exact fun e=>nb j hj e.symm
  ·split
   ·exact nb i hi
   ·exact List.pairwise_iff_getElem.mp h2 i j hi hj Ie
theorem lr {bs:List Addr} {b t:Addr} {k:Nat} {H:Hp} (h:∀ c∈t :: bs,H c = none) (hb:H b = none):∀ c∈t :: bs.set k b,H c = none:=fun c hc=>by
 rcases List.mem_cons.mp hc with z | z
 ·exact h c (z▸mem_cons_self)
 ·rcases mem_or_eq_of_mem_set z with z | z
  ·exact h c (mem_cons_of_mem _ z)
  ·rw [z]; exact hb
theorem aT.refl (L:List (List Int)):aT L L:=⟨rfl,fun i l m h1 h2=>by rw [h1] at h2; cases h2; exact bA.refl _⟩
theorem C9 {L:List (List Int)} (im:av L) {d:aq} (a0:0<=d.1) (a1:d.1 < L.length) (b0:0<=d.2) (b1:d.2 < L.length) (ne:d.1≠d.2) :
  ((if d.2 < d.1 then d.2 else d.1),(if d.2 > d.1 then d.2 else d.1))∈cO L L.length↔d.2∈rowOf L d.1:=by
 rw [fh (Nat.le_refl _)];dsimp only;by_cases h:d.2 < d.1
 ·rw [if_pos h,if_neg (by omega)];constructor
  ·rintro ⟨_,_,_,_,h5⟩;exact (Dt.back (d:=(d.2,d.1)) ⟨b0,b1,h5⟩ im).2.2.2
  ·intro h5;exact ⟨b0,b1,h,a1,(Dt.back (d:=d) ⟨a0,a1,h5⟩ im).2.2.2⟩
 ·rw [if_neg h,if_pos (by omega)];constructor
  ·rintro ⟨_,_,_,_,h5⟩;exact h5
  ·intro h5;exact ⟨a0,a1,by omega,b1,h5⟩
section
variable {K:PySem.W.Frag} {σ : St} {H:Hp} {Q:VK}
theorem Cp {te:TE} {i:Nat} {p:Addr} {as:List Addr} {L:List (List Int)}
  (Vo:∀ (σ':St) (H':Hp) (b:Addr) (l:List Int) (Q':VK),σ'[0]? = some (some (.ref b))->H' b = some (.lst (l.map V.int))->(∀ c,H' c = none->Q' (.ref c) (upd H' c (.lst (l.map V.int))))->te σ' H' Q')
  (hv : σ[i]? = some (some (.ref p))) (gp:aJ H p as L) (hn:L.length<=1000)
  (q:∀ acc cs H',ah H H'->aJ H' acc cs L->(acc :: cs).Nodup->(∀ b∈acc :: cs,H b = none)->Q (.ref acc) H'):lF (qT K (gP i)) (lU 0) xS te 1 [] σ H Q:=by
 refine eY ?_;refine ⟨_,hv,p,rfl,⟨_,aw.of gp.top⟩,fun acc bK=>?_⟩;refine dw (K:=K) (a:=p) (xs:=as.map V.ref) (fun i σ' ys Hx=>∃ (bs:List Addr) (v:Option V),σ' = [v]/\ys = bs.map V.ref/\ah H Hx/\bs.length = i/\aJ Hx acc bs (L.take i)/\(acc :: bs).Nodup/\∀ b∈acc :: bs,H b = none)
  ⟨[],none,rfl,rfl,ah.upd bK,rfl,⟨ae,rfl,fun i a l z=>by simp at z⟩,by simp,by simpa using bK⟩ (fun i σ' ys Hx _ ⟨_,_,_,_,e,_⟩=>aw.of (e _ _ gp.top)) ?_ ?_
 ·rintro i x σ' ys Hx hx hi ⟨bs,v,rfl,rfl,e2,rfl,g2,uY,wo⟩;obtain ⟨b,l,ha,hl,b5⟩:=gp.at (i:=bs.length) (by rw [length_map,gp.len] at hi; exact hi);obtain rfl:x = V.ref b:=by
   rw [getElem?_map,ha] at hx;exact (Option.some.inj hx).symm
  have Fu:=hi;rw [length_map,gp.len] at Fu;refine r_gname ?_;refine Bc ?_;refine Oq (Vo _ _ b l _ rfl (e2 _ _ b5) fun c hc=>?_);have nc:=g2.fe hc;have e3:ah Hx (upd Hx c (.lst (l.map V.int))):=ah.upd hc;have c3:upd Hx c (.lst (l.map V.int)) c = some (.lst (l.map V.int)):=ae;have cH:H c = none:=e2.free hc;generalize upd Hx c (.lst (l.map V.int)) = Hy at e3 c3 ⊢;have g3:=g2.same e3;have BC:c≠acc:=fun z=>nc (z▸mem_cons_self);refine ⟨g3.top,by rw [length_map]; exact aF (by omega),fH hi ⟨bs ++ [c],_,rfl,by simp,ah.fresh (e2.trans e3) (wo _ mem_cons_self),by simp,?_,?_,fun y hy=>?_⟩⟩
  ·rw [take_snoc hl]; exact g3.snoc (List.nodup_cons.mp uY).1 BC c3
  ·obtain ⟨n1,n2⟩:=List.nodup_cons.mp uY;refine List.nodup_cons.mpr ⟨fun z=>?_,dX.mpr ⟨fun z=>nc (mem_cons_of_mem _ z),n2⟩⟩;rcases List.mem_append.mp z with z | z
   ·exact n1 z
   ·exact BC (List.mem_singleton.mp z).symm
  ·rcases List.mem_cons.mp hy with z | z
   ·rw [z]; exact wo _ mem_cons_self
   ·rcases List.mem_append.mp z with z | z
    ·exact wo y (mem_cons_of_mem _ z)
    ·rw [List.mem_singleton.mp z]; exact cH
 ·rintro σ' ys H4 ⟨cs,v,rfl,rfl,e4,Sb,g4,wc,tN⟩;rw [length_map,gp.len,take_length] at g4;exact q acc cs H4 e4 g4 wc tN
theorem sD {i:Nat} {p:Addr} {as:List Addr} {L:List (List Int)} (hv : σ[i]? = some (some (.ref p))) (gp:aJ H p as L) (hn:L.length<=1000)
  (q:∀ acc cs H',ah H H'->aJ H' acc cs L->(acc :: cs).Nodup->(∀ b∈acc :: cs,H b = none)->Q (.ref acc) H') :
  lF (qT K (gP i)) (lU 0) xS (De (sE K) (gP 0) dz dz) 1 [] σ H Q:=
 Cp (fun σ' H' b l Q' h1 h2 h3=>nK h1 (aw.of h2) h3) hv gp hn q
end
end Gm
end
section
namespace L2
open PySem
theorem Cr {K:PySem.W.Frag} {p:Addr} {ta:TE} {g:TG} {tt:TT} {te:TE} {σ : St} {H:Hp} {Q:VK} (h:∀ R:VK,R (.ref p) H->ta σ H R) (hc:lF (qT K (gP 0)) g tt te 1 [] [some (.ref p)] H Q):lF (qT K ta) g tt te 1 [] σ H Q:=by
 obtain ⟨v,hv,a,ea,hx,rest⟩:=hc;have:V.ref p = v:=by simpa using hv
 subst this;exact h _ ⟨a,ea,hx,rest⟩
theorem E8 {l:Addr} {xs:List V} {y:V} {H:Hp} {Q:VK} (h:H l = some (.lst (xs ++ [y]))) (q:Q y (upd H l (.lst xs))):Jq (.ref l) [] H Q:=⟨l,xs ++ [y],y,rfl,rfl,h,by simp,by simpa using q⟩
end L2
namespace Gm
open PySem L2
def aE (M:List Addr) (H H':Hp):Prop:=∀ b o,b∉M->H b = some o->H' b = some o
theorem aE.of {M:List Addr} {H H':Hp} (h:ah H H'):aE M H H':=fun b o _ e=>h b o e
theorem aE.trans {M:List Addr} {H H' H2:Hp} (h:aE M H H') (k:aE M H' H2):aE M H H2:=fun b o n e=>k b o n (h b o n e)
theorem aE.mono {M N:List Addr} {H H':Hp} (h:aE M H H') (k:∀ b∈M,b∈N):aE N H H':=fun b o n e=>h b o (fun z=>n (k b z)) e
theorem aE.upd {M:List Addr} {H:Hp} {a:Addr} {o:HO} (h:a∈M):aE M H (upd H a o):=fun b o n e=>by rw [ak (fun z=>n (by rw [z]; exact h))]; exact e
theorem aJ.off {M:List Addr} {H H':Hp} {p:Addr} {as:List Addr} {L:List (List Int)} (g:aJ H p as L) (h:aE M H H') (n:∀ a∈p :: as,a∉M):aJ H' p as L:=
 ⟨h _ _ (n p mem_cons_self) g.top,g.len,fun i a l h1 h2=>h _ _ (n a (mem_cons_of_mem _ (mem_of_getElem? h1))) (g.row i a l h1 h2)⟩
structure jC (C:Addr) (H:Hp) (d dx b t p:Addr) (ps qs:List Addr):Prop where
 ins:H d = some (.ins C dx [("laid",.ref p),("behind",.ref b),("taken",.ref t)])
 bh:H b = some (.lst (ps.map V.ref))
 tk:H t = some (.lst (qs.map V.ref))
 db:d≠b
 dt:d≠t
 bt:b≠t
theorem jC.same {C:Addr} {H H':Hp} {d dx b t p:Addr} {ps qs:List Addr} (k:jC C H d dx b t p ps qs) (e:ah H H'):jC C H' d dx b t p ps qs:=⟨e _ _ k.ins,e _ _ k.bh,e _ _ k.tk,k.db,k.dt,k.bt⟩
theorem jC.off {M:List Addr} {C:Addr} {H H':Hp} {d dx b t p:Addr} {ps qs:List Addr} (k:jC C H d dx b t p ps qs) (e:aE M H H') (n:∀ a∈[d,b,t],a∉M):jC C H' d dx b t p ps qs:=
 ⟨e _ _ (n d (by simp)) k.ins,e _ _ (n b (by simp)) k.bh,e _ _ (n t (by simp)) k.tk,k.db,k.dt,k.bt⟩
def cI (C:Addr) (H:Hp) (d dx b p:Addr) (ps:List Addr) (G:List (List Int)->Prop) (Q:VK):Prop:=
 ∀ t' p' mw M H',aE [d,b] H H'->H t' = none->t'∉p' :: mw->jC C H' d dx b t' p' (ps ++ [p]) []->aJ H' p' mw M->(p' :: mw).Nodup->(∀ a∈p' :: mw,H a = none)->G M->Q .bQ H'
theorem qY {H:Hp} {p:Addr} {as:List Addr} {L:List (List Int)} (g:aJ H p as L):∀ a∈p :: as,∃ o,H a = some o:=fun a ha=>by
 rcases List.mem_cons.mp ha with z | z
 ·rw [z]; exact ⟨_,g.top⟩
 ·obtain ⟨i,hi⟩:=List.mem_iff_getElem?.mp z;have il:=(List.getElem?_eq_some_iff.mp hi).1;rw [g.len] at il;exact ⟨_,g.row i a L[i] hi (by simp)⟩
theorem c7 {H:Hp} {p t:Addr} {as:List Addr} {L:List (List Int)} (g:aJ H p as L) (h:H t = none):t∉p :: as:=fun z=>by
 obtain ⟨o,e⟩:=qY g t z;rw [h] at e; cases e
theorem cI.done {C:Addr} {H H1 H2:Hp} {d dx b t p p' t':Addr} {ps qs mw:List Addr} {M:List (List Int)} {G:List (List Int)->Prop} {Q:VK} (q:cI C H d dx b p ps G Q) (k:jC C H d dx b t p ps qs) (e1:ah H H1) (g1:aJ H1 p' mw M) (nd:(p' :: mw).Nodup)
  (fr:∀ a∈p' :: mw,H a = none) (o2:aE [d,b] H1 H2) (ht:H1 t' = none) (k2:jC C H2 d dx b t' p' (ps ++ [p]) []) (hG:G M):Q .bQ H2:=
 q t' p' mw M H2 ((aE.of e1).trans o2) (e1.free ht) (c7 g1 ht) k2 (g1.off o2 fun a ha z=>by
  have f:=fr a ha;simp only [mem_cons,not_mem_nil,or_false] at z;rcases z with z | z
  ·rw [z,k.ins] at f; cases f
  ·rw [z,k.bh] at f; cases f) nd fr hG
theorem cI.later {C:Addr} {H H2:Hp} {d dx b p:Addr} {ps:List Addr} {G G':List (List Int)->Prop} {Q Q':VK} (q:cI C H d dx b p ps G Q) (e:ah H H2) (hG:∀ M,G' M->G M) (hQ:∀ H',Q .bQ H'->Q' .bQ H'):cI C H2 d dx b p ps G' Q':=
 fun t' p' mw M H' h1 h2 h3 h4 h5 h6 h7 h8=>hQ _ (q t' p' mw M H' ((aE.of e).trans h1) (e.free h2) h3 h4 h5 h6 (fun a ha=>e.free (h7 a ha)) (hG M h8))
def fJ (M:List Addr) (H:Hp) (p:Addr) (L:List (List Int)):Prop:=∃ as,aJ H p as L/\∀ a∈p :: as,a∉M
inductive F2 (P:Addr->List (List Int)->Prop):List Addr->List (List (List Int))->Prop
 | nil:F2 P [] []
 | cons {a l as ls}:P a l->F2 P as ls->F2 P (a :: as) (l :: ls)
theorem F2.imp {P Q:Addr->List (List Int)->Prop} (h:∀ a l,P a l->Q a l) {as:List Addr} {ls:List (List (List Int))} (f:F2 P as ls):F2 Q as ls:=by
 induction f with
 | nil=>exact .nil
 | cons p _ ih=>exact .cons (h _ _ p) ih
theorem F2.len {P:Addr->List (List Int)->Prop} {as:List Addr} {ls:List (List (List Int))} (f:F2 P as ls):as.length = ls.length:=by
 induction f with
 | nil=>rfl
 | cons p _ ih=>rw [length_cons,length_cons,ih]
theorem F2.at {P:Addr->List (List Int)->Prop} {as:List Addr} {ls:List (List (List Int))} (f:F2 P as ls):∀ {i:Nat} {l:List (List Int)},ls[i]? = some l->∃ a,as[i]? = some a/\P a l:=by
 induction f with
 | nil=>intro i l h; simp at h
 | @cons a l0 as ls p _ ih=>
  intro i l h;cases i with
  | zero=>
   have e:l0 = l:=by simpa using h
   subst e;exact ⟨_,rfl,p⟩
  | succ i=>exact ih (by simpa using h)
theorem F2.append {P:Addr->List (List Int)->Prop} {as bs:List Addr} {ls ms:List (List (List Int))} (f:F2 P as ls) (g:F2 P bs ms):F2 P (as ++ bs) (ls ++ ms):=by
 induction f with
 | nil=>exact g
 | cons p _ ih=>exact .cons p ih
theorem F2.take {P:Addr->List (List Int)->Prop} {as:List Addr} {ls:List (List (List Int))} (f:F2 P as ls):∀ n,F2 P (as.take n) (ls.take n):=by
 induction f with
 | nil=>intro n; simp; exact .nil
 | cons p _ ih=>
  intro n;cases n with
  | zero=>exact .nil
  | succ n=>exact .cons p (ih n)
theorem F2.snoc_inv {P:Addr->List (List Int)->Prop}:∀ {as:List Addr} {ls:List (List (List Int))} {l:List (List Int)},F2 P as (ls ++ [l])->∃ bs b,as = bs ++ [b]/\F2 P bs ls/\P b l
 | as,[],l,f=>by
  cases f with
  | cons p q=>cases q; exact ⟨[],_,rfl,.nil,p⟩
 | as,m :: ls,l,f=>by
  cases f with
  | cons p q=>
   obtain ⟨bs,b,e,h1,h2⟩:=F2.snoc_inv q;exact ⟨_ :: bs,b,by rw [e]; rfl,.cons p h1,h2⟩
structure mz (C:Addr) (H:Hp) (M:List Addr) (d b t k:Addr) (Ls:List (List (List Int))) (i:Nat):Prop where
 ex:∃ dx p ps qs g gs L,jC C H d dx b t p ps qs/\H k = some (.lst [.int (i:Int),.ref g])/\H g = some (.lst (gs.map V.ref))/\g∉M/\Ls[i]? = some L/\fJ M H p L/\F2 (fJ M H) gs Ls/\F2 (fJ M H) ps (Ls.take i)/\F2 (fJ M H) qs (Ls.drop (i + 1)).reverse
 mem:∀ a∈[d,b,t,k],a∈M
 al:∀ a∈M,∃ o,H a = some o
 kd:k≠d
 kb:k≠b
 kt:k≠t
theorem fJ.keep {M M' W:List Addr} {H H':Hp} {p:Addr} {L:List (List Int)} (o:fJ M H p L) (s:aE W H H') (w:∀ a∈W,a∈M) (m:∀ a∈M',a∈M\/H a = none):fJ M' H' p L:=by
 obtain ⟨as,g,n⟩:=o;refine ⟨as,g.off s fun a ha z=>n a ha (w a z),fun a ha z=>?_⟩;rcases m a z with y | y
 ·exact n a ha y
 ·obtain ⟨o,e⟩:=qY g a ha;rw [y] at e; cases e
theorem mz.keep {C:Addr} {M M' W:List Addr} {H H':Hp} {d b t k:Addr} {Ls:List (List (List Int))} {i:Nat} (x:mz C H M d b t k Ls i) (s:aE W H H') (w:∀ a∈W,a∈M) (m:∀ a∈M',a∈M\/H a = none) (mm:∀ a∈M,a∈M') (nw:∀ a∈[d,b,t,k],a∉W) (al:∀ a∈M',∃ o,H' a = some o):mz C H' M' d b t k Ls i:=by
 obtain ⟨dx,p,ps,qs,g,gs,L,h1,h2,h3,h4,h5,h6,h7,h8,h9⟩:=x.ex;have ok:∀ p L,fJ M H p L->fJ M' H' p L:=fun p L o=>o.keep s w m;refine ⟨⟨dx,p,ps,qs,g,gs,L,h1.off s fun a ha=>nw a ?_,s _ _ (nw k (by simp)) h2,s _ _ (fun z=>h4 (w g z)) h3,fun z=>?_,h5,ok _ _ h6,h7.imp ok,h8.imp ok,h9.imp ok⟩,fun a ha=>mm a (x.mem a ha),al,x.kd,x.kb,x.kt⟩
 ·simp only [mem_cons,not_mem_nil,or_false] at ha ⊢;rcases ha with z | z | z
  ·exact .inl z
  ·exact .inr (.inl z)
  ·exact .inr (.inr (.inl z))
 ·rcases m g z with y | y
  ·exact h4 y
  ·rw [h3] at y; cases y
end Gm
end
section
namespace L2
open PySem PySem.Spec PySem.W PySem.Calls PyProof.Rows
section
variable {X:Cx}
def NQ (K:Frag):List V->Hp->VK->Prop:=fun vs H Q=>∃ (a:Addr) (bs:List Bool),vs = [.ref a]/\aw K H a (bs.map V.bl)/\Q (.bl (bs.all id)) H
theorem rL:∀ {bs:List Bool} {aO:List Value},Vals (bs.map V.bl) aO->aO = bs.map Value.bool
 | [],_,h=>by cases h; rfl
 | b :: bs,_,h=>by
  cases h with
  | @cons _ u _ us ru rv=>
   cases ru
   rw [rL rv]
   rfl
theorem all_range (bs:List Bool):((List.range bs.length).all fun i=>bs.getD i false) = bs.all id:=by
 induction bs with
 | nil=>rfl
 | cons b bs ih=>
  rw [length_cons,range_succ_eq_map,all_cons,all_map,all_cons]
  congr 1
theorem Ct (hc:X.calm = true):fL X (.builtin "all") (NQ X.K):=by
 intro pins s σ H xs us Q I r h;obtain ⟨a,bs,rfl,ha,q⟩:=h;obtain ⟨u,rfl,ru⟩:=vals1 r;cases ru
 obtain ⟨aO,rv,pl,hz⟩:=I.list ha;obtain rfl:=rL rv;have ll:a < s.heap.objs.size:=by obtain ⟨_,e,_⟩:=pl.isList; exact Heap.lt_size e
 refine call_all_walk (wpAny_pyIter_list pl.isList ?_);refine ⟨s.heap.objs.size,_,_,_,_,_,fun i=>bs.getD i false,rfl,Walks.list (A:=X.A.in1) (I.ok.hd hc) s.heap.objs.size a (Nat.ne_of_lt ll) (bs.map Value.bool).toArray,⟨⟨_,Heap.get?_push_size _ rfl,rfl,rfl⟩,pl.isList.at fun o e=>Heap.get?_push_of_some _ e⟩,fun i v s' Q' E' hv hq=>?_,fun h' tk hk=>?_⟩
 ·have GZ:(bs.map Value.bool)[i]? = some v:=by simpa using hv
  rw [getElem?_map] at GZ;cases e:bs[i]? with
  | none=>rw [e] at GZ; cases GZ
  | some b=>
   rw [e] at GZ;cases GZ
   have:bs.getD i false = b:=by rw [getD_eq_getElem?_getD,e]; rfl
   have Mp:Q' b s':=by rw [<- this]; exact hq
   exact wpAny_truthy_bool Mp
 ·have ez:(bs.map Value.bool).toArray.size = bs.length:=by simp
  rw [ez,all_range];exact ⟨.bl (bs.all id),H,I.kept (t':=tk) fun b o e=>hk b o (fun z=>by
   have:b = s.heap.objs.size:=by simpa using z
   exact absurd (Heap.lt_size e) (by rw [this]; exact Nat.lt_irrefl _)) (Heap.get?_push_of_some _ e),rfl,q⟩
end
section
variable {K:Frag} {σ : St} {H:Hp} {Q:VK}
theorem Cq {R:Hp->Prop} {acc a b:Addr} {xs ys:List V} {n:Nat} {g:TG} {tt:TT} {te:TE} (hn:n = min xs.length ys.length) (Pv:Nat->St->List V->Hp->Prop) (h0:Pv 0 σ [] H) (hl:∀ i σ zs H,i<=n->Pv i σ zs H->aw K H a xs/\aw K H b ys)
  (hs:∀ i x y p σ zs H,xs[i]? = some x->ys[i]? = some y->i < n->Pv i σ zs H->H p = none->g (.ref p) σ (upd H p (.tup [x,y])) fun σ2 H4=>tt σ2 H4 fun b H5=>if b = true then te σ2 H5 fun y H6=>H6 acc = some (.lst zs)/\zs.length < sizeLine/\∃ m',m' < n - i/\(m' = n - (i + 1)/\i + 1<=n/\Pv (i + 1) σ2 (zs ++ [y]) (upd H6 acc (.lst (zs ++ [y])))) else ∃ m',m' < n - i/\(m' = n - (i + 1)/\i + 1<=n/\Pv (i + 1) σ2 zs H5))
  (hd:∀ σ zs H,Pv n σ zs H->R H) :
  ∃ W:Nat->Nat->St->List V->Hp->Prop,(∃ m,W 0 m σ [] H)/\∀ i m σ' zs H2,W i m σ' zs H2->(((FJ K a b).stop i H2/\R H2)\/((FJ K a b).go i H2/\∀ x H3,(FJ K a b).Av i H2 x H3->g x σ' H3 fun σ2 H4=>tt σ2 H4 fun b H5=>
   if b = true then te σ2 H5 fun y H6=>H6 acc = some (.lst zs)/\zs.length < sizeLine/\∃ m',m' < m/\W (i + 1) m' σ2 (zs ++ [y]) (upd H6 acc (.lst (zs ++ [y]))) else ∃ m',m' < m/\W (i + 1) m' σ2 zs H5)):=by
 refine ⟨fun i m σ zs H=>m = n - i/\i<=n/\Pv i σ zs H,⟨n,by simp,Nat.zero_le _,h0⟩,?_⟩;rintro i m σ zs H ⟨rfl,hi,p⟩;obtain ⟨qa,qb⟩:=hl i σ zs H hi p;by_cases ef:i < n
 ·have h1:i < xs.length:=by omega
  have h2:i < ys.length:=by omega
  refine .inr ⟨⟨xs,ys,xs[i],ys[i],qa,qb,by simp [h1],by simp [h2]⟩,fun x H' y=>?_⟩;obtain ⟨r,u,v,hr,rfl,hu,hv,rfl⟩:=y;exact hs i u v r σ zs H (hu xs qa) (hv ys qb) ef p hr
 ·have e:i = n:=by omega
  exact .inl ⟨⟨xs,ys,qa,qb,by omega⟩,hd σ zs H (e▸p)⟩
end
end L2
end
section
namespace Gm
open PySem L2
def kN (ks:List (aq×Int)):List (List Key×V):=ks.map fun p=>(eL p.1,V.int p.2)
theorem GS (ks:List (aq×Int)):(kN ks).length = ks.length:=by unfold kN; simp
theorem qo:∀ {ks:List (aq×Int)} {d:aq},d∉ks.map (·.1)->fV (kN ks) (eL d) = none
 | [],_,_=>rfl
 | p :: ks,d,h=>by
  unfold kN;rw [map_cons,fU (fun y=>h (by rw [<- oC y]; exact mem_cons_self))];exact qo (ks:=ks) fun z=>h (mem_cons_of_mem _ z)
theorem qm:∀ {ks:List (aq×Int)} {d:aq} {n:Int},(ks.map (·.1)).Nodup->(d,n)∈ks->fV (kN ks) (eL d) = some (.int n)
 | [],_,_,_,h=>by cases h
 | p :: ks,d,n,hn,h=>by
  unfold kN;rw [map_cons];obtain ⟨h1,h2⟩:=List.nodup_cons.mp hn;by_cases e:p.1 = d
  ·rw [gU (congrArg eL e)];rcases List.mem_cons.mp h with z | z
   ·rw [<- z]
   ·exact absurd (show p.1∈ks.map (·.1) by rw [e]; exact List.mem_map.mpr ⟨_,z,rfl⟩) h1
  ·rw [fU (fun y=>e (oC y))];rcases List.mem_cons.mp h with z | z
   ·exact absurd (by rw [<- z]) e
   ·exact qm (ks:=ks) h2 z
theorem Jw {ks:List (aq×Int)} {d:aq} {n:Int} (h:d∉ks.map (·.1)):putK (kN ks) (eL d) (.int n) = kN (ks ++ [(d,n)]):=by
 rw [uK _ (qo h)];unfold kN;rw [map_append]
 rfl
def lk (s:List Int->Nat) (R:List (List Int)):Nat->List (aq×Int)
 | 0=>[]
 | k + 1=>lk s R k ++ (sh (s (R.getD k [])) (R.getD k [])).map fun d=>(d,(k:Int))
theorem mO {s:List Int->Nat} {R:List (List Int)}:∀ {k:Nat},k<=R.length->(lk s R k).map (·.1) = (R.take k).flatMap fun r=>sh (s r) r
 | 0,_=>rfl
 | k + 1,h=>by
  have e:R.take (k + 1) = R.take k ++ [R.getD k []]:=by
   rw [take_succ,getD_eq_getElem?_getD,getElem?_eq_getElem (by omega)]
   rfl
  rw [lk,map_append,mO (by omega),map_map,e,flatMap_append,flatMap_singleton]
  congr 1
  exact map_id _
theorem BJ {s:List Int->Nat} {R:List (List Int)}:∀ {k i:Nat} {r:List Int} {d:aq},i < k->R[i]? = some r->d∈sh (s r) r->(d,(i:Int))∈lk s R k
 | 0,_,_,_,h,_,_=>by omega
 | k + 1,i,r,d,h,hr,hd=>by
  rw [lk,mem_append];by_cases e:i = k
  ·subst e;have er:R.getD i [] = r:=by rw [getD_eq_getElem?_getD,hr]; rfl
   rw [er];exact .inr (List.mem_map.mpr ⟨d,hd,rfl⟩)
  ·exact .inl (BJ (by omega) hr hd)
theorem oV {s:List Int->Nat}:∀ (R:List (List Int)),(R.flatMap fun r=>sh (s r) r).Perm (R.flatMap (sh 0))
 | []=>.nil
 | r :: R=>by
  rw [flatMap_cons,flatMap_cons];exact (fz r _).append (oV R)
def lo (R:List (List Int)) (d:aq):Int:=(R.findIdx fun r=>decide (d∈sh 0 r):Nat)
theorem yx {R:List (List Int)} (h:(R.flatMap (sh 0)).Nodup) {i:Nat} {r:List Int} {d:aq} (hr:R[i]? = some r) (hd:d∈sh 0 r):lo R d = i:=by
 induction R generalizing i with
 | nil=>simp at hr
 | cons q R ih=>
  rw [flatMap_cons,nodup_append] at h;obtain ⟨h1,h2,h3⟩:=h;unfold lo;rw [findIdx_cons];cases i with
  | zero=>
   have e:q = r:=by simpa using hr
   subst e;rw [decide_eq_true hd]
   rfl
  | succ i=>
   have BW:R[i]? = some r:=by simpa using hr
   have nq:d∉sh 0 q:=fun z=>h3 d z d (List.mem_flatMap.mpr ⟨r,mem_of_getElem? BW,hd⟩) rfl;rw [decide_eq_false nq];have:=ih h2 BW;unfold lo at this;show ((R.findIdx (fun r=>decide (d∈sh 0 r)) + 1:Nat):Int) = _;omega
theorem GL {s:List Int->Nat} {L R:List (List Int)} (ld:bj L R) {d:aq} (hd:Dt L d):fV (kN (lk s R R.length)) (eL d) = some (.int (lo R d)):=by
 obtain ⟨r,hr,hm⟩:=List.mem_flatMap.mp (ld.all d hd);obtain ⟨i,hi⟩:=List.mem_iff_getElem?.mp hr;rw [yx ld.nd hi hm];refine qm ?_ (BJ (List.getElem?_eq_some_iff.mp hi).1 hi ((fz r _).mem_iff.mpr hm));rw [mO (Nat.le_refl _),take_length];exact (oV R).nodup_iff.mpr ld.nd
theorem vd {L R:List (List Int)} (ld:bj L R) {d:aq} (hd:Dt L d):0<=lo R d/\lo R d < R.length:=by
 obtain ⟨r,hr,hm⟩:=List.mem_flatMap.mp (ld.all d hd);obtain ⟨i,hi⟩:=List.mem_iff_getElem?.mp hr;rw [yx ld.nd hi hm];have:=(List.getElem?_eq_some_iff.mp hi).1;omega
def gn (R:List (List Int)) (s:Nat) (r:List Int):List Int:=(sh s r).map fun d=>lo R (d.2,d.1)
theorem fE (R:List (List Int)) (s:Nat) (r:List Int):(gn R s r).length = r.length:=by unfold gn; rw [length_map,bR]
theorem sI {R:List (List Int)} {s:Nat} {r:List Int} {j:Nat} (h:j < r.length):(gn R s r)[j]? = some (lo R ((dj r (j + s)).2,(dj r (j + s)).1)):=by
 unfold gn;rw [getElem?_map,qC h]
 rfl
theorem Br {R:List (List Int)} {s:Nat} {r:List Int} (h0:0 < r.length) (j:Nat):cy (gn R s r) j = lo R ((dj r (j + s)).2,(dj r (j + s)).1):=by
 have hm:j % r.length < r.length:=Nat.mod_lt _ h0;have e1:cy (gn R s r) j = cy (gn R s r) (j % r.length):=iL (by rw [fE,Nat.mod_mod]);have hl:j % r.length < (gn R s r).length:=by rw [fE]; exact hm
 rw [e1,gO hl];have e2:=sI (R:=R) (s:=s) hm;rw [getElem?_eq_getElem hl] at e2;rw [Option.some.inj e2];have e3:dj r (j % r.length + s) = dj r (j + s):=ft (by rw [Nat.mod_add_mod]);rw [e3]
def mC (D:List (List Int)):Prop:=∀ (k:Nat) (l:List Int),D[k]? = some l->(k:Int)∉l/\l.Nodup
theorem yZ {L:List (List Int)} (im:av L) {d:aq} (h:Dt L d):Dt L (d.2,d.1):=by
 have:=h.back im;exact ⟨this.1,this.2.1,this.2.2.2⟩
theorem kY {L R:List (List Int)} (ld:bj L R):(R.flatMap (sh 0)).length<=(ck L L.length).length:=
 dJ ld.nd fun x hx=>by
  obtain ⟨r,hr,hd⟩:=List.mem_flatMap.mp hx;have g:=ld.good r hr;obtain ⟨j,rfl⟩:=(df (by have:=g.two; omega)).mp hd;exact (g.dt j).all
theorem A8 {L R:List (List Int)} (ld:bj L R) {r:List Int} (hr:r∈R):r.length<=(ck L L.length).length:=by
 have h1:=kY ld;have h2:(sh 0 r).length<=(R.flatMap (sh 0)).length:=by
  clear h1 ld
  induction R with
  | nil=>cases hr
  | cons q R ih=>
   rw [flatMap_cons,length_append];rcases List.mem_cons.mp hr with z | z
   ·rw [z]; omega
   ·have:=ih z; omega
 rw [bR] at h2;omega
end Gm
namespace L2
end L2
namespace Gm
open PySem L2
theorem zL {L R:List (List Int)} (ld:bj L R):2 * R.length<=(ck L L.length).length:=by
 refine Nat.le_trans ?_ (kY ld);have h:∀ S:List (List Int),(∀ r∈S,2<=r.length)->2 * S.length<=(S.flatMap (sh 0)).length:=by
  intro S
  induction S with
  | nil=>intro _; simp
  | cons q S ih=>
   intro hs;rw [flatMap_cons,length_append,bR,length_cons];have h1:=hs q mem_cons_self;have h2:=ih fun r hr=>hs r (mem_cons_of_mem _ hr);omega
 exact h R fun r hr=>(ld.good r hr).two
end Gm
namespace Gm
theorem qZ {α β : Type} (f : α->List β) (R:List α) (i:Nat):((R.take i).flatMap f).Sublist (R.flatMap f):=by
 have e:R.flatMap f = (R.take i).flatMap f ++ (R.drop i).flatMap f:=by rw [<- flatMap_append,take_append_drop]
 rw [e];exact sublist_append_left _ _
end Gm
namespace L2
open PySem
theorem yr {X:Cx} {K:PySem.W.Frag} (hK:X.K = K) {pos:Pos} {es:List Expr} {k:Nat} {t:CZ} {n:Nat} (hc:X.calm = true) (h:LA X es t)
  (hn:(assignEach es X.env).length = n:=by rfl) (BR:(assignEach es X.env).findIdx? (·.1) = none:=by rfl):PG X (.Tuple es k pos) (Hk K n t):=by
 subst hK;exact kL hc h hn BR
end L2
namespace L2
theorem Gj {σ : St} {H:Hp} {Q:VK} {td ty:TE} (h:td σ H fun x H1=>ty σ H1 fun y H2=>∃ a v,x = .ref a/\iR H2 a y (some v)/\Q v H2):E2 td ty σ H Q:=h
end L2
end
section
namespace Gm
open PySem L2
inductive C0 (L:List (List Int)) (S:List Int) (s:Int):Int->Prop where
 | here:C0 L S s s
 | step {i:Nat} {l:List Int} {x:Int}:C0 L S s i->L[i]? = some l->x∈l->x∉S->C0 L S s x
structure Yt (L:List (List Int)) (S:List Int) (s:Int) (ks ws:List Int):Prop where
 nd:ks.Nodup
 nw:ws.Nodup
 st:s∈ks
 re:∀ x∈ks,C0 L S s x
 sub:∀ x∈ws,x∈ks
 cl:∀ (i:Nat) (l:List Int),(i:Int)∈ks->(i:Int)∉ws->L[i]? = some l->∀ x∈l,x∉S->x∈ks
structure Yu (L:List (List Int)) (S:List Int) (s:Int) (ks ws:List Int) (pl:Nat) (l:List Int) (k:Nat):Prop where
 nd:ks.Nodup
 nw:ws.Nodup
 st:s∈ks
 re:∀ x∈ks,C0 L S s x
 sub:∀ x∈ws,x∈ks
 pk:(pl:Int)∈ks
 cl:∀ (i:Nat) (m:List Int),(i:Int)∈ks->(i:Int)∉ws->i≠pl->L[i]? = some m->∀ x∈m,x∉S->x∈ks
 tk:∀ x∈l.take k,x∉S->x∈ks
def LJ (L:List (List Int)) (S fs:List Int):Prop:=∀ (i:Nat) (l:List Int),L[i]? = some l->(i:Int)∉S->(∃ x,x∈l/\x∈fs)->(i:Int)∈fs
structure Yc (L:List (List Int)) (S:List Int) (s:Int) (fs:List Int) (k:Nat):Prop where
 nd:fs.Nodup
 st:s∈fs
 re:∀ x∈fs,C0 L S s x
 gr:LJ L S fs\/k + 1<=fs.length
structure Yb (L:List (List Int)) (S:List Int) (s:Int) (tM fs:List Int) (j:Nat):Prop where
 nd:fs.Nodup
 st:s∈fs
 re:∀ x∈fs,C0 L S s x
 kp:LJ L S tM->fs = tM
 gr:tM.length < fs.length\/(fs = tM/\∀ (i:Nat) (l:List Int),i < j->L[i]? = some l->(i:Int)∉S->(∃ x,x∈l/\x∈fs)->(i:Int)∈fs)
def uj (n:Nat):List Int:=(List.range n).map fun i:Nat=>(i:Int)
def left (n:Nat) (S:List Int):List Int:=(uj n).filter fun x=>!decide (x∈S)
open Classical in
noncomputable def rn (L:List (List Int)) (S:List Int) (s:Int):Nat:=((uj L.length).filter fun x=>decide (C0 L S s x)).length
noncomputable def Xq (L:List (List Int)) (S:List Int):Bool:=match left L.length S with | []=>false | s :: r=>decide (rn L S s < (s :: r).length)
def twos (n one:Nat):List (List Int):=(List.range (n - (one + 1))).map fun j:Nat=>[(one:Int),(one:Int) + 1 + (j:Int)]
def FZ (n:Nat):Nat->List (List Int)
 | 0=>[] :: (uj n).map fun i=>[i]
 | k + 1=>FZ n k ++ twos n k
structure X9 (L:List (List Int)):Prop where
 map:av L
 yU:∃ R S,Dec L R/\eJ L S/\2 * (L.length + R.length + iso L) = (ck L L.length).length + 4 * S.length
def lp (v:Int) (p:List Int) (j:Nat):Int:=if j = 0 then v else p.getD (j - 1) v
def On (v:Int) (p:List Int) (d:aq):Prop:=∃ j,j<=p.length/\(d = (lp v p j,lp v p (j + 1))\/d = (lp v p (j + 1),lp v p j))
end Gm
end
section
namespace PySem
namespace F
end F
end PySem
namespace L2
open PySem PySem.Spec PySem.W PySem.Calls PyProof.Rows
section
variable {X:Cx} {e st:Expr} {te QA:TE} {p2 pos:Pos}
def Ti (K:Frag) (te QA:TE):TE:=fun σ H Q=>te σ H fun x H1=>QA σ H1 fun y H2=>y = .int (-1)/\∃ a xs,x = .ref a/\aw K H2 a xs/\∀ p,H2 p = none->Q (.ref p) (upd H2 p (.lst xs.reverse))
end
section
variable {X:Cx} {l:Expr} {tl:TE} {p p2 pos DI:Pos}
def IK (K:Frag) (tl:TE):TE:=fun σ H Q=>tl σ H fun x H1=>∃ a xs,x = .ref a/\aw K H1 a xs/\∀ p,H1 p = none->Q (.ref p) (upd H1 p (.lst xs.reverse))
end
end L2
end
section
namespace Gm
open PySem L2
def sw (d:aq):aq:=(d.2,d.1)
def XB (L:List (List Int)):List (List Int):=L.map List.reverse
theorem GW {l:List Int} {k:Nat} (n:l.Nodup) (hk:k < l.length):l.idxOf l[k] = k:=by
 have ix:=idxOf_lt_length_of_mem (getElem_mem hk);exact (getElem_inj n).mp (getElem_idxOf ix)
def LK (r s:List Int):Prop:=∃ c,c < r.length/\s = bU r.reverse c/\zd s
abbrev SV:List (List Int)->List (List Int)->Prop:=Paired LK
structure Lay (A B:List (List Int)) (f:Int->Int):Prop where
 len:A.length = B.length
 rg:∀ i:Int,0<=i->i < A.length->0<=f i/\f i < B.length
 row:∀ i:Int,0<=i->i < A.length->bA ((rowOf A i).map f) (rowOf B (f i))
theorem bA.symm {a b:List Int} (h:bA a b):bA b a:=by
 rcases h with rfl | ⟨c,hc,rfl⟩
 ·exact .inl rfl
 ·by_cases c0:c = 0
  ·subst c0;refine .inl ?_;unfold bU;simp
  ·refine .inr ⟨b.length - c,by rw [cK (by omega)]; omega,?_⟩;rw [mF hc (by omega),show b.length - c + c = b.length by omega,Nat.mod_self];unfold bU;simp
def nm (ks:List (Int×Int)) (p:Int):Int:=(ks.lookup p).getD 0
structure FH (A B:List (List Int)) (first x0 second:Int) (f:Int->Int):Prop where
 lay:Lay A B f
 e0:f 0 = first
 e1:f x0 = second
abbrev Wait:=Int×Int×Int
structure Nf (A B:List (List Int)) (first x0 second:Int) (ks:List (Int×Int)) (ws:List Wait):Prop where
 nd:(ks.map (·.1)).Nodup
 rg:∀ p∈ks,(0<=p.1/\p.1 < A.length)/\0<=p.2/\p.2 < B.length
 st:(0,first)∈ks
 wn:(ws.map (·.1)).Nodup
 wk:∀ w∈ws,∃ v,(w.1,v)∈ks/\w.2.1∈rowOf A w.1/\w.2.2∈rowOf B v
 cl:∀ p v,(p,v)∈ks->p∉ws.map (·.1)->(∀ y∈rowOf A p,∃ u,(y,u)∈ks)/\bA ((rowOf A p).map (nm ks)) (rowOf B v)
 un:∀ f,FH A B first x0 second f->(∀ p∈ks,f p.1 = p.2)/\∀ w∈ws,f w.2.1 = w.2.2
 Ol:(0,x0,second)∈ws\/(x0,second)∈ks
structure Ni (A B:List (List Int)) (first x0 second:Int) (ks:List (Int×Int)) (ws:List Wait) (p v:Int) (od gl:List Int) (k:Nat):Prop where
 nd:(ks.map (·.1)).Nodup
 rg:∀ p∈ks,(0<=p.1/\p.1 < A.length)/\0<=p.2/\p.2 < B.length
 st:(0,first)∈ks
 wn:(ws.map (·.1)).Nodup
 pn:p∉ws.map (·.1)
 pk:(p,v)∈ks
 wk:∀ w∈ws,∃ v,(w.1,v)∈ks/\w.2.1∈rowOf A w.1/\w.2.2∈rowOf B v
 cl:∀ q u,(q,u)∈ks->q∉ws.map (·.1)->q≠p->(∀ y∈rowOf A q,∃ u,(y,u)∈ks)/\bA ((rowOf A q).map (nm ks)) (rowOf B u)
 un:∀ f,FH A B first x0 second f->(∀ p∈ks,f p.1 = p.2)/\∀ w∈ws,f w.2.1 = w.2.2
 tk:∀ (t:Nat) (y u:Int),t < k->od[t]? = some y->gl[t]? = some u->(y,u)∈ks
 Ol:(0,x0,second)∈ws\/(x0,second)∈ks\/(od[0]? = some x0/\gl[0]? = some second)
def kI (ks:List (Int×Int)):List (Key×V):=ks.map fun p=>((Sum.inl p.1:Key),V.int p.2)
abbrev WR (H:Hp):List Addr->List Wait->Prop:=Paired fun a w=>H a = some (.tup [.int w.1,.int w.2.1,.int w.2.2])
end Gm
end
section
namespace L2
open PySem PySem.Spec PySem.W PySem.Calls PyProof.Rows Gm
section
variable {X:Cx} {l:Expr} {tl:TE} {p p2 pos DI:Pos}
def IJ (tl:TE):TE:=fun σ H Q=>tl σ H fun x H1=>∃ n:Nat,x = .int (n:Int)/\n<=1000/\∀ p,H1 p = none->Q (.ref p) (upd H1 p (.lst ((uj n).map V.int)))
end
section
variable {σ : St} {H:Hp} {Q:VK} {K:Frag}
theorem yd {r:V->Option Int->Option Int->Hp->VK->Prop} {te:TE} {tl th:TO} (h:te σ H fun x H1=>tl σ H1 fun l H2=>th σ H2 fun u H3=>r x l u H3 Q):De r te tl th σ H Q:=h
theorem tO {xs:List Int} {k:Nat} {y:Int} (h:xs[k]? = some y):(y :: xs.eraseIdx k).Perm xs:=by
 obtain ⟨hl,e⟩:=List.getElem?_eq_some_iff.mp h;rw [eraseIdx_eq_take_drop_succ];refine List.perm_middle.symm.trans ?_;rw [<- e,<- drop_eq_getElem_cons hl,take_append_drop]
end
def WU (d:Addr) (o:Obj) (aS:List (Key×V)):It:=
 ⟨fun i H=>H d = some (.oT o (.dK aS))/\i < aS.length,fun i H x H'=>H' = H/\∃ k v,aS[i]? = some (k,v)/\x = kV k,fun i H=>H d = some (.oT o (.dK aS))/\aS.length<=i⟩
section
variable {X:Cx} {tg:Expr}
def RN (tl:TE):TI:=fun σ H R=>tl σ H fun x H1=>∃ a aS,x = .ref a/\H1 a = some (.dK aS)/\∀ o,R (WU a o aS) (upd H1 a (.oT o (.dK aS)))
def NL:List V->Hp->VK->Prop:=fun xs H Q=>∃ a aS,xs = [V.ref a]/\H a = some (.dK aS)/\∀ p,H p = none->Q (.ref p) (upd H p (.lst (aS.map fun kv=>kV kv.1)))
def WO (K:Frag) (a:Addr) (xs:List V):It:=
 ⟨fun i H=>aw K H a xs/\i < xs.length,fun i H x H'=>H' = H/\xs.reverse[i]? = some x,fun i H=>xs.length<=i⟩
def Ve (K:Frag) (tl:TE):TI:=fun σ H R=>tl σ H fun x H1=>∃ a xs,x = .ref a/\aw K H1 a xs/\R (WO K a xs) H1
end
end L2
end
section
namespace Gm
open PySem L2
def UW (n:Nat) (l:List Int):List (List Int):=((uj n).filter fun x=>!decide (x∈l)).map fun x=>l ++ [x]
def P0 (n:Nat):Nat->List (List Int)
 | 0=>[[]]
 | k + 1=>(P0 n k).flatMap (UW n)
def Me (l:List Int) (i:Int):Int:=l.getD i.toNat 0
structure Yf (n:Nat) (l:List Int):Prop where
 len:l.length = n
 nd:l.Nodup
 rg:∀ x∈l,0<=x/\x < n
structure X7 (A:List (List Int)) (l:List Int) (R:List (List Int)):Prop where
 len:R.length = A.length
 row:∀ j:Int,0<=j->j < A.length->R[(Me l j).toNat]? = some ((rowOf A j).map (Me l))
theorem zv {L:List (List Int)} {i:Nat} {l:List Int} (h:L[i]? = some l):rowOf L (i:Int) = l:=by
 unfold rowOf;rw [Int.toNat_natCast,getD_eq_getElem?_getD,h]
 rfl
def Aq (L:List (List Int)):Prop:=∀ x:Int,0<=x->x < L.length->Reach L 0 x
theorem Reach.sym {L:List (List Int)} {s x:Int} (h:Reach L s x) (m:av L) (hs:0<=s/\s < L.length):Reach L x s:=by
 induction h with
 | here=>exact .here
 | @step i l x r e hx ih=>
  have d:=Reach.oY e hx;have b:=d.back m;exact (Reach.one (d:=(x,(i:Int))) .here ⟨b.1,b.2.1,b.2.2.2⟩).trans ih
theorem Aq.of {L:List (List Int)} (m:av L) {s:Int} (s0:0<=s) (s1:s < L.length) (h:∀ x:Int,0<=x->x < L.length->Reach L s x):Aq L:=fun x x0 x1=>
 ((h 0 (Int.le_refl 0) (by omega)).sym m ⟨s0,s1⟩).trans (h x x0 x1)
def DR (n:Nat) (k:Nat):List Int:=[(k:Int) - 1,(k:Int) + 1].filter fun x=>decide (0<=x) && decide (x < n)
def path (n:Nat):List (List Int):=(List.range n).map (DR n)
theorem Gb {a b:TS} {D:Ends} {σ : St} {H:Hp} (Pv:St->Hp->Prop) (hb:∀ σ' H',Pv σ' H'->b D σ' H') (ha:∀ T:St->Hp->Prop,(∀ σ' H',Pv σ' H'->T σ' H')->a { D with nx:=T } σ H):FT a b D σ H:=ha _ hb
theorem Dz {K:PySem.W.Frag} {t:TE} {σ : St} {H:Hp} {R:It->Hp->Prop} (h:t σ H fun x H1=>∃ a,x = .ref a/\(∃ xs,aw K H1 a xs)/\R (EM K a) H1):qT K t σ H R:=h
def Wq (A B:List (List Int)):PyData:=.list [cP A,cP B]
end Gm
end
section
namespace L2
open PySem PySem.Spec PySem.W PySem.Calls PyProof.Rows HT
def Ue (K:Frag):R2:=fun x y H Q=>∃ (a b:Addr) (ns ms:List Int),x = .ref a/\y = .ref b/\aw K H a (ns.map V.int)/\aw K H b (ms.map V.int)/\Q (.bl (lexLt ms ns)) H
end L2
end
section
namespace Gm
open PySem L2
def X6 (L:List (List Int)):Prop:=∀ d,Dt L d->∃ c,d∈c/\rQ (nx L) c/\(c.map (·.1)).Nodup
def seg (r:List Int) (s m:Nat):List aq:=(List.range m).map fun t=>dj r (s + t)
theorem rQ.keep {f g:aq->aq} {c:List aq} (h:rQ f c) (e:∀ d∈c,g d = f d):rQ g c:=by
 obtain ⟨x,l,rfl,k⟩:=h;exact ⟨x,l,rfl,k.congr e⟩
section
variable {L N:List (List Int)} {r:List Int}
def W8 (r:List Int) (n c1 cj:Nat) (d:aq):Prop:=(∃ i,cj<=i/\i < c1 + r.length/\d = dj r i)\/d = (cy r c1,(n:Int))\/d = ((n:Int),cy r cj)
def Ya (L:List (List Int)) (r:List Int) (c1 cj:Nat) (M:List (List Int)):Prop:=∀ d,Dt M d->W8 r L.length c1 cj d\/∃ c,d∈c/\rQ (nx M) c/\(c.map (·.1)).Nodup
end
def tetra:List (List Int):=[[1,3,2],[2,3,0],[0,3,1],[2,0,1]]
theorem tetra_dts:ck tetra 4 = [(0,1),(0,3),(0,2),(1,2),(1,3),(1,0),(2,0),(2,3),(2,1),(3,2),(3,0),(3,1)]:=rfl
theorem tetra_map:av tetra:=by
 refine fY fun x x0 x1=>?_;have x1:x < 4:=x1;have:x = 0\/x = 1\/x = 2\/x = 3:=by omega
 rcases this with rfl | rfl | rfl | rfl
 ·refine ⟨by decide,fun y hy=>?_⟩;have hy:y∈([1,3,2]:List Int):=hy;simp at hy;rcases hy with rfl | rfl | rfl <;> decide
 ·refine ⟨by decide,fun y hy=>?_⟩;have hy:y∈([2,3,0]:List Int):=hy;simp at hy;rcases hy with rfl | rfl | rfl <;> decide
 ·refine ⟨by decide,fun y hy=>?_⟩;have hy:y∈([0,3,1]:List Int):=hy;simp at hy;rcases hy with rfl | rfl | rfl <;> decide
 ·refine ⟨by decide,fun y hy=>?_⟩;have hy:y∈([2,0,1]:List Int):=hy;simp at hy;rcases hy with rfl | rfl | rfl <;> decide
def tetraR:List (List aq):=[[(0,1),(1,3),(3,0)],[(0,3),(3,2),(2,0)],[(0,2),(2,1),(1,0)],[(1,2),(2,3),(3,1)]]
theorem tetra_cyc:∀ c∈tetraR,rQ (nx tetra) c/\(c.map (·.1)).Nodup:=fun c hc=>by
 unfold tetraR at hc;simp only [mem_cons,not_mem_nil,or_false] at hc;rcases hc with rfl | rfl | rfl | rfl
 ·exact ⟨⟨(0,1),_,rfl,.cons (.cons (.cons (.nil _)))⟩,by decide⟩
 ·exact ⟨⟨(0,3),_,rfl,.cons (.cons (.cons (.nil _)))⟩,by decide⟩
 ·exact ⟨⟨(0,2),_,rfl,.cons (.cons (.cons (.nil _)))⟩,by decide⟩
 ·exact ⟨⟨(1,2),_,rfl,.cons (.cons (.cons (.nil _)))⟩,by decide⟩
theorem tetra_mem (d:aq):d∈tetraR.flatten↔Dt tetra d:=by
 have e:d∈ck tetra 4↔Dt tetra d:=⟨fun h=>Dt.of h,fun h=>h.all⟩;rw [<- e,tetra_dts];have:tetraR.flatten.Perm [(0,1),(0,3),(0,2),(1,2),(1,3),(1,0),(2,0),(2,3),(2,1),(3,2),(3,0),(3,1)]:=by decide
 exact this.mem_iff
theorem tetra_sheet:bY tetra:=by
 refine ⟨tetra_map,by decide,fun x x0 x1=>?_,tetraR,⟨fun c hc=>(tetra_cyc c hc).1,by decide,tetra_mem⟩,by decide⟩;have x1:x < 4:=x1;have ms:∀ y:Int,(0,y)∈ck tetra 4->Reach tetra 0 y:=fun y hy=>Reach.one (d:=(0,y)) .here (Dt.of hy);have:x = 0\/x = 1\/x = 2\/x = 3:=by omega
 rcases this with rfl | rfl | rfl | rfl
 ·exact ⟨0,by simp,.here⟩
 ·exact ⟨0,by simp,ms 1 (by rw [tetra_dts]; decide)⟩
 ·exact ⟨0,by simp,ms 2 (by rw [tetra_dts]; decide)⟩
 ·exact ⟨0,by simp,ms 3 (by rw [tetra_dts]; decide)⟩
def kF (ks:List Int) (f:Int->Int):List (Key×V):=ks.map fun x=>((Sum.inl x:Key),V.int (f x))
def V5 (f:Int->Int) (x h:Int):Int->Int:=fun y=>if y = x then h else f y
structure Yl (L:List (List Int)) (ks:List Int) (f:Int->Int):Prop where
 nd:ks.Nodup
 rg:∀ x∈ks,0<=x/\x < L.length
 hu:∀ x∈ks,0<=f x/\f x < 5
 ap:∀ x∈ks,∀ y∈rowOf L x,y∈ks->f y≠f x
def near (L:List (List Int)) (ks:List Int) (v:Int):List Int:=(rowOf L v).filter fun z=>decide (z∈ks)
def Su (ts:List Int):List Int:=(uj 5).filter fun h=>!decide (h∈ts)
section
variable {L:List (List Int)} {ks:List Int} {f:Int->Int} {v:Int}
theorem uE (m:av L) {x y:Int} (x0:0<=x) (x1:x < L.length) (h:y∈rowOf L x):0<=y/\y < L.length/\y≠x/\x∈rowOf L y:=Dt.back (d:=(x,y)) ⟨x0,x1,h⟩ m
structure WI (L:List (List Int)) (ks:List Int) (f:Int->Int) (a b:Int) (S:List Int):Prop where
 sh:∀ x,x∈S↔(0<=x/\x < L.length)/\¬ (x∈ks/\(f x = a\/f x = b))
def IV (L:List (List Int)) (ks:List Int) (f:Int->Int) (a b:Int):List Int:=(uj L.length).filter fun x=>!decide (x∈ks/\(f x = a\/f x = b))
def Ys (L:List (List Int)) (ks:List Int) (f:Int->Int) (one other x:Int):Prop:=C0 L (IV L ks f (f one) (f other)) one x
def Qz (f:Int->Int) (a b:Int) (G:List Int):Int->Int:=fun y=>if y∈G then a + b - f y else f y
end
structure Off (L:List (List Int)) (os:List Int):Prop where
 nd:os.Nodup
 rg:∀ x∈os,0<=x/\x < L.length
 Ac:∀ (i:Nat) (x:Int),os[i]? = some x->((rowOf L x).filter fun z=>!decide (z∈os.take i)).length<=5
def WC:List (List Int):=[[1,2,3,4,5],[0,5,10,6,2],[0,1,6,7,3],[0,2,7,8,4],[0,3,8,9,5],[0,4,9,10,1],[1,10,11,7,2],[2,6,11,8,3],[3,7,11,9,4],[4,8,11,10,5],[5,9,11,6,1],[10,9,8,7,6]]
def SI:List (List aq):=[[(0,1),(1,2),(2,0)],[(0,2),(2,3),(3,0)],[(0,3),(3,4),(4,0)],[(0,4),(4,5),(5,0)],[(0,5),(5,1),(1,0)],[(1,5),(5,10),(10,1)],[(1,10),(10,6),(6,1)],[(1,6),(6,2),(2,1)],[(2,6),(6,7),(7,2)],[(2,7),(7,3),(3,2)],[(3,7),(7,8),(8,3)],[(3,8),(8,4),(4,3)],[(4,8),(8,9),(9,4)],[(4,9),(9,5),(5,4)],[(5,9),(9,10),(10,5)],[(6,10),(10,11),(11,6)],[(6,11),(11,7),(7,6)],[(7,11),(11,8),(8,7)],[(8,11),(11,9),(9,8)],[(9,11),(11,10),(10,9)]]
section
variable {A R:List (List Int)} {l:List Int}
def Xt (l:List Int) (d:aq):aq:=(Me l d.1,Me l d.2)
end
end Gm
end
section
namespace L2
open PySem PySem.Spec PySem.W PySem.Calls PyProof.Rows Gm Fr
end L2
namespace Gm
open PySem L2
section
variable {L:List (List Int)} {r:List Int}
structure X8 (L:List (List Int)) (r:List Int) (cs:List Nat) (M:List (List Int)):Prop where
 lH:bY M
 len:M.length = L.length + 1
 new:rowOf M (L.length:Int) = cs.map (cy r)
 sub:∀ d,Dt L d->Dt M d
 keep:∀ x:Int,0<=x->x < L.length->(∀ c∈cs,cy r c≠x)->rowOf M x = rowOf L x
 CK:∀ d,Dt L d->(∀ c∈cs,d≠dj r (c + (r.length - 1)))->nx M d = nx L d
end
def X5 (L:List (List Int)):Prop:=∀ a b x y:Int,0<=x->x < L.length->0<=y->y < L.length->x≠a->x≠b->y≠a->y≠b->C0 L [a,b] x y
theorem rC {r:List Int} {x:Int} (h:x∈r):∃ i,i < r.length/\cy r i = x:=by
 obtain ⟨i,hi,e⟩:=List.mem_iff_getElem.mp h;exact ⟨i,hi,by rw [gO hi]; exact e⟩
theorem GX {l:List Int} (n:l.Nodup) (h0:0 < l.length) (m:Nat):l.idxOf (cy l m) = m % l.length:=by
 have hm:=Nat.mod_lt m h0;unfold cy;rw [getD_eq_getElem?_getD,getElem?_eq_getElem hm,Option.getD_some];exact GW n hm
theorem kJ {l:List Int} (n:l.Nodup) (h0:0 < l.length) (m:Nat):pre l (cy l (m + 1)) = cy l m:=by
 unfold pre;rw [GX n h0];refine iL ?_;rw [show (m + 1) % l.length + l.length - 1 = (m + 1) % l.length + (l.length - 1) by omega,Nat.mod_add_mod,show m + 1 + (l.length - 1) = m + l.length by omega,Nat.add_mod_right]
theorem Ck {l:List Int} (f:Int->Int) (h0:0 < l.length) (m:Nat):cy (l.map f) m = f (cy l m):=by
 have hm:=Nat.mod_lt m h0;unfold cy;rw [length_map,getD_eq_getElem?_getD,getD_eq_getElem?_getD,getElem?_map,getElem?_eq_getElem hm]
 rfl
abbrev Du (R:List (List Int)):List (List Int):=R.map (gn R 0)
def dl (R:List (List Int)) (d:aq):aq:=(lo R d,lo R (d.2,d.1))
section
variable {L R:List (List Int)}
theorem j7 (ld:bj L R) {d:aq} (hd:Dt L d):∃ (i:Nat) (r:List Int) (j:Nat),R[i]? = some r/\j < r.length/\d = dj r j/\lo R d = i:=by
 obtain ⟨r,hr,hm⟩:=List.mem_flatMap.mp (ld.all d hd);obtain ⟨i,hi⟩:=List.mem_iff_getElem?.mp hr;obtain ⟨k,hk,e⟩:=List.mem_iff_getElem.mp hm;rw [bR] at hk;have:=qC (s:=0) hk;rw [getElem?_eq_getElem (by rw [bR]; exact hk),e] at this;exact ⟨i,r,k,hi,hk,Option.some.inj this,yx ld.nd hi hm⟩
theorem qQ (ld:bj L R) {i:Nat} {r:List Int} (hr:R[i]? = some r) (j:Nat):lo R (dj r j) = i:=by
 have g:=ld.good r (mem_of_getElem? hr);exact yx ld.nd hr ((df (by have:=g.two; omega)).mpr ⟨j,rfl⟩)
theorem BI (ld:bj L R) {d:aq} (hd:Dt L d):lo R (nx L d) = lo R d:=by
 obtain ⟨i,r,j,hr,hj,rfl,e⟩:=j7 ld hd;rw [(ld.good r (mem_of_getElem? hr)).st,qQ ld hr,e]
theorem tP {i:Nat} {r:List Int} (hr:R[i]? = some r):rowOf (Du R) (i:Int) = gn R 0 r:=zv (by rw [getElem?_map,hr]; rfl)
theorem gE:(Du R).length = R.length:=length_map _
theorem wQ {r:List Int} {x:Int} (g:Good L r):x∈gn R 0 r↔∃ j,x = lo R ((dj r j).2,(dj r j).1):=by
 unfold gn;rw [mem_map];constructor
 ·rintro ⟨d,hd,rfl⟩;obtain ⟨j,rfl⟩:=(df (by have:=g.two; omega)).mp hd;exact ⟨j,rfl⟩
 ·rintro ⟨j,rfl⟩;exact ⟨dj r j,(df (by have:=g.two; omega)).mpr ⟨j,rfl⟩,rfl⟩
theorem rz (ld:bj L R) (im:av L) {d:aq} (hd:Dt L d):Dt (Du R) (dl R d):=by
 obtain ⟨i,r,j,hr,hj,rfl,e⟩:=j7 ld hd;have rg:=vd ld hd;refine ⟨rg.1,by rw [gE]; exact rg.2,?_⟩;show lo R _∈rowOf (Du R) (lo R (dj r j));rw [e,tP hr];exact (wQ (ld.good r (mem_of_getElem? hr))).mpr ⟨j,rfl⟩
theorem FA (ld:bj L R) {e:aq} (he:Dt (Du R) e):∃ d,Dt L d/\dl R d = e:=by
 have h1:=he.hi;rw [gE] at h1;have h0:=he.lo;obtain ⟨i,hi⟩:=Int.eq_ofNat_of_zero_le h0;have il:i < R.length:=by omega
 have hr:R[i]? = some R[i]:=getElem?_eq_getElem il;have hm:=he.mem;rw [hi] at hm;have Ic:e.2∈gn R 0 R[i]:=by rw [<- tP hr]; exact hm
 have g:=ld.good R[i] (getElem_mem il);obtain ⟨j,ej⟩:=(wQ g).mp Ic;exact ⟨dj R[i] j,g.dt j,Prod.ext ((qQ ld hr j).trans hi.symm) ej.symm⟩
theorem Ci (ld:bj L R) (gS:mC (Du R)) {d e:aq} (hd:Dt L d) (he:Dt L e) (q:dl R d = dl R e):d = e:=by
 obtain ⟨i,r,j,hr,hj,rfl,e1⟩:=j7 ld hd;obtain ⟨i',r',j',BW,R6,rfl,e2⟩:=j7 ld he;have q1:lo R (dj r j) = lo R (dj r' j'):=congrArg Prod.fst q;have q2:lo R ((dj r j).2,(dj r j).1) = lo R ((dj r' j').2,(dj r' j').1):=congrArg Prod.snd q;rw [e1,e2] at q1;have ii:i = i':=by omega
 subst ii;rw [hr] at BW;cases BW
 have nd:=(gS i _ (by rw [getElem?_map,hr]; rfl)).2;have a1:=sI (R:=R) (s:=0) hj;have a2:=sI (R:=R) (s:=0) R6;rw [Nat.add_zero] at a1 a2;rw [q2,<- a2] at a1;have l1:j < (gn R 0 r).length:=by rw [fE]; exact hj
 have l2:j' < (gn R 0 r).length:=by rw [fE]; exact R6
 rw [getElem?_eq_getElem l1,getElem?_eq_getElem l2] at a1;have:=(getElem_inj nd).mp (Option.some.inj a1);rw [this]
theorem tQ (ld:bj L R) (im:av L) (gS:mC (Du R)):av (Du R):=by
 refine fY fun x x0 x1=>?_;obtain ⟨i,rfl⟩:=Int.eq_ofNat_of_zero_le x0;have il:i < R.length:=by rw [gE] at x1; omega
 have hr:R[i]? = some R[i]:=getElem?_eq_getElem il;obtain ⟨f1,f2⟩:=gS i (gn R 0 R[i]) (by rw [getElem?_map,hr]; rfl);rw [tP hr];refine ⟨f2,fun y hy=>?_⟩;have g:=ld.good R[i] (getElem_mem il);obtain ⟨j,ej⟩:=(wQ g).mp hy;have bk:=yZ im (g.dt j);have rg:=vd ld bk;rw [<- ej] at rg;refine ⟨rg.1,by rw [gE]; exact rg.2,fun z=>f1 (z▸hy),?_⟩;have:=(rz ld im bk).mem;show (i:Int)∈rowOf (Du R) y;rw [ej,<- qQ ld hr j];exact this
theorem K9 (ld:bj L R) (im:av L) (gS:mC (Du R)) {e:aq} (he:Dt L e):nx (Du R) (dl R ((nx L e).2,(nx L e).1)) = dl R e:=by
 obtain ⟨i,r,j,hr,hj,rfl,e1⟩:=j7 ld he;have g:=ld.good r (mem_of_getElem? hr);have r0:0 < r.length:=by have:=g.two; omega
 rw [g.st];have s:∀ d:aq,dl R (d.2,d.1) = (lo R (d.2,d.1),lo R d):=fun d=>rfl;rw [s];unfold nx;dsimp only;rw [qQ ld hr,tP hr];have nd:=(gS i _ (by rw [getElem?_map,hr]; rfl)).2;have c1:=Br (R:=R) (s:=0) r0 (j + 1);rw [Nat.add_zero] at c1;rw [<- c1,kJ nd (by rw [fE]; exact r0),Br r0,Nat.add_zero];unfold dl;rw [qQ ld hr]
def rd (L R:List (List Int)) (b:Int):List Int:=(rowOf L b).map fun x=>lo R (x,b)
theorem yc (ld:bj L R) (im:av L) {b:Int} (b0:0<=b) (b1:b < L.length) (h0:0 < (rowOf L b).length) (m:Nat):dj (rd L R b) m = dl R (cy (rowOf L b) m,b):=by
 have nd:=im.nd _ _ (ay b0 b1);have mem:=oZ (j:=m + 1) h0;have bk:=uE im b0 b1 mem;have dt:Dt L (cy (rowOf L b) (m + 1),b):=⟨bk.1,bk.2.1,bk.2.2.2⟩;have e1:nx L (cy (rowOf L b) (m + 1),b) = (b,cy (rowOf L b) m):=Prod.ext rfl (kJ nd h0 m);have e2:=BI ld dt;rw [e1] at e2;unfold dj rd dl;rw [Ck _ h0,Ck _ h0,<- e2]
theorem Dx (ld:bj L R) (im:av L) (gS:mC (Du R)) {b:Int} (b0:0<=b) (b1:b < L.length) (h2:2<=(rowOf L b).length):Good (Du R) (rd L R b):=by
 have h0:0 < (rowOf L b).length:=by omega
 have nd:=im.nd _ _ (ay b0 b1);have dt:∀ m,Dt L (cy (rowOf L b) m,b):=fun m=>by
  have bk:=uE im b0 b1 (oZ (j:=m) h0);exact ⟨bk.1,bk.2.1,bk.2.2.2⟩
 refine ⟨by unfold rd; rw [length_map]; exact h2,fun m=>by rw [yc ld im b0 b1 h0]; exact rz ld im (dt m),fun m=>?_⟩;rw [yc ld im b0 b1 h0,yc ld im b0 b1 h0];have e1:nx L (cy (rowOf L b) (m + 1),b) = (b,cy (rowOf L b) m):=Prod.ext rfl (kJ nd h0 m);have:=K9 ld im gS (dt (m + 1));rw [e1] at this;exact this
end
section
variable {L R S:List (List Int)}
structure vY (L R:List (List Int)):Prop where
 im:av L
 ld:bj L R
 gS:mC (Du R)
 two:∀ x:Int,0<=x->x < L.length->2<=(rowOf L x).length
theorem vY.dt (D:vY L R) {b:Int} (b0:0<=b) (b1:b < L.length) (m:Nat):Dt L (cy (rowOf L b) m,b):=by
 have h0:0 < (rowOf L b).length:=by have:=D.two b b0 b1; omega
 obtain ⟨x0,x1,_,x3⟩:=Dt.back (d:=(b,cy (rowOf L b) m)) ⟨b0,b1,oZ h0⟩ D.im;exact ⟨x0,x1,x3⟩
structure W4 (L R S:List (List Int)):Prop where
 im:av L
 ld:bj L R
 gS:mC (Du R)
 ls:bj (Du R) S
 two:∀ x:Int,0<=x->x < L.length->2<=(rowOf L x).length
def io (L R S:List (List Int)) (b:Int):Int:=lo S (dl R (cy (rowOf L b) 0,b))
end
section
variable {L R S:List (List Int)}
theorem vY.ck (D:vY L R):(Gm.ck (Du R) (Du R).length).length = (Gm.ck L L.length).length:=by
 have dm:=tQ D.ld D.im D.gS;have:=len_eq (l:=(Gm.ck L L.length).map (dl R)) (r:=Gm.ck (Du R) (Du R).length) (List.pairwise_map.mpr ((bS D.im (Nat.le_refl _)).imp_of_mem fun {a b} ha hb ne q=>ne (Ci D.ld D.gS (Dt.of ha) (Dt.of hb) q))) (bS dm (Nat.le_refl _)) fun e=>by
  constructor
  ·intro h;obtain ⟨d,hd,rfl⟩:=List.mem_map.mp h;exact (rz D.ld D.im (Dt.of hd)).all
  ·intro h;obtain ⟨d,hd,rfl⟩:=FA D.ld (Dt.of h);exact List.mem_map.mpr ⟨d,hd.all,rfl⟩
 rw [length_map] at this;exact this.symm
theorem vY.iso (D:vY L R):Gm.iso (Du R) = 0:=by
 unfold Gm.iso;refine List.countP_eq_zero.mpr fun l hl=>?_;obtain ⟨r,hr,rfl⟩:=List.mem_map.mp hl;have g:=(D.ld.good r hr).two;have hl:=fE R 0 r;intro z;have z:gn R 0 r = []:=by simpa using z
 rw [z] at hl;simp at hl;omega
theorem vY.ke (D:vY L R) (hL:Aq L) (h0:0 < L.length):Aq (Du R):=by
 have dm:=tQ D.ld D.im D.gS
 -- from any land at a place all lands at all places are Wt to
 have step:∀ {d:aq},Dt L d->Reach (Du R) (lo R d) (lo R (d.2,d.1)):=fun {d} hd=>Reach.one (d:=dl R d) .here (rz D.ld D.im hd);have round:∀ {b:Int},0<=b->b < L.length->∀ m,Reach (Du R) (lo R (cy (rowOf L b) 0,b)) (lo R (cy (rowOf L b) m,b)):=fun {b} b0 b1 m=>by
  induction m with
  | zero=>exact .here
  | succ m ih=>
   have h0:0 < (rowOf L b).length:=by have:=D.two b b0 b1; omega
   have e1:nx L (cy (rowOf L b) (m + 1),b) = (b,cy (rowOf L b) m):=Prod.ext rfl (kJ (D.im.nd _ _ (ay b0 b1)) h0 m);have e2:=BI D.ld (D.dt b0 b1 (m + 1));rw [e1] at e2;rw [<- e2];exact ih.trans (step (D.dt b0 b1 m))
 have at_:∀ {b x:Int},0<=b->b < L.length->x∈rowOf L b->Reach (Du R) (lo R (cy (rowOf L b) 0,b)) (lo R (x,b)):=fun {b x} b0 b1 hx=>by
  obtain ⟨i,hi,e⟩:=rC hx;have:=round b0 b1 i;rw [e] at this;exact this
 have s0:(0:Int) < L.length:=by omega
 have all:∀ b:Int,Reach L 0 b->Reach (Du R) (lo R (cy (rowOf L 0) 0,0)) (lo R (cy (rowOf L b) 0,b)):=fun b rb=>by
  induction rb with
  | here=>exact .here
  | @step i l x r e hx ih=>
   have d:=Reach.oY e hx;have bk:=d.back D.im;have hm:x∈rowOf L (i:Int):=d.mem
   -- to Aw way from x to i,P6,and round x
   have r1:=ih.trans (at_ d.lo d.hi hm);have r2:=r1.trans (step (d:=(x,(i:Int))) ⟨bk.1,bk.2.1,bk.2.2.2⟩);have r3:=at_ bk.1 bk.2.1 bk.2.2.2;exact r2.trans (r3.sym dm (by have:=vd D.ld (D.dt bk.1 bk.2.1 0); rw [gE]; exact this))
 refine Aq.of dm (s:=lo R (cy (rowOf L 0) 0,0)) (vd D.ld (D.dt (by omega) s0 0)).1 (by rw [gE]; exact (vd D.ld (D.dt (by omega) s0 0)).2) fun x x0 x1=>?_;rw [gE] at x1;obtain ⟨k,rfl⟩:=Int.eq_ofNat_of_zero_le x0;have hq:R[k]? = some R[k]:=getElem?_eq_getElem (by omega);have g:=D.ld.good R[k] (getElem_mem (by omega));have dt:=g.dt 0;obtain ⟨c0,c1,_,c3⟩:=dt.back D.im;have:=(all (dj R[k] 0).2 (hL _ c0 c1)).trans (at_ c0 c1 c3);rw [show ((dj R[k] 0).1,(dj R[k] 0).2) = dj R[k] 0 from rfl,qQ D.ld hq] at this;exact this
def X4 (R:List (List Int)) (b:Int):List Int:=(uj R.length).filter fun z=>decide (b∈rowOf R z)
end
end Gm
end
section
namespace Gm
theorem bA.pre {l m:List Int} (h:bA l m) (n:m.Nodup) {y:Int} (hy:y∈m):pre l y = pre m y:=by
 rcases h with rfl | ⟨c,hc,rfl⟩
 ·rfl
 ·have n2:(bU m c).Nodup:=(bA.perm (.inr ⟨c,hc,rfl⟩)).nodup_iff.mpr n;have h0:0 < m.length:=by omega
  have l2:(bU m c).length = m.length:=(bA.perm (.inr ⟨c,hc,rfl⟩)).length_eq;have Mm:y∈bU m c:=(bA.perm (.inr ⟨c,hc,rfl⟩)).mem_iff.mpr hy;obtain ⟨i,hi,e⟩:=rC Mm;have e2:cy (bU m c) (i + (m.length - 1) + 1) = y:=by
   rw [<- e];exact iL (by rw [l2,show i + (m.length - 1) + 1 = i + m.length by omega,Nat.add_mod_right])
  rw [<- e2,kJ n2 (by omega),gG hc,gG hc,show i + (m.length - 1) + 1 + c = (i + (m.length - 1) + c) + 1 by omega,kJ n h0]
section
variable {L M:List (List Int)}
theorem aT.SE (h:aT L M) {d:aq} (k:Dt L d):Dt M d:=⟨k.lo,by rw [<- h.1]; exact k.hi,(h.mem k.lo k.hi).mp k.mem⟩
theorem aT.nx (h:aT L M) (m:av M) {d:aq} (k:Dt M d):nx L d = Gm.nx M d:=by
 obtain ⟨b0,b1,_,bm⟩:=k.back m;unfold Gm.nx;rw [(h.row b0 (by rw [h.1]; exact b1)).pre (m.nd _ _ (ay b0 b1)) bm]
theorem aT.dec (h:aT L M) (m:av M) {R:List (List aq)} (D:Dec M R):Dec L R:=
 ⟨fun c hc=>(D.jB c hc).keep fun d hd=>h.nx m ((D.mem d).mp (List.mem_flatten.mpr ⟨c,hc,hd⟩)),D.nd,fun d=>(D.mem d).trans ⟨fun k=>h.dt k,fun k=>h.SE k⟩⟩
theorem aT.iso (h:aT L M):iso L = Gm.iso M:=by
 obtain ⟨hl,h⟩:=h;unfold Gm.iso
 induction L generalizing M with
 | nil=>cases M with
  | nil=>rfl
  | cons _ _=>simp at hl
 | cons l L ih=>cases M with
  | nil=>simp at hl
  | cons m M=>
   rw [countP_cons,countP_cons,ih (by simpa using hl) fun i l m h1 h2=>h (i + 1) l m (by simpa using h1) (by simpa using h2)];have:=(h 0 l m rfl rfl).len;have e:l.isEmpty = m.isEmpty:=by
    cases l <;> cases m <;> simp at this ⊢
   rw [e]
end
end Gm
end
section
namespace L2
open PySem PySem.Spec PySem.W PySem.Calls PyProof.Rows Gm
section
variable {X:Cx}
def rJoin (K:Frag):V->List V->Hp->VK->Prop:=fun x vs H Q=>∃ (sep:Str) (a:Addr) (ts:List Str),x = .str sep/\vs = [.ref a]/\aw K H a (ts.map V.str)/\JoinOk sep ts = true/\Q (.str (Str.join sep ts)) H
def NJ:V->List V->Hp->VK->Prop:=fun x vs H Q=>∃ (z y:Str),x = .str z/\vs = [.str y]/\(y.length == 0) = false/\z.length<=1000000/\(Builtin.Str.partsBetween z (Builtin.Str.occurrences z y 0 z.length (z.length + 1)) y.length).length<=sizeLine/\
 ∀ p,H p = none->Q (.ref p) (upd H p (.lst ((Txt.split z y).map V.str)))
def Tp (te:TE) (y:Str):TE:=fun σ H Q=>te σ H fun x H1=>∃ n:Int,x = .int n/\n.natAbs.log2 < 1920/\((toString n:String):Str).length + y.length<=1000000/\Q (.str (((toString n:String):Str) ++ y)) H1
end
def WS (x:Str):It:=⟨fun i _=>i < x.cps.size,fun i H v H'=>H' = H/\∃ c,x.cps[i]? = some c/\v = .str ⟨#[c]⟩,fun i _=>x.cps.size<=i⟩
section
variable {X:Cx} {tg:Expr}
def Vd (tl:TE):TI:=fun σ H R=>tl σ H fun x H1=>∃ z:Str,x = .str z/\z.cps.all (· < 128) = true/\R (WS z) H1
end
end L2
end
section
namespace Gm
open PySem L2
def jl (s:List Nat):List (List Nat)->List Nat
 | []=>[]
 | [a]=>a
 | a :: b :: r=>a ++ s ++ jl s (b :: r)
abbrev num (n:Int):Str:=((toString n:String):Str)
structure Num (x:Str):Prop where
 l1:1<=x.length
 l2:x.length<=2
 dg:∀ c∈x.cps.toList,48<=c/\c<=57
 hd:x = ((("0" : String)):Str)\/∃ c,x.cps[0]? = some c/\c≠48
abbrev Tx:Str:=((" " : String):Str)
abbrev Tw:Str:=((":" : String):Str)
abbrev Tz:Str:=(("\n" : String):Str)
abbrev t0:Str:=(("" : String):Str)
def Nx (k:Int) (l:List Int):Str:=Str.join Tx ((num k ++ Tw) :: l.map num)
def I8 (L:List (List Int)):List Str:=L.mapIdx fun i l=>Nx ((i:Nat):Int) l
def UT (L:List (List Int)):Str:=Str.join Tz (I8 L)
def W3 (l:List Int):Prop:=l.length<=14/\∀ x∈l,0<=x/\x < 14
structure Sm (L:List (List Int)):Prop where
 len:L.length<=14
 Ac:∀ l∈L,W3 l
def mn (l:List Int):Int:=l.min?.getD 0
def lb (l:List Int):List Int:=bU l (l.idxOf (mn l))
end Gm
end
section
namespace L2
open PySem PySem.Spec PySem.W PySem.Calls PyProof.Rows Gm
theorem Hw:bootBuiltins "all" = some (.builtin "all"):=by decide +kernel
theorem Cn {x:V} {xs:List V}:iM (x :: xs) (some (1:Int)) none = xs:=by
 unfold iM HT.ky;dsimp only;rw [if_neg (by omega),show min ((1:Int).toNat) (x :: xs).length = 1 by rw [length_cons]; show min 1 _ = 1; omega,take_of_length_le (by rw [length_drop]; omega)]
 rfl
section
variable {K:Frag} {σ : St} {H:Hp} {Q:VK}
theorem F9 {a:Addr} {i:Nat} {x:V} {xs:List V} (h1 : σ[i]? = some (some (.ref a))) (hs:aw K H a (x :: xs)) (q:∀ p,H p = none->Q (.ref p) (upd H p (.lst xs))):De (sE K) (gP i) (m9 (tC (.int 1))) dz σ H Q:=
 ⟨_,h1,⟨_,rfl,⟨a,_,rfl,hs,fun p hp=>by rw [Cn]; exact q p hp⟩⟩⟩
end
def X3 (A:List (List Int)) (l:List Int):PyData:=.list [cP A,bO l]
end L2
end
section
namespace Gm
open PySem L2
theorem vC:∀ {R:List (List aq)} {c:List aq},(∀ c∈R,2<=c.length)->c∈R->c.length + 2 * R.length<=R.flatten.length + 2
 | [],_,_,h=>by cases h
 | e :: R,c,h,hc=>by
  have t:∀ {R:List (List aq)},(∀ c∈R,2<=c.length)->2 * R.length<=R.flatten.length:=fun {R}=>by
   induction R with
   | nil=>intro _; exact Nat.le_refl _
   | cons a R ih=>
    intro h;have:=ih fun x hx=>h x (mem_cons_of_mem _ hx);have:=h a mem_cons_self;rw [flatten_cons,length_append,length_cons];omega
  rw [flatten_cons,length_append,length_cons];have hR:∀ x∈R,2<=x.length:=fun x hx=>h x (mem_cons_of_mem _ hx);rcases List.mem_cons.mp hc with rfl | hc
  ·have:=t hR;omega
  ·have:=vC hR hc;have:=h e mem_cons_self;omega
theorem bj.two {L R:List (List Int)} (h:bj L R):∀ c∈R.map (sh 0),2<=c.length:=fun c hc=>by
 obtain ⟨r,hr,rfl⟩:=List.mem_map.mp hc;rw [bR];exact (h.good r hr).two
def uN (L:List (List Int)) (r:List Int) (c:Nat):List Int:=put (rowOf L (cy r c)) ((rowOf L (cy r c)).idxOf (cy r (c + (r.length - 1)))) L.length
def nO (L:List (List Int)) (r:List Int) (cs:List Nat):List (List Int):=cs.foldl (fun M c=>M.set (cy r c).toNat (uN L r c)) L
def l8 (L:List (List Int)) (r:List Int) (cs:List Nat):List (List Int):=nO L r cs ++ [cs.map (cy r)]
def xJ (r:List Int) (cs:List Nat):Prop:=cs≠[]/\cs.Pairwise (· < ·)/\(cs.map (cy r)).Nodup
section
variable {L:List (List Int)} {r:List Int}
theorem nN (cs:List Nat) (c:Nat):nO L r (cs ++ [c]) = (nO L r cs).set (cy r c).toNat (uN L r c):=by
 unfold nO;rw [foldl_append]
 rfl
theorem qL:∀ (cs:List Nat) {M:List (List Int)},(cs.foldl (fun M c=>M.set (cy r c).toNat (uN L r c)) M).length = M.length
 | [],_=>rfl
 | c :: cs,M=>by rw [foldl_cons,qL cs,length_set]
theorem cT (cs:List Nat):(nO L r cs).length = L.length:=qL cs
theorem uO (cs:List Nat):(l8 L r cs).length = L.length + 1:=by unfold l8; rw [length_append,cT]; rfl
theorem jx (im:av L) (gd:Good L r) (c:Nat):0<=cy r c/\cy r c < L.length/\L[(cy r c).toNat]? = some (rowOf L (cy r c))/\cy r (c + (r.length - 1))∈rowOf L (cy r c)/\(rowOf L (cy r c)).length<=L.length:=by
 obtain ⟨zm,x0,x1,ed⟩:=bT gd im (c:=c);have hl:=ay x0 x1;exact ⟨x0,x1,hl,zm,bz (im.nd _ _ hl) fun y hy=>⟨(im.rg _ _ hl y hy).1,(im.rg _ _ hl y hy).2.1⟩⟩
theorem aJ.Hv {H:Hp} {t acc j:Addr} {bs:List Addr} {M:List (List Int)} {l:List Int} (g:aJ H acc bs M) (ht:H t = some (.lst (bs.map V.ref ++ [V.ref j]))) (hj:H j = some (.lst (l.map V.int))):aJ H t (bs ++ [j]) (M ++ [l]):=by
 refine ⟨by rw [ht,map_append]; rfl,by rw [length_append,length_append,g.len]; rfl,fun i a m ha hm=>?_⟩;rw [getElem?_append] at ha hm;by_cases hi:i < bs.length
 ·rw [if_pos hi] at ha;rw [if_pos (by rw [<- g.len]; exact hi)] at hm;exact g.row i a m ha hm
 ·rw [if_neg hi] at ha;rw [if_neg (by rw [<- g.len]; exact hi)] at hm;have h1:=List.mem_singleton.mp (mem_of_getElem? ha);have h2:=List.mem_singleton.mp (mem_of_getElem? hm);rw [h1,h2];exact hj
end
section
variable {L M:List (List Int)}
theorem aT.yM (h:aT L M) (m:av M):(cO L L.length).length = (cO M M.length).length:=by
 have mL:=h.fj m;have e1:=bp mL;have e2:=bp m;have e3:(ck L L.length).length = (ck M M.length).length:=by
  refine Nat.le_antisymm (dJ (bS mL (Nat.le_refl _)) fun d hd=>?_) (dJ (bS m (Nat.le_refl _)) fun d hd=>?_)
  ·obtain ⟨h0,h1,h2⟩:=iU.mp hd;exact (h.SE ⟨h0,h1,h2⟩).all
  ·obtain ⟨h0,h1,h2⟩:=iU.mp hd;exact (h.dt ⟨h0,h1,h2⟩).all
 omega
theorem aT.sn {S:List Int} (h:aT L M) (s:Sn S M):Sn S L:=by
 have mL:=h.fj s.map;refine ⟨mL,fun x x0 x1=>?_,?_⟩
 ·obtain ⟨k,hk,r⟩:=s.span x x0 (by rw [<- h.1]; exact x1);exact ⟨k,hk,r.mono fun d k=>h.dt k⟩
 ·obtain ⟨R,D,e⟩:=s.yU;refine ⟨R,h.dec s.map D,?_⟩;rw [h.yM s.map,h.1,h.iso,e]
end
section
variable {L:List (List Int)} {r:List Int} {i j:Nat} {S:List Int}
theorem FQ (s:Sn S L) (g:Good L r) (iV:cy r i≠cy r j) (zU:cy r j∉rowOf L (cy r i)) :
  Sn S (both L (cy r i) (cy r j) (put (rowOf L (cy r i)) ((rowOf L (cy r i)).idxOf (cy r (i + (r.length - 1)))) (cy r j)) (put (rowOf L (cy r j)) ((rowOf L (cy r j)).idxOf (cy r (j + (r.length - 1)))) (cy r i)))/\
  (cO (both L (cy r i) (cy r j) (put (rowOf L (cy r i)) ((rowOf L (cy r i)).idxOf (cy r (i + (r.length - 1)))) (cy r j)) (put (rowOf L (cy r j)) ((rowOf L (cy r j)).idxOf (cy r (j + (r.length - 1)))) (cy r i))) L.length).length = (cO L L.length).length + 1:=by
 obtain ⟨C6,a0,a1,MK⟩:=bT g s.map (c:=i);obtain ⟨C5,b0,b1,MJ⟩:=bT g s.map (c:=j);have F:bu L (cy r i) (cy r j) (put (rowOf L (cy r i)) ((rowOf L (cy r i)).idxOf (cy r (i + (r.length - 1)))) (cy r j)) (put (rowOf L (cy r j)) ((rowOf L (cy r j)).idxOf (cy r (j + (r.length - 1)))) (cy r i)):=by
  have G7:cy r i∉rowOf L (cy r j):=fun z=>zU (Dt.back (d:=(cy r j,cy r i)) ⟨b0,b1,z⟩ s.map).2.2.2;exact ⟨s.map,a0,a1,b0,b1,iV,zU,dD _ _ _,dD _ _ _,dr zU,dr G7⟩
 exact ⟨F.sn s C6 C5 (fB C6 zU) (fB C5 F.DW) (fun Pd h0 hs=>by
  rw [<- MK] at h0;rw [<- MJ];exact g.on hs h0 _),F.yM⟩
end
section
variable {L:List (List Int)} {r:List Int} {S:List Int}
theorem Gv (im:av L) (g:Good L r) (c:Nat):both (c5 L) (cy r c) (L.length:Int) (uN L r c) [cy r c] = l8 L r [c]:=by
 obtain ⟨x0,x1,_⟩:=jx im g c;unfold both c5 l8 nO;rw [set_append_left _ _ (by omega),Int.toNat_natCast,set_append_right _ _ (by rw [length_set]; exact Nat.le_refl _),length_set,Nat.sub_self]
 rfl
theorem DJ (im:av L) (g:Good L r) (cs:List Nat) (c:Nat):both (l8 L r cs) (cy r c) (L.length:Int) (uN L r c) (cs.map (cy r) ++ [cy r c]) = l8 L r (cs ++ [c]):=by
 obtain ⟨x0,x1,_⟩:=jx im g c;unfold both l8;rw [set_append_left _ _ (by rw [cT]; omega),Int.toNat_natCast,set_append_right _ _ (by rw [length_set,cT]; exact Nat.le_refl _),length_set,cT,Nat.sub_self,nN,map_append]
 rfl
theorem Bm (s:Sn S L) (g:Good L r) (nd:(sh 0 r).Nodup):∀ (k:Nat) (cs:List Nat),cs.length = k + 1->cs.Pairwise (· < ·)->(∀ c∈cs,c < r.length)->(cs.map (cy r)).Nodup->∃ c1 cj,FI S L r c1 cj cs (l8 L r cs)/\cs.getLast? = some cj:=by
 intro k
 induction k with
 | zero=>
  intro cs hl _ hc _;obtain ⟨c,rfl⟩:∃ c,cs = [c]:=List.length_eq_one_iff.mp hl;have:=(FI.first s g nd (c:=c) (hc c (by simp))).2;refine ⟨c,c,?_,rfl⟩;rw [<- Gv s.map g c];exact this
 | succ k ih=>
  intro cs hl pw hc uY;obtain ⟨ds,c,rfl⟩:∃ ds c,cs = ds ++ [c]:=by
   rcases eq_nil_or_concat cs with h | ⟨a,b,h⟩
   ·rw [h] at hl; simp at hl
   ·exact ⟨a,b,by rw [h]; simp⟩
  rw [length_append] at hl;have dl:ds.length = k + 1:=by simpa using hl
  obtain ⟨Um,_,Ul⟩:=List.pairwise_append.mp pw;rw [map_append] at uY;obtain ⟨n1,_,n2⟩:=List.nodup_append.mp uY;obtain ⟨c1,cj,p,last⟩:=ih ds dl Um (fun e he=>hc e (mem_append_left _ he)) n1;have cm:cj∈ds:=mem_of_getLast? last;have:=(FI.next s g nd p (Ul cj cm c (by simp)) (hc c (by simp)) fun e he=>n2 (cy r e) (List.mem_map.mpr ⟨e,he,rfl⟩) (cy r c) (by simp)).2;refine ⟨c1,c,?_,by simp⟩;rw [p.new] at this;rw [<- DJ s.map g ds c];exact this
end
end Gm
end
section
namespace Gm
end Gm
end
section
namespace Gm
open PySem L2
section
variable {L R:List (List Int)}
theorem vY.Dw (D:vY L R) {b:Int} (b0:0<=b) (b1:b < L.length):sh 0 (rd L R b) = (rowOf L b).map fun x=>dl R (x,b):=by
 have h0:0 < (rowOf L b).length:=by have:=D.two b b0 b1; omega
 refine ext_getElem? fun j=>?_;by_cases hj:j < (rowOf L b).length
 ·rw [qC (by unfold rd; rw [length_map]; exact hj),getElem?_map,getElem?_eq_getElem hj,Nat.add_zero,yc D.ld D.im b0 b1 h0,gO hj]
  rfl
 ·rw [getElem?_eq_none (by rw [bR]; unfold rd; rw [length_map]; omega),getElem?_eq_none (by rw [length_map]; omega)]
theorem vY.flat (D:vY L R):∀ k,k<=L.length->(((List.range k).map fun b:Nat=>sh 0 (rd L R (b:Int)))).flatten = (Gm.ck L k).map fun d=>dl R (d.2,d.1)
 | 0,_=>rfl
 | k + 1,h=>by
  rw [range_succ,map_append,flatten_append,D.flat k (by omega),Gm.ck,map_append,map_map]
  congr 1
  rw [map_singleton,flatten_singleton,D.Dw (by omega) (by omega)]
  rfl
theorem vY.dec (D:vY L R):Dec (Du R) ((List.range L.length).map fun b:Nat=>sh 0 (rd L R (b:Int))):=by
 refine ⟨fun c hc=>?_,?_,fun d=>?_⟩
 ·obtain ⟨b,hb,rfl⟩:=List.mem_map.mp hc;have hb:=List.mem_range.mp hb;exact (Dx D.ld D.im D.gS (by omega) (by omega) (D.two b (by omega) (by omega))).jB
 ·rw [D.flat _ (Nat.le_refl _)];refine List.pairwise_map.mpr ((bS D.im (Nat.le_refl _)).imp_of_mem fun {x y} hx hy ne q=>ne ?_);have bx:=Dt.back (Dt.of hx) D.im;have PU:=Dt.back (Dt.of hy) D.im;have:=Ci D.ld D.gS (d:=(x.2,x.1)) (e:=(y.2,y.1)) ⟨bx.1,bx.2.1,bx.2.2.2⟩ ⟨PU.1,PU.2.1,PU.2.2.2⟩ q;exact Prod.ext (congrArg Prod.snd this) (congrArg Prod.fst this)
 ·rw [D.flat _ (Nat.le_refl _)];constructor
  ·intro h;obtain ⟨x,hx,rfl⟩:=List.mem_map.mp h;have bx:=Dt.back (Dt.of hx) D.im;exact rz D.ld D.im ⟨bx.1,bx.2.1,bx.2.2.2⟩
  ·intro h;obtain ⟨x,hx,rfl⟩:=FA D.ld h;have bx:=Dt.back hx D.im;exact List.mem_map.mpr ⟨(x.2,x.1),(show Dt L (x.2,x.1) from ⟨bx.1,bx.2.1,bx.2.2.2⟩).all,rfl⟩
theorem vY.sn (D:vY L R) (s:bY L):Sn [0] (Du R):=by
 have ke:Aq L:=fun x x0 x1=>by
  obtain ⟨t,ht,r⟩:=s.span x x0 x1;rw [List.mem_singleton.mp ht] at r;exact r
 have two:=s.two;have hg:=D.ke ke (by omega);have dm:=tQ D.ld D.im D.gS;refine ⟨dm,fun x x0 x1=>⟨0,by simp,hg x x0 x1⟩,_,D.dec,?_⟩;obtain ⟨Q,DQ,ch⟩:=s.yU;have c:=DQ.count D.ld.dec;rw [length_map] at c;have e1:=bp dm;have e2:=bp D.im;have e3:=D.ck;have i0:=s.Ee;have l1:((List.range L.length).map fun b:Nat=>sh 0 (rd L R (b:Int))).length = L.length:=by rw [length_map,length_range]
 have l2:=gE (R:=R);rw [l1,D.iso,l2];rw [l2] at e1 e3;simp only [length_singleton];omega
end
end Gm
end
section
namespace L2
open PySem PySem.Spec PySem.W PySem.Calls PyProof.Rows
structure DefIn (K:Frag) (x:Str) (st:Stmt):Prop where
 ex:∃ (f:Addr) (od an:Option Addr) (sl:Array (Option Value)) (oc kV dc pm cd ct:Value),nsIn K mainGlobals x = some (some (.ref f))/\K.lookup f = some ⟨oc,od,.func (fnOf x x (c8 st) (bI st) (ao st) .none kV dc pm an cd ct),sl⟩/\codeIn K cd x = true/\keepIn K (.ref f) = true
structure MetIn (K:Frag) (C:Addr) (x q:Str) (st:Stmt):Prop where
 ex:∃ (f:Addr) (od an:Option Addr) (sl:Array (Option Value)) (oc kV dc pm cd ct:Value),findIn K (.ref C) x = some (some (.ref f))/\K.lookup f = some ⟨oc,od,.func (fnOf x q (c8 st) (bI st) (ao st) .none kV dc pm an cd ct),sl⟩/\codeIn K cd q = true/\keepIn K (.ref f) = true/\isFn K (.ref f) = true
theorem DefIn.mk0 {K:Frag} {x:Str} {st:Stmt} {f:Addr} {od an:Option Addr} {sl:Array (Option Value)} {oc kV dc pm cd ct:Value} (a:nsIn K mainGlobals x = some (some (.ref f))) (l:K.lookup f = some ⟨oc,od,.func (fnOf x x (c8 st) (bI st) (ao st) .none kV dc pm an cd ct),sl⟩) (c:codeIn K cd x = true) (k:keepIn K (.ref f) = true):DefIn K x st:=⟨⟨f,od,an,sl,oc,kV,dc,pm,cd,ct,a,l,c,k⟩⟩
theorem MetIn.mk0 {K:Frag} {C:Addr} {x q:Str} {st:Stmt} {f:Addr} {od an:Option Addr} {sl:Array (Option Value)} {oc kV dc pm cd ct:Value} (a:findIn K (.ref C) x = some (some (.ref f))) (l:K.lookup f = some ⟨oc,od,.func (fnOf x q (c8 st) (bI st) (ao st) .none kV dc pm an cd ct),sl⟩) (c:codeIn K cd q = true) (k:keepIn K (.ref f) = true) (i:isFn K (.ref f) = true):MetIn K C x q st:=⟨⟨f,od,an,sl,oc,kV,dc,pm,cd,ct,a,l,c,k,i⟩⟩
section
variable {K:Frag} {h:Heap} {mg:Str->Option Value} {x q:Str} {st:Stmt} {ps:List Str} {C:Addr}
theorem DefIn.jA (d:DefIn K x st) (X:K.In h) (G:h.Ns mainGlobals mg) (hb:∀ (kV doc pm:Value) (an:Option Addr) (bN ct:Value) (us:List Value),us.length = ps.length->bindArgs (fnOf x x (c8 st) (bI st) (ao st) .none kV doc pm an bN ct) ⟨us,[]⟩ = pure (ps.zip us)):Def K mg x st ps:=by
 obtain ⟨f,od,an,sl,oc,kV,dc,pm,cd,ct,a,l,c,k⟩:=d.ex;exact ⟨⟨f,_,jw (st:=st) l c k,mg_of X G a,(jw (st:=st) l c k).binds (ps:=ps) hb⟩⟩
theorem MetIn.met (d:MetIn K C x q st) (hb:∀ (kV doc pm:Value) (an:Option Addr) (bN ct:Value) (us:List Value),us.length = ps.length->bindArgs (fnOf x q (c8 st) (bI st) (ao st) .none kV doc pm an bN ct) ⟨us,[]⟩ = pure (ps.zip us)):lC K C x q st ps:=by
 obtain ⟨f,od,an,sl,oc,kV,dc,pm,cd,ct,a,l,c,k,i⟩:=d.ex;exact ⟨⟨f,_,jw (st:=st) l c k,⟨a,i,k⟩,(jw (st:=st) l c k).binds (ps:=ps) hb⟩⟩
theorem MetIn.Ol (d:MetIn K C "__init__" q st) (mk:makesIn K C = true) (kc:keepIn K (.ref C) = true) (hb:∀ (kV doc pm:Value) (an:Option Addr) (bN ct:Value) (us:List Value),us.length = ps.length->bindArgs (fnOf "__init__" q (c8 st) (bI st) (ao st) .none kV doc pm an bN ct) ⟨us,[]⟩ = pure (ps.zip us)):EN K C q st ps:=by
 obtain ⟨f,od,an,sl,oc,kV,dc,pm,cd,ct,a,l,c,k,i⟩:=d.ex;exact ⟨⟨f,_,jw (st:=st) l c k,⟨mk,a,i,kc⟩,(jw (st:=st) l c k).binds (ps:=ps) hb⟩⟩
end
end L2
end
section
namespace L2
open PySem PySem.Spec PySem.W PySem.Calls PyProof.Rows Gm
section
variable {X:Cx}
noncomputable def X0 (H:Hp) (l:List Int):Value->Bool:=fun v=>match v with | .ref b=>@decide (H b = some (.lst (l.map V.int))) (Classical.propDecidable _) | _=>false
def Uc (neg:Bool):R2:=fun x y H Q=>∃ (a t:Addr) (bs:List Addr) (R:List (List Int)) (l:List Int),x = .ref a/\y = .ref t/\H a = some (.lst (l.map V.int))/\aJ H t bs R/\Q (.bl (if neg then !decide (l∈R) else decide (l∈R))) H
def L4:V->List V->Hp->VK->Prop:=fun x vs H Q=>∃ (a t:Addr) (bs:List Addr) (R:List (List Int)) (l:List Int),x = .ref t/\vs = [.ref a]/\H a = some (.lst (l.map V.int))/\aJ H t bs R/\l∈R/\Q (.int (R.idxOf l:Nat)) H
end
end L2
end
section
namespace L2
open PySem PySem.Spec PySem.W PySem.Calls PyProof.Rows HT
def Ua (K:Frag):R2:=fun x y H Q=>∃ (a b:Addr) (ns ms:List Int),x = .ref a/\y = .ref b/\aw K H a (ns.map V.int)/\aw K H b (ms.map V.int)/\Q (.bl (!lexLt ms ns)) H
end L2
end
section
namespace L2
open PySem PySem.Spec PySem.W PySem.Calls PyProof.Rows Gm
def WT (d:Addr) (o:Obj) (aS:List (List Key×V)):It:=
 ⟨fun i H=>H d = some (.oT o (.dT aS))/\i < aS.length,fun i H x H'=>H' = H/\∃ k v b,aS[i]? = some (k,v)/\H b = some (.tup (k.map kV))/\x = .ref b,fun i H=>H d = some (.oT o (.dT aS))/\aS.length<=i⟩
section
variable {X:Cx} {tg:Expr}
def Ow (tl:TE):TI:=fun σ H R=>tl σ H fun x H1=>∃ a aS,x = .ref a/\H1 a = some (.dT aS)/\∀ o,R (WT a o aS) (upd H1 a (.oT o (.dT aS)))
end
section
variable {X:Cx} {pins:List (Addr×Obj)} {σ : St} {H:Hp} {s:Shared} {a:Addr} {A:Around} {E:Value->Shared->Prop}
def Nb (tk tv:TE):TE:=fun σ H Q=>∀ p,H p = none->rT [(tk,tv)] σ (upd H p (.dT [])) fun ps H2=>H2 p = some (.dT [])/\∃ (b:Addr) (k:List Key) (y:V),ps = [(.ref b,y)]/\H2 b = some (.tup (k.map kV))/\Q (.ref p) (upd H2 p (.dT [(k,y)]))
end
section
variable {X:Cx} {pins:List (Addr×Obj)} {σ : St} {H:Hp} {s:Shared} {a:Addr} {A:Around} {E:Value->Shared->Prop}
def Nc (td ty:TE):TE:=fun σ H Q=>td σ H fun x H1=>∃ a,x = .ref a/\LI H1 a/\ty σ H1 fun y H2=>∃ (aS:List (List Key×V)) (j:Nat) (k:List Key) (v:V) (b:Addr),H2 a = some (.dT aS)/\y = .ref b/\H2 b = some (.tup (k.map kV))/\aS[j]? = some (k,v)/\Q v (upd H2 a (.dT (aS.eraseIdx j)))
def QG (H0:Hp) (t:TS):TS:=fun D σ H=>t { D with nx:=fun σ' H'=>∃ (d:Addr) (o:Obj) (aS:List (List Key×V)),H' d = some (.oT o (.dT aS))/\(∀ o' u',H0 d≠some (.oT o' u'))/\D.nx σ' (upd H' d (.dT aS)) } σ H
end
end L2
end
section
namespace ph
open PySem
def Qh (xs:Array Nat):Prop:=∀ i j a b:Nat,xs[i]? = some a->xs[j]? = some b->i < j->a < b
structure Tb (led:Bool) (t:SetTable):Prop where
 rise:Qh t.place
 dm:t.dummies = #[]
 ld:t.led = led
end ph
end
section
namespace ph
open PySem PySem.Spec PyProof.Rows
section
variable {prog:Program} {w:World} {A:Around} {E:Value->Shared->Prop} {s:Shared} {led:Bool}
def WJ (prog:Program) (w:World) (led:Bool) (h:Heap) (a:Addr) (S:Int->Bool) (n:Nat):Prop:=
 ∃ o es ep t,h.get? a = some o/\o.ExactSet/\o.data = .set es ep t/\ElemsOf (intKind prog w) es.toList/\(∀ k,S k = true↔∃ e∈es.toList,(intKind prog w).is k e.2 = true)/\es.size < scanBound/\t.fits es.size = true/\es.size = n/\Tb led t
end
section
variable {prog:Program} {w:World} {A:Around} {E:Value->Shared->Prop} {s:Shared}
def JQ (w:World):Bool:=!w.params.followText "set-order"
def UG (w:World):Obj:={ cls:=.type "set",dict:=none,data:=.set #[] 0 (.fresh 0 0 (JQ w)) }
end
end ph
end
section
namespace ph
open PySem PySem.Spec
theorem tO {α : Type}:∀ {l:List α} {i:Nat} {x : α},l[i]? = some x->(x :: l.eraseIdx i).Perm l
 | [],i,x,h=>by simp at h
 | y :: l,0,x,h=>by
  injection h with h;subst h;exact .refl _
 | y :: l,i + 1,x,h=>by
  have:=tO (l:=l) (i:=i) (x:=x) (by simpa using h);exact (List.Perm.swap y x _).trans (this.cons y)
theorem yj {α : Type} (next:Nat->Nat):∀ (fuel k:Nat) (left:List α) (out:Array α),left.length<=fuel->(pickOrder.go next fuel k left out).toList.Perm (out.toList ++ left)
 | 0,k,left,out,h=>by
  have:left = []:=List.length_eq_zero_iff.mp (by omega);subst this;unfold pickOrder.go;rw [append_nil]
 | fuel + 1,k,left,out,h=>by
  unfold pickOrder.go;cases e:left[next k % left.length]? with
  | none=>
   have:left = []:=by
    cases left with
    | nil=>rfl
    | cons y l=>
     have:=List.getElem?_eq_none_iff.mp e;have:=Nat.mod_lt (next k) (show 0 < (y :: l).length by simp);omega
   subst this;dsimp only;rw [append_nil]
  | some x=>
   dsimp only;have il:=(List.getElem?_eq_some_iff.mp e).1;have:=yj next fuel (k + 1) (left.eraseIdx (next k % left.length)) (out.push x) (by rw [length_eraseIdx_of_lt il]; omega)
   refine this.trans ?_;rw [Array.toList_push,append_assoc];exact (tO e).append_left _
theorem kK {α : Type} (next:Nat->Nat) (xs:Array α):(pickOrder next xs).toList.Perm xs.toList:=by
 have:=yj next xs.size 0 xs.toList #[] (by simp)
 exact this
end ph
end
section
namespace ph
open PySem PySem.Spec PyProof.Rows
section
variable {prog:Program} {w:World} {A:Around} {E:Value->Shared->Prop} {s:Shared} {a:Addr} {o:Obj} {es:Array (Int×Value)} {ep:Nat} {t:SetTable}
def At (t:SetTable) (i slot:Nat):Prop:=(i = 0/\slot = 0)\/∃ k j,i = k + 1/\t.place[k]? = some j/\slot = j + 1
end
end ph
end
section
namespace ph
open PySem PySem.Spec PyProof.Rows PySem.Calls
def WV (h:Heap) (ik a:Addr) (first:Value) (i size ep:Nat):Prop:=∃ oi,h.get? ik = some oi/\oi.cls = .type "set_iterator"/\oi.data = .fields #[first,.int i 0,.ref a,.int size 0,.int ep 0]
def vInt:Value->Int
 | .int k _=>k
 | _=>0
section
variable {prog:Program} {w:World} {A:Around} {E:Value->Shared->Prop} {s:Shared} {a:Addr}
def Met (S:Int->Bool) (n:Nat) (vs:List Value):Prop:=∃ ns:List Int,IntsAre vs ns/\ns.length = n/\∀ k,S k = true↔k∈ns
end
end ph
namespace L2
open PySem PySem.Spec PySem.W PySem.Calls PyProof.Rows
def IF (K:Frag) (te:TE):TE:=fun σ H Q=>te σ H fun x H1=>∃ (a:Addr) (ns:List Int),x = .ref a/\aw K H1 a (ns.map V.int)/\ns.length < 64/\
 ∀ (nZ:List Int) (p:Addr),nZ.Perm (kj ns)->nZ.Pairwise (·<=·)->H1 p = none->Q (.ref p) (upd H1 p (.lst (nZ.map V.int)))
end L2
end
section
namespace L2
open PySem
theorem Bf {t:TT} {ta tb:TS} {D:Ends} {σ : St} {H:Hp} (Y N:Hp->Prop) (hy:∀ H',Y H'->ta D σ H') (hn:∀ H',N H'->tb D σ H')
  (h:∀ R:Bool->Hp->Prop,(∀ H',Y H'->R true H')->(∀ H',N H'->R false H')->t σ H R):FV t ta tb D σ H:=
 E9 (h _ (fun H' y=>Oq (hy H' y)) fun H' y=>RL (hn H' y))
end L2
namespace Gm
open PySem L2
theorem nH:∀ (cs:List Nat),cs.Pairwise (· < ·)↔∀ (j:Nat) (x y:Nat),cs[j]? = some x->cs[j + 1]? = some y->x < y
 | []=>by simp
 | [a]=>by simp
 | a :: b :: cs=>by
  rw [pairwise_cons,nH (b :: cs)];constructor
  ·rintro ⟨h1,h2⟩ j x y hx hy;cases j with
   | zero=>
    have e1:a = x:=by simpa using hx
    have e2:b = y:=by simpa using hy
    subst e1 e2;exact h1 b mem_cons_self
   | succ j=>exact h2 j x y (by simpa using hx) (by simpa using hy)
  ·intro h;have h2:∀ (j:Nat) (x y:Nat),(b :: cs)[j]? = some x->(b :: cs)[j + 1]? = some y->x < y:=fun j x y hx hy=>h (j + 1) x y (by simpa using hx) (by simpa using hy);refine ⟨fun z hz=>?_,h2⟩;have ab:a < b:=h 0 a b rfl rfl;have p:=(nH (b :: cs)).mpr h2;rcases List.mem_cons.mp hz with rfl | hz
   ·exact ab
   ·exact Nat.lt_trans ab ((List.pairwise_cons.mp p).1 z hz)
def fX (cs:List Nat):List Int:=cs.map fun c:Nat=>(c:Int)
def FG (L:List (List Int)) (i:Nat):Prop:=¬ ((L.getD i []).Nodup/\∀ x∈L.getD i [],x≠(i:Int)/\0<=x/\x < L.length/\(i:Int)∈rowOf L x)
structure Qo (L:List (List Int)) (i:Nat):Prop where
 lt:i < L.length
 wr:FG L i
 no:∀ j,j < i->¬ FG L j
end Gm
end
section
namespace HH
open PySem L2 Fr Gm
def top (i:Nat):Stmt:=PySem.Challenge.pw_standup_k98_whole_desk.main.body.getD i (.Pass ⟨0,0,0,0⟩)
abbrev LV:Stmt:=top 0
abbrev jj:Stmt:=top 8
abbrev nE:Stmt:=top 9
abbrev wA:Stmt:=top 10
abbrev nD:Stmt:=top 11
abbrev hW:Stmt:=top 12
abbrev fN:Stmt:=top 13
abbrev sq:Stmt:=top 14
abbrev su:Stmt:=top 15
abbrev gb:Stmt:=top 16
abbrev ic:Stmt:=top 18
abbrev wB:Stmt:=top 19
abbrev ny:Stmt:=top 20
abbrev sr:Stmt:=top 21
abbrev nC:Stmt:=top 22
abbrev ie:Stmt:=top 23
abbrev eW:Stmt:=top 27
abbrev Dr:Stmt:=top 28
abbrev gi:Stmt:=top 29
abbrev gf:Stmt:=top 30
abbrev gc:Stmt:=top 31
abbrev eU:Stmt:=top 32
abbrev dR:Stmt:=top 33
abbrev gh:Stmt:=top 34
abbrev iq:Stmt:=top 35
abbrev eV:Stmt:=top 36
abbrev ir:Stmt:=top 37
abbrev eT:Stmt:=top 38
abbrev eS:Stmt:=top 39
abbrev gg:Stmt:=top 40
abbrev iu:Stmt:=top 41
abbrev ig:Stmt:=top 42
abbrev nF:Stmt:=top 43
abbrev iw:Stmt:=j9 (top 25) 0
abbrev fO:Stmt:=j9 (top 25) 1
abbrev jk:Stmt:=j9 (top 25) 2
abbrev eX:Stmt:=j9 (top 25) 3
abbrev eu:Stmt:=j9 (top 25) 4
abbrev dS:Stmt:=j9 (top 25) 5
abbrev c9:Stmt:=j9 (top 25) 6
abbrev iz:Stmt:=j9 (top 25) 7
abbrev gj:Stmt:=j9 (top 25) 8
structure SX where
 fw:Addr
 dQ:Addr
 fK:Addr
 iN:Addr
 LC:Addr
 aV:Addr
structure Txt (K:PySem.W.Frag) (mg:Str->Option Value) (Z:SX):Prop where
 len:mg "len" = none
 isinstance:mg "isinstance" = none
 int:mg "int" = none
 bool:mg "bool" = none
 enumerate:mg "enumerate" = none
 range:mg "range" = none
 min:mg "min" = none
 max:mg "max" = none
 list:mg "list" = none
 zip:mg "zip" = none
 all:mg "all" = none
 set:mg "set" = none
 sorted:mg "sorted" = none
 o8:mg "MapError" = some (.ref Z.fw)
 mX:mg "NoTie" = some (.ref Z.dQ)
 Ap:mg "NoOther" = some (.ref Z.fK)
 o5:mg "NoStep" = some (.ref Z.iN)
 MN:mg "NoMap" = some (.ref Z.LC)
 Cu:mg "Desk" = some (.ref Z.aV)
 x_NoTie:PySem.W.excIn K Z.dQ [.type "ValueError",.type "Exception",.type "BaseException",.type "object"] "ValueError.__new__" = true
 x_NoOther:PySem.W.excIn K Z.fK [.type "ValueError",.type "Exception",.type "BaseException",.type "object"] "ValueError.__new__" = true
 x_NoStep:PySem.W.excIn K Z.iN [.type "ValueError",.type "Exception",.type "BaseException",.type "object"] "ValueError.__new__" = true
 m1:PySem.W.exmOne K (.ref Z.dQ) (.ref Z.fw) = some true
 m2:PySem.W.exmOne K (.ref Z.fK) (.ref Z.fw) = some true
 m3:PySem.W.exmOne K (.ref Z.iN) (.ref Z.iN) = some true
 aC:uh K Z.aV
 eD:eG K Z.aV "laid"
 iD:eG K Z.aV "behind"
 jW:eG K Z.aV "taken"
def xZ (K:PySem.W.Frag):Sp:=fun vs H Q _=>∃ (a:Addr) (ns:List Int) (k:Int),vs = [.ref a,.int k]/\aw K H a (ns.map V.int)/\0<=k/\∀ n,Q (.int n) H
def IU:Sp:=fun vs H Q _=>∃ n:Int,vs = [.int n]/\Q (.bl true) H
def gZ (K:PySem.W.Frag):Sp:=fun vs H Q _=>∃ (a:Addr) (ns:List Int) (k:Int),vs = [.ref a,.int k]/\aw K H a (ns.map V.int)/\0<=k/\k<=100000/\∀ n,0<=n->n < 2147483587->Q (.int n) H
def uw:Sp:=fun vs H Q _=>∃ (p:Addr) (as:List Addr) (L:List (List Int)),vs = [.ref p]/\aJ H p as L/\av L/\L.length<=60/\(ck L L.length).length < 1000/\
 ∀ (t:Addr) (bs:List Addr) (R:List (List aq)) H',ah H H'->aJ H' t bs (R.map fun c=>c.map (·.1))->(t :: bs).Nodup->(∀ b∈t :: bs,H b = none)->Dec L R->Q (.ref t) H'
def qu:Sp:=fun vs H Q _=>∃ (p ra:Addr) (as:List Addr) (L:List (List Int)) (r:List Int) (i j:Nat),vs = [.ref p,.ref ra,.int (i:Int),.int (j:Int)]/\aJ H p as L/\(p :: as).Nodup/\H ra = some (.lst (r.map V.int))/\ra∉as/\bY L/\Good L r/\i < r.length/\j < r.length/\L.length<=60/\
 ∀ H' L',(∀ b o,b∉as->H b = some o->H' b = some o)->aJ H' p as L'->bY L'->L'.length = L.length->Q .bQ H'
def lG:Sp:=fun vs H Q _=>∃ (p ra rc:Addr) (as:List Addr) (L:List (List Int)) (r:List Int) (cs:List Nat),vs = [.ref p,.ref ra,.ref rc]/\aJ H p as L/\(p :: as).Nodup/\H ra = some (.lst (r.map V.int))/\ra∉as/\H rc = some (.lst ((cs.map fun c:Nat=>(c:Int)).map V.int))/\rc∉as/\ra≠p/\rc≠p/\bY L/\Good L r/\(sh 0 r).Nodup/\cs≠[]/\cs.Pairwise (· < ·)/\(∀ c∈cs,c < r.length)/\(cs.map (cy r)).Nodup/\cs.length<=200/\L.length<=60/\
 ∀ H' L' c,(∀ b o,b∉p :: as->H b = some o->H' b = some o)->H c = none->aJ H' p (as ++ [c]) L'->(p :: (as ++ [c])).Nodup->bY L'->L'.length = L.length + 1->Q .bQ H'
def uz (K:PySem.W.Frag):Sp:=fun vs H Q _=>∃ (a:Addr) (ns:List Int) (st:Int) (n:Nat),vs = [.ref a,.int st,.int (n:Int)]/\aw K H a (ns.map V.int)/\0<=st/\st<=1000/\n<=16/\
 ∀ p as L H',ah H H'->aJ H' p as L->(p :: as).Nodup->(∀ b∈p :: as,H b = none)->bY L->L.length<=2 + n->Q (.ref p) H'
def uu:Sp:=fun vs H Q _=>∃ (p:Addr) (as:List Addr) (L:List (List Int)) (k:Nat),vs = [.ref p,.int (k:Int)]/\aJ H p as L/\av L/\k < L.length/\L.length<=60/\∀ H',ah H H'->Q (.bl false) H'
def qw:Sp:=fun vs H Q _=>∃ (p:Addr) (as:List Addr) (L:List (List Int)),vs = [.ref p]/\aJ H p as L/\av L/\L.length<=60/\∀ H',ah H H'->Q .bQ H'
def jH:Sp:=fun vs H Q _=>∃ (p t:Addr) (as bs:List Addr) (L M:List (List Int)),vs = [.ref p,.ref t]/\aJ H p as L/\aJ H t bs M/\L.length = M.length/\(∀ l∈L,l.length<=1000)/\(∀ m∈M,m.Nodup/\m.length<=1000)/\L.length<=1000/\
 ((∀ (i:Nat) (l m:List Int),L[i]? = some l->M[i]? = some m->bA l m)->∀ H',ah H H'->Q (.bl true) H')/\((¬ ∀ (i:Nat) (l m:List Int),L[i]? = some l->M[i]? = some m->bA l m)->∀ H',ah H H'->Q (.bl false) H')
def qv:Sp:=fun vs H Q _=>∃ (p:Addr) (as:List Addr) (L:List (List Int)) (d:aq),vs = [.ref p,.int d.1,.int d.2]/\aJ H p as L/\av L/\Dt L d/\Q (.int (nx L d).2) H
def xV:Sp:=fun vs H Q _=>∃ (p:Addr) (as:List Addr) (L:List (List Int)) (d:aq),vs = [.ref p,.int d.1,.int d.2]/\aJ H p as L/\av L/\Dt L d/\(ck L L.length).length < 128/\
 ∀ (r:Addr) (k:Nat) H',ah H H'->H r = none->H' r = some (.lst ((aH L d k).map V.int))->0 < k->it L d k = d->iO L d k->Q (.ref r) H'
def ux:Sp:=fun vs H Q _=>∃ (a:Addr) (r:List Int),vs = [.ref a]/\H a = some (.lst (r.map V.int))/\0 < r.length/\r.length<=1000/\
 ∀ (b:Addr) (c:Nat) H',ah H H'->H b = none->H' b = some (.lst ((bU r c).map V.int))->c < r.length->(∀ j,j < r.length->Le (bU r c) (bU r j))->Q (.ref b) H'
def jG:Sp:=fun vs H Q _=>∃ (a:Addr) (r:List Int),vs = [.ref a]/\H a = some (.lst (r.map V.int))/\0 < r.length/\r.length<=1000/\
 ∀ (t:Addr) (ps:List Addr) H',ah H H'->H t = none->H' t = some (.lst (ps.map V.ref))->PR H' ps (sh 0 r)->Q (.ref t) H'
def eQ:Sp:=fun vs H Q _=>∃ (p:Addr) (as:List Addr) (L:List (List Int)),vs = [.ref p]/\aJ H p as L/\av L/\L.length<=60/\(ck L L.length).length < 128/\
 ∀ (t:Addr) (bs:List Addr) (R:List (List Int)) H',ah H H'->aJ H' t bs R->(t :: bs).Nodup->(∀ b∈t :: bs,H b = none)->bj L R->Q (.ref t) H'
def gY:Sp:=fun vs H Q _=>∃ (a:Addr) (l:List Int) (x y:Int),vs = [.ref a,.int x,.int y]/\H a = some (.lst (l.map V.int))/\y∈l/\l.length<=1000/\
 ∀ (b:Addr) H',ah H H'->H b = none->H' b = some (.lst ((put l (l.idxOf y) x).map V.int))->Q (.ref b) H'
def xU:Sp:=fun vs H Q _=>∃ (p:Addr) (as:List Addr) (L:List (List Int)),vs = [.ref p]/\aJ H p as L/\L.length<=60/\av L/\
 ∀ t ps H',ah H H'->H t = none->H' t = some (.lst (ps.map V.ref))->PR H' ps (cO L L.length)->Q (.ref t) H'
def AU (L:List (List Int)) (r:List Int) (i j:Nat):List (List Int):=both L (cy r i) (cy r j) (put (rowOf L (cy r i)) ((rowOf L (cy r i)).idxOf (cy r (i + (r.length - 1)))) (cy r j)) (put (rowOf L (cy r j)) ((rowOf L (cy r j)).idxOf (cy r (j + (r.length - 1)))) (cy r i))
def rY (N:Addr):Sp:=fun vs H Q E=>∃ (p:Addr) (as:List Addr) (L R:List (List Int)) (r:List Int) (m i j:Nat),vs = [.ref p,.int (m:Int),.int (i:Int),.int (j:Int)]/\aJ H p as L/\av L/\L.length<=60/\(ck L L.length).length < 128/\bj L R/\R[m]? = some r/\i < r.length/\j < r.length/\
 (cy r i≠cy r j/\cy r j∉rowOf L (cy r i)->∀ t bs M H',ah H H'->aJ H' t bs M->(t :: bs).Nodup->(∀ b∈t :: bs,H b = none)->aT M (AU L r i j)->Q (.ref t) H')/\(¬ (cy r i≠cy r j/\cy r j∉rowOf L (cy r i))->∀ H',ah H H'->E (.ref N) none H')
def kC (N:Addr):Sp:=fun vs H Q E=>∃ (p:Addr) (as:List Addr) (L:List (List Int)) (d:aq),vs = [.ref p,.int d.1,.int d.2]/\aJ H p as L/\av L/\L.length<=60/\0<=d.1/\d.1 < L.length/\0<=d.2/\d.2 < L.length/\
 (d.2∈rowOf L d.1->∀ t bs R H',ah H H'->aJ H' t bs R->(t :: bs).Nodup->(∀ b∈t :: bs,H b = none)->aT R (rem L d.1 d.2)->Q (.ref t) H')/\(d.2∉rowOf L d.1->∀ H',ah H H'->E (.ref N) none H')
def uv:Sp:=fun vs H Q _=>∃ (a:Addr) (cs:List Nat),vs = [.ref a]/\H a = some (.lst ((fX cs).map V.int))/\cs≠[]/\cs.length<=1000/\∀ H' b,ah H H'->(b = true↔cs.Pairwise (· < ·))->Q (.bl b) H'
def kE (N:Addr):Sp:=fun vs H Q E=>∃ (p rc:Addr) (as:List Addr) (L R:List (List Int)) (r:List Int) (m:Nat) (cs:List Nat),vs = [.ref p,.int (m:Int),.ref rc]/\aJ H p as L/\av L/\L.length<=60/\(ck L L.length).length < 128/\bj L R/\R[m]? = some r/\H rc = some (.lst ((fX cs).map V.int))/\(∀ c∈cs,c < r.length)/\cs.length<=200/\
 (xJ r cs->∀ t bs H',ah H H'->aJ H' t bs (l8 L r cs)->(t :: bs).Nodup->(∀ b∈t :: bs,H b = none)->Q (.ref t) H')/\(¬ xJ r cs->∀ H',ah H H'->E (.ref N) none H')
def xX:Sp:=fun vs H Q _=>∃ (t:Addr) (bs:List Addr) (R:List (List Int)),vs = [.ref t]/\aJ H t bs R/\(R.flatMap (sh 0)).Nodup/\(∀ r∈R,0 < r.length)/\(R.flatMap (sh 0)).length<=1000/\
 ∀ (g:Addr) H',ah H H'->H g = none->H' g = some (.dT (kN (lk (fun _=>0) R R.length)))->Q (.ref g) H'
def ni (N:Addr):Sp:=fun vs H Q E=>∃ (p:Addr) (as:List Addr) (L R:List (List Int)),vs = [.ref p]/\aJ H p as L/\av L/\L.length<=60/\(ck L L.length).length < 128/\bj L R/\
 (mC (R.map (gn R 0))->∀ (t:Addr) (bs:List Addr) H',ah H H'->aJ H' t bs (R.map (gn R 0))->(t :: bs).Nodup->(∀ b∈t :: bs,H b = none)->Q (.ref t) H')/\(¬ mC (R.map (gn R 0))->∀ H',ah H H'->E (.ref N) none H')
theorem zj {L:List (List Int)} (im:av L) {d:aq} (a0:0<=d.1) (a1:d.1 < L.length) (b0:0<=d.2) (b1:d.2 < L.length) :
  ((if d.2 < d.1 then d.2 else d.1),(if d.2 > d.1 then d.2 else d.1))∈cO L L.length↔d.2∈rowOf L d.1:=by
 by_cases ne:d.1 = d.2
 ·constructor
  ·intro h;have:=(fh (Nat.le_refl _)).mp h;dsimp only at this;rw [if_neg (by omega),if_neg (by omega)] at this;omega
  ·intro h;obtain ⟨_,_,z,_⟩:=Dt.back (d:=d) ⟨a0,a1,h⟩ im;exact absurd ne.symm z
 ·exact C9 im a0 a1 b0 b1 ne
def uB (C:Addr):Sp:=fun vs H Q _=>∃ (d dx o:Addr) (as:List Addr) (L:List (List Int)),vs = [.ref d,.ref o]/\H d = some (.ins C dx [])/\aJ H o as L/\d∉o :: as/\av L/\L.length<=60/\
 ∀ p b t mw H',aE [d] H H'->jC C H' d dx b t p [] []->aJ H' p mw L->(p :: mw).Nodup->(∀ a∈b :: t :: p :: mw,H a = none)->b∉p :: mw->t∉p :: mw->Q .bQ H'
def f6 (C:Addr):Sp:=fun vs H Q _=>∃ (d dx b t p:Addr) (ps qs as:List Addr) (L:List (List Int)),vs = [.ref d]/\jC C H d dx b t p ps qs/\aJ H p as L/\L.length<=60/\
 ∀ q cs H',ah H H'->aJ H' q cs L->(q :: cs).Nodup->(∀ a∈q :: cs,H a = none)->Q (.ref q) H'
def jI (C:Addr):Sp:=fun vs H Q _=>∃ (d dx b t p p':Addr) (ps qs:List Addr),vs = [.ref d,.ref p']/\jC C H d dx b t p ps qs/\ps.length<=1000/\∀ t' H',aE [d,b] H H'->H t' = none->jC C H' d dx b t' p' (ps ++ [p]) []->Q .bQ H'
def xY (C N:Addr):Sp:=fun vs H Q E=>∃ (d dx b t p:Addr) (ps qs as:List Addr) (L R:List (List Int)) (r:List Int) (m i j:Nat),vs = [.ref d,.int (m:Int),.int (i:Int),.int (j:Int)]/\jC C H d dx b t p ps qs/\ps.length<=1000/\aJ H p as L/\av L/\L.length<=60/\(ck L L.length).length < 128/\bj L R/\R[m]? = some r/\i < r.length/\j < r.length/\
 (cy r i≠cy r j/\cy r j∉rowOf L (cy r i)->cI C H d dx b p ps (fun M=>aT M (AU L r i j)) Q)/\(¬ (cy r i≠cy r j/\cy r j∉rowOf L (cy r i))->∀ H',ah H H'->E (.ref N) none H')
def qy (C N:Addr):Sp:=fun vs H Q E=>∃ (d dx b t p:Addr) (ps qs as:List Addr) (L:List (List Int)) (e:aq),vs = [.ref d,.int e.1,.int e.2]/\jC C H d dx b t p ps qs/\ps.length<=1000/\aJ H p as L/\av L/\L.length<=60/\0<=e.1/\e.1 < L.length/\0<=e.2/\e.2 < L.length/\
 (e.2∈rowOf L e.1->cI C H d dx b p ps (fun M=>aT M (rem L e.1 e.2)) Q)/\(e.2∉rowOf L e.1->∀ H',ah H H'->E (.ref N) none H')
def qz (C N:Addr):Sp:=fun vs H Q E=>∃ (d dx b t p rc:Addr) (ps qs as:List Addr) (L R:List (List Int)) (r:List Int) (m:Nat) (cs:List Nat),vs = [.ref d,.int (m:Int),.ref rc]/\jC C H d dx b t p ps qs/\ps.length<=1000/\aJ H p as L/\av L/\L.length<=60/\(ck L L.length).length < 128/\bj L R/\R[m]? = some r/\H rc = some (.lst ((fX cs).map V.int))/\(∀ c∈cs,c < r.length)/\cs.length<=200/\
 (xJ r cs->cI C H d dx b p ps (fun M=>M = l8 L r cs) Q)/\(¬ xJ r cs->∀ H',ah H H'->E (.ref N) none H')
def uA (C N:Addr):Sp:=fun vs H Q E=>∃ (d dx b t p:Addr) (ps qs as:List Addr) (L R:List (List Int)),vs = [.ref d]/\jC C H d dx b t p ps qs/\ps.length<=1000/\aJ H p as L/\av L/\L.length<=60/\(ck L L.length).length < 128/\bj L R/\
 (mC (R.map (gn R 0))->cI C H d dx b p ps (fun M=>M = R.map (gn R 0)) Q)/\(¬ mC (R.map (gn R 0))->∀ H',ah H H'->E (.ref N) none H')
def uC (C N:Addr):Sp:=fun vs H Q E=>∃ (d dx b t p:Addr) (ps qs:List Addr),vs = [.ref d]/\jC C H d dx b t p ps qs/\qs.length<=1000/\ps.length<=1000/\
 (ps = []->∀ H',ah H H'->E (.ref N) none H')/\(∀ p0 yi,ps = yi ++ [p0]->∀ H',aE [d,b,t] H H'->jC C H' d dx b t p0 yi (qs ++ [p])->Q .bQ H')
def qA (C N:Addr):Sp:=fun vs H Q E=>∃ (d dx b t p:Addr) (ps qs:List Addr),vs = [.ref d]/\jC C H d dx b t p ps qs/\ps.length<=1000/\qs.length<=1000/\
 (qs = []->∀ H',ah H H'->E (.ref N) none H')/\(∀ p0 yh,qs = yh ++ [p0]->∀ H',aE [d,b,t] H H'->jC C H' d dx b t p0 (ps ++ [p]) yh->Q .bQ H')
def uy:Sp:=fun vs H Q _=>∃ (p:Addr) (as:List Addr) (L:List (List Int)),vs = [.ref p]/\aJ H p as L/\L.length<=60/\0 < L.length/\av L/\
 ∀ (ks:List Int) H',ah H H'->ks.Nodup->(∀ x,x∈ks↔Reach L 0 x)->Q (.bl (decide ((ks.length:Int) = L.length))) H'
def fv (n:Int) (k:Nat):List Nat:=(List.range k).filter fun a=>decide ((n + (a:Int) * (n / 64)) % 3≠0)
def ji:Sp:=fun vs H Q _=>∃ (ra:Addr) (r:List Int) (n:Int),vs = [.ref ra,.int n]/\H ra = some (.lst (r.map V.int))/\r.length<=1000/\0<=n/\n < 10 ^ 18/\∀ b H',ah H H'->H b = none->H' b = some (.lst ((fX (fv n r.length)).map V.int))->Q (.ref b) H'
def rD (R:List (List Int)) (n:Nat):List Int:=R.getD (n % R.length) []
def By (L R:List (List Int)):Nat->Nat->Prop
 | 0,n=>cy (rD R n) (n / 64 % (rD R n).length)≠cy (rD R n) (n / 1024 % (rD R n).length)/\cy (rD R n) (n / 1024 % (rD R n).length)∉rowOf L (cy (rD R n) (n / 64 % (rD R n).length))
 | 1,n=>((n / 64 % L.length:Nat):Int)∈rowOf L ((n % L.length:Nat):Int)
 | 2,n=>xJ (rD R n) (fv ((n / 64:Nat):Int) (rD R n).length)
 | _,_=>mC (R.map (gn R 0))
def toD (L R:List (List Int)):Nat->Nat->List (List Int)->Prop
 | 0,n,M=>aT M (AU L (rD R n) (n / 64 % (rD R n).length) (n / 1024 % (rD R n).length))
 | 1,n,M=>aT M (rem L ((n % L.length:Nat):Int) ((n / 64 % L.length:Nat):Int))
 | 2,n,M=>M = l8 L (rD R n) (fv ((n / 64:Nat):Int) (rD R n).length)
 | _,_,M=>M = R.map (gn R 0)
def xW:Sp:=fun vs H Q _=>∃ (p:Addr) (as:List Addr) (L R:List (List Int)) (way n:Nat),vs = [.ref p,.int (way:Int),.int (n:Int)]/\aJ H p as L/\av L/\0 < L.length/\L.length<=60/\(ck L L.length).length < 128/\bj L R/\n < 10 ^ 18/\(R≠[]\/way = 1)/\(way = 2->L.length < 12)/\way<=3/\
 (By L R way n->∀ t bs M H',ah H H'->aJ H' t bs M->(t :: bs).Nodup->(∀ b∈t :: bs,H b = none)->toD L R way n M->Q (.ref t) H')/\(¬ By L R way n->∀ H',ah H H'->Q .bQ H')
theorem jM {L R:List (List Int)} {r:List Int} (m:av L) (h:bj L R) (hr:r∈R):r.length<=(ck L L.length).length:=by
 have f:=vC h.two (List.mem_map.mpr ⟨r,hr,rfl⟩);rw [h.dec.len m,bR,length_map] at f;have:1<=R.length:=length_pos_of_mem hr;omega
theorem o3 (n:Int) (k:Nat):fv n (k + 1) = fv n k ++ (if (n + (k:Int) * (n / 64)) % 3≠0 then [k] else []):=by
 unfold fv;rw [range_succ,filter_append,filter_cons];by_cases h:(n + (k:Int) * (n / 64)) % 3≠0
 ·rw [if_pos (decide_eq_true h),if_pos h]; rfl
 ·rw [if_neg (by simpa using h),if_neg h]; rfl
theorem lu (n:Int) (k:Nat):(fv n k).length<=k:=by
 unfold fv;exact Nat.le_trans (length_filter_le _ _) (by simp)
def nh (C:Addr):Sp:=fun vs H Q _=>∃ (d dx b t p o:Addr) (ps qs as os:List Addr) (L R:List (List Int)) (way n:Nat),vs = [.ref d,.ref o,.int (way:Int),.int (n:Int)]/\jC C H d dx b t p ps qs/\ps.length<=1000/\aJ H p as L/\aJ H o os L/\av L/\0 < L.length/\L.length<=60/\(ck L L.length).length < 128/\bj L R/\n < 10 ^ 18/\(R≠[]\/way = 1)/\(way = 2->L.length < 12)/\way<=3/\
 (By L R way n->cI C H d dx b p ps (toD L R way n) (fun _ H'=>Q (.bl false) H'))/\(¬ By L R way n->∀ H',ah H H'->Q (.bl true) H')
def ng (C:Addr):Sp:=fun vs H Q _=>∃ (d dx b t p:Addr) (ps qs:List Addr) (way:Nat),vs = [.ref d,.int (way:Int)]/\jC C H d dx b t p ps qs/\ps.length<=1000/\qs.length<=1000/\(way = 4\/way = 5)/\
 (way = 4->(ps = []->∀ H',ah H H'->Q (.bl true) H')/\(∀ p0 yi,ps = yi ++ [p0]->∀ H',aE [d,b,t] H H'->jC C H' d dx b t p0 yi (qs ++ [p])->Q (.bl false) H'))/\
 (way = 5->(qs = []->∀ H',ah H H'->Q (.bl true) H')/\(∀ p0 yh,qs = yh ++ [p0]->∀ H',aE [d,b,t] H H'->jC C H' d dx b t p0 (ps ++ [p]) yh->Q (.bl false) H'))
def rX (C:Addr):Sp:=fun vs H Q _=>∃ (d dx b t p k g q:Addr) (ps qs as gs cs:List Addr) (L:List (List Int)) (i:Nat),vs = [.ref d,.ref k]/\jC C H d dx b t p ps qs/\aJ H p as L/\av L/\L.length<=60/\H k = some (.lst [.int (i:Int),.ref g])/\H g = some (.lst (gs.map V.ref))/\gs[i]? = some q/\aJ H q cs L/\
 ∀ H',ah H H'->Q (.bl true) H'
structure pA (e:Nat) (L:List (List Int)):Prop where
 map:av L
 sn:∃ S,Sn S L
 pos:0 < L.length
 len:L.length<=59
 AS:(cO L L.length).length<=36 + e
def CJ:Prop:=∀ (e:Nat) (L R M:List (List Int)) (way n:Nat),e < 24->pA e L->bj L R->(R≠[]\/way = 1)->(way = 2->L.length < 12)->way<=3->(way = 3->eJ L [0])->By L R way n->toD L R way n M->pA (e + 1) M
theorem pA.ck {e:Nat} {L:List (List Int)} (o:pA e L) (h:e < 25):(ck L L.length).length < 128:=by
 have:=bp o.map;have:=o.AS;omega
theorem pA.more {e:Nat} {L:List (List Int)} (o:pA e L):pA (e + 1) L:=⟨o.map,o.sn,o.pos,o.len,by have:=o.AS; omega⟩
def sf (C:Addr):Sp:=fun vs H Q _=>∃ (d b t k:Addr) (M:List Addr) (Ls:List (List (List Int))) (i e:Nat) (n:Nat),vs = [.ref d,.ref k,.int (n:Int)]/\mz C H M d b t k Ls i/\(∀ L∈Ls,pA e L)/\e < 24/\Ls.length<=100/\n < 10 ^ 18/\
 ∀ H' M' t' Ql i',aE [d,b,t,k] H H'->(∀ a∈M',a∈M\/H a = none)->(∀ a∈M,a∈M')->(t' = t\/H t' = none)->mz C H' M' d b t' k Ql i'->(∀ L∈Ql,pA (e + 1) L)->Ql.length<=Ls.length + 1->Q (.bl true) H'
theorem EB {gs:List Addr} {i:Nat} (h:i < gs.length):iM (gs.map V.ref) none (some ((i:Int) + 1)) = (gs.take (i + 1)).map V.ref:=by
 unfold iM HT.ky;rw [length_map];dsimp only;rw [if_neg (by omega),show min (((i:Int) + 1).toNat) gs.length = i + 1 by omega,drop_zero,Nat.sub_zero,map_take]
theorem qH {L M:List (List Int)} (h:aT L M):aT M L:=⟨h.1.symm,fun i l m h1 h2=>(h.2 i m l h2 h1).symm⟩
theorem C8 {L R X Y:List (List Int)} {way n:Nat} (hx:toD L R way n X) (hy:toD L R way n Y):aT Y X:=by
 match way with
 | 0=>exact aT.trans hy (qH hx)
 | 1=>exact aT.trans hy (qH hx)
 | 2=>rw [show Y = X from Eq.trans hy (Eq.symm hx)]; exact aT.refl _
 | (m + 3)=>rw [show Y = X from Eq.trans hy (Eq.symm hx)]; exact aT.refl _
def rZ (K:PySem.W.Frag):Sp:=fun vs H Q _=>∃ (a:Addr) (ns:List Int),vs = [.ref a]/\aw K H a (ns.map V.int)/\ns.length<=63/\∀ H',Q (.bl true) H'
theorem N9 {X:Cx} {a b c d:Expr} {ta tb tc td:TE} {pos:Pos} (ha:PE X a ta) (hb:PE X b tb) (hc:PE X c tc) (hd:PE X d td)
  (s1:starEach [a,b,c,d] X.env = (false,eval a X.env) :: starEach [b,c,d] X.env) (s2:starEach [b,c,d] X.env = (false,eval b X.env) :: starEach [c,d] X.env) (s3:starEach [c,d] X.env = (false,eval c X.env) :: starEach [d] X.env) (s4:starEach [d] X.env = (false,eval d X.env) :: starEach [] X.env) :
  PE X (.List [a,b,c,d] pos) (AZ (je ta (je tb (je tc (je td um))))):=aY (aa ha (aa hb (aa hc (aa hd af s4) s3) s2) s1)
theorem GK {X:Cx} {a b:Expr} {ta tb:TE} {pos:Pos} (ha:PE X a ta) (hb:PE X b tb)
  (s3:starEach [a,b] X.env = (false,eval a X.env) :: starEach [b] X.env) (s4:starEach [b] X.env = (false,eval b X.env) :: starEach [] X.env) :
  PE X (.List [a,b] pos) (AZ (je ta (je tb um))):=aY (aa ha (aa hb af s4) s3)
theorem JO {X:Cx} {a:Expr} {ta:TE} {pos:Pos} (ha:PE X a ta) (s4:starEach [a] X.env = (false,eval a X.env) :: starEach [] X.env) :
  PE X (.List [a] pos) (AZ (je ta um)):=aY (aa ha af s4)
theorem Ll (ns:List Int):∃ xs:List Int,iM (ns.map V.int) (some 2) (some 26) = xs.map V.int/\xs.length<=24:=by
 refine ⟨(ns.drop (HT.ky ns.length 0 (some 2))).take (HT.ky ns.length ns.length (some 26) - HT.ky ns.length 0 (some 2)),?_,?_⟩
 ·unfold iM;rw [length_map,map_take,map_drop]
 ·rw [length_take,length_drop];have h1:HT.ky ns.length 0 (some 2) = min 2 ns.length:=HT.x6 _ _ 2;have h2:HT.ky ns.length ns.length (some 26) = min 26 ns.length:=HT.x6 _ _ 26;rw [h1,h2];omega
structure vP (C:Addr) (H:Hp) (M:List Addr) (d1 k1 d2 k2:Addr) (e:Nat):Prop where
 ex:∃ b1 t1 b2 t2 Qk Qj i1 i2,mz C H M d1 b1 t1 k1 Qk i1/\mz C H M d2 b2 t2 k2 Qj i2/\(∀ L∈Qk,pA e L)/\(∀ L∈Qj,pA e L)/\Qk.length<=1 + e/\Qj.length<=1 + e/\∀ a∈[d1,b1,t1,k1],a∉[d2,b2,t2,k2]
theorem vP.symm {C:Addr} {H:Hp} {M:List Addr} {d1 k1 d2 k2:Addr} {e:Nat} (x:vP C H M d1 k1 d2 k2 e):vP C H M d2 k2 d1 k1 e:=by
 obtain ⟨b1,t1,b2,t2,L1,L2,i1,i2,s1,s2,o1,o2,l1,l2,nn⟩:=x.ex;exact ⟨⟨b2,t2,b1,t1,L2,L1,i2,i1,s2,s1,o2,o1,l2,l1,fun a h1 h2=>nn a h2 h1⟩⟩
theorem qB {C:Addr} {H H':Hp} {M:List Addr} {d b t k:Addr} {Ls:List (List (List Int))} {i:Nat} (x:mz C H M d b t k Ls i) (e:ah H H'):mz C H' M d b t k Ls i:=
 x.keep (W:=[]) (aE.of e) (by simp) (fun a h=>.inl h) (fun a h=>h) (by simp) fun a h=>let ⟨o,z⟩:=x.al a h; ⟨o,e _ _ z⟩
theorem vP.same {C:Addr} {H H':Hp} {M:List Addr} {d1 k1 d2 k2:Addr} {e:Nat} (x:vP C H M d1 k1 d2 k2 e) (h:ah H H'):vP C H' M d1 k1 d2 k2 e:=by
 obtain ⟨b1,t1,b2,t2,L1,L2,i1,i2,s1,s2,o1,o2,l1,l2,nn⟩:=x.ex;exact ⟨⟨b1,t1,b2,t2,L1,L2,i1,i2,qB s1 h,qB s2 h,o1,o2,l1,l2,nn⟩⟩
theorem vP.done {C:Addr} {H:Hp} {M:List Addr} {d1 k1 d2 k2:Addr} {e:Nat} {Q:VK} {E:XK} (x:vP C H M d1 k1 d2 k2 e) (he:e < 24) {n:Nat} (hn:n < 10 ^ 18) (q:∀ H' M',aE M H H'->(∀ a∈M',a∈M\/H a = none)->vP C H' M' d1 k1 d2 k2 (e + 1)->Q (.bl true) H'):sf C [.ref d1,.ref k1,.int (n:Int)] H Q E:=by
 obtain ⟨b1,t1,b2,t2,L1,L2,i1,i2,s1,s2,o1,o2,l1,l2,nn⟩:=x.ex;refine ⟨d1,b1,t1,k1,M,L1,i1,e,n,rfl,s1,o1,he,by omega,hn,fun H' M' t' WM Mj so m mm ht LX Uz XI=>?_⟩;refine q H' M' (so.mono s1.mem) m ⟨⟨b1,t',b2,t2,WM,L2,Mj,i2,LX,s2.keep so s1.mem m mm (fun a h z=>nn a z h) LX.al,Uz,fun L h=>(o2 L h).more,by omega,by omega,fun a h z=>?_⟩⟩;by_cases y:a = t'
 ·rcases ht with w | w
  ·exact nn a (by rw [y,w]; simp) z
  ·obtain ⟨o,al⟩:=s2.al a (s2.mem a z);rw [y,w] at al; cases al
 ·refine nn a ?_ z;simp only [mem_cons,not_mem_nil,or_false] at h ⊢;rcases h with h | h | h | h
  ·exact .inl h
  ·exact .inr (.inl h)
  ·exact absurd h y
  ·exact .inr (.inr (.inr h))
theorem vP.told {C:Addr} {H:Hp} {M:List Addr} {d1 k1 d2 k2:Addr} {e:Nat} {Q:VK} {E:XK} (x:vP C H M d1 k1 d2 k2 e) (q:∀ H',ah H H'->Q (.bl true) H'):rX C [.ref d1,.ref k1] H Q E:=by
 obtain ⟨b1,t1,b2,t2,L1,L2,i1,i2,s1,s2,o1,o2,l1,l2,nn⟩:=x.ex;obtain ⟨dx,p,ps,qs,g,gs,L,dk,hk,hg,gM,hL,⟨as,gp,np⟩,fg,fp,fq⟩:=s1.ex;obtain ⟨o,ho,os,go,no⟩:=fg.at hL;have ue:=o1 L (mem_of_getElem? hL);exact ⟨d1,dx,b1,t1,p,k1,g,o,ps,qs,as,gs,os,L,i1,rfl,dk,gp,ue.map,by have:=ue.len; omega,hk,hg,ho,go,q⟩
theorem E5 {C:Addr} {H:Hp} {M:List Addr} {d dx b t p k g q:Addr} {L:List (List Int)} (dk:jC C H d dx b t p [] []) (hk:H k = some (.lst [.int 0,.ref g])) (hg:H g = some (.lst [.ref q])) (gM:g∉M) (op:fJ M H p L) (oq:fJ M H q L) (mem:∀ a∈[d,b,t,k],a∈M) (al:∀ a∈M,∃ o,H a = some o) (kd:k≠d) (kb:k≠b) (kt:k≠t):mz C H M d b t k [L] 0:=
 ⟨⟨dx,p,[],[],g,[q],L,dk,hk,hg,gM,rfl,op,.cons oq .nil,.nil,.nil⟩,mem,al,kd,kb,kt⟩
abbrev Al (M:List Addr) (H:Hp):Prop:=∀ a∈M,∃ o,H a = some o
theorem Al.wb {M:List Addr} {H:Hp} {x:Addr} (al:Al M H) (h:H x = none):x∉M:=fun z=>by obtain ⟨o,e⟩:=al x z; rw [h] at e; cases e
theorem Al.later {M:List Addr} {H H':Hp} (al:Al M H) (e:ah H H'):Al M H':=fun a h=>let ⟨o,z⟩:=al a h; ⟨o,e _ _ z⟩
theorem Al.cons {M:List Addr} {H H':Hp} {x:Addr} {o:HO} (al:Al M H) (e:ah H H') (h:H' x = some o):Al (x :: M) H':=fun a ha=>(List.mem_cons.mp ha).elim (fun z=>⟨o,z▸h⟩) fun z=>al.later e a z
theorem Al.off {M W:List Addr} {H H':Hp} (al:Al M H) (e:aE W H H') (h:Al W H'):Al M H':=fun a ha=>by
 by_cases z:a∈W
 ·exact h a z
 ·obtain ⟨o,y⟩:=al a ha;exact ⟨o,e _ _ z y⟩
theorem fJ.grow {M:List Addr} {H H':Hp} {p x:Addr} {L:List (List Int)} (o:fJ M H p L) (e:ah H H') (h:H x = none):fJ (x :: M) H' p L:=o.keep (W:=[]) (aE.of e) (by simp) fun a ha=>(List.mem_cons.mp ha).elim (fun z=>.inr (z▸h)) .inl
theorem fJ.later {M:List Addr} {H H':Hp} {p:Addr} {L:List (List Int)} (o:fJ M H p L) (e:ah H H'):fJ M H' p L:=o.keep (W:=[]) (aE.of e) (by simp) fun a ha=>.inl ha
theorem fJ.new {M:List Addr} {H H':Hp} {p:Addr} {as:List Addr} {L:List (List Int)} (g:aJ H' p as L) (fr:∀ a∈p :: as,H a = none) (al:Al M H):fJ M H' p L:=⟨as,g,fun a ha=>al.wb (fr a ha)⟩
theorem JD {L:List (List Int)} (s:bY L) (h:L.length<=12):pA 0 L:=⟨s.map,⟨_,s.sn⟩,by have:=s.two; omega,by omega,by have:=s.sn.Ac h; omega⟩
local macro_rules | `(tactic| walk_at "q")=>`(tactic| first
 | with_reducible refine r_seq ?_ | with_reducible refine r_asg ?_ | with_reducible refine r_gname ?_ | with_reducible refine r_op ?_ | with_reducible refine r_c ?_
 | ((with_reducible refine' r_var ?hv ?_); case' hv=>exact rfl)
 | with_reducible refine qJ ?_ | with_reducible refine Nz ?_ | with_reducible refine NB ?_ | with_reducible refine Jk ?_ | with_reducible refine Jf ?_
 | with_reducible refine uH ?_ | with_reducible refine NA ?_ | with_reducible refine Gh ?_ | with_reducible refine E9 ?_ | with_reducible refine F8 ?_ | with_reducible refine T3 ?_ | with_reducible refine NH ?_
 | with_reducible refine Je ?_ | with_reducible refine Jm ?_ | with_reducible refine NC ?_ | with_reducible refine NI ?_ | with_reducible refine Jd ?_ | with_reducible refine ND ?_ | with_reducible refine Q6 ?_
 | with_reducible refine uI ?_ | with_reducible refine wI ?_ | with_reducible refine Gk ?_ | with_reducible refine NF ?_ | with_reducible refine Jb ?_ | with_reducible refine Jh ?_ | with_reducible refine sx ?_
 | with_reducible refine DA ?_ | with_reducible refine Gg ?_ | with_reducible refine Jc ?_ | with_reducible refine Oq ?_ | with_reducible refine RL ?_ | with_reducible refine Ot ?_ | with_reducible refine Ou ?_
 | ((with_reducible refine jN ?hc ?_); case' hc=>walk_at "side")
 | ((with_reducible refine' Bd ?hp ?hi ?_); (case' hp=>walk_at "seq"); (case' hi=>exact rfl))
 | ((with_reducible refine' aR ?hp ?hi ?_); (case' hp=>walk_at "seq"); (case' hi=>exact rfl))
 | ((with_reducible refine' iB ?hp ?hi ?_); (case' hp=>walk_at "seq"); (case' hi=>exact rfl))
 | ((with_reducible refine And.intro ?hl ?_); case' hl=>(first | exact LR | exact TC))
 | with_reducible refine NG ?_ | with_reducible refine Jl ?_ | with_reducible refine Bc ?_ | with_reducible refine Ji ?_ | with_reducible refine Gd ?_ | with_reducible refine Dy ?_ | with_reducible refine LZ ?_ | with_reducible refine Bh ?_ | with_reducible refine Q7 ?_ | with_reducible refine Gi ?_ | with_reducible refine Bb ?_ | with_reducible refine Ge ?_ | with_reducible refine Gf ?_ | with_reducible refine Jj ?_ | with_reducible refine Ga ?_
 | dsimp only)
local macro_rules | `(tactic| walk_at "r")=>`(tactic| repeat walk_at "q")
local macro_rules | `(tactic| walk_at "blk_vis")=>`(tactic| first | exact Or.inl rfl | exact Or.inr (Or.inl rfl) | exact Or.inr (Or.inr rfl))
local macro_rules | `(tactic| walk_at "blk_ok")=>`(tactic| exact ⟨rfl,by decide +kernel,by decide +kernel,rfl,by (first | exact trivial | exact ⟨rfl,trivial⟩ | exact ⟨rfl,rfl,trivial⟩ | exact ⟨rfl,rfl,rfl,trivial⟩ | exact ⟨rfl,rfl,rfl,rfl,trivial⟩ | exact ⟨rfl,rfl,rfl,rfl,rfl,trivial⟩),rfl,
 by (first | exact cG | exact aW ⟨rfl,by walk_at "blk_vis",rfl,rfl⟩ cG | exact aW ⟨rfl,by walk_at "blk_vis",rfl,rfl⟩ (aW ⟨rfl,by walk_at "blk_vis",rfl,rfl⟩ cG) | exact aW ⟨rfl,by walk_at "blk_vis",rfl,rfl⟩ (aW ⟨rfl,by walk_at "blk_vis",rfl,rfl⟩ (aW ⟨rfl,by walk_at "blk_vis",rfl,rfl⟩ cG)) | exact aW ⟨rfl,by walk_at "blk_vis",rfl,rfl⟩ (aW ⟨rfl,by walk_at "blk_vis",rfl,rfl⟩ (aW ⟨rfl,by walk_at "blk_vis",rfl,rfl⟩ (aW ⟨rfl,by walk_at "blk_vis",rfl,rfl⟩ cG)))),
 by (first | exact aW rfl (aW rfl (aW rfl (aW rfl cG))) | exact cG | exact aW rfl cG | exact aW rfl (aW rfl cG) | exact aW rfl (aW rfl (aW rfl cG)))⟩)
local macro_rules | `(tactic| walk_at "blk_ok1")=>`(tactic| exact ⟨rfl,fun _=>rfl,fun _=>rfl,by decide +kernel,rfl,by (first | exact trivial | exact ⟨rfl,trivial⟩ | exact ⟨rfl,rfl,trivial⟩ | exact ⟨rfl,rfl,rfl,trivial⟩ | exact ⟨rfl,rfl,rfl,rfl,trivial⟩),rfl,
 by (first | exact cG | exact aW ⟨rfl,by walk_at "blk_vis",⟨rfl,rfl⟩,rfl⟩ cG | exact aW ⟨rfl,by walk_at "blk_vis",⟨rfl,rfl⟩,rfl⟩ (aW ⟨rfl,by walk_at "blk_vis",⟨rfl,rfl⟩,rfl⟩ cG) | exact aW ⟨rfl,by walk_at "blk_vis",⟨rfl,rfl⟩,rfl⟩ (aW ⟨rfl,by walk_at "blk_vis",⟨rfl,rfl⟩,rfl⟩ (aW ⟨rfl,by walk_at "blk_vis",⟨rfl,rfl⟩,rfl⟩ cG))),
 by (first | exact cG | exact aW rfl cG | exact aW rfl (aW rfl cG) | exact aW rfl (aW rfl (aW rfl cG)))⟩)
local macro_rules | `(tactic| walk_at "side")=>`(tactic| first | assumption | exact (show (0:Int) < _ by decide) | exact ED (by decide) (by decide) | exact EE (by decide) (by decide) | exact mulL (by decide) (by decide))
local macro_rules | `(tactic| walk_at "f3")=>`(tactic| first | exact (show (3:Nat) < 1000 by decide) | exact (show (2:Nat) < 1000 by decide) | exact (show (1:Nat) < 1000 by decide) | exact (show (0:Nat) < 1000 by decide))
local macro_rules | `(tactic| walk_at "L")=>`(tactic| first | exact Or.inl rfl | exact Or.inr rfl)
local macro_rules | `(tactic| walk_at "seq")=>`(tactic| first | assumption | exact SqT.of (by assumption))
section
variable {P:Program} {w:World} {K:PySem.W.Frag} {mg:Str->Option Value} {base:Heap} {Z:SX}
theorem l5:aG ["_law_script", "_law_k"] ["_law_script", "_law_k"] (ao eW):=⟨rfl,rfl,rfl,by decide +kernel,rfl,by decide +kernel,by decide +kernel⟩
theorem mh (D:Def K mg "_law_cell_at" eW ["_law_script", "_law_k"]) (T:Txt K mg Z):cw P w K mg base (bo P w) "_law_cell_at" 1 ["_law_script", "_law_k"] (xZ K):=by
 refine D.dh l5 (fun vs H Q E h=>?_) (fun f bN A o s H vs Q E hr h=>?_)
 ·obtain ⟨a,ns,k,rfl,_⟩:=h; rfl
 ·obtain ⟨a,ns,k,rfl,hS,hk,q⟩:=h;refine ⟨_,(ag (aZ (ax lI (pv 1) (ar aM (by rfl) T.len aQ (aa (pv 0) af)) (aL _)) (aj (aP (aI au (pv 0) (pv 1) (fun _ _=>rfl)))) aK)
   (aj (aP ai))),?_⟩
  dsimp only [b8];walk_at "r";refine ⟨_,_,rfl,.inl ⟨_,hS,rfl⟩,?_⟩;walk_at "r";refine if2 (fun ef=>?_) (fun ef=>?_)
  ·walk_at "r";obtain ⟨j,rfl⟩:=Int.eq_ofNat_of_zero_le hk;have hj:j < ns.length:=by rw [length_map] at ef; omega
   refine aR hS (eO (j:=j) (v:=V.int ns[j]) (by simp [hj])) ?_;exact q _
  ·walk_at "r";exact q _
theorem cZ:aG ["_law_script", "_law_k", "_law_cell", "_law_j"] ["_law_script", "_law_k"] (ao gi):=⟨rfl,rfl,rfl,by decide +kernel,rfl,by decide +kernel,by decide +kernel⟩
theorem pR (D:Def K mg "_law_block" gi ["_law_script", "_law_k"]) (T:Txt K mg Z):cw P w K mg base (bo P w) "_law_block" 1 ["_law_script", "_law_k"] (gZ K):=by
 refine D.dh cZ (fun vs H Q E h=>?_) (fun f bN A o s H vs Q E hr h=>?_)
 ·obtain ⟨a,ns,k,rfl,_⟩:=h; rfl
 ·obtain ⟨a,ns,k,rfl,hS,R4,yF,q⟩:=h;refine ⟨_,(ag (az (i:=2) cZ.nd rfl (by walk_at "L") ai)
   (ag (aZ (ax lI (aD dG ai (aD a9 (aD bJ (pv 1) ai) ai)) (ar aM (by rfl) T.len aQ (aa (pv 0) af)) (aL _)) (aj (az (i:=2) cZ.nd rfl (by walk_at "L") (aD bJ (aI au (pv 0) (aD dG ai (aD a9 (aD bJ (pv 1) ai) ai)) (fun _ _=>rfl)) (jS (v:=10000000000000000000000000000000000000000000000000000000000000000) nU ai ai ⟨by decide,by decide,by decide⟩ (by decide +kernel))))) aK)
   (ag (bZ PassesOwn.never rfl (cU rfl T.range (aa (aD a9 (pv 1) ai) af)) (aN (i:=3) cZ.nd rfl (by walk_at "L"))
   (aj (az (i:=2) cZ.nd rfl (by walk_at "L") (aD bJ (pv 2) ai))))
   (aj (aP (aD a9 (pv 2) ai)))))),?_⟩
  dsimp only [b8];walk_at "r";refine ⟨_,_,rfl,.inl ⟨_,hS,rfl⟩,?_⟩;walk_at "r";refine if2 (fun ef=>?_) (fun ef=>?_)
  ·walk_at "r";rw [length_map] at ef;obtain ⟨n0,Ib⟩:=sU (ns:=ns) (k:=1 + k / 8 % 62) (by omega) ef;refine aR hS Ib ?_;walk_at "r";refine cW ?_;refine ⟨_,rfl,_,_,rfl,rfl,(show (0:Int) < 8 by decide),k % 8,rfl,by omega,by omega,dv (fun i σ H1=>∃ (c:Int) (v:Option V),σ = [some (.ref a),some (.int k),some (.int c),v]/\H1 = H) ⟨_,_,rfl,rfl⟩ ?_ ?_⟩
   ·rintro i σ H1 hi ⟨c,v,rfl,rfl⟩;walk_at "r";exact ⟨_,_,rfl,rfl⟩
   ·rintro σ H1 ⟨c,v,rfl,rfl⟩;walk_at "r";exact q _ (Int.emod_nonneg _ (by decide)) (Int.emod_lt_of_pos _ (by decide))
  ·walk_at "r";refine cW ?_;refine ⟨_,rfl,_,_,rfl,rfl,(show (0:Int) < 8 by decide),k % 8,rfl,by omega,by omega,dv (fun i σ H1=>∃ (c:Int) (v:Option V),σ = [some (.ref a),some (.int k),some (.int c),v]/\H1 = H) ⟨_,_,rfl,rfl⟩ ?_ ?_⟩
   ·rintro i σ H1 hi ⟨c,v,rfl,rfl⟩;walk_at "r";exact ⟨_,_,rfl,rfl⟩
   ·rintro σ H1 ⟨c,v,rfl,rfl⟩;walk_at "r";exact q _ (Int.emod_nonneg _ (by decide)) (Int.emod_lt_of_pos _ (by decide))
theorem cD:aG ["_law_script", "_law_k", "_law_cell", "_law_number"] ["_law_script", "_law_k"] (ao gf):=⟨rfl,rfl,rfl,by decide +kernel,rfl,by decide +kernel,by decide +kernel⟩
theorem pO (D:Def K mg "_law_mixed" gf ["_law_script", "_law_k"]) (T:Txt K mg Z) (tK:cw P w K mg base (bo P w) "_law_block" 1 ["_law_script", "_law_k"] (gZ K)):cw P w K mg base (bo P w) "_law_mixed" 2 ["_law_script", "_law_k"] (gZ K):=by
 refine D.dh cD (fun vs H Q E h=>?_) (fun f bN A o s H vs Q E hr h=>?_)
 ·obtain ⟨a,ns,k,rfl,_⟩:=h; rfl
 ·obtain ⟨a,ns,k,rfl,hS,R4,yF,q⟩:=h;refine ⟨_,(ag (az (i:=2) cD.nd rfl (by walk_at "L") ai)
   (ag (aZ (ax Bs (ar aM (by rfl) T.len aQ (aa (pv 0) af)) ai (aL _)) (aj (az (i:=2) cD.nd rfl (by walk_at "L") (aI au (pv 0) ai (fun _ _=>rfl)))) aK)
   (ag (aZ (ax cX (aD a9 (aD bJ (pv 2) (jS (v:=1000000) nU ai ai ⟨by decide,by decide,by decide⟩ (by decide +kernel))) ai) ai (aL _)) (aj (aP (aA tK hr aX (aa (pv 0) (aa (pv 1) af))))) aK)
   (ag (aZ (ax Bs (ar aM (by rfl) T.len aQ (aa (pv 0) af)) ai (aL _)) (aj (az (i:=2) cD.nd rfl (by walk_at "L") (aI au (pv 0) (aD a9 (pv 1) (ar (rF rfl) (by rfl) T.min tT (aa ai (aa (ar aM (by rfl) T.len aQ (aa (pv 0) af)) af)))) (fun _ _=>rfl)))) aK)
   (ag (az (i:=3) cD.nd rfl (by walk_at "L") (aD dG (aD a9 (pv 2) (jS (v:=1000000000000000000) nU ai ai ⟨by decide,by decide,by decide⟩ (by decide +kernel))) (aD fF ai (aD dG (pv 1) ai))))
   (ag (az (i:=3) cD.nd rfl (by walk_at "L") (aD dG (aD a9 (aD fF (pv 3) (pv 3)) ai) (aD fF ai (pv 1))))
   (aj (aP (aD a9 (aD fF (pv 3) (pv 3)) ai))))))))),?_⟩
  dsimp only [b8];walk_at "r";refine ⟨_,_,rfl,.inl ⟨_,hS,rfl⟩,?_⟩;walk_at "r";refine if2 (fun vp=>?_) (fun vp=>?_)
  ·walk_at "r";rw [length_map] at vp;obtain ⟨n0,Ib⟩:=sU (ns:=ns) (k:=0) (by omega) vp;refine aR hS Ib ?_;walk_at "r";refine if2 (fun _=>?_) (fun _=>?_)
   ·walk_at "r";exact ⟨a,ns,k,rfl,hS,R4,yF,q⟩
   ·walk_at "r";refine ⟨_,_,rfl,.inl ⟨_,hS,rfl⟩,?_⟩;walk_at "r";rw [length_map];refine if2 (fun _=>?_) (fun h=>absurd vp h);walk_at "r";refine ⟨_,_,rfl,.inl ⟨_,hS,rfl⟩,?_⟩;walk_at "r";rw [length_map];refine ⟨_,_,rfl,?_⟩;have mp:0 < (if (ns.length:Int) < 63 then (ns.length:Int) else 63):=by split <;> omega
    have ml:(if (ns.length:Int) < 63 then (ns.length:Int) else 63)<=ns.length:=by split <;> omega
    generalize (if (ns.length:Int) < 63 then (ns.length:Int) else 63) = mm at mp ml ⊢;walk_at "r";have i0:=Int.emod_nonneg k (show mm≠0 by omega);have i1:=Int.emod_lt_of_pos k mp;obtain ⟨n1,VE⟩:=sU (ns:=ns) (k:=k % mm) i0 (by omega);refine aR hS VE ?_;walk_at "r";generalize n1 = cc;have c0:=Int.emod_nonneg cc (show (1000000000000000000:Int)≠0 by decide);have c1:=Int.emod_lt_of_pos cc (show (0:Int) < 1000000000000000000 by decide);generalize cc % 1000000000000000000 = r at c0 c1 ⊢;have hm:IntMulOk (r + 48271 * (k + 1)) (r + 48271 * (k + 1)):=mulL (by omega) (by omega);walk_at "r";generalize (r + 48271 * (k + 1)) * (r + 48271 * (k + 1)) = zz;have z0:=Int.emod_nonneg zz (show (2147483629:Int)≠0 by decide);have z1:=Int.emod_lt_of_pos zz (show (0:Int) < 2147483629 by decide);generalize zz % 2147483629 = r2 at z0 z1 ⊢;have Ic:IntMulOk (r2 + 69621 * k) (r2 + 69621 * k):=mulL (by omega) (by omega);walk_at "r";exact q _ (Int.emod_nonneg _ (by decide)) (Int.emod_lt_of_pos _ (by decide))
  ·walk_at "r";rw [length_map] at vp;refine if2 (fun z=>absurd z (by decide)) (fun _=>?_);walk_at "r";refine ⟨_,_,rfl,.inl ⟨_,hS,rfl⟩,?_⟩;walk_at "r";rw [length_map];refine if2 (fun h=>absurd h vp) (fun _=>?_);walk_at "r";generalize CO:(0:Int) % 1000000000000000000 = r;have c0:0<=r:=by omega
   have c1:r < 1000000000000000000:=by omega
   have hm:IntMulOk (r + 48271 * (k + 1)) (r + 48271 * (k + 1)):=mulL (by omega) (by omega);walk_at "r";generalize (r + 48271 * (k + 1)) * (r + 48271 * (k + 1)) = zz;have z0:=Int.emod_nonneg zz (show (2147483629:Int)≠0 by decide);have z1:=Int.emod_lt_of_pos zz (show (0:Int) < 2147483629 by decide);generalize zz % 2147483629 = r2 at z0 z1 ⊢;have Ic:IntMulOk (r2 + 69621 * k) (r2 + 69621 * k):=mulL (by omega) (by omega);walk_at "r";exact q _ (Int.emod_nonneg _ (by decide)) (Int.emod_lt_of_pos _ (by decide))
theorem bw:aG ["_law_orders", "_law_gone", "_law_found", "_law_one", "_law_other", "_law_ring", "_law_here", "_law_there", "_law_order"] ["_law_orders"] (ao gc):=⟨rfl,rfl,rfl,by decide +kernel,rfl,by decide +kernel,by decide +kernel⟩
theorem pN (D:Def K mg "_law_rings" gc ["_law_orders"]) (T:Txt K mg Z):cw P w K mg base (bo P w) "_law_rings" 1 ["_law_orders"] uw:=by
 refine D.dh bw (fun vs H Q E h=>?_) (fun f bN A o s H vs Q E hr h=>?_)
 ·obtain ⟨p,as,L,rfl,_⟩:=h; rfl
 ·obtain ⟨p,as,L,rfl,g,im,hn,hd,q⟩:=h;refine ⟨_,(ag (az (i:=1) bw.nd rfl (by walk_at "L") nT)
   (ag (az (i:=2) bw.nd rfl (by walk_at "L") (aY af))
   (ag (bZ PassesOwn.never rfl (cU rfl T.range (aa (ar aM (by rfl) T.len aQ (aa (pv 0) af)) af)) (aN (i:=3) bw.nd rfl (by walk_at "L"))
   (aj (bZ PassesOwn.never rfl (bM (aI au (pv 0) (pv 3) (fun _ _=>rfl))) (aN (i:=4) bw.nd rfl (by walk_at "L"))
   (aj (aZ (sF (kQ (oG hr) (fP (aa (pv 3) (aa (pv 4) af))) (pv 1))) (ag (az (i:=5) bw.nd rfl (by walk_at "L") (aY af))
   (ag (az (i:=6) bw.nd rfl (by walk_at "L") (pv 3))
   (ag (az (i:=7) bw.nd rfl (by walk_at "L") (pv 4))
   (ag (uL PassesOwn.never (sF (kQ (oG hr) (fP (aa (pv 6) (aa (pv 7) af))) (pv 1))) (ag (sG (oG hr) (pv 1) (fP (aa (pv 6) (aa (pv 7) af))) cA rfl)
   (ag (aU (b7 PySem.F.plainAttrs_list PySem.F.slot_list_append PySem.F.type_list_append bC (pv 5) (aa (pv 6) af)))
   (ag (az (i:=8) bw.nd rfl (by walk_at "L") (aI au (pv 0) (pv 7) (fun _ _=>rfl)))
   (aj (Gr (i:=6) (j:=7) rfl bw.nd rfl rfl (by decide) rfl rfl (aa (pv 7) (aa (aI au (pv 8) (aD gu (b7 PySem.F.plainAttrs_list PySem.F.slot_list_index PySem.F.type_list_index ff (pv 8) (aa (pv 6) af)) ai) (fun _ _=>rfl)) af)) rfl))))))
   (aj (aU (b7 PySem.F.plainAttrs_list PySem.F.slot_list_append PySem.F.type_list_append bC (pv 2) (aa (pv 5) af)))))))) aK)))))
   (aj (aP (pv 2)))))),?_⟩
  dsimp only [b8];walk_at "r";intro gd B2;walk_at "r";refine ⟨Nat.zero_le _,fun t ht=>?_⟩;have tH:H t = none:=(ah.upd B2).free ht;have e0:ah H (upd (upd H gd (.dT [])) t (.lst [])):=(ah.upd B2).trans (ah.upd ht);have g0:upd (upd H gd (.dT [])) t (.lst []) gd = some (.dT (kD [])):=by rw [ak (aB ae ht)]; exact ae
  have t0:aJ (upd (upd H gd (.dT [])) t (.lst [])) t [] []:=⟨ae,rfl,fun i a l z=>by simp at z⟩;generalize upd (upd H gd (.dT [])) t (.lst []) = H0 at e0 g0 t0 ⊢;walk_at "r";refine cW ?_;refine ⟨_,rfl,_,_,rfl,.inl ⟨_,aw.of (e0 _ _ g.top),rfl⟩,(L.length:Int),by rw [length_map,g.len],by omega,by omega,?_⟩;rw [Int.toNat_natCast];refine dv (fun i σ H1=>∃ (bs:List Addr) (R:List (List aq)) (v3 v4 v5 v6 v7 v8:Option V),σ = [some (.ref p),some (.ref gd),some (.ref t),v3,v4,v5,v6,v7,v8]/\ah H H1/\H1 gd = some (.dT (kD R.flatten))/\aJ H1 t bs (R.map fun c=>c.map (·.1))/\(t :: bs).Nodup/\(∀ b∈t :: bs,H b = none)/\Dp L R/\∀ d,Dt L d->d.1 < i->d∈R.flatten)
   ⟨[],[],none,none,none,none,none,none,rfl,e0,g0,t0,by simp,by simpa using tH,Dp.start,fun d h1 h2=>by have:=h1.lo; omega⟩ ?_ ?_
  ·rintro i σ H1 hi ⟨bs,R,v3,v4,v5,v6,v7,v8,rfl,e1,g1,t1,iT,gR,BH,CY⟩;obtain ⟨b,l,ha,hl,b5⟩:=g.at hi;simp only [Int.zero_add];have el:rowOf L (i:Int) = l:=by
    have:=ay (L:=L) (a:=(i:Int)) (by omega) (by omega);rw [Int.toNat_natCast,hl] at this;exact (Option.some.inj this).symm
   walk_at "r";refine cW ?_;refine ⟨_,rfl,_,rfl,aR (aw.of (e1 _ _ g.top)) (g.ix ha) ?_⟩;refine ⟨b,rfl,⟨_,aw.of (e1 _ _ b5)⟩,dO (K:=K) (a:=b) (xs:=l.map V.int) (fun k σ H3=>∃ (bs:List Addr) (R:List (List aq)) (v4 v5 v6 v7 v8:Option V),σ = [some (.ref p),some (.ref gd),some (.ref t),some (.int (i:Int)),v4,v5,v6,v7,v8]/\ah H H3/\H3 gd = some (.dT (kD R.flatten))/\aJ H3 t bs (R.map fun c=>c.map (·.1))/\(t :: bs).Nodup/\(∀ b∈t :: bs,H b = none)/\Dp L R/\∀ d,Dt L d->d.1 < i\/d.1 = i/\d.2∈l.take k->d∈R.flatten)
    ⟨bs,R,v4,v5,v6,v7,v8,rfl,e1,g1,t1,iT,gR,BH,fun d h1 h2=>CY d h1 (h2.elim id fun z=>by simp at z)⟩ (fun k σ H3 _ ⟨_,_,_,_,_,_,_,_,e,_⟩=>aw.of (e _ _ b5)) ?_ ?_⟩
   ·clear bs R v3 v4 v5 v6 v7 v8 e1 g1 t1 iT gR BH CY;rintro k x σ H3 hx ⟨bs,R,v4,v5,v6,v7,v8,rfl,e3,g3,t3,uf,pZ,Az,Ak⟩;obtain ⟨y,hy,rfl⟩:∃ y,l[k]? = some y/\x = V.int y:=by
     rw [getElem?_map] at hx;cases e:l[k]? with
     | none=>rw [e] at hx; cases hx
     | some z=>rw [e] at hx; exact ⟨z,rfl,(Option.some.inj hx).symm⟩
    have dt:Dt L ((i:Int),y):=⟨by simp,by simpa using hi,by rw [el]; exact mem_of_getElem? hy⟩;walk_at "r";intro q1 OK;have e4:ah H3 (upd H3 q1 (.tup [.int i,.int y])):=ah.upd OK;have k4:upd H3 q1 (.tup [.int i,.int y]) q1 = some (.tup ((eL ((i:Int),y)).map kV)):=ae;generalize upd H3 q1 (.tup [.int i,.int y]) = H4 at e4 k4 ⊢;refine ⟨_,rfl,gd,_,rfl,iR.t (k:=eL ((i:Int),y)) (e4 _ _ g3) k4,?_⟩;rw [fT];walk_at "r";refine i9 (fun Ia=>?_) (fun JY=>?_)
    ·obtain ⟨n,n0,ek,nr⟩:=oW im dt;have dp:=Az.add im dt n0 ek nr Ia;have lb:=dp.len;have lf:=Dp.Ac fun c hc=>(Az.jB c hc).ne;rw [flatten_append,flatten_singleton,length_append] at lb;have tn:∀ j,(tr L ((i:Int),y) j).length = j:=fun j=>by unfold tr; simp
     rw [tn] at lb;walk_at "r";refine ⟨Nat.zero_le _,fun r CO=>?_⟩;have g4:=e4 _ _ g3;have t4:=t3.same e4;have nc:=t4.fe CO;have rH:H r = none:=(e3.trans e4).free CO;have e5:ah H (upd H4 r (.lst [])):=(e3.trans e4).trans (ah.upd CO);have g5:upd H4 r (.lst []) gd = some (.dT (kD (R.flatten ++ tr L ((i:Int),y) 0))):=by
      rw [ak (aB g4 CO),show tr L ((i:Int),y) 0 = [] from rfl,append_nil]; exact g4
     have t5:=t4.same (ah.upd (o:=.lst []) CO);have r5:upd H4 r (.lst []) r = some (.lst ((aH L ((i:Int),y) 0).map V.int)):=ae;generalize upd H4 r (.lst []) = H5 at e5 g5 t5 r5 ⊢;walk_at "r";refine xQ (fun σ H6=>∃ (j:Nat) (v8:Option V),σ = [some (.ref p),some (.ref gd),some (.ref t),some (.int (i:Int)),some (.int y),some (.ref r),some (.int (it L ((i:Int),y) j).1),some (.int (it L ((i:Int),y) j).2),v8]/\j<=n/\ah H H6/\H6 gd = some (.dT (kD (R.flatten ++ tr L ((i:Int),y) j)))/\aJ H6 t bs (R.map fun c=>c.map (·.1))/\H6 r = some (.lst ((aH L ((i:Int),y) j).map V.int)))
      (fun _ H6=>match H6 r with | some (.lst xs)=>n - xs.length | _=>0) ⟨0,v8,rfl,Nat.zero_le _,e5,g5,t5,r5⟩ ?_
     rintro σ H6 ⟨j,w8,rfl,hj,e6,g6,t6,r6⟩;walk_at "r";intro q7 Vv;have e7:ah H6 (upd H6 q7 (.tup [.int (it L ((i:Int),y) j).1,.int (it L ((i:Int),y) j).2])):=ah.upd Vv;have k7:upd H6 q7 (.tup [.int (it L ((i:Int),y) j).1,.int (it L ((i:Int),y) j).2]) q7 = some (.tup ((eL (it L ((i:Int),y) j)).map kV)):=ae;generalize upd H6 q7 (.tup [.int (it L ((i:Int),y) j).1,.int (it L ((i:Int),y) j).2]) = H7 at e7 k7 ⊢;have g7:=e7 _ _ g6;have t7:=t6.same e7;have r7:=e7 _ _ r6;refine ⟨_,rfl,gd,_,rfl,iR.t (k:=eL (it L ((i:Int),y) j)) g7 k7,?_⟩;rw [fT];have rl:∀ j,((aH L ((i:Int),y) j).map V.int).length = j:=fun j=>by unfold aH; simp
     have ts:tr L ((i:Int),y) (j + 1) = tr L ((i:Int),y) j ++ [it L ((i:Int),y) j]:=by unfold tr; rw [range_succ,map_append]; rfl
     walk_at "r";refine i9 (fun Ei=>?_) (fun hold=>?_)
     ·have jn:j < n:=by
       refine Nat.lt_of_le_of_ne hj fun z=>Ei (mem_append_right _ ?_);rw [z,ek];exact List.mem_map.mpr ⟨0,List.mem_range.mpr n0,rfl⟩
      have Wm:=lP im dt j;obtain ⟨b0,b1,b2,b3⟩:=Wm.back im;obtain ⟨c2,l2,Wy,SG,PN⟩:=g.at (i:=(it L ((i:Int),y) j).2.toNat) (by omega);have Wh:l2 = rowOf L (it L ((i:Int),y) j).2:=by rw [ay b0 b1] at SG; exact (Option.some.inj SG).symm
      subst Wh;have i2:gT (as.map V.ref) (it L ((i:Int),y) j).2 = some (V.ref c2):=by
       have:=g.ix Wy;rwa [Int.toNat_of_nonneg b0] at this
      refine w_turn ?_;rw [r6];dsimp only;walk_at "r";intro q8 OJ;have e8:ah H7 (upd H7 q8 (.tup [.int (it L ((i:Int),y) j).1,.int (it L ((i:Int),y) j).2])):=ah.upd OJ;have k8:upd H7 q8 (.tup [.int (it L ((i:Int),y) j).1,.int (it L ((i:Int),y) j).2]) q8 = some (.tup ((eL (it L ((i:Int),y) j)).map kV)):=ae;generalize upd H7 q8 (.tup [.int (it L ((i:Int),y) j).1,.int (it L ((i:Int),y) j).2]) = H8 at e8 k8 ⊢;have g8:=e8 _ _ g7;refine ⟨gd,_,rfl,uc.t (k:=eL (it L ((i:Int),y) j)) g8 k8 ?_,?_⟩
      ·rw [BQ,length_append,tn];exact aF (by omega)
      ·rw [uJ Ei,append_assoc,<- ts];have e9:ah H (upd H8 gd (.dT (kD (R.flatten ++ tr L ((i:Int),y) (j + 1))))):=ah.fresh ((e6.trans e7).trans e8) B2;have g9:upd H8 gd (.dT (kD (R.flatten ++ tr L ((i:Int),y) (j + 1)))) gd = some (.dT (kD (R.flatten ++ tr L ((i:Int),y) (j + 1)))):=ae;have t9:=(t7.same e8).other (o:=.dT (kD (R.flatten ++ tr L ((i:Int),y) (j + 1)))) g8;have r8:=e8 _ _ r7;have r9:upd H8 gd (.dT (kD (R.flatten ++ tr L ((i:Int),y) (j + 1)))) r = some (.lst ((aH L ((i:Int),y) j).map V.int)):=by
        rw [ak (fun z=>by rw [z,g8] at r8; cases r8)]; exact r8
       generalize upd H8 gd (.dT (kD (R.flatten ++ tr L ((i:Int),y) (j + 1)))) = H9 at e9 g9 t9 r9 ⊢;walk_at "r";refine ⟨.inl ⟨rfl,_,aw.of r9⟩,?_⟩;walk_at "r";refine bV r9 (by rw [rl]; exact aF (by omega)) ?_;have er:(aH L ((i:Int),y) j).map V.int ++ [V.int (it L ((i:Int),y) j).1] = (aH L ((i:Int),y) (j + 1)).map V.int:=by
        unfold aH;rw [range_succ,map_append,map_append]
        rfl
       rw [er];have eA:ah H (upd H9 r (.lst ((aH L ((i:Int),y) (j + 1)).map V.int))):=ah.fresh e9 rH;have gA:upd H9 r (.lst ((aH L ((i:Int),y) (j + 1)).map V.int)) gd = some (.dT (kD (R.flatten ++ tr L ((i:Int),y) (j + 1)))):=by
        rw [ak (fun z=>by rw [<- z,g9] at r9; cases r9)]; exact g9
       have tA:aJ (upd H9 r (.lst ((aH L ((i:Int),y) (j + 1)).map V.int))) t bs (R.map fun c=>c.map (·.1)):=t9.away nc;have rA:upd H9 r (.lst ((aH L ((i:Int),y) (j + 1)).map V.int)) r = some (.lst ((aH L ((i:Int),y) (j + 1)).map V.int)):=ae;generalize upd H9 r (.lst ((aH L ((i:Int),y) (j + 1)).map V.int)) = HA at eA gA tA rA ⊢;walk_at "r";refine aR (aw.of (eA _ _ g.top)) i2 ?_;walk_at "r";refine ⟨.inl ⟨rfl,_,aw.of (eA _ _ PN)⟩,?_⟩;walk_at "r";refine ⟨c2,_,_,rfl,rfl,eA _ _ PN,b3,?_⟩;walk_at "r";refine aR (aw.of (eA _ _ PN)) (y8 b3) ?_;walk_at "r";refine ⟨_,_,rfl,⟨j + 1,_,rfl,jn,eA,gA,tA,rA⟩,?_⟩;rw [rA];dsimp only;rw [rl,rl];omega
     ·have jn:j = n:=by
       refine Nat.le_antisymm hj (Nat.le_of_not_lt fun z=>?_);rcases List.mem_append.mp hold with w | w
       ·exact Az.new n0 ek Ia j w
       ·have nd:=jE im dt nr;have ej:(tr L ((i:Int),y) n)[j]? = some (it L ((i:Int),y) j):=by unfold tr; simp [z]
        have:=eK (A:=[]) (by simpa using nd) ej;refine this ?_;have et:(tr L ((i:Int),y) n).take j = tr L ((i:Int),y) j:=by
         unfold tr;rw [<- map_take,take_range,Nat.min_eq_left (by omega)]
        rw [et];exact mem_append_right _ w
      subst jn;have Wl:=e6.trans e7;walk_at "r";refine ⟨.inl ⟨rfl,_,aw.of t7.top⟩,?_⟩;walk_at "r";have zb:=t7.len;rw [length_map] at zb;refine bV t7.top (by rw [length_map]; exact aF (by omega)) ?_;have JM:r≠t:=fun z=>nc (z▸mem_cons_self);have er:aH L ((i:Int),y) j = (tr L ((i:Int),y) j).map (·.1):=by unfold aH tr; rw [map_map]; rfl
      rw [er] at r7;have t8:=t7.snoc (List.nodup_cons.mp uf).1 JM r7;have g8:upd H7 t (.lst (bs.map V.ref ++ [.ref r])) gd = some (.dT (kD (R.flatten ++ tr L ((i:Int),y) j))):=by
       rw [ak (fun z=>by have:=t7.top; rw [<- z,g7] at this; cases this)]; exact g7
      refine ⟨bs ++ [r],R ++ [tr L ((i:Int),y) j],_,_,_,_,_,rfl,ah.fresh Wl tH,?_,?_,?_,fun b hb=>?_,dp,fun d h1 h2=>?_⟩
      ·rw [flatten_append,flatten_singleton]; exact g8
      ·rw [map_append]; exact t8
      ·obtain ⟨n1,n2⟩:=List.nodup_cons.mp uf;refine List.nodup_cons.mpr ⟨fun z=>?_,dX.mpr ⟨fun z=>nc (mem_cons_of_mem _ z),n2⟩⟩;rcases List.mem_append.mp z with z | z
       ·exact n1 z
       ·exact JM (List.mem_singleton.mp z).symm
      ·rcases List.mem_cons.mp hb with z | z
       ·rw [z]; exact tH
       ·rcases List.mem_append.mp z with z | z
        ·exact pZ b (mem_cons_of_mem _ z)
        ·rw [List.mem_singleton.mp z]; exact rH
      ·rw [flatten_append,flatten_singleton];rw [take_snoc hy] at h2;by_cases z:d = ((i:Int),y)
       ·rw [z];exact mem_append_right _ (List.mem_map.mpr ⟨0,List.mem_range.mpr n0,rfl⟩)
       ·refine mem_append_left _ (Ak d h1 ?_);rcases h2 with h2 | ⟨h2,h3⟩
        ·exact .inl h2
        ·rcases List.mem_append.mp h3 with h3 | h3
         ·exact .inr ⟨h2,h3⟩
         ·exact absurd (Prod.ext h2 (List.mem_singleton.mp h3)) z
    ·refine ⟨bs,R,_,_,_,_,_,rfl,e3.trans e4,e4 _ _ g3,t3.same e4,uf,pZ,Az,fun d h1 h2=>?_⟩;rw [take_snoc hy] at h2;rcases h2 with h2 | ⟨h2,h3⟩
     ·exact Ak d h1 (.inl h2)
     ·rcases List.mem_append.mp h3 with h3 | h3
      ·exact Ak d h1 (.inr ⟨h2,h3⟩)
      ·rw [show d = ((i:Int),y) from Prod.ext h2 (List.mem_singleton.mp h3)]; exact JY
   ·rintro σ H3 ⟨bs,R,v4,v5,v6,v7,v8,rfl,e3,g3,t3,uf,pZ,Az,Ak⟩;rw [length_map,take_length] at Ak;refine ⟨bs,R,_,_,_,_,_,_,rfl,e3,g3,t3,uf,pZ,Az,fun d h1 h2=>Ak d h1 ?_⟩;by_cases z:d.1 = i
    ·refine .inr ⟨z,?_⟩;have:=h1.mem;rw [z,el] at this;exact this
    ·exact .inl (by omega)
  ·rintro σ H1 ⟨bs,R,v3,v4,v5,v6,v7,v8,rfl,e1,g1,t1,iT,gR,BH,CY⟩;walk_at "r";exact q t bs R H1 e1 t1 iT gR (BH.dec fun d hd=>CY d hd hd.hi)
theorem en:aG ["_law_orders", "_law_ring", "_law_one", "_law_other", "_law_first", "_law_second"] ["_law_orders", "_law_ring", "_law_one", "_law_other"] (ao eU):=⟨rfl,rfl,rfl,by decide +kernel,rfl,by decide +kernel,by decide +kernel⟩
theorem me (D:Def K mg "_law_put_tie" eU ["_law_orders", "_law_ring", "_law_one", "_law_other"]) (T:Txt K mg Z):cw P w K mg base (bo P w) "_law_put_tie" 1 ["_law_orders", "_law_ring", "_law_one", "_law_other"] qu:=by
 refine D.dh en (fun vs H Q E h=>?_) (fun f bN A o s H vs Q E hr h=>?_)
 ·obtain ⟨p,ra,as,L,r,i,j,rfl,_⟩:=h; rfl
 ·obtain ⟨p,ra,as,L,r,i,j,rfl,g,nd,vo,Md,sh,gd,hi,hj,hn,q⟩:=h;have im:=sh.map;obtain ⟨C6,a0,a1,MK⟩:=bT gd im (c:=i);obtain ⟨C5,b0,b1,MJ⟩:=bT gd im (c:=j);obtain ⟨ca,la,ha,qW,dP⟩:=g.at (i:=(cy r i).toNat) (by omega);obtain ⟨cb,lb,hb,wg,BU⟩:=g.at (i:=(cy r j).toNat) (by omega);have K7:la = rowOf L (cy r i):=by rw [ay a0 a1] at qW; exact (Option.some.inj qW).symm
  have K6:lb = rowOf L (cy r j):=by rw [ay b0 b1] at wg; exact (Option.some.inj wg).symm
  subst K7 K6;have ia:gT (as.map V.ref) (cy r i) = some (V.ref ca):=by
   have:=g.ix ha;rwa [Int.toNat_of_nonneg a0] at this
  have ib:gT (as.map V.ref) (cy r j) = some (V.ref cb):=by
   have:=g.ix hb;rwa [Int.toNat_of_nonneg b0] at this
  have sa:(rowOf L (cy r i)).length<=L.length:=bz (im.nd _ _ qW) fun y hy=>⟨(im.rg _ _ qW y hy).1,(im.rg _ _ qW y hy).2.1⟩;have sb:(rowOf L (cy r j)).length<=L.length:=bz (im.nd _ _ wg) fun y hy=>⟨(im.rg _ _ wg y hy).1,(im.rg _ _ wg y hy).2.1⟩;have ii:=idxOf_lt_length_of_mem C6;have ij:=idxOf_lt_length_of_mem C5;refine ⟨_,(ag (az (i:=4) en.nd rfl (by walk_at "L") (aI au (pv 1) (pv 2) (fun _ _=>rfl)))
   (ag (az (i:=5) en.nd rfl (by walk_at "L") (aI au (pv 1) (pv 3) (fun _ _=>rfl)))
   (aj (aZ (PW.pt (pw_and (ax jf (pv 4) (pv 5) (aL _)) (pw_and1 (ax dF (pv 5) (aI au (pv 0) (pv 4) (fun _ _=>rfl)) (by with_unfolding_all rfl))))) (ag (aU (b7 PySem.F.plainAttrs_list PySem.F.slot_list_insert PySem.F.type_list_insert kW (aI au (pv 0) (pv 4) (fun _ _=>rfl)) (aa (b7 PySem.F.plainAttrs_list PySem.F.slot_list_index PySem.F.type_list_index ff (aI au (pv 0) (pv 4) (fun _ _=>rfl)) (aa (aI au (pv 1) (aD gu (pv 2) ai) (fun _ _=>rfl)) af)) (aa (pv 5) af))))
   (aj (aU (b7 PySem.F.plainAttrs_list PySem.F.slot_list_insert PySem.F.type_list_insert kW (aI au (pv 0) (pv 5) (fun _ _=>rfl)) (aa (b7 PySem.F.plainAttrs_list PySem.F.slot_list_index PySem.F.type_list_index ff (aI au (pv 0) (pv 5) (fun _ _=>rfl)) (aa (aI au (pv 1) (aD gu (pv 3) ai) (fun _ _=>rfl)) af)) (aa (pv 4) af)))))) aK)))),?_⟩
  dsimp only [b8];walk_at "r";refine aR (aw.of vo) (cQ (j:=i) (by omega) (by omega) (.inl rfl)) ?_;walk_at "r";refine aR (aw.of vo) (cQ (j:=j) (by omega) (by omega) (.inl rfl)) ?_;walk_at "r";refine i9 (fun iV=>?_) (fun heq=>?_)
  ·walk_at "r";refine aR (aw.of g.top) ia ?_;refine sC (aw.of dP) ?_;rw [if_pos rfl];walk_at "r";refine i9 (fun zU=>?_) (fun Ef=>?_)
   ·have F:bu L (cy r i) (cy r j) (put (rowOf L (cy r i)) ((rowOf L (cy r i)).idxOf (cy r (i + (r.length - 1)))) (cy r j)) (put (rowOf L (cy r j)) ((rowOf L (cy r j)).idxOf (cy r (j + (r.length - 1)))) (cy r i)):=by
     have G7:cy r i∉rowOf L (cy r j):=fun z=>zU (Dt.back (d:=(cy r j,cy r i)) ⟨b0,b1,z⟩ im).2.2.2;exact ⟨im,a0,a1,b0,b1,iV,zU,dD _ _ _,dD _ _ _,dr zU,dr G7⟩
    have TM:=F.lH sh C6 C5 (fB C6 zU) (fB C5 F.DW) (fun Pd h0 hs=>by
     rw [<- MK] at h0;rw [<- MJ];exact gd.on hs h0 _)
    walk_at "r";refine aR (aw.of g.top) ia ?_;refine ⟨.inl ⟨rfl,_,aw.of dP⟩,?_⟩;walk_at "r";refine aR (aw.of g.top) ia ?_;refine ⟨.inl ⟨rfl,_,aw.of dP⟩,?_⟩;walk_at "r";refine aR (aw.of vo) (cQ (j:=i + (r.length - 1)) (by omega) (by omega) (.inr (by omega))) ?_;walk_at "r";refine ⟨ca,_,_,rfl,rfl,dP,C6,?_⟩;walk_at "r";refine nJ (k:=(rowOf L (cy r i)).idxOf (cy r (i + (r.length - 1)))) rfl dP (by rw [length_map]; omega) (by rw [length_map]; exact aF (by omega)) ?_;rw [map_put];have PQ:=mem_of_getElem? ha;have Wv:=mem_of_getElem? hb;have g1:=g.set nd (l':=put (rowOf L (cy r i)) ((rowOf L (cy r i)).idxOf (cy r (i + (r.length - 1)))) (cy r j)) ha;have o1:∀ b o,b∉as->H b = some o->upd H ca (.lst ((put (rowOf L (cy r i)) ((rowOf L (cy r i)).idxOf (cy r (i + (r.length - 1)))) (cy r j)).map V.int)) b = some o:=fun b o Hg e=>by rw [mD PQ Hg]; exact e
    generalize upd H ca (.lst ((put (rowOf L (cy r i)) ((rowOf L (cy r i)).idxOf (cy r (i + (r.length - 1)))) (cy r j)).map V.int)) = H1 at g1 o1 ⊢;have OU:(L.set (cy r i).toNat (put (rowOf L (cy r i)) ((rowOf L (cy r i)).idxOf (cy r (i + (r.length - 1)))) (cy r j)))[(cy r j).toNat]? = some (rowOf L (cy r j)):=by rw [getElem?_set_ne (by omega)]; exact wg
    have tf:=g1.row _ _ _ hb OU;have zS:=o1 _ _ Md vo;walk_at "r";refine aR (aw.of g1.top) ib ?_;refine ⟨.inl ⟨rfl,_,aw.of tf⟩,?_⟩;walk_at "r";refine aR (aw.of g1.top) ib ?_;refine ⟨.inl ⟨rfl,_,aw.of tf⟩,?_⟩;walk_at "r";refine aR (aw.of zS) (cQ (j:=j + (r.length - 1)) (by omega) (by omega) (.inr (by omega))) ?_;walk_at "r";refine ⟨cb,_,_,rfl,rfl,tf,C5,?_⟩;walk_at "r";refine nJ (k:=(rowOf L (cy r j)).idxOf (cy r (j + (r.length - 1)))) rfl tf (by rw [length_map]; omega) (by rw [length_map]; exact aF (by omega)) ?_;rw [map_put];have g2:=g1.set nd (l':=put (rowOf L (cy r j)) ((rowOf L (cy r j)).idxOf (cy r (j + (r.length - 1)))) (cy r i)) hb;refine q _ _ (fun b o Hg e=>?_) g2 TM (by rw [length_set,length_set]);rw [mD Wv Hg];exact o1 b o Hg e
   ·exact q _ L (fun b o _ e=>e) g sh rfl
  ·walk_at "r";exact q _ L (fun b o _ e=>e) g sh rfl
theorem cJ:aG ["_law_orders", "_law_ring", "_law_corners_here", "_law_many", "_law_at", "_law_order"] ["_law_orders", "_law_ring", "_law_corners_here"] (ao dR):=⟨rfl,rfl,rfl,by decide +kernel,rfl,by decide +kernel,by decide +kernel⟩
theorem jU (D:Def K mg "_law_put_place" dR ["_law_orders", "_law_ring", "_law_corners_here"]) (T:Txt K mg Z):cw P w K mg base (bo P w) "_law_put_place" 1 ["_law_orders", "_law_ring", "_law_corners_here"] lG:=by
 refine D.dh cJ (fun vs H Q E h=>?_) (fun f bN A o s H vs Q E hr h=>?_)
 ·obtain ⟨p,ra,rc,as,L,r,cs,rfl,_⟩:=h; rfl
 ·obtain ⟨p,ra,rc,as,L,r,cs,rfl,g,nd,vo,Md,AB,Rn,Xn,Xm,jz,gd,N4,c0,Hu,SF,MM,Ln,hn,q⟩:=h;have im:=jz.map;have two:=gd.two;have two2:=jz.two;obtain ⟨c1,ct,He⟩:∃ c1 ct,cs = c1 :: ct:=by cases cs with | nil=>exact absurd rfl c0 | cons a b=>exact ⟨a,b,rfl⟩
  refine ⟨_,(ag (az (i:=3) cJ.nd rfl (by walk_at "L") (ar aM (by rfl) T.len aQ (aa (pv 0) af)))
   (ag (bZ PassesOwn.never rfl (bM (pv 2)) (aN (i:=4) cJ.nd rfl (by walk_at "L"))
   (ag (az (i:=5) cJ.nd rfl (by walk_at "L") (aI au (pv 0) (aI au (pv 1) (pv 4) (fun _ _=>rfl)) (fun _ _=>rfl)))
   (aj (aU (b7 PySem.F.plainAttrs_list PySem.F.slot_list_insert PySem.F.type_list_insert kW (pv 5) (aa (b7 PySem.F.plainAttrs_list PySem.F.slot_list_index PySem.F.type_list_index ff (pv 5) (aa (aI au (pv 1) (aD gu (pv 4) ai) (fun _ _=>rfl)) af)) (aa (pv 3) af)))))))
   (aj (aU (b7 PySem.F.plainAttrs_list PySem.F.slot_list_append PySem.F.type_list_append bC (pv 0) (aa (fD (tg:=["_law_at"]) (fr:=[("_law_ring",1)]) (by walk_at "blk_ok") rfl (bM (pv 2)) (fun _ _ _ _ _=>(aN (i:=0) (show [("_law_at" : Str),("_law_ring" : Str)].Nodup by decide +kernel) rfl (by walk_at "L"))) (fun _ _ _ _ _=>dE) (fun _ _ _ _ _=>(aI (dM (K:=K) rfl) (pv 1) (pv 0) (fun _ _=>rfl)))) af)))))),?_⟩
  dsimp only [b8];walk_at "r";refine ⟨_,_,rfl,.inl ⟨_,aw.of g.top,rfl⟩,?_⟩;rw [length_map,g.len];walk_at "r";refine cW ?_;refine ⟨_,rfl,rc,rfl,⟨_,aw.of AB⟩,dO (K:=K) (a:=rc) (xs:=(cs.map fun c:Nat=>(c:Int)).map V.int) (fun k σ H1=>∃ (G:List (List Int)) (v4 v5:Option V),σ = [some (.ref p),some (.ref ra),some (.ref rc),some (.int (L.length:Int)),v4,v5]/\(∀ b o,b∉as->H b = some o->H1 b = some o)/\aJ H1 p as G/\((k = 0/\G = L)\/(∃ M cj,Pl L r c1 cj (cs.take k) M/\G = M.take L.length/\0 < k/\cs[k - 1]? = some cj)))
   ⟨L,none,none,rfl,fun _ _ _ e=>e,g,.inl ⟨rfl,rfl⟩⟩ (fun k σ H1 _ ⟨_,_,_,_,o,_⟩=>aw.of (o _ _ Rn AB)) ?_ ?_⟩
  ·rintro k x σ H1 hx ⟨G,v4,v5,rfl,o1,g1,st⟩;obtain ⟨c,hc,rfl⟩:∃ c:Nat,cs[k]? = some c/\x = V.int (c:Int):=by
    rw [getElem?_map,getElem?_map] at hx;cases e:cs[k]? with
    | none=>rw [e] at hx; cases hx
    | some z=>rw [e] at hx; exact ⟨z,rfl,(Option.some.inj hx).symm⟩
   have El:=SF c (mem_of_getElem? hc);obtain ⟨zm,x0,x1,ed⟩:=bT gd im (c:=c);have zS:=o1 _ _ Md vo;have un:∀ e∈cs.take k,cy r e≠cy r c:=fun e he z=>by
    have:=eK (A:=[]) (B:=cs.map (cy r)) (j:=k) (x:=cy r c) (by simpa using MM) (by rw [getElem?_map,hc]; rfl);refine this ?_;rw [nil_append,<- map_take,<- z];exact List.mem_map.mpr ⟨e,he,rfl⟩
   have step:G[(cy r c).toNat]? = some (rowOf L (cy r c))/\∃ M,Pl L r c1 c (cs.take (k + 1)) M/\G.set (cy r c).toNat (put (rowOf L (cy r c)) ((rowOf L (cy r c)).idxOf (cy r (c + (r.length - 1)))) L.length) = M.take L.length:=by
    rcases st with ⟨rfl,rfl⟩ | ⟨M,cj,pl,rfl,k0,R9⟩
    ·obtain ⟨F,pl⟩:=Pl.first jz gd N4 El
     have ec:c1 = c:=by rw [He] at hc; simpa using hc
     have e1:cs.take (0 + 1) = [c]:=by rw [He,ec]; rfl
     rw [e1,ec];refine ⟨ay x0 x1,_,pl,?_⟩;rw [qr (by rw [dZ]) (by omega)];unfold c5;rw [take_left]
    ·have lt:cj < c:=by
      obtain ⟨q1,w1⟩:=List.getElem?_eq_some_iff.mp R9;obtain ⟨q2,w2⟩:=List.getElem?_eq_some_iff.mp hc;have:=List.pairwise_iff_getElem.mp Hu (k - 1) k q1 q2 (by omega);rw [w1,w2] at this;exact this
     obtain ⟨F,Us⟩:=pl.next jz gd N4 lt El un
     rw [take_snoc hc];refine ⟨?_,_,Us,?_⟩
     ·rw [getElem?_take,if_pos (by omega),<- pl.keep _ x0 x1 un];exact ay x0 (by rw [pl.len]; omega)
     ·rw [qr pl.len (by omega)]
   obtain ⟨gx,M,Ur,eM⟩:=step;obtain ⟨ca,la,ha,qW,dP⟩:=g1.at (i:=(cy r c).toNat) (List.getElem?_eq_some_iff.mp gx).1;rw [gx] at qW;cases qW
   have ia:gT (as.map V.ref) (cy r c) = some (V.ref ca):=by
    have:=g1.ix ha;rwa [Int.toNat_of_nonneg x0] at this
   have OV:=ay x0 x1;have sa:(rowOf L (cy r c)).length<=L.length:=bz (im.nd _ _ OV) fun y hy=>⟨(im.rg _ _ OV y hy).1,(im.rg _ _ OV y hy).2.1⟩;have ii:=idxOf_lt_length_of_mem zm;walk_at "r";refine aR (aw.of zS) (cQ (j:=c) (by omega) (by omega) (.inl rfl)) ?_;refine aR (aw.of g1.top) ia ?_;walk_at "r";refine ⟨.inl ⟨rfl,_,aw.of dP⟩,?_⟩;walk_at "r";refine ⟨.inl ⟨rfl,_,aw.of dP⟩,?_⟩;walk_at "r";refine aR (aw.of zS) (cQ (j:=c + (r.length - 1)) (by omega) (by omega) (.inr (by omega))) ?_;walk_at "r";refine ⟨ca,_,_,rfl,rfl,dP,zm,?_⟩;walk_at "r";refine nJ (k:=(rowOf L (cy r c)).idxOf (cy r (c + (r.length - 1)))) rfl dP (by rw [length_map]; omega) (by rw [length_map]; exact aF (by omega)) ?_;rw [map_put];have PQ:=mem_of_getElem? ha;have g2:=g1.set nd (l':=put (rowOf L (cy r c)) ((rowOf L (cy r c)).idxOf (cy r (c + (r.length - 1)))) L.length) ha;rw [eM] at g2;refine ⟨_,_,_,rfl,fun b o Hg e=>?_,g2,.inr ⟨M,c,Ur,rfl,by omega,by rw [Nat.add_sub_cancel]; exact hc⟩⟩;rw [mD PQ Hg];exact o1 b o Hg e
  ·rintro σ H1 ⟨G,v4,v5,rfl,o1,g1,st⟩;rw [length_map,length_map,take_length] at st;rcases st with ⟨z,_⟩ | ⟨M,cj,pl,rfl,k0,R9⟩
   ·exact absurd (List.length_eq_zero_iff.mp z) c0
   have zS:=o1 _ _ Md vo;have Kh:=o1 _ _ Rn AB;walk_at "r";refine ⟨.inl ⟨rfl,_,aw.of g1.top⟩,?_⟩;walk_at "r";refine eY ?_;refine ⟨_,rfl,rc,rfl,⟨_,aw.of Kh⟩,fun acc bK=>?_⟩;refine dw (K:=K) (a:=rc) (xs:=(cs.map fun c:Nat=>(c:Int)).map V.int) (fun i σ' ys H2=>∃ v:Option V,σ' = [v,some (.ref ra)]/\ah H1 H2/\H2 acc = some (.lst ys)/\ys = ((cs.take i).map (cy r)).map V.int)
    ⟨none,rfl,ah.upd bK,ae,rfl⟩ (fun i σ' ys H2 _ ⟨_,_,e,_⟩=>aw.of (e _ _ Kh)) ?_ ?_
   ·rintro i x σ' ys H2 hx hi ⟨v,rfl,e2,a2,rfl⟩;obtain ⟨c,hc,rfl⟩:∃ c:Nat,cs[i]? = some c/\x = V.int (c:Int):=by
     rw [getElem?_map,getElem?_map] at hx;cases e:cs[i]? with
     | none=>rw [e] at hx; cases hx
     | some z=>rw [e] at hx; exact ⟨z,rfl,(Option.some.inj hx).symm⟩
    have El:=SF c (mem_of_getElem? hc);walk_at "r";refine aR (aw.of (e2 _ _ zS)) (cQ (j:=c) (by omega) (by omega) (.inl rfl)) ?_;refine ⟨a2,by rw [length_map,length_map,length_take]; exact aF (by omega),fH hi ⟨_,rfl,ah.fresh e2 bK,ae,?_⟩⟩;rw [take_snoc hc,map_append,map_append]
    rfl
   ·rintro σ' ys H2 ⟨v,rfl,e2,a2,rfl⟩;rw [length_map,length_map,take_length] at a2;have g2:=g1.same e2;have GH:=g1.fe bK;have SK:acc≠p:=fun z=>GH (z▸mem_cons_self);walk_at "r";refine bV g2.top (by rw [length_map,g.len]; exact aF (by omega)) ?_;have g3:=g2.snoc (List.nodup_cons.mp nd).1 SK a2;rw [<- pl.new,zk pl.len] at g3;have HG:H acc = none:=by
     cases e:H acc with
     | none=>rfl
     | some o=>
      have:=o1 acc o (fun z=>GH (mem_cons_of_mem _ z)) e;rw [bK] at this;cases this
    refine q _ M acc (fun b o hb e=>?_) HG g3 ?_ pl.sh pl.len
    ·rw [mD (as:=p :: as) mem_cons_self hb];exact e2 _ _ (o1 b o (fun z=>hb (mem_cons_of_mem _ z)) e)
    ·obtain ⟨n1,n2⟩:=List.nodup_cons.mp nd;refine List.nodup_cons.mpr ⟨fun z=>?_,dX.mpr ⟨fun z=>GH (mem_cons_of_mem _ z),n2⟩⟩;rcases List.mem_append.mp z with z | z
     ·exact n1 z
     ·exact SK (List.mem_singleton.mp z).symm
theorem bD:aG ["_law_script", "_law_start", "_law_steps", "_law_orders", "_law_k", "_law_number", "_law_rings_here", "_law_ring", "_law_corners_here", "_law_at"] ["_law_script", "_law_start", "_law_steps"] (ao gh):=⟨rfl,rfl,rfl,by decide +kernel,rfl,by decide +kernel,by decide +kernel⟩
theorem pQ (D:Def K mg "_law_grown" gh ["_law_script", "_law_start", "_law_steps"]) (T:Txt K mg Z) (gy:cw P w K mg base (bo P w) "_law_mixed" 2 ["_law_script", "_law_k"] (gZ K)) (tG:cw P w K mg base (bo P w) "_law_rings" 1 ["_law_orders"] uw)
  (oQ:cw P w K mg base (bo P w) "_law_put_tie" 1 ["_law_orders", "_law_ring", "_law_one", "_law_other"] qu) (lj:cw P w K mg base (bo P w) "_law_put_place" 1 ["_law_orders", "_law_ring", "_law_corners_here"] lG):cw P w K mg base (bo P w) "_law_grown" 3 ["_law_script", "_law_start", "_law_steps"] (uz K):=by
 refine D.dh bD (fun vs H Q E h=>?_) (fun f bN A o s H vs Q E hr h=>?_)
 ·obtain ⟨a,ns,st,n,rfl,_⟩:=h; rfl
 ·obtain ⟨a,ns,st,n,rfl,hS,Xg,Xf,hn,q⟩:=h;refine ⟨_,(ag (az (i:=3) bD.nd rfl (by walk_at "L") (aY (aa (aY (aa ai af)) (aa (aY (aa ai af)) af))))
   (ag (bZ PassesOwn.never rfl (cU rfl T.range (aa (pv 2) af)) (aN (i:=4) bD.nd rfl (by walk_at "L"))
   (ag (az (i:=5) bD.nd rfl (by walk_at "L") (aA gy hr aX (aa (pv 0) (aa (aD dG (pv 1) (pv 4)) af))))
   (ag (az (i:=6) bD.nd rfl (by walk_at "L") (aA tG hr aX (aa (pv 3) af)))
   (ag (az (i:=7) bD.nd rfl (by walk_at "L") (aI au (pv 6) (aD a9 (pv 5) (ar aM (by rfl) T.len aQ (aa (pv 6) af))) (fun _ _=>rfl)))
   (aj (aZ (ax cX (aD a9 (aD bJ (pv 5) ai) ai) ai (aL _)) (aj (aU (aA oQ hr aX (aa (pv 3) (aa (pv 7) (aa (aD a9 (aD bJ (pv 5) ai) (ar aM (by rfl) T.len aQ (aa (pv 7) af))) (aa (aD a9 (aD bJ (pv 5) ai) (ar aM (by rfl) T.len aQ (aa (pv 7) af))) af))))))) (ag (az (i:=8) bD.nd rfl (by walk_at "L") (aY af))
   (ag (bZ PassesOwn.never rfl (cU rfl T.range (aa (ar aM (by rfl) T.len aQ (aa (pv 7) af)) af)) (aN (i:=9) bD.nd rfl (by walk_at "L"))
   (aj (aZ (PW.pt (pw_and (ax dF (aI au (pv 7) (pv 9) (fun _ _=>rfl)) (bH dA (pv 7) bE (cS (pv 9))) (by with_unfolding_all rfl)) (pw_and1 (ax jf (aD a9 (aD dG (aD bJ (pv 5) ai) (aD fF (pv 9) (aD bJ (pv 5) ai))) ai) ai (aL _))))) (aj (aU (b7 PySem.F.plainAttrs_list PySem.F.slot_list_append PySem.F.type_list_append bC (pv 8) (aa (pv 9) af)))) aK)))
   (ag (aZ (ax (Bu hr.units) (pv 8) (aY af) (aL _)) (aj (az (i:=8) bD.nd rfl (by walk_at "L") (aY (aa (aD a9 (aD bJ (pv 5) ai) (ar aM (by rfl) T.len aQ (aa (pv 7) af))) af)))) aK)
   (aj (aU (aA lj hr aX (aa (pv 3) (aa (pv 7) (aa (pv 8) af)))))))))))))))
   (aj (aP (pv 3))))),?_⟩
  dsimp only [b8];walk_at "r";refine ⟨by rw [PySem.sizeLine_eq]; simp,fun b1 Mz=>?_⟩;walk_at "r";refine ⟨by rw [PySem.sizeLine_eq]; simp,fun b2 AF=>?_⟩;walk_at "r";refine fun p hp=>?_;have Pf:H b2 = none:=(ah.upd Mz).free AF;have G4:H p = none:=((ah.upd Mz).trans (ah.upd AF)).free hp;have HV:b2≠b1:=fun z=>by rw [z,ae] at AF; cases AF
  have Rp:p≠b2:=fun z=>by rw [z,ae] at hp; cases hp
  have Rq:p≠b1:=fun z=>by rw [z,ak (fun w=>HV w.symm),ae] at hp; cases hp
  have e0:ah H (upd (upd (upd H b1 (.lst [.int 1])) b2 (.lst [.int 0])) p (.lst [.ref b1,.ref b2])):=((ah.upd Mz).trans (ah.upd AF)).trans (ah.upd hp);have g0:aJ (upd (upd (upd H b1 (.lst [.int 1])) b2 (.lst [.int 0])) p (.lst [.ref b1,.ref b2])) p [b1,b2] [[1],[0]]:=by
   refine ⟨ae,rfl,fun i c l h1 h2=>?_⟩;have hi:i = 0\/i = 1:=by
    have:=(List.getElem?_eq_some_iff.mp h1).1;simp at this;omega
   rcases hi with rfl | rfl
   ·simp at h1 h2;subst h1 h2;rw [ak (fun z=>Rq z.symm),ak (fun z=>HV z.symm)];exact ae
   ·simp at h1 h2;subst h1 h2;rw [ak (fun z=>Rp z.symm)];exact ae
  have N7:(p :: [b1,b2]).Nodup:=by
   simp [Rq,Rp];exact fun z=>HV z.symm
  have KW:∀ b∈p :: [b1,b2],H b = none:=by
   intro b hb;simp at hb;rcases hb with rfl | rfl | rfl
   ·exact G4
   ·exact Mz
   ·exact Pf
  generalize upd (upd (upd H b1 (.lst [.int 1])) b2 (.lst [.int 0])) p (.lst [.ref b1,.ref b2]) = H0 at e0 g0 ⊢;walk_at "r";refine cW ?_;refine ⟨_,rfl,(n:Int),rfl,by omega,by omega,?_⟩;rw [Int.toNat_natCast];refine dv (fun k σ H1=>∃ (as:List Addr) (L:List (List Int)) (v4 v5 v6 v7 v8 v9:Option V),σ = [some (.ref a),some (.int st),some (.int (n:Int)),some (.ref p),v4,v5,v6,v7,v8,v9]/\ah H H1/\aJ H1 p as L/\(p :: as).Nodup/\(∀ b∈p :: as,H b = none)/\bY L/\L.length<=2 + k)
   ⟨[b1,b2],[[1],[0]],none,none,none,none,none,none,rfl,e0,g0,N7,KW,xG,by simp⟩ ?_ ?_
  ·clear e0 g0 N7 KW;rintro k σ H1 hk ⟨as,L,v4,v5,v6,v7,v8,v9,rfl,e1,g1,iT,gR,jz,hlen⟩;simp only [Int.zero_add];have im:=jz.map;have Ac:=jz.Ac (by omega);walk_at "r";refine ⟨a,ns,st + k,rfl,e1.seq hS,by omega,by omega,fun num n0 n1=>?_⟩;walk_at "r";refine ⟨p,as,L,rfl,g1,im,by omega,by omega,fun t bs R H2 e2 t2 Xv KS dec=>?_⟩;have R0:=jz.pos dec;have g2:=g1.same e2;walk_at "r";refine ⟨_,_,rfl,.inl ⟨_,aw.of t2.top,rfl⟩,?_⟩;rw [length_map,t2.len,length_map];have hp:(0:Int) < (R.length:Int):=by omega
   walk_at "r";have m0:=Int.emod_nonneg num (show (R.length:Int)≠0 by omega);have m1:=Int.emod_lt_of_pos num hp;obtain ⟨mi,VG⟩:=Int.eq_ofNat_of_zero_le m0;rw [VG] at m1 ⊢;obtain ⟨rc,rl,AB,Kg,ka⟩:=t2.at (i:=mi) (by rw [length_map]; omega);rw [getElem?_map] at Kg;obtain ⟨c,VQ,rfl⟩:∃ c,R[mi]? = some c/\c.map (·.1) = rl:=by
    cases e:R[mi]? with
    | none=>rw [e] at Kg; cases Kg
    | some z=>rw [e] at Kg; exact ⟨z,rfl,Option.some.inj Kg⟩
   have Ii:=mem_of_getElem? VQ;obtain ⟨gd,TK,MM⟩:=dec.good im Ii;have Nv:(sh 0 (c.map (·.1))).Nodup:=by rw [TK]; exact MM
   have Ln:(c.map (·.1)).length<=(ck L L.length).length:=by
    rw [length_map];exact dJ MM fun d hd=>((dec.mem d).mp (List.mem_flatten.mpr ⟨c,Ii,hd⟩)).all
   have TZ:=mem_of_getElem? AB;have I9:=g1.fe (KS rc (mem_cons_of_mem _ TZ));have F6:rc∉as:=fun z=>I9 (mem_cons_of_mem _ z);have Q0:rc≠p:=fun z=>I9 (by rw [z]; exact mem_cons_self);generalize c.map (·.1) = r at gd Nv Ln ka;have two:=gd.two;have F1:(0:Int) < (r.length:Int):=by omega
   refine aR (aw.of t2.top) (t2.ix AB) ?_;walk_at "r";refine if2 (fun R7=>?_) (fun Vz=>?_)
   ·walk_at "r";refine ⟨_,_,rfl,.inl ⟨_,aw.of ka,rfl⟩,?_⟩;rw [length_map];walk_at "r";refine ⟨_,_,rfl,.inl ⟨_,aw.of ka,rfl⟩,?_⟩;rw [length_map];walk_at "r";have i0:=Int.emod_nonneg (num / 128) (show (r.length:Int)≠0 by omega);have i1:=Int.emod_lt_of_pos (num / 128) F1;have j0:=Int.emod_nonneg (num / 4096) (show (r.length:Int)≠0 by omega);have j1:=Int.emod_lt_of_pos (num / 4096) F1;obtain ⟨i,hi⟩:=Int.eq_ofNat_of_zero_le i0;obtain ⟨j,hj⟩:=Int.eq_ofNat_of_zero_le j0;rw [hi,hj];refine ⟨p,rc,as,L,r,i,j,rfl,g2,iT,ka,F6,jz,gd,by omega,by omega,by omega,fun H3 L3 off g3 TL l3=>?_⟩;exact ⟨as,L3,_,_,_,_,_,_,rfl,ah.off (e1.trans e2) (fun b hb=>gR b (mem_cons_of_mem _ hb)) off,g3,iT,gR,TL,by omega⟩
   ·walk_at "r";refine ⟨Nat.zero_le _,fun qa zT=>?_⟩;have e3:ah H2 (upd H2 qa (.lst [])):=ah.upd zT;have q3:upd H2 qa (.lst []) qa = some (.lst ((([]:List Nat).map fun c:Nat=>(c:Int)).map V.int)):=ae;generalize upd H2 qa (.lst []) = H3 at e3 q3 ⊢;have Jv:=g2.fe zT;walk_at "r";refine cW ?_;refine ⟨_,rfl,_,_,rfl,.inl ⟨_,aw.of (e3 _ _ ka),rfl⟩,(r.length:Int),by rw [length_map],by omega,by omega,?_⟩;rw [Int.toNat_natCast];refine dv (fun i σ H4=>∃ (cs:List Nat) (v9:Option V),σ = [some (.ref a),some (.int st),some (.int (n:Int)),some (.ref p),some (.int (k:Int)),some (.int num),some (.ref t),some (.ref rc),some (.ref qa),v9]/\ah H2 H4/\H4 qa = some (.lst ((cs.map fun c:Nat=>(c:Int)).map V.int))/\cs.Pairwise (· < ·)/\(∀ c∈cs,c < i)/\(cs.map (cy r)).Nodup/\cs.length<=i)
     ⟨[],_,rfl,e3,q3,.nil,by simp,.nil,Nat.le_refl _⟩ ?_ ?_
    ·rintro i σ H4 hi ⟨cs,w9,rfl,e4,q4,c1,c2,c3,c4⟩;simp only [Int.zero_add];have BV:=e4 _ _ ka;walk_at "r";refine aR (aw.of BV) (cQ (j:=i) (by omega) (by omega) (.inl rfl)) ?_;refine jO (a:=rc) (i:=7) (k:=9) (n:=i) (r:=r) rfl rfl (aw.of BV) (by omega) fun p1 BX=>?_;have e5:ah H4 (upd H4 p1 (.lst ((r.take i).map V.int))):=ah.upd BX;refine sC (aw.of ae) ?_;rw [if_pos rfl];generalize upd H4 p1 (.lst ((r.take i).map V.int)) = H5 at e5 ⊢;walk_at "r";refine i9 (fun Ei=>?_) (fun hold=>?_)
     ·walk_at "r";refine jN (Sz.Fo (m:=20) (n:=40) (by unfold Sz; omega) (by unfold Sz; omega)) ?_;walk_at "r";refine i9 (fun h3=>?_) (fun h3=>?_)
      ·walk_at "r";refine ⟨.inl ⟨rfl,_,aw.of (e5 _ _ q4)⟩,?_⟩;walk_at "r";refine bV (e5 _ _ q4) (by rw [length_map,length_map]; exact aF (by omega)) ?_;refine ⟨cs ++ [i],_,rfl,ah.fresh (e4.trans e5) zT,?_,?_,fun c hc=>?_,?_,by rw [length_append,length_singleton]; omega⟩
       ·rw [map_append,map_append]; exact ae
       ·rw [pairwise_append];refine ⟨c1,by simp,fun x hx y hy=>?_⟩;rw [List.mem_singleton.mp hy];exact c2 x hx
       ·rcases List.mem_append.mp hc with z | z
        ·have:=c2 c z; omega
        ·rw [List.mem_singleton.mp z]; omega
       ·rw [map_append,map_singleton];refine x5.mpr ⟨fun z=>?_,c3⟩;obtain ⟨c,hc,ec⟩:=List.mem_map.mp z;refine Ei ?_;rw [<- ec,gO (by have:=c2 c hc; omega)];refine List.mem_take_iff_getElem.mpr ⟨c,by have:=c2 c hc; omega,rfl⟩
      ·exact ⟨cs,_,rfl,e4.trans e5,e5 _ _ q4,c1,fun c hc=>by have:=c2 c hc; omega,c3,by omega⟩
     ·walk_at "r";exact ⟨cs,_,rfl,e4.trans e5,e5 _ _ q4,c1,fun c hc=>by have:=c2 c hc; omega,c3,by omega⟩
    ·rintro σ H4 ⟨cs,w9,rfl,e4,q4,c1,c2,c3,c4⟩;walk_at "r";refine ⟨Nat.zero_le _,fun z hz=>?_⟩;have e5:ah H4 (upd H4 z (.lst [])):=ah.upd hz;refine ⟨bO (cs.map fun c:Nat=>(c:Int)),bO [],cg (e5 _ _ q4),cg ae,shaped_ints _,shaped_ints _,?_⟩;rw [if_neg (by decide),gD];generalize upd H4 z (.lst []) = H5 at e5 ⊢;walk_at "r";refine if2 (fun XW=>?_) (fun iV=>?_)
     ·walk_at "r";refine ⟨_,_,rfl,.inl ⟨_,aw.of (e5 _ _ (e4 _ _ ka)),rfl⟩,?_⟩;rw [length_map];walk_at "r";have i0:=Int.emod_nonneg (num / 128) (show (r.length:Int)≠0 by omega);have i1:=Int.emod_lt_of_pos (num / 128) F1;obtain ⟨i,hi⟩:=Int.eq_ofNat_of_zero_le i0;rw [hi] at i1 ⊢;refine ⟨by rw [PySem.sizeLine_eq]; simp,fun q2 Mp=>?_⟩;have e6:ah H2 (upd H5 q2 (.lst [.int (i:Int)])):=(e4.trans e5).trans (ah.upd Mp);have c6:upd H5 q2 (.lst [.int (i:Int)]) q2 = some (.lst ((([i]:List Nat).map fun c:Nat=>(c:Int)).map V.int)):=ae;have Fc:=((g2.same e4).same e5).fe Mp;generalize upd H5 q2 (.lst [.int (i:Int)]) = H6 at e6 c6 ⊢;walk_at "r";refine ⟨p,rc,q2,as,L,r,[i],rfl,g2.same e6,iT,e6 _ _ ka,F6,c6,fun w=>Fc (mem_cons_of_mem _ w),Q0,fun w=>Fc (by rw [w]; exact mem_cons_self),jz,gd,Nv,by simp,by simp,fun c hc=>by rw [List.mem_singleton.mp hc]; omega,by simp,by simp,by omega,fun H7 L7 nw off NY g7 Fn Nw l7=>?_⟩;have yL:=(e1.trans e2).trans e6;refine ⟨_,L7,_,_,_,_,_,_,rfl,ah.off yL gR off,g7,Fn,fun b hb=>?_,Nw,by omega⟩;rcases List.mem_cons.mp hb with w | w
      ·rw [w]; exact gR p mem_cons_self
      ·rcases List.mem_append.mp w with w | w
       ·exact gR b (mem_cons_of_mem _ w)
       ·rw [List.mem_singleton.mp w]; exact yL.free NY
     ·walk_at "r";have c0:cs≠[]:=fun w=>iV (by rw [w]; rfl);have e6:=e4.trans e5;refine ⟨p,rc,qa,as,L,r,cs,rfl,g2.same e6,iT,e6 _ _ ka,F6,e5 _ _ q4,fun w=>Jv (mem_cons_of_mem _ w),Q0,fun w=>Jv (by rw [w]; exact mem_cons_self),jz,gd,Nv,c0,c1,c2,c3,by omega,by omega,fun H7 L7 nw off NY g7 Fn Nw l7=>?_⟩;have yL:=(e1.trans e2).trans e6;refine ⟨_,L7,_,_,_,_,_,_,rfl,ah.off yL gR off,g7,Fn,fun b hb=>?_,Nw,by omega⟩;rcases List.mem_cons.mp hb with w | w
      ·rw [w]; exact gR p mem_cons_self
      ·rcases List.mem_append.mp w with w | w
       ·exact gR b (mem_cons_of_mem _ w)
       ·rw [List.mem_singleton.mp w]; exact yL.free NY
  ·rintro σ H1 ⟨as,L,v4,v5,v6,v7,v8,v9,rfl,e1,g1,iT,gR,jz,hlen⟩;walk_at "r";exact q p as L H1 e1 g1 iT gR jz hlen
theorem hV:aG ["orders", "place", "order", "neighbour"] ["orders", "place"] (ao jj):=⟨rfl,rfl,rfl,by decide +kernel,rfl,by decide +kernel,by decide +kernel⟩
theorem uS (D:Def K mg "is_wrong" jj ["orders", "place"]) (T:Txt K mg Z):cw P w K mg base (bo P w) "is_wrong" 1 ["orders", "place"] uu:=by
 refine D.dh hV (fun vs H Q E h=>?_) (fun f bN A o s H vs Q E hr h=>?_)
 ·obtain ⟨p,as,L,k,rfl,_⟩:=h; rfl
 ·obtain ⟨p,as,L,k,rfl,g,im,hk,hn,q⟩:=h;obtain ⟨b,l,ha,hl,b5⟩:=g.at hk;have nl:=im.nd _ _ hl;have ln:l.length<=L.length:=bz nl fun y hy=>⟨(im.rg _ _ hl y hy).1,(im.rg _ _ hl y hy).2.1⟩;refine ⟨_,(ag (az (i:=2) hV.nd rfl (by walk_at "L") (aI au (pv 0) (pv 1) (fun _ _=>rfl)))
   (ag (aZ (ax jf (ar lB (by rfl) T.len aQ (aa (kP (lz rfl) (by rfl) T.set xD (aa (pv 2) af)) af)) (ar aM (by rfl) T.len aQ (aa (pv 2) af)) (aL _)) (aj (aP cA)) aK)
   (ag (bZ PassesOwn.never rfl (bM (pv 2)) (aN (i:=3) hV.nd rfl (by walk_at "L"))
   (ag (aZ (PW.pt (pw_or (ax cX (pv 3) (pv 1) (aL _)) (pw_or (ax lI (pv 3) ai (aL _)) (pw_or1 (ax Bt (pv 3) (ar aM (by rfl) T.len aQ (aa (pv 0) af)) (aL _)))))) (aj (aP cA)) aK)
   (aj (aZ (ax dF (pv 1) (aI au (pv 0) (pv 3) (fun _ _=>rfl)) (by with_unfolding_all rfl)) (aj (aP cA)) aK))))
   (aj (aP cA))))),?_⟩
  dsimp only [b8];walk_at "r";refine aR (aw.of g.top) (g.ix ha) ?_;walk_at "r";refine ⟨b,l,rfl,aw.of b5,by omega,fun ps S Vw=>?_⟩;have e1:ah H (upd H ps (.set S (kj l).length)):=ah.upd Vw;refine ⟨ps,S,_,rfl,ae,?_⟩;generalize upd H ps (.set S (kj l).length) = H1 at e1 ⊢;walk_at "r";refine ⟨_,_,rfl,.inl ⟨_,aw.of (e1 _ _ b5),rfl⟩,?_⟩;rw [length_map,(iK l).mpr nl];walk_at "r";refine i9 (fun z=>absurd rfl z) (fun _=>?_);walk_at "r";refine cW ?_;refine ⟨_,rfl,b,rfl,⟨_,aw.of (e1 _ _ b5)⟩,dO (K:=K) (a:=b) (xs:=l.map V.int) (fun i σ H2=>∃ v:Option V,σ = [some (.ref p),some (.int (k:Int)),some (.ref b),v]/\ah H H2) ⟨none,rfl,e1⟩ (fun i σ H2 _ ⟨_,_,e⟩=>aw.of (e _ _ b5)) ?_ ?_⟩
  ·rintro i x σ H2 hx ⟨v,rfl,e2⟩;obtain ⟨y,hy,rfl⟩:∃ y,l[i]? = some y/\x = V.int y:=by
    rw [getElem?_map] at hx;cases e:l[i]? with
    | none=>rw [e] at hx; cases hx
    | some z=>rw [e] at hx; exact ⟨z,rfl,(Option.some.inj hx).symm⟩
   have rg:=im.rg _ _ hl y (mem_of_getElem? hy);obtain ⟨yn,rfl⟩:=Int.eq_ofNat_of_zero_le rg.1;obtain ⟨b2,l2,Ik,iW,qV⟩:=g.at (i:=yn) (by omega);have bk:=im.sy _ _ hl _ (mem_of_getElem? hy) yn rfl _ iW;walk_at "r";refine if2 (fun z=>absurd z rg.2.2) (fun _=>?_);walk_at "r";refine if2 (fun z=>absurd z (by omega)) (fun _=>?_);walk_at "r";refine ⟨_,_,rfl,.inl ⟨_,aw.of (e2 _ _ g.top),rfl⟩,?_⟩;rw [length_map,g.len];walk_at "r";refine if2 (fun z=>absurd z (by omega)) (fun _=>?_);walk_at "r";refine aR (aw.of (e2 _ _ g.top)) (g.ix Ik) ?_;refine sC (aw.of (e2 _ _ qV)) ?_;rw [if_pos rfl,decide_eq_true bk];walk_at "r";exact ⟨_,rfl,e2⟩
  ·rintro σ H2 ⟨v,rfl,e2⟩;walk_at "r";exact q _ e2
theorem qG:aG ["orders", "place"] ["orders"] (ao nE):=⟨rfl,rfl,rfl,by decide +kernel,rfl,by decide +kernel,by decide +kernel⟩
theorem zF (D:Def K mg "looked" nE ["orders"]) (T:Txt K mg Z) (xl:cw P w K mg base (bo P w) "is_wrong" 1 ["orders", "place"] uu):cw P w K mg base (bo P w) "looked" 2 ["orders"] qw:=by
 refine D.dh qG (fun vs H Q E h=>?_) (fun f bN A o s H vs Q E hr h=>?_)
 ·obtain ⟨p,as,L,rfl,_⟩:=h; rfl
 ·obtain ⟨p,as,L,rfl,g,im,hn,q⟩:=h;refine ⟨_,(aj (bZ PassesOwn.never rfl (cU rfl T.range (aa (ar aM (by rfl) T.len aQ (aa (pv 0) af)) af)) (aN (i:=1) qG.nd rfl (by walk_at "L"))
   (aj (aZ (eC (aA xl hr aX (aa (pv 0) (aa (pv 1) af)))) (aj Bk) aK)))),?_⟩
  dsimp only [b8];refine cW ?_;refine ⟨_,rfl,_,_,rfl,.inl ⟨_,aw.of g.top,rfl⟩,(L.length:Int),by rw [length_map,g.len],by omega,by omega,?_⟩;rw [Int.toNat_natCast];refine dv (fun i σ H1=>∃ v:Option V,σ = [some (.ref p),v]/\ah H H1) ⟨none,rfl,fun _ _ e=>e⟩ ?_ ?_
  ·rintro i σ H1 hi ⟨v,rfl,e1⟩;simp only [Int.zero_add];walk_at "r";refine ⟨p,as,L,i,rfl,g.same e1,im,hi,hn,fun H2 e2=>?_⟩;walk_at "r";exact ⟨_,rfl,e1.trans e2⟩
  ·rintro σ H1 ⟨v,rfl,e1⟩;exact q _ e1
theorem dC:aG ["_law_one", "_law_other", "_law_mine", "_law_yours", "_law_at"] ["_law_one", "_law_other"] (ao iq):=⟨rfl,rfl,rfl,by decide +kernel,rfl,by decide +kernel,by decide +kernel⟩
theorem sP (D:Def K mg "_law_same" iq ["_law_one", "_law_other"]) (T:Txt K mg Z):cw P w K mg base (bo P w) "_law_same" 1 ["_law_one", "_law_other"] jH:=by
 refine D.dh dC (fun vs H Q E h=>?_) (fun f bN A o s H vs Q E hr h=>?_)
 ·obtain ⟨p,t,as,bs,L,M,rfl,_⟩:=h; rfl
 ·obtain ⟨p,t,as,bs,L,M,rfl,g,k,R1,hL,hM,hn,q,qf⟩:=h;refine ⟨_,(ag (bZ PassesOwn.never rfl (Bo T.zip (aa (pv 0) (aa (pv 1) af))) (kL (n:=2) rfl (bW (aN (i:=2) dC.nd rfl (by walk_at "L")) (bW (aN (i:=3) dC.nd rfl (by walk_at "L")) gm)))
   (ag (aZ (ax jf (ar aM (by rfl) T.len aQ (aa (pv 2) af)) (ar aM (by rfl) T.len aQ (aa (pv 3) af)) (aL _)) (aj (aP cA)) aK)
   (ag (aZ (PW.pt (pw_and (ax (fQ hr.units) (pv 2) (aY af) (aL _)) (pw_and1 (ax dF (aI au (pv 2) ai (fun _ _=>rfl)) (pv 3) (by with_unfolding_all rfl))))) (aj (aP cA)) aK)
   (ag (az (i:=4) dC.nd rfl (by walk_at "L") ai)
   (ag (aZ (ax (fQ hr.units) (pv 2) (aY af) (aL _)) (aj (az (i:=4) dC.nd rfl (by walk_at "L") (b7 PySem.F.plainAttrs_list PySem.F.slot_list_index PySem.F.type_list_index ff (pv 3) (aa (aI au (pv 2) ai (fun _ _=>rfl)) af)))) aK)
   (aj (aZ (ax (fQ hr.units) (aD jt (bH dA (pv 3) (cS (pv 4)) bE) (bH dA (pv 3) bE (cS (pv 4)))) (pv 2) (aL _)) (aj (aP cA)) aK)))))))
   (aj (aP (jT cX (ar aM (by rfl) T.len aQ (aa (pv 0) af)) (ar aM (by rfl) T.len aQ (aa (pv 1) af)) (aL _))))),?_⟩
  dsimp only [b8];walk_at "r";refine cW ?_;refine ⟨_,rfl,_,rfl,p,t,rfl,⟨_,aw.of g.top⟩,⟨_,aw.of k.top⟩,Er (K:=K) (a:=p) (b:=t) (xs:=as.map V.ref) (ys:=bs.map V.ref) (fun i σ H1=>∃ v2 v3 v4:Option V,σ = [some (.ref p),some (.ref t),v2,v3,v4]/\ah H H1/\∀ (j:Nat) (l m:List Int),j < i->L[j]? = some l->M[j]? = some m->bA l m) ⟨none,none,none,rfl,fun _ _ e=>e,fun j l m z=>by omega⟩ (by rw [length_map,length_map,g.len,k.len,R1]) (fun i σ H1 _ ⟨_,_,_,_,e,_⟩=>⟨aw.of (e _ _ g.top),aw.of (e _ _ k.top)⟩) ?_ ?_⟩
  ·rintro i x y pr σ H1 hx hy ⟨v2,v3,v4,rfl,e1,F5⟩ AD;have hi:i < L.length:=by
    have:=(List.getElem?_eq_some_iff.mp hx).1;rw [length_map,g.len] at this;exact this
   obtain ⟨b,l,hb,hl,b5⟩:=g.at hi;obtain ⟨c,m,hc,hm,qV⟩:=k.at (i:=i) (by omega);obtain rfl:x = V.ref b:=by
    rw [getElem?_map,hb] at hx;exact (Option.some.inj hx).symm
   obtain rfl:y = V.ref c:=by
    rw [getElem?_map,hc] at hy;exact (Option.some.inj hy).symm
   obtain ⟨nm,lm⟩:=hM m (mem_of_getElem? hm);have lL:=hL l (mem_of_getElem? hl);have Rl:bA l m->∀ (j:Nat) (l m:List Int),j < i + 1->L[j]? = some l->M[j]? = some m->bA l m:=fun rq j l' m' hj h1 h2=>by
    by_cases z:j = i
    ·subst z;rw [hl] at h1;rw [hm] at h2;cases h1
     cases h2
     exact rq
    ·exact F5 j l' m' (by omega) h1 h2
   have bad:¬ bA l m->¬ ∀ (i:Nat) (l m:List Int),L[i]? = some l->M[i]? = some m->bA l m:=fun z a=>z (a i l m hl hm);have e2:ah H1 (upd H1 pr (.tup [.ref b,.ref c])):=ah.upd AD;refine iB (SqT.of ae) rfl ?_;generalize upd H1 pr (.tup [.ref b,.ref c]) = H2 at e2 ⊢;have p8:=e1.trans e2;have AF:=p8 _ _ b5;have zW:=p8 _ _ qV;walk_at "r";refine ⟨_,_,rfl,.inl ⟨_,aw.of AF,rfl⟩,?_⟩;walk_at "r";refine ⟨_,_,rfl,.inl ⟨_,aw.of zW,rfl⟩,?_⟩;rw [length_map,length_map];walk_at "r";refine i9 (fun z=>?_) (fun z=>?_)
   ·walk_at "r";exact qf (bad fun rq=>z (by rw [rq.len])) _ p8
   have ll:l.length = m.length:=by omega
   walk_at "r";refine ⟨Nat.zero_le _,fun z1 Vf=>?_⟩;have e3:ah H2 (upd H2 z1 (.lst [])):=ah.upd Vf;refine ⟨bO l,bO [],cg (e3 _ _ AF),cg ae,shaped_ints _,shaped_ints _,?_⟩;rw [if_pos rfl,gD];generalize upd H2 z1 (.lst []) = H3 at e3 ⊢;have Ij:=e3 _ _ AF;have B4:=e3 _ _ zW;cases l with
   | nil=>
    have m0:m = []:=by cases m with | nil=>rfl | cons _ _=>simp at ll
    subst m0;rw [decide_eq_true rfl];walk_at "r";refine ⟨Nat.zero_le _,fun z2 CL=>?_⟩;have e4:ah H3 (upd H3 z2 (.lst [])):=ah.upd CL;refine ⟨bO [],bO [],cg (e4 _ _ Ij),cg ae,shaped_ints _,shaped_ints _,?_⟩;rw [if_pos rfl,gD,decide_eq_true rfl];generalize upd H3 z2 (.lst []) = H4 at e4 ⊢;walk_at "r";refine iS (a:=c) (i:=3) (k:=4) (n:=0) (r:=[]) rfl rfl (aw.of (e4 _ _ B4)) (by simp) fun p1 BX=>?_;have e5:ah H4 (upd H4 p1 (.lst ((([]:List Int).drop 0).map V.int))):=ah.upd BX;refine jO (a:=c) (i:=3) (k:=4) (n:=0) (r:=[]) rfl rfl (aw.of (e5 _ _ (e4 _ _ B4))) (by simp) fun p2 we=>?_;have e6:=e5.trans (ah.upd (o:=.lst ((([]:List Int).take 0).map V.int)) we);have x1:upd (upd H4 p1 (.lst ((([]:List Int).drop 0).map V.int))) p2 (.lst ((([]:List Int).take 0).map V.int)) p1 = some (.lst ((([]:List Int).drop 0).map V.int)):=by rw [ak (aB ae we)]; exact ae
    refine ⟨p1,p2,_,_,rfl,rfl,x1,ae,by simp,fun d hd=>?_⟩;generalize upd (upd H4 p1 (.lst ((([]:List Int).drop 0).map V.int))) p2 (.lst ((([]:List Int).take 0).map V.int)) = H6 at e6 hd ⊢;have e7:=e6.trans (ah.upd (o:=.lst ((([]:List Int).drop 0).map V.int ++ (([]:List Int).take 0).map V.int)) hd);have d7:upd H6 d (.lst ((([]:List Int).drop 0).map V.int ++ (([]:List Int).take 0).map V.int)) d = some (.lst (([]:List Int).map V.int)):=ae;generalize upd H6 d (.lst ((([]:List Int).drop 0).map V.int ++ (([]:List Int).take 0).map V.int)) = H7 at e7 d7 ⊢;walk_at "r";refine ⟨bO [],bO [],cg d7,cg (e7 _ _ (e4 _ _ Ij)),shaped_ints _,shaped_ints _,?_⟩;rw [if_pos rfl,gD,decide_eq_true rfl];walk_at "r";exact ⟨_,_,_,rfl,((p8.trans e3).trans e4).trans e7,Rl (.inl rfl)⟩
   | cons x l=>
    by_cases xm:x∈m
    case neg=>
     rw [decide_eq_false (by simp)];walk_at "r";refine aR (aw.of Ij) (show gT ((x :: l).map V.int) ((0:Nat):Int) = some (V.int x) from eO (by simp)) ?_;walk_at "r";refine sC (x:=x) (aw.of B4) ?_;rw [if_pos rfl,decide_eq_false xm];walk_at "r";exact qf (bad fun rq=>xm (rq.perm.mem_iff.mp mem_cons_self)) _ (p8.trans e3)
    have ix:=idxOf_lt_length_of_mem xm;rw [decide_eq_false (by simp)];walk_at "r";refine aR (aw.of Ij) (show gT ((x :: l).map V.int) ((0:Nat):Int) = some (V.int x) from eO (by simp)) ?_;walk_at "r";refine sC (x:=x) (aw.of B4) ?_;rw [if_pos rfl,decide_eq_true xm];walk_at "r";refine ⟨Nat.zero_le _,fun z2 CL=>?_⟩;have e4:ah H3 (upd H3 z2 (.lst [])):=ah.upd CL;refine ⟨bO (x :: l),bO [],cg (e4 _ _ Ij),cg ae,shaped_ints _,shaped_ints _,?_⟩;rw [if_pos rfl,gD,decide_eq_false (by simp)];generalize upd H3 z2 (.lst []) = H4 at e4 ⊢;have Sd:=e4 _ _ Ij;have B3:=e4 _ _ B4;walk_at "r";refine ⟨.inl ⟨rfl,_,aw.of B3⟩,?_⟩;walk_at "r";refine aR (aw.of Sd) (show gT ((x :: l).map V.int) ((0:Nat):Int) = some (V.int x) from eO (by simp)) ?_;walk_at "r";refine ⟨c,m,x,rfl,rfl,B3,xm,?_⟩;walk_at "r";refine iS (a:=c) (i:=3) (k:=4) (n:=m.idxOf x) (r:=m) rfl rfl (aw.of B3) (by omega) fun p1 BX=>?_;have e5:ah H4 (upd H4 p1 (.lst ((m.drop (m.idxOf x)).map V.int))):=ah.upd BX;refine jO (a:=c) (i:=3) (k:=4) (n:=m.idxOf x) (r:=m) rfl rfl (aw.of (e5 _ _ B3)) (by omega) fun p2 we=>?_;have e6:=e5.trans (ah.upd (o:=.lst ((m.take (m.idxOf x)).map V.int)) we);have x1:upd (upd H4 p1 (.lst ((m.drop (m.idxOf x)).map V.int))) p2 (.lst ((m.take (m.idxOf x)).map V.int)) p1 = some (.lst ((m.drop (m.idxOf x)).map V.int)):=by rw [ak (aB ae we)]; exact ae
    refine ⟨p1,p2,_,_,rfl,rfl,x1,ae,by rw [length_map,length_map,length_drop,length_take,PySem.sizeLine_eq]; omega,fun d hd=>?_⟩;generalize upd (upd H4 p1 (.lst ((m.drop (m.idxOf x)).map V.int))) p2 (.lst ((m.take (m.idxOf x)).map V.int)) = H6 at e6 hd ⊢;have Wg:(m.drop (m.idxOf x)).map V.int ++ (m.take (m.idxOf x)).map V.int = (bU m (m.idxOf x)).map V.int:=by unfold bU; rw [<- map_append]
    rw [Wg];have e7:=e6.trans (ah.upd (o:=.lst ((bU m (m.idxOf x)).map V.int)) hd);have d7:upd H6 d (.lst ((bU m (m.idxOf x)).map V.int)) d = some (.lst ((bU m (m.idxOf x)).map V.int)):=ae;generalize upd H6 d (.lst ((bU m (m.idxOf x)).map V.int)) = H7 at e7 d7 ⊢;walk_at "r";refine ⟨bO (bU m (m.idxOf x)),bO (x :: l),cg d7,cg (e7 _ _ Sd),shaped_ints _,shaped_ints _,?_⟩;rw [if_pos rfl,gD];by_cases er:bU m (m.idxOf x) = x :: l
    ·rw [decide_eq_true er];walk_at "r";exact ⟨_,_,_,rfl,((p8.trans e3).trans e4).trans e7,Rl (.inr ⟨m.idxOf x,ix,er.symm⟩)⟩
    ·rw [decide_eq_false er];walk_at "r";exact qf (bad fun rq=>er (rq.idx nm rfl).2) _ (((p8.trans e3).trans e4).trans e7)
  ·rintro σ H1 ⟨v2,v3,v4,rfl,e1,F5⟩;walk_at "r";refine ⟨_,_,rfl,.inl ⟨_,aw.of (e1 _ _ g.top),rfl⟩,?_⟩;walk_at "r";refine ⟨_,_,rfl,.inl ⟨_,aw.of (e1 _ _ k.top),rfl⟩,?_⟩;rw [length_map,length_map,g.len,k.len,R1];walk_at "r";rw [decide_eq_true rfl];exact q (fun i l m h1 h2=>F5 i l m (by rw [length_map,g.len]; exact (List.getElem?_eq_some_iff.mp h1).1) h1 h2) _ e1
theorem qF:aG ["orders", "one", "other", "order"] ["orders", "one", "other"] (ao nD):=⟨rfl,rfl,rfl,by decide +kernel,rfl,by decide +kernel,by decide +kernel⟩
theorem zE (D:Def K mg "onward" nD ["orders", "one", "other"]) (T:Txt K mg Z):cw P w K mg base (bo P w) "onward" 1 ["orders", "one", "other"] qv:=by
 refine D.dh qF (fun vs H Q E h=>?_) (fun f bN A o s H vs Q E hr h=>?_)
 ·obtain ⟨p,as,L,d,rfl,_⟩:=h; rfl
 ·obtain ⟨p,as,L,d,rfl,g,im,hd,q⟩:=h;obtain ⟨b0,b1,b2,b3⟩:=hd.back im;obtain ⟨b,l,ha,hl,b5⟩:=g.at (i:=d.2.toNat) (by omega);have el:l = rowOf L d.2:=by rw [ay b0 b1] at hl; exact (Option.some.inj hl).symm
  subst el;have e2:d.2 = ((d.2.toNat:Nat):Int):=by omega
  refine ⟨_,(ag (az (i:=3) qF.nd rfl (by walk_at "L") (aI au (pv 0) (pv 2) (fun _ _=>rfl)))
   (aj (aP (aI au (pv 3) (aD gu (b7 PySem.F.plainAttrs_list PySem.F.slot_list_index PySem.F.type_list_index ff (pv 3) (aa (pv 1) af)) ai) (fun _ _=>rfl))))),?_⟩
  dsimp only [b8];walk_at "r";refine aR (aw.of g.top) (by rw [e2]; exact g.ix ha) ?_;walk_at "r";refine ⟨.inl ⟨rfl,_,aw.of b5⟩,?_⟩;walk_at "r";refine ⟨b,_,d.1,rfl,rfl,b5,b3,?_⟩;walk_at "r";exact aR (aw.of b5) (y8 b3) q
theorem b9:aG ["orders", "one", "other", "ring", "here", "there", "beyond"] ["orders", "one", "other"] (ao hW):=⟨rfl,rfl,rfl,by decide +kernel,rfl,by decide +kernel,by decide +kernel⟩
theorem sJ (D:Def K mg "ring_from" hW ["orders", "one", "other"]) (T:Txt K mg Z) (vw:cw P w K mg base (bo P w) "onward" 1 ["orders", "one", "other"] qv):cw P w K mg base (bo P w) "ring_from" 2 ["orders", "one", "other"] xV:=by
 refine D.dh b9 (fun vs H Q E h=>?_) (fun f bN A o s H vs Q E hr h=>?_)
 ·obtain ⟨p,as,L,d,rfl,_⟩:=h; rfl
 ·obtain ⟨p,as,L,d,rfl,g,im,hd,hn,q⟩:=h;refine ⟨_,(ag (az (i:=3) b9.nd rfl (by walk_at "L") (aY (aa (pv 1) af)))
   (ag (az (i:=4) b9.nd rfl (by walk_at "L") (pv 2))
   (ag (az (i:=5) b9.nd rfl (by walk_at "L") (aA vw hr aX (aa (pv 0) (aa (pv 1) (aa (pv 2) af)))))
   (ag (uL PassesOwn.never (ax (GA (AM hr)) (fP (aa (pv 4) (aa (pv 5) af))) (fP (aa (pv 1) (aa (pv 2) af))) (aL _)) (ag (aU (b7 PySem.F.plainAttrs_list PySem.F.slot_list_append PySem.F.type_list_append bC (pv 3) (aa (pv 4) af)))
   (ag (az (i:=6) b9.nd rfl (by walk_at "L") (aA vw hr aX (aa (pv 0) (aa (pv 4) (aa (pv 5) af)))))
   (ag (az (i:=4) b9.nd rfl (by walk_at "L") (pv 5))
   (aj (az (i:=5) b9.nd rfl (by walk_at "L") (pv 6)))))))
   (aj (aP (pv 3))))))),?_⟩
  dsimp only [b8];walk_at "r";refine ⟨by rw [PySem.sizeLine_eq]; simp,fun r CO=>?_⟩;have e0:ah H (upd H r (.lst [.int d.1])):=ah.upd CO;have r0:upd H r (.lst [.int d.1]) r = some (.lst ((aH L d 1).map V.int)):=ae;generalize upd H r (.lst [.int d.1]) = H0 at e0 r0 ⊢;walk_at "r";refine ⟨p,as,L,d,rfl,g.same e0,im,hd,?_⟩;walk_at "r";refine xQ (fun σ H1=>∃ (j:Nat) (v:Option V),σ = [some (.ref p),some (.int d.1),some (.int d.2),some (.ref r),some (.int (it L d (j + 1)).1),some (.int (it L d (j + 1)).2),v]/\ah H H1/\H1 r = some (.lst ((aH L d (j + 1)).map V.int))/\iO L d (j + 1))
   (fun _ H1=>match H1 r with | some (.lst xs)=>(ck L L.length).length - xs.length | _=>0) ⟨0,none,rfl,e0,r0,fun i h1 h2=>by omega⟩ ?_
  rintro σ H1 ⟨j,v,rfl,e1,r1,nr⟩;walk_at "r";intro t1 Vp;walk_at "r";intro t2 Mn;refine Jg (a:=(it L d (j + 1)).1) (b:=(it L d (j + 1)).2) (c:=d.1) (d:=d.2) (SqT.of (by rw [ak (aB ae Mn)]; exact ae)) (SqT.of ae) ?_;have e2:ah H1 (upd (upd H1 t1 (.tup [.int (it L d (j + 1)).1,.int (it L d (j + 1)).2])) t2 (.tup [.int d.1,.int d.2])):=(ah.upd Vp).trans (ah.upd Mn);generalize upd (upd H1 t1 (.tup [.int (it L d (j + 1)).1,.int (it L d (j + 1)).2])) t2 (.tup [.int d.1,.int d.2]) = H2 at e2 ⊢;walk_at "r";refine i9 (fun iV=>?_) (fun heq=>?_)
  ·refine w_turn ?_;rw [r1];dsimp only;have r2:=e2 _ _ r1;have Ro:iO L d (j + 1 + 1):=fun i h1 h2=>by
    by_cases z:i = j + 1
    ·rw [z]; exact fun y=>iV ⟨congrArg Prod.fst y,congrArg Prod.snd y⟩
    ·exact nr i h1 (by omega)
   have bd:=oj im hd Ro;have zl:((aH L d (j + 1)).map V.int).length = j + 1:=by unfold aH; simp
   have er:(aH L d (j + 1)).map V.int ++ [V.int (it L d (j + 1)).1] = (aH L d (j + 1 + 1)).map V.int:=by
    unfold aH;rw [range_succ (n:=j + 1),map_append,map_append]
    rfl
   walk_at "r";refine ⟨.inl ⟨rfl,_,aw.of r2⟩,?_⟩;walk_at "r";refine bV r2 (by rw [zl]; exact aF (by omega)) ?_;rw [er];have e3:ah H (upd H2 r (.lst ((aH L d (j + 1 + 1)).map V.int))):=ah.fresh (e1.trans e2) CO;have r3:upd H2 r (.lst ((aH L d (j + 1 + 1)).map V.int)) r = some (.lst ((aH L d (j + 1 + 1)).map V.int)):=ae;generalize upd H2 r (.lst ((aH L d (j + 1 + 1)).map V.int)) = H3 at e3 r3 ⊢;walk_at "r";refine ⟨p,as,L,it L d (j + 1),rfl,g.same e3,im,lP im hd _,?_⟩;walk_at "r";refine ⟨⟨j + 1,_,rfl,e3,r3,Ro⟩,?_⟩;rw [r3];dsimp only;have SY:((aH L d (j + 1 + 1)).map V.int).length = j + 1 + 1:=by unfold aH; simp
   rw [zl,SY];omega
  ·walk_at "r";exact q r (j + 1) H2 (e1.trans e2) CO (e2 _ _ r1) (by omega) (Prod.ext heq.1 heq.2) nr
theorem hU:aG ["ring", "least"] ["ring"] (ao fN):=⟨rfl,rfl,rfl,by decide +kernel,rfl,by decide +kernel,by decide +kernel⟩
theorem nV (D:Def K mg "least_begun" fN ["ring"]) (T:Txt K mg Z):cw P w K mg base (bo P w) "least_begun" 1 ["ring"] ux:=by
 refine D.dh hU (fun vs H Q E h=>?_) (fun f bN A o s H vs Q E hr h=>?_)
 ·obtain ⟨a,r,rfl,_⟩:=h; rfl
 ·obtain ⟨a,r,rfl,ha,h0,h1,q⟩:=h;refine ⟨_,(ag (az (i:=1) hU.nd rfl (by walk_at "L") (ar (Ao rfl) (by rfl) T.min tT (aa (pv 0) af)))
   (aj (aP (ar (An rfl hr.units) (by rfl) T.min tT (aa (fD (tg:=["k"]) (fr:=[("ring",0),("least",1)]) (by walk_at "blk_ok") rfl (cU rfl T.range (aa (ar aM (by rfl) T.len aQ (aa (pv 0) af)) af)) (fun _ _ _ _ _=>(aN (i:=0) (show [("k" : Str),("ring" : Str),("least" : Str)].Nodup by decide +kernel) rfl (by walk_at "L"))) (fun _ _ _ _ _=>(jR (ax cX (aI (dM (K:=K) rfl) (pv 1) (pv 0) (fun _ _=>rfl)) (pv 2) (aL _)))) (fun _ _ _ _ _=>(aD jt (bH (eR (K:=K) rfl) (pv 1) (cS (pv 0)) bE) (bH (eR (K:=K) rfl) (pv 1) bE (cS (pv 0)))))) af))))),?_⟩
  dsimp only [b8];walk_at "r";refine ⟨a,r,rfl,aw.of ha,(fun z=>by rw [z] at h0; simp at h0),fun m hm hle=>?_⟩;walk_at "r";refine eY ?_;refine ⟨_,rfl,_,_,rfl,.inl ⟨_,aw.of ha,rfl⟩,(r.length:Int),by rw [length_map],by omega,by omega,?_⟩;rw [Int.toNat_natCast];intro acc bK;refine o4 (fun i σ' ys H1=>∃ (bs:List Addr) (cs:List Nat) (v:Option V),σ' = [v,some (.ref a),some (.int m)]/\ys = bs.map V.ref/\ah H H1/\aJ H1 acc bs (cs.map (bU r))/\acc∉bs/\(∀ b∈bs,H b = none)/\(∀ c∈cs,c < i/\cy r c = m)/\bs.length<=i/\∀ j,j < i->cy r j = m->j∈cs)
   ⟨[],[],none,rfl,rfl,ah.upd bK,⟨ae,rfl,fun i b l z=>by simp at z⟩,by simp,by simp,by simp,Nat.le_refl _,fun j z=>by omega⟩ ?_ ?_
  ·rintro i σ' ys H1 hi ⟨bs,cs,v,rfl,rfl,e1,g1,na,fr,hc,hz,hj⟩;simp only [Int.zero_add];walk_at "r";refine aR (aw.of (e1 _ _ ha)) (cQ (j:=i) (by omega) (by omega) (.inl rfl)) ?_;walk_at "r";refine if2 (fun he=>?_) (fun he=>?_)
   ·walk_at "r";refine iS (a:=a) (i:=1) (k:=0) (n:=i) (r:=r) rfl rfl (aw.of (e1 _ _ ha)) (by omega) fun p1 BX=>?_;have e2:ah H1 (upd H1 p1 (.lst ((r.drop i).map V.int))):=ah.upd BX;refine jO (a:=a) (i:=1) (k:=0) (n:=i) (r:=r) rfl rfl (aw.of (e2 _ _ (e1 _ _ ha))) (by omega) fun p2 we=>?_;have e3:=e2.trans (ah.upd (o:=.lst ((r.take i).map V.int)) we);have x1:upd (upd H1 p1 (.lst ((r.drop i).map V.int))) p2 (.lst ((r.take i).map V.int)) p1 = some (.lst ((r.drop i).map V.int)):=by rw [ak (aB ae we)]; exact ae
    refine ⟨p1,p2,_,_,rfl,rfl,x1,ae,by rw [length_map,length_map,length_drop,length_take,PySem.sizeLine_eq]; omega,fun b hb=>?_⟩;generalize upd (upd H1 p1 (.lst ((r.drop i).map V.int))) p2 (.lst ((r.take i).map V.int)) = H3 at e3 x1 hb ⊢;have e4:=e3.trans (ah.upd (o:=.lst ((r.drop i).map V.int ++ (r.take i).map V.int)) hb);have er:(r.drop i).map V.int ++ (r.take i).map V.int = (bU r i).map V.int:=by unfold bU; rw [map_append]
    rw [er] at e4 ⊢;have g4:=g1.same e4;have b4:upd H3 b (.lst ((bU r i).map V.int)) b = some (.lst ((bU r i).map V.int)):=ae;have VW:H b = none:=(e1.trans e3).free hb;have nb:b≠acc:=fun z=>by rw [z] at hb; exact absurd (e3 _ _ g1.top) (by rw [hb]; simp)
    have Xx:b∉bs:=fun z=>by
     obtain ⟨k,hk,lQ⟩:=List.mem_iff_getElem.mp z;have kl:k < (cs.map (bU r)).length:=by rw [<- g1.len]; exact hk
     have:=e3 _ _ (g1.row k b _ (by rw [getElem?_eq_getElem hk,lQ]) (getElem?_eq_getElem kl));rw [hb] at this; cases this
    generalize upd H3 b (.lst ((bU r i).map V.int)) = H4 at e4 g4 b4 ⊢;refine ⟨g4.top,by rw [length_map]; exact aF (by omega),fH hi ⟨bs ++ [b],cs ++ [i],_,rfl,by simp,ah.fresh (e1.trans e4) bK,?_,?_,?_,?_,?_,?_⟩⟩
    ·rw [map_append]; exact g4.snoc na nb b4
    ·intro z;rcases List.mem_append.mp z with z | z
     ·exact na z
     ·exact nb (List.mem_singleton.mp z).symm
    ·intro c yI;rcases List.mem_append.mp yI with z | z
     ·exact fr c z
     ·rw [List.mem_singleton.mp z]; exact VW
    ·intro c yI;rcases List.mem_append.mp yI with z | z
     ·have:=hc c z; exact ⟨by omega,this.2⟩
     ·rw [List.mem_singleton.mp z]; exact ⟨by omega,he⟩
    ·rw [length_append,length_singleton]; omega
    ·intro j VL Ft;by_cases z:j = i
     ·rw [z]; simp
     ·exact mem_append_left _ (hj j (by omega) Ft)
   ·refine fH hi ⟨bs,cs,_,rfl,rfl,e1,g1,na,fr,fun c z=>?_,by omega,fun j VL Ft=>?_⟩
    ·have:=hc c z; exact ⟨by omega,this.2⟩
    ·by_cases z:j = i
     ·rw [z] at Ft; exact absurd Ft he
     ·exact hj j (by omega) Ft
  ·rintro σ' ys H1 ⟨bs,cs,v,rfl,rfl,e1,g1,na,fr,hc,hz,hj⟩;walk_at "r";obtain ⟨k,hk,lQ⟩:=List.mem_iff_getElem.mp hm;have kc:k∈cs:=hj k hk (by rw [gO hk]; exact lQ);have c0:0 < cs.length:=length_pos_of_mem kc;have zl:=g1.len;rw [length_map] at zl;refine ⟨acc,bs,cs.map (bU r),rfl,aw.of g1.top,g1.len,fun i b l x1 x2=>aw.of (g1.row i b l x1 x2),by omega,fun i b l x1 x2 hl=>?_⟩;rw [getElem?_map] at x2;cases ec:cs[i]? with
   | none=>rw [ec] at x2; cases x2
   | some c=>
    rw [ec] at x2;have:bU r c = l:=Option.some.inj x2;subst this;have cm:=hc c (mem_of_getElem? ec);refine q b c H1 e1 (fr b (mem_of_getElem? x1)) (g1.row i b _ x1 (by rw [getElem?_map,ec]; rfl)) cm.1 fun j Hb=>?_;by_cases z:cy r j = m
    ·exact hl _ (List.mem_map.mpr ⟨j,hj j Hb z,rfl⟩)
    ·have kk:=hc k kc;refine Le.trans (hl _ (List.mem_map.mpr ⟨k,kc,rfl⟩)) (Le.of_lt (F4 kk.1 Hb ?_));have:=hle (cy r j) (oZ h0);rw [kk.2];omega
theorem A4:aG ["ring"] ["ring"] (ao sq):=⟨rfl,rfl,rfl,by decide +kernel,rfl,by decide +kernel,by decide +kernel⟩
theorem Bv (D:Def K mg "steps" sq ["ring"]) (T:Txt K mg Z):cw P w K mg base (bo P w) "steps" 1 ["ring"] jG:=by
 refine D.dh A4 (fun vs H Q E h=>?_) (fun f bN A o s H vs Q E hr h=>?_)
 ·obtain ⟨a,r,rfl,_⟩:=h; rfl
 ·obtain ⟨a,r,rfl,ha,r0,rn,q⟩:=h;refine ⟨_,(aj (aP (wK rfl T.zip T.list (aa (pv 0) (aa (aD jt (bH dA (pv 0) (cS ai) bE) (bH dA (pv 0) bE (cS ai))) af))))),?_⟩;dsimp only [b8];walk_at "r";refine zy ?_;walk_at "r";refine wH (a:=a) (i:=0) (n:=1) (r:=r) rfl (aw.of ha) (by omega) fun p1 BX=>?_;have e2:ah H (upd H p1 (.lst ((r.drop 1).map V.int))):=ah.upd BX;refine Bi (a:=a) (i:=0) (n:=1) (r:=r) rfl (aw.of (e2 _ _ ha)) (by omega) fun p2 we=>?_;have e3:=e2.trans (ah.upd (o:=.lst ((r.take 1).map V.int)) we);have x1:upd (upd H p1 (.lst ((r.drop 1).map V.int))) p2 (.lst ((r.take 1).map V.int)) p1 = some (.lst ((r.drop 1).map V.int)):=by rw [ak (aB ae we)]; exact ae
  refine ⟨p1,p2,_,_,rfl,rfl,x1,ae,by rw [length_map,length_map,length_drop,length_take,PySem.sizeLine_eq]; omega,fun b hb=>?_⟩;generalize upd (upd H p1 (.lst ((r.drop 1).map V.int))) p2 (.lst ((r.take 1).map V.int)) = H3 at e3 x1 hb ⊢;have er:(r.drop 1).map V.int ++ (r.take 1).map V.int = (bU r 1).map V.int:=by unfold bU; rw [map_append]
  rw [er];have e4:=e3.trans (ah.upd (o:=.lst ((bU r 1).map V.int)) hb);walk_at "r";have rl:(bU r 1).length = r.length:=cK (by omega);refine ⟨a,b,r.map V.int,(bU r 1).map V.int,rfl,aw.of (e4 _ _ ha),aw.of ae,by rw [length_map,length_map,rl],fun l as H5 e5 hl h5 la hp=>?_⟩;rw [length_map] at la;walk_at "r";refine q l as H5 (e4.trans e5) (e4.free hl) h5 (PR.mk (by rw [bR]; exact la) fun j x d hx hd=>?_);obtain ⟨_,_,u,v,hu,hv,h6⟩:=hp j x hx;have hj:j < r.length:=by
   have:=(List.getElem?_eq_some_iff.mp hx).1;omega
  rw [getElem?_map,Lr hj] at hu;rw [getElem?_map,Dv hj] at hv;cases hu
  cases hv
  rw [qC hj] at hd;cases hd
  exact h6
theorem dY:aG ["orders", "gone", "rings", "one", "order", "other", "ring", "step"] ["orders"] (ao su):=⟨rfl,rfl,rfl,by decide +kernel,rfl,by decide +kernel,by decide +kernel⟩
theorem Bx (D:Def K mg "lands" su ["orders"]) (T:Txt K mg Z) (vv:cw P w K mg base (bo P w) "ring_from" 2 ["orders", "one", "other"] xV) (pX:cw P w K mg base (bo P w) "least_begun" 1 ["ring"] ux) (kg:cw P w K mg base (bo P w) "steps" 1 ["ring"] jG):cw P w K mg base (bo P w) "lands" 3 ["orders"] eQ:=by
 refine D.dh dY (fun vs H Q E h=>?_) (fun f bN A o s H vs Q E hr h=>?_)
 ·obtain ⟨p,as,L,rfl,_⟩:=h; rfl
 ·obtain ⟨p,as,L,rfl,g,im,hn,hd,q⟩:=h;refine ⟨_,(ag (az (i:=1) dY.nd rfl (by walk_at "L") nT)
   (ag (az (i:=2) dY.nd rfl (by walk_at "L") (aY af))
   (ag (bZ PassesOwn.never rfl (mM T.enumerate (aa (pv 0) af)) (kL (n:=2) rfl (bW (aN (i:=3) dY.nd rfl (by walk_at "L")) (bW (aN (i:=4) dY.nd rfl (by walk_at "L")) gm)))
   (aj (bZ PassesOwn.never rfl (bM (pv 4)) (aN (i:=5) dY.nd rfl (by walk_at "L"))
   (aj (aZ (sF (kQ (oG hr) (fP (aa (pv 3) (aa (pv 5) af))) (pv 1))) (ag (az (i:=6) dY.nd rfl (by walk_at "L") (aA vv hr aX (aa (pv 0) (aa (pv 3) (aa (pv 5) af)))))
   (ag (aU (b7 PySem.F.plainAttrs_list PySem.F.slot_list_append PySem.F.type_list_append bC (pv 2) (aa (aA pX hr aX (aa (pv 6) af)) af)))
   (aj (bZ PassesOwn.never rfl (bM (aA kg hr aX (aa (pv 6) af))) (aN (i:=7) dY.nd rfl (by walk_at "L"))
   (aj (sG (oG hr) (pv 1) (pv 7) cA rfl)))))) aK)))))
   (aj (aP (ar (tS hr.units) (by rfl) T.sorted rJ (aa (pv 2) af))))))),?_⟩
  dsimp only [b8];walk_at "r";intro gd B2;walk_at "r";refine ⟨Nat.zero_le _,fun t ht=>?_⟩;have tH:H t = none:=(ah.upd B2).free ht;have e0:ah H (upd (upd H gd (.dT [])) t (.lst [])):=(ah.upd B2).trans (ah.upd ht);have g0:upd (upd H gd (.dT [])) t (.lst []) gd = some (.dT (kD [])):=by rw [ak (aB ae ht)]; exact ae
  have t0:aJ (upd (upd H gd (.dT [])) t (.lst [])) t [] []:=⟨ae,rfl,fun i a l z=>by simp at z⟩;generalize upd (upd H gd (.dT [])) t (.lst []) = H0 at e0 g0 t0 ⊢;walk_at "r";refine cW ?_;refine ⟨_,rfl,p,rfl,⟨_,aw.of (e0 _ _ g.top)⟩,kh (K:=K) (a:=p) (xs:=as.map V.ref) (fun i σ H1=>∃ (ks:List aq) (bs:List Addr) (R:List (List Int)) (v3 v4 v5 v6 v7:Option V),σ = [some (.ref p),some (.ref gd),some (.ref t),v3,v4,v5,v6,v7]/\ah H H1/\H1 gd = some (.dT (kD ks))/\aJ H1 t bs R/\(t :: bs).Nodup/\(∀ b∈t :: bs,H b = none)/\Lp L R ks/\∀ d,Dt L d->d.1 < i->d∈ks)
   ⟨[],[],[],none,none,none,none,none,rfl,e0,g0,t0,by simp,by simpa using tH,Lp.start,fun d h1 h2=>by have:=h1.lo; omega⟩ (fun i σ H1 _ ⟨_,_,_,_,_,_,_,_,_,e1,_⟩=>aw.of (e1 _ _ g.top)) ?_ ?_⟩
  ·rintro i x pr σ H1 hx ⟨ks,bs,R,v3,v4,v5,v6,v7,rfl,e1,g1,t1,iT,gR,BH,CY⟩ AD;have hi:i < L.length:=by
    have:=(List.getElem?_eq_some_iff.mp hx).1;rw [length_map,g.len] at this;exact this
   obtain ⟨b,l,ha,hl,b5⟩:=g.at hi;obtain rfl:x = V.ref b:=by
    rw [getElem?_map,ha] at hx;exact (Option.some.inj hx).symm
   have el:rowOf L (i:Int) = l:=by
    have:=ay (L:=L) (a:=(i:Int)) (by omega) (by omega);rw [Int.toNat_natCast,hl] at this;exact (Option.some.inj this).symm
   have e2:ah H1 (upd H1 pr (.tup [.int i,.ref b])):=ah.upd AD;have g2:=e2 _ _ g1;have t2:=t1.same e2;have p8:=e1.trans e2;refine iB (SqT.of ae) rfl ?_;generalize upd H1 pr (.tup [.int i,.ref b]) = H2 at e2 g2 t2 p8 ⊢;walk_at "r";refine cW ?_;refine ⟨_,rfl,b,rfl,⟨_,aw.of (p8 _ _ b5)⟩,dO (K:=K) (a:=b) (xs:=l.map V.int) (fun k σ H3=>∃ (ks:List aq) (bs:List Addr) (R:List (List Int)) (v5 v6 v7:Option V),σ = [some (.ref p),some (.ref gd),some (.ref t),some (.int (i:Int)),some (.ref b),v5,v6,v7]/\ah H H3/\H3 gd = some (.dT (kD ks))/\aJ H3 t bs R/\(t :: bs).Nodup/\(∀ b∈t :: bs,H b = none)/\Lp L R ks/\∀ d,Dt L d->d.1 < i\/d.1 = i/\d.2∈l.take k->d∈ks)
    ⟨ks,bs,R,v5,v6,v7,rfl,p8,g2,t2,iT,gR,BH,fun d h1 h2=>CY d h1 (h2.elim id fun z=>by simp at z)⟩ (fun k σ H3 _ ⟨_,_,_,_,_,_,_,e,_⟩=>aw.of (e _ _ b5)) ?_ ?_⟩
   ·clear ks bs R v3 v4 v5 v6 v7 e1 g1 t1 iT gR BH CY e2 g2 t2 p8 AD hx;rintro k x σ H3 hx ⟨ks,bs,R,v5,v6,v7,rfl,e3,g3,t3,uf,pZ,Az,Ak⟩;obtain ⟨y,hy,rfl⟩:∃ y,l[k]? = some y/\x = V.int y:=by
     rw [getElem?_map] at hx;cases e:l[k]? with
     | none=>rw [e] at hx; cases hx
     | some z=>rw [e] at hx; exact ⟨z,rfl,(Option.some.inj hx).symm⟩
    have dt:Dt L ((i:Int),y):=⟨by simp,by simpa using hi,by rw [el]; exact mem_of_getElem? hy⟩;walk_at "r";intro q1 OK;have e4:ah H3 (upd H3 q1 (.tup [.int i,.int y])):=ah.upd OK;have k4:upd H3 q1 (.tup [.int i,.int y]) q1 = some (.tup ((eL ((i:Int),y)).map kV)):=ae;generalize upd H3 q1 (.tup [.int i,.int y]) = H4 at e4 k4 ⊢;refine ⟨_,rfl,gd,_,rfl,iR.t (k:=eL ((i:Int),y)) (e4 _ _ g3) k4,?_⟩;rw [fT];walk_at "r";refine i9 (fun Ia=>?_) (fun JY=>?_)
    ·walk_at "r";refine ⟨p,as,L,((i:Int),y),rfl,g.same (e3.trans e4),im,dt,hd,fun r n H5 e5 r0 r5 n0 ek nr=>?_⟩;have Ja:(aH L ((i:Int),y) n).length = n:=by unfold aH; simp
     have Xu:=oj im dt nr;have So:=e5 _ _ (e4 _ _ g3);have t5:=(t3.same e4).same e5;have Sy:=(e3.trans e4).trans e5;walk_at "r";refine ⟨.inl ⟨rfl,_,aw.of t5.top⟩,?_⟩;walk_at "r";refine ⟨r,_,rfl,r5,by omega,by omega,fun c cc H6 e6 c0 c6 Kz El=>?_⟩;rw [Ja] at Kz El;have t6:=t5.same e6;have nc:=t5.fe c0;have g6:=e6 _ _ So;have r6:=e6 _ _ r5;have rH:H r = none:=(e3.trans e4).free r0;have UB:r≠t:=fun z=>by rw [z] at r0; exact absurd (t3.same e4).top (by rw [r0]; simp)
     have Oa:=Az.add im dt n0 ek nr Ia Kz El;have lb:=Oa.len;have l2:=Oa.two;rw [length_append,bR,Ja] at lb;have zR:=t6.len;have l3:=Az.two;walk_at "r";refine bV t6.top (by rw [length_map]; exact aF (by omega)) ?_;have JM:c≠t:=fun z=>nc (z▸mem_cons_self);have t7:=t6.snoc (List.nodup_cons.mp uf).1 JM c6;have e7:ah H (upd H6 t (.lst (bs.map V.ref ++ [.ref c]))):=ah.fresh (Sy.trans e6) tH;have g7:upd H6 t (.lst (bs.map V.ref ++ [.ref c])) gd = some (.dT (kD ks)):=by rw [ak (fun z=>by have:=t6.top; rw [<- z,g6] at this; cases this)]; exact g6
     have r7:upd H6 t (.lst (bs.map V.ref ++ [.ref c])) r = some (.lst ((aH L ((i:Int),y) n).map V.int)):=by rw [ak UB]; exact r6
     generalize upd H6 t (.lst (bs.map V.ref ++ [.ref c])) = H7 at t7 e7 g7 r7 ⊢;have Fn:(t :: (bs ++ [c])).Nodup:=by
      obtain ⟨n1,n2⟩:=List.nodup_cons.mp uf;refine List.nodup_cons.mpr ⟨fun z=>?_,dX.mpr ⟨fun z=>nc (mem_cons_of_mem _ z),n2⟩⟩;rcases List.mem_append.mp z with z | z
      ·exact n1 z
      ·exact JM (List.mem_singleton.mp z).symm
     have V8:∀ b∈t :: (bs ++ [c]),H b = none:=fun b hb=>by
      rcases List.mem_cons.mp hb with z | z
      ·rw [z]; exact tH
      ·rcases List.mem_append.mp z with z | z
       ·exact pZ b (mem_cons_of_mem _ z)
       ·rw [List.mem_singleton.mp z]; exact Sy.free c0
     walk_at "r";refine cW ?_;refine ⟨_,rfl,r,_,rfl,r7,by omega,by omega,fun sl ps Hs es QU E4 Gs=>?_⟩;have Wi:=e7.trans es;have V3:=es _ _ g7;have Tv:=t7.same es;have RG:=Oa.perm ((perm_append_left_iff ks).mpr (fz (aH L ((i:Int),y) n) (n - 1)).symm);refine ⟨sl,rfl,⟨_,aw.of E4⟩,dO (K:=K) (a:=sl) (xs:=ps.map V.ref) (fun j σ H8=>∃ v7:Option V,σ = [some (.ref p),some (.ref gd),some (.ref t),some (.int (i:Int)),some (.ref b),some (.int y),some (.ref r),v7]/\ah H H8/\H8 gd = some (.dT (kD (ks ++ (sh 0 (aH L ((i:Int),y) n)).take j)))/\aJ H8 t (bs ++ [c]) (R ++ [bU (aH L ((i:Int),y) n) cc])/\H8 sl = some (.lst (ps.map V.ref))/\PR H8 ps (sh 0 (aH L ((i:Int),y) n)))
      ⟨_,rfl,Wi,by rw [take_zero,append_nil]; exact V3,Tv,E4,Gs⟩ (fun j σ H8 _ ⟨_,_,_,_,_,e,_⟩=>aw.of e) ?_ ?_⟩
     ·rintro j x σ H8 hx ⟨w7,rfl,e8,g8,t8,s8,Bl⟩;have Kr:j < ps.length:=by
       have:=(List.getElem?_eq_some_iff.mp hx).1;rw [length_map] at this;exact this
      have Hb:j < (aH L ((i:Int),y) n).length:=by
       have:=Bl.len;rw [bR] at this;omega
      obtain ⟨d8,Hd,k8⟩:=Bl.at (i:=j) (a:=ps[j]) (by simp [Kr]);obtain rfl:x = V.ref ps[j]:=by
       rw [getElem?_map,getElem?_eq_getElem Kr] at hx;exact (Option.some.inj hx).symm
      have new:=eK RG.nd Hd;walk_at "r";refine ⟨gd,_,rfl,uc.t (k:=eL d8) g8 k8 ?_,?_⟩
      ·rw [BQ,length_append,length_take];exact aF (by omega)
      ·rw [uJ new,append_assoc,<- take_snoc Hd];refine ⟨_,rfl,ah.fresh e8 B2,ae,t8.other g8,?_,Paired.wU Bl fun a z h=>?_⟩
       ·rw [ak (fun z=>by rw [z,g8] at s8; cases s8)];exact s8
       ·rw [ak (fun w=>by rw [w,g8] at h; cases h)];exact h
     ·rintro σ H8 ⟨w7,rfl,e8,g8,t8,s8,Bl⟩;rw [length_map,Bl.len,take_length] at g8;refine ⟨_,_,_,_,_,_,rfl,e8,g8,t8,Fn,V8,RG,fun d h1 h2=>?_⟩;rw [take_snoc hy] at h2;by_cases z:d = ((i:Int),y)
      ·rw [z];refine mem_append_right _ ((df (by omega)).mpr ⟨0,?_⟩);rw [gF n0 ek]; rfl
      ·refine mem_append_left _ (Ak d h1 ?_);rcases h2 with h2 | ⟨h2,h3⟩
       ·exact .inl h2
       ·rcases List.mem_append.mp h3 with h3 | h3
        ·exact .inr ⟨h2,h3⟩
        ·exact absurd (Prod.ext h2 (List.mem_singleton.mp h3)) z
    ·refine ⟨ks,bs,R,_,_,_,rfl,e3.trans e4,e4 _ _ g3,t3.same e4,uf,pZ,Az,fun d h1 h2=>?_⟩;rw [take_snoc hy] at h2;rcases h2 with h2 | ⟨h2,h3⟩
     ·exact Ak d h1 (.inl h2)
     ·rcases List.mem_append.mp h3 with h3 | h3
      ·exact Ak d h1 (.inr ⟨h2,h3⟩)
      ·rw [show d = ((i:Int),y) from Prod.ext h2 (List.mem_singleton.mp h3)]; exact JY
   ·rintro σ H3 ⟨ks,bs,R,v5,v6,v7,rfl,e3,g3,t3,uf,pZ,Az,Ak⟩;rw [length_map,take_length] at Ak;refine ⟨ks,bs,R,_,_,_,_,_,rfl,e3,g3,t3,uf,pZ,Az,fun d h1 h2=>Ak d h1 ?_⟩;by_cases z:d.1 = i
    ·refine .inr ⟨z,?_⟩;have:=h1.mem;rw [z,el] at this;exact this
    ·exact .inl (by omega)
  ·rintro σ H1 ⟨ks,bs,R,v3,v4,v5,v6,v7,rfl,e1,g1,t1,iT,gR,BH,CY⟩;rw [length_map,g.len] at CY;walk_at "r";have zR:=t1.len;have lb:=BH.len;have l2:=BH.two;refine ⟨t,bs,R,rfl,aw.of t1.top,t1.len,fun i b l h1 h2=>aw.of (t1.row i b l h1 h2),by omega,fun pp qd hp G0 hq=>?_⟩;have pm:=kK (d:=(0:Addr)) (L:=bs) (p:=pp) (by rw [zR]; exact hp);refine q qd (pick 0 bs pp) (pick [] R pp) _ (e1.trans (ah.upd hq)) (t1.pick hp hq) ?_ (fun b hb=>?_) (BH.lands hp G0 fun d hd=>CY d hd hd.hi)
   ·refine List.nodup_cons.mpr ⟨fun z=>t1.fe hq (mem_cons_of_mem _ (pm.mem_iff.mp z)),pm.nodup_iff.mpr (List.nodup_cons.mp iT).2⟩
   ·rcases List.mem_cons.mp hb with z | z
    ·rw [z]; exact e1.free hq
    ·exact gR b (mem_cons_of_mem _ (pm.mem_iff.mp z))
theorem jK:aG ["order", "new", "old", "where"] ["order", "new", "old"] (ao ic):=⟨rfl,rfl,rfl,by decide +kernel,rfl,by decide +kernel,by decide +kernel⟩
theorem sL (D:Def K mg "put_ahead" ic ["order", "new", "old"]) (T:Txt K mg Z):cw P w K mg base (bo P w) "put_ahead" 1 ["order", "new", "old"] gY:=by
 refine D.dh jK (fun vs H Q E h=>?_) (fun f bN A o s H vs Q E hr h=>?_)
 ·obtain ⟨a,l,x,y,rfl,_⟩:=h; rfl
 ·obtain ⟨a,l,x,y,rfl,ha,hy,hl,q⟩:=h;have ii:=idxOf_lt_length_of_mem hy;refine ⟨_,(ag (az (i:=3) jK.nd rfl (by walk_at "L") (b7 PySem.F.plainAttrs_list PySem.F.slot_list_index PySem.F.type_list_index ff (pv 0) (aa (pv 2) af)))
   (aj (aP (aD jt (aD jt (bH dA (pv 0) bE (cS (pv 3))) (aY (aa (pv 1) af))) (bH dA (pv 0) (cS (pv 3)) bE))))),?_⟩
  dsimp only [b8];walk_at "r";refine ⟨.inl ⟨rfl,_,aw.of ha⟩,?_⟩;walk_at "r";refine ⟨a,_,y,rfl,rfl,ha,hy,?_⟩;walk_at "r";refine jO (a:=a) (i:=0) (k:=3) (n:=l.idxOf y) (r:=l) rfl rfl (aw.of ha) (by omega) fun p1 BX=>?_;have e1:ah H (upd H p1 (.lst ((l.take (l.idxOf y)).map V.int))):=ah.upd BX;have x1:upd H p1 (.lst ((l.take (l.idxOf y)).map V.int)) p1 = some (.lst ((l.take (l.idxOf y)).map V.int)):=ae;generalize upd H p1 (.lst ((l.take (l.idxOf y)).map V.int)) = H1 at e1 x1 ⊢;walk_at "r";refine ⟨by rw [PySem.sizeLine_eq]; simp,fun p2 we=>?_⟩;have e2:=e1.trans (ah.upd (o:=.lst [.int x]) we);have x2:upd H1 p2 (.lst [.int x]) p1 = some (.lst ((l.take (l.idxOf y)).map V.int)):=ah.upd we _ _ x1;have y2:upd H1 p2 (.lst [.int x]) p2 = some (.lst [.int x]):=ae;generalize upd H1 p2 (.lst [.int x]) = H2 at e2 x2 y2 ⊢;refine ⟨p1,p2,_,_,rfl,rfl,x2,y2,by rw [length_map,length_take,PySem.sizeLine_eq]; simp; omega,fun p3 Vx=>?_⟩;have e3:=e2.trans (ah.upd (o:=.lst ((l.take (l.idxOf y)).map V.int ++ [.int x])) Vx);have x3:upd H2 p3 (.lst ((l.take (l.idxOf y)).map V.int ++ [.int x])) p3 = some (.lst ((l.take (l.idxOf y)).map V.int ++ [.int x])):=ae;generalize upd H2 p3 (.lst ((l.take (l.idxOf y)).map V.int ++ [.int x])) = H3 at e3 x3 ⊢;refine iS (a:=a) (i:=0) (k:=3) (n:=l.idxOf y) (r:=l) rfl rfl (aw.of (e3 _ _ ha)) (by omega) fun p4 RW=>?_;have e4:=e3.trans (ah.upd (o:=.lst ((l.drop (l.idxOf y)).map V.int)) RW);have x4:=ah.upd (o:=.lst ((l.drop (l.idxOf y)).map V.int)) RW _ _ x3;have y4:upd H3 p4 (.lst ((l.drop (l.idxOf y)).map V.int)) p4 = some (.lst ((l.drop (l.idxOf y)).map V.int)):=ae;generalize upd H3 p4 (.lst ((l.drop (l.idxOf y)).map V.int)) = H4 at e4 x4 y4 ⊢;refine ⟨p3,p4,_,_,rfl,rfl,x4,y4,by simp only [length_append,length_map,length_take,length_drop,length_cons,length_nil]; rw [PySem.sizeLine_eq]; omega,fun b hb=>?_⟩;have ep:(l.take (l.idxOf y)).map V.int ++ [.int x] ++ (l.drop (l.idxOf y)).map V.int = (put l (l.idxOf y) x).map V.int:=by unfold put; simp
  rw [ep];walk_at "r";exact q b _ (e4.trans (ah.upd hb)) (e4.free hb) ae
theorem mE:aG ["orders", "found", "place", "order"] ["orders"] (ao wA):=⟨rfl,rfl,rfl,by decide +kernel,rfl,by decide +kernel,by decide +kernel⟩
theorem DS (D:Def K mg "ties" wA ["orders"]) (T:Txt K mg Z):cw P w K mg base (bo P w) "ties" 1 ["orders"] xU:=by
 refine D.dh mE (fun vs H Q E h=>?_) (fun f bN A o s H vs Q E hr h=>?_)
 ·obtain ⟨p,as,L,rfl,_⟩:=h; rfl
 ·obtain ⟨p,as,L,rfl,g,hn,im,q⟩:=h;refine ⟨_,(ag (az (i:=1) mE.nd rfl (by walk_at "L") (aY af))
   (ag (bZ PassesOwn.never rfl (mM T.enumerate (aa (pv 0) af)) (kL (n:=2) rfl (bW (aN (i:=2) mE.nd rfl (by walk_at "L")) (bW (aN (i:=3) mE.nd rfl (by walk_at "L")) gm)))
   (aj (aU (b7 PySem.F.plainAttrs_list PySem.F.slot_list_extend PySem.F.type_list_extend zH (pv 1) (aa (fD (tg:=["neighbour"]) (fr:=[("place",2)]) (by walk_at "blk_ok") rfl (bM (ar vM (by rfl) T.sorted rJ (aa (pv 3) af))) (fun _ _ _ _ _=>(aN (i:=0) (show [("neighbour" : Str),("place" : Str)].Nodup by decide +kernel) rfl (by walk_at "L"))) (fun _ _ _ _ _=>(jR (ax lI (pv 1) (pv 0) (aL _)))) (fun _ _ _ _ _=>(fP (aa (pv 1) (aa (pv 0) af))))) af)))))
   (aj (aP (pv 1))))),?_⟩
  dsimp only [b8];walk_at "r";refine ⟨Nat.zero_le _,fun t ht=>?_⟩;walk_at "r";refine cW ?_;have e0:ah H (upd H t (.lst [])):=ah.upd ht;refine ⟨_,rfl,p,rfl,⟨_,aw.of (e0 _ _ g.top)⟩,kh (K:=K) (a:=p) (xs:=as.map V.ref) (fun i σ H1=>∃ (ps:List Addr) (v2 v3:Option V),σ = [some (.ref p),some (.ref t),v2,v3]/\ah H H1/\H1 t = some (.lst (ps.map V.ref))/\PR H1 ps (cO L i)) ⟨[],none,none,rfl,e0,ae,.nil⟩ (fun i σ H1 _ ⟨_,_,_,_,e1,_⟩=>aw.of (e1 _ _ g.top)) ?_ ?_⟩
  ·rintro i x pr σ H1 hx ⟨ps,v2,v3,rfl,e1,h1,L8⟩ AD;have hi:i < L.length:=by
    have:=(List.getElem?_eq_some_iff.mp hx).1;rw [length_map,g.len] at this;exact this
   obtain ⟨b,l,ha,hl,b5⟩:=g.at hi;obtain rfl:x = V.ref b:=by
    rw [getElem?_map,ha] at hx;exact (Option.some.inj hx).symm
   have e2:ah H1 (upd H1 pr (.tup [.int i,.ref b])):=ah.upd AD;have qV:=e2 _ _ (e1 _ _ b5);have h2:=e2 _ _ h1;have Jx:=L8.same e2;have p8:=e1.trans e2;refine iB (SqT.of ae) rfl ?_;generalize upd H1 pr (.tup [.int i,.ref b]) = H2 at qV h2 Jx p8 ⊢;walk_at "r";refine ⟨.inl ⟨rfl,_,aw.of h2⟩,?_⟩;walk_at "r";refine eY ?_;have ln:l.length<=L.length:=bz (im.nd _ _ hl) fun y hy=>⟨(im.rg _ _ hl y hy).1,(im.rg _ _ hl y hy).2.1⟩;refine ⟨_,rfl,b,l,rfl,aw.of qV,by omega,fun nZ sp hp hs qU=>?_⟩;have XE:=hp.length_eq;refine ⟨sp,rfl,⟨_,aw.of ae⟩,fun acc bK=>?_⟩;have e3:ah H2 (upd H2 sp (.lst (nZ.map V.int))):=ah.upd qU;have e4:=e3.trans (ah.upd (o:=.lst []) bK);have OF:upd (upd H2 sp (.lst (nZ.map V.int))) acc (.lst []) sp = some (.lst (nZ.map V.int)):=by rw [ak (aB ae bK)]; exact ae
   refine dw (K:=K) (a:=sp) (xs:=nZ.map V.int) (fun k σ' ys H5=>∃ (qs:List Addr) (v:Option V),σ' = [v,some (.int i)]/\ys = qs.map V.ref/\ah H2 H5/\H5 sp = some (.lst (nZ.map V.int))/\H5 acc = some (.lst ys)/\qs.length<=k/\PR H5 qs (((nZ.take k).filter (fun y=>decide ((i:Int) < y))).map fun y=>((i:Int),y)))
    ⟨[],none,rfl,rfl,e4,OF,ae,Nat.le_refl _,.nil⟩ (fun k σ' ys H5 _ ⟨_,_,_,_,_,h,_⟩=>aw.of h) ?_ ?_
   ·rintro k x σ' ys H5 hx hk ⟨qs,v,rfl,rfl,e5,s5,a5,q5,Gu⟩;obtain ⟨y,hy,rfl⟩:∃ y,nZ[k]? = some y/\x = V.int y:=by
     rw [getElem?_map] at hx;cases e:nZ[k]? with
     | none=>rw [e] at hx; cases hx
     | some z=>rw [e] at hx; exact ⟨z,rfl,(Option.some.inj hx).symm⟩
    rw [length_map] at hk;have tk:nZ.take (k + 1) = nZ.take k ++ [y]:=by rw [take_succ,hy]; rfl
    walk_at "r";refine if2 (fun ef=>?_) (fun ef=>?_)
    ·walk_at "r";intro pq HZ;refine ⟨by rw [ak (aB a5 HZ)]; exact a5,by rw [length_map]; exact aF (by omega),fH (by rw [length_map]; exact hk) ⟨qs ++ [pq],_,rfl,by simp,?_,?_,ae,by simp; omega,?_⟩⟩
     ·exact ah.fresh (e5.trans (ah.upd HZ)) (e3.free bK)
     ·rw [ak (fun z=>by rw [<- z] at bK; rw [ae] at bK; cases bK),ak (aB s5 HZ)]; exact s5
     ·have p6:PR (upd H5 pq (.tup [.int i,.int y])) qs _:=Gu.same (ah.upd HZ);have p7:=PR.lst (zs:=qs.map V.ref ++ [.ref pq]) p6 (show upd H5 pq (.tup [.int i,.int y]) acc = some (.lst (qs.map V.ref)) by rw [ak (aB a5 HZ)]; exact a5);rw [tk,filter_append,map_append];refine PR.app p7 ?_;rw [filter_cons,if_pos (by simpa using ef)];refine .cons ?_ .nil;rw [ak (Ne.symm (aB a5 HZ))];exact ae
    ·refine fH (by rw [length_map]; exact hk) ⟨qs,_,rfl,rfl,e5,s5,a5,by omega,?_⟩;rw [tk,filter_append,map_append,filter_cons,if_neg (by simpa using ef)];simpa using Gu
   ·rintro σ' ys H5 ⟨qs,v,rfl,rfl,e5,s5,a5,q5,Gu⟩;rw [length_map] at q5 Gu;rw [take_length] at Gu;rw [F3 hp hs (im.nd _ _ hl) (fun y hy=>(im.rg _ _ hl y hy).2.1) hi] at Gu;walk_at "r";have lp:=Jx.len;have ld:=vg (L:=L) i;have lm:i * L.length<=60 * 60:=Nat.mul_le_mul (by omega) hn;refine Bg (e5 _ _ h2) a5 (by rw [length_map,length_map,PySem.sizeLine_eq]; omega) ?_;walk_at "r";refine ⟨ps ++ qs,_,_,rfl,ah.fresh (p8.trans e5) ht,by rw [map_append]; exact ae,?_⟩;have hg:L.getD i [] = l:=by rw [getD_eq_getElem?_getD,hl]; rfl
    rw [cO,hg];exact PR.app (PR.lst (Jx.same e5) (e5 _ _ h2)) (PR.lst Gu (e5 _ _ h2))
  ·rintro σ H1 ⟨ps,v2,v3,rfl,e1,h1,L8⟩;rw [length_map,g.len] at L8;walk_at "r";exact q t ps H1 e1 ht h1 L8
theorem jJ:aG ["orders", "land", "one", "other", "ring", "first", "second", "changed"] ["orders", "land", "one", "other"] (ao wB):=⟨rfl,rfl,rfl,by decide +kernel,rfl,by decide +kernel,by decide +kernel⟩
theorem DT (D:Def K mg "tied" wB ["orders", "land", "one", "other"]) (T:Txt K mg Z) (dN:cw P w K mg base (bo P w) "lands" 3 ["orders"] eQ) (fG:cw P w K mg base (bo P w) "put_ahead" 1 ["order", "new", "old"] gY):cw P w K mg base (bo P w) "tied" 5 ["orders", "land", "one", "other"] (rY Z.dQ):=by
 refine D.oJ jJ (fun vs H Q E h=>?_) (fun f bN A o s H vs Q E hr h=>?_)
 ·obtain ⟨p,as,L,R,r,m,i,j,rfl,_⟩:=h; rfl
 ·obtain ⟨p,as,L,R,r,m,i,j,rfl,g,im,hn,hd,lR,hm,hi,hj,q,qE⟩:=h;refine ⟨_,(ag (az (i:=4) jJ.nd rfl (by walk_at "L") (aI au (aA dN hr aX (aa (pv 0) af)) (pv 1) (fun _ _=>rfl)))
   (ag (az (i:=5) jJ.nd rfl (by walk_at "L") (aI au (pv 4) (pv 2) (fun _ _=>rfl)))
   (ag (az (i:=6) jJ.nd rfl (by walk_at "L") (aI au (pv 4) (pv 3) (fun _ _=>rfl)))
   (ag (aZ (PW.pt (pw_or (ax cX (pv 5) (pv 6) (aL _)) (pw_or1 (ax kR (pv 6) (aI au (pv 0) (pv 5) (fun _ _=>rfl)) (by with_unfolding_all rfl))))) (aj (fb PySem.F.excBase_ValueError T.x_NoTie T.mX rfl (aa js af) jm)) aK)
   (ag (jP (i:=7) jJ.nd rfl (by walk_at "L") (tg:=["order"]) (fr:=[]) (by walk_at "blk_ok") rfl (bM (pv 0)) (fun _ _ _ _ _=>(aN (i:=0) (show [("order" : Str)].Nodup by decide +kernel) rfl (by walk_at "L"))) (fun _ _ _ _ _=>dE) (fun _ _ _ _ _=>(bH (eR (K:=K) rfl) (pv 0) bE bE)))
   (ag (kH (aA fG hr aX (aa (aI au (pv 0) (pv 5) (fun _ _=>rfl)) (aa (pv 6) (aa (aI au (pv 4) (aD gu (pv 2) ai) (fun _ _=>rfl)) af)))) (kO (pv 7) (pv 5) set_list))
   (ag (kH (aA fG hr aX (aa (aI au (pv 0) (pv 6) (fun _ _=>rfl)) (aa (pv 5) (aa (aI au (pv 4) (aD gu (pv 3) ai) (fun _ _=>rfl)) af)))) (kO (pv 7) (pv 6) set_list))
   (aj (aP (pv 7)))))))))),?_⟩
  dsimp only [b8];walk_at "r";refine ⟨p,as,L,rfl,g,im,by omega,hd,fun t ts R' H1 e1 t1 iT gR JR=>?_⟩;obtain rfl:R' = R:=JR.unique lR;obtain ⟨ra,r',G2,BW,vo⟩:=t1.at (i:=m) (List.getElem?_eq_some_iff.mp hm).1;obtain rfl:r = r':=by rw [hm] at BW; exact Option.some.inj BW
  walk_at "r";refine aR (aw.of t1.top) (t1.ix G2) ?_;walk_at "r";refine aR (aw.of vo) (cQ (j:=i) (by omega) (by omega) (.inl rfl)) ?_;walk_at "r";refine aR (aw.of vo) (cQ (j:=j) (by omega) (by omega) (.inl rfl)) ?_;have gd:=lR.good r (mem_of_getElem? hm);obtain ⟨C6,a0,a1,MK⟩:=bT gd im (c:=i);obtain ⟨C5,b0,b1,MJ⟩:=bT gd im (c:=j);have gp:=g.same e1;obtain ⟨ca,la,ha,qW,dP⟩:=gp.at (i:=(cy r i).toNat) (by omega);obtain ⟨cb,lb,hb,wg,BU⟩:=gp.at (i:=(cy r j).toNat) (by omega);have K7:la = rowOf L (cy r i):=by rw [ay a0 a1] at qW; exact (Option.some.inj qW).symm
  have K6:lb = rowOf L (cy r j):=by rw [ay b0 b1] at wg; exact (Option.some.inj wg).symm
  subst K7 K6;have ia:gT (as.map V.ref) (cy r i) = some (V.ref ca):=by
   have:=gp.ix ha;rwa [Int.toNat_of_nonneg a0] at this
  have ib:gT (as.map V.ref) (cy r j) = some (V.ref cb):=by
   have:=gp.ix hb;rwa [Int.toNat_of_nonneg b0] at this
  have sa:(rowOf L (cy r i)).length<=L.length:=bz (im.nd _ _ qW) fun y hy=>⟨(im.rg _ _ qW y hy).1,(im.rg _ _ qW y hy).2.1⟩;have sb:(rowOf L (cy r j)).length<=L.length:=bz (im.nd _ _ wg) fun y hy=>⟨(im.rg _ _ wg y hy).1,(im.rg _ _ wg y hy).2.1⟩;walk_at "r";refine if2 (fun heq=>?_) (fun iV=>?_)
  ·walk_at "r";exact ⟨by rw [PySem.sizeLine_eq]; simp,qE (fun z=>z.1 heq) _ e1⟩
  ·walk_at "r";refine aR (aw.of gp.top) ia ?_;refine sC (aw.of dP) ?_;rw [if_neg (by decide)];walk_at "r";refine if2 (fun Ef=>?_) (fun zU=>?_)
   ·walk_at "r";exact ⟨by rw [PySem.sizeLine_eq]; simp,qE (fun z=>z.2 Ef) _ e1⟩
   ·walk_at "r";refine eY ?_;refine ⟨_,rfl,p,rfl,⟨_,aw.of gp.top⟩,fun acc bK=>?_⟩;refine dw (K:=K) (a:=p) (xs:=as.map V.ref) (fun i σ' ys Hx=>∃ (bs:List Addr) (v:Option V),σ' = [v]/\ys = bs.map V.ref/\ah H1 Hx/\bs.length = i/\aJ Hx acc bs (L.take i)/\(acc :: bs).Nodup/\∀ b∈acc :: bs,H1 b = none)
     ⟨[],none,rfl,rfl,ah.upd bK,rfl,⟨ae,rfl,fun i a l z=>by simp at z⟩,by simp,by simpa using bK⟩ (fun i σ' ys Hx _ ⟨_,_,_,_,e,_⟩=>aw.of (e _ _ gp.top)) ?_ ?_
    ·rintro i x σ' ys Hx hx hi ⟨bs,v,rfl,rfl,e2,rfl,g2,uY,wo⟩;obtain ⟨b,l,ha,hl,b5⟩:=gp.at (i:=bs.length) (by rw [length_map,gp.len] at hi; exact hi);obtain rfl:x = V.ref b:=by
      rw [getElem?_map,ha] at hx;exact (Option.some.inj hx).symm
     have Fu:=hi;rw [length_map,gp.len] at Fu;walk_at "r";refine nK (a:=b) rfl (aw.of (e2 _ _ b5)) fun c hc=>?_;have nc:=g2.fe hc;have e3:ah Hx (upd Hx c (.lst (l.map V.int))):=ah.upd hc;have c3:upd Hx c (.lst (l.map V.int)) c = some (.lst (l.map V.int)):=ae;have cH:H1 c = none:=e2.free hc;generalize upd Hx c (.lst (l.map V.int)) = Hy at e3 c3 ⊢;have g3:=g2.same e3;have BC:c≠acc:=fun z=>nc (z▸mem_cons_self);refine ⟨g3.top,by rw [length_map]; exact aF (by omega),fH hi ⟨bs ++ [c],_,rfl,by simp,ah.fresh (e2.trans e3) (wo _ mem_cons_self),by simp,?_,?_,fun y hy=>?_⟩⟩
     ·rw [take_snoc hl]; exact g3.snoc (List.nodup_cons.mp uY).1 BC c3
     ·obtain ⟨n1,n2⟩:=List.nodup_cons.mp uY;refine List.nodup_cons.mpr ⟨fun z=>?_,dX.mpr ⟨fun z=>nc (mem_cons_of_mem _ z),n2⟩⟩;rcases List.mem_append.mp z with z | z
      ·exact n1 z
      ·exact BC (List.mem_singleton.mp z).symm
     ·rcases List.mem_cons.mp hy with z | z
      ·rw [z]; exact wo _ mem_cons_self
      ·rcases List.mem_append.mp z with z | z
       ·exact wo y (mem_cons_of_mem _ z)
       ·rw [List.mem_singleton.mp z]; exact cH
    ·rintro σ' ys H4 ⟨cs,v,rfl,rfl,e4,Sb,g4,wc,tN⟩;rw [length_map,gp.len,take_length] at g4;have V1:=gp.same e4;have OI:=e4 _ _ vo;walk_at "r";refine aR (aw.of V1.top) ia ?_;walk_at "r";refine aR (aw.of OI) (cQ (j:=i + (r.length - 1)) (by omega) (by omega) (.inr (by omega))) ?_;walk_at "r";refine ⟨ca,rowOf L (cy r i),cy r j,cy r (i + (r.length - 1)),rfl,e4 _ _ dP,C6,by omega,fun n1 H5 e5 f5 h5=>?_⟩;have g5:=g4.same e5;have JN:n1∉acc :: cs:=fun z=>g4.fe f5 z;walk_at "r";refine jq ?_;walk_at "r";refine ⟨acc,_,_,_,rfl,rfl,g5.top,xg a0 (by rw [length_map,g5.len]; exact a1),?_⟩;have g6:=g5.wz (k:=(cy r i).toNat) (List.nodup_cons.mp wc).1 (fun z=>JN (z▸mem_cons_self)) h5;have DY:=kT (k:=(cy r i).toNat) wc JN;have Wj:=e4.trans e5;have US:H1 n1 = none:=e4.free f5;have Ca:=lr (k:=(cy r i).toNat) tN US;have e6:ah H1 (upd H5 acc (.lst ((cs.map V.ref).set (cy r i).toNat (.ref n1)))):=ah.fresh Wj (tN _ mem_cons_self);generalize upd H5 acc (.lst ((cs.map V.ref).set (cy r i).toNat (.ref n1))) = H6 at g6 e6 ⊢;have Hi:=gp.same e6;have OH:=e6 _ _ vo;walk_at "r";refine aR (aw.of Hi.top) ib ?_;walk_at "r";refine aR (aw.of OH) (cQ (j:=j + (r.length - 1)) (by omega) (by omega) (.inr (by omega))) ?_;walk_at "r";refine ⟨cb,rowOf L (cy r j),cy r i,cy r (j + (r.length - 1)),rfl,e6 _ _ BU,C5,by omega,fun n2 H7 e7 f7 h7=>?_⟩;have g7:=g6.same e7;have RA:n2∉acc :: cs.set (cy r i).toNat n1:=fun z=>g6.fe f7 z;walk_at "r";refine jq ?_;walk_at "r";refine ⟨acc,_,_,_,rfl,rfl,g7.top,xg b0 (by rw [length_map,g7.len,length_set]; exact b1),?_⟩;have g8:=g7.wz (k:=(cy r j).toNat) (List.nodup_cons.mp DY).1 (fun z=>RA (z▸mem_cons_self)) h7;have HU:=kT (k:=(cy r j).toNat) DY RA;have UR:H1 n2 = none:=e6.free f7;have Pu:=lr (k:=(cy r j).toNat) Ca UR;have e8:ah H1 (upd H7 acc (.lst (((cs.set (cy r i).toNat n1).map V.ref).set (cy r j).toNat (.ref n2)))):=ah.fresh (e6.trans e7) (tN _ mem_cons_self);generalize upd H7 acc (.lst (((cs.set (cy r i).toNat n1).map V.ref).set (cy r j).toNat (.ref n2))) = H8 at g8 e8 ⊢;walk_at "r";exact q ⟨iV,zU⟩ acc _ _ H8 (e1.trans e8) g8 HU (fun b hb=>e1.free (Pu b hb)) (aT.refl _)
theorem qD:aG ["orders", "one", "other", "changed"] ["orders", "one", "other"] (ao ny):=⟨rfl,rfl,rfl,by decide +kernel,rfl,by decide +kernel,by decide +kernel⟩
theorem zC (D:Def K mg "untied" ny ["orders", "one", "other"]) (T:Txt K mg Z) (Hh:cw P w K mg base (bo P w) "ties" 1 ["orders"] xU):cw P w K mg base (bo P w) "untied" 5 ["orders", "one", "other"] (kC Z.dQ):=by
 refine D.oJ qD (fun vs H Q E h=>?_) (fun f bN A o s H vs Q E hr h=>?_)
 ·obtain ⟨p,as,L,d,rfl,_⟩:=h; rfl
 ·obtain ⟨p,as,L,d,rfl,g,im,hn,a0,a1,b0,b1,q,qE⟩:=h;refine ⟨_,(ag (aZ (ax (zB hr.units) (fP (aa (ar (rF rfl) (by rfl) T.min tT (aa (pv 1) (aa (pv 2) af))) (aa (ar (lA rfl) (by rfl) T.max xE (aa (pv 1) (aa (pv 2) af))) af))) (aA Hh hr aX (aa (pv 0) af)) (by with_unfolding_all rfl)) (aj (fb PySem.F.excBase_ValueError T.x_NoTie T.mX rfl (aa js af) jm)) aK)
   (ag (jP (i:=3) qD.nd rfl (by walk_at "L") (tg:=["order"]) (fr:=[]) (by walk_at "blk_ok") rfl (bM (pv 0)) (fun _ _ _ _ _=>(aN (i:=0) (show [("order" : Str)].Nodup by decide +kernel) rfl (by walk_at "L"))) (fun _ _ _ _ _=>dE) (fun _ _ _ _ _=>(bH (eR (K:=K) rfl) (pv 0) bE bE)))
   (ag (aU (b7 PySem.F.plainAttrs_list PySem.F.slot_list_remove PySem.F.type_list_remove qP (aI au (pv 3) (pv 1) (fun _ _=>rfl)) (aa (pv 2) af)))
   (ag (aU (b7 PySem.F.plainAttrs_list PySem.F.slot_list_remove PySem.F.type_list_remove qP (aI au (pv 3) (pv 2) (fun _ _=>rfl)) (aa (pv 1) af)))
   (aj (aP (pv 3))))))),?_⟩
  dsimp only [b8];walk_at "r";refine ⟨_,_,rfl,?_⟩;walk_at "r";refine ⟨_,_,rfl,?_⟩;walk_at "r";intro tp Vn;have e1:ah H (upd H tp (.tup [.int (if d.2 < d.1 then d.2 else d.1),.int (if d.2 > d.1 then d.2 else d.1)])):=ah.upd Vn;have t1:upd H tp (.tup [.int (if d.2 < d.1 then d.2 else d.1),.int (if d.2 > d.1 then d.2 else d.1)]) tp = some (.tup [.int (if d.2 < d.1 then d.2 else d.1),.int (if d.2 > d.1 then d.2 else d.1)]):=ae;generalize upd H tp (.tup [.int (if d.2 < d.1 then d.2 else d.1),.int (if d.2 > d.1 then d.2 else d.1)]) = H1 at e1 t1 ⊢;walk_at "r";refine ⟨p,as,L,rfl,g.same e1,by omega,im,fun t ps H2 e2 t0 Mn Jx=>?_⟩;have eE:=e1.trans e2;refine ⟨tp,t,(if d.2 < d.1 then d.2 else d.1,if d.2 > d.1 then d.2 else d.1),ps,_,rfl,rfl,e2 _ _ t1,Mn,Jx,?_⟩;have hm:=zj im a0 a1 b0 b1;walk_at "r";refine i9 (fun zU=>?_) (fun Ef=>?_)
  ·walk_at "r";exact ⟨by rw [PySem.sizeLine_eq]; simp,qE (fun z=>zU (hm.mpr z)) _ eE⟩
  ·have yes:=hm.mp Ef;have gp:=g.same eE;walk_at "r";refine eY ?_;refine ⟨_,rfl,p,rfl,⟨_,aw.of gp.top⟩,fun acc bK=>?_⟩;refine dw (K:=K) (a:=p) (xs:=as.map V.ref) (fun i σ' ys Hx=>∃ (bs:List Addr) (v:Option V),σ' = [v]/\ys = bs.map V.ref/\ah H2 Hx/\bs.length = i/\aJ Hx acc bs (L.take i)/\(acc :: bs).Nodup/\∀ b∈acc :: bs,H2 b = none)
    ⟨[],none,rfl,rfl,ah.upd bK,rfl,⟨ae,rfl,fun i a l z=>by simp at z⟩,by simp,by simpa using bK⟩ (fun i σ' ys Hx _ ⟨_,_,_,_,e,_⟩=>aw.of (e _ _ gp.top)) ?_ ?_
   ·rintro i x σ' ys Hx hx hi ⟨bs,v,rfl,rfl,e2,rfl,g2,uY,wo⟩;obtain ⟨b,l,ha,hl,b5⟩:=gp.at (i:=bs.length) (by rw [length_map,gp.len] at hi; exact hi);obtain rfl:x = V.ref b:=by
     rw [getElem?_map,ha] at hx;exact (Option.some.inj hx).symm
    have Fu:=hi;rw [length_map,gp.len] at Fu;walk_at "r";refine nK (a:=b) rfl (aw.of (e2 _ _ b5)) fun c hc=>?_;have nc:=g2.fe hc;have e3:ah Hx (upd Hx c (.lst (l.map V.int))):=ah.upd hc;have c3:upd Hx c (.lst (l.map V.int)) c = some (.lst (l.map V.int)):=ae;have cH:H2 c = none:=e2.free hc;generalize upd Hx c (.lst (l.map V.int)) = Hy at e3 c3 ⊢;have g3:=g2.same e3;have BC:c≠acc:=fun z=>nc (z▸mem_cons_self);refine ⟨g3.top,by rw [length_map]; exact aF (by omega),fH hi ⟨bs ++ [c],_,rfl,by simp,ah.fresh (e2.trans e3) (wo _ mem_cons_self),by simp,?_,?_,fun y hy=>?_⟩⟩
    ·rw [take_snoc hl]; exact g3.snoc (List.nodup_cons.mp uY).1 BC c3
    ·obtain ⟨n1,n2⟩:=List.nodup_cons.mp uY;refine List.nodup_cons.mpr ⟨fun z=>?_,dX.mpr ⟨fun z=>nc (mem_cons_of_mem _ z),n2⟩⟩;rcases List.mem_append.mp z with z | z
     ·exact n1 z
     ·exact BC (List.mem_singleton.mp z).symm
    ·rcases List.mem_cons.mp hy with z | z
     ·rw [z]; exact wo _ mem_cons_self
     ·rcases List.mem_append.mp z with z | z
      ·exact wo y (mem_cons_of_mem _ z)
      ·rw [List.mem_singleton.mp z]; exact cH
   ·rintro σ' ys H4 ⟨cs,v,rfl,rfl,e4,Sb,g4,wc,tN⟩;rw [length_map,gp.len,take_length] at g4;obtain ⟨ca,la,Pe,qW,dP⟩:=g4.at (i:=d.1.toNat) (by omega);obtain ⟨cb,lb,Fw,wg,BU⟩:=g4.at (i:=d.2.toNat) (by omega);have K7:la = rowOf L d.1:=by rw [ay a0 a1] at qW; exact (Option.some.inj qW).symm
    have K6:lb = rowOf L d.2:=by rw [ay b0 b1] at wg; exact (Option.some.inj wg).symm
    subst K7 K6;have i1:gT (cs.map V.ref) d.1 = some (V.ref ca):=by
     have:=g4.ix Pe;rwa [Int.toNat_of_nonneg a0] at this
    have i2:gT (cs.map V.ref) d.2 = some (V.ref cb):=by
     have:=g4.ix Fw;rwa [Int.toNat_of_nonneg b0] at this
    have bk:=Dt.back (d:=d) ⟨a0,a1,yes⟩ im;walk_at "r";refine aR (aw.of g4.top) i1 ?_;refine ⟨.inl ⟨rfl,_,aw.of dP⟩,?_⟩;walk_at "r";refine ⟨ca,_,d.2,rfl,rfl,dP,yes,?_⟩;have g5:=g4.set wc (l':=(rowOf L d.1).erase d.2) Pe;have Wx:=tN ca (mem_cons_of_mem _ (mem_of_getElem? Pe));have Ww:=tN cb (mem_cons_of_mem _ (mem_of_getElem? Fw));have e5:ah H2 (upd H4 ca (.lst (((rowOf L d.1).erase d.2).map V.int))):=ah.fresh e4 Wx;generalize upd H4 ca (.lst (((rowOf L d.1).erase d.2).map V.int)) = H5 at g5 e5 ⊢;have OT:(L.set d.1.toNat ((rowOf L d.1).erase d.2))[d.2.toNat]? = some (rowOf L d.2):=by rw [getElem?_set_ne (by omega)]; exact wg
    have BS:=g5.row _ _ _ Fw OT;walk_at "r";refine aR (aw.of g5.top) i2 ?_;refine ⟨.inl ⟨rfl,_,aw.of BS⟩,?_⟩;walk_at "r";refine ⟨cb,_,d.1,rfl,rfl,BS,bk.2.2.2,?_⟩;have g6:=g5.set wc (l':=(rowOf L d.2).erase d.1) Fw;have e6:ah H2 (upd H5 cb (.lst (((rowOf L d.2).erase d.1).map V.int))):=ah.fresh e5 Ww;generalize upd H5 cb (.lst (((rowOf L d.2).erase d.1).map V.int)) = H6 at g6 e6 ⊢;have er:(L.set d.1.toNat ((rowOf L d.1).erase d.2)).set d.2.toNat ((rowOf L d.2).erase d.1) = rem L d.1 d.2:=rfl;rw [er] at g6;walk_at "r";exact q yes acc cs _ H6 (eE.trans e6) g6 wc (fun b hb=>eE.free (tN b hb)) (aT.refl _)
theorem A5:aG ["numbers"] ["numbers"] (ao sr):=⟨rfl,rfl,rfl,by decide +kernel,rfl,by decide +kernel,by decide +kernel⟩
theorem Bw (D:Def K mg "rises" sr ["numbers"]) (T:Txt K mg Z):cw P w K mg base (bo P w) "rises" 1 ["numbers"] uv:=by
 refine D.dh A5 (fun vs H Q E h=>?_) (fun f bN A o s H vs Q E hr h=>?_)
 ·obtain ⟨a,cs,rfl,_⟩:=h; rfl
 ·obtain ⟨a,cs,rfl,ha,iV,hl,q⟩:=h;refine ⟨_,(aj (aP (ar (Ct rfl) (by rfl) T.all Hw (aa (fD (tg:=["one", "other"]) (fr:=[]) (by walk_at "blk_ok") rfl (Bo T.zip (aa (pv 0) (aa (bH dA (pv 0) (cS ai) bE) af))) (fun _ _ _ _ _=>(yr (K:=K) rfl (n:=2) rfl (bW (aN (i:=0) (show [("one" : Str),("other" : Str)].Nodup by decide +kernel) rfl (by walk_at "L")) (bW (aN (i:=1) (show [("one" : Str),("other" : Str)].Nodup by decide +kernel) rfl (by walk_at "L")) gm)))) (fun _ _ _ _ _=>dE) (fun _ _ _ _ _=>(jT lI (pv 0) (pv 1) (aL _)))) af)))),?_⟩;dsimp only [b8];obtain ⟨x0,ct,O9⟩:∃ x ct,(fX cs).map V.int = x :: ct:=by
   cases cs with
   | nil=>exact absurd rfl iV
   | cons c cs=>exact ⟨_,_,rfl⟩
  have XF:ct.length + 1 = cs.length:=by
   have:=congrArg List.length O9;rw [length_map,fX,length_map,length_cons] at this;omega
  have PM:∀ i,ct[i]? = ((fX cs).map V.int)[i + 1]?:=fun i=>by rw [O9,getElem?_cons_succ]
  walk_at "r";refine eY ?_;refine wI (r_var rfl (wI (F9 (a:=a) (i:=0) rfl (aw.of (by rw [ha,O9])) fun b hb=>uI ?_)));have e1:ah H (upd H b (.lst ct)):=ah.upd hb;have b1:upd H b (.lst ct) b = some (.lst ct):=ae;generalize upd H b (.lst ct) = H1 at e1 b1 ⊢;have a1:=e1 _ _ ha;refine ⟨a,b,rfl,⟨_,aw.of a1⟩,⟨_,aw.of b1⟩,fun acc bK=>?_⟩;refine Cq (K:=K) (a:=a) (b:=b) (xs:=(fX cs).map V.int) (ys:=ct) (n:=ct.length) (by rw [length_map,fX,length_map]; omega) (fun i σ' ys H2=>∃ (v v':Option V) (ts:List Bool),σ' = [v,v']/\ys = ts.map V.bl/\ts.length = i/\ah H1 H2/\H2 acc = some (.lst ys)/\(ts.all id = true↔∀ (j x y:Nat),j < i->cs[j]? = some x->cs[j + 1]? = some y->x < y))
   ⟨none,none,[],rfl,rfl,rfl,ah.upd bK,ae,by simp⟩ (fun i σ' ys H2 _ ⟨_,_,_,_,_,_,e,_⟩=>⟨aw.of (e _ _ a1),aw.of (e _ _ b1)⟩) ?_ ?_
  ·rintro i x y pr σ' ys H2 hx hy hi ⟨v,v',ts,rfl,rfl,RS,e2,a2,iff⟩ AD;rw [PM] at hy;unfold fX at hx hy;rw [getElem?_map,getElem?_map] at hx hy;cases ex:cs[i]? with
   | none=>rw [ex] at hx; cases hx
   | some cx=>
   cases ey:cs[i + 1]? with
   | none=>rw [ey] at hy; cases hy
   | some cy=>
   rw [ex] at hx;rw [ey] at hy;obtain rfl:V.int (cx:Int) = x:=Option.some.inj hx;obtain rfl:V.int (cy:Int) = y:=Option.some.inj hy;have e3:ah H2 (upd H2 pr (.tup [.int (cx:Int),.int (cy:Int)])):=ah.upd AD;refine iB (SqT.of ae) rfl ?_;generalize upd H2 pr (.tup [.int (cx:Int),.int (cy:Int)]) = H3 at e3 ⊢;walk_at "r";refine ⟨(e3 _ _ a2),by rw [length_map]; exact aF (by omega),ct.length - (i + 1),by omega,rfl,by omega,_,_,ts ++ [decide ((cx:Int) < cy)],rfl,by simp,by simp [RS],ah.fresh (e2.trans e3) bK,ae,?_⟩;rw [all_append,Bool.and_eq_true,iff];constructor
   ·rintro ⟨h1,h2⟩ j x y hj q1 q2;by_cases z:j = i
    ·subst z;rw [ex] at q1; rw [ey] at q2;cases q1; cases q2
     have:(cx:Int) < cy:=by simpa using h2
     omega
    ·exact h1 j x y (by omega) q1 q2
   ·intro h;have:=h i cx cy (by omega) ex ey;exact ⟨fun j x y hj=>h j x y (by omega),by simpa using this⟩
  ·rintro σ' ys H2 ⟨v,v',ts,rfl,rfl,RS,e2,a2,iff⟩;walk_at "r";refine ⟨acc,ts,rfl,aw.of a2,?_⟩;refine q _ _ (e1.trans e2) (iff.trans ?_);rw [nH];constructor
   ·intro h j x y q1 q2;have:=(List.getElem?_eq_some_iff.mp q2).1;exact h j x y (by omega) q1 q2
   ·intro h j x y _ q1 q2;exact h j x y q1 q2
theorem eP:aG ["orders", "land", "corners", "ring", "joined", "changed", "corner", "place"] ["orders", "land", "corners"] (ao nC):=⟨rfl,rfl,rfl,by decide +kernel,rfl,by decide +kernel,by decide +kernel⟩
theorem zD (D:Def K mg "placed" nC ["orders", "land", "corners"]) (T:Txt K mg Z) (dN:cw P w K mg base (bo P w) "lands" 3 ["orders"] eQ) (fG:cw P w K mg base (bo P w) "put_ahead" 1 ["order", "new", "old"] gY) (Em:cw P w K mg base (bo P w) "rises" 1 ["numbers"] uv):cw P w K mg base (bo P w) "placed" 5 ["orders", "land", "corners"] (kE Z.dQ):=by
 refine D.oJ eP (fun vs H Q E h=>?_) (fun f bN A o s H vs Q E hr h=>?_)
 ·obtain ⟨p,rc,as,L,R,r,m,cs,rfl,_⟩:=h; rfl
 ·obtain ⟨p,rc,as,L,R,r,m,cs,rfl,g,im,hn,hd,lR,hm,AB,He,El,q,qE⟩:=h;have gd:=lR.good r (mem_of_getElem? hm);have two:=gd.two;refine ⟨_,(ag (aZ (PW.pt (pw_or (ax cX (ar aM (by rfl) T.len aQ (aa (pv 2) af)) ai (aL _)) (pw_or1 (eZ (eC (aA Em hr aX (aa (pv 2) af))))))) (aj (fb PySem.F.excBase_ValueError T.x_NoTie T.mX rfl (aa js af) jm)) aK)
   (ag (az (i:=3) eP.nd rfl (by walk_at "L") (aI au (aA dN hr aX (aa (pv 0) af)) (pv 1) (fun _ _=>rfl)))
   (ag (jP (i:=4) eP.nd rfl (by walk_at "L") (tg:=["corner"]) (fr:=[("ring",3)]) (by walk_at "blk_ok") rfl (bM (pv 2)) (fun _ _ _ _ _=>(aN (i:=0) (show [("corner" : Str),("ring" : Str)].Nodup by decide +kernel) rfl (by walk_at "L"))) (fun _ _ _ _ _=>dE) (fun _ _ _ _ _=>(aI (dM (K:=K) rfl) (pv 1) (pv 0) (fun _ _=>rfl))))
   (ag (aZ (ax jf (ar lB (by rfl) T.len aQ (aa (kP (lz rfl) (by rfl) T.set xD (aa (pv 4) af)) af)) (ar aM (by rfl) T.len aQ (aa (pv 4) af)) (aL _)) (aj (fb PySem.F.excBase_ValueError T.x_NoTie T.mX rfl (aa js af) jm)) aK)
   (ag (jP (i:=5) eP.nd rfl (by walk_at "L") (tg:=["order"]) (fr:=[]) (by walk_at "blk_ok") rfl (bM (pv 0)) (fun _ _ _ _ _=>(aN (i:=0) (show [("order" : Str)].Nodup by decide +kernel) rfl (by walk_at "L"))) (fun _ _ _ _ _=>dE) (fun _ _ _ _ _=>(bH (eR (K:=K) rfl) (pv 0) bE bE)))
   (ag (bZ PassesOwn.leaving rfl (bM (pv 2)) (aN (i:=6) eP.nd rfl (by walk_at "L"))
   (ag (az (i:=7) eP.nd rfl (by walk_at "L") (aI au (pv 3) (pv 6) (fun _ _=>rfl)))
   (aj (kH (aA fG hr aX (aa (aI au (pv 0) (pv 7) (fun _ _=>rfl)) (aa (ar aM (by rfl) T.len aQ (aa (pv 0) af)) (aa (aI au (pv 3) (aD gu (pv 6) ai) (fun _ _=>rfl)) af)))) (kO (pv 5) (pv 7) set_list)))))
   (aj (aP (aD jt (pv 5) (aY (aa (pv 4) af))))))))))),?_⟩
  dsimp only [b8];refine r_seq (Bf (fun H'=>ah H H'/\¬ xJ r cs) (fun H'=>ah H H'/\cs≠[]/\cs.Pairwise (· < ·)) (fun H' ⟨e,no⟩=>?_) (fun H1 ⟨e1,c0,Hu⟩=>?_) (fun RR yes no=>?_))
  ·walk_at "r";exact ⟨by rw [PySem.sizeLine_eq]; simp,qE no _ e⟩
  ·walk_at "r";have g1:=g.same e1;refine ⟨p,as,L,rfl,g1,im,by omega,hd,fun t ts R' H2 e2 t2 uY wo JR=>?_⟩;obtain rfl:R' = R:=JR.unique lR;obtain ⟨ra,r',G2,BW,vo⟩:=t2.at (i:=m) (List.getElem?_eq_some_iff.mp hm).1;obtain rfl:r = r':=by rw [hm] at BW; exact Option.some.inj BW
   walk_at "r";refine aR (aw.of t2.top) (t2.ix G2) ?_;have eE:=e1.trans e2;have Ny:=eE _ _ AB;walk_at "r";refine eY ?_;refine ⟨_,rfl,rc,rfl,⟨_,aw.of Ny⟩,fun jo OZ=>?_⟩;refine dw (K:=K) (a:=rc) (xs:=(fX cs).map V.int) (fun i σ' ys Hx=>∃ v:Option V,σ' = [v,some (.ref ra)]/\ys = ((cs.take i).map (cy r)).map V.int/\ah H2 Hx/\Hx jo = some (.lst ys))
    ⟨none,rfl,rfl,ah.upd OZ,ae⟩ (fun i σ' ys Hx _ ⟨_,_,_,e,_⟩=>aw.of (e _ _ Ny)) ?_ ?_
   ·rintro i x σ' ys Hx hx hi ⟨v,rfl,rfl,e3,a3⟩;obtain ⟨c,hc,rfl⟩:∃ c:Nat,cs[i]? = some c/\x = V.int (c:Int):=by
     unfold fX at hx;rw [getElem?_map,getElem?_map] at hx;cases e:cs[i]? with
     | none=>rw [e] at hx; cases hx
     | some z=>rw [e] at hx; exact ⟨z,rfl,(Option.some.inj hx).symm⟩
    have Pc:=He c (mem_of_getElem? hc);walk_at "r";refine aR (aw.of (e3 _ _ vo)) (cQ (j:=c) (by omega) (by omega) (.inl rfl)) ?_;refine ⟨a3,by rw [length_map,length_map,length_take]; exact aF (by omega),fH hi ⟨_,rfl,?_,ah.fresh e3 OZ,ae⟩⟩;rw [take_snoc hc];simp
   ·rintro σ' ys H3 ⟨v,rfl,rfl,e3,a3⟩;have el:((fX cs).map V.int).length = cs.length:=by rw [length_map,fX,length_map]
    rw [el,take_length] at a3;have g3:=(g1.same e2).same e3;have Q1:=e3 _ _ Ny;have Q4:=e3 _ _ vo;walk_at "r";refine ⟨jo,_,rfl,aw.of a3,by rw [length_map]; omega,fun se S Vs=>?_⟩;have e4:ah H3 (upd H3 se (.set S (kj (cs.map (cy r))).length)):=ah.upd Vs;have s4:upd H3 se (.set S (kj (cs.map (cy r))).length) se = some (.set S (kj (cs.map (cy r))).length):=ae;generalize upd H3 se (.set S (kj (cs.map (cy r))).length) = H4 at e4 s4 ⊢;refine ⟨se,_,_,rfl,s4,?_⟩;walk_at "r";refine ⟨_,_,rfl,.inl ⟨_,aw.of (e4 _ _ a3),rfl⟩,?_⟩;rw [length_map];walk_at "r";have xA:=(eE.trans e3).trans e4;refine i9 (fun iV=>?_) (fun heq=>?_)
    ·walk_at "r";exact ⟨by rw [PySem.sizeLine_eq]; simp,qE (fun ⟨_,_,z⟩=>iV (by rw [(iK _).mpr z])) _ xA⟩
    ·have nd:(cs.map (cy r)).Nodup:=(iK _).mp (by omega);have g4:=g3.same e4;walk_at "r";refine sD (i:=0) rfl g4 (by omega) fun ch Ws H5 e5 g5 UN Pw=>?_;walk_at "r";have T1:=e5 _ _ (e4 _ _ Q1);have Xo:=e5 _ _ (e4 _ _ Q4);have So:=g4.same e5;have XM:=e5 _ _ (e4 _ _ a3);refine cW ?_;refine ⟨_,rfl,rc,rfl,⟨_,aw.of T1⟩,dO (K:=K) (a:=rc) (xs:=(fX cs).map V.int) (fun k σ H6=>∃ (bs:List Addr) (v6 v7:Option V),σ = [some (.ref p),some (.int (m:Int)),some (.ref rc),some (.ref ra),some (.ref jo),some (.ref ch),v6,v7]/\ah H4 H6/\aJ H6 ch bs (nO L r (cs.take k))/\(ch :: bs).Nodup/\∀ b∈ch :: bs,H4 b = none)
      ⟨Ws,none,none,rfl,e5,g5,UN,Pw⟩ (fun k σ H6 _ ⟨_,_,_,_,e,_⟩=>aw.of (e _ _ (e4 _ _ Q1))) ?_ ?_⟩
     ·rintro k x σ H6 hx ⟨bs,v6,v7,rfl,e6,g6,DY,Ca⟩;obtain ⟨c,hc,rfl⟩:∃ c:Nat,cs[k]? = some c/\x = V.int (c:Int):=by
       unfold fX at hx;rw [getElem?_map,getElem?_map] at hx;cases e:cs[k]? with
       | none=>rw [e] at hx; cases hx
       | some z=>rw [e] at hx; exact ⟨z,rfl,(Option.some.inj hx).symm⟩
      have Pc:=He c (mem_of_getElem? hc);obtain ⟨x0,x1,b5,zm,sm⟩:=jx im gd c;have Q3:=e6 _ _ (e4 _ _ Q4);have Hi:=g4.same e6;obtain ⟨ca,la,ha,qW,dP⟩:=Hi.at (i:=(cy r c).toNat) (by omega);obtain rfl:la = rowOf L (cy r c):=by rw [b5] at qW; exact (Option.some.inj qW).symm
      have ia:gT (as.map V.ref) (cy r c) = some (V.ref ca):=by
       have:=Hi.ix ha;rwa [Int.toNat_of_nonneg x0] at this
      walk_at "r";refine aR (aw.of Q3) (cQ (j:=c) (by omega) (by omega) (.inl rfl)) ?_;walk_at "r";refine aR (aw.of Hi.top) ia ?_;walk_at "r";refine ⟨_,_,rfl,.inl ⟨_,aw.of Hi.top,rfl⟩,?_⟩;rw [length_map,Hi.len];walk_at "r";refine aR (aw.of Q3) (cQ (j:=c + (r.length - 1)) (by omega) (by omega) (.inr (by omega))) ?_;walk_at "r";refine ⟨ca,rowOf L (cy r c),(L.length:Int),cy r (c + (r.length - 1)),rfl,dP,zm,by omega,fun n1 H7 e7 f7 h7=>?_⟩;have g7:=g6.same e7;have JN:n1∉ch :: bs:=fun z=>g6.fe f7 z;walk_at "r";refine jq ?_;walk_at "r";refine ⟨ch,_,_,_,rfl,rfl,g7.top,xg x0 (by rw [length_map,g7.len,cT]; exact x1),?_⟩;have g8:=g7.wz (k:=(cy r c).toNat) (List.nodup_cons.mp DY).1 (fun z=>JN (z▸mem_cons_self)) h7;have HU:=kT (k:=(cy r c).toNat) DY JN;have Pu:=lr (k:=(cy r c).toNat) Ca (e6.free f7);refine ⟨bs.set (cy r c).toNat n1,_,_,rfl,ah.fresh (e6.trans e7) (Ca _ mem_cons_self),?_,HU,Pu⟩;rw [take_snoc hc,nN];exact g8
     ·rintro σ H6 ⟨bs,v6,v7,rfl,e6,g6,DY,Ca⟩;rw [el,take_length] at g6;have U7:=e6 _ _ (e4 _ _ a3);walk_at "r";refine ⟨by rw [PySem.sizeLine_eq]; simp,fun o1 Mr=>?_⟩;have e7:ah H6 (upd H6 o1 (.lst [.ref jo])):=ah.upd Mr;have o7:upd H6 o1 (.lst [.ref jo]) o1 = some (.lst [.ref jo]):=ae;generalize upd H6 o1 (.lst [.ref jo]) = H7 at e7 o7 ⊢;have g7:=g6.same e7;have l7:bs.length = L.length:=by rw [g6.len,cT]
      refine ⟨ch,o1,_,_,rfl,rfl,g7.top,o7,by rw [length_map]; simp; exact Nat.le_of_lt (aF (by omega)),fun t Kf=>?_⟩;have RK:=e7 _ _ U7;have e8:ah H7 (upd H7 t (.lst (bs.map V.ref ++ [.ref jo]))):=ah.upd Kf;have t8:upd H7 t (.lst (bs.map V.ref ++ [.ref jo])) t = some (.lst (bs.map V.ref ++ [.ref jo])):=ae;generalize upd H7 t (.lst (bs.map V.ref ++ [.ref jo])) = H8 at e8 t8 ⊢;walk_at "r";have Fz:ah H4 H8:=(e6.trans e7).trans e8;have jn:jo∉ch :: bs:=fun z=>by
       have:=Ca _ z;rw [e4 _ _ a3] at this;cases this
      have tn:t∉ch :: bs:=fun z=>g7.fe Kf z;have tj:t≠jo:=fun z=>by rw [z,RK] at Kf; cases Kf
      refine q ⟨c0,Hu,nd⟩ t (bs ++ [jo]) H8 (xA.trans Fz) ((g7.same e8).Hv t8 (e8 _ _ RK)) ?_ fun b hb=>?_
      ·obtain ⟨n1,n2⟩:=List.nodup_cons.mp DY;refine List.nodup_cons.mpr ⟨fun z=>?_,dX.mpr ⟨fun z=>jn (mem_cons_of_mem _ z),n2⟩⟩;rcases List.mem_append.mp z with z | z
       ·exact tn (mem_cons_of_mem _ z)
       ·exact tj (List.mem_singleton.mp z)
      ·rcases List.mem_cons.mp hb with z | z
       ·rw [z]; exact ((xA.trans e6).trans e7).free Kf
       ·rcases List.mem_append.mp z with z | z
        ·exact xA.free (Ca b (mem_cons_of_mem _ z))
        ·rw [List.mem_singleton.mp z]; exact eE.free OZ
  ·walk_at "r";refine ⟨_,_,rfl,.inl ⟨_,aw.of AB,rfl⟩,?_⟩;rw [length_map,fX,length_map];walk_at "r";refine if2 (fun h0=>yes _ ⟨fun _ _ e=>e,fun z=>z.1 (List.length_eq_zero_iff.mp (by omega))⟩) (fun h0=>?_);walk_at "r";have c0:cs≠[]:=fun z=>h0 (by rw [z]; rfl);refine ⟨rc,cs,rfl,AB,c0,by omega,fun H1 b e1 hb=>?_⟩;walk_at "r";cases b with
   | true=>exact no _ ⟨e1,c0,hb.mp rfl⟩
   | false=>exact yes _ ⟨e1,fun z=>by have:=hb.mpr z.2.1; cases this⟩
theorem cY:aG ["rings", "left", "land", "ring", "step"] ["rings"] (ao gb):=⟨rfl,rfl,rfl,by decide +kernel,rfl,by decide +kernel,by decide +kernel⟩
theorem pM (D:Def K mg "left_lands" gb ["rings"]) (T:Txt K mg Z) (kg:cw P w K mg base (bo P w) "steps" 1 ["ring"] jG):cw P w K mg base (bo P w) "left_lands" 2 ["rings"] xX:=by
 refine D.dh cY (fun vs H Q E h=>?_) (fun f bN A o s H vs Q E hr h=>?_)
 ·obtain ⟨t,bs,R,rfl,_⟩:=h; rfl
 ·obtain ⟨t,bs,R,rfl,g,nd,hp,hl,q⟩:=h;refine ⟨_,(ag (az (i:=1) cY.nd rfl (by walk_at "L") nT)
   (ag (bZ PassesOwn.never rfl (mM T.enumerate (aa (pv 0) af)) (kL (n:=2) rfl (bW (aN (i:=2) cY.nd rfl (by walk_at "L")) (bW (aN (i:=3) cY.nd rfl (by walk_at "L")) gm)))
   (aj (bZ PassesOwn.never rfl (bM (aA kg hr aX (aa (pv 3) af))) (aN (i:=4) cY.nd rfl (by walk_at "L"))
   (aj (sG (oG hr) (pv 1) (pv 4) (pv 2) rfl)))))
   (aj (aP (pv 1))))),?_⟩
  dsimp only [b8];walk_at "r";intro gd B2;have e0:ah H (upd H gd (.dT [])):=ah.upd B2;have g0:upd H gd (.dT []) gd = some (.dT (kN (lk (fun _=>0) R 0))):=ae;generalize upd H gd (.dT []) = H0 at e0 g0 ⊢;walk_at "r";refine cW ?_;refine ⟨_,rfl,t,rfl,⟨_,aw.of (e0 _ _ g.top)⟩,kh (K:=K) (a:=t) (xs:=bs.map V.ref) (fun i σ H1=>∃ v2 v3 v4:Option V,σ = [some (.ref t),some (.ref gd),v2,v3,v4]/\ah H H1/\H1 gd = some (.dT (kN (lk (fun _=>0) R i))))
   ⟨none,none,none,rfl,e0,g0⟩ (fun i σ H1 _ ⟨_,_,_,_,e1,_⟩=>aw.of (e1 _ _ g.top)) ?_ ?_⟩
  ·rintro i x pr σ H1 hx ⟨v2,v3,v4,rfl,e1,g1⟩ AD;have hi:i < R.length:=by
    have:=(List.getElem?_eq_some_iff.mp hx).1;rw [length_map,g.len] at this;exact this
   obtain ⟨b,r,ha,hr,b5⟩:=g.at hi;obtain rfl:x = V.ref b:=by
    rw [getElem?_map,ha] at hx;exact (Option.some.inj hx).symm
   have er:R.getD i [] = r:=by rw [getD_eq_getElem?_getD,hr]; rfl
   have ek:lk (fun _=>0) R (i + 1) = lk (fun _=>0) R i ++ (sh 0 r).map fun d=>(d,(i:Int)):=by rw [lk,er]
   have kn:((lk (fun _=>0) R (i + 1)).map (·.1)).Nodup:=by
    rw [mO (by omega)];exact (qZ _ _ _).nodup nd
   have kl:(lk (fun _=>0) R (i + 1)).length<=1000:=by
    have e:=congrArg List.length (mO (s:=fun _=>0) (R:=R) (k:=i + 1) (by omega));have f:=(qZ (sh 0) R (i + 1)).length_le;have iW:(R.flatMap fun r=>sh 0 r).length<=1000:=hl;rw [length_map] at e;exact Nat.le_trans (Nat.le_of_eq e) (Nat.le_trans f iW)
   rw [ek] at kn kl;rw [length_append,length_map,bR] at kl;rw [map_append,map_map] at kn;have r0:=hp r (mem_of_getElem? hr);have e2:ah H1 (upd H1 pr (.tup [.int i,.ref b])):=ah.upd AD;have g2:=e2 _ _ g1;have p8:=e1.trans e2;refine iB (SqT.of ae) rfl ?_;generalize upd H1 pr (.tup [.int i,.ref b]) = H2 at e2 g2 p8 ⊢;walk_at "r";refine cW ?_;refine ⟨_,rfl,b,r,rfl,p8 _ _ b5,r0,by omega,fun sl ps Hs es QU E4 Gs=>?_⟩;refine ⟨sl,rfl,⟨_,aw.of E4⟩,dO (K:=K) (a:=sl) (xs:=ps.map V.ref) (fun j σ H8=>∃ v4:Option V,σ = [some (.ref t),some (.ref gd),some (.int (i:Int)),some (.ref b),v4]/\ah H H8/\H8 gd = some (.dT (kN (lk (fun _=>0) R i ++ ((sh 0 r).take j).map fun d=>(d,(i:Int)))))/\H8 sl = some (.lst (ps.map V.ref))/\PR H8 ps (sh 0 r))
    ⟨_,rfl,p8.trans es,by rw [take_zero,map_nil,append_nil]; exact es _ _ g2,E4,Gs⟩ (fun j σ H8 _ ⟨_,_,_,_,e,_⟩=>aw.of e) ?_ ?_⟩
   ·rintro j x σ H8 hx ⟨w4,rfl,e8,g8,s8,Bl⟩;have Kr:j < ps.length:=by
     have:=(List.getElem?_eq_some_iff.mp hx).1;rw [length_map] at this;exact this
    obtain ⟨d8,Hd,k8⟩:=Bl.at (i:=j) (a:=ps[j]) (by simp [Kr]);obtain rfl:x = V.ref ps[j]:=by
     rw [getElem?_map,getElem?_eq_getElem Kr] at hx;exact (Option.some.inj hx).symm
    have Hb:j < r.length:=by
     have:=Bl.len;rw [bR] at this;omega
    have new:d8∉(lk (fun _=>0) R i ++ ((sh 0 r).take j).map fun d=>(d,(i:Int))).map (·.1):=by
     rw [map_append,map_map];have U4:((lk (fun _=>0) R i).map (·.1) ++ sh 0 r).Nodup:=by
      have:(sh 0 r).map ((fun x:aq×Int=>x.1) ∘ fun d=>(d,(i:Int))) = sh 0 r:=map_id _;rw [this] at kn;exact kn
     have e9:((sh 0 r).take j).map ((fun x:aq×Int=>x.1) ∘ fun d=>(d,(i:Int))) = (sh 0 r).take j:=map_id _;rw [e9];exact eK U4 Hd
    walk_at "r";refine ⟨gd,_,rfl,uc.t (k:=eL d8) g8 k8 ?_,?_⟩
    ·rw [GS,length_append,length_map,length_take];exact aF (by omega)
    ·rw [Jw new,append_assoc];have et:((sh 0 r).take j).map (fun d=>(d,(i:Int))) ++ [(d8,(i:Int))] = ((sh 0 r).take (j + 1)).map fun d=>(d,(i:Int)):=by rw [take_snoc Hd,map_append]; rfl
     rw [et];refine ⟨_,rfl,ah.fresh e8 B2,ae,?_,Paired.wU Bl fun a z h=>?_⟩
     ·rw [ak (fun z=>by rw [z,g8] at s8; cases s8)];exact s8
     ·rw [ak (fun w=>by rw [w,g8] at h; cases h)];exact h
   ·rintro σ H8 ⟨w4,rfl,e8,g8,s8,Bl⟩;rw [length_map,Bl.len,take_length,<- ek] at g8;exact ⟨_,_,_,rfl,e8,g8⟩
  ·rintro σ H1 ⟨v2,v3,v4,rfl,e1,g1⟩;rw [length_map,g.len] at g1;walk_at "r";exact q gd H1 e1 B2 g1
theorem cf:aG ["orders", "rings", "left", "turned", "land", "ring", "order"] ["orders"] (ao ie):=⟨rfl,rfl,rfl,by decide +kernel,rfl,by decide +kernel,by decide +kernel⟩
theorem sN (D:Def K mg "other_map" ie ["orders"]) (T:Txt K mg Z) (kg:cw P w K mg base (bo P w) "steps" 1 ["ring"] jG) (dN:cw P w K mg base (bo P w) "lands" 3 ["orders"] eQ) (tF:cw P w K mg base (bo P w) "left_lands" 2 ["rings"] xX):cw P w K mg base (bo P w) "other_map" 4 ["orders"] (ni Z.fK):=by
 refine D.oJ cf (fun vs H Q E h=>?_) (fun f bN A o s H vs Q E hr h=>?_)
 ·obtain ⟨p,as,L,R,rfl,_⟩:=h; rfl
 ·obtain ⟨p,as,L,R,rfl,g,im,hn,hd,lR,q,qE⟩:=h;refine ⟨_,(ag (az (i:=1) cf.nd rfl (by walk_at "L") (aA dN hr aX (aa (pv 0) af)))
   (ag (az (i:=2) cf.nd rfl (by walk_at "L") (aA tF hr aX (aa (pv 1) af)))
   (ag (az (i:=3) cf.nd rfl (by walk_at "L") (aY af))
   (ag (bZ PassesOwn.leaving rfl (mM T.enumerate (aa (pv 1) af)) (kL (n:=2) rfl (bW (aN (i:=4) cf.nd rfl (by walk_at "L")) (bW (aN (i:=5) cf.nd rfl (by walk_at "L")) gm)))
   (ag (jP (i:=6) cf.nd rfl (by walk_at "L") (tg:=["here", "there"]) (fr:=[("left",2)]) (by walk_at "blk_ok") rfl (bM (aA kg hr aX (aa (pv 5) af))) (fun _ _ _ _ _=>(yr (K:=K) rfl (n:=2) rfl (bW (aN (i:=0) (show [("here" : Str),("there" : Str),("left" : Str)].Nodup by decide +kernel) rfl (by walk_at "L")) (bW (aN (i:=1) (show [("here" : Str),("there" : Str),("left" : Str)].Nodup by decide +kernel) rfl (by walk_at "L")) gm)))) (fun _ _ _ _ _=>dE) (fun _ _ _ _ _=>(DN (oG hr) (pv 2) (fP (aa (pv 1) (aa (pv 0) af))) (fun _ _=>rfl))))
   (ag (aZ (PW.pt (pw_or (ax kR (pv 4) (pv 6) (by with_unfolding_all rfl)) (pw_or1 (ax jf (ar lB (by rfl) T.len aQ (aa (kP (lz rfl) (by rfl) T.set xD (aa (pv 6) af)) af)) (ar aM (by rfl) T.len aQ (aa (pv 6) af)) (aL _))))) (aj (fb PySem.F.excBase_ValueError T.x_NoOther T.Ap rfl (aa js af) jm)) aK)
   (aj (aU (b7 PySem.F.plainAttrs_list PySem.F.slot_list_append PySem.F.type_list_append bC (pv 3) (aa (pv 6) af)))))))
   (aj (aP (pv 3))))))),?_⟩
  dsimp only [b8];walk_at "r";refine ⟨p,as,L,rfl,g,im,by omega,hd,fun t ts R' H1 e1 t1 iT gR JR=>?_⟩;obtain rfl:R = R':=lR.unique JR;have fl:=kY lR;have Ac:=zL lR;walk_at "r";refine ⟨t,ts,R,rfl,t1,lR.nd,fun r hr=>by have:=(lR.good r hr).two; omega,by omega,fun gd H2 e2 XY g2=>?_⟩;have t2:=t1.same e2;walk_at "r";refine ⟨Nat.zero_le _,fun tu RQ=>?_⟩;have e3:ah H2 (upd H2 tu (.lst [])):=ah.upd RQ;have u3:aJ (upd H2 tu (.lst [])) tu [] ((R.take 0).map (gn R 0)):=⟨ae,rfl,fun i a l z=>by simp at z⟩;generalize upd H2 tu (.lst []) = H3 at e3 u3 ⊢;walk_at "r";refine cW ?_;refine ⟨_,rfl,t,rfl,⟨_,aw.of (t2.same e3).top⟩,kh (K:=K) (a:=t) (xs:=ts.map V.ref) (fun i σ H4=>∃ (cs:List Addr) (v4 v5 v6:Option V),σ = [some (.ref p),some (.ref t),some (.ref gd),some (.ref tu),v4,v5,v6]/\ah H2 H4/\aJ H4 tu cs ((R.take i).map (gn R 0))/\(tu :: cs).Nodup/\(∀ b∈tu :: cs,H2 b = none)/\∀ (k:Nat) (l:List Int),k < i->(R.map (gn R 0))[k]? = some l->(k:Int)∉l/\l.Nodup)
   ⟨[],none,none,none,rfl,e3,u3,by simp,by simpa using RQ,fun k l hk _=>by omega⟩ (fun i σ H4 _ ⟨_,_,_,_,_,e,_⟩=>aw.of (e _ _ t2.top)) ?_ ?_⟩
  ·rintro i x pr σ H4 hx ⟨cs,v4,v5,v6,rfl,e4,u4,wc,tN,Ma⟩ AD;have hi:i < R.length:=by
    have:=(List.getElem?_eq_some_iff.mp hx).1;rw [length_map,t2.len] at this;exact this
   obtain ⟨b,r,ha,hr,b5⟩:=t2.at hi;obtain rfl:x = V.ref b:=by
    rw [getElem?_map,ha] at hx;exact (Option.some.inj hx).symm
   have gr:=lR.good r (mem_of_getElem? hr);have tw:=gr.two;have rl:r.length<=128:=by
    have:=A8 lR (mem_of_getElem? hr);omega
   have e5:ah H4 (upd H4 pr (.tup [.int i,.ref b])):=ah.upd AD;have PJ:=e4.trans e5;have u5:=u4.same e5;refine iB (SqT.of ae) rfl ?_;generalize upd H4 pr (.tup [.int i,.ref b]) = H5 at e5 PJ u5 ⊢;walk_at "r";refine eY ?_;refine ⟨_,rfl,b,r,rfl,PJ _ _ b5,by omega,by omega,fun sl ps H6 e6 QU E4 Gs=>?_⟩;refine ⟨sl,rfl,⟨_,aw.of E4⟩,fun acc bK=>?_⟩;have PH:=PJ.trans e6;refine dw (K:=K) (a:=sl) (xs:=ps.map V.ref) (fun j σ' ys H7=>∃ v0 v1:Option V,σ' = [v0,v1,some (.ref gd)]/\ys = ((gn R 0 r).take j).map V.int/\ah H6 H7/\H7 acc = some (.lst ys))
    ⟨none,none,rfl,rfl,ah.upd bK,ae⟩ (fun j σ' ys H7 _ ⟨_,_,_,_,e,_⟩=>aw.of (e _ _ E4)) ?_ ?_
   ·rintro j x σ' ys H7 hx hj ⟨v0,v1,rfl,rfl,e7,a7⟩;rw [length_map] at hj;obtain ⟨d8,Hd,k8⟩:=Gs.at (i:=j) (a:=ps[j]) (by simp [hj]);obtain rfl:x = V.ref ps[j]:=by
     rw [getElem?_map,getElem?_eq_getElem hj] at hx;exact (Option.some.inj hx).symm
    have Hb:j < r.length:=by
     have:=Gs.len;rw [bR] at this;omega
    have R8:=Hd;rw [qC Hb] at R8;obtain rfl:=Option.some.inj R8;refine iB (SqT.of (e7 _ _ k8)) rfl ?_;walk_at "r";refine Gj (r_var rfl ?_);walk_at "r";intro q8 OJ;have e8:ah H7 (upd H7 q8 (.tup [.int (dj r (j + 0)).2,.int (dj r (j + 0)).1])):=ah.upd OJ;have k9:upd H7 q8 (.tup [.int (dj r (j + 0)).2,.int (dj r (j + 0)).1]) q8 = some (.tup ((eL ((dj r (j + 0)).2,(dj r (j + 0)).1)).map kV)):=ae;generalize upd H7 q8 (.tup [.int (dj r (j + 0)).2,.int (dj r (j + 0)).1]) = H8 at e8 k9 ⊢;have lg:=GL (s:=fun _=>0) lR (yZ im (gr.dt (j + 0)));refine ⟨gd,V.int (lo R ((dj r (j + 0)).2,(dj r (j + 0)).1)),rfl,?_,?_⟩
    ·have:=iR.t (k:=eL ((dj r (j + 0)).2,(dj r (j + 0)).1)) (e8 _ _ (e7 _ _ (PH _ _ g2))) k9;rw [lg] at this;exact this
    ·have tk:(gn R 0 r).take (j + 1) = (gn R 0 r).take j ++ [lo R ((dj r (j + 0)).2,(dj r (j + 0)).1)]:=take_snoc (sI Hb);refine ⟨e8 _ _ a7,?_,fH (by rw [length_map]; exact hj) ⟨_,_,rfl,?_,ah.fresh (e7.trans e8) bK,ae⟩⟩
     ·rw [length_map,length_take];exact aF (by omega)
     ·rw [tk,map_append]
      rfl
   ·rintro σ' ys H7 ⟨v0,v1,rfl,rfl,e7,a7⟩;have lo1:(ps.map V.ref).length = (gn R 0 r).length:=by rw [length_map,Gs.len,bR,fE]
    rw [lo1,take_length] at a7;have Sw:=PH.trans e7;have OG:(R.map (gn R 0))[i]? = some (gn R 0 r):=by rw [getElem?_map,hr]; rfl
    have HG:H2 acc = none:=PH.free bK;walk_at "r";refine sC (aw.of a7) ?_;rw [if_neg (by decide)];walk_at "r";refine if2 (fun Mw=>?_) (fun OP=>?_)
    ·walk_at "r";exact ⟨by rw [PySem.sizeLine_eq]; simp,qE (fun z=>(z i _ OG).1 Mw) _ ((e1.trans e2).trans Sw)⟩
    ·walk_at "r";refine ⟨acc,gn R 0 r,rfl,aw.of a7,by rw [fE]; omega,fun sp S qU=>?_⟩;have e8:ah H7 (upd H7 sp (.set S (kj (gn R 0 r)).length)):=ah.upd qU;refine ⟨sp,S,_,rfl,ae,?_⟩;generalize upd H7 sp (.set S (kj (gn R 0 r)).length) = H8 at e8 ⊢;have a8:=e8 _ _ a7;walk_at "r";refine ⟨_,_,rfl,.inl ⟨_,aw.of a8,rfl⟩,?_⟩;rw [length_map];have Sv:=Sw.trans e8;walk_at "r";refine i9 (fun iV=>?_) (fun heq=>?_)
     ·walk_at "r";exact ⟨by rw [PySem.sizeLine_eq]; simp,qE (fun z=>iV (by rw [(iK (gn R 0 r)).mpr (z i _ OG).2])) _ ((e1.trans e2).trans Sv)⟩
     ·have UL:(gn R 0 r).Nodup:=(iK _).mp (by omega);have u8:=((u5.same e6).same e7).same e8;have Rw:acc∉tu :: cs:=(u5.same e6).fe bK;have BC:acc≠tu:=fun z=>Rw (z▸mem_cons_self);walk_at "r";refine ⟨.inl ⟨rfl,_,aw.of u8.top⟩,?_⟩;walk_at "r";refine bV u8.top (by rw [length_map,u8.len,length_map,length_take]; exact aF (by omega)) ?_;refine ⟨cs ++ [acc],_,_,_,rfl,ah.fresh Sv (tN _ mem_cons_self),?_,?_,fun y hy=>?_,fun k l hk hl=>?_⟩
      ·rw [take_snoc hr,map_append];exact u8.snoc (List.nodup_cons.mp wc).1 BC a8
      ·obtain ⟨n1,n2⟩:=List.nodup_cons.mp wc;refine List.nodup_cons.mpr ⟨fun z=>?_,dX.mpr ⟨fun z=>Rw (mem_cons_of_mem _ z),n2⟩⟩;rcases List.mem_append.mp z with z | z
       ·exact n1 z
       ·exact BC (List.mem_singleton.mp z).symm
      ·rcases List.mem_cons.mp hy with z | z
       ·rw [z]; exact tN _ mem_cons_self
       ·rcases List.mem_append.mp z with z | z
        ·exact tN y (mem_cons_of_mem _ z)
        ·rw [List.mem_singleton.mp z]; exact HG
      ·by_cases z:k < i
       ·exact Ma k l z hl
       ·obtain rfl:k = i:=by omega
        rw [OG] at hl;cases hl
        exact ⟨OP,UL⟩
  ·rintro σ H4 ⟨cs,v4,v5,v6,rfl,e4,u4,wc,tN,Ma⟩;rw [length_map,t2.len] at Ma u4;rw [take_length] at u4;walk_at "r";refine q (fun k l hl=>Ma k l ?_ hl) tu cs H4 ((e1.trans e2).trans e4) u4 wc (fun b hb=>(e1.trans e2).free (tN b hb));have:=(List.getElem?_eq_some_iff.mp hl).1;rw [length_map] at this;exact this
theorem uD:aG ["self", "orders"] ["self", "orders"] (ao jk):=⟨rfl,rfl,rfl,by decide +kernel,rfl,by decide +kernel,by decide +kernel⟩
theorem uT (D:lC K Z.aV "lay" "Desk.lay" jk ["self", "orders"]) (T:Txt K mg Z):eI P w K mg base (bo P w) Z.aV "lay" 1 ["self", "orders"] (jI Z.aV):=by
 refine D.dh uD (fun vs H Q E h=>?_) (fun f bN A o s H vs Q E hr h=>?_)
 ·obtain ⟨d,dx,b,t,p,p',ps,qs,rfl,_⟩:=h; rfl
 ·obtain ⟨d,dx,b,t,p,p',ps,qs,rfl,k,hl,q⟩:=h;refine ⟨_,(ag (aU (b7 PySem.F.plainAttrs_list PySem.F.slot_list_append PySem.F.type_list_append bC (de (pv 0) rfl) (aa (de (pv 0) rfl) af)))
   (ag (jr (pv 0) (pv 1) rfl)
   (aj (jr (pv 0) (aY af) rfl)))),?_⟩
  dsimp only [b8];walk_at "r";refine ⟨d,_,dx,_,_,rfl,k.ins,T.aC,T.iD,rfl,?_⟩;refine ⟨.inl ⟨rfl,_,aw.of k.bh⟩,?_⟩;walk_at "r";refine ⟨d,_,dx,_,_,rfl,k.ins,T.aC,T.eD,rfl,?_⟩;walk_at "r";refine bV k.bh (by rw [length_map]; exact aF (by omega)) ?_;walk_at "r";refine ⟨d,_,dx,_,rfl,by rw [ak k.db]; exact k.ins,T.aC,T.eD,by walk_at "f3",?_⟩;walk_at "r";refine ⟨Nat.zero_le _,fun t' wd=>?_⟩;have nd:t'≠d:=fun z=>by rw [z,ae] at wd; cases wd
  rw [ak nd] at wd;have nb:t'≠b:=fun z=>by rw [z,ae] at wd; cases wd
  rw [ak nb] at wd;walk_at "r";refine ⟨d,_,dx,_,rfl,by rw [ak (Ne.symm nd)]; exact ae,T.aC,T.jW,by walk_at "f3",?_⟩;refine q t' _ (fun a o n e=>?_) wd ⟨ae,?_,?_,k.db,Ne.symm nd,Ne.symm nb⟩
  ·simp only [mem_cons,not_mem_nil,or_false,not_or] at n;have nt:a≠t':=fun z=>by rw [z,wd] at e; cases e
   rw [ak n.1,ak nt,ak n.1,ak n.2];exact e
  ·rw [ak (Ne.symm k.db),ak (Ne.symm nb),ak (Ne.symm k.db),ae,map_append]
   rfl
  ·rw [ak nd]; exact ae
theorem nv:aG ["self"] ["self"] (ao fO):=⟨rfl,rfl,rfl,by decide +kernel,rfl,by decide +kernel,by decide +kernel⟩
theorem nY (D:lC K Z.aV "orders" "Desk.orders" fO ["self"]) (T:Txt K mg Z):eI P w K mg base (bo P w) Z.aV "orders" 1 ["self"] (f6 Z.aV):=by
 refine D.dh nv (fun vs H Q E h=>?_) (fun f bN A o s H vs Q E hr h=>?_)
 ·obtain ⟨d,dx,b,t,p,ps,qs,as,L,rfl,_⟩:=h; rfl
 ·obtain ⟨d,dx,b,t,p,ps,qs,as,L,rfl,k,g,hn,q⟩:=h;refine ⟨_,(aj (aP (fD (tg:=["order"]) (fr:=[]) (by walk_at "blk_ok") rfl (bM (de (pv 0) rfl)) (fun _ _ _ _ _=>(aN (i:=0) (show [("order" : Str)].Nodup by decide +kernel) rfl (by walk_at "L"))) (fun _ _ _ _ _=>dE) (fun _ _ _ _ _=>(bH (eR (K:=K) rfl) (pv 0) bE bE))))),?_⟩;dsimp only [b8];walk_at "r";refine Cr (p:=p) (fun R hR=>⟨_,rfl,d,_,dx,_,_,rfl,k.ins,T.aC,T.eD,rfl,hR⟩) (sD (i:=0) rfl g (by omega) fun acc cs H' e g' nd fr=>?_);exact q acc cs H' e g' nd fr
theorem l6:aG ["self", "land", "one", "other"] ["self", "land", "one", "other"] (ao eX):=⟨rfl,rfl,rfl,by decide +kernel,rfl,by decide +kernel,by decide +kernel⟩
theorem mj (D:lC K Z.aV "put_tie" "Desk.put_tie" eX ["self", "land", "one", "other"]) (T:Txt K mg Z) (xk:cw P w K mg base (bo P w) "tied" 5 ["orders", "land", "one", "other"] (rY Z.dQ)) (di:eI P w K mg base (bo P w) Z.aV "lay" 1 ["self", "orders"] (jI Z.aV)):eI P w K mg base (bo P w) Z.aV "put_tie" 6 ["self", "land", "one", "other"] (xY Z.aV Z.dQ):=by
 refine D.oJ l6 (fun vs H Q E h=>?_) (fun f bN A o s H vs Q E hr h=>?_)
 ·obtain ⟨d,dx,b,t,p,ps,qs,as,L,R,r,m,i,j,rfl,_⟩:=h; rfl
 ·obtain ⟨d,dx,b,t,p,ps,qs,as,L,R,r,m,i,j,rfl,k,hl,g,im,hn,hd,la,hR,hi,hj,q,qE⟩:=h;refine ⟨_,(aj (aU (fc di T.aC hr aX (pv 0) (aa (aA xk hr yv (aa (de (pv 0) rfl) (aa (pv 1) (aa (pv 2) (aa (pv 3) af))))) af)))),?_⟩;dsimp only [b8];walk_at "r";refine ⟨d,dx,_,rfl,k.ins,rfl,?_⟩;walk_at "r";refine ⟨d,_,dx,_,_,rfl,k.ins,T.aC,T.eD,rfl,?_⟩;walk_at "r";refine ⟨p,as,L,R,r,m,i,j,rfl,g,im,hn,hd,la,hR,hi,hj,fun c p' mw M H1 e1 g1 iT gR bU=>?_,fun c H1 e1=>qE c H1 e1⟩;walk_at "r";refine ⟨d,dx,b,t,p,p',ps,qs,rfl,k.same e1,hl,fun t' H2 o2 wd k2=>?_⟩;exact cI.done (q c) k e1 g1 iT gR o2 wd k2 bU
theorem kG:aG ["self", "one", "other"] ["self", "one", "other"] (ao eu):=⟨rfl,rfl,rfl,by decide +kernel,rfl,by decide +kernel,by decide +kernel⟩
theorem kS (D:lC K Z.aV "take_tie" "Desk.take_tie" eu ["self", "one", "other"]) (T:Txt K mg Z) (oK:cw P w K mg base (bo P w) "untied" 5 ["orders", "one", "other"] (kC Z.dQ)) (di:eI P w K mg base (bo P w) Z.aV "lay" 1 ["self", "orders"] (jI Z.aV)):eI P w K mg base (bo P w) Z.aV "take_tie" 6 ["self", "one", "other"] (qy Z.aV Z.dQ):=by
 refine D.oJ kG (fun vs H Q E h=>?_) (fun f bN A o s H vs Q E hr h=>?_)
 ·obtain ⟨d,dx,b,t,p,ps,qs,as,L,e,rfl,_⟩:=h; rfl
 ·obtain ⟨d,dx,b,t,p,ps,qs,as,L,e,rfl,k,hl,g,im,hn,a0,a1,b0,b1,q,qE⟩:=h;refine ⟨_,(aj (aU (fc di T.aC hr aX (pv 0) (aa (aA oK hr yv (aa (de (pv 0) rfl) (aa (pv 1) (aa (pv 2) af)))) af)))),?_⟩;dsimp only [b8];walk_at "r";refine ⟨d,dx,_,rfl,k.ins,rfl,?_⟩;walk_at "r";refine ⟨d,_,dx,_,_,rfl,k.ins,T.aC,T.eD,rfl,?_⟩;walk_at "r";refine ⟨p,as,L,e,rfl,g,im,hn,a0,a1,b0,b1,fun c p' mw M H1 e1 g1 iT gR bU=>?_,fun c H1 e1=>qE c H1 e1⟩;walk_at "r";refine ⟨d,dx,b,t,p,p',ps,qs,rfl,k.same e1,hl,fun t' H2 o2 wd k2=>?_⟩;exact cI.done (q c) k e1 g1 iT gR o2 wd k2 bU
theorem jL:aG ["self", "land", "corners"] ["self", "land", "corners"] (ao dS):=⟨rfl,rfl,rfl,by decide +kernel,rfl,by decide +kernel,by decide +kernel⟩
theorem jV (D:lC K Z.aV "put_place" "Desk.put_place" dS ["self", "land", "corners"]) (T:Txt K mg Z) (oM:cw P w K mg base (bo P w) "placed" 5 ["orders", "land", "corners"] (kE Z.dQ)) (di:eI P w K mg base (bo P w) Z.aV "lay" 1 ["self", "orders"] (jI Z.aV)):eI P w K mg base (bo P w) Z.aV "put_place" 6 ["self", "land", "corners"] (qz Z.aV Z.dQ):=by
 refine D.oJ jL (fun vs H Q E h=>?_) (fun f bN A o s H vs Q E hr h=>?_)
 ·obtain ⟨d,dx,b,t,p,rc,ps,qs,as,L,R,r,m,cs,rfl,_⟩:=h; rfl
 ·obtain ⟨d,dx,b,t,p,rc,ps,qs,as,L,R,r,m,cs,rfl,k,hl,g,im,hn,hd,la,hR,AB,He,El,q,qE⟩:=h;refine ⟨_,(aj (aU (fc di T.aC hr aX (pv 0) (aa (aA oM hr yv (aa (de (pv 0) rfl) (aa (pv 1) (aa (pv 2) af)))) af)))),?_⟩;dsimp only [b8];walk_at "r";refine ⟨d,dx,_,rfl,k.ins,rfl,?_⟩;walk_at "r";refine ⟨d,_,dx,_,_,rfl,k.ins,T.aC,T.eD,rfl,?_⟩;walk_at "r";refine ⟨p,rc,as,L,R,r,m,cs,rfl,g,im,hn,hd,la,hR,AB,He,El,fun c p' mw H1 e1 g1 iT gR=>?_,fun c H1 e1=>qE c H1 e1⟩;walk_at "r";refine ⟨d,dx,b,t,p,p',ps,qs,rfl,k.same e1,hl,fun t' H2 o2 wd k2=>?_⟩;exact cI.done (q c) k e1 g1 iT gR o2 wd k2 rfl
theorem i5:aG ["self"] ["self"] (ao c9):=⟨rfl,rfl,rfl,by decide +kernel,rfl,by decide +kernel,by decide +kernel⟩
theorem i7 (D:lC K Z.aV "turn_inside" "Desk.turn_inside" c9 ["self"]) (T:Txt K mg Z) (iJ:cw P w K mg base (bo P w) "other_map" 4 ["orders"] (ni Z.fK)) (di:eI P w K mg base (bo P w) Z.aV "lay" 1 ["self", "orders"] (jI Z.aV)):eI P w K mg base (bo P w) Z.aV "turn_inside" 6 ["self"] (uA Z.aV Z.fK):=by
 refine D.oJ i5 (fun vs H Q E h=>?_) (fun f bN A o s H vs Q E hr h=>?_)
 ·obtain ⟨d,dx,b,t,p,ps,qs,as,L,R,rfl,_⟩:=h; rfl
 ·obtain ⟨d,dx,b,t,p,ps,qs,as,L,R,rfl,k,hl,g,im,hn,hd,la,q,qE⟩:=h;refine ⟨_,(aj (aU (fc di T.aC hr aX (pv 0) (aa (aA iJ hr yv (aa (de (pv 0) rfl) af)) af)))),?_⟩;dsimp only [b8];walk_at "r";refine ⟨d,dx,_,rfl,k.ins,rfl,?_⟩;walk_at "r";refine ⟨d,_,dx,_,_,rfl,k.ins,T.aC,T.eD,rfl,?_⟩;walk_at "r";refine ⟨p,as,L,R,rfl,g,im,hn,hd,la,fun c p' mw H1 e1 g1 iT gR=>?_,fun c H1 e1=>qE c H1 e1⟩;walk_at "r";refine ⟨d,dx,b,t,p,p',ps,qs,rfl,k.same e1,hl,fun t' H2 o2 wd k2=>?_⟩;exact cI.done (q c) k e1 g1 iT gR o2 wd k2 rfl
theorem sj:aG ["self"] ["self"] (ao iz):=⟨rfl,rfl,rfl,by decide +kernel,rfl,by decide +kernel,by decide +kernel⟩
theorem sT (D:lC K Z.aV "back" "Desk.back" iz ["self"]) (T:Txt K mg Z):eI P w K mg base (bo P w) Z.aV "back" 1 ["self"] (uC Z.aV Z.iN):=by
 refine D.oJ sj (fun vs H Q E h=>?_) (fun f bN A o s H vs Q E hr h=>?_)
 ·obtain ⟨d,dx,b,t,p,ps,qs,rfl,_⟩:=h; rfl
 ·obtain ⟨d,dx,b,t,p,ps,qs,rfl,k,hl,iW,qE,q⟩:=h;refine ⟨_,(ag (aZ (ax cX (ar aM (by rfl) T.len aQ (aa (de (pv 0) rfl) af)) ai (aL _)) (aj (fb PySem.F.excBase_ValueError T.x_NoStep T.o5 rfl (aa js af) jm)) aK)
   (ag (aU (b7 PySem.F.plainAttrs_list PySem.F.slot_list_append PySem.F.type_list_append bC (de (pv 0) rfl) (aa (de (pv 0) rfl) af)))
   (aj (jr (pv 0) (wL PySem.F.plainAttrs_list PySem.F.slot_list_pop PySem.F.type_list_pop BD (de (pv 0) rfl)) rfl)))),?_⟩
  dsimp only [b8];walk_at "r";refine ⟨d,_,dx,_,_,rfl,k.ins,T.aC,T.iD,rfl,?_⟩;walk_at "r";refine ⟨_,_,rfl,.inl ⟨_,aw.of k.bh,rfl⟩,?_⟩;rw [length_map];walk_at "r";refine if2 (fun z=>?_) (fun z=>?_)
  ·walk_at "r";exact ⟨by rw [PySem.sizeLine_eq]; simp,qE (List.length_eq_zero_iff.mp (by omega)) _ (fun _ _ e=>e)⟩
  ·obtain ⟨yi,p0,rfl⟩:∃ yi p0,ps = yi ++ [p0]:=by
    rcases eq_nil_or_concat ps with h | ⟨a,b,h⟩
    ·rw [h] at z; exact absurd rfl z
    ·exact ⟨a,b,by rw [h]; simp⟩
   walk_at "r";refine ⟨d,_,dx,_,_,rfl,k.ins,T.aC,T.jW,rfl,?_⟩;refine ⟨.inl ⟨rfl,_,aw.of k.tk⟩,?_⟩;walk_at "r";refine ⟨d,_,dx,_,_,rfl,k.ins,T.aC,T.eD,rfl,?_⟩;walk_at "r";refine bV k.tk (by rw [length_map]; exact aF (by omega)) ?_;walk_at "r";refine ⟨d,_,dx,_,_,rfl,by rw [ak k.dt]; exact k.ins,T.aC,T.iD,rfl,?_⟩;have kb:upd H t (.lst (qs.map V.ref ++ [.ref p])) b = some (.lst (yi.map V.ref ++ [.ref p0])):=by rw [ak k.bt,k.bh,map_append]; rfl
   refine ⟨.inl ⟨rfl,_,aw.of kb⟩,?_⟩;refine E8 kb ?_;walk_at "r";refine ⟨d,_,dx,_,rfl,by rw [ak k.db,ak k.dt]; exact k.ins,T.aC,T.eD,by walk_at "f3",?_⟩;refine q p0 yi rfl _ (fun a o n e=>?_) ⟨ae,?_,?_,k.db,k.dt,k.bt⟩
   ·simp only [mem_cons,not_mem_nil,or_false,not_or] at n;rw [ak n.1,ak n.2.1,ak n.2.2];exact e
   ·rw [ak (Ne.symm k.db)]; exact ae
   ·rw [ak (Ne.symm k.dt),ak (Ne.symm k.bt),ae,map_append]
    rfl
theorem pK:aG ["self"] ["self"] (ao gj):=⟨rfl,rfl,rfl,by decide +kernel,rfl,by decide +kernel,by decide +kernel⟩
theorem pU (D:lC K Z.aV "again" "Desk.again" gj ["self"]) (T:Txt K mg Z):eI P w K mg base (bo P w) Z.aV "again" 1 ["self"] (qA Z.aV Z.iN):=by
 refine D.oJ pK (fun vs H Q E h=>?_) (fun f bN A o s H vs Q E hr h=>?_)
 ·obtain ⟨d,dx,b,t,p,ps,qs,rfl,_⟩:=h; rfl
 ·obtain ⟨d,dx,b,t,p,ps,qs,rfl,k,hl,iW,qE,q⟩:=h;refine ⟨_,(ag (aZ (ax cX (ar aM (by rfl) T.len aQ (aa (de (pv 0) rfl) af)) ai (aL _)) (aj (fb PySem.F.excBase_ValueError T.x_NoStep T.o5 rfl (aa js af) jm)) aK)
   (ag (aU (b7 PySem.F.plainAttrs_list PySem.F.slot_list_append PySem.F.type_list_append bC (de (pv 0) rfl) (aa (de (pv 0) rfl) af)))
   (aj (jr (pv 0) (wL PySem.F.plainAttrs_list PySem.F.slot_list_pop PySem.F.type_list_pop BD (de (pv 0) rfl)) rfl)))),?_⟩
  dsimp only [b8];walk_at "r";refine ⟨d,_,dx,_,_,rfl,k.ins,T.aC,T.jW,rfl,?_⟩;walk_at "r";refine ⟨_,_,rfl,.inl ⟨_,aw.of k.tk,rfl⟩,?_⟩;rw [length_map];walk_at "r";refine if2 (fun z=>?_) (fun z=>?_)
  ·walk_at "r";exact ⟨by rw [PySem.sizeLine_eq]; simp,qE (List.length_eq_zero_iff.mp (by omega)) _ (fun _ _ e=>e)⟩
  ·obtain ⟨yh,p0,rfl⟩:∃ yh p0,qs = yh ++ [p0]:=by
    rcases eq_nil_or_concat qs with h | ⟨a,b,h⟩
    ·rw [h] at z; exact absurd rfl z
    ·exact ⟨a,b,by rw [h]; simp⟩
   walk_at "r";refine ⟨d,_,dx,_,_,rfl,k.ins,T.aC,T.iD,rfl,?_⟩;refine ⟨.inl ⟨rfl,_,aw.of k.bh⟩,?_⟩;walk_at "r";refine ⟨d,_,dx,_,_,rfl,k.ins,T.aC,T.eD,rfl,?_⟩;walk_at "r";refine bV k.bh (by rw [length_map]; exact aF (by omega)) ?_;walk_at "r";refine ⟨d,_,dx,_,_,rfl,by rw [ak k.db]; exact k.ins,T.aC,T.jW,rfl,?_⟩;have kb:upd H b (.lst (ps.map V.ref ++ [.ref p])) t = some (.lst (yh.map V.ref ++ [.ref p0])):=by rw [ak (Ne.symm k.bt),k.tk,map_append]; rfl
   refine ⟨.inl ⟨rfl,_,aw.of kb⟩,?_⟩;refine E8 kb ?_;walk_at "r";refine ⟨d,_,dx,_,rfl,by rw [ak k.dt,ak k.db]; exact k.ins,T.aC,T.eD,by walk_at "f3",?_⟩;refine q p0 yh rfl _ (fun a o n e=>?_) ⟨ae,?_,?_,k.db,k.dt,k.bt⟩
   ·simp only [mem_cons,not_mem_nil,or_false,not_or] at n;rw [ak n.1,ak n.2.2,ak n.2.1];exact e
   ·rw [ak (Ne.symm k.db),ak k.bt,ae,map_append]
    rfl
   ·rw [ak (Ne.symm k.dt)]; exact ae
theorem si:aG ["self", "orders"] ["self", "orders"] (ao iw):=⟨rfl,rfl,rfl,by decide +kernel,rfl,by decide +kernel,by decide +kernel⟩
theorem sS (D:EN K Z.aV "Desk.__init__" iw ["self", "orders"]) (T:Txt K mg Z) (B6:cw P w K mg base (bo P w) "looked" 2 ["orders"] qw):EO P w K mg base (bo P w) Z.aV 3 ["self", "orders"] (uB Z.aV):=by
 refine D.dh si (fun vs H Q E h=>?_) (fun f bN A o s H vs Q E hr h=>?_)
 ·obtain ⟨d,dx,o,as,L,rfl,_⟩:=h; rfl
 ·obtain ⟨d,dx,o,as,L,rfl,hd,g,nd,im,hn,q⟩:=h;refine ⟨_,(ag (aU (aA B6 hr aX (aa (pv 1) af)))
   (ag (jr (pv 0) (fD (tg:=["order"]) (fr:=[]) (by walk_at "blk_ok") rfl (bM (pv 1)) (fun _ _ _ _ _=>(aN (i:=0) (show [("order" : Str)].Nodup by decide +kernel) rfl (by walk_at "L"))) (fun _ _ _ _ _=>dE) (fun _ _ _ _ _=>(bH (eR (K:=K) rfl) (pv 0) bE bE))) rfl)
   (ag (jr (pv 0) (aY af) rfl)
   (aj (jr (pv 0) (aY af) rfl))))),?_⟩
  dsimp only [b8];walk_at "r";refine ⟨o,as,L,rfl,g,im,hn,fun H1 e1=>?_⟩;walk_at "r";refine sD (i:=1) rfl (g.same e1) (by omega) fun p cs H2 e2 g2 uY wo=>?_;have eE:=e1.trans e2;have hd2:=eE _ _ hd;have np:d∉p :: cs:=fun z=>by have:=wo d z; rw [e1 _ _ hd] at this; cases this
  walk_at "r";refine ⟨d,_,dx,_,rfl,hd2,T.aC,T.eD,by walk_at "f3",?_⟩;walk_at "r";refine ⟨Nat.zero_le _,fun b hb=>?_⟩;walk_at "r";have bd:b≠d:=fun z=>by rw [z,ae] at hb; cases hb
  rw [ak bd] at hb;refine ⟨d,_,dx,_,rfl,by rw [ak (Ne.symm bd)]; exact ae,T.aC,T.iD,by walk_at "f3",?_⟩;walk_at "r";refine ⟨Nat.zero_le _,fun t ht=>?_⟩;walk_at "r";have td:t≠d:=fun z=>by rw [z,ae] at ht; cases ht
  rw [ak td] at ht;have tb:t≠b:=fun z=>by rw [z,ae] at ht; cases ht
  rw [ak tb,ak td] at ht;refine ⟨d,_,dx,_,rfl,by rw [ak (Ne.symm td)]; exact ae,T.aC,T.jW,by walk_at "f3",?_⟩;have keep:aE [d] H2 (upd (upd (upd (upd (upd H2 d (.ins Z.aV dx [("laid",.ref p)])) b (.lst [])) d (.ins Z.aV dx [("laid",.ref p),("behind",.ref b)])) t (.lst [])) d (.ins Z.aV dx [("laid",.ref p),("behind",.ref b),("taken",.ref t)])):=fun a o n e=>by
   have n:a≠d:=fun z=>n (by simp [z]);have nb:a≠b:=fun z=>by rw [z,hb] at e; cases e
   have nt:a≠t:=fun z=>by rw [z,ht] at e; cases e
   rw [ak n,ak nt,ak n,ak nb,ak n];exact e
  refine q p b t cs _ ((aE.of eE).trans keep) ⟨ae,?_,?_,Ne.symm bd,Ne.symm td,Ne.symm tb⟩ (g2.off keep fun a ha z=>np (by rw [<- List.mem_singleton.mp z]; exact ha)) uY ?_ (c7 g2 hb) (c7 g2 ht)
  ·rw [ak bd,ak (Ne.symm tb),ak bd]; exact ae
  ·rw [ak td]; exact ae
  ·intro a ha;rcases List.mem_cons.mp ha with z | ha
   ·rw [z]; exact eE.free hb
   ·rcases List.mem_cons.mp ha with z | ha
    ·rw [z]; exact eE.free ht
    ·exact e1.free (wo a ha)
theorem l4:aG ["_law_ring", "_law_number"] ["_law_ring", "_law_number"] (ao eV):=⟨rfl,rfl,rfl,by decide +kernel,rfl,by decide +kernel,by decide +kernel⟩
theorem mf (D:Def K mg "_law_corners" eV ["_law_ring", "_law_number"]) (T:Txt K mg Z):cw P w K mg base (bo P w) "_law_corners" 1 ["_law_ring", "_law_number"] ji:=by
 refine D.dh l4 (fun vs H Q E h=>?_) (fun f bN A o s H vs Q E hr h=>?_)
 ·obtain ⟨ra,r,n,rfl,_⟩:=h; rfl
 ·obtain ⟨ra,r,n,rfl,vo,hl,n0,n1,q⟩:=h;refine ⟨_,(aj (aP (fD (tg:=["_law_at"]) (fr:=[("_law_number",1)]) (by walk_at "blk_ok") rfl (cU rfl T.range (aa (ar aM (by rfl) T.len aQ (aa (pv 0) af)) af)) (fun _ _ _ _ _=>(aN (i:=0) (show [("_law_at" : Str),("_law_number" : Str)].Nodup by decide +kernel) rfl (by walk_at "L"))) (fun _ _ _ _ _=>(jR (ax jf (aD a9 (aD dG (pv 1) (aD fF (pv 0) (aD bJ (pv 1) ai))) ai) ai (aL _)))) (fun _ _ _ _ _=>(pv 0))))),?_⟩;dsimp only [b8];walk_at "r";refine eY ?_;refine ⟨_,rfl,_,_,rfl,.inl ⟨_,aw.of vo,rfl⟩,(r.length:Int),by rw [length_map],by omega,by omega,fun acc bK=>?_⟩;rw [Int.toNat_natCast];refine o4 (fun i σ' ys H1=>∃ v:Option V,σ' = [v,some (.int n)]/\ys = (fX (fv n i)).map V.int/\ah H H1/\H1 acc = some (.lst ys)) ⟨none,rfl,rfl,ah.upd bK,ae⟩ ?_ ?_
  ·rintro i σ' ys H1 hi ⟨v,rfl,rfl,e1,a1⟩;simp only [Int.zero_add];have cl:=lu n i;walk_at "r";refine jN (Sz.Fo (m:=20) (n:=64) (by unfold Sz; omega) (by unfold Sz; omega)) ?_;walk_at "r";refine i9 (fun z=>?_) (fun z=>?_)
   ·walk_at "r";refine ⟨a1,by unfold fX; rw [length_map,length_map]; exact aF (by omega),fH hi ⟨_,rfl,?_,ah.fresh e1 bK,ae⟩⟩;rw [o3,if_pos z];unfold fX;rw [map_append,map_append]
    rfl
   ·refine fH hi ⟨_,rfl,?_,e1,a1⟩;rw [o3,if_neg (fun w=>w z),append_nil]
  ·rintro σ' ys H1 ⟨v,rfl,rfl,e1,a1⟩;walk_at "r";exact q acc _ e1 bK a1
theorem dU:aG ["_law_orders", "_law_found", "_law_k", "_law_place"] ["_law_orders"] (ao gg):=⟨rfl,rfl,rfl,by decide +kernel,rfl,by decide +kernel,by decide +kernel⟩
theorem pP (D:Def K mg "_law_hangs" gg ["_law_orders"]) (T:Txt K mg Z):cw P w K mg base (bo P w) "_law_hangs" 1 ["_law_orders"] uy:=by
 refine D.dh dU (fun vs H Q E h=>?_) (fun f bN A o s H vs Q E hr h=>?_)
 ·obtain ⟨p,as,L,rfl,_⟩:=h; rfl
 ·obtain ⟨p,as,L,rfl,g,hn,Ib,im,q⟩:=h;refine ⟨_,(ag (az (i:=1) dU.nd rfl (by walk_at "L") (aY (aa ai af)))
   (ag (bZ PassesOwn.never rfl (cU rfl T.range (aa (ar aM (by rfl) T.len aQ (aa (pv 0) af)) af)) (aN (i:=2) dU.nd rfl (by walk_at "L"))
   (aj (bZ PassesOwn.never rfl (cU rfl T.range (aa (ar aM (by rfl) T.len aQ (aa (pv 0) af)) af)) (aN (i:=3) dU.nd rfl (by walk_at "L"))
   (aj (aZ (PW.pt (pw_and (ax dF (pv 3) (pv 1) (by with_unfolding_all rfl)) (pw_and1 (ax (fQ hr.units) (fD (tg:=["_law_other"]) (fr:=[("_law_found",1)]) (by walk_at "blk_ok") rfl (bM (aI au (pv 0) (pv 3) (fun _ _=>rfl))) (fun _ _ _ _ _=>(aN (i:=0) (show [("_law_other" : Str),("_law_found" : Str)].Nodup by decide +kernel) rfl (by walk_at "L"))) (fun _ _ _ _ _=>(jR (ax (wM (K:=K) rfl) (pv 0) (pv 1) (by with_unfolding_all rfl)))) (fun _ _ _ _ _=>(pv 0))) (aY af) (aL _))))) (aj (aU (b7 PySem.F.plainAttrs_list PySem.F.slot_list_append PySem.F.type_list_append bC (pv 1) (aa (pv 3) af)))) aK)))))
   (aj (aP (jT cX (ar aM (by rfl) T.len aQ (aa (pv 1) af)) (ar aM (by rfl) T.len aQ (aa (pv 0) af)) (aL _)))))),?_⟩
  dsimp only [b8];walk_at "r";refine ⟨by rw [PySem.sizeLine_eq]; simp,fun t ht=>?_⟩;have e0:ah H (upd H t (.lst [.int 0])):=ah.upd ht;walk_at "r";refine cW ?_;refine ⟨_,rfl,_,_,rfl,.inl ⟨_,aw.of (e0 _ _ g.top),rfl⟩,(L.length:Int),by rw [length_map,g.len],by omega,by omega,?_⟩;rw [Int.toNat_natCast];refine dv (fun k σ H1=>∃ (fs:List Int) (v2 v3:Option V),σ = [some (.ref p),some (.ref t),v2,v3]/\ah H H1/\H1 t = some (.lst (fs.map V.int))/\Pa L fs k) ⟨[0],none,none,rfl,e0,ae,Pa.start⟩ ?_ ?_
  ·rintro k σ H1 hk ⟨tM,v2,v3,rfl,e1,t1,pa⟩;walk_at "r";refine cW ?_;refine ⟨_,rfl,_,_,rfl,.inl ⟨_,aw.of (e1 _ _ g.top),rfl⟩,(L.length:Int),by rw [length_map,g.len],by omega,by omega,?_⟩;rw [Int.toNat_natCast];refine dv (fun j σ H2=>∃ (fs:List Int) (v2 v3:Option V),σ = [some (.ref p),some (.ref t),v2,v3]/\ah H H2/\H2 t = some (.lst (fs.map V.int))/\Pi L tM fs j) ⟨tM,_,_,rfl,e1,t1,pa.pass⟩ ?_ ?_
   ·rintro j σ H2 hj ⟨fs,w2,w3,rfl,e2,t2,pi⟩;obtain ⟨b,l,ha,hl,b5⟩:=g.at hj;have lf:=Fl.len im ⟨Int.le_refl 0,by omega⟩ pi.nd pi.re;have ll:l.length<=L.length:=bz (im.nd _ _ hl) fun y hy=>⟨(im.rg _ _ hl y hy).1,(im.rg _ _ hl y hy).2.1⟩;simp only [Int.zero_add];walk_at "r";refine sC (aw.of t2) ?_;rw [if_pos rfl];walk_at "r";refine i9 (fun Ia=>?_) (fun JY=>?_)
    ·walk_at "r";refine eY ?_;refine ⟨_,rfl,_,rfl,aR (aw.of (e2 _ _ g.top)) (g.ix ha) ?_⟩;refine ⟨b,rfl,⟨_,aw.of (e2 _ _ b5)⟩,fun acc bK=>?_⟩;have at2:acc≠t:=Ne.symm (aB t2 bK);refine dw (K:=K) (a:=b) (xs:=l.map V.int) (fun i σ' ys H3=>∃ v:Option V,σ' = [v,some (.ref t)]/\ah H2 H3/\H3 acc = some (.lst ys)/\ys = ((l.take i).filter (fun y=>decide (y∈fs))).map V.int)
      ⟨none,rfl,ah.upd bK,ae,rfl⟩ (fun i σ' ys H3 _ ⟨_,_,e,_⟩=>aw.of (e _ _ (e2 _ _ b5))) ?_ ?_
     ·rintro i x σ' ys H3 hx hi ⟨v,rfl,e3,a3,rfl⟩;obtain ⟨y,hy,rfl⟩:∃ y,l[i]? = some y/\x = V.int y:=by
       rw [getElem?_map] at hx;cases e:l[i]? with
       | none=>rw [e] at hx; cases hx
       | some z=>rw [e] at hx; exact ⟨z,rfl,(Option.some.inj hx).symm⟩
      have tk:l.take (i + 1) = l.take i ++ [y]:=by rw [take_succ,hy]; rfl
      rw [length_map] at hi;have fl:((l.take i).filter (fun y=>decide (y∈fs))).length<=L.length:=by
       have h1:=length_filter_le (fun y=>decide (y∈fs)) (l.take i);have h2:(l.take i).length<=l.length:=by rw [length_take]; omega
       omega
      walk_at "r";refine sC (aw.of (e3 _ _ t2)) ?_;rw [if_neg (by decide)];walk_at "r";refine if2 (fun hm=>?_) (fun hm=>?_)
      ·walk_at "r";refine ⟨a3,by rw [length_map]; exact aF (by omega),fH (by rw [length_map]; exact hi) ⟨_,rfl,ah.fresh e3 bK,ae,?_⟩⟩;rw [tk,filter_append,map_append,filter_cons,if_pos (by simpa using hm)]
       rfl
      ·refine fH (by rw [length_map]; exact hi) ⟨_,rfl,e3,a3,?_⟩;rw [tk,filter_append,map_append,filter_cons,if_neg (by simpa using hm)];simp
     ·rintro σ' ys H3 ⟨v,rfl,e3,a3,rfl⟩;rw [length_map,take_length] at a3;walk_at "r";refine ⟨Nat.zero_le _,fun z hz=>?_⟩;refine ⟨bO (l.filter (fun y=>decide (y∈fs))),bO [],cg (by rw [ak (aB a3 hz)]; exact a3),cg ae,shaped_ints _,shaped_ints _,?_⟩;rw [if_pos rfl,gD];have e4:ah H2 (upd H3 z (.lst [])):=e3.trans (ah.upd hz);walk_at "r";refine i9 (fun iV=>?_) (fun heq=>?_)
      ·walk_at "r";refine ⟨.inl ⟨rfl,_,aw.of (e4 _ _ t2)⟩,?_⟩;walk_at "r";refine bV (e4 _ _ t2) (by rw [length_map]; exact aF (by omega)) ?_;obtain ⟨y,hy⟩:=exists_mem_of_ne_nil _ iV;rw [mem_filter] at hy;exact ⟨fs ++ [(j:Int)],_,_,rfl,ah.fresh (e2.trans e4) ht,by rw [map_append]; exact ae,pi.add im hl Ia hy.1 (by simpa using hy.2)⟩
      ·refine ⟨fs,_,_,rfl,e2.trans e4,e4 _ _ t2,pi.skip (.inr fun l' Kn x hx hf=>?_)⟩;rw [hl] at Kn;cases Kn
       have:x∈l.filter (fun y=>decide (y∈fs)):=List.mem_filter.mpr ⟨hx,by simpa using hf⟩;rw [heq] at this;cases this
    ·exact ⟨fs,_,_,rfl,e2,t2,pi.skip (.inl JY)⟩
   ·rintro σ H2 ⟨fs,w2,w3,rfl,e2,t2,pi⟩;exact ⟨fs,_,_,rfl,e2,t2,pi.done pa⟩
  ·rintro σ H1 ⟨fs,v2,v3,rfl,e1,t1,pa⟩;walk_at "r";refine ⟨_,_,rfl,.inl ⟨_,aw.of t1,rfl⟩,?_⟩;walk_at "r";refine ⟨_,_,rfl,.inl ⟨_,aw.of (e1 _ _ g.top),rfl⟩,?_⟩;rw [length_map,length_map,g.len];walk_at "r";exact q fs H1 e1 pa.nd (pa.all im Ib)
theorem bL:aG ["_law_orders", "_law_way", "_law_number", "_law_made_here", "_law_rings_here", "_law_land"] ["_law_orders", "_law_way", "_law_number"] (ao ir):=⟨rfl,rfl,rfl,by decide +kernel,rfl,by decide +kernel,by decide +kernel⟩
theorem sQ (D:Def K mg "_law_made" ir ["_law_orders", "_law_way", "_law_number"]) (T:Txt K mg Z) (dN:cw P w K mg base (bo P w) "lands" 3 ["orders"] eQ) (xk:cw P w K mg base (bo P w) "tied" 5 ["orders", "land", "one", "other"] (rY Z.dQ)) (oK:cw P w K mg base (bo P w) "untied" 5 ["orders", "one", "other"] (kC Z.dQ)) (oM:cw P w K mg base (bo P w) "placed" 5 ["orders", "land", "corners"] (kE Z.dQ)) (iJ:cw P w K mg base (bo P w) "other_map" 4 ["orders"] (ni Z.fK)) (fk:cw P w K mg base (bo P w) "_law_corners" 1 ["_law_ring", "_law_number"] ji):cw P w K mg base (bo P w) "_law_made" 6 ["_law_orders", "_law_way", "_law_number"] xW:=by
 refine D.dh bL (fun vs H Q E h=>?_) (fun f bN A o s H vs Q E hr h=>?_)
 ·obtain ⟨p,as,L,R,way,n,rfl,_⟩:=h; rfl
 ·obtain ⟨p,as,L,R,way,n,rfl,g,im,L0,hn,hd,la,RD,hR,h2,w3,q,qN⟩:=h;refine ⟨_,(ag (az (i:=3) bL.nd rfl (by walk_at "L") Bp)
   (ag (az (i:=4) bL.nd rfl (by walk_at "L") (aA dN hr aX (aa (pv 0) af)))
   (ag (az (i:=5) bL.nd rfl (by walk_at "L") (aD a9 (pv 2) (ar (lA rfl) (by rfl) T.max xE (aa ai (aa (ar aM (by rfl) T.len aQ (aa (pv 4) af)) af)))))
   (ag (wJ (by intro _ _; exact (ag (aZ (PW.pt (pw_and (ax cX (pv 1) ai (aL _)) (pw_and1 (ax (fQ hr.units) (pv 4) (aY af) (aL _))))) (aj (az (i:=3) bL.nd rfl (by walk_at "L") (aA xk hr gN (aa (pv 0) (aa (pv 5) (aa (aD a9 (aD bJ (pv 2) ai) (ar (cE (K:=K) rfl) (by rfl) T.len aQ (aa (aI (dM (K:=K) rfl) (pv 4) (pv 5) (fun _ _=>rfl)) af))) (aa (aD a9 (aD bJ (pv 2) ai) (ar (cE (K:=K) rfl) (by rfl) T.len aQ (aa (aI (dM (K:=K) rfl) (pv 4) (pv 5) (fun _ _=>rfl)) af))) af))))))) aK)
   (ag (aZ (ax cX (pv 1) ai (aL _)) (aj (az (i:=3) bL.nd rfl (by walk_at "L") (aA oK hr gN (aa (pv 0) (aa (aD a9 (pv 2) (ar (cE (K:=K) rfl) (by rfl) T.len aQ (aa (pv 0) af))) (aa (aD a9 (aD bJ (pv 2) ai) (ar (cE (K:=K) rfl) (by rfl) T.len aQ (aa (pv 0) af))) af)))))) aK)
   (ag (aZ (PW.pt (pw_and (ax cX (pv 1) ai (aL _)) (pw_and (ax (fQ hr.units) (pv 4) (aY af) (aL _)) (pw_and1 (ax lI (ar (cE (K:=K) rfl) (by rfl) T.len aQ (aa (pv 0) af)) ai (aL _)))))) (aj (az (i:=3) bL.nd rfl (by walk_at "L") (aA oM hr gN (aa (pv 0) (aa (pv 5) (aa (aA fk hr gN (aa (aI (dM (K:=K) rfl) (pv 4) (pv 5) (fun _ _=>rfl)) (aa (aD bJ (pv 2) ai) af))) af)))))) aK)
   (aj (aZ (PW.pt (pw_and (ax cX (pv 1) ai (aL _)) (pw_and1 (ax (fQ hr.units) (pv 4) (aY af) (aL _))))) (aj (az (i:=3) bL.nd rfl (by walk_at "L") (aA iJ hr gN (aa (pv 0) af)))) aK)))))) pd T.o8 (fun _=>(aj (az (i:=3) bL.nd rfl (by walk_at "L") Bp))))
   (aj (aP (pv 3))))))),?_⟩
  dsimp only [b8];walk_at "r";refine ⟨p,as,L,rfl,g,im,hn,hd,fun t bs R' H1 e1 g1 iT gR Oe=>?_⟩;walk_at "r";obtain rfl:R = R':=la.unique Oe;have bl:=g1.len;refine ⟨_,_,rfl,.inl ⟨_,aw.of g1.top,rfl⟩,uI ⟨_,_,rfl,?_⟩⟩;rw [length_map,bl];have mx:(if (R.length:Int) > 1 then (R.length:Int) else 1) = ((max 1 R.length:Nat):Int):=by
   split <;> omega
  rw [mx];have mp:0 < max 1 R.length:=by omega
  refine jN (by omega) ?_;rw [show (n:Int) % ((max 1 R.length:Nat):Int) = ((n % max 1 R.length:Nat):Int) from (Int.natCast_emod _ _).symm];have land:R≠[]->max 1 R.length = R.length:=fun z=>by
   have:=List.length_pos_iff.mpr z;omega
  have ring:R≠[]->R[n % max 1 R.length]? = some (rD R n)/\0 < (rD R n).length/\(rD R n).length<=1000/\∃ b,bs[n % max 1 R.length]? = some b/\H1 b = some (.lst ((rD R n).map V.int)):=fun z=>by
   rw [land z];have lt:=Nat.mod_lt n (List.length_pos_iff.mpr z);have e:R[n % R.length]? = some (rD R n):=by
    unfold rD;rw [getD_eq_getElem?_getD,getElem?_eq_getElem lt]
    rfl
   obtain ⟨b,l,h1,qX,h3⟩:=g1.at lt;rw [e] at qX;cases qX
   have gd:=la.good _ (mem_of_getElem? e);have:=jM im la (mem_of_getElem? e);exact ⟨e,by have:=gd.two; omega,by omega,b,h1,h3⟩
  have exc:∀ (N:Addr) (σ':St) (H':Hp) (dx:Option Addr),PySem.W.exmOne K (.ref N) (.ref Z.fw) = some true->ah H H'->¬ By L R way n->σ'.length = 6->Il K Z.fw (zq (tC V.bQ) (lU 3)) { nx:=Df (gP 3) { nx:=fun x H'=>Q V.bQ H',rt:=Q },rt:=Q } σ' (.ref N) dx H':=fun N σ' H' dx hm e no hl=>
   ⟨N,rfl,hm,r_asg (r_c (r_gname (uH (r_var (getElem?_set_self (by omega)) (qN no H' e)))))⟩
  have Lq:∀ l:Nat,(n:Int) / 64 % (l:Int) = ((n / 64 % l:Nat):Int):=fun l=>by rw [Int.natCast_emod,Int.natCast_ediv]; rfl
  have Cv:∀ l:Nat,(n:Int) / 1024 % (l:Int) = ((n / 1024 % l:Nat):Int):=fun l=>by rw [Int.natCast_emod,Int.natCast_ediv]; rfl
  refine r_gname (r_seq (Bb ?_));have w4:way = 0\/way = 1\/way = 2\/way = 3:=by omega
  rcases w4 with rfl | rfl | rfl | rfl
  ·have hR:R≠[]:=hR.elim id fun z=>by cases z
   obtain ⟨r1,r2,r3,b,hb,b5⟩:=ring hR;walk_at "r";rw [decide_eq_true (show ((0:Nat):Int) = 0 from rfl)];walk_at "r";refine ⟨Nat.zero_le _,fun z hz=>?_⟩;have e2:ah H1 (upd H1 z (.lst [])):=ah.upd hz;have gz:aJ (upd H1 z (.lst [])) z [] []:=⟨ae,rfl,fun i a l h=>by simp at h⟩;generalize upd H1 z (.lst []) = H2 at e2 gz ⊢;refine ⟨cP R,cP [],(g1.same e2).yb,gz.yb,bc _,bc _,?_⟩;rw [if_pos rfl,fo,decide_eq_false hR];walk_at "r";refine aR (aw.of (e2 _ _ g1.top)) (g1.ix hb) ?_;walk_at "r";refine ⟨_,_,rfl,.inl ⟨_,aw.of (e2 _ _ b5),rfl⟩,?_⟩;rw [length_map];refine jN (by omega) ?_;walk_at "r";refine aR (aw.of (e2 _ _ g1.top)) (g1.ix hb) ?_;walk_at "r";refine ⟨_,_,rfl,.inl ⟨_,aw.of (e2 _ _ b5),rfl⟩,?_⟩;rw [length_map];refine jN (by omega) ?_;rw [Lq,Cv];walk_at "r";refine ⟨p,as,L,R,rD R n,n % max 1 R.length,_,_,rfl,(g.same e1).same e2,im,hn,hd,la,r1,Nat.mod_lt _ r2,Nat.mod_lt _ r2,fun ok t' Hz M H3 e3 g3 uf pZ bU=>?_,fun no H3 e3 σ' hl=>exc _ σ' H3 none T.m1 ((e1.trans e2).trans e3) no hl⟩;walk_at "r";rw [decide_eq_false (show ¬ ((0:Nat):Int) = 1 by decide)];walk_at "r";rw [decide_eq_false (show ¬ ((0:Nat):Int) = 2 by decide)];walk_at "r";rw [decide_eq_false (show ¬ ((0:Nat):Int) = 3 by decide)];walk_at "r";exact q ok t' Hz M H3 ((e1.trans e2).trans e3) g3 uf (fun b hb=>(e1.trans e2).free (pZ b hb)) bU
  ·have cn:(n:Int) % (L.length:Int) = ((n % L.length:Nat):Int):=by rw [Int.natCast_emod]
   have m1:=Nat.mod_lt n L0;have m2:=Nat.mod_lt (n / 64) L0;walk_at "r";rw [decide_eq_false (show ¬ ((1:Nat):Int) = 0 by decide)];walk_at "r";rw [decide_eq_true (show ((1:Nat):Int) = 1 from rfl)];walk_at "r";refine ⟨_,_,rfl,.inl ⟨_,aw.of (e1 _ _ g.top),rfl⟩,?_⟩;rw [length_map,g.len];refine jN (by omega) ?_;walk_at "r";refine ⟨_,_,rfl,.inl ⟨_,aw.of (e1 _ _ g.top),rfl⟩,?_⟩;rw [length_map,g.len];refine jN (by omega) ?_;rw [Lq,cn];walk_at "r";refine ⟨p,as,L,(((n % L.length:Nat):Int),((n / 64 % L.length:Nat):Int)),rfl,g.same e1,im,hn,by dsimp only; omega,by dsimp only; omega,by dsimp only; omega,by dsimp only; omega,fun ok t' Hz M H3 e3 g3 uf pZ bU=>?_,fun no H3 e3 σ' hl=>exc _ σ' H3 none T.m1 (e1.trans e3) no hl⟩;walk_at "r";rw [decide_eq_false (show ¬ ((1:Nat):Int) = 2 by decide)];walk_at "r";rw [decide_eq_false (show ¬ ((1:Nat):Int) = 3 by decide)];walk_at "r";exact q ok t' Hz M H3 (e1.trans e3) g3 uf (fun b hb=>e1.free (pZ b hb)) bU
  ·have hR:R≠[]:=hR.elim id fun z=>by cases z
   obtain ⟨r1,r2,r3,b,hb,b5⟩:=ring hR;have rd:=jM im la (mem_of_getElem? r1);have U2:=h2 rfl;walk_at "r";rw [decide_eq_false (show ¬ ((2:Nat):Int) = 0 by decide)];walk_at "r";rw [decide_eq_false (show ¬ ((2:Nat):Int) = 1 by decide)];walk_at "r";rw [decide_eq_true (show ((2:Nat):Int) = 2 from rfl)];walk_at "r";refine ⟨Nat.zero_le _,fun z hz=>?_⟩;have e2:ah H1 (upd H1 z (.lst [])):=ah.upd hz;have gz:aJ (upd H1 z (.lst [])) z [] []:=⟨ae,rfl,fun i a l h=>by simp at h⟩;generalize upd H1 z (.lst []) = H2 at e2 gz ⊢;refine ⟨cP R,cP [],(g1.same e2).yb,gz.yb,bc _,bc _,?_⟩;rw [if_pos rfl,fo,decide_eq_false hR];walk_at "r";refine ⟨_,_,rfl,.inl ⟨_,aw.of (e2 _ _ (e1 _ _ g.top)),rfl⟩,?_⟩;rw [length_map,g.len];walk_at "r";rw [decide_eq_true (show (L.length:Int) < 12 by omega)];walk_at "r";refine aR (aw.of (e2 _ _ g1.top)) (g1.ix hb) ?_;walk_at "r";refine ⟨b,rD R n,((n / 64:Nat):Int),by rw [Int.natCast_ediv]; rfl,e2 _ _ b5,r3,by omega,by omega,fun cb H3 e3 We Fw=>?_⟩;walk_at "r";have vF:=(e1.trans e2).trans e3;have cl:=lu ((n / 64:Nat):Int) (rD R n).length;refine ⟨p,cb,as,L,R,rD R n,n % max 1 R.length,fv ((n / 64:Nat):Int) (rD R n).length,rfl,g.same vF,im,hn,hd,la,r1,Fw,fun c hc=>List.mem_range.mp (List.mem_filter.mp hc).1,by omega,fun ok t' Hz H4 e4 g4 wc tN=>?_,fun no H4 e4 σ' hl=>exc _ σ' H4 none T.m1 (vF.trans e4) no hl⟩;walk_at "r";rw [decide_eq_false (show ¬ ((2:Nat):Int) = 3 by decide)];walk_at "r";exact q ok t' Hz _ H4 (vF.trans e4) g4 wc (fun b hb=>vF.free (tN b hb)) rfl
  ·have hR:R≠[]:=hR.elim id fun z=>by cases z
   walk_at "r";rw [decide_eq_false (show ¬ ((3:Nat):Int) = 0 by decide)];walk_at "r";rw [decide_eq_false (show ¬ ((3:Nat):Int) = 1 by decide)];walk_at "r";rw [decide_eq_false (show ¬ ((3:Nat):Int) = 2 by decide)];walk_at "r";rw [decide_eq_true (show ((3:Nat):Int) = 3 from rfl)];walk_at "r";refine ⟨Nat.zero_le _,fun z hz=>?_⟩;have e2:ah H1 (upd H1 z (.lst [])):=ah.upd hz;have gz:aJ (upd H1 z (.lst [])) z [] []:=⟨ae,rfl,fun i a l h=>by simp at h⟩;generalize upd H1 z (.lst []) = H2 at e2 gz ⊢;refine ⟨cP R,cP [],(g1.same e2).yb,gz.yb,bc _,bc _,?_⟩;rw [if_pos rfl,fo,decide_eq_false hR];walk_at "r";refine ⟨p,as,L,R,rfl,(g.same e1).same e2,im,hn,hd,la,fun ok t' Hz H3 e3 g3 uf pZ=>?_,fun no H3 e3 σ' hl=>exc _ σ' H3 none T.m2 ((e1.trans e2).trans e3) no hl⟩;walk_at "r";exact q ok t' Hz _ H3 ((e1.trans e2).trans e3) g3 uf (fun b hb=>(e1.trans e2).free (pZ b hb)) rfl
theorem cz:aG ["_law_desk", "_law_orders", "_law_way", "_law_number", "_law_refused_here", "_law_rings_here", "_law_land"] ["_law_desk", "_law_orders", "_law_way", "_law_number"] (ao eT):=⟨rfl,rfl,rfl,by decide +kernel,rfl,by decide +kernel,by decide +kernel⟩
theorem ma (D:Def K mg "_law_refused" eT ["_law_desk", "_law_orders", "_law_way", "_law_number"]) (T:Txt K mg Z) (dN:cw P w K mg base (bo P w) "lands" 3 ["orders"] eQ) (fk:cw P w K mg base (bo P w) "_law_corners" 1 ["_law_ring", "_law_number"] ji) (oS:eI P w K mg base (bo P w) Z.aV "put_tie" 6 ["self", "land", "one", "other"] (xY Z.aV Z.dQ)) (mv:eI P w K mg base (bo P w) Z.aV "take_tie" 6 ["self", "one", "other"] (qy Z.aV Z.dQ)) (lq:eI P w K mg base (bo P w) Z.aV "put_place" 6 ["self", "land", "corners"] (qz Z.aV Z.dQ)) (ju:eI P w K mg base (bo P w) Z.aV "turn_inside" 6 ["self"] (uA Z.aV Z.fK)):cw P w K mg base (bo P w) "_law_refused" 7 ["_law_desk", "_law_orders", "_law_way", "_law_number"] (nh Z.aV):=by
 refine D.dh cz (fun vs H Q E h=>?_) (fun f bN A o s H vs Q E hr h=>?_)
 ·obtain ⟨d,dx,b,t,p,o,ps,qs,as,os,L,R,way,n,rfl,_⟩:=h; rfl
 ·obtain ⟨d,dx,bb,tt,p,o,ps,qs,as,os,L,R,way,n,rfl,k,hl,gp,g,im,L0,hn,hd,la,RD,hR,h2,w3,q,qN⟩:=h;refine ⟨_,(ag (az (i:=4) cz.nd rfl (by walk_at "L") cA)
   (ag (az (i:=5) cz.nd rfl (by walk_at "L") (aA dN hr aX (aa (pv 1) af)))
   (ag (az (i:=6) cz.nd rfl (by walk_at "L") (aD a9 (pv 3) (ar (lA rfl) (by rfl) T.max xE (aa ai (aa (ar aM (by rfl) T.len aQ (aa (pv 5) af)) af)))))
   (ag (wJ (by intro _ _; exact (ag (aZ (PW.pt (pw_and (ax cX (pv 2) ai (aL _)) (pw_and1 (ax (fQ hr.units) (pv 5) (aY af) (aL _))))) (aj (aU (fc oS T.aC hr gN (pv 0) (aa (pv 6) (aa (aD a9 (aD bJ (pv 3) ai) (ar (cE (K:=K) rfl) (by rfl) T.len aQ (aa (aI (dM (K:=K) rfl) (pv 5) (pv 6) (fun _ _=>rfl)) af))) (aa (aD a9 (aD bJ (pv 3) ai) (ar (cE (K:=K) rfl) (by rfl) T.len aQ (aa (aI (dM (K:=K) rfl) (pv 5) (pv 6) (fun _ _=>rfl)) af))) af)))))) aK)
   (ag (aZ (ax cX (pv 2) ai (aL _)) (aj (aU (fc mv T.aC hr gN (pv 0) (aa (aD a9 (pv 3) (ar (cE (K:=K) rfl) (by rfl) T.len aQ (aa (pv 1) af))) (aa (aD a9 (aD bJ (pv 3) ai) (ar (cE (K:=K) rfl) (by rfl) T.len aQ (aa (pv 1) af))) af))))) aK)
   (ag (aZ (PW.pt (pw_and (ax cX (pv 2) ai (aL _)) (pw_and (ax (fQ hr.units) (pv 5) (aY af) (aL _)) (pw_and1 (ax lI (ar (cE (K:=K) rfl) (by rfl) T.len aQ (aa (pv 1) af)) ai (aL _)))))) (aj (aU (fc lq T.aC hr gN (pv 0) (aa (pv 6) (aa (aA fk hr gN (aa (aI (dM (K:=K) rfl) (pv 5) (pv 6) (fun _ _=>rfl)) (aa (aD bJ (pv 3) ai) af))) af))))) aK)
   (aj (aZ (PW.pt (pw_and (ax cX (pv 2) ai (aL _)) (pw_and1 (ax (fQ hr.units) (pv 5) (aY af) (aL _))))) (aj (aU (du ju T.aC hr gN (pv 0)))) aK)))))) pd T.o8 (fun _=>(aj (az (i:=4) cz.nd rfl (by walk_at "L") cA))))
   (aj (aP (pv 4))))))),?_⟩
  dsimp only [b8];walk_at "r";refine ⟨o,os,L,rfl,g,im,hn,hd,fun t bs R' H1 e1 g1 iT gR Oe=>?_⟩;walk_at "r";obtain rfl:R = R':=la.unique Oe;have bl:=g1.len;refine ⟨_,_,rfl,.inl ⟨_,aw.of g1.top,rfl⟩,uI ⟨_,_,rfl,?_⟩⟩;rw [length_map,bl];have mx:(if (R.length:Int) > 1 then (R.length:Int) else 1) = ((max 1 R.length:Nat):Int):=by
   split <;> omega
  rw [mx];have mp:0 < max 1 R.length:=by omega
  refine jN (by omega) ?_;rw [show (n:Int) % ((max 1 R.length:Nat):Int) = ((n % max 1 R.length:Nat):Int) from (Int.natCast_emod _ _).symm];have land:R≠[]->max 1 R.length = R.length:=fun z=>by
   have:=List.length_pos_iff.mpr z;omega
  have ring:R≠[]->R[n % max 1 R.length]? = some (rD R n)/\0 < (rD R n).length/\(rD R n).length<=1000/\∃ b,bs[n % max 1 R.length]? = some b/\H1 b = some (.lst ((rD R n).map V.int)):=fun z=>by
   rw [land z];have lt:=Nat.mod_lt n (List.length_pos_iff.mpr z);have e:R[n % R.length]? = some (rD R n):=by
    unfold rD;rw [getD_eq_getElem?_getD,getElem?_eq_getElem lt]
    rfl
   obtain ⟨b,l,h1,qX,h3⟩:=g1.at lt;rw [e] at qX;cases qX
   have gd:=la.good _ (mem_of_getElem? e);have:=jM im la (mem_of_getElem? e);exact ⟨e,by have:=gd.two; omega,by omega,b,h1,h3⟩
  have exc:∀ (N:Addr) (σ':St) (H':Hp) (dx:Option Addr),PySem.W.exmOne K (.ref N) (.ref Z.fw) = some true->ah H H'->¬ By L R way n->σ'.length = 7->Il K Z.fw (zq (tC (V.bl true)) (lU 4)) { nx:=Df (gP 4) { nx:=fun x H'=>Q V.bQ H',rt:=Q },rt:=Q } σ' (.ref N) dx H':=fun N σ' H' dx hm e no hl=>
   ⟨N,rfl,hm,r_asg (r_c (r_gname (uH (r_var (getElem?_set_self (by omega)) (qN no H' e)))))⟩
  have Lq:∀ l:Nat,(n:Int) / 64 % (l:Int) = ((n / 64 % l:Nat):Int):=fun l=>by rw [Int.natCast_emod,Int.natCast_ediv]; rfl
  have Cv:∀ l:Nat,(n:Int) / 1024 % (l:Int) = ((n / 1024 % l:Nat):Int):=fun l=>by rw [Int.natCast_emod,Int.natCast_ediv]; rfl
  refine r_gname (r_seq (Bb ?_));have w4:way = 0\/way = 1\/way = 2\/way = 3:=by omega
  rcases w4 with rfl | rfl | rfl | rfl
  ·have hR:R≠[]:=hR.elim id fun z=>by cases z
   obtain ⟨r1,r2,r3,b,hb,b5⟩:=ring hR;walk_at "r";rw [decide_eq_true (show ((0:Nat):Int) = 0 from rfl)];walk_at "r";refine ⟨Nat.zero_le _,fun z hz=>?_⟩;have e2:ah H1 (upd H1 z (.lst [])):=ah.upd hz;have gz:aJ (upd H1 z (.lst [])) z [] []:=⟨ae,rfl,fun i a l h=>by simp at h⟩;generalize upd H1 z (.lst []) = H2 at e2 gz ⊢;refine ⟨cP R,cP [],(g1.same e2).yb,gz.yb,bc _,bc _,?_⟩;rw [if_pos rfl,fo,decide_eq_false hR];walk_at "r";have eE:=e1.trans e2;have k2:=k.same eE;refine ⟨d,dx,_,rfl,k2.ins,rfl,?_⟩;walk_at "r";refine aR (aw.of (e2 _ _ g1.top)) (g1.ix hb) ?_;walk_at "r";refine ⟨_,_,rfl,.inl ⟨_,aw.of (e2 _ _ b5),rfl⟩,?_⟩;rw [length_map];refine jN (by omega) ?_;walk_at "r";refine aR (aw.of (e2 _ _ g1.top)) (g1.ix hb) ?_;walk_at "r";refine ⟨_,_,rfl,.inl ⟨_,aw.of (e2 _ _ b5),rfl⟩,?_⟩;rw [length_map];refine jN (by omega) ?_;rw [Lq,Cv];walk_at "r";refine ⟨d,dx,bb,tt,p,ps,qs,as,L,R,rD R n,n % max 1 R.length,_,_,rfl,k2,hl,gp.same eE,im,hn,hd,la,r1,Nat.mod_lt _ r2,Nat.mod_lt _ r2,fun ok=>cI.later (q ok) eE (fun _ h=>h) fun H3 hq=>?_,fun no H3 e3 σ' hl=>exc _ σ' H3 none T.m1 (eE.trans e3) no hl⟩;walk_at "r";rw [decide_eq_false (show ¬ ((0:Nat):Int) = 1 by decide)];walk_at "r";rw [decide_eq_false (show ¬ ((0:Nat):Int) = 2 by decide)];walk_at "r";rw [decide_eq_false (show ¬ ((0:Nat):Int) = 3 by decide)];walk_at "r";exact hq
  ·have cn:(n:Int) % (L.length:Int) = ((n % L.length:Nat):Int):=by rw [Int.natCast_emod]
   have m1:=Nat.mod_lt n L0;have m2:=Nat.mod_lt (n / 64) L0;have k1:=k.same e1;walk_at "r";rw [decide_eq_false (show ¬ ((1:Nat):Int) = 0 by decide)];walk_at "r";rw [decide_eq_true (show ((1:Nat):Int) = 1 from rfl)];walk_at "r";refine ⟨d,dx,_,rfl,k1.ins,rfl,?_⟩;walk_at "r";refine ⟨_,_,rfl,.inl ⟨_,aw.of (e1 _ _ g.top),rfl⟩,?_⟩;rw [length_map,g.len];refine jN (by omega) ?_;walk_at "r";refine ⟨_,_,rfl,.inl ⟨_,aw.of (e1 _ _ g.top),rfl⟩,?_⟩;rw [length_map,g.len];refine jN (by omega) ?_;rw [Lq,cn];walk_at "r";refine ⟨d,dx,bb,tt,p,ps,qs,as,L,(((n % L.length:Nat):Int),((n / 64 % L.length:Nat):Int)),rfl,k1,hl,gp.same e1,im,hn,by dsimp only; omega,by dsimp only; omega,by dsimp only; omega,by dsimp only; omega,fun ok=>cI.later (q ok) e1 (fun _ h=>h) fun H3 hq=>?_,fun no H3 e3 σ' hl=>exc _ σ' H3 none T.m1 (e1.trans e3) no hl⟩;walk_at "r";rw [decide_eq_false (show ¬ ((1:Nat):Int) = 2 by decide)];walk_at "r";rw [decide_eq_false (show ¬ ((1:Nat):Int) = 3 by decide)];walk_at "r";exact hq
  ·have hR:R≠[]:=hR.elim id fun z=>by cases z
   obtain ⟨r1,r2,r3,b,hb,b5⟩:=ring hR;have rd:=jM im la (mem_of_getElem? r1);have U2:=h2 rfl;walk_at "r";rw [decide_eq_false (show ¬ ((2:Nat):Int) = 0 by decide)];walk_at "r";rw [decide_eq_false (show ¬ ((2:Nat):Int) = 1 by decide)];walk_at "r";rw [decide_eq_true (show ((2:Nat):Int) = 2 from rfl)];walk_at "r";refine ⟨Nat.zero_le _,fun z hz=>?_⟩;have e2:ah H1 (upd H1 z (.lst [])):=ah.upd hz;have gz:aJ (upd H1 z (.lst [])) z [] []:=⟨ae,rfl,fun i a l h=>by simp at h⟩;generalize upd H1 z (.lst []) = H2 at e2 gz ⊢;refine ⟨cP R,cP [],(g1.same e2).yb,gz.yb,bc _,bc _,?_⟩;rw [if_pos rfl,fo,decide_eq_false hR];walk_at "r";have eE:=e1.trans e2;have k2:=k.same eE;refine ⟨_,_,rfl,.inl ⟨_,aw.of (e2 _ _ (e1 _ _ g.top)),rfl⟩,?_⟩;rw [length_map,g.len];walk_at "r";rw [decide_eq_true (show (L.length:Int) < 12 by omega)];walk_at "r";refine ⟨d,dx,_,rfl,k2.ins,rfl,?_⟩;walk_at "r";refine aR (aw.of (e2 _ _ g1.top)) (g1.ix hb) ?_;walk_at "r";refine ⟨b,rD R n,((n / 64:Nat):Int),by rw [Int.natCast_ediv]; rfl,e2 _ _ b5,r3,by omega,by omega,fun cb H3 e3 We Fw=>?_⟩;walk_at "r";have vF:=(e1.trans e2).trans e3;have cl:=lu ((n / 64:Nat):Int) (rD R n).length;refine ⟨d,dx,bb,tt,p,cb,ps,qs,as,L,R,rD R n,n % max 1 R.length,fv ((n / 64:Nat):Int) (rD R n).length,rfl,k2.same e3,hl,gp.same vF,im,hn,hd,la,r1,Fw,fun c hc=>List.mem_range.mp (List.mem_filter.mp hc).1,by omega,fun ok=>cI.later (q ok) vF (fun _ h=>h) fun H4 hq=>?_,fun no H4 e4 σ' hl=>exc _ σ' H4 none T.m1 (vF.trans e4) no hl⟩;walk_at "r";rw [decide_eq_false (show ¬ ((2:Nat):Int) = 3 by decide)];walk_at "r";exact hq
  ·have hR:R≠[]:=hR.elim id fun z=>by cases z
   walk_at "r";rw [decide_eq_false (show ¬ ((3:Nat):Int) = 0 by decide)];walk_at "r";rw [decide_eq_false (show ¬ ((3:Nat):Int) = 1 by decide)];walk_at "r";rw [decide_eq_false (show ¬ ((3:Nat):Int) = 2 by decide)];walk_at "r";rw [decide_eq_true (show ((3:Nat):Int) = 3 from rfl)];walk_at "r";refine ⟨Nat.zero_le _,fun z hz=>?_⟩;have e2:ah H1 (upd H1 z (.lst [])):=ah.upd hz;have gz:aJ (upd H1 z (.lst [])) z [] []:=⟨ae,rfl,fun i a l h=>by simp at h⟩;generalize upd H1 z (.lst []) = H2 at e2 gz ⊢;refine ⟨cP R,cP [],(g1.same e2).yb,gz.yb,bc _,bc _,?_⟩;rw [if_pos rfl,fo,decide_eq_false hR];walk_at "r";have eE:=e1.trans e2;have k2:=k.same eE;refine ⟨d,dx,_,rfl,k2.ins,rfl,?_⟩;refine ⟨d,dx,bb,tt,p,ps,qs,as,L,R,rfl,k2,hl,gp.same eE,im,hn,hd,la,fun ok=>cI.later (q ok) eE (fun _ h=>h) fun H3 hq=>?_,fun no H3 e3 σ' hl=>exc _ σ' H3 none T.m2 (eE.trans e3) no hl⟩;walk_at "r";exact hq
theorem eh:aG ["_law_desk", "_law_way", "_law_refused_here"] ["_law_desk", "_law_way"] (ao eS):=⟨rfl,rfl,rfl,by decide +kernel,rfl,by decide +kernel,by decide +kernel⟩
theorem l9 (D:Def K mg "_law_stepped" eS ["_law_desk", "_law_way"]) (T:Txt K mg Z) (vz:eI P w K mg base (bo P w) Z.aV "back" 1 ["self"] (uC Z.aV Z.iN)) (tL:eI P w K mg base (bo P w) Z.aV "again" 1 ["self"] (qA Z.aV Z.iN)):cw P w K mg base (bo P w) "_law_stepped" 2 ["_law_desk", "_law_way"] (ng Z.aV):=by
 refine D.dh eh (fun vs H Q E h=>?_) (fun f bN A o s H vs Q E hr h=>?_)
 ·obtain ⟨d,dx,b,t,p,ps,qs,way,rfl,_⟩:=h; rfl
 ·obtain ⟨d,dx,b,t,p,ps,qs,way,rfl,k,hl,iW,M0,q4,q5⟩:=h;refine ⟨_,(ag (az (i:=2) eh.nd rfl (by walk_at "L") cA)
   (ag (wJ (by intro _ _; exact (aj (aZ (ax cX (pv 1) ai (aL _)) (aj (aU (du vz T.aC hr gN (pv 0)))) (aj (aU (du tL T.aC hr gN (pv 0))))))) pd T.o5 (fun _=>(aj (az (i:=2) eh.nd rfl (by walk_at "L") cA))))
   (aj (aP (pv 2))))),?_⟩
  dsimp only [b8];refine r_seq ?_;walk_at "r";rcases M0 with rfl | rfl
  ·obtain ⟨qE,q⟩:=q4 rfl;rw [decide_eq_true (show ((4:Nat):Int) = 4 from rfl)];walk_at "r";refine ⟨d,dx,_,rfl,k.ins,rfl,?_⟩;refine ⟨d,dx,b,t,p,ps,qs,rfl,k,iW,hl,fun z H' e σ' hs=>⟨_,rfl,T.m3,r_asg (r_c (r_gname (uH (r_var (getElem?_set_self (by rw [hs]; exact (show (2:Nat) < 3 by decide))) (qE z H' e)))))⟩,fun p0 yi z H' o k'=>?_⟩;walk_at "r";exact q p0 yi z H' o k'
  ·obtain ⟨qE,q⟩:=q5 rfl;rw [decide_eq_false (show ¬ ((5:Nat):Int) = 4 by decide)];walk_at "r";refine ⟨d,dx,_,rfl,k.ins,rfl,?_⟩;refine ⟨d,dx,b,t,p,ps,qs,rfl,k,hl,iW,fun z H' e σ' hs=>⟨_,rfl,T.m3,r_asg (r_c (r_gname (uH (r_var (getElem?_set_self (by rw [hs]; exact (show (2:Nat) < 3 by decide))) (qE z H' e)))))⟩,fun p0 yh z H' o k'=>?_⟩;walk_at "r";exact q p0 yh z H' o k'
theorem f9:aG ["_law_desk", "_law_kept", "_law_found", "_law_order"] ["_law_desk", "_law_kept"] (ao ig):=⟨rfl,rfl,rfl,by decide +kernel,rfl,by decide +kernel,by decide +kernel⟩
theorem sO (D:Def K mg "_law_told" ig ["_law_desk", "_law_kept"]) (T:Txt K mg Z) (cN:cw P w K mg base (bo P w) "_law_same" 1 ["_law_one", "_law_other"] jH) (b6:eI P w K mg base (bo P w) Z.aV "orders" 1 ["self"] (f6 Z.aV)):cw P w K mg base (bo P w) "_law_told" 2 ["_law_desk", "_law_kept"] (rX Z.aV):=by
 refine D.dh f9 (fun vs H Q E h=>?_) (fun f bN A o s H vs Q E hr h=>?_)
 ·obtain ⟨d,dx,b,t,p,k,g,q,ps,qs,as,gs,cs,L,i,rfl,_⟩:=h; rfl
 ·obtain ⟨d,dx,b,t,p,k,g,q,ps,qs,as,gs,cs,L,i,rfl,dk,gp,im,hn,hk,hg,hq,gq,fin⟩:=h;have rows:∀ m∈L,m.Nodup/\m.length<=60:=fun m hm=>by
   obtain ⟨j,hj⟩:=List.mem_iff_getElem?.mp hm;have:=bz (im.nd _ _ hj) (n:=L.length) fun y hy=>⟨(im.rg _ _ hj y hy).1,(im.rg _ _ hj y hy).2.1⟩;exact ⟨im.nd _ _ hj,by omega⟩
  refine ⟨_,(ag (az (i:=2) f9.nd rfl (by walk_at "L") (du b6 T.aC hr aX (pv 0)))
   (ag (aZ (PW.pt (pw_or (eZ (eC (ar rG (by rfl) T.isinstance jg (aa (pv 2) (aa (yt (v:=.ty "list") rfl T.list yV rfl) af))))) (pw_or1 (eZ (eC (aA cN hr aX (aa (pv 2) (aa (aI au (aI au (pv 1) ai (fun _ _=>rfl)) (aI au (pv 1) ai (fun _ _=>rfl)) (fun _ _=>rfl)) af)))))))) (aj (aP cA)) aK)
   (ag (bZ PassesOwn.never rfl (bM (pv 2)) (aN (i:=3) f9.nd rfl (by walk_at "L"))
   (ag (aZ (eZ (eC (ar rG (by rfl) T.isinstance jg (aa (pv 3) (aa (yt (v:=.ty "list") rfl T.list yV rfl) af))))) (aj (aP cA)) aK)
   (aj (aU (b7 PySem.F.plainAttrs_list PySem.F.slot_list_append PySem.F.type_list_append bC (pv 3) (aa ai af))))))
   (ag (aU (b7 PySem.F.plainAttrs_list PySem.F.slot_list_append PySem.F.type_list_append bC (pv 2) (aa (aY af) af)))
   (aj (aP (aA cN hr aX (aa (du b6 T.aC hr aX (pv 0)) (aa (aI au (aI au (pv 1) ai (fun _ _=>rfl)) (aI au (pv 1) ai (fun _ _=>rfl)) (fun _ _=>rfl)) af))))))))),?_⟩
  dsimp only [b8];walk_at "r";refine ⟨d,dx,_,rfl,dk.ins,rfl,?_⟩;refine ⟨d,dx,b,t,p,ps,qs,as,L,rfl,dk,gp,hn,fun q1 c1 H1 e1 g1 iT gR=>?_⟩;walk_at "r";refine Be (.lst g1.top) (.ty _) BP ?_;have bU:∀ (i:Nat) (l m:List Int),L[i]? = some l->L[i]? = some m->bA l m:=fun i l m h1 h2=>by rw [h1] at h2; cases h2; exact bA.refl _
  have sk:aw K H1 k [.int (i:Int),.ref g]:=aw.of (e1 _ _ hk);walk_at "r";refine aR (aw.of (e1 _ _ hg)) (show gT (gs.map V.ref) ((i:Nat):Int) = some (.ref q) from eO (by rw [getElem?_map,hq]; rfl)) ?_;refine ⟨q1,q,c1,cs,L,L,rfl,g1,gq.same e1,rfl,fun m hm=>by have:=(rows m hm).2; omega,fun m hm=>⟨(rows m hm).1,by have:=(rows m hm).2; omega⟩,by omega,fun _ H2 e2=>?_,fun no=>absurd bU no⟩;have p8:=e1.trans e2;have g2:=g1.same e2;walk_at "r";refine cW ?_;obtain ⟨nq,Xw⟩:=List.nodup_cons.mp iT;refine ⟨_,rfl,q1,rfl,⟨_,aw.of g2.top⟩,dO (K:=K) (a:=q1) (xs:=c1.map V.ref) (fun j σ H3=>∃ v:Option V,σ = [some (.ref d),some (.ref k),some (.ref q1),v]/\ah H H3/\H3 q1 = some (.lst (c1.map V.ref))/\∀ x∈c1,∃ l:List V,H3 x = some (.lst l)/\l.length<=60 + j)
   ⟨none,rfl,p8,g2.top,fun x hx=>?_⟩ (fun j σ H3 _ ⟨_,_,_,h,_⟩=>aw.of h) ?_ ?_⟩
  ·obtain ⟨j,hj⟩:=List.mem_iff_getElem?.mp hx;have jl:=(List.getElem?_eq_some_iff.mp hj).1;rw [g2.len] at jl;refine ⟨_,g2.row j x L[j] hj (by simp),?_⟩;rw [length_map];have:=(rows L[j] (getElem_mem _)).2;omega
  ·rintro j x σ H3 hx ⟨v,rfl,e3,t3,ls⟩;obtain ⟨y,hy,rfl⟩:∃ y,c1[j]? = some y/\x = V.ref y:=by
    rw [getElem?_map] at hx;cases e:c1[j]? with
    | none=>rw [e] at hx; cases hx
    | some z=>rw [e] at hx; exact ⟨z,rfl,(Option.some.inj hx).symm⟩
   have ym:=mem_of_getElem? hy;have jl:=(List.getElem?_eq_some_iff.mp hy).1;have Wz:=g1.len;obtain ⟨l,hl,ll⟩:=ls y ym;have yq:y≠q1:=fun z=>nq (z▸ym);walk_at "r";refine Be (.lst hl) (.ty _) BP ?_;walk_at "r";refine ⟨.inl ⟨rfl,_,aw.of hl⟩,?_⟩;walk_at "r";refine bV hl (aF (by omega)) ?_;refine ⟨_,rfl,ah.fresh e3 (gR y (mem_cons_of_mem _ ym)),by rw [ak (Ne.symm yq)]; exact t3,fun x hx=>?_⟩;by_cases z:x = y
   ·subst z;exact ⟨_,ae,by rw [length_append]; simp; omega⟩
   ·obtain ⟨l',h1,h2⟩:=ls x hx;exact ⟨l',by rw [ak z]; exact h1,by omega⟩
  ·rintro σ H3 ⟨v,rfl,e3,t3,ls⟩;have Wz:=g1.len;walk_at "r";refine ⟨.inl ⟨rfl,_,aw.of t3⟩,?_⟩;walk_at "r";refine ⟨Nat.zero_le _,fun z hz=>?_⟩;have t4:upd H3 z (.lst []) q1 = some (.lst (c1.map V.ref)):=by rw [ak (aB t3 hz)]; exact t3
   have e4:=e3.trans (ah.upd (o:=.lst []) hz);generalize upd H3 z (.lst []) = H4 at t4 e4 ⊢;refine uI (bV t4 (by rw [length_map]; exact aF (by omega)) ?_);have e5:=ah.fresh (o:=.lst (c1.map V.ref ++ [V.ref z])) e4 (gR q1 mem_cons_self);generalize upd H4 q1 (.lst (c1.map V.ref ++ [V.ref z])) = H5 at e5 ⊢;have Xk:aw K H5 k [.int (i:Int),.ref g]:=aw.of (e5 _ _ hk);walk_at "r";refine ⟨d,dx,_,rfl,e5 _ _ dk.ins,rfl,?_⟩;refine ⟨d,dx,b,t,p,ps,qs,as,L,rfl,dk.same e5,gp.same e5,hn,fun q6 c6 H6 e6 g6 DY Ca=>?_⟩;have Xj:aw K H6 k [.int (i:Int),.ref g]:=aw.of (e6 _ _ (e5 _ _ hk));have PF:=e5.trans e6;walk_at "r";refine aR (aw.of (PF _ _ hg)) (show gT (gs.map V.ref) ((i:Nat):Int) = some (.ref q) from eO (by rw [getElem?_map,hq]; rfl)) ?_;refine ⟨q6,q,c6,cs,L,L,rfl,g6,gq.same PF,rfl,fun m hm=>by have:=(rows m hm).2; omega,fun m hm=>⟨(rows m hm).1,by have:=(rows m hm).2; omega⟩,by omega,fun _ H7 e7=>?_,fun no=>absurd bU no⟩;exact fin _ (PF.trans e7)
theorem Lh {e n:Nat} {L R M:List (List Int)} (o:pA e L) (la:bj L R) (hR:R≠[]) (ok:By L R 0 n) (h:toD L R 0 n M):pA (e + 1) M:=by
 obtain ⟨S,s⟩:=o.sn;have lt:=Nat.mod_lt n (List.length_pos_iff.mpr hR);have hr:rD R n∈R:=by
  unfold rD;rw [getD_eq_getElem?_getD,getElem?_eq_getElem lt];exact getElem_mem _
 obtain ⟨t1,t2⟩:=FQ s (la.good _ hr) ok.1 ok.2;have h:aT M (both L (cy (rD R n) (n / 64 % (rD R n).length)) (cy (rD R n) (n / 1024 % (rD R n).length)) _ _):=h;have sM:=h.sn t1;have ml:M.length = L.length:=by rw [h.1,bP]
 have hd:=h.yM t1.map;rw [bP,t2] at hd;have:=o.pos;have:=o.len;have:=o.AS;exact ⟨sM.map,⟨S,sM⟩,by omega,by omega,by omega⟩
theorem Lg {e n:Nat} {L R M:List (List Int)} (o:pA e L) (ok:By L R 1 n) (h:toD L R 1 n M):pA (e + 1) M:=by
 obtain ⟨S,s⟩:=o.sn;have p:=o.pos;have l1:=Nat.mod_lt n p;have d:Dt L (((n % L.length:Nat):Int),((n / 64 % L.length:Nat):Int)):=⟨by dsimp only; omega,by dsimp only; omega,ok⟩;obtain ⟨S',s'⟩:=s.rem d;have h:aT M (Gm.rem L ((n % L.length:Nat):Int) ((n / 64 % L.length:Nat):Int)):=h;have sM:=h.sn s';have ml:M.length = L.length:=by rw [h.1,cL]
 have hd:=h.yM s'.map;have hd2:=ya o.map d;have:=o.len;have:=o.AS;exact ⟨sM.map,⟨S',sM⟩,by omega,by omega,by omega⟩
theorem Lf {e n:Nat} {L R M:List (List Int)} (o:pA e L) (la:bj L R) (hR:R≠[]) (CS:L.length < 12) (ok:By L R 2 n) (h:toD L R 2 n M):pA (e + 1) M:=by
 obtain ⟨S,s⟩:=o.sn;have lt:=Nat.mod_lt n (List.length_pos_iff.mpr hR);have hr:rD R n∈R:=by
  unfold rD;rw [getD_eq_getElem?_getD,getElem?_eq_getElem lt];exact getElem_mem _
 have nd:(sh 0 (rD R n)).Nodup:=(sublist_flatten_of_mem (List.mem_map.mpr ⟨_,hr,rfl⟩)).nodup la.dec.nd;obtain ⟨p1,p2,p3⟩:xJ (rD R n) (fv ((n / 64:Nat):Int) (rD R n).length):=ok;obtain ⟨k,hk⟩:∃ k,(fv ((n / 64:Nat):Int) (rD R n).length).length = k + 1:=⟨_,(Nat.succ_pred_eq_of_pos (List.length_pos_iff.mpr p1)).symm⟩;obtain ⟨c1,cj,p,_⟩:=Bm s (la.good _ hr) nd k _ hk p2 (fun c hc=>List.mem_range.mp (List.mem_filter.mp hc).1) p3;have h:M = l8 L (rD R n) (fv ((n / 64:Nat):Int) (rD R n).length):=h;subst h;have pl:=uO (L:=L) (r:=rD R n) (fv ((n / 64:Nat):Int) (rD R n).length);have:=p.sh.Ac (by omega);exact ⟨p.sh.map,⟨S,p.sh⟩,by omega,by omega,by omega⟩
theorem Ld {e n:Nat} {L R M:List (List Int)} (he:e < 24) (o:pA e L) (la:bj L R) (hR:R≠[]) (ke:eJ L [0]) (ok:By L R 3 n) (h:toD L R 3 n M):pA (e + 1) M:=by
 obtain ⟨S,s⟩:=o.sn;have gS:mC (Du R):=ok;have h:M = Du R:=h;subst h;obtain ⟨r,hr⟩:=exists_mem_of_ne_nil R hR;have d0:=(la.good r hr).dt 0;have two:2<=L.length:=by
  obtain ⟨b0,b1,b2,_⟩:=d0.back o.map;have:=d0.lo;have:=d0.hi;omega
 have lH:bY L:=(s.ke ke o.pos).lH two;have dm:=tQ la o.map gS;have D:vY L R:=⟨o.map,la,gS,fun x x0 x1=>by
  have ix:=lH.Ee;have row:=ay x0 x1;cases e1:rowOf L x with
  | nil=>
   unfold iso at ix;have:=List.countP_eq_zero.mp ix [] (by rw [e1] at row; exact mem_of_getElem? row);simp at this
  | cons y t=>
   cases t with
   | cons z t=>simp
   | nil=>
    exfalso;have dx:Dt L (x,y):=⟨x0,x1,by rw [e1]; simp⟩;obtain ⟨b0,b1,b2,b3⟩:=dx.back o.map;have dy:Dt L (y,x):=⟨b0,b1,b3⟩;have UA:nx L (y,x) = (x,y):=by
     unfold nx;refine Prod.ext rfl ?_;show pre (rowOf L x) y = y;rw [e1];unfold pre cy;simp [Nat.mod_one]
    have l1:=BI la dy;rw [UA] at l1;obtain ⟨_,_,z,_⟩:=(rz la o.map dy).back dm;exact z l1⟩
 have sn:=D.sn lH;have rf:=zx o.map la.dec;rw [length_map] at rf;have l2:=gE (R:=R);have e1:=bp dm;have e2:=bp o.map;have e3:=D.ck;have:=o.AS;have:=List.length_pos_iff.mpr hR;exact ⟨dm,⟨_,sn⟩,by omega,by omega,by omega⟩
theorem Ez:CJ:=fun e L R M way n he o la hR CS w3 ke ok h=>by
 match way,hR,CS,w3,ke,ok,h with
 | 0,hR,_,_,_,ok,h=>exact Lh o la (hR.elim id fun z=>by cases z) ok h
 | 1,_,_,_,_,ok,h=>exact Lg o ok h
 | 2,hR,CS,_,_,ok,h=>exact Lf o la (hR.elim id fun z=>by cases z) (CS rfl) ok h
 | 3,hR,_,_,ke,ok,h=>exact Ld (n:=n) he o la (hR.elim id fun z=>by cases z) (ke rfl) ok h
 | (k + 4),_,_,w3,_,_,_=>omega
theorem SO {C:Addr} {H H1 H2:Hp} {d dx b t p k a:Addr} {ps qs:List Addr} {o:HO} (k2:jC C H2 d dx b t p ps qs) (o2:aE [d,b,t] H1 H2) (h:∃ o,H a = some o) (e1:ah H H1):∃ o',upd H2 k o a = some o':=by
 obtain ⟨o',e⟩:=h;by_cases z:a = k
 ·rw [z]; exact ⟨_,ae⟩
 ·rw [ak z];by_cases z1:a = d
  ·rw [z1]; exact ⟨_,k2.ins⟩
  ·by_cases z2:a = b
   ·rw [z2]; exact ⟨_,k2.bh⟩
   ·by_cases z3:a = t
    ·rw [z3]; exact ⟨_,k2.tk⟩
    ·exact ⟨_,o2 _ _ (by simp [z1,z2,z3]) (e1 _ _ e)⟩
theorem cR:aG ["_law_desk", "_law_kept", "_law_number", "_law_way", "_law_orders", "_law_to", "_law_refused_here", "_law_made_here"] ["_law_desk", "_law_kept", "_law_number"] (ao iu):=⟨rfl,rfl,rfl,by decide +kernel,rfl,by decide +kernel,by decide +kernel⟩
theorem sR (Li:CJ) (D:Def K mg "_law_done" iu ["_law_desk", "_law_kept", "_law_number"]) (T:Txt K mg Z) (dN:cw P w K mg base (bo P w) "lands" 3 ["orders"] eQ) (cN:cw P w K mg base (bo P w) "_law_same" 1 ["_law_one", "_law_other"] jH) (vx:cw P w K mg base (bo P w) "_law_made" 6 ["_law_orders", "_law_way", "_law_number"] xW) (oO:cw P w K mg base (bo P w) "_law_refused" 7 ["_law_desk", "_law_orders", "_law_way", "_law_number"] (nh Z.aV)) (oN:cw P w K mg base (bo P w) "_law_stepped" 2 ["_law_desk", "_law_way"] (ng Z.aV)) (tI:cw P w K mg base (bo P w) "_law_hangs" 1 ["_law_orders"] uy) (b6:eI P w K mg base (bo P w) Z.aV "orders" 1 ["self"] (f6 Z.aV)):cw P w K mg base (bo P w) "_law_done" 8 ["_law_desk", "_law_kept", "_law_number"] (sf Z.aV):=by
 refine D.dh cR (fun vs H Q E h=>?_) (fun f bN A o s H vs Q E hr h=>?_)
 ·obtain ⟨d,b,t,k,M,Ls,i,e,n,rfl,_⟩:=h; rfl
 ·obtain ⟨d,b,t,k,M,Ls,i,e,n,rfl,sd,JC,he,XX,RD,q⟩:=h;obtain ⟨dx,p,ps,qs,g,gs,L,dk,hk,hg,gM,hL,⟨as,gp,np⟩,fg,fp,fq⟩:=sd.ex;obtain ⟨o,ho,os,go,no⟩:=fg.at hL;have ue:=JC L (mem_of_getElem? hL);have i1:=(List.getElem?_eq_some_iff.mp hL).1;have sk:aw K H k [.int (i:Int),.ref g]:=aw.of hk;have gl:=fg.len;have pl:=fp.len;have ql:=fq.len;rw [length_take] at pl;rw [length_reverse,length_drop] at ql;have QB:∀ {a:Addr},a∈[d,b,t]->a∈[d,b,t,k]:=fun h=>by
   simp only [mem_cons,not_mem_nil,or_false] at h ⊢;rcases h with h | h | h
   ·exact .inl h
   ·exact .inr (.inl h)
   ·exact .inr (.inr (.inl h))
  refine ⟨_,(ag (az (i:=3) cR.nd rfl (by walk_at "L") (aD a9 (pv 2) ai))
   (ag (az (i:=4) cR.nd rfl (by walk_at "L") (aI au (aI au (pv 1) ai (fun _ _=>rfl)) (aI au (pv 1) ai (fun _ _=>rfl)) (fun _ _=>rfl)))
   (ag (aZ (ax Bs (pv 3) ai (aL _)) (ag (az (i:=5) cR.nd rfl (by walk_at "L") (aD dG (aI au (pv 1) ai (fun _ _=>rfl)) (aI au (aY (aa (Fg AN ai) (aa ai af))) (aD gu (pv 3) ai) (fun _ _=>rfl))))
   (ag (az (i:=6) cR.nd rfl (by walk_at "L") (aA oN hr aX (aa (pv 0) (aa (pv 3) af))))
   (ag (aZ (ax jf (pv 6) (Jy (jT lI (pv 5) ai (aL _)) (Gx (jT Bt (pv 5) (ar aM (by rfl) T.len aQ (aa (aI au (pv 1) ai (fun _ _=>rfl)) af)) (aL _)))) (aL _)) (aj (aP cA)) aK)
   (ag (aZ (eZ (eC (pv 6))) (aj (kH (pv 5) (kO (pv 1) ai set_list))) aK)
   (aj (aP cA)))))) aK)
   (ag (aZ (PW.pt (pw_and (ax cX (pv 3) ai (aL _)) (pw_and1 (eZ (eC (aA tI hr aX (aa (pv 4) af))))))) (aj (aP cA)) aK)
   (ag (aZ (PW.pt (pw_or (PW.pt (pw_and (ax (Bu hr.units) (aA dN hr aX (aa (pv 4) af)) (aY af) (aL _)) (pw_and1 (ax jf (pv 3) ai (aL _))))) (pw_or1 (PW.pt (pw_and (ax cX (pv 3) ai (aL _)) (pw_and1 (ax Bt (ar aM (by rfl) T.len aQ (aa (pv 4) af)) ai (aL _)))))))) (aj (aP cA)) aK)
   (ag (az (i:=7) cR.nd rfl (by walk_at "L") (aA vx hr aX (aa (pv 4) (aa (pv 3) (aa (aD bJ (pv 2) ai) af)))))
   (ag (aZ (ax jf (aA oO hr aX (aa (pv 0) (aa (pv 4) (aa (pv 3) (aa (aD bJ (pv 2) ai) af))))) (Gy (Gz (pv 7))) (aL _)) (aj (aP cA)) aK)
   (ag (aZ (sF (DP (pv 7))) (ag (kH (aD jt (bH dA (aI au (pv 1) ai (fun _ _=>rfl)) bE (cS (aD dG (aI au (pv 1) ai (fun _ _=>rfl)) ai))) (aY (aa (du b6 T.aC hr aX (pv 0)) af))) (kO (pv 1) ai set_list))
   (ag (kH (aD dG (aI au (pv 1) ai (fun _ _=>rfl)) ai) (kO (pv 1) ai set_list))
   (aj (aP (aA cN hr aX (aa (aI au (aI au (pv 1) ai (fun _ _=>rfl)) (Fg AN ai) (fun _ _=>rfl)) (aa (pv 7) af))))))) aK)
   (aj (aP cA)))))))))),?_⟩
  dsimp only [b8];walk_at "r";refine aR (aw.of hg) (show gT (gs.map V.ref) ((i:Nat):Int) = some (.ref o) from eO (by rw [getElem?_map,ho]; rfl)) ?_;rw [show (n:Int) % 6 = ((n % 6:Nat):Int) by rw [Int.natCast_emod]; rfl];have w6:=Nat.mod_lt n (show 0 < 6 by decide);generalize hw:n % 6 = way at w6 ⊢;walk_at "r";have same:∀ {H':Hp},ah H H'->Q (.bl true) H':=fun e'=>q _ M t Ls i (aE.of e') (fun a h=>.inl h) (fun a h=>h) (.inl rfl) (sd.keep (W:=[]) (aE.of e') (by simp) (fun a h=>.inl h) (fun a h=>h) (by simp) fun a h=>let ⟨o,z⟩:=sd.al a h; ⟨o,e' _ _ z⟩) (fun L hL=>(JC L hL).more) (Nat.le_succ _);refine if2 (fun w3=>?_) (fun w3=>?_)
  ·walk_at "r";intro z hz;have e1:ah H (upd H z (.lst [.int (-1),.int 1])):=ah.upd hz;have sz:aw K (upd H z (.lst [.int (-1),.int 1])) z [.int (-1),.int 1]:=aw.of ae;generalize upd H z (.lst [.int (-1),.int 1]) = H1 at e1 sz ⊢;have M0:way = 4\/way = 5:=by omega
   rcases M0 with rfl | rfl
   ·refine r_op (r_var rfl (r_c (qJ (aR sz (show gT [V.int (-1),V.int 1] (((4:Nat):Int) - 4) = some (V.int (-1)) from rfl) (qJ ?_)))));walk_at "r";refine ⟨d,dx,b,t,p,ps,qs,4,rfl,dk.same e1,by omega,by omega,.inl rfl,fun _=>⟨fun pz H2 e2=>?_,fun p0 yi pz H2 o2 k2=>?_⟩,fun z=>by cases z⟩
    ·have i0:i = 0:=by rw [pz] at pl; simp at pl; omega
     subst i0;have eE:=e1.trans e2;walk_at "r";rw [decide_eq_true (show ((0:Nat):Int) + -1 < 0 by decide)];walk_at "r";refine ⟨rfl,?_⟩;rw [decide_eq_true rfl];walk_at "r";exact same eE
    ·obtain ⟨j,rfl⟩:∃ j,i = j + 1:=⟨i - 1,by rw [pz] at pl; simp at pl; omega⟩;have lQ:H2 k = some (.lst [.int ((j + 1:Nat):Int),.ref g]):=o2 _ _ (by simp [sd.kd,sd.kb,sd.kt]) (e1 _ _ hk);have gW:g∉[d,b,t,k]:=fun z=>gM (sd.mem g z);have Hc:H2 g = some (.lst (gs.map V.ref)):=o2 _ _ (fun z=>gW (QB z)) (e1 _ _ hg);have QW:aw K H2 k [.int ((j + 1:Nat):Int),.ref g]:=aw.of lQ;rw [show ((j + 1:Nat):Int) + -1 = (j:Int) by omega];walk_at "r";rw [decide_eq_false (show ¬ (j:Int) < 0 by omega)];walk_at "r";refine ⟨_,_,rfl,.inl ⟨_,aw.of Hc,rfl⟩,?_⟩;rw [length_map,gl];walk_at "r";rw [decide_eq_false (show ¬ (Ls.length:Int)<=(j:Int) by omega)];refine ⟨rfl,?_⟩;rw [decide_eq_true rfl];walk_at "r";refine jq (r_var rfl (r_c ⟨k,_,0,0,rfl,rfl,lQ,rfl,?_⟩));walk_at "r";have MD:Ls[j]? = some Ls[j]:=by simp
     rw [take_snoc MD,pz] at fp;obtain ⟨bs,b0,eb,Wd,Wc⟩:=fp.snoc_inv;obtain ⟨rfl,e0⟩:=append_inj' eb rfl;cases e0
     have Wb:(Ls.drop (j + 1)).reverse = (Ls.drop (j + 1 + 1)).reverse ++ [L]:=by rw [drop_eq_getElem_cons (by omega:j + 1 < Ls.length),reverse_cons,show Ls[j + 1] = L from by
      have:=getElem?_eq_getElem (show j + 1 < Ls.length by omega);rw [hL] at this;exact (Option.some.inj this).symm]
     have so:aE [d,b,t,k] H (upd H2 k (.lst ([V.int ((j + 1:Nat):Int),V.ref g].set 0 (.int (j:Int))))):=fun a o' na ha=>by
      simp only [mem_cons,not_mem_nil,or_false,not_or] at na;rw [ak na.2.2.2];exact o2 _ _ (by simp; exact ⟨na.1,na.2.1,na.2.2.1⟩) (e1 _ _ ha)
     have keep:∀ p L,fJ M H p L->fJ M (upd H2 k (.lst ([V.int ((j + 1:Nat):Int),V.ref g].set 0 (.int (j:Int))))) p L:=fun p L o=>o.keep so sd.mem fun a h=>.inl h;have P4:∀ a∈M,∃ o',upd H2 k (.lst ([V.int ((j + 1:Nat):Int),V.ref g].set 0 (.int (j:Int)))) a = some o':=fun a ha=>SO k2 o2 (sd.al a ha) e1;refine q _ M t Ls j so (fun a h=>.inl h) (fun a h=>h) (.inl rfl) ⟨⟨dx,p0,yi,qs ++ [p],g,gs,Ls[j],k2.off (M:=[k]) (aE.upd (by simp)) (by simp; exact ⟨Ne.symm sd.kd,Ne.symm sd.kb,Ne.symm sd.kt⟩),ae,by rw [ak (fun z=>gW (by simp [z]))]; exact Hc,gM,MD,keep _ _ Wc,fg.imp keep,Wd.imp keep,?_⟩,sd.mem,P4,sd.kd,sd.kb,sd.kt⟩ (fun L hL=>(JC L hL).more) (Nat.le_succ _);rw [Wb];exact (fq.imp keep).append (.cons (keep _ _ ⟨as,gp,np⟩) .nil)
   ·refine r_op (r_var rfl (r_c (qJ (aR sz (show gT [V.int (-1),V.int 1] (((5:Nat):Int) - 4) = some (V.int 1) from rfl) (qJ ?_)))));walk_at "r";refine ⟨d,dx,b,t,p,ps,qs,5,rfl,dk.same e1,by omega,by omega,.inr rfl,(fun z=>by cases z),fun _=>⟨fun pz H2 e2=>?_,fun p0 yh pz H2 o2 k2=>?_⟩⟩
    ·have il:Ls.length = i + 1:=by rw [pz] at ql; simp at ql; omega
     have eE:=e1.trans e2;have QW:aw K H2 k [.int (i:Int),.ref g]:=aw.of (eE _ _ hk);walk_at "r";rw [decide_eq_false (show ¬ (i:Int) + 1 < 0 by omega)];walk_at "r";refine ⟨_,_,rfl,.inl ⟨_,aw.of (eE _ _ hg),rfl⟩,?_⟩;rw [length_map,gl];walk_at "r";rw [decide_eq_true (show (Ls.length:Int)<=(i:Int) + 1 by omega)];refine ⟨rfl,?_⟩;rw [decide_eq_true rfl];walk_at "r";exact same eE
    ·have il:i + 1 < Ls.length:=by rw [pz] at ql; simp at ql; omega
     have lQ:H2 k = some (.lst [.int (i:Int),.ref g]):=o2 _ _ (by simp [sd.kd,sd.kb,sd.kt]) (e1 _ _ hk);have gW:g∉[d,b,t,k]:=fun z=>gM (sd.mem g z);have Hc:H2 g = some (.lst (gs.map V.ref)):=o2 _ _ (fun z=>gW (QB z)) (e1 _ _ hg);have QW:aw K H2 k [.int (i:Int),.ref g]:=aw.of lQ;rw [show (i:Int) + 1 = ((i + 1:Nat):Int) by omega];walk_at "r";rw [decide_eq_false (show ¬ ((i + 1:Nat):Int) < 0 by omega)];walk_at "r";refine ⟨_,_,rfl,.inl ⟨_,aw.of Hc,rfl⟩,?_⟩;rw [length_map,gl];walk_at "r";rw [decide_eq_false (show ¬ (Ls.length:Int)<=((i + 1:Nat):Int) by omega)];refine ⟨rfl,?_⟩;rw [decide_eq_true rfl];walk_at "r";refine jq (r_var rfl (r_c ⟨k,_,0,0,rfl,rfl,lQ,rfl,?_⟩));walk_at "r";have MD:Ls[i + 1]? = some Ls[i + 1]:=by simp
     rw [drop_eq_getElem_cons il,reverse_cons,pz] at fq;obtain ⟨bs,b0,eb,Wa,V9⟩:=fq.snoc_inv;obtain ⟨rfl,e0⟩:=append_inj' eb rfl;cases e0
     have so:aE [d,b,t,k] H (upd H2 k (.lst ([V.int (i:Int),V.ref g].set 0 (.int ((i + 1:Nat):Int))))):=fun a o' na ha=>by
      simp only [mem_cons,not_mem_nil,or_false,not_or] at na;rw [ak na.2.2.2];exact o2 _ _ (by simp; exact ⟨na.1,na.2.1,na.2.2.1⟩) (e1 _ _ ha)
     have keep:∀ p L,fJ M H p L->fJ M (upd H2 k (.lst ([V.int (i:Int),V.ref g].set 0 (.int ((i + 1:Nat):Int))))) p L:=fun p L o=>o.keep so sd.mem fun a h=>.inl h;have P4:∀ a∈M,∃ o',upd H2 k (.lst ([V.int (i:Int),V.ref g].set 0 (.int ((i + 1:Nat):Int)))) a = some o':=fun a ha=>SO k2 o2 (sd.al a ha) e1;refine q _ M t Ls (i + 1) so (fun a h=>.inl h) (fun a h=>h) (.inl rfl) ⟨⟨dx,p0,ps ++ [p],yh,g,gs,Ls[i + 1],k2.off (M:=[k]) (aE.upd (by simp)) (by simp; exact ⟨Ne.symm sd.kd,Ne.symm sd.kb,Ne.symm sd.kt⟩),ae,by rw [ak (fun z=>gW (by simp [z]))]; exact Hc,gM,MD,keep _ _ V9,fg.imp keep,?_,Wa.imp keep⟩,sd.mem,P4,sd.kd,sd.kb,sd.kt⟩ (fun L hL=>(JC L hL).more) (Nat.le_succ _);rw [take_snoc hL];exact (fp.imp keep).append (.cons (keep _ _ ⟨as,gp,np⟩) .nil)
  ·refine sx ?_;dsimp only;have Iu:way<=3:=by omega
   have ck:=ue.ck (by omega);have len:=ue.len;refine r_seq (Bf (fun H'=>ah H H') (fun H'=>ah H H'/\(way = 3->eJ L [0])) (fun H1 e1=>?_) (fun H1 ⟨e1,ke⟩=>?_) (fun RR yes DW=>?_))
   ·walk_at "r";exact same e1
   ·refine sx ?_;dsimp only;refine r_seq (Bf (fun H'=>ah H H') (fun H'=>ah H H'/\∃ R,bj L R/\(R≠[]\/way = 1)/\(way = 2->L.length < 12)) (fun H2 e2=>?_) (fun H2 ⟨e2,R,la,hR,CS⟩=>?_) (fun RR yes DW=>?_))
    ·walk_at "r";exact same e2
    ·refine sx ?_;dsimp only;walk_at "r";have n8:(n:Int) / 8 = ((n / 8:Nat):Int):=by rw [Int.natCast_ediv]; rfl
     rw [n8];refine ⟨o,os,L,R,way,n / 8,rfl,go.same e2,ue.map,ue.pos,by omega,ck,la,by omega,hR,CS,Iu,fun ok tm bm X H3 e3 g3 uf pZ RT=>?_,fun N0 H3 e3=>?_⟩
     ·have Ae:=e2.trans e3;walk_at "r";rw [n8];refine ⟨d,dx,b,t,p,o,ps,qs,as,os,L,R,way,n / 8,rfl,dk.same Ae,by omega,gp.same Ae,go.same Ae,ue.map,ue.pos,by omega,ck,la,by omega,hR,CS,Iu,fun _ t' p' mw Y H4 QS Ka UC k4 g4 wc tN QD=>?_,fun N0=>absurd ok N0⟩;dsimp only;have so:=(aE.of (M:=[d,b]) Ae).trans QS;have OY:H4 k = some (.lst [.int (i:Int),.ref g]):=so _ _ (by simp [sd.kd,sd.kb]) hk;have gW:g∉[d,b,t,k]:=fun z=>gM (sd.mem g z);have V2:g∉[d,b]:=fun z=>gW (by simp only [mem_cons,not_mem_nil,or_false] at z ⊢; rcases z with z | z; exact .inl z; exact .inr (.inl z));have VM:H4 g = some (.lst (gs.map V.ref)):=so _ _ V2 hg;have QV:aw K H4 k [.int (i:Int),.ref g]:=aw.of OY;have NV:pA (e + 1) Y:=Li e L R Y way (n / 8) he ue la hR CS Iu ke ok QD;have V4:aJ H4 tm bm X:=g3.off QS fun a ha z=>by
       have f:=pZ a ha;simp only [mem_cons,not_mem_nil,or_false] at z;rcases z with z | z
       ·rw [z,e2 _ _ dk.ins] at f; cases f
       ·rw [z,e2 _ _ dk.bh] at f; cases f
      walk_at "r";rw [decide_eq_false (fun z=>by cases z)];refine ⟨rfl,?_⟩;rw [decide_eq_true rfl];walk_at "r";rw [decide_eq_false (fun z=>by cases z)];refine r_op (yd (r_op (r_var rfl (r_c (aR QV rfl ?_)))));dsimp only [dz,m9];refine r_op (r_op (r_var rfl (r_c (aR QV rfl (r_c (qJ ⟨_,rfl,g,_,rfl,aw.of VM,fun a1 VY=>?_⟩))))));rw [EB (by omega)];have e5:ah H4 (upd H4 a1 (.lst ((gs.take (i + 1)).map V.ref))):=ah.upd VY;have h5:upd H4 a1 (.lst ((gs.take (i + 1)).map V.ref)) a1 = some (.lst ((gs.take (i + 1)).map V.ref)):=ae;generalize upd H4 a1 (.lst ((gs.take (i + 1)).map V.ref)) = H5 at e5 h5 ⊢;dsimp only;walk_at "r";refine ⟨d,dx,_,rfl,e5 _ _ k4.ins,rfl,?_⟩;have U1:=NV.len;refine ⟨d,dx,b,t',p',ps ++ [p],[],mw,Y,rfl,k4.same e5,g4.same e5,by omega,fun q6 c6 H6 e6 g6 DY Ca=>?_⟩;walk_at "r";refine ⟨by rw [PySem.sizeLine_eq]; simp,fun a2 Ik=>?_⟩;have e7:ah H6 (upd H6 a2 (.lst [.ref q6])):=ah.upd Ik;have h7:upd H6 a2 (.lst [.ref q6]) a2 = some (.lst [.ref q6]):=ae;generalize upd H6 a2 (.lst [.ref q6]) = H7 at e7 h7 ⊢;refine ⟨a1,a2,_,_,rfl,rfl,e7 _ _ (e6 _ _ h5),h7,by rw [length_map,length_take,PySem.sizeLine_eq]; simp; omega,fun a3 KG=>?_⟩;have e8:ah H7 (upd H7 a3 (.lst ((gs.take (i + 1)).map V.ref ++ [.ref q6]))):=ah.upd KG;have h8:upd H7 a3 (.lst ((gs.take (i + 1)).map V.ref ++ [.ref q6])) a3 = some (.lst ((gs.take (i + 1)).map V.ref ++ [.ref q6])):=ae;generalize upd H7 a3 (.lst ((gs.take (i + 1)).map V.ref ++ [.ref q6])) = H8 at e8 h8 ⊢;have Fz:=((e5.trans e6).trans e7).trans e8;have VI:=Fz _ _ OY;have WE:a3≠k:=fun z=>by rw [z,e7 _ _ (e6 _ _ (e5 _ _ OY))] at KG; cases KG
      refine jq (r_var rfl (r_c ⟨k,_,1,1,rfl,rfl,VI,rfl,?_⟩));have TH:aw K (upd H8 k (.lst ([V.int (i:Int),V.ref g].set 1 (.ref a3)))) k [.int (i:Int),.ref a3]:=aw.of ae;have R3:upd H8 k (.lst ([V.int (i:Int),V.ref g].set 1 (.ref a3))) k = some (.lst [.int (i:Int),.ref a3]):=ae;have o9:aE [k] H8 (upd H8 k (.lst ([V.int (i:Int),V.ref g].set 1 (.ref a3)))):=aE.upd (by simp);generalize upd H8 k (.lst ([V.int (i:Int),V.ref g].set 1 (.ref a3))) = H9 at TH R3 o9 ⊢;walk_at "r";refine jq (r_var rfl (r_c ⟨k,_,0,0,rfl,rfl,R3,rfl,?_⟩));have Nu:aw K (upd H9 k (.lst ([V.int (i:Int),V.ref a3].set 0 (.int ((i:Int) + 1))))) k [.int ((i:Int) + 1),.ref a3]:=aw.of ae;have Ha:upd H9 k (.lst ([V.int (i:Int),V.ref a3].set 0 (.int ((i:Int) + 1)))) k = some (.lst [.int ((i:Int) + 1),.ref a3]):=ae;have Rk:aE [k] H9 (upd H9 k (.lst ([V.int (i:Int),V.ref a3].set 0 (.int ((i:Int) + 1))))):=aE.upd (by simp);generalize upd H9 k (.lst ([V.int (i:Int),V.ref a3].set 0 (.int ((i:Int) + 1)))) = MX at Nu Ha Rk ⊢;have wN:=o9.trans Rk;have Sl:=wN _ _ (by simpa using WE) h8;walk_at "r";refine aR (aw.of Sl) (show gT _ (-1) = some (V.ref q6) from Cz _ _) ?_;have SN:∀ a∈M,∃ o',H4 a = some o':=fun a ha=>by
       obtain ⟨o',z⟩:=sd.al a ha;by_cases z1:a = d
       ·rw [z1]; exact ⟨_,k4.ins⟩
       ·by_cases z2:a = b
        ·rw [z2]; exact ⟨_,k4.bh⟩
        ·exact ⟨_,so _ _ (by simp [z1,z2]) z⟩
      have DX:∀ (Hx:Hp) (a:Addr),(∀ x∈M,∃ o',Hx x = some o')->Hx a = none->a∉M:=fun Hx a al z h=>by
       obtain ⟨o',y⟩:=al a h;rw [z] at y; cases y
      have kM:=sd.mem k (by simp);have k8:=(k4.same Fz);have nk:∀ a∈[d,b,t'],a∉[k]:=fun a ha z=>by
       have z:=List.mem_singleton.mp z;subst z;simp only [mem_cons,not_mem_nil,or_false] at ha;rcases ha with z | z | z
       ·exact sd.kd z
       ·exact sd.kb z
       ·rw [<- z,Ae _ _ hk] at Ka; cases Ka
      have U6:=k8.off wN nk;have SM:∀ x∈M,∃ o',H5 x = some o':=fun x hx=>let ⟨o',z⟩:=SN x hx; ⟨o',e5 _ _ z⟩
      have n6:∀ a∈q6 :: c6,a∉M:=fun a ha=>DX H5 a SM (Ca a ha);have Sq:aJ MX q6 c6 Y:=((g6.same e7).same e8).off wN fun a ha z=>n6 a ha (by rw [List.mem_singleton.mp z]; exact kM);have n3:∀ a∈tm :: bm,a∉M:=fun a ha=>DX H2 a (fun x hx=>let ⟨o',z⟩:=sd.al x hx; ⟨o',e2 _ _ z⟩) (pZ a ha);have Pq:aJ MX tm bm X:=(V4.same Fz).off wN fun a ha z=>n3 a ha (by rw [List.mem_singleton.mp z]; exact kM);have Uw:pA (e + 1) X:=Li e L R X way (n / 8) he ue la hR CS Iu ke ok RT;have bU:=C8 RT QD;have rowsOf:∀ {Z:List (List Int)},pA (e + 1) Z->∀ m∈Z,m.Nodup/\m.length<=1000:=fun oz m hm=>by
       obtain ⟨j,hj⟩:=List.mem_iff_getElem?.mp hm;have:=bz (oz.map.nd _ _ hj) (n:=_) fun y hy=>⟨(oz.map.rg _ _ hj y hy).1,(oz.map.rg _ _ hj y hy).2.1⟩;have:=oz.len;exact ⟨oz.map.nd _ _ hj,by omega⟩
      walk_at "r";refine ⟨q6,tm,c6,bm,Y,X,rfl,Sq,Pq,bU.1,fun m hm=>(rowsOf NV m hm).2,fun m hm=>rowsOf Uw m hm,by omega,fun _ ES ug=>?_,fun no=>absurd bU.2 no⟩;have QR:aE [d,b,t,k] H ES:=fun a o' na ha=>by
       simp only [mem_cons,not_mem_nil,or_false,not_or] at na;exact ug _ _ (wN _ _ (by simpa using na.2.2.2) (Fz _ _ (so _ _ (by simp; exact ⟨na.1,na.2.1⟩) ha)))
      have RU:H t' = none:=Ae.free Ka;have mT:∀ a∈t' :: M,a∈M\/H a = none:=fun a ha=>(List.mem_cons.mp ha).elim (fun z=>.inr (z▸RU)) .inl;have RJ:=U6.same ug;have P5:∀ a∈t' :: M,∃ o',ES a = some o':=fun a ha=>by
       rcases List.mem_cons.mp ha with z | z
       ·rw [z]; exact ⟨_,RJ.tk⟩
       ·by_cases y:a = k
        ·rw [y]; exact ⟨_,ug _ _ Ha⟩
        ·obtain ⟨o',w⟩:=SN a z;exact ⟨_,ug _ _ (wN _ _ (by simpa using y) (Fz _ _ w))⟩
      have keep:∀ p L,fJ M H p L->fJ (t' :: M) ES p L:=fun p L o=>o.keep QR sd.mem mT;have QP:∀ {a:Addr},H4 a = none->a≠t':=fun h z=>by rw [z,k4.tk] at h; cases h
      have o6:fJ (t' :: M) ES q6 Y:=⟨c6,Sq.same ug,fun a ha z=>by
       rcases List.mem_cons.mp z with z | z
       ·exact QP (e5.free (Ca a ha)) z
       ·exact n6 a ha z⟩
      have p4:∀ a∈p' :: mw,a∉M:=fun a ha=>DX H3 a (fun x hx=>let ⟨o',z⟩:=sd.al x hx; ⟨o',Ae _ _ z⟩) (tN a ha);have oP:fJ (t' :: M) ES p' Y:=⟨mw,((g4.same Fz).off wN fun a ha z=>p4 a ha (by rw [List.mem_singleton.mp z]; exact kM)).same ug,fun a ha z=>by
       rcases List.mem_cons.mp z with z | z
       ·exact UC (z▸ha)
       ·exact p4 a ha z⟩
      have Mj:(Ls.take (i + 1)).length = i + 1:=by rw [length_take]; omega
      refine q ES (t' :: M) t' (Ls.take (i + 1) ++ [Y]) (i + 1) QR mT (fun a h=>mem_cons_of_mem _ h) (.inr RU) ⟨⟨dx,p',ps ++ [p],[],a3,gs.take (i + 1) ++ [q6],Y,RJ,ug _ _ Ha,by rw [map_append]; exact ug _ _ Sl,fun z=>?_,by rw [getElem?_append_right (by omega),Mj,Nat.sub_self]; rfl,oP,((fg.imp keep).take (i + 1)).append (.cons o6 .nil),?_,?_⟩,fun a ha=>?_,P5,sd.kd,sd.kb,fun z=>?_⟩ (fun Z hZ=>?_) (by rw [length_append,length_take]; simp; omega)
      ·rcases List.mem_cons.mp z with z | z
       ·have:=e7.free KG;have:=e6.free this;have:=e5.free this;exact QP this z
       ·refine DX H7 a3 (fun x hx=>?_) KG z;obtain ⟨o',w⟩:=SM x hx;exact ⟨o',e7 _ _ (e6 _ _ w)⟩
      ·rw [take_append_of_le_length (by omega),take_of_length_le (by omega),take_snoc hL];exact (fp.imp keep).append (.cons (keep _ _ ⟨as,gp,np⟩) .nil)
      ·rw [drop_of_length_le (by rw [length_append,Mj]; simp)];exact .nil
      ·simp only [mem_cons,not_mem_nil,or_false] at ha ⊢;rcases ha with z | z | z | z
       ·exact .inr (z▸sd.mem d (by simp))
       ·exact .inr (z▸sd.mem b (by simp))
       ·exact .inl z
       ·exact .inr (z▸sd.mem k (by simp))
      ·rw [<- z,Ae _ _ hk] at Ka; cases Ka
      ·rcases List.mem_append.mp hZ with z | z
       ·exact (JC Z (mem_of_mem_take z)).more
       ·rw [List.mem_singleton.mp z]; exact NV
     ·have Ae:=e2.trans e3;walk_at "r";rw [n8];refine ⟨d,dx,b,t,p,o,ps,qs,as,os,L,R,way,n / 8,rfl,dk.same Ae,by omega,gp.same Ae,go.same Ae,ue.map,ue.pos,by omega,ck,la,by omega,hR,CS,Iu,fun ok=>absurd ok N0,fun _ H4 e4=>?_⟩;walk_at "r";rw [decide_eq_true rfl];refine ⟨rfl,?_⟩;rw [decide_eq_true rfl];walk_at "r";rw [decide_eq_true rfl];walk_at "r";exact same (Ae.trans e4)
    ·walk_at "r";refine ⟨o,os,L,rfl,go.same e1,ue.map,by omega,ck,fun tr bs R H2 e2 g2 uY wo la=>?_⟩;have eE:=e1.trans e2;have rest:∀ (H3:Hp),ah H H3->(R≠[]\/way = 1)->(if decide ((way:Int) = 2) = true then AW (HQ (DF fun i j=>V.bl (decide (j<=i))) (LO (fun xs H Q=>∃ x n,xs = [x]/\HK K x H n/\Q (V.int ↑n) H) (je (gP 4) um)) (tC (V.int 12))) [some (.ref d),some (.ref k),some (.int (n:Int)),some (.int (way:Int)),some (.ref o),none,none,none] H3 RR else RR false H3):=fun H3 e3 hR=>by
      by_cases z2:way = 2
      ·rw [decide_eq_true (show (way:Int) = 2 by omega)];walk_at "r";refine ⟨_,_,rfl,.inl ⟨_,aw.of (e3 _ _ go.top),rfl⟩,?_⟩;rw [length_map,go.len];walk_at "r";by_cases z3:(12:Int)<=(L.length:Int)
       ·rw [decide_eq_true z3];exact yes _ e3
       ·rw [decide_eq_false z3];exact DW _ ⟨e3,R,la,hR,fun _=>by omega⟩
      ·rw [decide_eq_false (show ¬ (way:Int) = 2 by omega)];walk_at "r";exact DW _ ⟨e3,R,la,hR,fun w=>absurd w z2⟩
     walk_at "r";refine ⟨Nat.zero_le _,fun z hz=>?_⟩;have e3:ah H2 (upd H2 z (.lst [])):=ah.upd hz;have gz:aJ (upd H2 z (.lst [])) z [] []:=⟨ae,rfl,fun i a l h=>by simp at h⟩;generalize upd H2 z (.lst []) = H3 at e3 gz ⊢;refine ⟨cP R,cP [],(g2.same e3).yb,gz.yb,bc _,bc _,?_⟩;rw [if_neg (by decide),fo];by_cases hR:R = []
     ·rw [decide_eq_true hR];walk_at "r";by_cases w1:way = 1
      ·rw [decide_eq_true (show (way:Int) = 1 by omega)];walk_at "r";exact rest _ (eE.trans e3) (.inr w1)
      ·rw [decide_eq_false (show ¬ (way:Int) = 1 by omega)];walk_at "r";exact yes _ (eE.trans e3)
     ·rw [decide_eq_false hR];walk_at "r";exact rest _ (eE.trans e3) (.inl hR)
   ·walk_at "r";by_cases z:way = 3
    ·rw [decide_eq_true (show (way:Int) = 3 by omega)];walk_at "r";refine ⟨o,os,L,rfl,go,by omega,ue.pos,ue.map,fun ks H1 e1 nd mem=>?_⟩;by_cases y:(ks.length:Int) = (L.length:Int)
     ·rw [decide_eq_true y];refine ⟨_,rfl,DW _ ⟨e1,fun _ x x0 x1=>⟨0,by simp,?_⟩⟩⟩;refine Classical.byContradiction fun nr=>?_;have nx:x∉ks:=fun w=>nr ((mem x).mp w);have:=bz (l:=x :: ks) (n:=L.length) (List.nodup_cons.mpr ⟨nx,nd⟩) fun u hu=>by
       rcases List.mem_cons.mp hu with w | w
       ·rw [w]; exact ⟨x0,x1⟩
       ·exact ((mem u).mp w).rg ue.map ⟨Int.le_refl 0,by have:=ue.pos; omega⟩
      rw [length_cons] at this;omega
     ·rw [decide_eq_false y];exact ⟨_,rfl,yes _ e1⟩
    ·rw [decide_eq_false (show ¬ (way:Int) = 3 by omega)];walk_at "r";exact DW _ ⟨fun _ _ e=>e,fun w=>absurd w z⟩
theorem fM:aG ["_law_script", "_law_first", "_law_second", "_law_desks", "_law_kept", "_law_cell", "_law_number", "_law_which"] ["_law_script"] (ao nF):=⟨rfl,rfl,rfl,by decide +kernel,rfl,by decide +kernel,by decide +kernel⟩
theorem GC {fa:Addr} {fd:FuncData} (F:Ar K "law" "law" nF fa fd) (T:Txt K mg Z) (oR:cw P w K mg base (bo P w) "_law_cell_at" 1 ["_law_script", "_law_k"] (xZ K)) (gy:cw P w K mg base (bo P w) "_law_mixed" 2 ["_law_script", "_law_k"] (gZ K)) (tJ:cw P w K mg base (bo P w) "_law_grown" 3 ["_law_script", "_law_start", "_law_steps"] (uz K)) (cN:cw P w K mg base (bo P w) "_law_same" 1 ["_law_one", "_law_other"] jH) (vy:cw P w K mg base (bo P w) "_law_done" 8 ["_law_desk", "_law_kept", "_law_number"] (sf Z.aV)) (lS:cw P w K mg base (bo P w) "_law_told" 2 ["_law_desk", "_law_kept"] (rX Z.aV))
  (lT:EO P w K mg base (bo P w) Z.aV 3 ["self", "orders"] (uB Z.aV)) (b6:eI P w K mg base (bo P w) Z.aV "orders" 1 ["self"] (f6 Z.aV)):gL P w K mg base (bo P w) 10 fa fd ["_law_script"] (rZ K):=by
 refine F.okN fM (fun vs H Q E h=>?_) (fun bN A o s H vs Q E hr h=>?_)
 ·obtain ⟨a,ns,rfl,_⟩:=h; rfl
 ·obtain ⟨a,ns,rfl,hS,hlen,kq⟩:=h;refine ⟨_,(@ag _ _ _ _ _ (az (i:=1) fM.nd rfl (by walk_at "L") (aA tJ hr aX (aa (pv 0) (aa ai (aa (aD a9 (aA gy hr aX (aa (pv 0) (aa ai af))) ai) af)))))
   (@ag _ _ _ _ _ (@az _ _ 2 _ _ _ _ fM.nd rfl (by walk_at "L") (@N9 _ _ _ _ _ _ _ _ _ _ (aY (aa ai (aa ai (aa ai af)))) (aY (aa ai (aa ai (aa ai af)))) (aY (aa ai (aa ai (aa ai af)))) (aY (aa ai (aa ai (aa ai af)))) rfl rfl rfl rfl) rfl (by walk_at "L"))
   (@ag _ _ _ _ _ (az (i:=3) fM.nd rfl (by walk_at "L") (fP (aa (uQ lT hr T.Cu aX (aa (pv 1) af)) (aa (uQ lT hr T.Cu aX (aa (pv 2) af)) af))))
   (@ag _ _ _ _ _ (@az _ _ 4 _ _ _ _ fM.nd rfl (by walk_at "L") (@GK _ _ _ _ _ _ (@GK _ _ _ _ _ _ ai (@JO _ _ _ _ (du b6 T.aC hr aX (aI oE (pv 3) ai (fun _ _=>rfl))) rfl) rfl rfl) (@GK _ _ _ _ _ _ ai (@JO _ _ _ _ (du b6 T.aC hr aX (aI oE (pv 3) ai (fun _ _=>rfl))) rfl) rfl rfl) rfl rfl) rfl (by walk_at "L"))
   (@ag _ _ _ _ _ (aZ (PW.pt (pw_or (eZ (eC (aA cN hr aX (aa (aI au (aI au (aI au (pv 4) ai (fun _ _=>rfl)) ai (fun _ _=>rfl)) ai (fun _ _=>rfl)) (aa (pv 1) af))))) (pw_or1 (eZ (eC (aA cN hr aX (aa (aI au (aI au (aI au (pv 4) ai (fun _ _=>rfl)) ai (fun _ _=>rfl)) ai (fun _ _=>rfl)) (aa (pv 2) af)))))))) (aj (aP cA)) aK)
   (@ag _ _ _ _ _ (aU (b7 PySem.F.plainAttrs_list PySem.F.slot_list_append PySem.F.type_list_append bC (aI au (pv 1) ai (fun _ _=>rfl)) (aa ai af)))
   (@ag _ _ _ _ _ (aU (wL PySem.F.plainAttrs_list PySem.F.slot_list_clear PySem.F.type_list_clear BE (pv 2)))
   (ag (bZ PassesOwn.never rfl (bM (bH dA (pv 0) (cS ai) (cS ai))) (aN (i:=5) fM.nd rfl (by walk_at "L"))
   (ag (az (i:=6) fM.nd rfl (by walk_at "L") (aD a9 (pv 5) (jS (v:=1000000000000000000) nU ai ai ⟨by decide,by decide,by decide⟩ (by decide +kernel))))
   (ag (aZ (ax cX (aD a9 (aD bJ (aA oR hr aX (aa (pv 0) (aa ai af))) (jS (v:=1000000) nU ai ai ⟨by decide,by decide,by decide⟩ (by decide +kernel))) ai) ai (aL _)) (ag (az (i:=6) fM.nd rfl (by walk_at "L") (aD dG (aD a9 (aD fF (aD dG (pv 6) ai) (aD dG (pv 6) ai)) ai) ai))
   (aj (az (i:=6) fM.nd rfl (by walk_at "L") (aD a9 (aD fF (pv 6) (pv 6)) ai)))) aK)
   (ag (az (i:=7) fM.nd rfl (by walk_at "L") (aD a9 (aD bJ (pv 6) ai) ai))
   (ag (aZ (eZ (eC (aA vy hr aX (aa (aI oE (pv 3) (pv 7) (fun _ _=>rfl)) (aa (aI au (pv 4) (pv 7) (fun _ _=>rfl)) (aa (aD bJ (pv 6) ai) af)))))) (aj (aP cA)) aK)
   (aj (aZ (PW.pt (pw_or (eZ (eC (aA lS hr aX (aa (aI oE (pv 3) ai (fun _ _=>rfl)) (aa (aI au (pv 4) ai (fun _ _=>rfl)) af))))) (pw_or1 (eZ (eC (aA lS hr aX (aa (aI oE (pv 3) ai (fun _ _=>rfl)) (aa (aI au (pv 4) ai (fun _ _=>rfl)) af)))))))) (aj (aP cA)) aK)))))))
   (aj (aP cA)))))))))),?_⟩
  dsimp only [b8];walk_at "r";refine ⟨a,ns,0,rfl,hS,by omega,by omega,fun num n0 n1=>?_⟩;walk_at "r";have m0:=Int.emod_nonneg num (show (6:Int)≠0 by omega);have m1:=Int.emod_lt_of_pos num (show (0:Int) < 6 by omega);obtain ⟨n6,OQ⟩:=Int.eq_ofNat_of_zero_le m0;rw [OQ] at m1 ⊢;refine ⟨a,ns,3,n6,rfl,hS,by omega,by omega,by omega,fun p as L H1 e1 g1 iT gR jz l1=>?_⟩;have two:=jz.two;walk_at "r";refine fun c1 KA=>?_;have j1:ah H1 (upd H1 c1 (.lst [.int 1,.int 3,.int 2])):=ah.upd KA;have r1:upd H1 c1 (.lst [.int 1,.int 3,.int 2]) c1 = some (.lst (([1,3,2]:List Int).map V.int)):=ae;generalize upd H1 c1 (.lst [.int 1,.int 3,.int 2]) = J1 at j1 r1 ⊢;walk_at "r";refine fun c2 zW=>?_;have j2:ah J1 (upd J1 c2 (.lst [.int 2,.int 3,.int 0])):=ah.upd zW;have r2:upd J1 c2 (.lst [.int 2,.int 3,.int 0]) c2 = some (.lst (([2,3,0]:List Int).map V.int)):=ae;generalize upd J1 c2 (.lst [.int 2,.int 3,.int 0]) = J2 at j2 r2 ⊢;walk_at "r";refine fun c3 B4=>?_;have j3:ah J2 (upd J2 c3 (.lst [.int 0,.int 3,.int 1])):=ah.upd B4;have r3:upd J2 c3 (.lst [.int 0,.int 3,.int 1]) c3 = some (.lst (([0,3,1]:List Int).map V.int)):=ae;generalize upd J2 c3 (.lst [.int 0,.int 3,.int 1]) = J3 at j3 r3 ⊢;walk_at "r";refine fun c4 B3=>?_;have j4:ah J3 (upd J3 c4 (.lst [.int 2,.int 0,.int 1])):=ah.upd B3;have r4:upd J3 c4 (.lst [.int 2,.int 0,.int 1]) c4 = some (.lst (([2,0,1]:List Int).map V.int)):=ae;generalize upd J3 c4 (.lst [.int 2,.int 0,.int 1]) = J4 at j4 r4 ⊢;walk_at "r";refine ⟨by rw [PySem.sizeLine_eq]; simp,fun p2 hp=>?_⟩;have j5:ah J4 (upd J4 p2 (.lst [.ref c1,.ref c2,.ref c3,.ref c4])):=ah.upd hp;have p5:upd J4 p2 (.lst [.ref c1,.ref c2,.ref c3,.ref c4]) p2 = some (.lst [.ref c1,.ref c2,.ref c3,.ref c4]):=ae;generalize upd J4 p2 (.lst [.ref c1,.ref c2,.ref c3,.ref c4]) = J5 at j5 p5 ⊢;have HV:c1≠c2:=aB r1 zW;have RF:c1≠c3:=aB (j2 _ _ r1) B4;have RE:c1≠c4:=aB (j3 _ _ (j2 _ _ r1)) B3;have RC:c2≠c3:=aB r2 B4;have RB:c2≠c4:=aB (j3 _ _ r2) B3;have Rz:c3≠c4:=aB r3 B3;have s1:=j5 _ _ (j4 _ _ (j3 _ _ (j2 _ _ r1)));have s2:=j5 _ _ (j4 _ _ (j3 _ _ r2));have s3:=j5 _ _ (j4 _ _ r3);have s4:=j5 _ _ r4;have Rg:p2≠c1:=fun z=>by rw [z] at hp; rw [(j4 _ _ (j3 _ _ (j2 _ _ r1)))] at hp; cases hp
  have Rf:p2≠c2:=fun z=>by rw [z] at hp; rw [(j4 _ _ (j3 _ _ r2))] at hp; cases hp
  have Rc:p2≠c3:=fun z=>by rw [z] at hp; rw [(j4 _ _ r3)] at hp; cases hp
  have Rb:p2≠c4:=fun z=>by rw [z] at hp; rw [r4] at hp; cases hp
  have Oh:=((j1.trans j2).trans j3).trans j4;have j0:=Oh.trans j5;have g0:aJ J5 p2 [c1,c2,c3,c4] tetra:=by
   refine ⟨p5,rfl,fun i c l h1 h2=>?_⟩;have hi:i = 0\/i = 1\/i = 2\/i = 3:=by
    have:=(List.getElem?_eq_some_iff.mp h1).1;simp at this;omega
   unfold tetra at h2;rcases hi with rfl | rfl | rfl | rfl
   ·simp at h1 h2;subst h1 h2;exact s1
   ·simp at h1 h2;subst h1 h2;exact s2
   ·simp at h1 h2;subst h1 h2;exact s3
   ·simp at h1 h2;subst h1 h2;exact s4
  have N7:(p2 :: [c1,c2,c3,c4]).Nodup:=by simp [Rg,Rf,Rc,Rb,HV,RF,RE,RC,RB,Rz]
  have KW:∀ b∈p2 :: [c1,c2,c3,c4],H1 b = none:=by
   intro b hb;simp at hb;rcases hb with rfl | rfl | rfl | rfl | rfl
   ·exact Oh.free hp
   ·exact KA
   ·exact j1.free zW
   ·exact (j1.trans j2).free B4
   ·exact ((j1.trans j2).trans j3).free B3
  have g6:=g1.same j0;obtain ⟨a0,l0,Pj,Mv,r0⟩:=g1.at (i:=0) (by omega);have Qc:a0≠p2:=fun z=>by
   have:=KW p2 mem_cons_self;rw [<- z,r0] at this; cases this
  have P2:Al [a0,p2] J5:=fun x hx=>by
   simp only [mem_cons,not_mem_nil,or_false] at hx;rcases hx with z | z
   ·rw [z]; exact ⟨_,j0 _ _ r0⟩
   ·rw [z]; exact ⟨_,p5⟩
  clear s1 s2 s3 s4 r1 r2 r3 r4 j1 j2 j3 j4 j5 Oh HV RF RE RC RB Rz Rg Rf Rc Rb hp p5 KA zW B4 B3;walk_at "r";intro x1 Cd CM Kw ne1;have e6:ah J5 (upd (upd J5 Cd (.own x1)) x1 (.ins Z.aV Cd [])):=fun b o hb=>by
   rw [ak (aB hb CM),ak (aB hb Kw)]; exact hb
  have i6:upd (upd J5 Cd (.own x1)) x1 (.ins Z.aV Cd []) x1 = some (.ins Z.aV Cd []):=ae;generalize upd (upd J5 Cd (.own x1)) x1 (.ins Z.aV Cd []) = J6 at e6 i6 ⊢;have Lw:Al [x1,a0,p2] J6:=P2.cons e6 i6;have Fn:[x1,a0,p2].Nodup:=List.nodup_cons.mpr ⟨P2.wb CM,by simpa using Qc⟩;have S5:=e1.trans j0;have S6:=S5.trans e6;have WZ:=S5.free CM;refine ⟨x1,Cd,p,as,L,rfl,i6,g6.same e6,c7 g6 CM,jz.map,by omega,fun q1 b1 t1 PY J7 o7 k7 MF UK MI bq tq=>⟨rfl,?_⟩⟩;have JB:∀ a∈[x1],∃ o,J7 a = some o:=fun a ha=>by rw [List.mem_singleton.mp ha]; exact ⟨_,k7.ins⟩
  have P1:Al [b1,t1,x1,a0,p2] J7:=((Al.off Lw o7 JB).cons (ah.refl _) k7.tk).cons (ah.refl _) k7.bh;have Pt:=MI b1 (by simp);have KS:=MI t1 (by simp);have HU:[b1,t1,x1,a0,p2].Nodup:=by
   have h1:=Lw.wb Pt;have h2:=Lw.wb KS;refine List.nodup_cons.mpr ⟨fun z=>?_,List.nodup_cons.mpr ⟨h2,Fn⟩⟩;rcases List.mem_cons.mp z with z | z
   ·exact k7.bt z
   ·exact h1 z
  have Ay:fJ [b1,t1,x1,a0,p2] J7 q1 L:=⟨PY,MF,fun a ha z=>by
   rcases List.mem_cons.mp z with z | z
   ·exact bq (z▸ha)
   ·rcases List.mem_cons.mp z with z | z
    ·exact tq (z▸ha)
    ·exact Lw.wb (MI a (mem_cons_of_mem _ (mem_cons_of_mem _ ha))) z⟩
  have S7:=ah.off S6 (as:=[x1]) (fun b hb=>by rw [List.mem_singleton.mp hb]; exact WZ) o7;have g7:aJ J7 p as L:=(g6.same e6).off o7 fun a ha z=>c7 g6 CM (by rw [<- List.mem_singleton.mp z]; exact ha);have KQ:aJ J7 p2 [c1,c2,c3,c4] tetra:=(g0.same e6).off o7 fun a ha z=>c7 g0 CM (by rw [<- List.mem_singleton.mp z]; exact ha);have Yr:=S6.free Pt;have Yn:=S6.free KS;walk_at "r";intro x2 CV yE Kv ne2;have e8:ah J7 (upd (upd J7 CV (.own x2)) x2 (.ins Z.aV CV [])):=fun b o hb=>by
   rw [ak (aB hb yE),ak (aB hb Kv)]; exact hb
  have i8:upd (upd J7 CV (.own x2)) x2 (.ins Z.aV CV []) x2 = some (.ins Z.aV CV []):=ae;generalize upd (upd J7 CV (.own x2)) x2 (.ins Z.aV CV []) = J8 at e8 i8 ⊢;have Lv:Al [x2,b1,t1,x1,a0,p2] J8:=P1.cons e8 i8;have N6:[x2,b1,t1,x1,a0,p2].Nodup:=List.nodup_cons.mpr ⟨P1.wb yE,HU⟩;have Ay:=fJ.grow Ay e8 yE;have S8:=S7.trans e8;have WY:=S7.free yE;refine ⟨x2,CV,p2,_,tetra,rfl,i8,KQ.same e8,c7 KQ yE,tetra_sheet.map,by decide,fun q2 b2 t2 SJ J9 o9 k9 Pp N5 Eo SH QC=>⟨rfl,?_⟩⟩;have JA:∀ a∈[x2],∃ o,J9 a = some o:=fun a ha=>by rw [List.mem_singleton.mp ha]; exact ⟨_,k9.ins⟩
  have CB:Al [b2,t2,x2,b1,t1,x1,a0,p2] J9:=((Al.off Lv o9 JA).cons (ah.refl _) k9.tk).cons (ah.refl _) k9.bh;have Ep:=Eo b2 (by simp);have En:=Eo t2 (by simp);have JL:[b2,t2,x2,b1,t1,x1,a0,p2].Nodup:=by
   have h1:=Lv.wb Ep;have h2:=Lv.wb En;refine List.nodup_cons.mpr ⟨fun z=>?_,List.nodup_cons.mpr ⟨h2,N6⟩⟩;rcases List.mem_cons.mp z with z | z
   ·exact k9.bt z
   ·exact h1 z
  have Ay:fJ [b2,t2,x2,b1,t1,x1,a0,p2] J9 q1 L:=Ay.keep o9 (fun a ha=>by rw [List.mem_singleton.mp ha]; simp) fun a ha=>by
   rcases List.mem_cons.mp ha with z | z
   ·rw [z]; exact .inr Ep
   ·rcases List.mem_cons.mp z with z | z
    ·rw [z]; exact .inr En
    ·exact .inl z
  have Fm:fJ [b2,t2,x2,b1,t1,x1,a0,p2] J9 q2 tetra:=⟨SJ,Pp,fun a ha z=>by
   rcases List.mem_cons.mp z with z | z
   ·exact SH (z▸ha)
   ·rcases List.mem_cons.mp z with z | z
    ·exact QC (z▸ha)
    ·exact Lv.wb (Eo a (mem_cons_of_mem _ (mem_cons_of_mem _ ha))) z⟩
  have S9:=ah.off S8 (as:=[x2]) (fun b hb=>by rw [List.mem_singleton.mp hb]; exact WY) o9;have g9:aJ J9 p as L:=(g7.same e8).off o9 fun a ha z=>c7 g7 yE (by rw [<- List.mem_singleton.mp z]; exact ha);have Sr:aJ J9 p2 [c1,c2,c3,c4] tetra:=(KQ.same e8).off o9 fun a ha z=>c7 KQ yE (by rw [<- List.mem_singleton.mp z]; exact ha);have d19:jC Z.aV J9 x1 Cd b1 t1 q1 [] []:=(k7.same e8).off o9 fun a ha z=>by
   have z:=List.mem_singleton.mp z;subst z;refine (List.nodup_cons.mp N6).1 ?_;simp only [mem_cons,not_mem_nil,or_false] at ha ⊢;rcases ha with z | z | z
   ·exact .inr (.inr (.inl z))
   ·exact .inl z
   ·exact .inr (.inl z)
  have KJ:aJ J9 q1 PY L:=(MF.same e8).off o9 fun a ha z=>c7 MF yE (by rw [<- List.mem_singleton.mp z]; exact ha);have Yq:=S8.free Ep;have Ym:=S8.free En;clear Lw P1 Lv Fn HU N6 bq tq SH QC MI Eo UK N5 k7 g7 KQ e6 e8 i6 i8 o7 o9 JB JA Pt KS Ep En MF S5 S6 S7 S8 g6 P2 CM yE Kw Kv ne1 ne2;walk_at "r";intro td CN;have AH:ah J9 (upd J9 td (.tup [.ref x1,.ref x2])):=ah.upd CN;have Dd:upd J9 td (.tup [.ref x1,.ref x2]) td = some (.tup [.ref x1,.ref x2]):=ae;generalize upd J9 td (.tup [.ref x1,.ref x2]) = SS at AH Dd ⊢;have EV:=CB.wb CN;walk_at "r";refine ⟨x1,Cd,_,rfl,AH _ _ d19.ins,rfl,?_⟩;refine ⟨x1,Cd,b1,t1,q1,[],[],PY,L,rfl,d19.same AH,KJ.same AH,by omega,fun r1 s1 Ip ug gr N4 Ss=>?_⟩;have Fj:=fJ.new gr Ss (CB.later AH);walk_at "r";refine ⟨by rw [PySem.sizeLine_eq]; simp,fun gA O4=>?_⟩;have eE:ah Ip (upd Ip gA (.lst [.ref r1])):=ah.upd O4;have LL:upd Ip gA (.lst [.ref r1]) gA = some (.lst [.ref r1]):=ae;generalize upd Ip gA (.lst [.ref r1]) = MV at eE LL ⊢;have HF:=CB.later ((AH.trans ug).trans eE);have Im:=(CB.later (AH.trans ug)).wb O4;walk_at "r";intro k1 yF;have Ey:ah MV (upd MV k1 (.lst [.int 0,.ref gA])):=ah.upd yF;have MR:upd MV k1 (.lst [.int 0,.ref gA]) k1 = some (.lst [.int 0,.ref gA]):=ae;generalize upd MV k1 (.lst [.int 0,.ref gA]) = Yj at Ey MR ⊢;have vE:=((AH.trans ug).trans eE).trans Ey;have EJ:=HF.cons Ey MR;have JK:=List.nodup_cons.mpr ⟨HF.wb yF,JL⟩;have Ay:=fJ.grow Ay vE (((AH.trans ug).trans eE).free yF);have Fm:=fJ.grow Fm vE (((AH.trans ug).trans eE).free yF);have Fj:=fJ.grow Fj (eE.trans Ey) (eE.free yF);have Im:gA∉k1 :: [b2,t2,x2,b1,t1,x1,a0,p2]:=fun z=>(List.mem_cons.mp z).elim (fun z=>by rw [<- z,LL] at yF; cases yF) Im;have EV:td∉k1 :: [b2,t2,x2,b1,t1,x1,a0,p2]:=fun z=>(List.mem_cons.mp z).elim (fun z=>by rw [<- z,eE _ _ (ug _ _ Dd)] at yF; cases yF) EV;have Yp:=S9.free (((AH.trans ug).trans eE).free yF);have IB:=Ey _ _ (eE _ _ (ug _ _ Dd));clear JL HF;walk_at "r";refine ⟨x2,CV,_,rfl,vE _ _ k9.ins,rfl,?_⟩;refine ⟨x2,CV,b2,t2,q2,[],[],SJ,tetra,rfl,k9.same vE,Pp.same vE,by decide,fun r2 s2 MU xA Po UJ KU=>?_⟩;have HS:=fJ.new Po KU EJ;walk_at "r";refine ⟨by rw [PySem.sizeLine_eq]; simp,fun gB O3=>?_⟩;have Af:ah MU (upd MU gB (.lst [.ref r2])):=ah.upd O3;have MY:upd MU gB (.lst [.ref r2]) gB = some (.lst [.ref r2]):=ae;generalize upd MU gB (.lst [.ref r2]) = MT at Af MY ⊢;have HE:=EJ.later (xA.trans Af);have MG:=(EJ.later xA).wb O3;walk_at "r";intro k2 lQ;have yL:ah MT (upd MT k2 (.lst [.int 0,.ref gB])):=ah.upd lQ;have MQ:upd MT k2 (.lst [.int 0,.ref gB]) k2 = some (.lst [.int 0,.ref gB]):=ae;generalize upd MT k2 (.lst [.int 0,.ref gB]) = MS at yL MQ ⊢;have lV:=(xA.trans Af).trans yL;have HD:=HE.cons yL MQ;have JJ:=List.nodup_cons.mpr ⟨HE.wb lQ,JK⟩;have Ay:=fJ.grow Ay lV ((xA.trans Af).free lQ);have Fm:=fJ.grow Fm lV ((xA.trans Af).free lQ);have Fj:=fJ.grow Fj lV ((xA.trans Af).free lQ);have HS:=fJ.grow HS (Af.trans yL) (Af.free lQ);have FR:=Af _ _ (xA _ _ IB);have Im:gA∉k2 :: k1 :: [b2,t2,x2,b1,t1,x1,a0,p2]:=fun z=>(List.mem_cons.mp z).elim (fun z=>by rw [<- z,Af _ _ (xA _ _ (Ey _ _ LL))] at lQ; cases lQ) Im;have MG:gB∉k2 :: k1 :: [b2,t2,x2,b1,t1,x1,a0,p2]:=fun z=>(List.mem_cons.mp z).elim (fun z=>by rw [<- z,MY] at lQ; cases lQ) MG;have EV:td∉k2 :: k1 :: [b2,t2,x2,b1,t1,x1,a0,p2]:=fun z=>(List.mem_cons.mp z).elim (fun z=>by rw [<- z,FR] at lQ; cases lQ) EV;have K8:=vE.trans lV;have Yo:=S9.free (vE.free ((xA.trans Af).free lQ));walk_at "r";intro kk Ej;have xy:ah MS (upd MS kk (.lst [.ref k1,.ref k2])):=ah.upd Ej;have KK:upd MS kk (.lst [.ref k1,.ref k2]) kk = some (.lst [.ref k1,.ref k2]):=ae;generalize upd MS kk (.lst [.ref k1,.ref k2]) = HN at xy KK ⊢;have Mh:=HD.wb Ej;have Ad:=K8.trans xy;have EI:=HD.later xy;have hA:=xy _ _ (lV _ _ (Ey _ _ LL));have hB:=xy _ _ (yL _ _ MY);have h1:=xy _ _ (lV _ _ MR);have h2:=xy _ _ MQ;have IA:=xy _ _ (yL _ _ FR);have D1:=d19.same Ad;have D2:=k9.same Ad;have Ay:=fJ.later Ay xy;have Fm:=fJ.later Fm xy;have Fj:=fJ.later Fj xy;have HS:=fJ.later HS xy;have KP:aJ HN r1 s1 L:=gr.same (((eE.trans Ey).trans lV).trans xy);have KO:aJ HN r2 s2 tetra:=Po.same ((Af.trans yL).trans xy);have SQ:=S9.trans Ad;have Pr:=g9.same Ad;have Hl:=Sr.same Ad;clear AH ug eE Ey xA Af yL xy vE lV K8 Ad Dd IB FR LL MY MR MQ EJ HE HD JK yF lQ O4 O3 Ej CN gr Po Ss KU d19 k9 KJ Pp S9 g9 Sr CB;have bU:∀ {X:List (List Int)} (i:Nat) (l m:List Int),X[i]? = some l->X[i]? = some m->bA l m:=fun i l m h1 h2=>by rw [h1] at h2; cases h2; exact bA.refl _
  have rows:∀ {X:List (List Int)},av X->X.length<=60->∀ m∈X,m.Nodup/\m.length<=1000:=fun im hn m hm=>by
   obtain ⟨j,hj⟩:=List.mem_iff_getElem?.mp hm;have:=bz (im.nd _ _ hj) (n:=_) fun y hy=>⟨(im.rg _ _ hj y hy).1,(im.rg _ _ hj y hy).2.1⟩;exact ⟨im.nd _ _ hj,by omega⟩
  have sk:aw K HN kk [.ref k1,.ref k2]:=aw.of KK;have LX:aw K HN k1 [.int 0,.ref gA]:=aw.of h1;have sA:aw K HN gA [.ref r1]:=aw.of hA;walk_at "r";refine ⟨r1,p,s1,as,L,L,rfl,KP,Pr,rfl,fun m hm=>(rows jz.map (by omega) m hm).2,fun m hm=>rows jz.map (by omega) m hm,by omega,fun _ Qn Hq=>?_,fun no=>absurd bU no⟩;have TJ:aw K Qn kk [.ref k1,.ref k2]:=aw.of (Hq _ _ KK);have TU:aw K Qn k2 [.int 0,.ref gB]:=aw.of (Hq _ _ h2);have TQ:aw K Qn gB [.ref r2]:=aw.of (Hq _ _ hB);walk_at "r";refine ⟨r2,p2,s2,_,tetra,tetra,rfl,KO.same Hq,Hl.same Hq,rfl,fun m hm=>(rows tetra_sheet.map (by decide) m hm).2,fun m hm=>rows tetra_sheet.map (by decide) m hm,by decide,fun _ LG Sx=>?_,fun no=>absurd bU no⟩;have yK:=Hq.trans Sx;walk_at "r";have MH:=Pr.same yK;refine aR (aw.of MH.top) (MH.ix Pj) ?_;walk_at "r";have NR:=MH.row 0 a0 l0 Pj Mv;have XJ:=(rows jz.map (by omega) l0 (mem_of_getElem? Mv)).2;refine ⟨.inl ⟨rfl,_,aw.of NR⟩,?_⟩;walk_at "r";refine bV NR (by rw [length_map]; exact aF (by omega)) ?_;have NX:aE [a0,p2] LG (upd LG a0 (.lst (l0.map V.int ++ [.int 0]))):=aE.upd (by simp);have L6:upd LG a0 (.lst (l0.map V.int ++ [.int 0])) p2 = some (.lst ([c1,c2,c3,c4].map V.ref)):=by rw [ak (Ne.symm Qc)]; exact yK _ _ Hl.top
  have v20:upd LG a0 (.lst (l0.map V.int ++ [.int 0])) a0 = some (.lst (l0.map V.int ++ [.int 0])):=ae;generalize upd LG a0 (.lst (l0.map V.int ++ [.int 0])) = LF at NX L6 v20 ⊢;walk_at "r";refine ⟨.inl ⟨rfl,_,aw.of L6⟩,?_⟩;walk_at "r";refine ⟨p2,_,rfl,rfl,L6,?_⟩;have NW:aE [a0,p2] LF (upd LF p2 (.lst [])):=aE.upd (by simp);have NS:upd LF p2 (.lst []) p2 = some (.lst []):=ae;have M3:upd LF p2 (.lst []) a0 = some (.lst (l0.map V.int ++ [.int 0])):=by rw [ak Qc]; exact v20
  generalize upd LF p2 (.lst []) = HL at NW NS M3 ⊢;have o1:=((aE.of (M:=[a0,p2]) yK).trans NX).trans NW;have W2:=gR a0 (mem_cons_of_mem _ (mem_of_getElem? Pj));have W0:=e1.free (KW p2 mem_cons_self);have Qg:ah H HL:=ah.off SQ (as:=[a0,p2]) (fun b hb=>by
   simp only [mem_cons,not_mem_nil,or_false] at hb;rcases hb with z | z
   ·rw [z]; exact W2
   ·rw [z]; exact W0) o1
  have two21:∀ a∈[a0,p2],∃ o,HL a = some o:=fun a ha=>by
   simp only [mem_cons,not_mem_nil,or_false] at ha;rcases ha with z | z
   ·rw [z]; exact ⟨_,M3⟩
   ·rw [z]; exact ⟨_,NS⟩
  have HM:∀ a∈k2 :: k1 :: [b2,t2,x2,b1,t1,x1,a0,p2],H a = none:=fun a ha=>by
   simp only [mem_cons,not_mem_nil,or_false] at ha;rcases ha with z | z | z | z | z | z | z | z | z | z <;> rw [z] <;> assumption
  simp only [nodup_cons,mem_cons,not_mem_nil,or_false,not_or] at JJ;obtain ⟨⟨n1,n2,n3,n4,n5,XA,n7,n8,n9⟩,⟨XC,m2,m3,m4,m5,m6,m7,m8⟩,⟨_,_,y3,y4,y5,y6,y7⟩,⟨_,z4,z5,z6,z7,z8⟩,⟨w4,w5,w6,w7,w8⟩,⟨_,_,u7,u8⟩,⟨_,v7,v8⟩,⟨x7,x8⟩,_⟩:=JJ;have LU:mz Z.aV HN (k2 :: k1 :: [b2,t2,x2,b1,t1,x1,a0,p2]) x1 b1 t1 k1 [L] 0:=E5 D1 h1 hA Im Ay Fj (fun a ha=>by
   simp only [mem_cons,not_mem_nil,or_false] at ha;rcases ha with z | z | z | z <;> rw [z] <;> simp) EI m6 m4 m5
  have LS:mz Z.aV HN (k2 :: k1 :: [b2,t2,x2,b1,t1,x1,a0,p2]) x2 b2 t2 k2 [tetra] 0:=E5 D2 h2 hB MG Fm HS (fun a ha=>by
   simp only [mem_cons,not_mem_nil,or_false] at ha;rcases ha with z | z | z | z <;> rw [z] <;> simp) EI n4 n2 n3
  have CA:=Al.off EI o1 two21;have W:∀ a∈[a0,p2],a∈k2 :: k1 :: [b2,t2,x2,b1,t1,x1,a0,p2]:=fun a ha=>by
   simp only [mem_cons,not_mem_nil,or_false] at ha;rcases ha with z | z <;> rw [z] <;> simp
  have LU:=LU.keep o1 W (fun a h=>.inl h) (fun a h=>h) (fun a ha z=>by
   simp only [mem_cons,not_mem_nil,or_false] at ha z;rcases ha with h | h | h | h <;> subst h <;> rcases z with z | z <;> first | exact absurd z (by assumption)) CA
  have LS:=LS.keep o1 W (fun a h=>.inl h) (fun a h=>h) (fun a ha z=>by
   simp only [mem_cons,not_mem_nil,or_false] at ha z;rcases ha with h | h | h | h <;> subst h <;> rcases z with z | z <;> first | exact absurd z (by assumption)) CA
  have tw:vP Z.aV HL (k2 :: k1 :: [b2,t2,x2,b1,t1,x1,a0,p2]) x1 k1 x2 k2 0:=⟨⟨b1,t1,b2,t2,[L],[tetra],0,0,LU,LS,fun X hX=>by rw [List.mem_singleton.mp hX]; exact JD jz (by omega),fun X hX=>by rw [List.mem_singleton.mp hX]; exact JD tetra_sheet (by decide),Nat.le_refl _,Nat.le_refl _,fun a ha z=>by
   simp only [mem_cons,not_mem_nil,or_false] at ha z;rcases ha with h | h | h | h <;> subst h <;> rcases z with z | z | z | z <;> first | exact absurd z (by assumption) | exact absurd z.symm (by assumption)⟩⟩
  have nW:∀ {a:Addr},a∉k2 :: k1 :: [b2,t2,x2,b1,t1,x1,a0,p2]->a∉[a0,p2]:=fun h z=>h (W _ z);have Iz:=o1 _ _ (nW EV) IA;have JU:=o1 _ _ (nW Mh) KK;generalize k2 :: k1 :: [b2,t2,x2,b1,t1,x1,a0,p2] = M at tw EV Mh HM CA;clear LU LS D1 D2 Ay Fm Fj HS EI Im MG W nW two21 o1 NX NW L6 NS v20 M3 IA KK hA hB h1 h2 Pr Hl KP KO Hq Sx yK sk LX sA TJ TU TQ MH NR SQ;walk_at "r";refine cW (Dz (yd (r_var rfl ⟨2,rfl,26,rfl,a,_,rfl,Qg.seq hS,fun sl HY=>?_⟩)));obtain ⟨xs,Vi,XD⟩:=Ll ns;rw [Vi];have Io:ah HL (upd HL sl (.lst (xs.map V.int))):=ah.upd HY;have Dk:upd HL sl (.lst (xs.map V.int)) sl = some (.lst (xs.map V.int)):=ae;generalize upd HL sl (.lst (xs.map V.int)) = Yi at Io Dk ⊢;have QT:=CA.wb HY;refine ⟨sl,rfl,⟨_,aw.of Dk⟩,dO (K:=K) (a:=sl) (xs:=xs.map V.int) (fun j σ Hj=>∃ (M:List Addr) (v5 v6 v7:Option V),σ = [some (.ref a),some (.ref p),some (.ref p2),some (.ref td),some (.ref kk),v5,v6,v7]/\ah H Hj/\vP Z.aV Hj M x1 k1 x2 k2 j/\Hj td = some (.tup [.ref x1,.ref x2])/\Hj kk = some (.lst [.ref k1,.ref k2])/\Hj sl = some (.lst (xs.map V.int))/\td∉M/\kk∉M/\sl∉M/\∀ a∈M,H a = none)
   ⟨M,none,none,none,rfl,Qg.trans Io,tw.same Io,Io _ _ Iz,Io _ _ JU,Dk,EV,Mh,QT,HM⟩ (fun j σ Hj _ ⟨_,_,_,_,_,_,_,_,_,h,_⟩=>aw.of h) ?_ ?_⟩
  ·clear tw Iz JU EV Mh QT HM CA Io Dk HY Qg;rintro j x σ Hj hx ⟨M,v5,v6,v7,rfl,Sj,tw,CN,Ej,HY,Mb,Mf,Rm,HM⟩;obtain ⟨c,hc,rfl⟩:∃ c,xs[j]? = some c/\x = V.int c:=by
    rw [getElem?_map] at hx;cases e:xs[j]? with
    | none=>rw [e] at hx; cases hx
    | some z=>rw [e] at hx; exact ⟨z,rfl,(Option.some.inj hx).symm⟩
   have jl:=(List.getElem?_eq_some_iff.mp hc).1;refine r_gname ?_;dsimp only;refine r_seq (r_asg (r_op (r_var rfl (r_c (jN (by decide) (r_gname ?_))))));dsimp only;have c0:=Int.emod_nonneg c (show (1000000000000000000:Int)≠0 by decide);have WA:=Int.emod_lt_of_pos c (show (0:Int) < 1000000000000000000 by decide);generalize c % 1000000000000000000 = cn at c0 WA ⊢;refine Gb (fun σ' H'=>∃ num:Nat,σ' = [some (.ref a),some (.ref p),some (.ref p2),some (.ref td),some (.ref kk),some (.int c),some (.int (num:Int)),v7]/\num < 10 ^ 18/\H' = Hj) ?_ ?_
   ·rintro σ' H' ⟨num,rfl,VC,rfl⟩;have e6:(num:Int) / 6 % 2 = ((num / 6 % 2:Nat):Int):=by omega
    have eE:(num:Int) / 12 = ((num / 12:Nat):Int):=by omega
    walk_at "r";rw [e6];have w2:=Nat.mod_lt (num / 6) (show 0 < 2 by decide);have Xi:aw K H' kk [.ref k1,.ref k2]:=aw.of Ej;have S2:∀ {H2:Hp},aE M H' H2->ah H H2:=fun so=>ah.off Sj HM so;have fin:∀ (H2:Hp) (M2:List Addr) (u7:Option V),aE M H' H2->(∀ a∈M2,a∈M\/H' a = none)->vP Z.aV H2 M2 x1 k1 x2 k2 (j + 1)->∀ H4,ah H2 H4->∃ (M:List Addr) (v5 v6 v7:Option V),[some (V.ref a),some (.ref p),some (.ref p2),some (.ref td),some (.ref kk),some (.int c),some (.int (num:Int)),u7] = [some (V.ref a),some (.ref p),some (.ref p2),some (.ref td),some (.ref kk),v5,v6,v7]/\ah H H4/\vP Z.aV H4 M x1 k1 x2 k2 (j + 1)/\H4 td = some (.tup [.ref x1,.ref x2])/\H4 kk = some (.lst [.ref k1,.ref k2])/\H4 sl = some (.lst (xs.map V.int))/\td∉M/\kk∉M/\sl∉M/\∀ a∈M,H a = none:=fun H2 M2 u7 so mm t2 H4 e4=>by
     have nn:∀ {y:Addr} {o:HO},H' y = some o->y∉M->y∉M2:=fun h n z=>(mm _ z).elim n fun w=>by rw [h] at w; cases w
     exact ⟨M2,_,_,_,rfl,(S2 so).trans e4,t2.same e4,e4 _ _ (so _ _ Mb CN),e4 _ _ (so _ _ Mf Ej),e4 _ _ (so _ _ Rm HY),nn CN Mb,nn Ej Mf,nn HY Rm,fun y hy=>(mm y hy).elim (HM y) fun w=>Sj.free w⟩
    have S0:num / 6 % 2 = 0\/num / 6 % 2 = 1:=by omega
    rcases S0 with w0 | w0
    ·rw [w0];refine Bd (SqT.of CN) (show gT [V.ref x1,V.ref x2] ((0:Nat):Int) = some (.ref x1) from rfl) ?_;walk_at "r";rw [eE];refine vP.done tw (by omega) (by omega) fun H2 M2 so mm t2=>?_;have G1:=so _ _ Mb CN;have FY:aw K H2 kk [.ref k1,.ref k2]:=aw.of (so _ _ Mf Ej);walk_at "r";refine t2.told fun H3 e3=>?_;have OD:=e3 _ _ G1;have Nt:=e3.seq FY;walk_at "r";refine (t2.same e3).symm.told fun H4 e4=>?_;walk_at "r";exact fin H2 M2 _ so mm t2 H4 (e3.trans e4)
    ·rw [w0];refine Bd (SqT.of CN) (show gT [V.ref x1,V.ref x2] ((1:Nat):Int) = some (.ref x2) from rfl) ?_;walk_at "r";rw [eE];refine vP.done tw.symm (by omega) (by omega) fun H2 M2 so mm t2=>?_;have t2:=t2.symm;have G1:=so _ _ Mb CN;have FY:aw K H2 kk [.ref k1,.ref k2]:=aw.of (so _ _ Mf Ej);walk_at "r";refine t2.told fun H3 e3=>?_;have OD:=e3 _ _ G1;have Nt:=e3.seq FY;walk_at "r";refine (t2.same e3).symm.told fun H4 e4=>?_;walk_at "r";exact fin H2 M2 _ so mm t2 H4 (e3.trans e4)
   ·intro RR key;walk_at "r";refine ⟨a,ns,0,rfl,Sj.seq hS,by omega,fun n=>?_⟩;walk_at "r";refine if2 (fun _=>?_) (fun _=>?_)
    ·have hm:IntMulOk (cn + 48271) (cn + 48271):=mulL (by omega) (by omega);walk_at "r";have b0:=Int.emod_nonneg ((cn + 48271) * (cn + 48271)) (show (2147483629:Int)≠0 by decide);have b1:=Int.emod_lt_of_pos ((cn + 48271) * (cn + 48271)) (show (0:Int) < 2147483629 by decide);generalize (cn + 48271) * (cn + 48271) % 2147483629 = cb at b0 b1 ⊢;have Ic:IntMulOk (cb + 69621) (cb + 69621):=mulL (by omega) (by omega);walk_at "r";have d0:=Int.emod_nonneg ((cb + 69621) * (cb + 69621)) (show (2147483587:Int)≠0 by decide);have d1:=Int.emod_lt_of_pos ((cb + 69621) * (cb + 69621)) (show (0:Int) < 2147483587 by decide);generalize (cb + 69621) * (cb + 69621) % 2147483587 = cd at d0 d1 ⊢;obtain ⟨cm,Ii⟩:=Int.eq_ofNat_of_zero_le d0;refine key _ _ ⟨cm,by rw [Ii]; rfl,by omega,rfl⟩
    ·walk_at "r";obtain ⟨cm,Ii⟩:=Int.eq_ofNat_of_zero_le c0;refine key _ _ ⟨cm,by rw [Ii]; rfl,by omega,rfl⟩
  ·rintro σ Hj ⟨M,v5,v6,v7,rfl,_⟩;walk_at "r";exact kq _
end
end HH
end
namespace HH
open PySem L2 Fr Gm
theorem all_mk {l:PySem.W.OpenLaw} {w:World} {K:PySem.W.Frag} {h:Heap} {mg:Str->Option Value} {fa:Addr} (X:K.In h) (G:h.Ns mainGlobals mg) (VO:mg "law" = some (.ref fa))
  {fI km gI fZ vK aC:Addr}
  (e_MapError:PySem.W.nsIn K mainGlobals "MapError" = some (some (.ref fI)))
  (e_NoTie:PySem.W.nsIn K mainGlobals "NoTie" = some (some (.ref km)))
  (e_NoOther:PySem.W.nsIn K mainGlobals "NoOther" = some (some (.ref gI)))
  (e_NoStep:PySem.W.nsIn K mainGlobals "NoStep" = some (some (.ref fZ)))
  (e_NoMap:PySem.W.nsIn K mainGlobals "NoMap" = some (some (.ref vK)))
  (e_Desk:PySem.W.nsIn K mainGlobals "Desk" = some (some (.ref aC)))
  (d0:DefIn K "is_wrong" jj)
  (d1:DefIn K "looked" nE)
  (d2:DefIn K "ties" wA)
  (d3:DefIn K "onward" nD)
  (d4:DefIn K "ring_from" hW)
  (d5:DefIn K "least_begun" fN)
  (d6:DefIn K "steps" sq)
  (d7:DefIn K "lands" su)
  (d8:DefIn K "put_ahead" ic)
  (d9:DefIn K "tied" wB)
  (d10:DefIn K "untied" ny)
  (d11:DefIn K "rises" sr)
  (d12:DefIn K "placed" nC)
  (d13:DefIn K "left_lands" gb)
  (d14:DefIn K "other_map" ie)
  (d15:MetIn K aC "__init__" "Desk.__init__" iw)
  (d16:MetIn K aC "orders" "Desk.orders" fO)
  (d17:MetIn K aC "lay" "Desk.lay" jk)
  (d18:MetIn K aC "put_tie" "Desk.put_tie" eX)
  (d19:MetIn K aC "take_tie" "Desk.take_tie" eu)
  (d20:MetIn K aC "put_place" "Desk.put_place" dS)
  (d21:MetIn K aC "turn_inside" "Desk.turn_inside" c9)
  (d22:MetIn K aC "back" "Desk.back" iz)
  (d23:MetIn K aC "again" "Desk.again" gj)
  (d24:DefIn K "_law_cell_at" eW)
  (d25:DefIn K "_law_block" gi)
  (d26:DefIn K "_law_mixed" gf)
  (d27:DefIn K "_law_rings" gc)
  (d28:DefIn K "_law_put_tie" eU)
  (d29:DefIn K "_law_put_place" dR)
  (d30:DefIn K "_law_grown" gh)
  (d31:DefIn K "_law_same" iq)
  (d32:DefIn K "_law_corners" eV)
  (d33:DefIn K "_law_made" ir)
  (d34:DefIn K "_law_refused" eT)
  (d35:DefIn K "_law_stepped" eS)
  (d36:DefIn K "_law_hangs" gg)
  (d37:DefIn K "_law_done" iu)
  (d38:DefIn K "_law_told" ig)
  (d39:DefIn K "law" nF)
  (pg_Desk:PySem.W.plainGet K aC Str.empty = true) (hd_Desk:PySem.W.hasDictIn K aC = true) (po_Desk:PySem.W.plainOver K aC = true) (sa_Desk:PySem.W.findIn K (.ref aC) "__setattr__" = some (some (.builtin "object.__setattr__"))) (mk_Desk:PySem.W.makesIn K aC = true) (kc_Desk:PySem.W.keepIn K (.ref aC) = true)
  (na_laid:PySem.W.findIn K (.ref aC) "laid" = some none)
  (na_behind:PySem.W.findIn K (.ref aC) "behind" = some none)
  (na_taken:PySem.W.findIn K (.ref aC) "taken" = some none)
  (z0:PySem.W.nsIn K mainGlobals "len" = some none)
  (z1:PySem.W.nsIn K mainGlobals "isinstance" = some none)
  (z2:PySem.W.nsIn K mainGlobals "int" = some none)
  (z3:PySem.W.nsIn K mainGlobals "bool" = some none)
  (z4:PySem.W.nsIn K mainGlobals "enumerate" = some none)
  (z5:PySem.W.nsIn K mainGlobals "range" = some none)
  (z6:PySem.W.nsIn K mainGlobals "min" = some none)
  (z7:PySem.W.nsIn K mainGlobals "max" = some none)
  (z8:PySem.W.nsIn K mainGlobals "list" = some none)
  (z9:PySem.W.nsIn K mainGlobals "zip" = some none)
  (z10:PySem.W.nsIn K mainGlobals "all" = some none)
  (z11:PySem.W.nsIn K mainGlobals "set" = some none)
  (z12:PySem.W.nsIn K mainGlobals "sorted" = some none)
  (x_NoTie:PySem.W.excIn K km [.type "ValueError",.type "Exception",.type "BaseException",.type "object"] "ValueError.__new__" = true)
  (x_NoOther:PySem.W.excIn K gI [.type "ValueError",.type "Exception",.type "BaseException",.type "object"] "ValueError.__new__" = true)
  (x_NoStep:PySem.W.excIn K fZ [.type "ValueError",.type "Exception",.type "BaseException",.type "object"] "ValueError.__new__" = true)
  (f_m1:PySem.W.exmOne K (.ref km) (.ref fI) = some true)
  (f_m2:PySem.W.exmOne K (.ref gI) (.ref fI) = some true)
  (f_m3:PySem.W.exmOne K (.ref fZ) (.ref fZ) = some true)
  : ∃ fd:FuncData,(∀ (s:Shared) (v:Value),BindsTo s fd ⟨[v],[]⟩ [("_law_script",v)])/\∀ base:Heap,K.In base->base.Ns mainGlobals mg->gL l.prog w K mg base (bo l.prog w) 10 fa fd ["_law_script"] (rZ K):=by
 obtain ⟨fn,Xr,ann,Xh,Xs,U5,Wo,Uq,Wu,Wr,an,ln,cn,kn⟩:=d39.ex;have e:=VO.symm.trans (PySem.W.mg_of X G an);cases e
 have T:Txt K mg ⟨fI,km,gI,fZ,vK,aC⟩:=⟨PySem.W.mg_none_of X G z0,PySem.W.mg_none_of X G z1,PySem.W.mg_none_of X G z2,PySem.W.mg_none_of X G z3,PySem.W.mg_none_of X G z4,PySem.W.mg_none_of X G z5,PySem.W.mg_none_of X G z6,PySem.W.mg_none_of X G z7,PySem.W.mg_none_of X G z8,PySem.W.mg_none_of X G z9,PySem.W.mg_none_of X G z10,PySem.W.mg_none_of X G z11,PySem.W.mg_none_of X G z12,PySem.W.mg_of X G e_MapError,PySem.W.mg_of X G e_NoTie,PySem.W.mg_of X G e_NoOther,PySem.W.mg_of X G e_NoStep,PySem.W.mg_of X G e_NoMap,PySem.W.mg_of X G e_Desk,x_NoTie,x_NoOther,x_NoStep,f_m1,f_m2,f_m3,⟨pg_Desk,hd_Desk,po_Desk,sa_Desk⟩,na_laid,na_behind,na_taken⟩;refine ⟨PySem.W.fnOf "law" "law" (c8 nF) (bI nF) (ao nF) .none U5 Wo Uq ann Wu Wr,fun s v=>.of_eq rfl,fun base hK hG=>?_⟩;have xM:=uS (P:=l.prog) (w:=w) (base:=base)  (d0.jA X G fun _ _ _ _ _ _ us hl=>match us,hl with | [_,_],_=>rfl) T;have CH:=zF (P:=l.prog) (w:=w) (base:=base)  (d1.jA X G fun _ _ _ _ _ _ us hl=>match us,hl with | [_],_=>rfl) T xM;have HP:=DS (P:=l.prog) (w:=w) (base:=base)  (d2.jA X G fun _ _ _ _ _ _ us hl=>match us,hl with | [_],_=>rfl) T;have CG:=zE (P:=l.prog) (w:=w) (base:=base)  (d3.jA X G fun _ _ _ _ _ _ us hl=>match us,hl with | [_,_,_],_=>rfl) T;have vR:=sJ (P:=l.prog) (w:=w) (base:=base)  (d4.jA X G fun _ _ _ _ _ _ us hl=>match us,hl with | [_,_,_],_=>rfl) T CG;have qi:=nV (P:=l.prog) (w:=w) (base:=base)  (d5.jA X G fun _ _ _ _ _ _ us hl=>match us,hl with | [_],_=>rfl) T;have tU:=Bv (P:=l.prog) (w:=w) (base:=base)  (d6.jA X G fun _ _ _ _ _ _ us hl=>match us,hl with | [_],_=>rfl) T;have iY:=Bx (P:=l.prog) (w:=w) (base:=base)  (d7.jA X G fun _ _ _ _ _ _ us hl=>match us,hl with | [_],_=>rfl) T vR qi tU;have lY:=sL (P:=l.prog) (w:=w) (base:=base)  (d8.jA X G fun _ _ _ _ _ _ us hl=>match us,hl with | [_,_,_],_=>rfl) T;have CF:=DT (P:=l.prog) (w:=w) (base:=base)  (d9.jA X G fun _ _ _ _ _ _ us hl=>match us,hl with | [_,_,_,_],_=>rfl) T iY lY;have vQ:=zC (P:=l.prog) (w:=w) (base:=base)  (d10.jA X G fun _ _ _ _ _ _ us hl=>match us,hl with | [_,_,_],_=>rfl) T HP;have ER:=Bw (P:=l.prog) (w:=w) (base:=base)  (d11.jA X G fun _ _ _ _ _ _ us hl=>match us,hl with | [_],_=>rfl) T;have vS:=zD (P:=l.prog) (w:=w) (base:=base)  (d12.jA X G fun _ _ _ _ _ _ us hl=>match us,hl with | [_,_,_],_=>rfl) T iY lY ER;have tV:=pM (P:=l.prog) (w:=w) (base:=base)  (d13.jA X G fun _ _ _ _ _ _ us hl=>match us,hl with | [_],_=>rfl) T tU;have lZ:=sN (P:=l.prog) (w:=w) (base:=base)  (d14.jA X G fun _ _ _ _ _ _ us hl=>match us,hl with | [_],_=>rfl) T tU iY tV;have vW:=sS (P:=l.prog) (w:=w) (base:=base)  (d15.Ol mk_Desk kc_Desk fun _ _ _ _ _ _ us hl=>match us,hl with | [_,_],_=>rfl) T CH;have fS:=nY (P:=l.prog) (w:=w) (base:=base)  (d16.met fun _ _ _ _ _ _ us hl=>match us,hl with | [_],_=>rfl) T;have gJ:=uT (P:=l.prog) (w:=w) (base:=base)  (d17.met fun _ _ _ _ _ _ us hl=>match us,hl with | [_,_],_=>rfl) T;have pG:=mj (P:=l.prog) (w:=w) (base:=base)  (d18.met fun _ _ _ _ _ _ us hl=>match us,hl with | [_,_,_,_],_=>rfl) T CF gJ;have mB:=kS (P:=l.prog) (w:=w) (base:=base)  (d19.met fun _ _ _ _ _ _ us hl=>match us,hl with | [_,_,_],_=>rfl) T vQ gJ;have lE:=jV (P:=l.prog) (w:=w) (base:=base)  (d20.met fun _ _ _ _ _ _ us hl=>match us,hl with | [_,_,_],_=>rfl) T vS gJ;have jy:=i7 (P:=l.prog) (w:=w) (base:=base)  (d21.met fun _ _ _ _ _ _ us hl=>match us,hl with | [_],_=>rfl) T lZ gJ;have vX:=sT (P:=l.prog) (w:=w) (base:=base)  (d22.met fun _ _ _ _ _ _ us hl=>match us,hl with | [_],_=>rfl) T;have ua:=pU (P:=l.prog) (w:=w) (base:=base)  (d23.met fun _ _ _ _ _ _ us hl=>match us,hl with | [_],_=>rfl) T;have pF:=mh (P:=l.prog) (w:=w) (base:=base)  (d24.jA X G fun _ _ _ _ _ _ us hl=>match us,hl with | [_,_],_=>rfl) T;have tZ:=pR (P:=l.prog) (w:=w) (base:=base)  (d25.jA X G fun _ _ _ _ _ _ us hl=>match us,hl with | [_,_],_=>rfl) T;have ku:=pO (P:=l.prog) (w:=w) (base:=base)  (d26.jA X G fun _ _ _ _ _ _ us hl=>match us,hl with | [_,_],_=>rfl) T tZ;have tW:=pN (P:=l.prog) (w:=w) (base:=base)  (d27.jA X G fun _ _ _ _ _ _ us hl=>match us,hl with | [_],_=>rfl) T;have pE:=me (P:=l.prog) (w:=w) (base:=base)  (d28.jA X G fun _ _ _ _ _ _ us hl=>match us,hl with | [_,_,_,_],_=>rfl) T;have lD:=jU (P:=l.prog) (w:=w) (base:=base)  (d29.jA X G fun _ _ _ _ _ _ us hl=>match us,hl with | [_,_,_],_=>rfl) T;have tY:=pQ (P:=l.prog) (w:=w) (base:=base)  (d30.jA X G fun _ _ _ _ _ _ us hl=>match us,hl with | [_,_,_],_=>rfl) T ku tW pE lD;have iP:=sP (P:=l.prog) (w:=w) (base:=base)  (d31.jA X G fun _ _ _ _ _ _ us hl=>match us,hl with | [_,_],_=>rfl) T;have iQ:=mf (P:=l.prog) (w:=w) (base:=base)  (d32.jA X G fun _ _ _ _ _ _ us hl=>match us,hl with | [_,_],_=>rfl) T;have vU:=sQ (P:=l.prog) (w:=w) (base:=base)  (d33.jA X G fun _ _ _ _ _ _ us hl=>match us,hl with | [_,_,_],_=>rfl) T iY CF vQ vS lZ iQ;have pD:=ma (P:=l.prog) (w:=w) (base:=base)  (d34.jA X G fun _ _ _ _ _ _ us hl=>match us,hl with | [_,_,_,_],_=>rfl) T iY iQ pG mB lE jy;have pB:=l9 (P:=l.prog) (w:=w) (base:=base)  (d35.jA X G fun _ _ _ _ _ _ us hl=>match us,hl with | [_,_],_=>rfl) T vX ua;have tX:=pP (P:=l.prog) (w:=w) (base:=base)  (d36.jA X G fun _ _ _ _ _ _ us hl=>match us,hl with | [_],_=>rfl) T;have vV:=sR (P:=l.prog) (w:=w) (base:=base) Ez (d37.jA X G fun _ _ _ _ _ _ us hl=>match us,hl with | [_,_,_],_=>rfl) T iY iP vU pD pB tX fS;have vT:=sO (P:=l.prog) (w:=w) (base:=base)  (d38.jA X G fun _ _ _ _ _ _ us hl=>match us,hl with | [_,_],_=>rfl) T iP fS;exact GC (jw (st:=nF) ln cn kn) T pF ku tY iP vV vT vW fS
theorem walk {l:PySem.W.OpenLaw} {q:Program} {loose:List Str} {XP:(Str->Option Value)->Heap->Prop} {YP:World->Heap->Prop} {d:DefRec} {K:Params->PySem.W.Frag} (hn:l.most = some 63) (Kx:d.params.defaults = [])
  (hY:∀ (w:World) (h:Heap),YP w h->(K w.params).In h)
  (F:∀ (w:World) (mg:Str->Option Value) (fa:Addr) (h:Heap),(K w.params).In h->h.Ns mainGlobals mg->mg d.name = some (.ref fa)->
   ∃ fd:FuncData,(∀ (s:Shared) (u:Value),BindsTo s fd ⟨[u],[]⟩ [("_law_script",u)])/\∀ base:Heap,(K w.params).In base->base.Ns mainGlobals mg->gL l.prog w (K w.params) mg base (bo l.prog w) 10 fa fd ["_law_script"] (rZ (K w.params))) :
  PySem.W.WalkO q loose XP YP l.row.toRowW d [] (fun f vs=>PySem.call f vs):=
 L2.C7 (n:=63) (k:=10) (x:= "_law_script") (CX:=fun w=>bo l.prog w) (sp:=fun w=>rZ (K w.params)) hn (by decide) Kx ⟨rfl,by decide,by decide⟩ hY F (fun _ _ a ns hl _ hS=>⟨a,ns,rfl,hS,hl,fun _=>rfl⟩) fun _ _ _ _ _ z=>Aj z
end HH
theorem PySem.W.Fast.tw6256444783322447341:True:=trivial
theorem PySem.W.Fast.tw17327551010074199590:True:=trivial
theorem PySem.W.Fast.tw9762133031431767529:True:=trivial
theorem PySem.W.Fast.tw13017987785995401505:True:=trivial
theorem PySem.W.Fast.tw15157637426071356237:True:=trivial
theorem PySem.W.Fast.tw13598891954376893885:True:=trivial
theorem PySem.W.Fast.tw7903689426098721321:True:=trivial
theorem PySem.W.Fast.tw12058503878486433294:True:=trivial
theorem PySem.W.Fast.tw16818338566073383335:True:=trivial
theorem PySem.W.Fast.tw5092915589308714892:True:=trivial
theorem PySem.W.Fast.tw6988896631374649692:True:=trivial
theorem PySem.W.Fast.tw14979691407925113714:True:=trivial
theorem PySem.W.Fast.tw8599310055423639503:True:=trivial
theorem PySem.W.Fast.tw2868086516711415811:True:=trivial
theorem PySem.W.Fast.tw4757015294759595691:True:=trivial
theorem PySem.W.Fast.tw17671368326788732431:True:=trivial
theorem PySem.W.Fast.tw2218134576928530858:True:=trivial
theorem PySem.W.Fast.tw10875647626752208676:True:=trivial
theorem PySem.W.Fast.tw15983585621418875495:True:=trivial
theorem PySem.W.Fast.tw4034155502949434648:True:=trivial
theorem PySem.W.Fast.tw6276676115232733172:True:=trivial
theorem PySem.W.Fast.tw9142160457715650976:True:=trivial
theorem PySem.W.Fast.tw18321647649588220549:True:=trivial
theorem PySem.W.Fast.tw7304323651770595458:True:=trivial
theorem PySem.W.Fast.tw4060905781820201896:True:=trivial
theorem PySem.W.Fast.tw12005024209237817116:True:=trivial
theorem PySem.W.Fast.tw2491614453831170087:True:=trivial
theorem PySem.W.Fast.tw2752819064072191845:True:=trivial
theorem PySem.W.Fast.tw11393699262492911401:True:=trivial
theorem PySem.W.Fast.tw3982550843051910267:True:=trivial
theorem PySem.W.Fast.tw12842528654591611077:True:=trivial
theorem PySem.W.Fast.tw10737809964756552712:True:=trivial
theorem PySem.W.Fast.tw11992286628828064820:True:=trivial
theorem PySem.W.Fast.tw5351992069116772911:True:=trivial
theorem PySem.W.Fast.tw14741988291245277746:True:=trivial
theorem PySem.W.Fast.tw9899612370251684413:True:=trivial
theorem PySem.W.Fast.tw1493277160805126571:True:=trivial
theorem PySem.W.Fast.tw16496049257304506335:True:=trivial
theorem PySem.W.Fast.tw12743160408449625116:True:=trivial
theorem PySem.W.Fast.tw17566535551204489804:True:=trivial
theorem PySem.W.Fast.tw6537255167458473110:True:=trivial
theorem PySem.W.Fast.tw14603461516696443272:True:=trivial
theorem PySem.W.Fast.tw5006381019076732793:True:=trivial
theorem PySem.W.Fast.tw13401245137663226495:True:=trivial
theorem PySem.W.Fast.tw12836220555876669171:True:=trivial
theorem PySem.W.Fast.tw5348700727065755874:True:=trivial
theorem PySem.W.Fast.tw12485314727609371381:True:=trivial
theorem PySem.W.Fast.tw528552224610969639:True:=trivial
theorem PySem.W.Fast.tw7367332226311041768:True:=trivial
theorem PySem.W.Fast.tw6619619545131360093:True:=trivial
theorem PySem.W.Fast.tw1953402773976838436:True:=trivial
theorem PySem.W.Fast.tw7579930267816338339:True:=trivial
theorem PySem.W.Fast.tw3300239671921891639:True:=trivial
theorem PySem.W.Fast.tw4896940452974883993:True:=trivial
theorem PySem.W.Fast.tw13269781861483911244:True:=trivial
theorem PySem.W.Fast.tw2620634153505590665:True:=trivial
theorem PySem.W.Fast.tw1478039116509802083:True:=trivial
theorem PySem.W.Fast.tw4631356164886781099:True:=trivial
theorem PySem.W.Fast.tw5643094388670440775:True:=trivial
theorem PySem.W.Fast.tw7370513016371318160:True:=trivial
theorem PySem.W.Fast.tw4721592668205730803:True:=trivial
theorem PySem.W.Fast.tw13387055943290155838:True:=trivial
theorem PySem.W.Fast.tw1662771537793133579:True:=trivial
theorem PySem.W.Fast.tw17232909618736283881:True:=trivial
theorem PySem.W.Fast.tw15114299451011868313:True:=trivial
theorem PySem.W.Fast.tw11460573121013002496:True:=trivial
theorem PySem.W.Fast.tw17978221112717899523:True:=trivial
theorem PySem.W.Fast.tw725015188001978436:True:=trivial
theorem PySem.W.Fast.tw459302696362872468:True:=trivial
theorem PySem.W.Fast.tw4056297302873088793:True:=trivial
theorem PySem.W.Fast.tw840647928337953703:True:=trivial
theorem PySem.W.Fast.tw3182408253145214614:True:=trivial
theorem PySem.W.Fast.tw12699611504695077786:True:=trivial
theorem PySem.W.Fast.tw13283374678998411727:True:=trivial
theorem PySem.W.Fast.tw5389811852734557756:True:=trivial
theorem PySem.W.Fast.tw13513945388465600749:True:=trivial
theorem PySem.W.Fast.tw2623435994827122735:True:=trivial
theorem PySem.W.Fast.tw2399774385569036414:True:=trivial
theorem PySem.W.Fast.tw8271251407961629938:True:=trivial
theorem PySem.W.Fast.tw14862140874394162482:True:=trivial
theorem PySem.W.Fast.tw4777589325952868160:True:=trivial
theorem PySem.W.Fast.tw4040860215800772417:True:=trivial
theorem PySem.W.Fast.tw17296718719249953926:True:=trivial
theorem PySem.W.Fast.tw6176227585710814469:True:=trivial
theorem PySem.W.Fast.tw5665379844752012690:True:=trivial
theorem PySem.W.Fast.tw15916900106526722009:True:=trivial
local macro_rules | `(tactic| walk_at "d")=>`(tactic| (refine' L2.DefIn.mk0 ?a ?l ?c ?k; (case' a=>k_is); (case' l=>k_is); (case' c=>k_is); (case' k=>k_is)))
local macro_rules | `(tactic| walk_at "m")=>`(tactic| (refine' L2.MetIn.mk0 ?a ?l ?c ?k ?i; (case' a=>k_is); (case' l=>k_is); (case' c=>k_is); (case' k=>k_is); (case' i=>k_is)))
open PySem PySem.W PyProof.Rows
set_option maxRecDepth 100000 in
set_option maxHeartbeats 0 in
theorem PySem.Challenge.cw_standup_k98_whole_desk_holds : PySem.Challenge.rw_standup_k98_whole_desk.Holds := by
 w_on; o_law; k_head; (case hw=>w_witness2)
 k_fill
 refine HH.walk (l:=PySem.Challenge.rw_standup_k98_whole_desk) rfl rfl (fun w h Y=>PySem.W.kIn_of Y) ?F
 case F=>
  intro w mg fa h KX G Kk
  refine' HH.all_mk KX G Kk ?e_MapError ?e_NoTie ?e_NoOther ?e_NoStep ?e_NoMap ?e_Desk ?d0 ?d1 ?d2 ?d3 ?d4 ?d5 ?d6 ?d7 ?d8 ?d9 ?d10 ?d11 ?d12 ?d13 ?d14 ?d15 ?d16 ?d17 ?d18 ?d19 ?d20 ?d21 ?d22 ?d23 ?d24 ?d25 ?d26 ?d27 ?d28 ?d29 ?d30 ?d31 ?d32 ?d33 ?d34 ?d35 ?d36 ?d37 ?d38 ?d39 ?pg_Desk ?hd_Desk ?po_Desk ?sa_Desk ?mk_Desk ?kc_Desk ?na_laid ?na_behind ?na_taken ?z0 ?z1 ?z2 ?z3 ?z4 ?z5 ?z6 ?z7 ?z8 ?z9 ?z10 ?z11 ?z12 ?x_NoTie ?x_NoOther ?x_NoStep ?f_m1 ?f_m2 ?f_m3
  (case e_MapError=>k_is)
  (case e_NoTie=>k_is)
  (case e_NoOther=>k_is)
  (case e_NoStep=>k_is)
  (case e_NoMap=>k_is)
  (case e_Desk=>k_is)
  (case d0=>walk_at "d")
  (case d1=>walk_at "d")
  (case d2=>walk_at "d")
  (case d3=>walk_at "d")
  (case d4=>walk_at "d")
  (case d5=>walk_at "d")
  (case d6=>walk_at "d")
  (case d7=>walk_at "d")
  (case d8=>walk_at "d")
  (case d9=>walk_at "d")
  (case d10=>walk_at "d")
  (case d11=>walk_at "d")
  (case d12=>walk_at "d")
  (case d13=>walk_at "d")
  (case d14=>walk_at "d")
  (case d15=>walk_at "m")
  (case d16=>walk_at "m")
  (case d17=>walk_at "m")
  (case d18=>walk_at "m")
  (case d19=>walk_at "m")
  (case d20=>walk_at "m")
  (case d21=>walk_at "m")
  (case d22=>walk_at "m")
  (case d23=>walk_at "m")
  (case d24=>walk_at "d")
  (case d25=>walk_at "d")
  (case d26=>walk_at "d")
  (case d27=>walk_at "d")
  (case d28=>walk_at "d")
  (case d29=>walk_at "d")
  (case d30=>walk_at "d")
  (case d31=>walk_at "d")
  (case d32=>walk_at "d")
  (case d33=>walk_at "d")
  (case d34=>walk_at "d")
  (case d35=>walk_at "d")
  (case d36=>walk_at "d")
  (case d37=>walk_at "d")
  (case d38=>walk_at "d")
  (case d39=>walk_at "d")
  (case pg_Desk=>k_is)
  (case hd_Desk=>k_is)
  (case po_Desk=>k_is)
  (case sa_Desk=>k_is)
  (case mk_Desk=>k_is)
  (case kc_Desk=>k_is)
  (case na_laid=>k_is)
  (case na_behind=>k_is)
  (case na_taken=>k_is)
  (case z0=>k_is)
  (case z1=>k_is)
  (case z2=>k_is)
  (case z3=>k_is)
  (case z4=>k_is)
  (case z5=>k_is)
  (case z6=>k_is)
  (case z7=>k_is)
  (case z8=>k_is)
  (case z9=>k_is)
  (case z10=>k_is)
  (case z11=>k_is)
  (case z12=>k_is)
  (case x_NoTie=>k_exc)
  (case x_NoOther=>k_exc)
  (case x_NoStep=>k_exc)
  (case f_m1=>kts_exm)
  (case f_m2=>kts_exm)
  (case f_m3=>kts_exm)
