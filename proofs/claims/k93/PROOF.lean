import PyProof.Rows.All
import Wide.All
import OpenK.AllK
import Wide.FinOn
import Lean
import PyProof.EqAt
import PyProof.EqKinds
import PyProof.TupleCall
import PyProof.Rows.Catch
import KE.KRevIter
import KE.KDictList
import KE.KStateDown
import KE.KIntText
import PyProof.Rows.TupDisplay
import PyProof.InstStoreFacts
import PyProof.ExcInit
import PySem.Challenge.RW_standup_k93_whole_lands_of_tight_maps
open List
set_option Elab.async false
set_option linter.all false
set_option maxRecDepth 100000
set_option maxHeartbeats 4000000
def Pd:=@List.length_map
def X3:=@List.getElem?_eq_some_iff
def X4:=@List.getElem?_eq_getElem
def X5:=@PySem.wpAny_bind
def X6:=@if_neg
def X7:=@Nat.le_refl
def X8:=@List.mem_cons_of_mem
def X9:=@List.mem_singleton
def Ya:=@if_pos
def Yb:=@List.mem_of_getElem?
def Yc:=@List.mem_map
def Yd:=@Classical.byContradiction
def Ye:=@List.mem_append
def Yf:=@Option.some.inj
def Yg:=@List.mem_cons_self
def Yh:=@PySem.Heap.get?_push_of_some
def Yi:=@PySem.Heap.lt_size
def Yj:=@List.getElem?_map
def Yk:=@List.mem_cons
def Yl:=@List.map_append
def Ym:=@PySem.wpAny_pure
def Yn:=@List.getD_eq_getElem?_getD
def Yo:=@Bool.false_ne_true
def Yp:=@List.nodup_cons
def Yq:=@Nat.add_mod_right
def Yr:=@List.length_append
def Ys:=@Int.eq_ofNat_of_zero_le
def Yt:=@congrArg
def Yu:=@Int.toNat_natCast
def Yv:=@List.mem_iff_getElem
def Yw:=@decide_eq_false
def Yx:=@List.mem_append_left
def Yy:=@PySem.PassesOwn.never
def Yz:=@PySem.sizeLine_eq
def YA:=@List.mem_append_right
def YB:=@List.mem_iff_getElem?
def YC:=@decide_eq_true
def YD:=@List.nodup_append
def YE:=@List.size_toArray
def YF:=@List.mem_flatMap
def YG:=@PyProof.Rows.callWith_type1
def YH:=@PySem.Heap.get?_push_size
def YI:=@List.mem_flatten
def YJ:=@Nat.lt_of_lt_of_le
def YK:=@Nat.zero_le
def YL:=@List.getElem?_append_left
def YM:=@PySem.F.plainAttrs_list
def YN:=@Nat.lt_irrefl
def YO:=@List.mem_range
def YQ:=@Nat.mod_eq_of_lt
def YR:=@Nat.ne_of_lt
def YS:=@List.pairwise_iff_getElem
def YT:=@List.not_mem_nil
def YU:=@Ne.symm
def YV:=@List.length_cons
def YW:=@List.length_take
def YX:=@List.length_singleton
def YY:=@Bool.false_eq_true
def YZ:=@Int.emod_lt_of_pos
def Y0:=@Array.length_toList
def Y1:=@List.getElem?_append_right
def Y2:=@Nat.le_trans
def Y3:=@PySem.F.slot_list_append
def Y4:=@PySem.F.type_list_append
def Y5:=@Nat.mod_lt
def Y6:=@List.take_length
def Y7:=@PySem.W.mg_none_of
def Y8:=@List.map_cons
def Y9:=@PySem.Heap.get?_update_other
def Za:=@List.mem_cons
def Zb:=@List.mem_filter
def Zc:=@Int.emod_nonneg
def Zd:=@PySem.Heap.get?_update_self
def Ze:=@PySem.wpAny_mono
def Zf:=@or_false
def Zg:=@List.map_congr_left
def Zh:=@List.idxOf_lt_length_of_mem
def Zi:=@List.Pairwise.map
def Zj:=@Int.zero_add
def Zk:=@PySem.Calls.spliced_cons
def Zl:=@Prod.ext
def Zm:=@PySem.wpAny_loadPart'
def Zn:=@PySem.Calls.spliced_nil
def Zo:=@PySem.wpAny_holding
def Zp:=@List.getElem_inj
def Zq:=@Nat.ne_of_gt
def Zr:=@List.flatten_cons
def Zs:=@List.length_drop
def Zt:=@PySem.Around.under_plainId
def Zu:=@List.getElem_mem
def Zv:=@Nat.mod_mod
def Zw:=@PySem.W.kia_one
def Zx:=@List.filter_append
def Zy:=@List.length_filter_le
def Zz:=@List.length_pos_iff
def ZA:=@Nat.lt_trichotomy
def ZC:=@List.pairwise_map
def ZD:=@List.pairwise_flatten
def ZE:=@List.Pairwise.imp_of_mem
def ZF:=@Nat.not_lt_zero
def ZG:=@Nat.lt_succ_self
def ZH:=@List.drop_eq_getElem_cons
def ZI:=@List.getElem?_eq_none
def ZJ:=@Nat.le_of_lt
def ZK:=@Nat.lt_succ_of_lt
def ZL:=@Nat.zero_add
def ZM:=@List.flatten_append
def ZN:=@PySem.F.plain_extend_loop
def ZO:=@if_false
def ZP:=@Nat.add_sub_cancel
def ZQ:=@PySem.plainId_quiet
def ZR:=@Nat.add_zero
def ZS:=@PySem.sizeLine_eq
def ZT:=@List.flatMap_append
def ZU:=@PySem.wpAny_typeNameOfWhole_keyiter
def ZV:=@PySem.wpAny_truthy_bool
def ZW:=@List.length_pos_of_mem
def ZX:=@of_decide_eq_true
def ZY:=@List.append_nil
def ZZ:=@PySem.codeAny_builtin
def Z0:=@PySem.wpAny_updateSeq
def Z1:=@Int.toNat_of_nonneg
def Z2:=@Array.getD_eq_getD_getElem?
def Z3:=@List.flatMap_cons
def Z4:=@List.cons_append
def Z5:=@List.filter_cons
def Z6:=@List.take_append_drop
def Z7:=@PySem.F.plain_min_loop
def Z8:=@PySem.tupleKind_room_in1
def Z9:=@List.range_succ
def zaa:=@Array.getElem?_toList
def zab:=@List.append_assoc
def zac:=@List.length_nil
def zad:=@Iff.rfl
abbrev UF:=List (List Int)
abbrev UV:=List Int
abbrev Wp:=List (PySem.Addr×PySem.Obj)
abbrev WF:=PySem.Value->PySem.Shared->Prop
abbrev WP:=PySem.Str->Option PySem.Value
abbrev XL:=List PySem.Addr
abbrev XV:=List PySem.Value
abbrev ZB:=PySem.W.Frag
def zae:=@PySem.F.slot_dict_keyiterator_next
def zaf:=@List.perm_append_singleton
def zag:=@Nat.add_mul_mod_self_left
def zah:=@PySem.wpAny_passesOwn
def zai:=@List.take_of_length_le
def zaj:=@List.flatten_singleton
def zak:=@Array.toArray_toList
def zal:=@List.getElem_idxOf
def zam:=@List.map_singleton
def zan:=@List.idxOf_lt_length_iff
def zao:=@PySem.wpAny_typeNameOf_keyiter
def zap:=@PySem.mem_of_lookup
def zaq:=@PySem.wpAny_call_entry
def zar:=@PySem.wpAny_seqItems
def zas:=@PySem.wpAny_callSpecial?_slot
def zat:=@List.getElem_map
def zau:=@PySem.SeqAt.EqAt.int_int
def zav:=@PySem.Calls.callWith_builtin
def zaw:=@List.length_range
def zax:=@List.getElem?_set
def zay:=@List.take_add_one
def zaz:=@PySem.wpAny_specialOf
def zaA:=@beq_false_of_ne
def zaB:=@List.mem_of_mem_take
def zaC:=@PySem.builtinLookup_eq_fast
def zaD:=@PySem.wpAny_newObj_type
def zaE:=@List.map_map
def zaF:=@PySem.wpAny_dictEntries
def zaG:=@List.length_set
def zaH:=@PySem.call_meets
def zaI:=@PySem.wpAny_of_eq
def zaJ:=@List.idxOf_cons
def zaK:=@PySem.Heap.size_update
def zaL:=@PySem.Heap.SameBut.update
def zaM:=@PySem.Paired.length
def zaN:=@Option.isSome_iff_exists
def zaO:=@PySem.W.KasT.kasWp_bind
def zaP:=@Nat.mod_add_mod
def zaQ:=@List.erase_cons_head
def zaR:=@List.mem_filter
def zaS:=@List.nodup_cons
def zaT:=@List.erase_append_right
def zaU:=@List.filter_cons_of_pos
def zaV:=@List.filter_cons_of_neg
def zaW:=@Nat.le_succ
def zaX:=@PySem.wpAny_letGo
def zaY:=@List.countP_eq_length_filter
def zaZ:=@decide_eq_false_iff_not
def zba:=@PySem.wpAny_pyIter_rangeiter
def zbb:=@Nat.lt_trans
def zbc:=@PySem.Heap.get?_push_ne
def zbd:=@List.range_succ_eq_map
def zbe:=@Nat.mul_comm
def zbf:=@Array.getElem?_eq_none
def zbg:=@Nat.mod_self
def zbh:=@not_or
def zbi:=@Nat.le_of_succ_le
def zbj:=@Nat.mul_le_mul
def zbk:=@PySem.F.slot_dict_get
def zbl:=@PySem.wpAny_isOneOf_keyiter
def zbm:=@List.mem_append
def zbn:=@Nat.le_add_right
def zbo:=@Option.getD_some
def zbp:=@List.mem_singleton
def zbq:=@Nat.add_assoc
def zbr:=@List.append_of_mem
def zbs:=@PySem.Calls.evalArgs_plain
def zbt:=@PySem.F.slot_list_lt
def zbu:=@List.ext_getElem
def zbv:=@PySem.wpAny_field
def zbw:=@PySem.wpAny_execs_nil
def zbx:=@Bool.eq_iff_iff
def zby:=@Nat.div_add_mod
def zbz:=@PySem.F.slot_zip_next
def zbA:=@PySem.typeLookup_type
def zbB:=@List.mem_of_mem_drop
def zbC:=@beq_eq_false_iff_ne
def zbD:=@List.countP_eq_zero
def zbE:=@List.ext_getElem?
def zbF:=@Nat.add_comm
def zbG:=@List.nodup_append
def zbH:=@Nat.sub_zero
def zbI:=@Nat.zero_mod
def zbL:=@List.find?_cons
def zbN:=@of_decide_eq_false
def zbP:=@List.Perm.refl
def zbQ:=@decide_eq_true_iff
def zbS:=@Int.lt_of_le_of_lt
def zbU:=@if_true
def zbV:=@Option.isSome_map
def zbW:=@decide_eq_true_eq
def zbX:=@Nat.mul_add
def Tk:=@Int.natCast_nonneg
def Ty:=@Int.le_of_lt
def TD:=@Nat.succ_pos
def T0:=@Nat.succ_lt_succ
def Uf:=@Nat.sub_le
namespace L2
open PySem PySem.Spec PyProof.Rows
abbrev Key:=Sum Int Str
def pZ:Key->Value->Bool
 | .inl k,v=>Value.isInt k v
 | .inr x,v=>Value.isStrOf x v
def PN (w:World):Key->Int
 | .inl k=>hashInt k
 | .inr x=>hashStr w x
theorem cL:∀ {k:Key} {v:Value},pZ k v=true->(∃ i t,k=Sum.inl i/\v=Value.int i t)\/(∃ x t,k=Sum.inr x/\v=Value.str x t)
 | .inl i,v,h=>by
  obtain ⟨t,e⟩:=Value.isInt_shape (k:=i) (v:=v) h;exact .inl ⟨i,t,rfl,e⟩
 | .inr x,v,h=>by
  obtain ⟨t,e⟩:=Value.isStrOf_shape (x:=x) (v:=v) h;exact .inr ⟨x,t,rfl,e⟩
theorem BX (i:Int) (t:Tok):pZ (.inl i) (.int i t)=true:=by simp [pZ,Value.isInt]
theorem BW (x:Str) (t:Tok):pZ (.inr x) (.str x t)=true:=by simp [pZ,Value.isStrOf]
theorem Kb (a b:Int):decide ((Sum.inl a:Key)=Sum.inl b)=(a==b):=by
 by_cases e:a=b
 ·subst e;simp
 ·have h:¬(Sum.inl a:Key)=Sum.inl b:=λq=>e (Sum.inl.inj q);rw [Yw h];exact (zbC.mpr e).symm
theorem J3 (a b:Str):decide ((Sum.inr a:Key)=Sum.inr b)=decide (a=b):=by
 by_cases e:a=b
 ·subst e;simp
 ·have h:¬(Sum.inr a:Key)=Sum.inr b:=λq=>e (Sum.inr.inj q);rw [Yw h,Yw e]
def Ka (a:Int) (b:Str):decide ((Sum.inl a:Key)=Sum.inr b)=false:=Yw (λq=>nomatch q)
def J4 (a:Str) (b:Int):decide ((Sum.inr a:Key)=Sum.inl b)=false:=Yw (λq=>nomatch q)
def bA (prog:Program) (w:World):PySem.KeyKind prog w Key where
 is:=pZ
 hash:=PN w
 inj:=λv a b ha hb=>by
  rcases cL ha with ⟨i,t,rfl,rfl⟩|⟨x,t,rfl,rfl⟩
  ·rcases cL hb with ⟨j,u,rfl,e⟩|⟨y,u,rfl,e⟩
   ·injection e with e1 _;rw [e1]
   ·exact nomatch e
  ·rcases cL hb with ⟨j,u,rfl,e⟩|⟨y,u,rfl,e⟩
   ·exact nomatch e
   ·injection e with e1 _;rw [e1]
 byValue:=λk v h=>by
  rcases cL h with ⟨i,t,rfl,rfl⟩|⟨x,t,rfl,rfl⟩<;>rfl
 pyHash:=λhv h=>by
  rcases cL hv with ⟨i,t,rfl,rfl⟩|⟨x,t,rfl,rfl⟩
  ·exact wpAny_pyHash_int h
  ·exact wpAny_pyHash_str h
 eqBool:=λhu hv h=>by
  rcases cL hu with ⟨i,t,rfl,rfl⟩|⟨x,t,rfl,rfl⟩
  ·rcases cL hv with ⟨j,u,rfl,rfl⟩|⟨y,u,rfl,rfl⟩
   ·rw [Kb] at h;exact wpAny_eqBool_int h
   ·rw [Ka] at h;exact SeqAt.EqAt.int_str i t y u _ _ _ _ h
  ·rcases cL hv with ⟨j,u,rfl,rfl⟩|⟨y,u,rfl,rfl⟩
   ·rw [J4] at h;exact SeqAt.EqAt.str_int x t j u _ _ _ _ h
   ·rw [J3] at h;exact wpAny_eqBool_str h
 «strs»:=λk x t v h=>by
  rcases cL h with ⟨i,u,rfl,e⟩|⟨y,u,rfl,e⟩
  ·exact nomatch e
  ·injection e with e1 _;subst e1;cases v<;>rfl
def yU (prog:Program) (w:World) (k:Key) (v:Value):(bA prog w).is k v=pZ k v:=rfl
def wQ (prog:Program) (w:World) (i:Int) (t:Tok):(bA prog w).is (.inl i) (.int i t)=true:=BX i t
def wO (prog:Program) (w:World) (x:Str) (t:Tok):(bA prog w).is (.inr x) (.str x t)=true:=BW x t
inductive V where
 | dO|bl (b:Bool) | int (i:Int) | str (x:Str) | Bh (b:Array UInt8) | ET (b:UInt64) | ref (a:Addr) | ty (n:String)
 deriving DecidableEq
def RelV:V->Value->Prop
 | .dO,u=>u=Value.none
 | .bl b,u=>u=Value.bool b
 | .int i,u=>∃ t,u=Value.int i t
 | .str x,u=>∃ t,u=Value.str x t
 | .Bh b,u=>∃ t,u=Value.bytes b t
 | .ET b,u=>∃ t,u=Value.float b t
 | .ref a,u=>u=Value.ref a
 | .ty n,u=>u=Value.type n
abbrev Vals:List V->XV->Prop:=Paired RelV
def Vals.length (r:Vals xs us):xs.length=us.length:=zaM r
theorem Vals.get:∀ {xs:List V} {us:XV} {i:Nat} {x:V},Vals xs us->xs[i]?=some x->∃ u,us[i]?=some u/\RelV x u
 | _,_,_,_,.nil,e=>by simp at e
 | _,_,0,_,.cons r _,e=>by simp at e;subst e;exact ⟨_,rfl,r⟩
 | _,_,i+1,x,.cons _ t,e=>by
  obtain ⟨u,h1,h2⟩:=Vals.get (i:=i) (x:=x) t (by simpa using e);exact ⟨u,by simpa using h1,h2⟩
theorem Vals.set {x:V} {u:Value} (r:RelV x u):∀ {xs:List V} {us:XV} (i:Nat),Vals xs us->Vals (xs.set i x) (us.set i u)
 | _,_,_,.nil=>.nil
 | _,_,0,.cons _ t=>.cons r t
 | _,_,i+1,.cons q t=>.cons q (Vals.set r i t)
theorem Vals.append:∀ {xs ys:List V} {us ws:XV},Vals xs us->Vals ys ws->Vals (xs++ys) (us++ws)
 | _,_,_,_,.nil,s=>s
 | _,_,_,_,.cons r t,s=>.cons r (Vals.append t s)
theorem Vals.take:∀ {xs:List V} {us:XV} (n:Nat),Vals xs us->Vals (xs.take n) (us.take n)
 | _,_,0,_=>.nil
 | _,_,_+1,.nil=>.nil
 | _,_,n+1,.cons r t=>.cons r (Vals.take n t)
theorem Vals.drop:∀ {xs:List V} {us:XV} (n:Nat),Vals xs us->Vals (xs.drop n) (us.drop n)
 | _,_,0,r=>r
 | _,_,_+1,.nil=>.nil
 | _,_,n+1,.cons _ t=>Vals.drop n t
def nk:Option V->Option Value->Prop
 | some v,some u=>RelV v u
 | none,none=>True
 | _,_=>False
def KV {κ:Type}:List (κ×V)->List (κ×Value)->Prop:=Paired λ(p:κ×V) (q:κ×Value)=>p.1=q.1/\RelV p.2 q.2
def kV:Key->V
 | .inl i=>.int i
 | .inr x=>.str x
inductive HO where
 /-- a list -/
 | lst (xs:List V)
 /-- a tuple (never changes) -/
 | tup (xs:List V)
 /-- a dict HG keys are ints and texts;one HG keys are tuples of ints and texts (mE empty one is both) -/
 | dK (kvs:List (Key×V)) | dT (kvs:List (List Key×V))
 /-- a set of ints: aY members,aY size -/
 | set (S:Int->Bool) (n:Nat)
 /-- an instance of mE class at C,aY dict at dx,aY attributes -/
 | ins (C dx:Addr) (fs:List (Str×V))
 /-- mE dict of mE instance at x -/
 | own (x:Addr)
 /-- mE dict of an exception -/
 | xd (fs:List (Str×V))
 /-- a bound method,f of x -/
 | met (f x:Addr)
 /-- a range object lo,lo+1,.. below hi -/
 | O7 (lo hi:Int)
 /-- a LU OZ is known to mE object (mE Dk;a dict while a loop walks it): read,never written while it is so -/
 | fN (o:Obj) (u:HO)
 /-- a code object's table -/
 | Jb (ps:Array Value)
 /-- any other LU,by LL is true of aY one object (a def of one's own: WM a S n:=HO.ext λh=>..) -/
 | ext (φ:Heap->Prop)
abbrev Hp:=Addr->Option HO
def upd (H:Hp) (a:Addr) (o:HO):Hp:=λb=>if b=a then some o else H b
theorem ae:upd H a o a=some o:=by unfold upd;rw [Ya rfl]
theorem ak (h:b≠a):upd H a o b=H b:=by unfold upd;rw [X6 h]
theorem Eh {H:Hp} {a b:Addr} {o u:HO} (h:H a=some o) (h':H b=some u) (d:o≠u):a≠b:=by
 intro e;subst e;rw [h] at h';exact d (Yf h')
theorem aP {H:Hp} {a b:Addr} {o:HO} (h:H a=some o) (h':H b=none):a≠b:=by
 intro e;subst e;rw [h] at h';cases h'
section
variable (P:Program) (w:World)
def bC (H:Hp) (h:Heap) (a:Addr):HO->Prop
 | .lst xs=>xs.length<=sizeLine/\∃ (aY:XV) (n:Nat),Vals xs aY/\h.get? a=some { cls:=.type "list",data:=.seq aY.toArray n }
 | .tup xs=>xs.length<=sizeLine/\∃ aY:XV,Vals xs aY/\IsTup h a aY.toArray
 | .dK kvs=>kvs.length<=sizeLine/\(a==sysModules)=false/\∃ vs,KV kvs vs/\h.DictOf (bA P w) a vs
 | .dT kvs=>kvs.length<=sizeLine/\(a==sysModules)=false/\∃ xs:List (List Key×Addr×Value),
   Paired (λ(p:List Key×V) (q:List Key×Addr×Value)=>p.1=q.1/\H q.2.1=some (.tup (p.1.map kV))/\RelV p.2 q.2.2) kvs xs/\
   ∃ o es ep,h.get? a=some o/\o.ExactDict/\o.data=.dict es ep/\es.toList=xs.map (entryOfKey (tupleKind (bA P w)))/\(xs.map (·.1)).Nodup
 | .set S n=>h.SetOf (intKind P w) a S n
 | .ins C dx fs=>H dx=some (.own a)/\fs.length<=1000/\dx≠a/\h.get? a=some (PySem.W.instObj C dx)/\
   ∃ mA,h.Ns1 dx mA/\(∀ f,nk (fs.lookup f) (mA f))/\PySem.Within mA (fs.map (·.1))
 | .own _=>∃ o,h.get? a=some o
 | .xd fs=>∃ mA,h.Ns1 a mA/\∀ f,nk (fs.lookup f) (mA f)
 | .O7 lo hi=>∃ t u v,h.get? a=some { cls:=.type "range",data:=.fields #[.int lo t,.int hi u,.int 1 v] }
 | .fN o u=>h.get? a=some o/\bC H h a u
 | .Jb ps=>h.get? a=some { cls:=.none,data:=.fields ps }
 | .met f x=>h.get? a=some (PySem.W.methodObj (.ref f) (.ref x))
 | .ext φ=>φ h/\(∃ o,h.get? a=some o)/\∀ h1 h2:Heap,φ h1->(∀ o,h1.get? a=some o->h2.get? a=some o)->φ h2
def kh (H:Hp) (h:Heap):Prop:=∀ a o,H a=some o->bC P w H h a o
end
section
variable {P:Program} {w:World} {H H':Hp} {h h':Heap} {a:Addr} {o:HO}
theorem bC.lt (x:bC P w H h a o):a<h.objs.size:=by
 cases o with
 | lst xs=>obtain ⟨_,_,_,_,e⟩:=x;exact Yi e
 | tup xs=>obtain ⟨_,_,_,p⟩:=x;exact p.lt
 | dK kvs=>obtain ⟨_,_,_,_,o,_,_,e,_⟩:=x;exact Yi e
 | dT kvs=>obtain ⟨_,_,_,_,o,_,_,e,_⟩:=x;exact Yi e
 | set S n=>obtain ⟨o,_,_,_,e,_⟩:=x;exact Yi e
 | ins C dx fs=>obtain ⟨_,_,_,e,_⟩:=x;exact Yi e
 | own y=>obtain ⟨_,e⟩:=x;exact Yi e
 | xd fs=>obtain ⟨_,⟨_,_,_,e,_⟩,_⟩:=x;exact Yi e
 | O7 lo hi=>obtain ⟨_,_,_,e⟩:=x;exact Yi e
 | fN ob u=>obtain ⟨e,_⟩:=x;exact Yi e
 | Jb ps=>exact Yi (show h.get? a=some _ from x)
 | met f y=>exact Yi (show h.get? a=some _ from x)
 | ext φ=>obtain ⟨_,⟨_,e⟩,_⟩:=x;exact Yi e
theorem Paired.yW {α β:Type} {F G:α->β->Prop}:∀ {l₁:List α} {l₂:List β},Paired F l₁ l₂->(∀ a b,F a b->G a b)->Paired G l₁ l₂
 | _,_,.nil,_=>.nil
 | _,_,.cons r t,f=>.cons (f _ _ r) (Paired.yW t f)
theorem bC.jq (x:bC P w H h a o) (k:∀ b u,(b=a\/H b=some (.own a))->h.get? b=some u->h'.get? b=some u)
  (ho:∀ b,H b=some (.own a)->H' b=some (.own a)) (ht:∀ b xs,H b=some (.tup xs)->H' b=some (.tup xs)):bC P w H' h' a o:=by
 induction o with
 | lst xs=>obtain ⟨z,aY,n,r,e⟩:=x;exact ⟨z,aY,n,r,k _ _ (.inl rfl) e⟩
 | tup xs=>obtain ⟨z,aY,r,ob,e,c⟩:=x;exact ⟨z,aY,r,ob,k _ _ (.inl rfl) e,c⟩
 | dK kvs=>obtain ⟨z,y,vs,r,ob,es,ep,e,c⟩:=x;exact ⟨z,y,vs,r,ob,es,ep,k _ _ (.inl rfl) e,c⟩
 | dT kvs=>
  obtain ⟨z,y,xs,r,ob,es,ep,e,c⟩:=x;exact ⟨z,y,xs,Paired.yW r λp q z=>⟨z.1,ht _ _ z.2.1,z.2.2⟩,ob,es,ep,k _ _ (.inl rfl) e,c⟩
 | set S n=>obtain ⟨ob,es,ep,t,e,c⟩:=x;exact ⟨ob,es,ep,t,k _ _ (.inl rfl) e,c⟩
 | ins C dx fs=>
  obtain ⟨d,z,ne,e,mA,⟨od,es,ep,e2,c⟩,r⟩:=x;exact ⟨ho _ d,z,ne,k _ _ (.inl rfl) e,mA,⟨od,es,ep,k _ _ (.inr d) e2,c⟩,r⟩
 | own y=>obtain ⟨ob,e⟩:=x;exact ⟨ob,k _ _ (.inl rfl) e⟩
 | xd fs=>obtain ⟨mA,⟨od,es,ep,e,c⟩,r⟩:=x;exact ⟨mA,⟨od,es,ep,k _ _ (.inl rfl) e,c⟩,r⟩
 | O7 lo hi=>obtain ⟨t,u,v,e⟩:=x;exact ⟨t,u,v,k _ _ (.inl rfl) e⟩
 | fN ob u ih=>obtain ⟨e,q⟩:=x;exact ⟨k _ _ (.inl rfl) e,ih q⟩
 | Jb ps=>
  have e:h.get? a=some { cls:=.none,data:=.fields ps }:=x;show h'.get? a=some { cls:=.none,data:=.fields ps };exact k a _ (.inl rfl) e
 | met f y=>
  have e:h.get? a=some (PySem.W.methodObj (.ref f) (.ref y)):=x;show h'.get? a=some (PySem.W.methodObj (.ref f) (.ref y));exact k a _ (.inl rfl) e
 | ext φ=>obtain ⟨p,⟨o,e⟩,st⟩:=x;exact ⟨st _ _ p λo q=>k _ _ (.inl rfl) q,⟨o,k _ _ (.inl rfl) e⟩,st⟩
def kh.lt (x:kh P w H h) (e:H a=some o):a<h.objs.size:=(x a o e).lt
theorem kh.fresh (x:kh P w H h) (e:h.objs.size<=a):H a=none:=by
 cases q:H a with
 | none=>rfl
 | some u=>exact absurd (YJ (x.lt q) e) (YN _)
def kh.kept (x:kh P w H h) (k:∀ b u,h.get? b=some u->h'.get? b=some u):kh P w H h':=λa o e=>
 (x a o e).jq (λb u _ q=>k b u q) (λ_ q=>q) λ_ _ q=>q
theorem kh.laid (x:kh P w H h) (k:∀ b u,h.get? b=some u->h'.get? b=some u) (hp:h.objs.size<=a) (new:bC P w (upd H a o) h' a o):kh P w (upd H a o) h':=λb u e=>by
 have hn:=x.fresh hp;by_cases hb:b=a
 ·subst hb;rw [ae] at e;cases e;exact new
 ·rw [ak hb] at e;exact (x b u e).jq (λc v _ q=>k c v q) (λc q=>by rw [ak (aP q hn)];exact q) λc xs q=>by rw [ak (aP q hn)];exact q
end
def Rd (H:Hp) (a:Addr) (u:HO):Prop:=H a=some u\/∃ o,H a=some (.fN o u)
theorem Rd.ok (r:Rd H a u) (x:kh P w H h):bC P w H h a u:=by
 rcases r with r|⟨o,r⟩
 ·exact x a u r
 ·obtain ⟨_,q⟩:=x a _ r;exact q
def NO:Option HO->Prop
 | some (.lst _)=>True
 | some (.dK _)=>True
 | some (.dT _)=>True
 | some (.set _ _)=>True
 | some (.ins _ _ _)=>True
 | some (.ext _)=>True
 | _=>False
theorem kh.write (ok:kh P w H h) (mu:NO (H x)) (he:e=x\/H e=some (.own x)) (k:∀ b u,b≠e->h.get? b=some u->h'.get? b=some u) (Lz:∃ u,h'.get? e=some u)
  (new:bC P w (upd H x o') h' x o'):kh P w (upd H x o') h':=λb u q=>by
 have Mq:∀ c y,H c=some (.own y)->c≠x:=λc y r z=>by subst z;rw [r] at mu;exact mu
 have Pw:∀ c xs,H c=some (.tup xs)->c≠x:=λc xs r z=>by subst z;rw [r] at mu;exact mu
 by_cases hb:b=x
 ·subst hb;rw [ae] at q;cases q;exact new
 ·rw [ak hb] at q;by_cases Ky:b=e
  ·have q':H b=some (.own x):=by
    rcases he with z|z
    ·exact absurd (Ky.trans z) hb
    ·rw [Ky];exact z
   rw [q] at q';cases q';obtain ⟨v,hv⟩:=Lz;exact ⟨v,by rw [Ky];exact hv⟩
  ·refine (ok b u q).jq (λc v hc r=>k c v ?_ r) (λc r=>by rw [ak (Mq c b r)];exact r) λc xs r=>by rw [ak (Pw c xs r)];exact r
   rcases hc with rfl|hc
   ·exact Ky
   ·rintro rfl;rcases he with z|z
    ·exact Mq c b hc z
    ·rw [hc] at z;cases z;exact hb rfl
structure Un (fs ex:XL) (H H':Hp) (h h':Heap):Prop where
 keep:∀ b o,h.get? b=some o->H b=none->b∉fs->b∉ex->h'.get? b=some o
 slot:∀ b o,h.get? b=some o->H b=none->b∈fs->b∉ex->∃ sl,h'.get? b=some { o with slots:=sl }
 free:∀ b o,h.get? b=some o->H b=none->b∉ex->H' b=none
 there:∀ b o,h.get? b=some o->b∉ex->∃ o',h'.get? b=some o'
 tJ:∀ b xs,H b=some (.tup xs)->H' b=some (.tup xs)
 rB:∀ b o u,H b=some (.fN o u)->H' b=some (.fN o u)
 tK:∀ b ps,H b=some (.Jb ps)->∃ more,H' b=some (.Jb (ps++more))
section
variable {fs Wf ex XS:XL} {H H1 H2:Hp} {h h1 h2 h':Heap} {a x e:Addr} {o:HO}
theorem Un.any (u:Un fs ex H H1 h h1) (q:h.get? b=some ob) (n:H b=none) (hx:b∉ex):∃ sl,h1.get? b=some { ob with slots:=sl }:=by
 by_cases hb:b∈fs
 ·exact u.slot b ob q n hb hx
 ·exact ⟨ob.slots,u.keep b ob q n hb hx⟩
theorem Un.kept (k:∀ b u,h.get? b=some u->h'.get? b=some u):Un fs ex H H h h':=
 ⟨λb ob q _ _ _=>k b ob q,λb ob q _ _ _=>⟨ob.slots,k b ob q⟩,λ_ _ _ n _=>n,λb ob q _=>⟨ob,k b ob q⟩,λ_ _ q=>q,λ_ _ _ q=>q,λ_ ps q=>⟨#[],by rw [q];simp⟩⟩
def Un.refl:Un fs ex H H h h:=Un.kept λ_ _ q=>q
theorem Un.laid (k:∀ b u,h.get? b=some u->h'.get? b=some u) (hp:h.objs.size<=a) (hn:H a=none):Un fs ex H (upd H a o) h h' where
 keep:=λb u q _ _ _=>k b u q
 slot:=λb u q _ _ _=>⟨u.slots,k b u q⟩
 free:=λb u q n _=>by rw [ak (YR (YJ (Yi q) hp))];exact n
 there:=λb u q _=>⟨u,k b u q⟩
 tJ:=λb xs q=>by rw [ak (aP q hn)];exact q
 rB:=λb u xs q=>by rw [ak (aP q hn)];exact q
 tK:=λb ps q=>⟨#[],by rw [ak (aP q hn),q];simp⟩
theorem Un.write (mu:NO (H x)) (he:e=x\/H e=some (.own x)) (k:∀ b u,b≠e->h.get? b=some u->h'.get? b=some u) (Lz:∃ u,h'.get? e=some u):Un fs ex H (upd H x o) h h':=by
 have hx:∀ b,H b=none->b≠x:=λb n z=>by subst z;rw [n] at mu;exact mu
 have hb:∀ b,H b=none->b≠e:=λb n z=>by
  subst z;rcases he with r|r
  ·exact hx b n r
  ·rw [n] at r;cases r
 have hm:∀ b u,H b=some u->¬NO (some u)->b≠x:=λb u q nm z=>by subst z;rw [q] at mu;exact nm mu
 refine ⟨λb u q n _ _=>k b u (hb b n) q,λb u q n _ _=>⟨u.slots,k b u (hb b n) q⟩,λb u q n _=>by rw [ak (hx b n)];exact n,λb u q _=>?_,
  λb xs q=>by rw [ak (hm b _ q λz=>z)];exact q,λb u xs q=>by rw [ak (hm b _ q λz=>z)];exact q,λb ps q=>⟨#[],by rw [ak (hm b _ q λz=>z),q];simp⟩⟩
 by_cases Ky:b=e
 ·subst Ky;exact Lz
 ·exact ⟨u,k b u Ky q⟩
end
def NY (h:Heap) (H:Hp):XL:=(List.range h.objs.size).filter λa=>(H a).isSome
def uV (h:Heap) (H:Hp):Heap:=PySem.W.hideAll h (NY h H)
def B3 (h:Heap) (H:Hp):(uV h H).objs.size=h.objs.size:=PySem.W.hideAll_size _ _
theorem EI (e:h.get? b=some o) (n:H b=none):(uV h H).get? b=some o:=
 PySem.W.hideAll_get _ e λhm=>by
  have q:(H b).isSome=true:=(Zb.mp hm).2;rw [n] at q;simp at q
theorem Gz (e:(uV h H).get? b=some o):h.get? b=some o/\H b=none:=by
 have e':h.get? b=some o:=PySem.W.of_hideAll (NY h H) e;refine ⟨e',?_⟩;cases q:H b with
 | none=>rfl
 | some x=>
  have hm:b∈NY h H:=Zb.mpr ⟨YO.mpr (Yi e'),by simp [q]⟩;have z:(uV h H).get? b=none:=PySem.W.hideAll_none (NY h H) hm;rw [z] at e;cases e
def Hk (g h:Heap) (L:Addr):Wp:=(List.range h.objs.size).filterMap λa=>if a=L\/(g.get? a).isSome=true then none else (h.get? a).map λo=>(a,o)
def rest (g h:Heap) (L d:Addr):Wp:=(Hk g h L).filter λp=>decide (p.1≠d)
structure Mod (K:ZB) (mg:WP) (base:Heap):Prop where
 PM:K.In base
 glob:base.Ns mainGlobals mg
 blt:∃ mb,base.Ns builtinsNs mb/\∀ x:Str,x≠ "__name__"->mb x=bootBuiltins x
 nolimit:base.NoLimit
structure Cx where
 prog:Program
 w:World
 K:ZB
 mg:Str->Option Value
 base:Heap
 A:Around
 N:List Str
 s₀:Shared
 H₀:Hp
 env:Env
 outer:List Env
 stack:List Env
 ex:XL
 fn:Str->Bool
 calm:Bool
 pn:Wp
 xe:Value->Shared->Prop
def xG (l:List Env):XL:=l.filterMap (·.frame)
abbrev Cx.fs (X:Cx):XL:=xG X.outer
def OM (sc:Scope) (x:Str):Prop:=sc.names.lookup x=some .local\/sc.names.lookup x=some .cell\/sc.names.lookup x=some .free
def Loc (sc:Scope) (x:Str):Prop:=sc.names.lookup x=some .local\/sc.names.lookup x=some .cell
def Look (env:Env) (h:Heap) (m:WP) (x:Str) (u:Value):Prop:=
 (env.kindOf x=some .local/\m x=some u)\/((env.kindOf x=some .cell\/env.kindOf x=some .free)/\∃ c,env.cells.lookup x=some c/\h.IsCell c (some u))
structure Cx.Ok (X:Cx):Prop where
 mod:Mod X.K X.mg X.base
 kind:X.env.scope.kind=.function
 glob:X.env.globals=mainGlobals
 blt:X.env.builtins=builtinsNs
 above:X.s₀.heap.objs.size<=X.env.locals
 inj:∀ x y c,X.env.cells.lookup x=some c->X.env.cells.lookup y=some c->x=y
 has:∀ x,(X.env.kindOf x=some .cell\/X.env.kindOf x=some .free)->∃ c,X.env.cells.lookup x=some c
 NI:∀ x c,X.fn x=true->X.env.cells.lookup x=some c->X.s₀.heap.objs.size<=c
 hd:X.calm=true->X.A.handled=none
 frames:X.A.frames=some X.stack
 FU:X.stack=X.outer\/(X.stack=X.env::X.outer/\X.env.frame=some X.env.locals)
 To:∀ b∈X.ex,b≠X.env.locals/\∀ x c,X.env.cells.lookup x=some c->c≠b
 bs:∀ b o,X.base.get? b=some o->X.s₀.heap.get? b=some o/\X.H₀ b=none
 K4:X.base.objs.size<=X.s₀.heap.objs.size
 Ec:∀ b o,X.base.get? b=some o->b∉X.ex
 G5:∀ b∈X.ex,b∉X.fs
 qx:X.s₀.heap.FunFrames X.base X.outer
 LC:∀ b∈X.fs,X.H₀ b=none
structure Inv (X:Cx) (pins:Wp) (σ:List (Option V)) (H:Hp) (s:Shared):Prop where
 ok:X.Ok
 os:s.os=X.s₀.os
 bare:AllBare s.gens
 base:Un X.fs X.ex X.H₀ H X.s₀.heap s.heap
 loc:∃ m,s.heap.Ns X.env.locals m/\∀ (i:Nat) (x:Str) (v:V),X.N[i]?=some x->σ[i]?=some (some v)->OM X.env.scope x->∃ u,RelV v u/\Look X.env s.heap m x u
 cell:∀ x c,X.env.cells.lookup x=some c->∃ v,s.heap.IsCell c v
 free:H X.env.locals=none
 jc:∀ x c,X.env.cells.lookup x=some c->H c=none
 pin:∀ p∈X.pn++pins,s.heap.get? p.1=some p.2/\H p.1=none/\p.1≠X.env.locals/\p.1∉X.fs/\∀ v,p.2.data≠.cell v
 bH:kh X.prog X.w H s.heap
 len:σ.length=X.N.length
section
variable {X:Cx} {pins:Wp} {σ:List (Option V)} {H H':Hp} {s:Shared} {h':Heap}
theorem Cx.Ok.Py (ok:X.Ok) (e:X.base.get? b=some o):b∉X.fs:=λhb=>by
 have:=(ok.qx.mem hb).1;rw [e] at this;cases this
def Inv.bs (I:Inv X pins σ H s):∀ b o,X.base.get? b=some o->s.heap.get? b=some o/\H b=none:=λb o e=>
 ⟨I.base.keep b o (I.ok.bs b o e).1 (I.ok.bs b o e).2 (I.ok.Py e) (I.ok.Ec b o e),I.base.free b o (I.ok.bs b o e).1 (I.ok.bs b o e).2 (I.ok.Ec b o e)⟩
def Inv.bk (I:Inv X pins σ H s):∀ b o,X.base.get? b=some o->s.heap.get? b=some o:=λb o e=>(I.bs b o e).1
def Inv.mod (I:Inv X pins σ H s):Mod X.K X.mg X.base:=I.ok.mod
def Inv.xf (I:Inv X pins σ H s):X.K.In s.heap:=I.ok.mod.PM.keeps I.bk
def Inv.lt (I:Inv X pins σ H s):X.env.locals<s.heap.objs.size:=let ⟨_,hn,_⟩:=I.loc;hn.lt
def Inv.sz (I:Inv X pins σ H s):X.s₀.heap.objs.size<=s.heap.objs.size:=Y2 I.ok.above (ZJ I.lt)
theorem Inv.Px (I:Inv X pins σ H s) {a:Addr} (h:s.heap.objs.size<=a):a∉X.fs:=λhb=>by
 obtain ⟨_,o,ho,_⟩:=I.ok.qx.mem hb;exact absurd (YJ (Yi ho) (Y2 I.sz h)) (YN _)
theorem Inv.K0 (I:Inv X pins σ H s):∀ x c,X.env.cells.lookup x=some c->c≠X.env.locals:=λx c e z=>by
 obtain ⟨v,o,ho,hd⟩:=I.cell x c e;obtain ⟨m,⟨o',es,ep,Ko,B7,_⟩,_⟩:=I.loc;rw [z,Ko] at ho;cases ho;rw [B7] at hd;cases hd
theorem Inv.qx (I:Inv X pins σ H s):s.heap.FunFrames X.base X.outer:=by
 have all:∀ (l:List Env),(∀ b∈xG l,b∈X.fs)->X.s₀.heap.FunFrames X.base l->s.heap.FunFrames X.base l:=by
  intro l
  induction l with
  | nil=>intro _ _;trivial
  | cons env r ih=>
   intro hs hl;obtain ⟨hk,⟨L,o,hf,hn,ho,hd⟩,hr⟩:=hl;have hL:L∈X.fs:=hs L (by unfold xG;rw [filterMap_cons,hf];exact Yg);obtain ⟨sl,e⟩:=I.base.slot L o ho (I.ok.LC L hL) hL λz=>I.ok.G5 L z hL;exact ⟨hk,⟨L,_,hf,hn,e,hd⟩,ih (λb hb=>hs b (by unfold xG;rw [filterMap_cons,hf];exact X8 _ hb)) hr⟩
 exact all X.outer (λ_ hb=>hb) I.ok.qx
theorem Inv.stack (I:Inv X pins σ H s):s.heap.FunFrames X.base X.stack:=by
 rcases I.ok.FU with e|⟨e,hf⟩
 ·rw [e];exact I.qx
 ·rw [e];obtain ⟨m,hn,_⟩:=I.loc;refine .cons (by rw [I.ok.kind];decide) hf hn ?_ I.qx;exact Heap.get?_none_of_le (Y2 I.ok.K4 I.ok.above)
theorem Inv.oF (I:Inv X pins σ H s):∀ b∈xG X.stack,b∈X.env.locals::X.fs:=λb hb=>by
 rcases I.ok.FU with e|⟨e,hf⟩
 ·rw [e] at hb;exact X8 _ hb
 ·rw [e] at hb;unfold xG at hb;rw [filterMap_cons,hf] at hb;exact hb
theorem Inv.zQ (I:Inv X pins σ H s):∀ b∈xG X.stack,H b=none:=λb hb=>by
 rcases Yk.mp (I.oF b hb) with e|hb
 ·rw [e];exact I.free
 ·obtain ⟨_,o,ho,_⟩:=I.ok.qx.mem hb;exact I.base.free b o ho (I.ok.LC b hb) λz=>I.ok.G5 b z hb
theorem Inv.step {g':Array GenState} {t':Nat} {d':Drawn} {ch:XL} (I:Inv X pins σ H s)
  (xj:∀ b∈ch,(b∈X.ex\/X.s₀.heap.objs.size<=b)/\b≠X.env.locals/\(∀ x c,X.env.cells.lookup x=some c->c≠b)/\∀ p∈X.pn++pins,p.1≠b)
  (keep:∀ b o,b≠X.env.locals->b∉X.fs->b∉ch->s.heap.get? b=some o->H b=none->h'.get? b=some o)
  (slot:∀ b o,b≠X.env.locals->b∈X.fs->b∉ch->s.heap.get? b=some o->H b=none->∃ sl,h'.get? b=some { o with slots:=sl }) (free:∀ b o,b∉ch->s.heap.get? b=some o->H b=none->H' b=none)
  (there:∀ b o,b∉ch->s.heap.get? b=some o->∃ o',h'.get? b=some o')
  (tJ:∀ b xs,H b=some (.tup xs)->H' b=some (.tup xs)) (rB:∀ b o u,H b=some (.fN o u)->H' b=some (.fN o u)) (tK:∀ b ps,H b=some (.Jb ps)->∃ more,H' b=some (.Jb (ps++more)))
  (ns:∀ m,s.heap.Ns X.env.locals m->h'.Ns X.env.locals m) (bH:kh X.prog X.w H' h') (hg:AllBare g') :
  Inv X pins σ H' { s with heap:=h',gens:=g',drawn:=d',toks:=t' }:=by
 have Sh:∀ b o,X.s₀.heap.get? b=some o->b≠X.env.locals:=λb o e=>YR (YJ (Yi e) I.ok.above);have Oc:∀ b o,X.s₀.heap.get? b=some o->b∉X.ex->b∉ch:=λb o e hx hb=>by
  rcases (xj b hb).1 with z|z
  ·exact hx z
  ·exact absurd (YJ (Yi e) z) (YN _)
 have cellK:∀ x c,X.env.cells.lookup x=some c->∀ v,s.heap.IsCell c v->h'.IsCell c v:=λx c e v ⟨o,ho,hd⟩=>by
  have AE:c∉ch:=λz=>(xj c z).2.2.1 x c e rfl;by_cases hc:c∈X.fs
  ·obtain ⟨sl,q⟩:=slot c o (I.K0 x c e) hc AE ho (I.jc x c e);exact ⟨_,q,hd⟩
  ·exact ⟨o,keep c o (I.K0 x c e) hc AE ho (I.jc x c e),hd⟩
 refine ⟨I.ok,I.os,hg,⟨λb o e n hb hx=>?_,λb o e n hb hx=>?_,λb o e n hx=>?_,λb o e hx=>?_,λb xs e=>tJ b xs (I.base.tJ b xs e),λb o xs e=>rB b o xs (I.base.rB b o xs e),λb ps e=>?_⟩,?_,λx c e=>?_,?_,λx c e=>?_,λp hp=>?_,bH,I.len⟩
 ·exact keep b o (Sh b o e) hb (Oc b o e hx) (I.base.keep b o e n hb hx) (I.base.free b o e n hx)
 ·obtain ⟨sl,e1⟩:=I.base.slot b o e n hb hx;obtain ⟨T5,e2⟩:=slot b _ (Sh b o e) hb (Oc b o e hx) e1 (I.base.free b o e n hx);exact ⟨T5,e2⟩
 ·obtain ⟨o',e1⟩:=I.base.there b o e hx;exact free b o' (Oc b o e hx) e1 (I.base.free b o e n hx)
 ·obtain ⟨o',e1⟩:=I.base.there b o e hx;exact there b o' (Oc b o e hx) e1
 ·obtain ⟨m1,e1⟩:=I.base.tK b ps e;obtain ⟨m2,e2⟩:=tK b _ e1;exact ⟨m1++m2,by rw [e2,Array.append_assoc]⟩
 ·obtain ⟨m,hn,hl⟩:=I.loc;refine ⟨m,ns m hn,λi x v e1 e2 e3=>?_⟩;obtain ⟨u,r,l⟩:=hl i x v e1 e2 e3;refine ⟨u,r,?_⟩;rcases l with l|⟨k,c,e,z⟩
  ·exact .inl l
  ·exact .inr ⟨k,c,e,cellK x c e _ z⟩
 ·obtain ⟨v,z⟩:=I.cell x c e;exact ⟨v,cellK x c e v z⟩
 ·obtain ⟨m,⟨o,_,_,ho,_⟩,_⟩:=I.loc;exact free _ o (λz=>(xj _ z).2.1 rfl) ho I.free
 ·obtain ⟨v,o,ho,hd⟩:=I.cell x c e;exact free c o (λz=>(xj c z).2.2.1 x c e rfl) ho (I.jc x c e)
 ·obtain ⟨e,n,ne,nf,d⟩:=I.pin p hp;have AE:p.1∉ch:=λz=>(xj p.1 z).2.2.2 p hp rfl;exact ⟨keep p.1 p.2 ne nf AE e n,free p.1 p.2 AE e n,ne,nf,d⟩
theorem Inv.un (I:Inv X pins σ H s) (u:Un X.fs [] H H' s.heap h') (bH:kh X.prog X.w H' h'):Inv X pins σ H' { s with heap:=h',toks:=t' }:=by
 obtain ⟨m,⟨o,es,ep,ho,r⟩,_⟩:=id I.loc;obtain ⟨sl,hL⟩:=u.any ho I.free (by simp);exact I.step (g':=s.gens) (d':=s.drawn) (ch:=[]) (λ_ z=>nomatch z) (λb o _ hb _ e n=>u.keep b o e n hb (by simp)) (λb o _ hb _ e n=>u.slot b o e n hb (by simp)) (λb o _ e n=>u.free b o e n (by simp)) (λb o _ e=>u.there b o e (by simp)) u.tJ u.rB u.tK (λm' hm=>by
  obtain ⟨o',QO,QP,Ko,r'⟩:=hm;rw [ho] at Ko;cases Ko;exact ⟨_,QO,QP,hL,r'⟩) bH I.bare
theorem Inv.call (I:Inv X pins σ H s) (u:Un (xG X.stack) ch H H' s.heap h') (bH:kh X.prog X.w H' h') (hg:AllBare g')
  (xj:∀ b∈ch,(b∈X.ex\/X.s₀.heap.objs.size<=b)/\b≠X.env.locals/\(∀ x c,X.env.cells.lookup x=some c->c≠b)/\∀ p∈X.pn++pins,p.1≠b) :
  Inv X pins σ H' { s with heap:=h',gens:=g',drawn:=d',toks:=t' }:=by
 obtain ⟨m,⟨o,es,ep,ho,r⟩,_⟩:=id I.loc;obtain ⟨sl,hL⟩:=u.any ho I.free λz=>(xj _ z).2.1 rfl;exact I.step (ch:=ch) xj (λb o hL hb hc e n=>u.keep b o e n (λz=>(Yk.mp (I.oF b z)).elim hL hb) hc) (λb o _ _ hc e n=>u.any e n hc) (λb o hc e n=>u.free b o e n hc) (λb o hc e=>u.there b o e hc) u.tJ u.rB u.tK (λm' hm=>by
  obtain ⟨o',QO,QP,Ko,r'⟩:=hm;rw [ho] at Ko;cases Ko;exact ⟨_,QO,QP,hL,r'⟩) bH hg
theorem Inv.turned (I:Inv X pins σ H s) (k:∀ b o,b≠it->s.heap.get? b=some o->h'.get? b=some o) (hn:H it=none) (hL:it≠X.env.locals)
  (h1:it∈X.ex\/X.s₀.heap.objs.size<=it) (h2:∀ x c,X.env.cells.lookup x=some c->c≠it) (h3:∀ p∈X.pn++pins,p.1≠it):Inv X pins σ H { s with heap:=h',toks:=t' }:=by
 have Sf:∀ b u,H b=some u->b≠it:=λb u e z=>by rw [z,hn] at e;cases e
 refine I.step (g':=s.gens) (d':=s.drawn) (ch:=[it]) (λb hb=>?_) (λb o _ _ hc e _=>k b o (λz=>hc (by simp [z])) e) (λb o _ _ hc e _=>⟨o.slots,k b o (λz=>hc (by simp [z])) e⟩) (λ_ _ _ _ n=>n)
  (λb o hc e=>⟨o,k b o (λz=>hc (by simp [z])) e⟩) (λ_ _ e=>e) (λ_ _ _ e=>e) (λb ps e=>⟨#[],by rw [e];simp⟩) (λm hm=>?_) (λb u e=>?_) I.bare
 ·have e:b=it:=by simpa using hb
  subst e;exact ⟨h1,hL,h2,h3⟩
 ·obtain ⟨o,es,ep,ho,r⟩:=hm;exact ⟨o,es,ep,k _ o (YU hL) ho,r⟩
 ·refine (I.bH b u e).jq (λc v hc q=>k c v ?_ q) (λ_ q=>q) λ_ _ q=>q;rcases hc with z|z
  ·rw [z];exact Sf b u e
  ·exact Sf c _ z
def Inv.tok (I:Inv X pins σ H s) (t:Nat):Inv X pins σ H { s with toks:=t }:=I.un (h':=s.heap) (t':=t) Un.refl I.bH
def Inv.kept (I:Inv X pins σ H s) (k:∀ b u,s.heap.get? b=some u->h'.get? b=some u):Inv X pins σ H { s with heap:=h',toks:=t' }:=I.un (Un.kept k) (I.bH.kept k)
def Inv.laid {a:Addr} {o:HO} {t':Nat} (I:Inv X pins σ H s) (k:∀ b u,s.heap.get? b=some u->h'.get? b=some u) (hp:s.heap.objs.size<=a) (new:bC X.prog X.w (upd H a o) h' a o) :
  Inv X pins σ (upd H a o) { s with heap:=h',toks:=t' }:=I.un (Un.laid k hp (I.bH.fresh hp)) (I.bH.laid k hp new)
def Inv.write (I:Inv X pins σ H s) (mu:NO (H x)) (he:e=x\/H e=some (.own x)) (k:∀ b u,b≠e->s.heap.get? b=some u->h'.get? b=some u) (Lz:∃ u,h'.get? e=some u)
  (new:bC X.prog X.w (upd H x o) h' x o):Inv X pins σ (upd H x o) { s with heap:=h',toks:=t' }:=I.un (Un.write mu he k Lz) (I.bH.write mu he k Lz new)
def Inv.Ar (I:Inv X pins σ H s) (h:∀ p∈Ih,s.heap.get? p.1=some p.2/\H p.1=none/\p.1≠X.env.locals/\p.1∉X.fs/\∀ v,p.2.data≠.cell v):Inv X Ih σ H s:=
 ⟨I.ok,I.os,I.bare,I.base,I.loc,I.cell,I.free,I.jc,λp hp=>(Ye.mp hp).elim (λz=>I.pin p (Yx _ z)) (h p),I.bH,I.len⟩
theorem wN {N:List Str} (hN:N.Nodup) {i j:Nat} {x:Str} (a:N[i]?=some x) (b:N[j]?=some x):i=j:=by
 obtain ⟨h1,e1⟩:=X3.mp a;obtain ⟨h2,e2⟩:=X3.mp b;exact (Zp hN).mp (e1.trans e2.symm)
theorem rW (I:Inv X pins σ H s) (hN:X.N.Nodup) (hi:X.N[i]?=some x) (hx:Loc X.env.scope x) (r:RelV v u)
  (h:∀ s',Inv X pins (σ.set i (some v)) H s'->(∃ a,Heap.SameBut a s.heap s'.heap/\(a=X.env.locals\/X.env.cells.lookup x=some a))->Q () s') (hf:X.fn x=true\/X.env.scope.names.lookup x=some .local:=by first|exact .inl rfl|exact .inr rfl|assumption):wpAny M A (storeName X.env x u) Q E s:=by
 obtain ⟨m,hn,hl⟩:=id I.loc;have QD:(X.env.scope.kind==.class || (X.env.scope.kind==.module&&X.env.locals != X.env.globals))=false:=by rw [I.ok.kind];rfl
 have hiσ:i<σ.length:=by rw [I.len];exact (X3.mp hi).1
 have K0:=I.K0;have tracked:∀ {a:Addr} {h':Heap},(∃ o,s.heap.get? a=some o/\H a=none)->Heap.SameBut a s.heap h'->kh X.prog X.w H h':=λ{a h'} ha hs b ob e=>by
  obtain ⟨_,_,AU⟩:=ha;refine (I.bH b ob e).jq (λc w' hc q=>(hs.2 c ?_).trans q) (λ_ q=>q) λ_ _ q=>q;rintro rfl;rcases hc with rfl|hc
  ·rw [AU] at e;cases e
  ·rw [AU] at hc;cases hc
 rcases hx with hk|hk
 ·refine wpAny_storeName_local hk hn (λh' Ow hs=>?_) QD;obtain ⟨oL,_,_,Vv,_⟩:=id hn;refine h _ ⟨I.ok,I.os,I.bare,⟨λb o e n hb hx=>?_,λb o e n hb hx=>?_,I.base.free,λb o e hx=>?_,I.base.tJ,I.base.rB,I.base.tK⟩,⟨_,Ow,λj y v' e1 e2 e3=>?_⟩,λy c e=>?_,I.free,I.jc,λp hp=>?_,tracked ⟨oL,Vv,I.free⟩ hs,by simpa using I.len⟩ ⟨_,hs,.inl rfl⟩
  ·exact (hs.2 b (YR (YJ (Yi e) I.ok.above))).trans (I.base.keep b o e n hb hx)
  ·obtain ⟨sl,e1⟩:=I.base.slot b o e n hb hx;exact ⟨sl,(hs.2 b (YR (YJ (Yi e) I.ok.above))).trans e1⟩
  ·obtain ⟨o',e1⟩:=I.base.there b o e hx;exact ⟨o',(hs.2 b (YR (YJ (Yi e) I.ok.above))).trans e1⟩
  ·by_cases hj:j=i
   ·subst hj;rw [hi] at e1;cases e1;rw [getElem?_set_self hiσ] at e2;cases e2
    exact ⟨u,r,.inl ⟨hk,by simp⟩⟩
   ·rw [getElem?_set_ne (YU hj)] at e2;obtain ⟨u',r',q⟩:=hl j y v' e1 e2 e3;refine ⟨u',r',?_⟩;rcases q with ⟨k,e⟩|⟨k,c,e,z⟩
    ·refine .inl ⟨k,?_⟩;have:y≠x:=λe=>hj (wN hN e1 (e▸hi));simp [this,e]
    ·exact .inr ⟨k,c,e,z.sameBut hs (K0 y c e)⟩
  ·obtain ⟨w',z⟩:=I.cell y c e;exact ⟨w',z.sameBut hs (K0 y c e)⟩
  ·obtain ⟨e,n,ne,nf,d⟩:=I.pin p hp;exact ⟨(hs.2 p.1 ne).trans e,n,ne,nf,d⟩
 ·have Qx:X.fn x=true:=by
   rcases hf with z|z
   ·exact z
   ·rw [z] at hk;cases hk
  obtain ⟨c,hc⟩:=I.ok.has x (.inl hk);obtain ⟨w',z⟩:=I.cell x c hc;refine wpAny_storeName_cell I.ok.kind hk hc z (λh' l7 hs=>?_);obtain ⟨oc,SM,Ql⟩:=id z;refine h { s with heap:=h' } ⟨I.ok,I.os,I.bare,⟨λb o e n hb hx=>?_,λb o e n hb hx=>?_,I.base.free,λb o e hx=>?_,I.base.tJ,I.base.rB,I.base.tK⟩,⟨m,hn.sameBut hs (YU (K0 x c hc)),λj y v' e1 e2 e3=>?_⟩,λy c' e=>?_,I.free,I.jc,λp hp=>?_,tracked ⟨oc,SM,I.jc x c hc⟩ hs,by simpa using I.len⟩ ⟨c,hs,.inr hc⟩
  ·exact (hs.2 b (YR (YJ (Yi e) (I.ok.NI x c Qx hc)))).trans (I.base.keep b o e n hb hx)
  ·obtain ⟨sl,e1⟩:=I.base.slot b o e n hb hx;exact ⟨sl,(hs.2 b (YR (YJ (Yi e) (I.ok.NI x c Qx hc)))).trans e1⟩
  ·obtain ⟨o',e1⟩:=I.base.there b o e hx;exact ⟨o',(hs.2 b (YR (YJ (Yi e) (I.ok.NI x c Qx hc)))).trans e1⟩
  ·by_cases hj:j=i
   ·subst hj;rw [hi] at e1;cases e1;rw [getElem?_set_self hiσ] at e2;cases e2
    exact ⟨u,r,.inr ⟨.inl hk,c,hc,l7⟩⟩
   ·rw [getElem?_set_ne (YU hj)] at e2;obtain ⟨u',r',q⟩:=hl j y v' e1 e2 e3;refine ⟨u',r',?_⟩;rcases q with q|⟨k,c',e,z'⟩
    ·exact .inl q
    ·refine .inr ⟨k,c',e,z'.sameBut hs ?_⟩;rintro rfl;exact hj (wN hN e1 (I.ok.inj _ _ _ e hc▸hi))
  ·by_cases Na:c'=c
   ·subst Na;exact ⟨_,l7⟩
   ·obtain ⟨w2,z2⟩:=I.cell y c' e;exact ⟨w2,z2.sameBut hs Na⟩
  ·obtain ⟨e,n,ne,nf,d⟩:=I.pin p hp;refine ⟨(hs.2 p.1 ?_).trans e,n,ne,nf,d⟩;intro q;rw [q,SM] at e;have q':oc=p.2:=Yf e;exact d w' (by rw [<-q'];exact Ql)
theorem vM (I:Inv X pins σ H s) (hN:X.N.Nodup) (hi:X.N[i]?=some x) (hx:Loc X.env.scope x) (r:RelV v u)
  (h:∀ s',Inv X pins (σ.set i (some v)) H s'->Q () s') (hf:X.fn x=true\/X.env.scope.names.lookup x=some .local:=by first|exact .inl rfl|exact .inr rfl|assumption):wpAny M A (storeName X.env x u) Q E s:=
 rW I hN hi hx r (λs' I' _=>h s' I') hf
theorem Inv.NH (I:Inv X pins σ H s) (ho:s'.os=s.os) (u:Un (xG X.stack) ch H H' s.heap s'.heap) (bH:kh X.prog X.w H' s'.heap) (hg:AllBare s'.gens)
  (xj:∀ b∈ch,(b∈X.ex\/X.s₀.heap.objs.size<=b)/\b≠X.env.locals/\(∀ x c,X.env.cells.lookup x=some c->c≠b)/\∀ p∈X.pn++pins,p.1≠b):Inv X pins σ H' s':=by
 obtain ⟨h',g',d',t',o'⟩:=s';have e:o'=s.os:=ho;subst e;exact I.call (g':=g') (t':=t') (d':=d') u bH hg xj
end
abbrev XK:=Value->Option Addr->Hp->Prop
abbrev St:=List (Option V)
abbrev VK:=V->Hp->Prop
abbrev TE:=St->Hp->VK->Prop
abbrev TT:=St->Hp->(Bool->Hp->Prop)->Prop
abbrev TA:=St->Hp->(List V->Hp->Prop)->Prop
structure Ends where
 nx:St->Hp->Prop
 rt:VK
 bk:St->Hp->Prop:=λ_ _=>False
 ct:St->Hp->Prop:=λ_ _=>False
abbrev TS:=Ends->St->Hp->Prop
def EP (X:Cx) (pins:Wp) (σ:St) (Q:VK) (u:Value) (s':Shared):Prop:=∃ v H',Inv X pins σ H' s'/\RelV v u/\Q v H'
def TP (X:Cx) (pins:Wp) (σ:St) (Q:Bool->Hp->Prop) (b:Bool) (s':Shared):Prop:=∃ H',Inv X pins σ H' s'/\Q b H'
def AP (X:Cx) (pins:Wp) (σ:St) (Q:List V->Hp->Prop) (us:XV) (s':Shared):Prop:=∃ vs H',Inv X pins σ H' s'/\Vals vs us/\Q vs H'
def SP (X:Cx) (pins:Wp) (D:Ends) (f:Flow) (s':Shared):Prop:=
 match f with
 | .next=>∃ σ' H',Inv X pins σ' H' s'/\D.nx σ' H'
 | .brk=>∃ σ' H',Inv X pins σ' H' s'/\D.bk σ' H'
 | .cont=>∃ σ' H',Inv X pins σ' H' s'/\D.ct σ' H'
 | .ret u=>∃ v σ' H',Inv X pins σ' H' s'/\RelV v u/\D.rt v H'
def PE (X:Cx) (e:Expr) (t:TE):Prop:=
 ∀ (pins:Wp) (s:Shared) (σ:St) (H:Hp) (Q:VK),Inv X pins σ H s->t σ H Q->wpAny (model X.prog X.w) X.A (eval e X.env) (EP X pins σ Q) X.xe s
def PT (X:Cx) (e:Expr) (t:TT):Prop:=
 ∀ (pins:Wp) (s:Shared) (σ:St) (H:Hp) (Q:Bool->Hp->Prop),Inv X pins σ H s->t σ H Q->wpAny (model X.prog X.w) X.A (isTrue e X.env (eval e X.env)) (TP X pins σ Q) X.xe s
def PW (X:Cx) (e:Expr) (t:TT):Prop:=
 ∀ (whole:Sem Value) (pins:Wp) (s:Shared) (σ:St) (H:Hp) (Q:Bool->Hp->Prop),Inv X pins σ H s->t σ H Q->wpAny (model X.prog X.w) X.A (isTrue e X.env whole) (TP X pins σ Q) X.xe s
def PW.pt (h:PW X e t):PT X e t:=h _
def PA (X:Cx) (es:List Expr) (t:TA):Prop:=
 ∀ (pos:Pos) (pins:Wp) (s:Shared) (σ:St) (H:Hp) (Q:List V->Hp->Prop),Inv X pins σ H s->t σ H Q->wpAny (model X.prog X.w) X.A (spliced (backTo pos (starEach es X.env))) (AP X pins σ Q) X.xe s
def PS (X:Cx) (st:Stmt) (t:TS):Prop:=
 ∀ (pins:Wp) (s:Shared) (σ:St) (H:Hp) (D:Ends),Inv X pins σ H s->t D σ H->wpAny (model X.prog X.w) X.A (exec st X.env) (SP X pins D) X.xe s
def Bp (X:Cx) (st:List Stmt) (t:TS):Prop:=
 ∀ (pins:Wp) (s:Shared) (σ:St) (H:Hp) (D:Ends),Inv X pins σ H s->t D σ H->wpAny (model X.prog X.w) X.A (execs st X.env) (SP X pins D) X.xe s
def cT {α:Type} {t:Sem α} {Q Q' : α->Shared->Prop} {M:Model} {A:Around} {s:Shared} (h:wpAny M A t Q E s) (hQ:∀ a s,Q a s->Q' a s):wpAny M A t Q' E s:=Ze h hQ λ_ _ x=>x
section
variable {X:Cx}
theorem bin {a b:Expr} {ta tb:TE} (ha:PE X a ta) (hb:PE X b tb) {pins:Wp} {s:Shared} {σ:St} {H:Hp} {R:V->V->Hp->Prop} (I:Inv X pins σ H s) (h:ta σ H λx H1=>tb σ H1 λy H2=>R x y H2)
  {α:Type} {Q:α->Shared->Prop} {f:Value->Value->Sem α}
  (hf:∀ v u s2 x y H2,Inv X pins σ H2 s2->RelV x v->RelV y u->R x y H2->wpAny (model X.prog X.w) X.A (f v u) Q X.xe s2) :
  wpAny (model X.prog X.w) X.A (eval a X.env) (λv s₁=>wpAny (model X.prog X.w) X.A (eval b X.env) (λu s₂=>wpAny (model X.prog X.w) X.A (f v u) Q X.xe s₂) X.xe s₁) X.xe s:=by
 refine cT (ha pins s σ H _ I h) λv s1 q9z=>?_;obtain ⟨x,H1,I1,r1,q1⟩:=q9z;refine cT (hb pins s1 σ H1 _ I1 q1) λu s2 q9z=>?_;obtain ⟨y,H2,I2,r2,q2⟩:=q9z;exact hf v u s2 x y H2 I2 r1 r2 q2
def fI (i:Nat):TE:=λσ H Q=>∃ v,σ[i]?=some (some v)/\Q v H
def tC (v:V):TE:=λ_ H Q=>Q v H
theorem JF {i:Nat} {x:Str} {pos:Pos} (hN:X.N[i]?=some x) (hv:OM X.env.scope x) (hd:(x==("__debug__":Str))=false:=by decide) (B8:(x==("__classdict__":Str))=false:=by decide):PE X (.Name x pos) (fI i):=by
 intro pins s σ H Q I h;obtain ⟨v,e,h⟩:=h;obtain ⟨m,hn,hl⟩:=I.loc;obtain ⟨u,r,l⟩:=hl i x v hN e hv;have fin:EP X pins σ Q u s:=⟨v,H,I,r,h⟩;rcases l with ⟨hk,hm⟩|⟨hk,c,hc,ID⟩
 ·exact wpAny_Name (wpAny_loadName_local I.ok.kind hk hn hm fin) hd
 ·rcases hk with hk|hk
  ·exact wpAny_Name (wpAny_loadName_cell I.ok.kind hk hc ID fin) hd
  ·exact wpAny_Name (wpAny_loadName_free I.ok.kind hk hc ID fin B8) hd
def az {i j pos}:PE X (.Constant (.int i) j pos) (tC (.int i)):=λ_ _ _ H _ I h=>wpAny_Constant_int ⟨.int i,H,I.tok _,⟨_,rfl⟩,h⟩
def eQ {b j pos}:PE X (.Constant (.bool b) j pos) (tC (.bl b)):=λ_ _ _ H _ I h=>Constant_bool ⟨.bl b,H,I,rfl,h⟩
def DX {j pos}:PE X (.Constant .none j pos) (tC .dO):=λ_ _ _ H _ I h=>Constant_none ⟨.dO,H,I,rfl,h⟩
def yL {x j pos}:PE X (.Constant (.str x) j pos) (tC (.str x)):=λ_ _ _ H _ I h=>Calls.Constant_str ⟨.str x,H,I.tok _,⟨_,rfl⟩,h⟩
def Gl (X:Cx) (x:Str):Prop:=X.env.kindOf x=some .globalImplicit
theorem AI {s:Shared} {σ:St} {x:Str} {pos:Pos} (I:Inv X pins σ H s) (hg:Gl X x) (hm:X.mg x=some u) (h:Q u s)
  (hd:(x==("__debug__":Str))=false:=by decide):wpAny (model X.prog X.w) X.A (eval (.Name x pos) X.env) Q E s:=
 Calls.Name_function_global I.ok.kind hg (Calls.loadGlobal_global (by rw [I.ok.glob];exact I.mod.glob.keeps I.bk) hm h) hd
theorem dJ {E:WF} {pins:Wp} {s:Shared} {σ:St} {H:Hp} {x:Str} {u:Value} {pos:Pos} {Q:WF} (I:Inv X pins σ H s) (hg:Gl X x) (hm:X.mg x=none) (hv:bootBuiltins x=some u) (h:Q u s)
  (hn:x≠ "__name__":=by decide) (hd:(x==("__debug__":Str))=false:=by decide):wpAny (model X.prog X.w) X.A (eval (.Name x pos) X.env) Q E s:=by
 obtain ⟨mb,h1,h2⟩:=I.mod.blt;exact Calls.Name_function_global I.ok.kind hg (Calls.loadGlobal_builtin (by rw [I.ok.glob];exact I.mod.glob.keeps I.bk) hm (by rw [I.ok.blt];exact h1.keeps I.bk) ((h2 x hn).trans hv) h) hd
theorem Gp (hg:Gl X x) (hm:X.mg x=some u) (r:RelV v u) (hd:(x==("__debug__":Str))=false:=by decide):PE X (.Name x pos) (tC v):=
 λ_ _ _ H _ I h=>AI I hg hm ⟨v,H,I,r,h⟩ hd
theorem ux {x:Str} {pos:Pos} (hg:Gl X x) (hm:X.mg x=none) (hv:bootBuiltins x=some u) (r:RelV v u) (hn:x≠ "__name__":=by decide) (hd:(x==("__debug__":Str))=false:=by decide):PE X (.Name x pos) (tC v):=
 λ_ _ _ H _ I h=>dJ I hg hm hv ⟨v,H,I,r,h⟩ hn hd
variable {a b:Expr} {ta tb:TE} {pos:Pos}
def PC (X:Cx) (op:CmpOp) (a b:Expr) (t:TE):Prop:=
 ∀ (pins:Wp) (s:Shared) (σ:St) (H:Hp) (Q:VK),Inv X pins σ H s->t σ H Q->
  wpAny (model X.prog X.w) X.A (eval a X.env) (λv s₁=>wpAny (model X.prog X.w) X.A (eval b X.env) (λu s₂=>wpAny (model X.prog X.w) X.A (compareOp op v u) (EP X pins σ Q) X.xe s₂) X.xe s₁) X.xe s
theorem Ed (b:Expr) (h:op≠.In) (h2:op≠.NotIn):behindInMarks op b=false:=by
 have e1:(op==CmpOp.In)=false:=by cases op<;>first|rfl|exact absurd rfl h
 have e2:(op==CmpOp.NotIn)=false:=by cases op<;>first|rfl|exact absurd rfl h2
 cases b<;>simp [behindInMarks,e1,e2]
def HK (ta:TE):TE:=λσ H Q=>ta σ H λx H1=>Q (.bl (!decide (x=.dO))) H1
theorem RelV.Eb (r:RelV x v):(v==Value.none)=decide (x=.dO):=by
 cases x with
 | dO=>cases r;rfl
 | bl _=>cases r;rfl
 | int _=>obtain ⟨t,rfl⟩:=r;rfl
 | str _=>obtain ⟨t,rfl⟩:=r;rfl
 | Bh _=>obtain ⟨t,rfl⟩:=r;rfl
 | ET _=>obtain ⟨t,rfl⟩:=r;rfl
 | ref _=>cases r;rfl
 | ty _=>cases r;rfl
theorem Gs {j pos'} (ha:PE X a ta):PC X .IsNot a (.Constant .none j pos') (HK ta):=by
 intro pins s σ H Q I h;refine cT (ha pins s σ H _ I h) λv s1 q9z=>?_;obtain ⟨x,H1,I1,r1,q1⟩:=q9z;exact Constant_none (isnot_none_gen ⟨.bl _,H1,I1,by rw [r1.Eb];rfl,q1⟩)
def tB (t:TE):TT:=λσ H Q=>t σ H λx H1=>∃ c,x=.bl c/\Q c H1
theorem eU (h:PC X op a b t) (h1:behindInMarks op b=false:=by first|exact Ed _ (by decide) (by decide) | rfl):PT X (.Compare a [op] [b] pos) (tB t):=by
 intro pins s σ H Q I hw;refine wpAny_isTrue_Compare1 (cT (h pins s σ H _ I hw) λv s1 h1=>cT h1 λu s2 h2=>cT h2 λc s3 ⟨x,H1,I1,r1,q1⟩=>?_) h1;obtain ⟨d,rfl,q⟩:=q1;cases r1
 exact ZV ⟨H1,I1,q⟩
theorem uk (h:PE X e t) (he:∀ whole,isTrue e X.env whole=(do let v <-whole;standAt e.pos;holding [v] (truthy v)):=by intro _;rfl):PT X e (tB t):=by
 intro pins s σ H Q I hw;refine isTrue_plain (cT (h pins s σ H _ I hw) λv s1 ⟨x,H1,I1,r1,q1⟩=>?_) (he _);obtain ⟨d,rfl,q⟩:=q1;cases r1
 exact ZV ⟨H1,I1,q⟩
variable {tA N1:TT} {rest:List Expr}
def L1 (t u:TT):TT:=λσ H Q=>t σ H λc H1=>if c=true then u σ H1 Q else Q false H1
def RH (t u:TT):TT:=λσ H Q=>t σ H λc H1=>if c=true then Q true H1 else u σ H1 Q
def LV (t:TT):TT:=λσ H Q=>t σ H λc H1=>Q (!c) H1
theorem pw_and1 (ha:PT X a tA):PW X (.BoolOp .And [a] pos) tA:=by
 intro wh pins s σ H Q I h;refine isTrue_and (cT (ha pins s σ H Q I h) λc s1 e=>?_);cases c with
 | true=>exact isTrue_and_nil e
 | false=>exact e
theorem pw_or1 (ha:PT X a tA):PW X (.BoolOp .Or [a] pos) tA:=by
 intro wh pins s σ H Q I h;refine isTrue_or (cT (ha pins s σ H Q I h) λc s1 e=>?_);cases c with
 | false=>exact isTrue_or_nil e
 | true=>exact e
theorem pw_and (ha:PT X a tA) (hb:PW X (.BoolOp .And (b::rest) pos) N1):PW X (.BoolOp .And (a::b::rest) pos) (L1 tA N1):=by
 intro wh pins s σ H Q I h;refine isTrue_and (cT (ha pins s σ H _ I h) λc s1 q9z=>?_);obtain ⟨H1,I1,q1⟩:=q9z;cases c with
 | true=>exact hb wh pins s1 σ H1 Q I1 q1
 | false=>exact ⟨H1,I1,q1⟩
theorem pw_or (ha:PT X a tA) (hb:PW X (.BoolOp .Or (b::rest) pos) N1):PW X (.BoolOp .Or (a::b::rest) pos) (RH tA N1):=by
 intro wh pins s σ H Q I h;refine isTrue_or (cT (ha pins s σ H _ I h) λc s1 q9z=>?_);obtain ⟨H1,I1,q1⟩:=q9z;cases c with
 | true=>exact ⟨H1,I1,q1⟩
 | false=>exact hb wh pins s1 σ H1 Q I1 q1
theorem um (ha:PT X a tA):PT X (.UnaryOp .Not a pos) (LV tA):=by
 intro pins s σ H Q I h;exact isTrue_not (ha pins s σ H (λc H1=>Q (!c) H1) I h)
def HN (ta tb:TE):TE:=λσ H Q=>ta σ H λx H1=>∃ c,x=.bl c/\if c=true then tb σ H1 Q else Q (.bl false) H1
def HJ (ta:TE):TE:=λσ H Q=>ta σ H λx H1=>∃ c,x=.bl c/\Q (.bl (!c)) H1
def JG {op} (h:PE X a t):PE X (.BoolOp op [a] pos) t:=λpins s σ H Q I hw=>BoolOp_one (h pins s σ H Q I hw)
theorem JJ (ha:PE X a ta) (hb:PE X (.BoolOp .And (b::rest) pos) tb):PE X (.BoolOp .And (a::b::rest) pos) (HN ta tb):=by
 intro pins s σ H Q I h;refine BoolOp_and (cT (ha pins s σ H _ I h) λv s1 q9z=>?_);obtain ⟨x,H1,I1,r1,q1⟩:=q9z;obtain ⟨c,rfl,q1⟩:=q1;cases r1
 refine ZV ?_;cases c with
 | true=>exact hb pins s1 σ H1 Q I1 q1
 | false=>exact ⟨.bl false,H1,I1,rfl,q1⟩
theorem JH (ha:PE X a ta):PE X (.UnaryOp .Not a pos) (HJ ta):=by
 intro pins s σ H Q I h;refine UnaryOp_ (cT (ha pins s σ H _ I h) λv s1 q9z=>?_);obtain ⟨x,H1,I1,r1,q1⟩:=q9z;obtain ⟨c,rfl,q1⟩:=q1;cases r1
 exact not_of (ZV ⟨.bl (!c),H1,I1,rfl,q1⟩)
end
def aN (K:ZB) (H:Hp) (a:Addr) (xs:List V):Prop:=
 Rd H a (.lst xs)\/
  ∃ (o:Obj) (aY:Array Value) (n:Nat),K.lookup a=some o/\o.cls=.type "list"/\o.dict=none/\o.data=.seq aY n/\aY.size<=sizeLine/\Vals xs aY.toList
def SqT (K:ZB) (H:Hp) (a:Addr) (xs:List V):Prop:=
 Rd H a (.tup xs)\/
  ∃ (o:Obj) (aY:Array Value) (n:Nat),K.lookup a=some o/\o.cls=.type "tuple"/\o.data=.seq aY n/\aY.size<=sizeLine/\Vals xs aY.toList
def Rf:Value->Option V
 | .none=>some .dO
 | .bool b=>some (.bl b)
 | .int i _=>some (.int i)
 | .str x _=>some (.str x)
 | .bytes b _=>some (.Bh b)
 | .float b _=>some (.ET b)
 | .ref a=>some (.ref a)
 | .type n=>some (.ty n)
 | _=>none
theorem RelV.abs (r:RelV x u):Rf u=some x:=by
 cases x with
 | dO=>cases r;rfl
 | bl _=>cases r;rfl
 | int _=>obtain ⟨t,rfl⟩:=r;rfl
 | str _=>obtain ⟨t,rfl⟩:=r;rfl
 | Bh _=>obtain ⟨t,rfl⟩:=r;rfl
 | ET _=>obtain ⟨t,rfl⟩:=r;rfl
 | ref _=>cases r;rfl
 | ty _=>cases r;rfl
def RelV.inj (r:RelV x u) (q:RelV y u):x=y:=Yf (r.abs.symm.trans q.abs)
theorem Vals.inj:∀ {xs ys:List V} {us:XV},Vals xs us->Vals ys us->xs=ys
 | _,_,_,.nil,.nil=>rfl
 | _,_,_,.cons r t,.cons r' t'=>by rw [r.inj r',Vals.inj t t']
section
variable {X:Cx} {pins:Wp} {σ:St} {H:Hp} {s:Shared} {a:Addr} {xs ys:List V}
def aN.of {K:ZB} (h:H a=some (.lst xs)):aN K H a xs:=.inl (.inl h)
def SqT.of {K:ZB} (h:H a=some (.tup xs)):SqT K H a xs:=.inl (.inl h)
theorem Inv.list (I:Inv X pins σ H s) (h:aN X.K H a xs):∃ aY:XV,Vals xs aY/\PlainL s.heap a aY.toArray/\xs.length<=sizeLine:=by
 rcases h with h|⟨o,aY,n,hk,hc,hd,hs,hz,r⟩
 ·obtain ⟨z,aY,n,r,e⟩:=h.ok I.bH;exact ⟨aY,r,⟨_,n,e,rfl,rfl,rfl⟩,z⟩
 ·refine ⟨aY.toList,r,⟨o,n,I.xf a o hk,hc,hd,by simpa using hs⟩,?_⟩;have e:=r.length;simp only [Y0] at e;omega
theorem Inv.tuple (I:Inv X pins σ H s) (h:SqT X.K H a xs):∃ aY:XV,Vals xs aY/\IsTup s.heap a aY.toArray/\xs.length<=sizeLine:=by
 rcases h with h|⟨o,aY,n,hk,hc,hs,hz,r⟩
 ·obtain ⟨z,aY,r,p⟩:=h.ok I.bH;exact ⟨aY,r,p,z⟩
 ·refine ⟨aY.toList,r,⟨o,I.xf a o hk,hc,n,by simpa using hs⟩,?_⟩;have e:=r.length;simp only [Y0] at e;omega
theorem Inv.wX (I:Inv X pins σ H s) (h:aN X.K H a xs) (h':aN X.K H a ys):xs=ys:=by
 obtain ⟨aY,r,⟨o,n,e,_,_,d⟩,_⟩:=I.list h;obtain ⟨its',r',⟨o',n',e',_,_,d'⟩,_⟩:=I.list h';rw [e] at e';cases e';rw [d] at d';injection d' with d1 _;have:aY=its':=by simpa using Yt Array.toList d1
 subst this;exact r.inj r'
end
abbrev Cx.qP (X:Cx) (E:WF):Cx:={ X with xe:=E }
abbrev Cx.Lm (X:Cx):Cx:=X.qP λ_ _=>False
def Cx.Ok.qP {X:Cx} (ok:X.Ok) (E:WF):(X.qP E).Ok:=
 ⟨ok.mod,ok.kind,ok.glob,ok.blt,ok.above,ok.inj,ok.has,ok.NI,ok.hd,ok.frames,ok.FU,ok.To,ok.bs,ok.K4,ok.Ec,ok.G5,ok.qx,ok.LC⟩
def Cx.Ok.jo {X:Cx} {E:WF} (ok:(X.qP E).Ok):X.Ok:=
 ⟨ok.mod,ok.kind,ok.glob,ok.blt,ok.above,ok.inj,ok.has,ok.NI,ok.hd,ok.frames,ok.FU,ok.To,ok.bs,ok.K4,ok.Ec,ok.G5,ok.qx,ok.LC⟩
section
variable {X:Cx} {pins:Wp} {σ:St} {H:Hp} {s:Shared} {E:WF}
def Inv.qP (I:Inv X pins σ H s) (E:WF):Inv (X.qP E) pins σ H s:=⟨I.ok.qP E,I.os,I.bare,I.base,I.loc,I.cell,I.free,I.jc,I.pin,I.bH,I.len⟩
def Inv.jo (I:Inv (X.qP E) pins σ H s):Inv X pins σ H s:=⟨I.ok.jo,I.os,I.bare,I.base,I.loc,I.cell,I.free,I.jc,I.pin,I.bH,I.len⟩
theorem SP.jo (h:SP (X.qP E) pins D f s'):SP X pins D f s':=by
 cases f with
 | next=>obtain ⟨σ',H',I,q⟩:=h;exact ⟨σ',H',I.jo,q⟩
 | brk=>obtain ⟨σ',H',I,q⟩:=h;exact ⟨σ',H',I.jo,q⟩
 | cont=>obtain ⟨σ',H',I,q⟩:=h;exact ⟨σ',H',I.jo,q⟩
 | ret u=>obtain ⟨v,σ',H',I,r,q⟩:=h;exact ⟨v,σ',H',I.jo,r,q⟩
def Bp.Lm {st:List Stmt} {t:TS} (h:Bp X.Lm st t):Bp X st t:=λpins s σ H D I hw=>
 Ze (h pins s σ H D (I.qP _) hw) (λ_ _ q=>q.jo) λ_ _ z=>False.elim z
end
section
variable {X:Cx} {st:Stmt} {rest:List Stmt} {t u:TS} {e:Expr} {te:TE} {pos:Pos}
def HL:TS:=λD σ H=>D.nx σ H
def Jd (t u:TS):TS:=λD σ H=>t { D with nx:=u D } σ H
def bq:Bp X [] HL:=λ_ _ σ H _ I h=>zbw ⟨σ,H,I,h⟩
theorem ai (h1:PS X st t) (h2:Bp X rest u):Bp X (st::rest) (Jd t u):=by
 intro pins s σ H D I h;refine wpAny_execs_cons (cT (h1 pins s σ H { D with nx:=u D } I h) λf s1 q=>?_);cases f with
 | next=>
  obtain ⟨σ',H',I',q⟩:=q;exact h2 pins s1 σ' H' D I' q
 | ret v=>exact q
 | brk=>exact q
 | cont=>exact q
theorem ao (h1:PS X st t):Bp X [st] t:=by
 intro pins s σ H D I h;refine wpAny_execs_cons (cT (h1 pins s σ H D I h) λf s1 q=>?_);cases f with
 | next=>exact zbw q
 | ret v=>exact q
 | brk=>exact q
 | cont=>exact q
theorem Inv.quiet {σ:St} {s:Shared} (I:Inv X pins σ H s):interactive X.env=false:=by simp [interactive,I.ok.kind]
def HM (te:TE):TS:=λD σ H=>te σ H λ_ H1=>D.nx σ H1
theorem dw (he:PE X e te) (hs:swapsWith e none pos.line X.env=pure false:=by rfl):PS X (.Expr e pos) (HM te):=by
 intro pins s σ H D I h;exact wpAny_Expr_any (cT (he pins s σ H _ I h) λv s1 ⟨x,H1,I1,r1,q1⟩=>⟨σ,H1,I1,q1⟩) I.quiet hs
def Je (te:TE):TS:=λD σ H=>te σ H D.rt
theorem aS (he:PE X e te):PS X (.Return (some e) pos) (Je te):=by
 intro pins s σ H D I h;exact wpAny_Return_some (cT (he pins s σ H _ I h) λv s1 ⟨x,H1,I1,r1,q1⟩=>⟨x,σ,H1,I1,r1,q1⟩)
def HI:TS:=λD _ H=>D.rt .dO H
def Gh:PS X (.Return none pos) HI:=λ_ _ σ H _ I h=>wpAny_Return_none ⟨.dO,σ,H,I,rfl,h⟩
def LW (c:TT) (t u:TS):TS:=λD σ H=>c σ H λb H1=>if b=true then t D σ H1 else u D σ H1
theorem cR (hc:PT X c tc) (ha:Bp X a t) (hb:Bp X b u):PS X (.If c a b pos) (LW tc t u):=by
 intro pins s σ H D I h;refine wpAny_If (cT (hc pins s σ H _ I h) λd s1 q9z=>?_);obtain ⟨H1,I1,q1⟩:=q9z;cases d with
 | true=>exact ha pins s1 σ H1 D I1 q1
 | false=>exact hb pins s1 σ H1 D I1 q1
end
abbrev TG:=V->St->Hp->(St->Hp->Prop)->Prop
abbrev FE:=List V->St->Hp->(St->Hp->Prop)->Prop
def PG (X:Cx) (target:Expr) (t:TG):Prop:=
 ∀ (pins:Wp) (s:Shared) (σ:St) (H:Hp) (v:V) (u:Value) (Q:St->Hp->Prop),Inv X pins σ H s->RelV v u->t v σ H Q->
  wpAny (model X.prog X.w) X.A (assign target X.env u) (λ_ s'=>∃ σ' H',Inv X pins σ' H' s'/\Q σ' H') X.xe s
def NM (X:Cx) (ts:List Expr) (t:FE):Prop:=
 ∀ (pins:Wp) (s:Shared) (σ:St) (H:Hp) (vs:List V) (us:XV) (Q:St->Hp->Prop),Inv X pins σ H s->Vals vs us->t vs σ H Q->
  wpAny (model X.prog X.w) X.A (assignInOrder ((assignEach ts X.env).map (·.2)) us) (λ_ s'=>∃ σ' H',Inv X pins σ' H' s'/\Q σ' H') X.xe s
abbrev Ho:=V->V->V->Hp->(Hp->Prop)->Prop
def NL (X:Cx) (t:Ho):Prop:=
 ∀ (pins:Wp) (s:Shared) (σ:St) (H:Hp) (o i v:V) (ov iv u:Value) (Q:Hp->Prop),Inv X pins σ H s->RelV o ov->RelV i iv->RelV v u->t o i v H Q->
  wpAny (model X.prog X.w) X.A (setItem ov iv u) (λ_ s'=>∃ H',Inv X pins σ H' s'/\Q H') X.xe s
section
variable {X:Cx} {pos:Pos}
def jQ (i:Nat):TG:=λv σ H Q=>Q (σ.set i (some v)) H
theorem aF (hN:X.N.Nodup) (hi:X.N[i]?=some x) (hx:Loc X.env.scope x) (hf:X.fn x=true\/X.env.scope.names.lookup x=some .local:=by first|exact .inl rfl|exact .inr rfl|assumption):PG X (.Name x pos) (jQ i):=by
 intro pins s σ H v u Q I r h;exact wpAny_assign_Name (vM I hN hi hx r (λs' I'=>⟨_,H,I',h⟩) hf)
def KG:FE:=λvs σ H Q=>vs=[]/\Q σ H
def AX (t:TG) (u:FE):FE:=λvs σ H Q=>∃ v r,vs=v::r/\t v σ H λσ' H'=>u r σ' H' Q
theorem iM:NM X [] KG:=by
 intro pins s σ H vs us Q I r h;obtain ⟨e,h⟩:=h;subst e;cases r
 exact assignInOrder_nil ⟨σ,H,I,h⟩
theorem cK (h1:PG X e t) (h2:NM X es u)
  (hs:(assignEach (e::es) X.env).map (·.2)=assign e X.env::(assignEach es X.env).map (·.2):=by rfl):NM X (e::es) (AX t u):=by
 intro pins s σ H vs us Q I r h;obtain ⟨v,vr,e1,h⟩:=h;subst e1;cases r with
 | cons r rr=>
  rw [hs];refine assignInOrder_cons (cT (h1 pins s σ H _ _ _ I r h) λ_ s1 q9z=>?_);obtain ⟨σ1,H1,I1,q1⟩:=q9z;exact h2 pins s1 σ1 H1 _ _ Q I1 rr q1
def G3 (K:ZB) (n:Nat) (t:FE):TG:=λv σ H Q=>∃ a xs,v=.ref a/\SqT K H a xs/\xs.length=n/\t xs σ H Q
theorem mQ {k:Nat} {n:Nat} (hc:X.calm=true) (h:NM X es t)
  (hn:(assignEach es X.env).length=n:=by rfl) (GO:(assignEach es X.env).findIdx? (·.1)=none:=by rfl):PG X (.Tuple es k pos) (G3 X.K n t):=by
 intro pins s σ H v u Q I r hw;obtain ⟨a,xs,e1,hq,hl,hw⟩:=hw;subst e1;cases r
 obtain ⟨aY,rv,ht,hz⟩:=I.tuple hq;refine assign_Tuple_tuple (I.ok.hd hc) ht (by simp [hn,<-hl,rv.length]) GO λh' hx=>?_;have I1:Inv X pins σ H { s with heap:=h' }:=I.kept (t':=s.toks) λb o e=>hx b o (YR (Yi e)) e;exact h pins _ σ H xs _ Q I1 (by simpa using rv) hw
def Nm (to ti:TE) (t:Ho):TG:=λv σ H Q=>to σ H λo H1=>ti σ H1 λi H2=>t o i v H2 λH3=>Q σ H3
theorem yK (ho:PE X o to) (hi:PE X i ti) (hs:NL X t)
  (ha:∀ v,assign (.Subscript o i pos) X.env v=(do
   let ov <-holding [v] (eval o X.env);let iv <-holding [v,ov] (eval i X.env)
   standAt pos
   holding [v,ov,iv] (setItem ov iv v)
   release [v,ov,iv] []):=by intro _;rfl):PG X (.Subscript o i pos) (Nm to ti t):=by
 intro pins s σ H v u Q I r h;rw [ha];refine X5 (Zo (cT (ho pins s σ H _ I h) λov s1 q9z=>?_));obtain ⟨x,H1,I1,r1,q1⟩:=q9z;refine X5 (Zo (cT (hi pins s1 σ H1 _ I1 q1) λiv s2 q9z=>?_));obtain ⟨y,H2,I2,r2,q2⟩:=q9z;refine X5 (wpAny_standAt (X5 (Zo (cT (hs pins s2 σ H2 x y v ov iv u _ I2 r1 r2 r q2) λ_ s3 q9z=>?_))));obtain ⟨H3,I3,q3⟩:=q9z;exact wpAny_release ⟨σ,H3,I3,q3⟩
def C9 (te:TE) (g:TG):TS:=λD σ H=>te σ H λx H1=>g x σ H1 D.nx
theorem uq (he:PE X e te) (hg:PG X tg g) (hs:swapsWithSole [tg] e pos.line X.env=pure false:=by rfl) (hw:swappedStores [tg] e X.env=pure none:=by rfl)
  (h1:(assignEach [tg] X.env).map (·.2)=[assign tg X.env]:=by rfl):PS X (.Assign [tg] e pos) (C9 te g):=by
 intro pins s σ H D I h;refine wpAny_Assign_stores (cT (he pins s σ H _ I h) λv s1 ⟨x,H1,I1,r1,q1⟩=>?_) hs hw;rw [h1];exact cT (hg pins s1 σ H1 x v _ I1 r1 q1) λ_ s2 q=>q
theorem aH (hN:X.N.Nodup) (hi:X.N[i]?=some x) (hx:Loc X.env.scope x) (he:PE X e te) (hs:swapsWith e (some (.Name x pos')) pos.line X.env=pure false:=by rfl) (hf:X.fn x=true\/X.env.scope.names.lookup x=some .local:=by first|exact .inl rfl|exact .inr rfl|assumption) :
  PS X (.Assign [.Name x pos'] e pos) (C9 te (jQ i)):=by
 intro pins s σ H D I h;refine wpAny_Assign_Name (cT (he pins s σ H _ I h) λv s1 ⟨y,H1,I1,r1,q1⟩=>?_) hs;exact vM I1 hN hi hx r1 (λs2 I2=>⟨_,H1,I2,q1⟩) hf
end
def C1 (c:TT) (tb:TS):TS:=λD σ H=>∃ W:Nat->St->Hp->Prop,(∃ m,W m σ H)/\∀ m σ H,W m σ H->
 c σ H λb H1=>if b=true then ∃ N:St->Hp->Prop,(∀ σ' H',N σ' H'->∃ m',m'<m/\W m' σ' H')/\tb { D with nx:=N,ct:=N,bk:=D.nx } σ H1 else D.nx σ H1
theorem fv (hp:PassesOwn (model X.prog X.w) X.A X.env X.xe) (hc:PT X c tc) (hb:Bp X body tb):PS X (.While c body [] pos) (C1 tc tb):=by
 intro pins s σ H D I h;obtain ⟨W,⟨m0,w0⟩,turn⟩:=h;refine wpAny_While (codeAny_whileLoop (λn s'=>∃ σ' H',Inv X pins σ' H' s'/\W n σ' H') ?_ m0 ⟨σ,H,I,w0⟩);rintro n s1 ⟨σ1,H1,I1,w1⟩;refine zah hp (cT (hc pins s1 σ1 H1 _ I1 (turn n σ1 H1 w1)) λb s2 q9z=>?_);obtain ⟨H2,I2,q2⟩:=q9z;cases b with
 | true=>
  obtain ⟨N,hN,q2⟩:=q2;rw [Ya rfl];refine zah hp (cT (hb pins s2 σ1 H2 _ I2 q2) λf s3 q3=>?_);cases f with
  | next=>
   obtain ⟨σ3,H3,I3,n3⟩:=q3;obtain ⟨m',hm,w3⟩:=hN σ3 H3 n3;exact ⟨m',hm,σ3,H3,I3,w3⟩
  | cont=>
   obtain ⟨σ3,H3,I3,n3⟩:=q3;obtain ⟨m',hm,w3⟩:=hN σ3 H3 n3;exact ⟨m',hm,σ3,H3,I3,w3⟩
  | brk=>exact q3
  | ret v=>exact q3
 | false=>
  rw [X6 Yo];exact zbw ⟨σ1,H2,I2,q2⟩
structure It where
 go:Nat->Hp->Prop
 vo:Nat->Hp->V->Hp->Prop
 stop:Nat->Hp->Prop
def n9 (X:Cx) (pins:Wp) (H:Hp) (b:Addr):Prop:=
 H b=none/\b≠X.env.locals/\b∉X.fs/\(b∈X.ex\/X.s₀.heap.objs.size<=b)/\(∀ x c,X.env.cells.lookup x=some c->c≠b)/\∀ p∈X.pn++pins,p.1≠b
theorem Inv.rC {X:Cx} {pins:Wp} {σ:St} {H H':Hp} {s:Shared} {b:Addr} (I:Inv X pins σ H s) (hb:s.heap.objs.size<=b) (hn:H' b=none):n9 X pins H' b:=by
 refine ⟨hn,Zq (YJ I.lt hb),I.Px hb,.inr (Y2 I.sz hb),λx c e z=>?_,λp hp z=>?_⟩
 ·obtain ⟨v,q⟩:=I.cell x c e;exact absurd (YJ q.lt (by rw [z];exact hb)) (YN _)
 ·exact absurd (YJ (Yi (I.pin p hp).1) (by rw [z];exact hb)) (YN _)
structure Turn (P:Program) (w:World) (K:ZB) (tg:Expr) (J:It) (fp:XL) (it:Addr) (tn:Nat->Heap->Prop):Prop where
 mem:it∈fp
 obj:∀ i h,tn i h->∀ b∈fp,∃ o,h.get? b=some o/\∀ v,o.data≠.cell v
 keep:∀ i h h',tn i h->(∀ b∈fp,∀ o,h.get? b=some o->h'.get? b=some o)->tn i h'
 item:∀ (X:Cx),X.prog=P->X.w=w->X.K=K->X.calm=true->∀ (i:Nat) (pins:Wp) (s:Shared) (σ:St) (H:Hp) (E:WF),Inv X pins σ H s->(∀ b∈fp,n9 X pins H b)->tn i s.heap->J.go i H->
  wpAny (model P w) X.A (pyNext (.ref it)) (λr s1=>∃ u,r=some u/\
   wpAny (model P w) X.A (letOwnedTupleGo tg (.ref it) u) (λ_ s2=>∃ x H',Inv X pins σ H' s2/\RelV x u/\J.vo i H x H'/\tn (i+1) s2.heap/\∀ b∈fp,H' b=none) E s1) E s
 done:∀ (X:Cx),X.prog=P->X.w=w->X.K=K->X.calm=true->∀ (i:Nat) (pins:Wp) (s:Shared) (σ:St) (H:Hp) (E:WF),Inv X pins σ H s->(∀ b∈fp,n9 X pins H b)->tn i s.heap->J.stop i H->
  wpAny (model P w) X.A (pyNext (.ref it)) (λr s1=>r=none/\Inv X pins σ H s1) E s
 self:∀ (A:Around) (i:Nat) (s:Shared) (Q:WF) (E:WF),tn i s.heap->Q (.ref it) s->wpAny (model P w) A (pyIter (.ref it)) Q E s
abbrev TI:=St->Hp->(It->Hp->Prop)->Prop
def Rm (X:Cx) (pins:Wp) (σ:St) (tg:Expr) (R:It->Hp->Prop) (PQ:Value) (s2:Shared):Prop:=
 ∃ (it:Addr) (fp:XL) (tn:Nat->Heap->Prop) (J:It) (H':Hp),PQ=.ref it/\Inv X pins σ H' s2/\Turn X.prog X.w X.K tg J fp it tn/\tn 0 s2.heap/\(∀ b∈fp,n9 X pins H' b)/\R J H'
def PI (X:Cx) (tg iter:Expr) (wi:TI):Prop:=
 ∀ (pins:Wp) (s:Shared) (σ:St) (H:Hp) (R:It->Hp->Prop),Inv X pins σ H s->wi σ H R->
  wpAny (model X.prog X.w) X.A (eval iter X.env) (λv s1=>wpAny (model X.prog X.w) X.A (pyIter v) (Rm X pins σ tg R) X.xe s1) X.xe s
theorem sO (ho:s.heap.get? it=some o) (hc:o.cls=.type n) (hd:o.data=.fields vs)
  (hn:["enumerate", "zip", "dict_itemiterator", "dict_reverseitemiterator", "odict_iterator", "itertools.zip_longest", "itertools.pairwise"].contains n=false) (hQ:Q () s):wpAny M A (letOwnedTupleGo tg (.ref it) u) Q E s:=by
 unfold letOwnedTupleGo;cases tg<;>first
  | exact Ym hQ
  | (cases u<;>first
    | exact Ym hQ
    | (
       refine X5 (wpAny_load ho ?_);rw [hc,hd];show wpAny M A (if (["enumerate", "zip", "dict_itemiterator", "dict_reverseitemiterator", "odict_iterator", "itertools.zip_longest", "itertools.pairwise"].contains n&&vs[0]?==some (rawInt _))=true then _ else _) Q E s;rw [X6 (by intro h;rw [hn,Bool.false_and] at h;cases h)];exact Ym hQ))
def zF (K:ZB) (a:Addr):It:=
 ⟨λi H=>∃ xs x,aN K H a xs/\xs[i]?=some x,λi H x H'=>H'=H/\∀ xs,aN K H a xs->xs[i]?=some x,λi H=>∃ xs,aN K H a xs/\xs.length<=i⟩
def Ct (lo:Int) (n:Nat):It:=⟨λi _=>i<n,λi H x H'=>H'=H/\x=.int (lo+i),λi _=>n<=i⟩
theorem Bw {P:Program} {w:World} {K:ZB} {tg:Expr} (a it:Addr):Turn P w K tg (zF K a) [it] it (λi h=>h.IsListIter it a i) where
 mem:=by simp
 obj:=λi h st b hb=>by
  have e:b=it:=by simpa using hb
  subst e;obtain ⟨o,e,c,d⟩:=st;exact ⟨o,e,λv z=>by rw [d] at z;cases z⟩
 keep:=λi h h' st k=>st.at λo e=>k it (by simp) o e
 item:=by
  intro X hP hw hK hc i pins s σ H E I hf st hg;subst hP hw hK;obtain ⟨xs,x,hq,hx⟩:=hg;obtain ⟨aY,rv,p,hz⟩:=I.list hq;obtain ⟨u,hu,ru⟩:=rv.get hx;obtain ⟨f0,f1,f2,f3,f4,f5⟩:=hf it (by simp);refine wpAny_pyNext_list_item st p.isList (x:=u) (by simpa using hu) λh' oe sb=>?_;have I1:Inv X pins σ H { s with heap:=h' }:=I.turned (t':=s.toks) (λb o hb e=>(sb.2 b hb).trans e) f0 f1 f3 f4 f5;obtain ⟨o,e,c,d⟩:=id oe;exact ⟨u,rfl,sO (s:={ s with heap:=h' }) e c d (by decide) ⟨x,H,I1,ru,⟨rfl,λys hy=>by rw [I.wX hy hq];exact hx⟩,oe,λb hb=>(hf b hb).1⟩⟩
 done:=by
  intro X hP hw hK hc i pins s σ H E I hf st hg;subst hP hw hK;obtain ⟨xs,hq,hx⟩:=hg;obtain ⟨aY,rv,p,hz⟩:=I.list hq;obtain ⟨f0,f1,f2,f3,f4,f5⟩:=hf it (by simp);have hl:=rv.length;exact wpAny_pyNext_list_end (I.ok.hd hc) st p.isList (by simp;omega) λh' eb=>⟨rfl,I.turned (t':=s.toks) (λb o hb e=>eb b o hb e) f0 f1 f3 f4 f5⟩
 self:=λ_ _ _ _ _ st h=>wpAny_pyIter_listiter st h
theorem yq {P:Program} {w:World} {K:ZB} {tg:Expr} (it:Addr) (lo:Int) (n:Nat):Turn P w K tg (Ct lo n) [it] it (λi h=>IsRangeIter h it (lo+(i:Nat)*1) ((n:Int)-(i:Nat)) 1) where
 mem:=by simp
 obj:=λi h st b hb=>by
  have e:b=it:=by simpa using hb
  subst e;exact ⟨_,st,λv z=>by
   have z':Data.fields _=Data.cell v:=z;cases z'⟩
 keep:=λi h h' st k=>k it (by simp) _ st
 item:=by
  intro X hP hw hK hc i pins s σ H E I hf st hg;subst hP hw hK;obtain ⟨f0,f1,f2,f3,f4,f5⟩:=hf it (by simp);have W:=Walks.range (prog:=X.prog) (w:=X.w) (I.ok.hd hc) it lo 1 n;refine W.item i s _ _ hg st λv h' tk hv oe kk=>?_;obtain ⟨t,rfl⟩:=hv;have I1:Inv X pins σ H { s with heap:=h',toks:=tk }:=I.turned (λb o hb e=>kk b o (by simpa using hb) e) f0 f1 f3 f4 f5;refine ⟨_,rfl,sO (s:={ s with heap:=h',toks:=tk }) (n:= "range_iterator") oe rfl rfl (by decide) ⟨.int (lo+i),H,I1,⟨t,?_⟩,⟨rfl,rfl⟩,oe,λb hb=>(hf b hb).1⟩⟩;rw [Int.mul_one]
 done:=by
  intro X hP hw hK hc i pins s σ H E I hf st hg;subst hP hw hK;obtain ⟨f0,f1,f2,f3,f4,f5⟩:=hf it (by simp);exact wpAny_pyNext_range_end (I.ok.hd hc) st (by have:n<=i:=hg;omega) λh' eb=>⟨rfl,I.turned (t':=s.toks) (λb o hb e=>eb b o hb e) f0 f1 f3 f4 f5⟩
 self:=λ_ _ _ _ _ st h=>zba st h
section
variable {X:Cx} {tg:Expr}
def ED (K:ZB) (tl:TE):TI:=λσ H R=>tl σ H λx H1=>∃ a,x=.ref a/\(∃ xs,aN K H1 a xs)/\R (zF K a) H1
theorem bL (hl:PE X l tl):PI X tg l (ED X.K tl):=by
 intro pins s σ H R I h;refine cT (hl pins s σ H _ I h) λv s1 q9z=>?_;obtain ⟨x,H1,I1,r1,q1⟩:=q9z;obtain ⟨a,e,⟨xs,hq⟩,q⟩:=q1;subst e;cases r1
 obtain ⟨aY,rv,p,hz⟩:=I1.list hq;refine wpAny_pyIter_list p.isList ?_;refine ⟨s1.heap.objs.size,[s1.heap.objs.size],_,_,H1,rfl,I1.kept (t':=s1.toks) λb o e=>Yh _ e,Bw a _,⟨_,YH _ rfl,rfl,rfl⟩,λb hb=>?_,q⟩;have e:b=s1.heap.objs.size:=by simpa using hb
 subst e;exact I1.rC (X7 _) (I1.bH.fresh (X7 _))
theorem wu {σ:St} {s:Shared} {R:It->Hp->Prop} {lo hi:Int} {t u v:Tok} {tk:Nat} (I:Inv X pins σ H s) (h1 : -(2 ^ 62)<=lo) (h2:lo<2 ^ 62) (h3 : -(2 ^ 62)<=hi) (h4:hi<2 ^ 62)
  (q:R (Ct lo (hi-lo).toNat) H):wpAny (model X.prog X.w) X.A (pyIter (.ref s.heap.objs.size)) (Rm X pins σ tg R) E { s with heap:=s.heap.push { cls:=.type "range",data:=.fields #[.int lo t,.int hi u,.int 1 v] },toks:=tk }:=by
 refine wpAny_pyIter_range (IsRange.new ..) (small_one h1 h2 h3 h4) ?_;have I1:Inv X pins σ H { s with heap:=s.heap.push { cls:=.type "range",data:=.fields #[.int lo t,.int hi u,.int 1 v] },toks:=tk }:=I.kept λb o e=>Yh _ e;refine ⟨(s.heap.push { cls:=.type "range",data:=.fields #[.int lo t,.int hi u,.int 1 v] }).objs.size,[(s.heap.push { cls:=.type "range",data:=.fields #[.int lo t,.int hi u,.int 1 v] }).objs.size],_,_,H,rfl,
  I1.kept (t':=tk) λb o e=>Yh _ e,yq _ lo (hi-lo).toNat,?_,λb hb=>?_,q⟩
 ·have e1:lo+((0:Nat):Int)*1=lo:=by simp
  have e2:(((hi-lo).toNat:Nat):Int)-((0:Nat):Int)=Builtin.Range.rangeSize lo hi 1:=by rw [rangeSize_one];split<;>omega
  show IsRangeIter _ _ (lo+((0:Nat):Int)*1) ((((hi-lo).toNat:Nat):Int)-((0:Nat):Int)) 1;rw [e1,e2];exact YH _ rfl
 ·have e:b=(s.heap.push { cls:=.type "range",data:=.fields #[.int lo t,.int hi u,.int 1 v] }).objs.size:=by simpa using hb
  subst e;exact I1.rC (X7 _) (I1.bH.fresh (X7 _))
def Io (ta:TA):TI:=λσ H R=>ta σ H λvs H1=>∃ j:Int,vs=[.int j]/\-(2 ^ 62)<=j/\j<2 ^ 62/\R (Ct 0 j.toNat) H1
def ML (ta:TA):TI:=λσ H R=>ta σ H λvs H1=>∃ i j:Int,vs=[.int i,.int j]/\(-(2 ^ 62)<=i/\i<2 ^ 62/\-(2 ^ 62)<=j/\j<2 ^ 62)/\R (Ct i (j-i).toNat) H1
theorem bh (hg:Gl X "range") (hm:X.mg "range"=none) (ha:PA X [a] ta) (hs:starEach [a] X.env=[(false,eval a X.env)]:=by rfl):PI X tg (.Call (.Name "range" p) [a] [] pos) (Io ta):=by
 intro pins s σ H R I h;refine Call_ (dJ I hg hm boot_range (YG (cT (ha pos pins s σ H _ I h) λus s1 ⟨vs,H1,I1,r1,q1⟩=>?_) hs rfl));obtain ⟨j,e,q1,q2,q⟩:=q1;subst e;cases r1 with
 | cons r rr=>
  cases rr
  obtain ⟨t,rfl⟩:=r;exact call_range_1 (wu I1 (Tk _) (Tk _) q1 q2 (by simpa using q))
theorem sC {ta:TA} {p pos:Pos} (hg:Gl X "range") (hm:X.mg "range"=none) (ha:PA X [a,b] ta) (hs:starEach [a,b] X.env=[(false,eval a X.env),(false,eval b X.env)]:=by rfl) (AR:starEach [b] X.env=[(false,eval b X.env)]:=by rfl) :
  PI X tg (.Call (.Name "range" p) [a,b] [] pos) (ML ta):=by
 intro pins s σ H R I h;refine Call_ (dJ I hg hm boot_range (YG (cT (ha pos pins s σ H _ I h) λus s1 ⟨vs,H1,I1,r1,q1⟩=>?_) (by rw [hs,AR]) (by rw [AR];rfl)));obtain ⟨i,j,e,⟨q1,q2,q3,q4⟩,q⟩:=q1;subst e;cases r1 with
 | cons r rr=>
  cases rr with
  | cons r' rr=>
   cases rr
   obtain ⟨t,rfl⟩:=r;obtain ⟨t',rfl⟩:=r';exact call_range_2 (wu I1 q1 q2 q3 q4 q)
def LX (wi:TI) (g:TG) (tb:TS):TS:=λD σ H=>wi σ H λJ H1=>∃ W:Nat->Nat->St->Hp->Prop,(∃ m,W 0 m σ H1)/\∀ i m σ H,W i m σ H->
 (J.stop i H/\D.nx σ H)\/(J.go i H/\∃ N:St->Hp->Prop,(∀ σ' H',N σ' H'->∃ m',m'<m/\W (i+1) m' σ' H')/\∀ x H',J.vo i H x H'->g x σ H' λσ2 H2=>tb { D with nx:=N,ct:=N,bk:=D.nx } σ2 H2)
def pA (fp:XL) (h:Heap):Wp:=fp.filterMap λb=>(h.get? b).map λo=>(b,o)
theorem iQ (hb:b∈fp) (e:h.get? b=some o):(b,o)∈pA fp h:=List.mem_filterMap.mpr ⟨b,hb,by rw [e];rfl⟩
theorem BO (hp:p∈pA fp h):p.1∈fp/\h.get? p.1=some p.2:=by
 obtain ⟨b,hb,e⟩:=List.mem_filterMap.mp hp;cases q:h.get? b with
 | none=>rw [q] at e;cases e
 | some o=>
  rw [q] at e;have e':(b,o)=p:=Yf e;subst e';exact ⟨hb,q⟩
theorem Inv.pinned {σ:St} {s:Shared} (I:Inv X pins σ H s) (hf:∀ b∈fp,n9 X pins H b) (ho:∀ b∈fp,∃ o,s.heap.get? b=some o/\∀ v,o.data≠.cell v):Inv X (pins++pA fp s.heap) σ H s:=
 I.Ar λp hp=>(Ye.mp hp).elim (λz=>I.pin p (YA _ z)) λz=>by
  obtain ⟨hb,e⟩:=BO z;obtain ⟨f0,f1,f2,_⟩:=hf p.1 hb;obtain ⟨o,e',d⟩:=ho p.1 hb;rw [e] at e';cases e';exact ⟨e,f0,f1,f2,d⟩
def Inv.lA {σ:St} {s:Shared} (I:Inv X (pins++pl) σ H s):Inv X pins σ H s:=I.Ar λp hp=>I.pin p (YA _ (Yx _ hp))
theorem bG {iter:Expr} {body:List Stmt} {wi:TI} {g:TG} {tb:TS} {pos:Pos} (hp:PassesOwn (model X.prog X.w) X.A X.env X.xe) (hc:X.calm=true) (hi:PI X tg iter wi) (hg:PG X tg g) (hb:Bp X body tb)
  (hs:∀ x,foldedSetIterable iter X.env x=pure x:=by intro _;rfl):PS X (.For tg iter body [] pos) (LX wi g tb):=by
 intro pins s σ H D I h;refine wpAny_For (cT (hi pins s σ H _ I h) λv s1 h1=>cT h1 λPQ s2 h2=>?_) hs;obtain ⟨it,fp,tn,J,H2,e,I2,T,CB,f2,W,⟨m0,w0⟩,turn⟩:=h2;subst e
 -- LL stays true of mE iterator's objects through mE loop
 have Jh:∀ {H':Hp},(∀ b∈fp,H' b=none)->∀ b∈fp,n9 X pins H' b:=λhn b hb=>⟨hn b hb,(f2 b hb).2⟩;refine codeAny_forLoop_any (λn s'=>∃ i σ' H',Inv X pins σ' H' s'/\tn i s'.heap/\(∀ b∈fp,H' b=none)/\W i n σ' H') ?_ m0 ⟨0,σ,H2,I2,CB,λb hb=>(f2 b hb).1,w0⟩;rintro n s3 ⟨i,σ3,H3,I3,RL,FD,w3⟩;rcases turn i n σ3 H3 w3 with ⟨stop,qn⟩|⟨go,N,hN,step⟩
 ·refine zah hp (cT (T.done X rfl rfl rfl hc i pins s3 σ3 H3 X.xe I3 (Jh FD) RL stop) λr s4 q9z=>?_);obtain ⟨hr,I4⟩:=q9z;subst hr;exact zbw ⟨σ3,H3,I4,qn⟩
 ·refine zah hp (cT (T.item X rfl rfl rfl hc i pins s3 σ3 H3 X.xe I3 (Jh FD) RL go) λr s4 q9z=>?_);obtain ⟨u,hr,h4⟩:=q9z;subst hr;refine zah hp (cT h4 λ_ s5 q9z=>?_);obtain ⟨x,H5,I5,r5,y5,O2,Ti⟩:=q9z;have WR:=I5.pinned (Jh Ti) (T.obj _ _ O2);refine zah hp (cT (hg _ s5 σ3 H5 x u _ WR r5 (step x H5 y5)) λ_ s6 q9z=>?_);obtain ⟨σ6,H6,I6,q6⟩:=q9z;refine zah hp (cT (hb _ s6 σ6 H6 _ I6 q6) λf s7 q7=>?_);have again:∀ {σ7:St} {H7:Hp},Inv X (pins++pA fp s5.heap) σ7 H7 s7->N σ7 H7->∃ m,m<n/\∃ i σ' H',Inv X pins σ' H' s7/\tn i s7.heap/\(∀ b∈fp,H' b=none)/\W i m σ' H':=λ{σ7 H7} I7 n7=>by
   obtain ⟨m',hm,w7⟩:=hN σ7 H7 n7;refine ⟨m',hm,i+1,σ7,H7,I7.lA,T.keep _ _ _ O2 λb hb o e=>(I7.pin (b,o) (YA _ (YA _ (iQ hb e)))).1,λb hb=>?_,w7⟩;obtain ⟨o,e,d⟩:=T.obj _ _ O2 b hb;exact (I7.pin (b,o) (YA _ (YA _ (iQ hb e)))).2.1
  cases f with
  | next=>obtain ⟨σ7,H7,I7,n7⟩:=q7;exact again I7 n7
  | cont=>obtain ⟨σ7,H7,I7,n7⟩:=q7;exact again I7 n7
  | brk=>obtain ⟨σ7,H7,I7,q7⟩:=q7;exact ⟨σ7,H7,I7.lA,q7⟩
  | ret v=>obtain ⟨x7,σ7,H7,I7,r7,q7⟩:=q7;exact ⟨x7,σ7,H7,I7.lA,r7,q7⟩
end
theorem fF {K:ZB} {a:Addr} {xs:List V} {g:TG} {tb:TS} {D:Ends} {σ:St} {H:Hp} (Pv:Nat->St->Hp->Prop) (h0:Pv 0 σ H) (hl:∀ i σ H,i<=xs.length->Pv i σ H->aN K H a xs)
  (hs:∀ i x σ H,xs[i]?=some x->Pv i σ H->g x σ H λσ2 H2=>tb { D with nx:=Pv (i+1),ct:=Pv (i+1),bk:=D.nx } σ2 H2) (hd:∀ σ H,Pv xs.length σ H->D.nx σ H) :
  ∃ W:Nat->Nat->St->Hp->Prop,(∃ m,W 0 m σ H)/\∀ i m σ H,W i m σ H->
   ((zF K a).stop i H/\D.nx σ H)\/((zF K a).go i H/\∃ N:St->Hp->Prop,(∀ σ' H',N σ' H'->∃ m',m'<m/\W (i+1) m' σ' H')/\∀ x H',(zF K a).vo i H x H'->g x σ H' λσ2 H2=>tb { D with nx:=N,ct:=N,bk:=D.nx } σ2 H2):=by
 refine ⟨λi m σ H=>m=xs.length-i/\i<=xs.length/\Pv i σ H,⟨xs.length,by simp,YK _,h0⟩,?_⟩;rintro i m σ H ⟨rfl,hi,p⟩;have q:=hl i σ H hi p;by_cases eK:i<xs.length
 ·refine .inr ⟨⟨xs,xs[i],q,by simp [eK]⟩,Pv (i+1),λσ' H' p'=>⟨xs.length-(i+1),by omega,rfl,eK,p'⟩,λx H' y=>?_⟩;obtain ⟨e,y⟩:=y;subst e;exact hs i x σ _ (y xs q) p
 ·have e:i=xs.length:=by omega
  subst e;exact .inl ⟨⟨xs,q,X7 _⟩,hd σ H p⟩
theorem bZ {lo:Int} {n:Nat} {g:TG} {tb:TS} {D:Ends} {σ:St} (Pv:Nat->St->Hp->Prop) (h0:Pv 0 σ H)
  (hs:∀ i σ H,i<n->Pv i σ H->g (.int (lo+i)) σ H λσ2 H2=>tb { D with nx:=Pv (i+1),ct:=Pv (i+1),bk:=D.nx } σ2 H2) (hd:∀ σ H,Pv n σ H->D.nx σ H) :
  ∃ W:Nat->Nat->St->Hp->Prop,(∃ m,W 0 m σ H)/\∀ i m σ H,W i m σ H->
   ((Ct lo n).stop i H/\D.nx σ H)\/((Ct lo n).go i H/\∃ N:St->Hp->Prop,(∀ σ' H',N σ' H'->∃ m',m'<m/\W (i+1) m' σ' H')/\∀ x H',(Ct lo n).vo i H x H'->g x σ H' λσ2 H2=>tb { D with nx:=N,ct:=N,bk:=D.nx } σ2 H2):=by
 refine ⟨λi m σ H=>m=n-i/\i<=n/\Pv i σ H,⟨n,by simp,YK _,h0⟩,?_⟩;rintro i m σ H ⟨rfl,hi,p⟩;by_cases eK:i<n
 ·refine .inr ⟨eK,Pv (i+1),λσ' H' p'=>⟨n-(i+1),by omega,rfl,eK,p'⟩,λx H' y=>?_⟩;obtain ⟨e,y⟩:=y;subst e y;exact hs i σ _ eK p
 ·have e:i=n:=by omega
  subst e;exact .inl ⟨X7 _,hd σ H p⟩
abbrev R2:=V->V->Hp->VK->Prop
def nO (X:Cx) (f:Value->Value->Sem Value) (r:R2):Prop:=
 ∀ (pins:Wp) (s:Shared) (σ:St) (H:Hp) (x y:V) (v u:Value) (Q:VK),Inv X pins σ H s->RelV x v->RelV y u->r x y H Q->
  wpAny (model X.prog X.w) X.A (f v u) (EP X pins σ Q) X.xe s
def Rj (X:Cx) (f:Value->Sem Value) (r:V->Hp->VK->Prop):Prop:=
 ∀ (pins:Wp) (s:Shared) (σ:St) (H:Hp) (x:V) (v:Value) (Q:VK),Inv X pins σ H s->RelV x v->r x H Q->
  wpAny (model X.prog X.w) X.A (f v) (EP X pins σ Q) X.xe s
def fG (X:Cx) (f:Value) (r:List V->Hp->VK->Prop):Prop:=
 ∀ (pins:Wp) (s:Shared) (σ:St) (H:Hp) (xs:List V) (us:XV) (Q:VK),Inv X pins σ H s->Vals xs us->r xs H Q->
  wpAny (model X.prog X.w) X.A (call f us) (EP X pins σ Q) X.xe s
def C4 (r:R2) (ta tb:TE):TE:=λσ H Q=>ta σ H λx H1=>tb σ H1 λy H2=>r x y H2 Q
def O0 (r:V->Hp->VK->Prop) (ta:TE):TE:=λσ H Q=>ta σ H λx H1=>r x H1 Q
def rI (C:Int->Int->Prop) (g:Int->Int->V):R2:=λx y H Q=>∃ i j,x=.int i/\y=.int j/\C i j/\Q (g i j) H
def Ft (g:Int->Int->V):R2:=λx y H Q=>∃ i j,x=.int i/\y=.int j/\Q (g i j) H
def rU (g:Int->V):V->Hp->VK->Prop:=λx H Q=>∃ i,x=.int i/\Q (g i) H
theorem K5 (ha:PE X a ta) (hb:PE X b tb) {pins:Wp} {s:Shared} {σ:St} {H:Hp} {R:V->V->Hp->Prop} (I:Inv X pins σ H s)
  (h:ta σ H λx H1=>tb σ H1 λy H2=>R x y H2) {Q:WF} {f:Value->Value->Sem Value}
  (hf:∀ v u s2 x y H2,Inv X pins σ H2 s2->RelV x v->RelV y u->R x y H2->wpAny (model X.prog X.w) X.A (f v u) Q X.xe s2) :
  wpAny (model X.prog X.w) X.A (eval a X.env) (λv s₁=>wpAny (model X.prog X.w) X.A (eval b X.env) (λu s₂=>wpAny (model X.prog X.w) X.A (f v u) Q X.xe s₂) X.xe s₁) X.xe s:=by
 refine cT (ha pins s σ H _ I h) λv s1 q9z=>?_;obtain ⟨x,H1,I1,r1,q1⟩:=q9z;refine cT (hb pins s1 σ H1 _ I1 q1) λu s2 q9z=>?_;obtain ⟨y,H2,I2,r2,q2⟩:=q9z;exact hf v u s2 x y H2 I2 r1 r2 q2
theorem aO (ho:nO X (binaryOp op) r) (ha:PE X a ta) (hb:PE X b tb):PE X (.BinOp a op b pos) (C4 r ta tb):=by
 intro pins s σ H Q I h;exact wpAny_BinOp (K5 ha hb I h λv u s2 x y H2 I2 rx ry q=>ho pins s2 σ H2 x y v u Q I2 rx ry q)
theorem wH (ho:Rj X (unaryOp op) r) (ha:PE X a ta):PE X (.UnaryOp op a pos) (O0 r ta):=by
 intro pins s σ H Q I h;exact UnaryOp_ (cT (ha pins s σ H _ I h) λv s1 ⟨x,H1,I1,r1,q1⟩=>ho pins s1 σ H1 x v Q I1 r1 q1)
theorem N9 {C:Int->Int->Prop} {g:Int->Int->Int}
  (rule:∀ (i j:Int) (t u:Tok) (s:Shared) (Q:WF) (E:WF),C i j->Q (.int (g i j) s.toks) { s with toks:=s.toks+1 }->wpAny (model X.prog X.w) X.A (f (.int i t) (.int j u)) Q E s) :
  nO X f (rI C λi j=>.int (g i j)):=by
 intro pins s σ H x y v u Q I rx ry h;obtain ⟨i,j,rfl,rfl,hc,q⟩:=h;obtain ⟨t,rfl⟩:=rx;obtain ⟨t',rfl⟩:=ry;exact rule i j t t' s _ _ hc ⟨.int (g i j),H,I.tok _,⟨_,rfl⟩,q⟩
theorem Mo {g:Int->Int->Int}
  (rule:∀ (i j:Int) (t u:Tok) (s:Shared) (Q:WF) (E:WF),Q (.int (g i j) s.toks) { s with toks:=s.toks+1 }->wpAny (model X.prog X.w) X.A (f (.int i t) (.int j u)) Q E s) :
  nO X f (Ft λi j=>.int (g i j)):=by
 intro pins s σ H x y v u Q I rx ry h;obtain ⟨i,j,rfl,rfl,q⟩:=h;obtain ⟨t,rfl⟩:=rx;obtain ⟨t',rfl⟩:=ry;exact rule i j t t' s _ _ ⟨.int (g i j),H,I.tok _,⟨_,rfl⟩,q⟩
theorem JM {g:Int->Int->Bool}
  (rule:∀ (i j:Int) (t u:Tok) (s:Shared) (Q:WF) (E:WF),Q (.bool (g i j)) s->wpAny (model X.prog X.w) X.A (f (.int i t) (.int j u)) Q E s) :
  nO X f (Ft λi j=>.bl (g i j)):=by
 intro pins s σ H x y v u Q I rx ry h;obtain ⟨i,j,rfl,rfl,q⟩:=h;obtain ⟨t,rfl⟩:=rx;obtain ⟨t',rfl⟩:=ry;exact rule i j t t' s _ _ ⟨.bl (g i j),H,I,rfl,q⟩
def Rq (i j:Int):Prop:=0<=j/\j<=1000000/\i.natAbs<2 ^ 64
def cz:nO X (binaryOp .Add) (Ft λi j=>.int (i+j)):=Mo λ_ _ _ _ _ _ _ q=>add_int q
def jF:nO X (binaryOp .Sub) (Ft λi j=>.int (i-j)):=Mo λ_ _ _ _ _ _ _ q=>sub_int q
theorem cN:nO X (binaryOp .Mod) (rI (λ_ j=>0<j) λi j=>.int (i%j)):=N9 λi j _ _ _ _ _ hc q=>by
 have h1:(0:Int)<j:=hc;exact mod_int' (by omega) (by rw [Int.fmod_eq_emod_of_nonneg i (Ty ‹_›)];exact q)
def D2:nO X (binaryOp .Pow) (rI Rq λi j=>.int (i ^ j.toNat)):=N9 λ_ _ _ _ _ _ _ hc q=>pow_int_small hc.1 hc.2.1 hc.2.2 q
theorem TM {g:Int->Int}
  (rule:∀ (i:Int) (t:Tok) (s:Shared) (Q:WF) (E:WF),Q (.int (g i) s.toks) { s with toks:=s.toks+1 }->wpAny (model X.prog X.w) X.A (f (.int i t)) Q E s) :
  Rj X f (rU λi=>.int (g i)):=by
 intro pins s σ H x v Q I rx h;obtain ⟨i,rfl,q⟩:=h;obtain ⟨t,rfl⟩:=rx;exact rule i t s _ _ ⟨.int (g i),H,I.tok _,⟨_,rfl⟩,q⟩
def oD:Rj X (unaryOp .USub) (rU λi=>.int (-i)):=TM λ_ _ _ _ _ q=>neg_int q
def L5:V->V->Bool
 | .dO,.dO=>true | .dO,.int _=>true | .int _,.dO=>true | .dO,.bl _=>true | .bl _,.dO=>true | .dO,.str _=>true | .str _,.dO=>true
 | .int _,.int _=>true | .bl _,.bl _=>true | .str _,.str _=>true | .Bh _,.Bh _=>true
 | .int _,.str _=>true | .str _,.int _=>true | .bl _,.str _=>true | .str _,.bl _=>true
 | _,_=>false
def Pe:R2:=λx y H Q=>L5 x y=true/\Q (.bl (decide (x=y))) H
def R1:R2:=λx y H Q=>L5 x y=true/\Q (.bl (!decide (x=y))) H
theorem oz:decide (V.int i=V.int j)=(i==j):=by
 rw [zbx];simp
theorem EZ:decide (V.bl i=V.bl j)=(i==j):=by
 rw [zbx];simp
theorem Ba:decide (V.str i=V.str j)=(i==j):=by
 rw [zbx];simp
theorem Bb:decide (V.Bh i=V.Bh j)=(i.toList==j.toList):=by
 rw [zbx];cases i
 cases j
 simp
theorem bw {σ:St} {s:Shared} {k k':Bool} (I:Inv X pins σ H s) (q:Q (.bl k) H) (e:k=k'):EP X pins σ Q (.bool k') s:=by
 subst e;exact ⟨.bl k,H,I,rfl,q⟩
theorem ie:nO X (compareOp .Eq) Pe:=by
 intro pins s σ H x y v u Q I rx ry h;obtain ⟨hs,q⟩:=h;cases x with
 | dO=>
  cases rx
  cases y with
  | dO=>cases ry;exact PySem.EqNone.eq_none_none (bw I q (by simp))
  | bl j=>cases ry;exact PySem.EqNone.eq_none_bool (bw I q (by simp))
  | int j=>obtain ⟨t',rfl⟩:=ry;exact PySem.EqNone.eq_none_int (bw I q (by simp))
  | str j=>obtain ⟨t',rfl⟩:=ry;exact PySem.EqNone.eq_none_str (bw I q (by simp))
  | _=>exact absurd (show false=true from hs) Yo
 | bl i=>
  cases rx
  cases y with
  | dO=>cases ry;exact PySem.EqNone.eq_bool_none (bw I q (by simp))
  | bl j=>cases ry;exact eq_bool (bw I q EZ)
  | str j=>obtain ⟨t',rfl⟩:=ry;exact PySem.EqMixed.eq_bool_str (bw I q (by simp))
  | _=>exact absurd (show false=true from hs) Yo
 | int i=>
  obtain ⟨t,rfl⟩:=rx;cases y with
  | dO=>cases ry;exact PySem.EqNone.eq_int_none (bw I q (by simp))
  | int j=>obtain ⟨t',rfl⟩:=ry;exact eq_int (bw I q oz)
  | str j=>obtain ⟨t',rfl⟩:=ry;exact PySem.EqMixed.eq_int_str (bw I q (by simp))
  | _=>exact absurd (show false=true from hs) Yo
 | str i=>
  obtain ⟨t,rfl⟩:=rx;cases y with
  | dO=>cases ry;exact PySem.EqNone.eq_str_none (bw I q (by simp))
  | bl j=>cases ry;exact PySem.EqMixed.eq_str_bool (bw I q (by simp))
  | int j=>obtain ⟨t',rfl⟩:=ry;exact PySem.EqMixed.eq_str_int (bw I q (by simp))
  | str j=>obtain ⟨t',rfl⟩:=ry;exact eq_str (bw I q Ba)
  | _=>exact absurd (show false=true from hs) Yo
 | Bh i=>
  obtain ⟨t,rfl⟩:=rx;cases y with
  | Bh j=>obtain ⟨t',rfl⟩:=ry;exact PySem.W.eq_bytes (bw I q Bb)
  | _=>exact absurd (show false=true from hs) Yo
 | _=>cases y<;>exact absurd (show false=true from hs) Yo
theorem pH:nO X (compareOp .NotEq) R1:=by
 intro pins s σ H x y v u Q I rx ry h;obtain ⟨hs,q⟩:=h;cases x with
 | dO=>
  cases rx
  cases y with
  | dO=>cases ry;exact PySem.EqNone.ne_none_none (bw I q (by simp))
  | bl j=>cases ry;exact PySem.EqNone.ne_none_bool (bw I q (by simp))
  | int j=>obtain ⟨t',rfl⟩:=ry;exact PySem.EqNone.ne_none_int (bw I q (by simp))
  | str j=>obtain ⟨t',rfl⟩:=ry;exact PySem.EqNone.ne_none_str (bw I q (by simp))
  | _=>exact absurd (show false=true from hs) Yo
 | bl i=>
  cases rx
  cases y with
  | dO=>cases ry;exact PySem.EqNone.ne_bool_none (bw I q (by simp))
  | bl j=>cases ry;exact ne_bool (bw I q (Yt not EZ))
  | str j=>obtain ⟨t',rfl⟩:=ry;exact PySem.EqMixed.ne_bool_str (bw I q (by simp))
  | _=>exact absurd (show false=true from hs) Yo
 | int i=>
  obtain ⟨t,rfl⟩:=rx;cases y with
  | dO=>cases ry;exact PySem.EqNone.ne_int_none (bw I q (by simp))
  | int j=>obtain ⟨t',rfl⟩:=ry;exact ne_int (bw I q (Yt not oz))
  | str j=>obtain ⟨t',rfl⟩:=ry;exact PySem.EqMixed.ne_int_str (bw I q (by simp))
  | _=>exact absurd (show false=true from hs) Yo
 | str i=>
  obtain ⟨t,rfl⟩:=rx;cases y with
  | dO=>cases ry;exact PySem.EqNone.ne_str_none (bw I q (by simp))
  | bl j=>cases ry;exact PySem.EqMixed.ne_str_bool (bw I q (by simp))
  | int j=>obtain ⟨t',rfl⟩:=ry;exact PySem.EqMixed.ne_str_int (bw I q (by simp))
  | str j=>obtain ⟨t',rfl⟩:=ry;exact ne_str (bw I q (Yt not Ba))
  | _=>exact absurd (show false=true from hs) Yo
 | Bh i=>
  obtain ⟨t,rfl⟩:=rx;cases y with
  | Bh j=>obtain ⟨t',rfl⟩:=ry;exact PySem.W.ne_bytes (bw I q (Yt not Bb))
  | _=>exact absurd (show false=true from hs) Yo
 | _=>cases y<;>exact absurd (show false=true from hs) Yo
def h9:nO X (compareOp .Lt) (Ft λi j=>.bl (decide (i<j))):=JM λ_ _ _ _ _ _ _ q=>lt_int q
def Mn:nO X (compareOp .LtE) (Ft λi j=>.bl (decide (i<=j))):=JM λ_ _ _ _ _ _ _ q=>le_int q
def pI:nO X (compareOp .Gt) (Ft λi j=>.bl (decide (j<i))):=JM λ_ _ _ _ _ _ _ q=>gt_int q
theorem aW (b:Expr) (h:op≠.In:=by decide) (h2:op≠.NotIn:=by decide):behindInMarks op b=false:=by
 have e1:(op==CmpOp.In)=false:=by cases op<;>first|rfl|exact absurd rfl h
 have e2:(op==CmpOp.NotIn)=false:=by cases op<;>first|rfl|exact absurd rfl h2
 cases b<;>simp [behindInMarks,e1,e2]
theorem uw (ho:nO X (compareOp op) r) (ha:PE X a ta) (hb:PE X b tb) (hm:behindInMarks op b=false):PE X (.Compare a [op] [b] pos) (C4 r ta tb):=by
 intro pins s σ H Q I h;exact wpAny_Compare1 (K5 ha hb I h λv u s2 x y H2 I2 rx ry q=>ho pins s2 σ H2 x y v u Q I2 rx ry q) hm
def C3 (t:TE):TT:=λσ H Q=>t σ H λx H'=>∃ k,x=.bl k/\Q k H'
theorem aM (ho:nO X (compareOp op) r) (ha:PE X a ta) (hb:PE X b tb) (hm:behindInMarks op b=false):PT X (.Compare a [op] [b] pos) (C3 (C4 r ta tb)):=by
 intro pins s σ H Q I h;refine wpAny_isTrue_Compare1 (cT (ha pins s σ H _ I h) λv s1 ⟨x,H1,I1,r1,q1⟩=>cT (hb pins s1 σ H1 _ I1 q1) λu s2 ⟨y,H2,I2,r2,q2⟩=>
  cT (ho pins s2 σ H2 x y v u _ I2 r1 r2 q2) λc s3 ⟨z,H3,I3,r3,k,e,q3⟩=>?_) hm
 subst e;cases r3
 exact ZV ⟨H3,I3,q3⟩
theorem mT:(sizeLine:Nat)<2 ^ 63:=by rw [ZS];decide
theorem vals1 (r:Vals [x] us):∃ u,us=[u]/\RelV x u:=by
 cases r with
 | cons r1 r2=>cases r2;exact ⟨_,rfl,r1⟩
theorem vals2 (r:Vals [x,y] us):∃ u w',us=[u,w']/\RelV x u/\RelV y w':=by
 cases r with
 | cons r1 r2=>
  cases r2 with
  | cons r3 r4=>cases r4;exact ⟨_,_,rfl,r1,r3⟩
theorem sX (hc:X.calm=true):fG X (.builtin "max") (λxs H Q=>∃ i j,xs=[.int i,.int j]/\Q (.int (if j > i then j else i)) H):=by
 intro pins s σ H xs us Q I r h;obtain ⟨i,j,rfl,q⟩:=h;obtain ⟨u,w',rfl,⟨t,rfl⟩,⟨t',rfl⟩⟩:=vals2 r;refine max_two_ints (I.ok.hd hc) λh' tk k=>⟨_,H,I.kept k,?_,q⟩;by_cases hj:j > i
 ·rw [Ya hj,Ya hj];exact ⟨_,rfl⟩
 ·rw [X6 hj,X6 hj];exact ⟨_,rfl⟩
theorem nh (hc:X.calm=true):fG X (.builtin "min") (λxs H Q=>∃ i j,xs=[.int i,.int j]/\Q (.int (if j<i then j else i)) H):=by
 intro pins s σ H xs us Q I r h;obtain ⟨i,j,rfl,q⟩:=h;obtain ⟨u,w',rfl,⟨t,rfl⟩,⟨t',rfl⟩⟩:=vals2 r;refine min_two_ints (I.ok.hd hc) λh' tk k=>⟨_,H,I.kept k,?_,q⟩;by_cases hj:j<i
 ·rw [Ya hj,Ya hj];exact ⟨_,rfl⟩
 ·rw [X6 hj,X6 hj];exact ⟨_,rfl⟩
def NP (K:ZB) (x:V) (H:Hp) (n:Nat):Prop:=
 match x with
 | .str y=>y.length<=sizeLine/\n=y.length
 | .Bh y=>y.size<=sizeLine/\n=y.size
 | .ref p=>(∃ xs,aN K H p xs/\n=xs.length)\/∃ xs,SqT K H p xs/\n=xs.length
 | _=>False
theorem aL:fG X (.builtin "len") (λxs H Q=>∃ x n,xs=[x]/\NP X.K x H n/\Q (.int n) H):=by
 intro pins s σ H xs us Q I r h;obtain ⟨x,n,rfl,e,q⟩:=h;obtain ⟨u,rfl,rx⟩:=vals1 r;have hl:=mT;have hs:sizeLine=16777216:=ZS;cases x with
 | str y=>
  obtain ⟨t,rfl⟩:=rx;obtain ⟨hy,e'⟩:y.length<=sizeLine/\n=y.length:=e;subst e';exact len_str (by omega) ⟨.int _,H,I.tok _,⟨_,rfl⟩,q⟩
 | Bh y=>
  obtain ⟨t,rfl⟩:=rx;obtain ⟨hy,e'⟩:y.size<=sizeLine/\n=y.size:=e;subst e';exact PySem.W.len_bytes (by omega) ⟨.int _,H,I.tok _,⟨_,rfl⟩,q⟩
 | ref p=>
  cases rx
  have e':(∃ xs,aN X.K H p xs/\n=xs.length)\/∃ xs,SqT X.K H p xs/\n=xs.length:=e;rcases e' with ⟨xs,hx,e'⟩|⟨xs,hx,e'⟩
  ·subst e';obtain ⟨aY,r',pl,hz⟩:=I.list hx;have hlen:=r'.length;exact Calls.call_len_list pl.isList (by simp only [YE];omega) ⟨.int xs.length,H,I.tok _,⟨_,by simp only [YE];rw [hlen]⟩,q⟩
  ·subst e';obtain ⟨aY,r',pl,hz⟩:=I.tuple hx;have hlen:=r'.length;exact len_tuple pl (by simp only [YE];omega) ⟨.int xs.length,H,I.tok _,⟨_,by simp only [YE];rw [hlen]⟩,q⟩
 | _=>exact (show False from e).elim
structure K7 (h:Heap) (x dx C:Addr) (mA:WP):Prop where
 obj:h.get? x=some (PySem.W.instObj C dx)
 ns:h.Ns1 dx mA
 ne:dx≠x
theorem BU {h:Heap} {mA:WP} (n:h.Ns1 dx mA):∃ od,h.get? dx=some od/\∀ name,PySem.W.lookIn name od=some (mA name):=by
 obtain ⟨o,es,ep,ho,hd,hk,_,hm⟩:=n;refine ⟨o,ho,λname=>?_⟩;have e:=hm name;unfold nsFind findBy at e;rw [<-Array.find?_toList] at e;unfold PySem.W.lookIn;rw [hd];dsimp only;split
 ·rename_i y q;rw [q] at e;exact Yt some e
 ·rename_i q;rw [q] at e;have a:es.toList.any (·.refKey)=false:=by
   rw [any_eq_false];intro y hy;obtain ⟨z,t,B2⟩:=hk y (Array.mem_toList_iff.mp hy);simp [DictEntry.refKey,B2]
  have a':¬es.toList.any (·.refKey)=true:=by rw [a];exact Yo
  rw [X6 a'];exact Yt some e
def K7.look (I:K7 h x dx C mA):∃ od,PySem.W.InstAt h x (PySem.W.instObj C dx) C (some od)/\∀ name,PySem.W.lookIn name od=some (mA name):=
 let ⟨od,ho,hl⟩:=BU I.ns
 ⟨od,⟨I.obj,rfl,rfl,ho⟩,hl⟩
theorem nk.some_of (r:nk (some v) o):∃ u,o=some u/\RelV v u:=by
 cases o with
 | none=>exact (show False from r).elim
 | some u=>exact ⟨u,rfl,r⟩
theorem GL (bH:kh P w H h) (e:H a=some (.ins C dx fs)):∃ mA,K7 h a dx C mA/\(∀ f,nk (fs.lookup f) (mA f))/\PySem.Within mA (fs.map (·.1))/\fs.length<=1000/\H dx=some (.own a):=by
 obtain ⟨d,z,ne,ob,mA,n,r,q⟩:=(show bC P w H h a (.ins C dx fs) from bH a _ e);exact ⟨mA,⟨ob,n,ne⟩,r,q,z,d⟩
structure Rp (K:ZB) (C:Addr):Prop where
 pg:PySem.W.plainGet K C Str.empty=true
 hd:PySem.W.hasDictIn K C=true
 po:PySem.W.plainOver K C=true
 sa:PySem.W.findIn K (.ref C) "__setattr__"=some (some (.builtin "object.__setattr__"))
def Rp.get {K:ZB} {C:Addr} (c:Rp K C) (f:Str):PySem.W.plainGet K C f=true:=c.pg
section
variable {X:Cx} {pins:Wp} {σ:St} {H:Hp} {s:Shared} {A:Around} {E:WF} {Q:WF} {c:Value} {b:Bool}
inductive mf (K:ZB) (H:Hp):V->Value->Prop where
 | dO:mf K H .dO (.type "NoneType")
 | bl (x:Bool):mf K H (.bl x) (.type "bool")
 | int (i:Int):mf K H (.int i) (.type "int")
 | str (x:Str):mf K H (.str x) (.type "str")
 | ET (x:UInt64):mf K H (.ET x) (.type "float")
 | lst {a:Addr} {xs:List V} (e:H a=some (.lst xs)):mf K H (.ref a) (.type "list")
 | fN {a:Addr} {o:Obj} {xs:List V} (e:H a=some (.fN o (.lst xs))):mf K H (.ref a) (.type "list")
 | tup {a:Addr} {xs:List V} (e:H a=some (.tup xs)):mf K H (.ref a) (.type "tuple")
 | dK {a:Addr} {kvs:List (Key×V)} (e:H a=some (.dK kvs)):mf K H (.ref a) (.type "dict")
 | dT {a:Addr} {kvs:List (List Key×V)} (e:H a=some (.dT kvs)):mf K H (.ref a) (.type "dict")
 | ins {a C dx:Addr} {fs:List (Str×V)} (e:H a=some (.ins C dx fs)) (cl:Rp K C) (ha:PySem.W.findIn K (.ref C) "__class__"=some (some (.builtin "object.__class__")))
   (hn:PySem.W.specialIn K (.builtin "object.__class__") "__get__"=some (some (.builtin "getset_descriptor.__get__"))) (Oo:PySem.W.takesIn K (.builtin "object.__class__")=some true)
   (hm:PySem.W.mroIn K C (.type "object")=some true):mf K H (.ref a) (.ref C)
theorem BY (I:Inv X pins σ H s) (rx:RelV x u) (ty:mf X.K H x t) (e:PySem.W.kitOne X.K t c=some b) (h:∀ tk,Q (.bool b) { s with toks:=tk }) :
  wpAny (model X.prog X.w) A (call (.builtin "isinstance") [u,c]) Q E s:=by
 cases ty with
 | dO=>cases (show u=Value.none from rx);exact Zw PySem.W.kitx_none I.xf True.intro e (λz=>nomatch z) h
 | bl y=>cases (show u=Value.bool y from rx);exact Zw PySem.W.kitx_bool I.xf True.intro e (λz=>nomatch z) h
 | int i=>obtain ⟨t,q⟩:=(show ∃ t,u=Value.int i t from rx);cases q;exact Zw PySem.W.kitx_int I.xf True.intro e (λz=>nomatch z) h
 | str y=>obtain ⟨t,q⟩:=(show ∃ t,u=Value.str y t from rx);cases q;exact Zw PySem.W.kitx_str I.xf True.intro e (λz=>nomatch z) h
 | ET y=>obtain ⟨t,q⟩:=(show ∃ t,u=Value.float y t from rx);cases q;exact Zw PySem.W.kitx_float I.xf True.intro e (λz=>nomatch z) h
 | @lst a xs ea=>
  cases (show u=Value.ref a from rx)
  obtain ⟨_,_,n,_,h1⟩:=(show bC X.prog X.w H s.heap a (.lst xs) from I.bH a _ ea);exact Zw PySem.W.kitx_list I.xf ⟨_,h1,rfl⟩ e (λz=>nomatch z) h
 | @fN a ob xs ea=>
  cases (show u=Value.ref a from rx)
  obtain ⟨_,_,_,n,_,h1⟩:=(show bC X.prog X.w H s.heap a (.fN ob (.lst xs)) from I.bH a _ ea);exact Zw PySem.W.kitx_list I.xf ⟨_,h1,rfl⟩ e (λz=>nomatch z) h
 | @tup a xs ea=>
  cases (show u=Value.ref a from rx)
  obtain ⟨_,_,_,p⟩:=(show bC X.prog X.w H s.heap a (.tup xs) from I.bH a _ ea);obtain ⟨o,h1,h2,_⟩:=p;exact Zw PySem.W.kitx_tuple I.xf ⟨o,h1,h2⟩ e (λz=>nomatch z) h
 | @dK a kvs ea=>
  cases (show u=Value.ref a from rx)
  obtain ⟨_,_,vs,_,p⟩:=(show bC X.prog X.w H s.heap a (.dK kvs) from I.bH a _ ea);obtain ⟨o,es,ep,h1,h2,_⟩:=p;exact Zw PySem.W.kitx_dict I.xf ⟨o,h1,h2.1⟩ e (λz=>nomatch z) h
 | @dT a kvs ea=>
  cases (show u=Value.ref a from rx)
  obtain ⟨_,_,xs,_,o,es,ep,h1,h2,_⟩:=(show bC X.prog X.w H s.heap a (.dT kvs) from I.bH a _ ea);exact Zw PySem.W.kitx_dict I.xf ⟨o,h1,h2.1⟩ e (λz=>nomatch z) h
 | @ins a C dx fs ea cl ha hn Oo hm=>
  cases (show u=Value.ref a from rx)
  obtain ⟨mA,O,_⟩:=GL I.bH ea;obtain ⟨od,J,_⟩:=O.look;exact Zw (PySem.W.kitx_own (cl.get _) cl.hd ha hn Oo hm) I.xf J e (λz=>nomatch z) h
end
structure gD (k:Nat) (A:Around):Prop where
 hd:A.handled=none
 dp:A.depth+3*k+5<recursionLimit
 un:A.units+16*k+200<cLine
theorem gD.mono (r:gD k A) (h:j<=k):gD j A:=⟨r.hd,by have:=r.dp;omega,by have:=r.un;omega⟩
theorem gD.deeper (r:gD (k+1) A) (env:Env):gD k (A.deeper env):=
 ⟨r.hd,by have:=r.dp;show A.depth+1+3*k+5<_;omega,by have:=r.un;show A.units+3+16*k+200<_;omega⟩
theorem gD.depth (r:gD k A):A.depth<recursionLimit:=by have:=r.dp;omega
theorem gD.units (r:gD k A):A.units+64<cLine:=by have:=r.un;omega
theorem gD.IZ (r:gD k A):A.units<cLine:=by have:=r.un;omega
def yt:TA:=λ_ H Q=>Q [] H
def kz (ta:TE) (tr:TA):TA:=λσ H Q=>ta σ H λx H1=>tr σ H1 λxs H2=>Q (x::xs) H2
def af:PA X [] yt:=λ_ _ _ _ H Q I h=>Zn ⟨[],H,I,.nil,h⟩
theorem aa (ha:PE X e te) (hr:PA X es t) (hs:starEach (e::es) X.env=(false,eval e X.env)::starEach es X.env:=by rfl):PA X (e::es) (kz te t):=by
 intro pos pins s σ H Q I h;rw [hs];show wpAny _ _ (spliced ((false,eval e X.env)::backTo pos (starEach es X.env))) _ _ s;refine Zk (cT (ha pins s σ H _ I h) λu s1 q9z=>?_);obtain ⟨x,H1,I1,r1,q1⟩:=q9z;exact cT (hr pos pins s1 σ H1 _ I1 q1) λus s2 ⟨xs,H2,I2,r2,q2⟩=>⟨x::xs,H2,I2,.cons r1 r2,q2⟩
def Jc (t:TA):TE:=λσ H Q=>t σ H λxs H1=>xs.length<=sizeLine/\∀ p,H1 p=none->Q (.ref p) (upd H1 p (.tup xs))
def FQ (t:TA):TE:=λσ H Q=>t σ H λxs H1=>xs.length<=sizeLine/\∀ p,H1 p=none->Q (.ref p) (upd H1 p (.lst xs))
theorem bN {x1} (h:PA X es t):PE X (.Tuple es x1 pos) (Jc t):=by
 intro pins s σ H Q I hq;refine wpAny_Tuple_spliced (cT (h pos pins s σ H _ I hq) λus s1 ⟨xs,H1,I1,r,z,q⟩=>⟨by rw [<-r.length];exact z,?_⟩);have hf:H1 s1.heap.objs.size=none:=I1.bH.fresh (X7 _);refine ⟨.ref s1.heap.objs.size,upd H1 s1.heap.objs.size (.tup xs),I1.laid (t':=s1.toks) (λb u e=>Yh _ e) (X7 _) ?_,rfl,q _ hf⟩;exact ⟨z,us,r,⟨_,YH _ rfl,rfl,_,rfl⟩⟩
theorem c9 (h:PA X es t):PE X (.List es pos) (FQ t):=by
 intro pins s σ H Q I hq;refine wpAny_List_spliced (cT (h pos pins s σ H _ I hq) λus s1 ⟨xs,H1,I1,r,z,q⟩=>⟨by rw [<-r.length];exact z,?_⟩);have hf:H1 s1.heap.objs.size=none:=I1.bH.fresh (X7 _);refine ⟨.ref s1.heap.objs.size,upd H1 s1.heap.objs.size (.lst xs),I1.laid (t':=s1.toks) (λb u e=>Yh _ e) (X7 _) ?_,rfl,q _ hf⟩;exact ⟨z,us,0,r,YH _ rfl⟩
abbrev Sp:=List V->Hp->VK->XK->Prop
abbrev CA:=List Env->Hp->Shared->XK->Value->Shared->Prop
structure HC (P:Program) (w:World) (K:ZB) (mg:WP) (base:Heap) (A:Around) (outer:List Env) (s:Shared) (H:Hp):Prop where
 frames:A.frames=some outer
 mod:Mod K mg base
 bs:∀ b o,base.get? b=some o->s.heap.get? b=some o/\H b=none
 K4:base.objs.size<=s.heap.objs.size
 qx:s.heap.FunFrames base outer
 LC:∀ b∈xG outer,H b=none
 bH:kh P w H s.heap
 bare:AllBare s.gens
def CE (outer:List Env) (P:Program) (w:World) (H:Hp) (s:Shared) (Q:VK) (u:Value) (s':Shared):Prop:=
 ∃ v H',s'.os=s.os/\AllBare s'.gens/\Un (xG outer) [] H H' s.heap s'.heap/\kh P w H' s'.heap/\RelV v u/\Q v H'
def CR (CX:CA) (outer:List Env) (P:Program) (w:World) (H:Hp) (s:Shared) (Q:VK) (E:XK) (r:Result) (s':Shared):Prop:=
 match r with
 | .ok (.ret u)=>CE outer P w H s Q u s'
 | .ok _=>False
 | .error e=>CX outer H s E e s'
structure rO (P:Program) (w:World) (K:ZB) (mg:WP) (base:Heap) (CX:CA) (k:Nat) (f:Addr) (fd:FuncData) (ps:List Str) (sp:Sp):Prop where
 len:∀ vs H Q E,sp vs H Q E->vs.length=ps.length
 run:∀ (A:Around) (outer:List Env) (s:Shared) (H:Hp) (args:Args) (us:XV) (vs:List V) (Q:VK) (E:XK),gD k A->HC P w K mg base A outer s H->BindsTo s fd args (ps.zip us)->Vals vs us->sp vs H Q E->
  codeAny (model P w) A (.call (.ref f) args) (CR CX outer P w H s Q E) s
section
variable {X:Cx} {pins:Wp} {σ:St} {H:Hp} {s s':Shared}
def Inv.QQ (I:Inv X pins σ H s):HC X.prog X.w X.K X.mg X.base X.A X.stack s H:=
 ⟨I.ok.frames,I.ok.mod,I.bs,Y2 I.ok.K4 I.sz,I.stack,I.zQ,I.bH,I.bare⟩
theorem Inv.after (I:Inv X pins σ H s) (h:CE X.stack X.prog X.w H s Q u s'):EP X pins σ Q u s':=by
 obtain ⟨v,H',os,bare,un,bH,r,q⟩:=h;obtain ⟨hh,g,d,t,Uu⟩:=s';obtain rfl:Uu=s.os:=os;exact ⟨v,H',I.call (h':=hh) (g':=g) (d':=d) (t':=t) (ch:=[]) un bH bare (λb z=>absurd z (by simp)),r,q⟩
end
def C8 (sp:Sp) (IL:List V) (E:XK) (t:TA):TE:=λσ H Q=>t σ H λvs H1=>sp (vs++IL) H1 Q E
def Binds (K:ZB) (fd:FuncData) (ps:List Str) (ds:XV):Prop:=
 ∀ (s:Shared) (us:XV),K.In s.heap->(us++ds).length=ps.length->BindsTo s fd ⟨us,[]⟩ (ps.zip (us++ds))
theorem Binds.all {K:ZB} {fd:FuncData} {ps:List Str} (h:∀ us:XV,us.length=ps.length->bindArgs fd ⟨us,[]⟩=pure (ps.zip us)):Binds K fd ps []:=λs us _ hl=>by
 rw [ZY] at hl ⊢;exact .of_eq (h us hl)
def Passes (CX:CA) (X:Cx) (E:XK):Prop:=∀ (pins:Wp) (σ:St) (H:Hp) (s:Shared) (e:Value) (s':Shared),Inv X pins σ H s->CX X.stack H s E e s'->X.xe e s'
section
variable {X:Cx} {CX:CA} {k:Nat} {f C:Addr} {fd:FuncData} {ps:List Str} {sp:Sp} {IL:List V} {ds:XV} {E:XK} {x m:Str} {p pos apos:Pos} {e o:Expr} {es:List Expr} {ta:TE} {t:TA}
theorem Jm {σ:St} {s:Shared} (F:rO X.prog X.w X.K X.mg X.base CX k f fd ps sp) (hr:gD k X.A) (hb:Binds X.K fd ps ds) (hd:Vals IL ds) (hx:Passes CX X E)
  (I:Inv X pins σ H s) (r:Vals vs us) (h:sp (vs++IL) H Q E):wpAny (model X.prog X.w) X.A (call (.ref f) us) (EP X pins σ Q) X.xe s:=by
 have r2:Vals (vs++IL) (us++ds):=r.append hd;have hl:(us++ds).length=ps.length:=by rw [<-r2.length];exact F.len _ _ _ _ h
 refine wpAny_call (codeAny_mono (F.run X.A X.stack s H ⟨us,[]⟩ (us++ds) (vs++IL) Q E hr I.QQ (hb s us I.xf hl) r2 h) λr s' hq=>?_);cases r with
 | error e=>exact hx pins σ H s e s' I hq
 | ok fl=>
  cases fl with
  | ret u=>exact I.after hq
  | next=>exact False.elim hq
  | brk=>exact False.elim hq
  | cont=>exact False.elim hq
theorem Gr (F:rO X.prog X.w X.K X.mg X.base CX k f fd ps sp) (hr:gD k X.A) (hg:Gl X x) (hm:X.mg x=some (.ref f)) (hk:PySem.W.keepIn X.K (.ref f)=true) (hb:Binds X.K fd ps ds) (hd:Vals IL ds) (hx:Passes CX X E)
  (ha:PA X (e::es) t) (GV:(x==("__debug__":Str))=false:=by decide) (he:starEach (e::es) X.env=(false,eval e X.env)::starEach es X.env:=by rfl) (CJ:(backTo pos (starEach es X.env)).any (·.1)=false:=by rfl) :
  PE X (.Call (.Name x p) (e::es) [] pos) (C8 sp IL E t):=by
 intro pins s σ H Q I h;refine wpAny_Call_Name_kw (AI I hg hm ?_ GV);refine PySem.W.callWith_K (h₀:=X.base) I.ok.mod.PM hk (cT (ha pos pins s σ H _ I h) λus s1 ⟨vs,H1,I1,r,q⟩=>⟨I1.xf,?_⟩) he CJ;exact Jm F hr hb hd hx I1 r q
end
structure aQ (N P:List Str) (sc:Scope):Prop where
 kind:sc.kind=.function
 co:sc.isCoroutine=false
 gen:sc.isGenerator=false
 nd:N.Nodup
 pre:N.take P.length=P
 par:∀ x∈P,sc.names.lookup x=some .local\/sc.names.lookup x=some .cell
 JP:∀ y∈sc.names,y.2≠.free
theorem tq {kindOf:Str->Option NameKind} {x:Str}:∀ {binds:List (Str×Value)} {m:WP},(∀ v,(x,v)∉binds)->bindL kindOf binds m x=m x
 | [],_,_=>rfl
 | (n,v)::r,m,h=>by
  unfold bindL;rw [tq λw hw=>h w (X8 _ hw)];split
  ·have:x≠n:=by rintro rfl;exact h v Yg
   simp [this]
  ·rfl
theorem tD {kindOf:Str->Option NameKind} {x:Str}:∀ {binds:List (Str×Value)} {m:WP},(∀ v,(x,v)∉binds)->bindC kindOf binds m x=m x
 | [],_,_=>rfl
 | (n,v)::r,m,h=>by
  unfold bindC;rw [tD λw hw=>h w (X8 _ hw)];split
  ·rfl
  ·have:x≠n:=by rintro rfl;exact h v Yg
   simp [this]
theorem tw {kindOf:Str->Option NameKind} {x:Str} {v:Value}:∀ {P:List Str} {vs:XV} {i:Nat} {m:WP},P.Nodup->P[i]?=some x->vs[i]?=some v->kindOf x=some .local->
  bindL kindOf (P.zip vs) m x=some v
 | [],_,_,_,_,h,_,_=>by simp at h
 | _::_,[],_,_,_,_,h,_=>by simp at h
 | p::P,w::vs,0,m,nd,h1,h2,hk=>by
  simp at h1 h2;subst h1;subst h2;show bindL kindOf ((p,w)::P.zip vs) m p=_;unfold bindL;rw [tq λv hv=>(Yp.mp nd).1 (of_mem_zip hv).1,Ya hk];simp
 | p::P,w::vs,i+1,m,nd,h1,h2,hk=>by
  show bindL kindOf ((p,w)::P.zip vs) m x=_;unfold bindL;exact tw (i:=i) (Yp.mp nd).2 (by simpa using h1) (by simpa using h2) hk
theorem tE {kindOf:Str->Option NameKind} {x:Str} {v:Value}:∀ {P:List Str} {vs:XV} {i:Nat} {m:WP},P.Nodup->P[i]?=some x->vs[i]?=some v->kindOf x≠some .local->
  bindC kindOf (P.zip vs) m x=some v
 | [],_,_,_,_,h,_,_=>by simp at h
 | _::_,[],_,_,_,_,h,_=>by simp at h
 | p::P,w::vs,0,m,nd,h1,h2,hk=>by
  simp at h1 h2;subst h1;subst h2;show bindC kindOf ((p,w)::P.zip vs) m p=_;unfold bindC;rw [tD λv hv=>(Yp.mp nd).1 (of_mem_zip hv).1,X6 hk];simp
 | p::P,w::vs,i+1,m,nd,h1,h2,hk=>by
  show bindC kindOf ((p,w)::P.zip vs) m x=_;unfold bindC;exact tE (i:=i) (Yp.mp nd).2 (by simpa using h1) (by simpa using h2) hk
def start (N:List Str) (vs:List V):St:=vs.map some++List.replicate (N.length-vs.length) none
def xQ (CX:CA) (P:Program) (w:World) (K:ZB) (mg:WP) (base:Heap) (N:List Str) (qual:Str) (scope:Scope) (f:Addr) (cd:Value) (A:Around) (outer:List Env) (s:Shared) (H:Hp) (E:XK):Cx where
 prog:=P
 w:=w
 K:=K
 mg:=mg
 base:=base
 A:=A.deeper (envOfC qual scope s.heap.objs.size f cd)
 N:=N
 s₀:=s
 H₀:=H
 env:=envOfC qual scope s.heap.objs.size f cd
 outer:=outer
 stack:=envOfC qual scope s.heap.objs.size f cd::outer
 ex:=[]
 calm:=true
 fn:=λ_=>true
 pn:=[]
 xe:=λe s'=>wpAny (model P w) (A.deeper (envOfC qual scope s.heap.objs.size f cd)) (leaving (envOfC qual scope s.heap.objs.size f cd) e) (λ_ O3=>CX outer H s E e O3) (λe' O3=>CX outer H s E e' O3) s'
theorem xT {sc:Scope} {n:Nat} {x:Str} (h:sc.names.lookup x=some .cell):∃ c,(cellsFrom n sc.names []).lookup x=some c:=by
 have q:=PySem.W.cellsFrom_some sc.names n [] (.inl h);exact zaN.mp q
theorem BZ {CX:CA} {P:Program} {w:World} {K:ZB} {mg:WP} {base:Heap} {N ps:List Str} {qual:Str} {scope:Scope} {f:Addr} {cd:Value} {A:Around} {outer:List Env} {s s1:Shared} {H:Hp} {E:XK} {us:XV} {vs:List V}
  (S:aQ N ps scope) (hd:A.handled=none) (e0:HC P w K mg base A outer s H) (hl:vs.length=ps.length) (r:Vals vs us)
  (x:InCallC s s.heap.objs.size (bindL (envOfC qual scope s.heap.objs.size f cd).kindOf (ps.zip us) λ_=>none) (cellsFrom (s.heap.objs.size+1) scope.names []) (bindC (envOfC qual scope s.heap.objs.size f cd).kindOf (ps.zip us) λ_=>none) s1) :
  Inv (xQ CX P w K mg base N qual scope f cd A outer s H E) [] (start N vs) H s1:=by
 have CJ:ps.length<=N.length:=by have:=Yt List.length S.pre;rw [YW] at this;omega
 obtain ⟨h1,tk,rfl,hk⟩:=x.done;have Mr:∀ b:Addr,b∉(xQ CX P w K mg base N qual scope f cd A outer s H E).ex:=λb z=>absurd (show b∈([]:XL) from z) (by simp);refine ⟨⟨e0.mod,S.kind,rfl,rfl,X7 _,λy z c h1 h2=>?_,λy hy=>?_,λy c _ h=>?_,λ_=>hd,Around.frames_deeper e0.frames,.inr ⟨rfl,rfl⟩,λb z=>absurd z (Mr b),e0.bs,e0.K4,λb _ _=>Mr b,λb z=>absurd z (Mr b),e0.qx,e0.LC⟩,
  rfl,e0.bare,Un.kept hk,⟨_,x.toInCall.ns,λi y v h1 h2 h3=>?_⟩,λy c h=>⟨_,x.cell y c h⟩,e0.bH.fresh (X7 _),λy c h=>?_,λp hp=>absurd (show p∈([]:Wp) from hp) (by simp),e0.bH.kept hk,?_⟩
 ·exact name_of_addr x.apart (zap h1) (zap h2)
 ·have hy:scope.names.lookup y=some .cell\/scope.names.lookup y=some .free:=hy;rcases hy with hy|hy
  ·exact xT hy
  ·exact absurd rfl (S.JP _ (zap hy))
 ·exact ZJ (x.above y c (zap h))
 ·have hi:i<vs.length:=by
   unfold start at h2;by_cases hi:i<vs.length
   ·exact hi
   ·rw [Y1 (by simpa using hi)] at h2;rw [getElem?_replicate] at h2;split at h2<;>cases h2
  have ha:vs[i]?=some v:=by
   unfold start at h2;rw [YL (by simpa using hi),Yj] at h2;cases e:vs[i]? with
   | none=>rw [e] at h2;cases h2
   | some a=>rw [e] at h2;cases h2;rfl
  obtain ⟨u,hu,rv⟩:=r.get ha;have hp:ps[i]?=some y:=by
   rw [<-S.pre,getElem?_take_of_lt (by omega)];exact h1
  have Mt:ps.Nodup:=by rw [<-S.pre];exact S.nd.sublist (take_sublist _ _)
  refine ⟨u,rv,?_⟩;rcases S.par y (Yb hp) with k|k
  ·exact .inl ⟨k,tw Mt hp hu k⟩
  ·obtain ⟨c,e⟩:=xT (n:=s.heap.objs.size+1) k;refine .inr ⟨.inl k,c,e,?_⟩;have q:=x.cell y c e;rw [tE Mt hp hu (by show scope.names.lookup y≠_;rw [k];decide)] at q;exact q
 ·exact e0.bH.fresh (ZJ (x.above y c (zap h)))
 ·unfold start;show _=N.length;rw [Yr,Pd,length_replicate];omega
theorem IG {CX:CA} {P:Program} {w:World} {K:ZB} {mg:WP} {base:Heap} {k:Nat} {f:Addr} {name qual:Str} {params:Arguments} {body:List Stmt} {scope:Scope} {dV kV doc pm dW ct oc:Value} {an od:Option Addr}
  {Gu:Array (Option Value)} {N ps:List Str} {sp:Sp} (lk:K.lookup f=some ⟨oc,od,.func (PySem.W.fnOf name qual params body scope dV kV doc pm an dW ct),Gu⟩) (B8:PySem.W.codeIn K dW qual=true) (S:aQ N ps scope)
  (len:∀ vs H Q E,sp vs H Q E->vs.length=ps.length)
  (xm:∀ (A:Around) (outer:List Env) (s:Shared) (H:Hp) (vs:List V) (Q:VK) (E:XK),gD k (A.deeper (envOfC qual scope s.heap.objs.size f dW))->sp vs H Q E->
   ∃ t,Bp (xQ CX P w K mg base N qual scope f dW A outer s H E) body t/\t { nx:=λ_ H'=>Q .dO H',rt:=Q } (start N vs) H) :
  rO P w K mg base CX (k+1) f (PySem.W.fnOf name qual params body scope dV kV doc pm an dW ct) ps sp:=by
 refine ⟨len,λA outer s H args us vs Q E hr e0 hb r yg=>?_⟩;have hl:=len _ _ _ _ yg;have KX:K.In s.heap:=e0.mod.PM.keeps λb o e=>(e0.bs b o e).1;have lim:s.heap.NoLimit:=e0.mod.nolimit.keeps λb o e=>(e0.bs b o e).1;have M3:∀ y∈ps.zip us,scope.names.lookup y.1=some .local\/(scope.names.lookup y.1=some .cell/\((cellsFrom (s.heap.objs.size+1) scope.names []).lookup y.1).isSome=true):=λ⟨n,v⟩ hy=>by
  rcases S.par n (of_mem_zip hy).1 with q|q
  ·exact .inl q
  ·exact .inr ⟨q,PySem.W.cellsFrom_some _ _ _ (.inl q)⟩
 refine codeAny_call_function hr.depth (KX _ _ lk) rfl S.co S.gen rfl (PySem.W.codeRec_of KX B8) (hb _ _ _ _ ?_);refine wpAny_newFunctionEnv_cells S.kind M3 λenv he s1 x=>?_;subst he;refine ⟨lim.keeps x.toInCall.keep,codeAny_func ?_⟩;obtain ⟨t,ht,hq⟩:=xm A outer s H vs Q E (hr.deeper _) yg;have I:Inv (xQ CX P w K mg base N qual scope f dW A outer s H E) [] (start N vs) H s1:=BZ S hr.hd e0 hl r x;refine Ze (ht [] s1 (start N vs) H _ I hq) (λfl s' hs=>?_) λe s' hs=>hs;have fin:∀ {σ':St} {H':Hp} {v:V} {u:Value},Inv (xQ CX P w K mg base N qual scope f dW A outer s H E) [] σ' H' s'->RelV v u->Q v H'->CE outer P w H s Q u s':=
  λ{σ' H' v u} J rv q=>⟨v,H',J.os,J.bare,J.base,J.bH,rv,q⟩
 cases fl with
 | ret u=>
  obtain ⟨v,σ',H',J,rv,q⟩:=hs;exact fin J rv q
 | next=>
  obtain ⟨σ',H',J,q⟩:=hs;exact fin (v:=V.dO) (u:=Value.none) J rfl q
 | brk=>
  obtain ⟨_,_,_,q⟩:=hs;exact False.elim q
 | cont=>
  obtain ⟨_,_,_,q⟩:=hs;exact False.elim q
section
variable {X:Cx} {x:Str} {p pos:Pos} {e:Expr} {es:List Expr} {t:TA} {id T:String} {r:List V->Hp->VK->Prop}
def NZ (r:List V->Hp->VK->Prop) (t:TA):TE:=λσ H Q=>t σ H λvs H1=>r vs H1 Q
theorem aA (hc:fG X (.builtin id) r) (hg:Gl X x) (hm:X.mg x=none) (hv:bootBuiltins x=some (.builtin id)) (ha:PA X (e::es) t) (hn:x≠ "__name__":=by decide) (GV:(x==("__debug__":Str))=false:=by decide)
  (he:starEach (e::es) X.env=(false,eval e X.env)::starEach es X.env:=by rfl) (CJ:(backTo pos (starEach es X.env)).any (·.1)=false:=by rfl):PE X (.Call (.Name x p) (e::es) [] pos) (NZ r t):=by
 intro pins s σ H Q I h;refine wpAny_Call_Name_kw (dJ I hg hm hv ?_ hn GV);exact PyProof.Rows.callWith_builtin1 (cT (ha pos pins s σ H _ I h) λus s1 ⟨vs,H1,I1,r1,q1⟩=>hc pins s1 σ H1 vs us Q I1 r1 q1) he CJ
theorem sE (hc:fG X (.type T) r) (hg:Gl X x) (hm:X.mg x=none) (hv:bootBuiltins x=some (.type T)) (ha:PA X (e::es) t) (hn:x≠ "__name__":=by decide) (GV:(x==("__debug__":Str))=false:=by decide)
  (he:starEach (e::es) X.env=(false,eval e X.env)::starEach es X.env:=by rfl) (CJ:(backTo pos (starEach es X.env)).any (·.1)=false:=by rfl):PE X (.Call (.Name x p) (e::es) [] pos) (NZ r t):=by
 intro pins s σ H Q I h;refine wpAny_Call_Name_kw (dJ I hg hm hv ?_ hn GV);exact YG (cT (ha pos pins s σ H _ I h) λus s1 ⟨vs,H1,I1,r1,q1⟩=>hc pins s1 σ H1 vs us Q I1 r1 q1) he CJ
end
end L2
namespace HT
open PySem PyProof.Rows
def Tm:UV->UV->Bool
 | [],[]=>false
 | [],_::_=>true
 | _::_,[]=>false
 | x::xs,y::ys=>if x=y then Tm xs ys else decide (x<y)
def gu (x y:Int) (xs ys:UV):Tm (x::xs) (y::ys)=if x=y then Tm xs ys else decide (x<y):=rfl
def rq:Tm [] []=false:=rfl
def pV (y:Int) (ys:UV):Tm [] (y::ys)=true:=rfl
def pW (x:Int) (xs:UV):Tm (x::xs) []=false:=rfl
theorem EV (A:Around) (s:Shared) (a:Int) (t:Tok) (c:Int) (u:Tok):∃ e,SeqAt.EqAt A s (.int a t) (.int c u) e/\(e=true↔a=c):=
 ⟨(a==c),zau a t c u,by simp⟩
def Dy (A:Around) (s:Shared) (a:Int) (t:Tok) (c:Int) (u:Tok) (prog:Program) (w:World) (E:WF) (Q:WF) (h:Q (.bool (decide (a<c))) s) :
  wpAny (model prog w) A (richCompare .Lt (.int a t) (.int c u)) Q E s:=
 (PyProof.Rows.lt_int h:wpAny (model prog w) A (compareOp .Lt (.int a t) (.int c u)) Q E s)
def ug (n d:Nat):Option Int->Nat
 | none=>d
 | some v=>if v<0 then (v+(n:Int)).toNat else min v.toNat n
end HT
namespace L2
open PySem PySem.Spec PyProof.Rows
abbrev TO:=St->Hp->(Option Int->Hp->Prop)->Prop
def PO (X:Cx) (e:Option Expr) (t:TO):Prop:=
 ∀ (pins:Wp) (s:Shared) (σ:St) (H:Hp) (Q:Option Int->Hp->Prop),Inv X pins σ H s->t σ H Q->
  wpAny (model X.prog X.w) X.A (evalPart e X.env) (λu s'=>∃ o H',Inv X pins σ H' s'/\IsPart u o/\Q o H') X.xe s
def lC:TO:=λ_ H Q=>Q none H
def vI (t:TE):TO:=λσ H Q=>t σ H λx H1=>∃ i,x=.int i/\Q (some i) H1
theorem intsAre_of:∀ {us:XV},Vals (ns.map V.int) us->IntsAre us ns:=by
 induction ns with
 | nil=>intro us r;rw [map_nil] at r;cases r;exact .nil
 | cons n ns ih=>
  intro us r;rw [Y8] at r;cases r with
  | cons r1 r2=>
   obtain ⟨t,e⟩:=r1;subst e;exact .cons n t (ih r2)
section
variable {te:TE} {lo hi:Option Expr} {tl th:TO}
theorem cY:PO X none lC:=by
 intro pins s σ H Q I h;rw [evalPart_none];exact Ym ⟨none,H,I,.none,h⟩
theorem cW (h:PE X e te):PO X (some e) (vI te):=by
 intro pins s σ H Q I hw;rw [evalPart_some];refine cT (h pins s σ H _ I hw) λu s1 q9z=>?_;obtain ⟨x,H1,I1,r1,q1⟩:=q9z;obtain ⟨i,rfl,q⟩:=q1;obtain ⟨t,rfl⟩:=r1;exact ⟨some i,H1,I1,.int i t,q⟩
def Rk (X:Cx) (r:V->Option Int->Option Int->Hp->VK->Prop):Prop:=
 ∀ (pins:Wp) (s:Shared) (σ:St) (H:Hp) (x:V) (v vl vu:Value) (lo hi:Option Int) (sl:Addr) (Q:VK),Inv X pins σ H s->RelV x v->s.heap.IsSliceOf sl vl vu .none->IsPart vl lo->IsPart vu hi->r x lo hi H Q->
  ∃ T id,typeLookup (.type T) "__getitem__"=pure (some (.builtin id))/\s.TypeIs v T/\wpAny (model X.prog X.w) X.A (getItem v (.ref sl)) (EP X pins σ Q) X.xe s
def Lg (r:V->Option Int->Option Int->Hp->VK->Prop) (te:TE) (tl th:TO):TE:=λσ H Q=>te σ H λx H1=>tl σ H1 λl H2=>th σ H2 λu H3=>r x l u H3 Q
theorem bT (hr:Rk X r) (he:PE X e te) (hl:PO X lo tl) (hu:PO X hi th):PE X (.Subscript e (.Slice lo hi none p2) pos) (Lg r te tl th):=by
 intro pins s σ H Q I h;refine Subscript_ (cT (he pins s σ H _ I h) λv s1 q9z=>?_);obtain ⟨x,H1,I1,r1,q1⟩:=q9z;refine wpAny_Slice (cT (hl pins s1 σ H1 _ I1 q1) λvl s2 ⟨l,H2,I2,pl,q2⟩=>cT (hu pins s2 σ H2 _ I2 q2) λvu s3 q9z=>?_);obtain ⟨u,H3,I3,pu,q3⟩:=q9z;rw [evalPart_none];refine Ym ?_;have I4:Inv X pins σ H3 { s3 with heap:=s3.heap.push { cls:=.type "slice",data:=.fields #[vl,vu,.none] } }:=I3.kept (t':=s3.toks) λb ob q=>Yh _ q;obtain ⟨T,id,hT,ht,hg⟩:=hr pins { s3 with heap:=s3.heap.push { cls:=.type "slice",data:=.fields #[vl,vu,.none] } } σ H3 x v vl vu l u s3.heap.objs.size Q I4 r1 (Heap.IsSliceOf.new ..) pl pu q3;show wpAny (model X.prog X.w) X.A (subscriptTail e (.Slice lo hi none p2) v (.ref s3.heap.objs.size)) (EP X pins σ Q) X.xe { s3 with heap:=s3.heap.push { cls:=.type "slice",data:=.fields #[vl,vu,.none] } };exact tail_any (ops:=[.ref s3.heap.objs.size,v]) ht hT hg (by with_unfolding_all rfl)
def ng (xs:List V) (lo hi:Option Int):List V:=(xs.drop (HT.ug xs.length 0 lo)).take (HT.ug xs.length xs.length hi-HT.ug xs.length 0 lo)
theorem xR (xs:List V) (lo hi:Option Int):(ng xs lo hi).length<=xs.length:=by
 unfold ng;rw [YW,Zs];omega
end
def CG (n:Nat) (i:Int):Option Nat:=if 0<=i then (if i<n then some i.toNat else none) else if -(n:Int)<=i then some (i+n).toNat else none
def mq {α:Type} (xs:List α) (i:Int):Option α:=(CG xs.length i).bind λj=>xs[j]?
theorem AM (h:CG n i=some j):seqIndex? i n=some j/\j<n/\-(n:Int)<=i/\i<n:=by
 unfold CG at h;by_cases h0:0<=i
 ·rw [Ya h0] at h;by_cases h1:i<n
  ·rw [Ya h1] at h;have e:i.toNat=j:=Yf h;exact ⟨by rw [seqIndex_of h0 h1,e],by omega,by omega,h1⟩
  ·rw [X6 h1] at h;cases h
 ·rw [X6 h0] at h;by_cases h1 : -(n:Int)<=i
  ·rw [Ya h1] at h;have e:(i+n).toNat=j:=Yf h;exact ⟨by rw [seqIndex_neg (by omega) h1,e],by omega,h1,by omega⟩
  ·rw [X6 h1] at h;cases h
theorem Bo {α:Type} {xs:List α} {i:Int} {v:α} (h:mq xs i=some v):∃ j,seqIndex? i xs.length=some j/\xs[j]?=some v/\j<xs.length/\-(xs.length:Int)<=i/\i<xs.length:=by
 unfold mq at h;cases e:CG xs.length i with
 | none=>rw [e] at h;cases h
 | some j=>
  rw [e] at h;obtain ⟨h1,h2,h3,h4⟩:=AM e;exact ⟨j,h1,h,h2,h3,h4⟩
theorem fg {α:Type} {xs:List α} {j:Nat} {v:α} (h:xs[j]?=some v):mq xs (j:Int)=some v:=by
 have hj:j<xs.length:=(X3.mp h).1;have e:CG xs.length (j:Int)=some j:=by
  unfold CG;rw [Ya (Tk _),Ya (by omega)];simp
 unfold mq;rw [e];exact h
theorem Fe (xs:List α) (v:α):mq (xs++[v]) (-1)=some v:=by
 have hl:(xs++[v]).length=xs.length+1:=by simp
 have e:CG (xs++[v]).length (-1)=some xs.length:=by
  unfold CG;rw [hl,X6 (by decide),Ya (by omega)]
  congr 1
  omega
 unfold mq;rw [e];show (xs++[v])[xs.length]?=some v;simp
def Hq (b:Expr):Prop:=∀ o i,subscripted b false o i=operate [o,i] (getItem o i)
def OP (X:Cx) (r:R2):Prop:=
 ∀ (value slice:Expr) (pins:Wp) (s:Shared) (σ:St) (H:Hp) (x y:V) (v u:Value) (Q:VK),Inv X pins σ H s->RelV x v->RelV y u->r x y H Q->
  subscripted slice false v u=operate [v,u] (getItem v u)->wpAny (model X.prog X.w) X.A (subscriptTail value slice v u) (EP X pins σ Q) X.xe s
def Rn (X:Cx) (id:String) (r:V->List V->Hp->VK->Prop):Prop:=
 ∀ (pins:Wp) (s:Shared) (σ:St) (H:Hp) (x:V) (xs:List V) (v:Value) (us:XV) (Q:VK),Inv X pins σ H s->RelV x v->Vals xs us->r x xs H Q->
  wpAny (model X.prog X.w) X.A (call (.builtin id) (v::us)) (EP X pins σ Q) X.xe s
section
variable {X:Cx} {a b:Expr} {ta tb:TE} {pos:Pos}
theorem aR (hr:OP X r) (ha:PE X a ta) (hb:PE X b tb) (hs:Hq b):PE X (.Subscript a b pos) (C4 r ta tb):=by
 intro pins s σ H Q I h;exact Subscript_ (K5 ha hb I h λv u s2 x y H2 I2 rx ry q=>hr a b pins s2 σ H2 x y v u Q I2 rx ry q (hs _ _))
def Gd (K:ZB):R2:=λx y H Q=>∃ p xs i v,x=.ref p/\y=.int i/\aN K H p xs/\mq xs i=some v/\Q v H
def Jz (K:ZB):R2:=λx y H Q=>∃ p xs i v,x=.ref p/\y=.int i/\SqT K H p xs/\mq xs i=some v/\Q v H
theorem aK:OP X (Gd X.K):=by
 intro value slice pins s σ H x y v u Q I rx ry h hs;obtain ⟨p,xs,i,z,rfl,rfl,hq,he,q⟩:=h;cases rx
 obtain ⟨t,rfl⟩:=ry;obtain ⟨aY,r,pl,hz⟩:=I.list hq;obtain ⟨j,h1,h2,h3,h4,h5⟩:=Bo he;obtain ⟨w,ew,sg⟩:=r.get h2;have hl:=r.length;have hn:=mT;have fin:EP X pins σ Q w s:=⟨z,H,I,sg,q⟩;by_cases h0:0<=i
 ·have hj:i.toNat=j:=by
   rw [seqIndex_of h0 h5] at h1;exact Yf h1
  exact item_listR pl.isList h0 (by omega) (by rw [hj];simpa using ew) fin hs
 ·have hj:(i+(aY.toArray.size:Int)).toNat=j:=by
   rw [seqIndex_neg (by omega) h4] at h1;rw [YE,<-hl];exact Yf h1
  exact subscriptTail_builtinR (x:=w) pl.isList.typeIs slot_list_getitem.lookup
   (wpAny_getItem_list_neg (Q:=λr s'=>r=w/\EP X pins σ Q r s') pl.isList (by omega) (by rw [YE]<;>omega) (by omega) (by rw [hj];simpa using ew) ⟨rfl,fin⟩) hs
theorem fL:OP X (Jz X.K):=by
 intro value slice pins s σ H x y v u Q I rx ry h hs;obtain ⟨p,xs,i,z,rfl,rfl,hq,he,q⟩:=h;cases rx
 obtain ⟨t,rfl⟩:=ry;obtain ⟨aY,r,pl,hz⟩:=I.tuple hq;obtain ⟨j,h1,h2,h3,h4,h5⟩:=Bo he;obtain ⟨w,ew,sg⟩:=r.get h2;have hl:=r.length;have hn:=mT;have fin:EP X pins σ Q w s:=⟨z,H,I,sg,q⟩;exact subscriptTail_builtinR (x:=w) pl.typeIs slot_tuple_getitem.lookup
  (getItem_tuple (j:=j) (Q:=λr s'=>r=w/\EP X pins σ Q r s') pl (by omega) (by omega) (by rw [YE,<-hl];exact h1) (by simpa using ew) ⟨rfl,fin⟩) hs
theorem yV (aY:XV) (n j:Nat) (u:Value):Obj.mapSeq (·.setIfInBounds j u) { cls:=.type "list",data:=.seq aY.toArray n }={ cls:=.type "list",data:=.seq (aY.set j u).toArray n }:=by
 simp [Obj.mapSeq]
theorem Inv.lst {pins:Wp} {σ:St} {H:Hp} {s:Shared} {p:Addr} {xs:List V} (I:Inv X pins σ H s) (h:H p=some (.lst xs)) :
  ∃ (aY:XV) (n:Nat),Vals xs aY/\s.heap.get? p=some { cls:=.type "list",data:=.seq aY.toArray n }/\xs.length<=sizeLine:=by
 obtain ⟨z,aY,n,r,e⟩:=I.bH p _ h;exact ⟨aY,n,r,e,z⟩
theorem Inv.JW {pins:Wp} {σ:St} {H:Hp} {s:Shared} {p:Addr} {xs ys:List V} {aY its':XV} {n n':Nat} {f:Obj->Obj} (I:Inv X pins σ H s) (h:H p=some (.lst xs))
  (ho:s.heap.get? p=some { cls:=.type "list",data:=.seq aY.toArray n }) (hf:f { cls:=.type "list",data:=.seq aY.toArray n }={ cls:=.type "list",data:=.seq its'.toArray n' }) (r:Vals ys its') (hz:ys.length<=sizeLine) (t:Nat) :
  Inv X pins σ (upd H p (.lst ys)) { s with heap:=s.heap.update p f,toks:=t }:=by
 have e:(s.heap.update p f).get? p=some { cls:=.type "list",data:=.seq its'.toArray n' }:=by
  rw [Zd f ho (by rw [hf]<;>rfl),hf]
 refine I.write (x:=p) (e:=p) (by rw [h];trivial) (.inl rfl) (λb u hb q=>(Y9 _ _ (YU hb)).trans q) ⟨_,e⟩ ?_;exact ⟨hz,its',n',r,e⟩
def Mf:V->V->V->Hp->(Hp->Prop)->Prop:=λo i v H Q=>∃ p xs k j,o=.ref p/\i=.int k/\H p=some (.lst xs)/\CG xs.length k=some j/\Q (upd H p (.lst (xs.set j v)))
theorem set_list:NL X Mf:=by
 intro pins s σ H o i v ov iv u Q I ro ri rv h;obtain ⟨p,xs,k,j,rfl,rfl,hp,hj,q⟩:=h;cases ro
 obtain ⟨t,rfl⟩:=ri;obtain ⟨aY,n,r,ho,hz⟩:=I.lst hp;obtain ⟨h1,h2,h3,h4⟩:=AM hj;have hl:=r.length;have hn:=mT;have I':Inv X pins σ (upd H p (.lst (xs.set j v))) { s with heap:=s.heap.update p (Obj.mapSeq (·.setIfInBounds j u)) }:=
  I.JW hp ho (yV aY n j u) (r.set rv j) (by rw [zaG];exact hz) s.toks
 by_cases h0:0<=k
 ·have hk:k.toNat=j:=by
   rw [seqIndex_of h0 h4] at h1;exact Yf h1
  exact PySem.W.ki_setAt ho h0 (by omega) (by rw [YE,<-hl];exact h4) (by rw [hk];exact ⟨_,I',q⟩)
 ·have hk:(k+(aY.toArray.size:Int)).toNat=j:=by
   rw [seqIndex_neg (by omega) h3] at h1;rw [YE,<-hl];exact Yf h1
  exact PySem.W.ki_setBack ho (by omega) (by rw [YE,<-hl];exact h3) (by omega) (by rw [hk];exact ⟨_,I',q⟩)
theorem tV (lo hi:Option Int) (n:Nat):(sliceBounds lo hi none n).1=((HT.ug n 0 lo:Nat):Int)/\(sliceBounds lo hi none n).2.1=((HT.ug n n hi:Nat):Int)/\(sliceBounds lo hi none n).2.2=1:=by
 refine ⟨?_,?_,rfl⟩
 ·cases lo with
  | none=>simp [sliceBounds,HT.ug]
  | some i=>
   simp only [sliceBounds,HT.ug,Option.getD_none,show (1:Int) > 0 by decide,zbU];by_cases h:i<0
   ·simp only [h,zbU]<;>omega
   ·simp only [h,ZO]<;>omega
 ·cases hi with
  | none=>simp [sliceBounds,HT.ug]
  | some i=>
   simp only [sliceBounds,HT.ug,Option.getD_none,show (1:Int) > 0 by decide,zbU];by_cases h:i<0
   ·simp only [h,zbU]<;>omega
   ·simp only [h,ZO]<;>omega
theorem qQ (aY:XV) (lo hi:Option Int):slicePick aY.toArray lo hi none=((aY.drop (HT.ug aY.length 0 lo)).take (HT.ug aY.length aY.length hi-HT.ug aY.length 0 lo)).toArray:=by
 obtain ⟨h1,h2,h3⟩:=tV lo hi aY.toArray.size;unfold slicePick;rw [h1,h2,h3];simp only [sliceRange_one,pick_run,YE]<;>rfl
def BK (K:ZB):V->Option Int->Option Int->Hp->VK->Prop:=λx lo hi H Q=>∃ a xs,x=.ref a/\aN K H a xs/\∀ p,H p=none->Q (.ref p) (upd H p (.lst (ng xs lo hi)))
theorem dr:Rk X (BK X.K):=by
 intro pins s σ H x v vl vu lo hi sl Q I rx hs pl pu h;obtain ⟨a,xs,rfl,hx,q⟩:=h;cases rx
 obtain ⟨aY,r,ht,hz⟩:=I.list hx;have hlen:=r.length;refine ⟨"list",_,slot_list_getitem.lookup,ht.isList.typeIs,?_⟩;refine wpAny_getItem_list_slice ht.isList hs pl pu .none (by simp) ?_ (by rw [YE]<;>omega);rw [qQ,<-hlen];refine ⟨.ref s.heap.objs.size,_,I.laid (t':=s.toks) (o:=.lst (ng xs lo hi)) (λb ob q=>Yh _ q) (X7 _) ?_,rfl,q _ (I.bH.fresh (X7 _))⟩;exact ⟨Y2 (xR xs lo hi) hz,_,0,(r.drop (HT.ug xs.length 0 lo)).take (HT.ug xs.length xs.length hi-HT.ug xs.length 0 lo),YH _ rfl⟩
def kH:V->Bool
 | .dO=>true
 | .bl _=>true
 | .int _=>true
 | .str _=>true
 | _=>false
def zt:V->V->Bool
 | .dO,.dO=>true
 | .bl a,.bl b=>a==b
 | .bl a,.int b=>(if a then 1 else 0)==b
 | .int a,.bl b=>a==(if b then 1 else 0)
 | .int a,.int b=>a==b
 | .str a,.str b=>a==b
 | _,_=>false
theorem KL (ry:RelV y u) (rx:RelV x v) (fy:kH y=true) (fx:kH x=true):SeqAt.EqAt A s u v (zt y x):=by
 cases y with
 | dO=>
  cases ry
  cases x with
  | dO=>cases rx;exact SeqAt.EqAt.same _
  | bl b=>cases rx;exact SeqAt.EqAt.none_bool b
  | int b=>obtain ⟨t,rfl⟩:=rx;exact SeqAt.EqAt.none_int b t
  | str b=>obtain ⟨t,rfl⟩:=rx;exact SeqAt.EqAt.none_str b t
  | _=>exact absurd (show false=true from fx) Yo
 | bl a=>
  cases ry
  cases x with
  | dO=>cases rx;exact SeqAt.EqAt.bool_none a
  | bl b=>cases rx;exact SeqAt.EqAt.bool_bool a b
  | int b=>obtain ⟨t,rfl⟩:=rx;exact SeqAt.EqAt.bool_int a b t
  | str b=>obtain ⟨t,rfl⟩:=rx;exact SeqAt.EqAt.bool_str a b t
  | _=>exact absurd (show false=true from fx) Yo
 | int a=>
  obtain ⟨t',rfl⟩:=ry;cases x with
  | dO=>cases rx;exact SeqAt.EqAt.int_none a t'
  | bl b=>cases rx;exact SeqAt.EqAt.int_bool a t' b
  | int b=>obtain ⟨t,rfl⟩:=rx;exact zau a t' b t
  | str b=>obtain ⟨t,rfl⟩:=rx;exact SeqAt.EqAt.int_str a t' b t
  | _=>exact absurd (show false=true from fx) Yo
 | str a=>
  obtain ⟨t',rfl⟩:=ry;cases x with
  | dO=>cases rx;exact SeqAt.EqAt.str_none a t'
  | bl b=>cases rx;exact SeqAt.EqAt.str_bool a t' b
  | int b=>obtain ⟨t,rfl⟩:=rx;exact SeqAt.EqAt.str_int a t' b t
  | str b=>obtain ⟨t,rfl⟩:=rx;exact SeqAt.EqAt.str_str a t' b t
  | _=>exact absurd (show false=true from fx) Yo
 | _=>exact absurd (show false=true from fy) Yo
def zu (x:V) (u:Value):Bool:=match u with
 | .none=>zt .dO x
 | .bool b=>zt (.bl b) x
 | .int i _=>zt (.int i) x
 | .str z _=>zt (.str z) x
 | _=>false
theorem EU (r:RelV y u) (f:kH y=true):zu x u=zt y x:=by
 cases y with
 | dO=>cases r;rfl
 | bl b=>cases r;rfl
 | int i=>obtain ⟨t,rfl⟩:=r;rfl
 | str z=>obtain ⟨t,rfl⟩:=r;rfl
 | _=>exact absurd (show false=true from f) Yo
theorem me {x:V}:∀ {xs:List V} {us:XV},Vals xs us->xs.all kH=true->us.any (zu x)=xs.any λy=>zt y x
 | _,_,.nil,_=>rfl
 | y::xs,u::us,.cons r t,f=>by
  rw [all_cons,Bool.and_eq_true] at f;rw [any_cons,any_cons,EU r f.1,me t f.2]
theorem jJ {A:Around} {s:Shared} {x:V} {v:Value} (rx:RelV x v) (fx:kH x=true):∀ {xs:List V} {us:XV},Vals xs us->xs.all kH=true->∀ u∈us,SeqAt.EqAt A s u v (zu x u)
 | _,_,.nil,_=>λu hu=>by cases hu
 | y::xs,u::us,.cons r t,f=>λu' hu=>by
  rw [all_cons,Bool.and_eq_true] at f;rcases Yk.mp hu with rfl|hu
  ·rw [EU r f.1];exact KL r rx f.1 fx
  ·exact jJ rx fx t f.2 u' hu
def Lr (x:V) (xs:List V):Bool:=xs.any λy=>zt y x
def Lk (K:ZB) (neg:Bool):R2:=λx y H Q=>∃ p xs,y=.ref p/\(aN K H p xs\/SqT K H p xs)/\kH x=true/\xs.all kH=true/\Q (.bl (if neg then !Lr x xs else Lr x xs)) H
theorem j7:nO X (compareOp .In) (Lk X.K false):=by
 intro pins s σ H x y v u Q I rx ry h;obtain ⟨p,xs,rfl,hq,fx,fs,q⟩:=h;cases ry
 rcases hq with hq|hq
 ·obtain ⟨aY,r,pl,hz⟩:=I.list hq;refine SeqAt.in_listAt (zu x) pl.isList (λw hw=>jJ rx fx r fs w (by simpa using hw)) ⟨.bl _,H,I,rfl,?_⟩;rw [show aY.toArray.any (zu x)=aY.any (zu x) by simp,me r fs];exact q
 ·obtain ⟨aY,r,pl,hz⟩:=I.tuple hq;refine SeqAt.in_tupleAt (zu x) pl (λw hw=>jJ rx fx r fs w (by simpa using hw)) ⟨.bl _,H,I,rfl,?_⟩;rw [show aY.toArray.any (zu x)=aY.any (zu x) by simp,me r fs];exact q
theorem lU:nO X (compareOp .NotIn) (Lk X.K true):=by
 intro pins s σ H x y v u Q I rx ry h;obtain ⟨p,xs,rfl,hq,fx,fs,q⟩:=h;cases ry
 rcases hq with hq|hq
 ·obtain ⟨aY,r,pl,hz⟩:=I.list hq;refine SeqAt.notIn_listAt (zu x) pl.isList (λw hw=>jJ rx fx r fs w (by simpa using hw)) ⟨.bl _,H,I,rfl,?_⟩;rw [show aY.toArray.any (zu x)=aY.any (zu x) by simp,me r fs];exact q
 ·obtain ⟨aY,r,pl,hz⟩:=I.tuple hq;refine SeqAt.notIn_tupleAt (zu x) pl (λw hw=>jJ rx fx r fs w (by simpa using hw)) ⟨.bl _,H,I,rfl,?_⟩;rw [show aY.toArray.any (zu x)=aY.any (zu x) by simp,me r fs];exact q
def LN (K:ZB) (T:String) (x:V) (H:Hp):Prop:=match x with
 | .str _=>T = "str"
 | .int _=>T = "int"
 | .ref p=>(T = "list"/\∃ xs,aN K H p xs)\/(T = "tuple"/\∃ o,K.lookup p=some o/\o.cls=.type "tuple"/\o.dict=none)\/
   (T = "dict"/\((∃ kvs,H p=some (.dK kvs))\/∃ kvs,H p=some (.dT kvs)))\/(T = "set"/\∃ S n,H p=some (.set S n))
 | _=>False
theorem CT {σ:St} {s:Shared} {T:String} (I:Inv X pins σ H s) (r:RelV x v) (ty:LN X.K T x H) :
  s.TypeIs v T/\∀ a,v=.ref a->∃ ob,s.heap.get? a=some ob/\ob.dict=none:=by
 cases x with
 | str z=>
  obtain ⟨t,rfl⟩:=r;cases (show T = "str" from ty)
  exact ⟨typeIs_str s z t,λ_ e=>nomatch e⟩
 | int i=>
  obtain ⟨t,rfl⟩:=r;cases (show T = "int" from ty)
  exact ⟨typeIs_int s i t,λ_ e=>nomatch e⟩
 | ref p=>
  cases r
  rcases ty with ⟨rfl,xs,hq⟩|⟨rfl,o,hk,hc,hd⟩|⟨rfl,hk⟩|⟨rfl,S,n,hk⟩
  ·obtain ⟨aY,_,pl,_⟩:=I.list hq;refine ⟨pl.isList.typeIs,λa e=>?_⟩;cases e
   obtain ⟨o,n,e,c,hd,_⟩:=pl;exact ⟨o,e,hd⟩
  ·refine ⟨⟨o,I.xf p o hk,hc⟩,λa e=>?_⟩;cases e
   exact ⟨o,I.xf _ o hk,hd⟩
  ·have z:∃ o,s.heap.get? p=some o/\o.ExactDict:=by
    rcases hk with ⟨kvs,hk⟩|⟨kvs,hk⟩
    ·obtain ⟨_,_,_,_,o,_,_,e,ex,_⟩:=I.bH p _ hk;exact ⟨o,e,ex⟩
    ·obtain ⟨_,_,_,_,o,_,_,e,ex,_⟩:=I.bH p _ hk;exact ⟨o,e,ex⟩
   obtain ⟨o,e,ex⟩:=z;refine ⟨⟨o,e,ex.1⟩,λa e2=>?_⟩;cases e2
   exact ⟨o,e,ex.2.1⟩
  ·obtain ⟨o,_,_,_,e,ex,_⟩:=I.bH p _ hk;refine ⟨⟨o,e,ex.1⟩,λa e2=>?_⟩;cases e2
   exact ⟨o,e,ex.2.1⟩
 | _=>exact False.elim ty
def L0 (K:ZB) (T:String) (r:V->List V->Hp->VK->Prop) (to:TE):TE:=λσ H Q=>to σ H λx H1=>LN K T x H1/\r x [] H1 Q
def RI (K:ZB) (T:String) (r:V->List V->Hp->VK->Prop) (to:TE) (t:TA):TE:=λσ H Q=>to σ H λx H1=>LN K T x H1/\t σ H1 λxs H2=>r x xs H2 Q
variable {o e:Expr} {es:List Expr} {to:TE} {t:TA} {name:Str} {apos iw:Pos} {T id:String} {r:V->List V->Hp->VK->Prop}
theorem JI (pa:PlainAttrs T) (slot:Slot T name id) (P7:typeOf (.builtin id)=pure (.type "method_descriptor")) (hm:Rn X id r) (ho:PE X o to)
  (EL:attributeBase o name X.env (eval o X.env)=eval o X.env:=by rfl) (EG:(apos.endLine==iw.line)=true:=by rfl):PE X (.Call (.Attribute o name apos) [] [] iw) (L0 X.K T r to):=by
 intro pins s σ H Q I h;refine wpAny_Call_method0_late EL EG (cT (ho pins s σ H _ I h) λv s1 q9z=>?_);obtain ⟨x,H1,I1,r1,ty,q1⟩:=q9z;obtain ⟨h1,h2⟩:=CT I1 r1 ty;exact ⟨T,id,pa,slot,P7,h1,h2,zav rfl (PySem.evalArgs_none (hm pins s1 σ H1 x [] v [] Q I1 r1 .nil q1))⟩
theorem gs (pa:PlainAttrs T) (slot:Slot T name id) (P7:typeOf (.builtin id)=pure (.type "method_descriptor")) (hm:Rn X id r) (ho:PE X o to) (ha:PA X (e::es) t)
  (EL:attributeBase o name X.env (eval o X.env)=eval o X.env:=by rfl)
  (Qy:((backTo iw (starEach (e::es) X.env)).all (λx=>!x.1)&&(backToKw iw (keywordEach [] X.env)).all (λx=>x.1.isSome)
  &&decide ((e::es).length+([]:List Keyword).length+(if ([]:List Keyword).isEmpty then 0 else 1)<30))=true:=by rfl)
  (EG:(apos.endLine==iw.line)=true:=by rfl) (hs:starEach (e::es) X.env=(false,eval e X.env)::starEach es X.env:=by rfl) (Km:(backTo iw (starEach es X.env)).any (·.1)=false:=by rfl) :
  PE X (.Call (.Attribute o name apos) (e::es) [] iw) (RI X.K T r to t):=by
 intro pins s σ H Q I h;refine wpAny_Call_method_late EL Qy EG rfl (cT (ho pins s σ H _ I h) λv s1 q9z=>?_);obtain ⟨x,H1,I1,r1,ty,q1⟩:=q9z;obtain ⟨h1,h2⟩:=CT I1 r1 ty;refine ⟨T,id,pa,slot,P7,h1,h2,?_⟩;have hA:=ha iw pins s1 σ H1 _ I1 q1;rw [hs] at hA ⊢;refine zav (by show (false || (backTo iw (starEach es X.env)).any (·.1))=false;rw [Km]<;>rfl) (zbs ?_);exact cT hA λus s2 ⟨vs,H2,I2,r2,q2⟩=>hm pins s2 σ H2 x vs v us Q I2 r1 r2 q2
/- xs.append(e),list.index on a module's tuple .. are Rn facts of 06m -/
end
def LI (X:Cx) (id:String) (r:V->List V->Hp->VK->Prop):Prop:=
 ∀ (pins:Wp) (s:Shared) (σ:St) (H:Hp) (x:V) (xs:List V) (v:Value) (us:XV) (Q:VK),Inv X pins σ H s->RelV x v->Vals xs us->r x xs H Q->
  wpAny (model X.prog X.w) X.A (call (.builtin id) (v::us)) (EP X pins σ Q) X.xe s
theorem Vals.one:∀ {x:V} {us:XV},Vals [x] us->∃ u,us=[u]/\RelV x u
 | _,_,.cons r .nil=>⟨_,rfl,r⟩
theorem Vals.zero:∀ {us:XV},Vals [] us->us=[]
 | _,.nil=>rfl
theorem Vals.dropLast (h:Vals xs us):Vals xs.dropLast us.dropLast:=by
 induction h with
 | nil=>exact .nil
 | cons r t ih=>
  cases t with
  | nil=>exact .nil
  | cons q t'=>exact .cons r ih
theorem Vals.eraseIdx:∀ {xs:List V} {us:XV} (i:Nat),Vals xs us->Vals (xs.eraseIdx i) (us.eraseIdx i)
 | _,_,_,.nil=>.nil
 | _,_,0,.cons _ t=>t
 | _,_,i+1,.cons r t=>.cons r (Vals.eraseIdx i t)
theorem zq {α:Type} (l:List α):l.eraseIdx (l.length-1)=l.dropLast:=by
 induction l with
 | nil=>rfl
 | cons a r ih=>
  cases r with
  | nil=>rfl
  | cons b r=>
   have e:(a::b::r).length-1=((b::r).length-1)+1:=by
    have h1:(a::b::r).length=r.length+2:=rfl;have h2:(b::r).length=r.length+1:=rfl;assumption
   rw [e,eraseIdx_cons_succ,ih]
   all_goals rfl
theorem sI {α:Type}:∀ (l:List α) (i:Nat),(l.eraseIdx i).length<=l.length
 | [],_=>X7 _
 | _::_,0=>zaW _
 | _::r,i+1=>Nat.succ_le_succ (sI r i)
section
variable {X:Cx} {pins:Wp} {σ:St} {H:Hp} {s:Shared} {l b:Addr} {xs ys zs:List V}
theorem Inv.GG {aY its':XV} {n:Nat} {f:Array Value->Array Value} {t':Nat} (I:Inv X pins σ H s) (hH:H l=some (.lst xs))
  (e:s.heap.get? l=some { cls:=.type "list",data:=.seq aY.toArray n }) (hf:f aY.toArray=its'.toArray) (hv:Vals ys its') (hz:ys.length<=sizeLine) :
  Inv X pins σ (upd H l (.lst ys)) { s with heap:=s.heap.update l (Obj.mapSeq f),toks:=t' }:=by
 have q:=PySem.IsL.update e f;rw [hf] at q;refine I.write (x:=l) (e:=l) (by rw [hH];exact trivial) (.inl rfl) (λb' u hb hu=>(Y9 s.heap (Obj.mapSeq f) (YU hb)).trans hu) ⟨_,q⟩ ?_;exact ⟨hz,its',_,hv,q⟩
def Inv.PH (I:Inv X pins σ H s) (hv:Vals ys aY) (hz:ys.length<=sizeLine) :
  Inv X pins σ (upd H s.heap.objs.size (.lst ys)) { s with heap:=s.heap.push { cls:=.type "list",data:=.seq aY.toArray },toks:=t' }:=
 I.laid (λ_ _ q=>Yh _ q) (X7 _) ⟨hz,aY,0,hv,YH _ rfl⟩
def Inv.fresh (I:Inv X pins σ H s):H s.heap.objs.size=none:=I.bH.fresh (X7 _)
theorem Inv.uM (I:Inv X pins σ H s) (hH:H l=some (.lst xs)):xs.length<=sizeLine/\∃ (aY:XV) (n:Nat),Vals xs aY/\xs.length=aY.length/\s.heap.get? l=some { cls:=.type "list",data:=.seq aY.toArray n }:=by
 obtain ⟨z,aY,n,r,e⟩:=I.bH l _ hH;exact ⟨z,aY,n,r,r.length,e⟩
theorem Ea (h:n<=sizeLine):Builtin.List.listTooLong n=false:=by
 unfold Builtin.List.listTooLong;exact Yw (by omega)
end
def Ap:V->List V->Hp->VK->Prop:=λx vs H Q=>∃ l xs y,x=.ref l/\vs=[y]/\H l=some (.lst xs)/\xs.length<sizeLine/\Q .dO (upd H l (.lst (xs++[y])))
theorem df:LI X "list.append" Ap:=by
 intro pins s σ H x vs v us Q I rx rv h;obtain ⟨l,xs,y,rfl,rfl,hH,hz,q⟩:=h;cases rx
 obtain ⟨u,rfl,ru⟩:=rv.one;obtain ⟨z,aY,n,r,hl,e⟩:=I.uM hH;refine zaH F.slot_list_append ⟨_,e,rfl⟩ F.entry_list_append (F.args_list_append_2 _ _) (PySem.list_append l aY.toArray n u (by rw [YE];omega)) ⟨e,?_⟩;refine ⟨.dO,_,I.GG (its':=aY++[u]) hH e (by simp) (r.append (.cons ru .nil)) ?_,rfl,q⟩;rw [Yr,YX];assumption
def Ao:V->List V->Hp->VK->Prop:=λx vs H Q=>∃ l b xs zs,x=.ref l/\vs=[.ref b]/\H l=some (.lst xs)/\H b=some (.lst zs)/\xs.length+zs.length<=sizeLine/\Q .dO (upd H l (.lst (xs++zs)))
theorem sH:LI X "list.extend" Ao:=by
 intro pins s σ H x vs v us Q I rx rv h;obtain ⟨l,b,xs,zs,rfl,rfl,hH,hB,hz,q⟩:=h;cases rx
 obtain ⟨u,rfl,ru⟩:=rv.one;cases ru
 obtain ⟨z,aY,n,r,hl,e⟩:=I.uM hH;obtain ⟨z2,xg,n2,r2,nV,e2⟩:=I.uM hB;have hsz:aY.toArray.size+xg.toArray.size<=sizeLine:=by rw [YE,YE];omega
 have M0:¬(!aY.toArray.isEmpty&&Builtin.List.listTooLong (aY.toArray.size+xg.toArray.size))=true:=by
  rw [Ea hsz,Bool.and_false];exact Yo
 refine zaH F.slot_list_extend ⟨_,e,rfl⟩ F.entry_list_extend (F.args_list_extend_2 _ _)
  (AutoSeq1.list_extend_list_list_0 l aY.toArray n b xg.toArray n2 M0 (by rw [YE];omega) (by omega)) ⟨e,e2,?_⟩
 refine ⟨.dO,_,I.GG (its':=aY++xg) hH e (by simp) (r.append r2) ?_,rfl,q⟩;rw [Yr];assumption
def Pb:V->List V->Hp->VK->Prop:=λx vs H Q=>∃ l xs y,x=.ref l/\vs=[]/\H l=some (.lst xs)/\xs[xs.length-1]?=some y/\Q y (upd H l (.lst xs.dropLast))
theorem JV:LI X "list.pop" Pb:=by
 intro pins s σ H x vs v us Q I rx rv h;obtain ⟨l,xs,y,rfl,rfl,hH,hy,q⟩:=h;cases rx
 have Vh:=rv.zero;subst Vh;obtain ⟨z,aY,n,r,hl,e⟩:=I.uM hH;obtain ⟨u,hu,ru⟩:=r.get hy;have P0:aY.toArray[aY.toArray.size-1]?=some u:=by
  show aY.toArray[aY.length-1]?=some u;rw [<-zaa,<-hl];exact hu
 refine zaH F.slot_list_pop ⟨_,e,rfl⟩ F.entry_list_pop (F.args_list_pop_1 _) (MeetsSeq.list_pop_last l aY.toArray n u P0 (by rw [YE];omega)) ⟨e,?_⟩;refine ⟨y,_,I.GG (its':=aY.dropLast) hH e ?_ r.dropLast ?_,ru,q⟩
 ·show aY.toArray.eraseIdxIfInBounds (aY.toArray.size-1)=aY.dropLast.toArray;rw [YE,eraseIdxIfInBounds_toArray,zq]
 ·rw [length_dropLast];omega
def Jx:V->List V->Hp->VK->Prop:=λx vs H Q=>∃ l xs i k y,x=.ref l/\vs=[.int i]/\H l=some (.lst xs)/\-(2 ^ 63)<=i/\i<2 ^ 63/\seqIndex? i xs.length=some k/\xs[k]?=some y/\Q y (upd H l (.lst (xs.eraseIdx k)))
theorem Ej:LI X "list.pop" Jx:=by
 intro pins s σ H x vs v us Q I rx rv h;obtain ⟨l,xs,i,k,y,rfl,rfl,hH,h1,h2,hk,hy,q⟩:=h;cases rx
 obtain ⟨u,rfl,ru⟩:=rv.one;obtain ⟨t,rfl⟩:=ru;obtain ⟨z,aY,n,r,hl,e⟩:=I.uM hH;obtain ⟨w,hw,sg⟩:=r.get hy;refine zaH F.slot_list_pop ⟨_,e,rfl⟩ F.entry_list_pop (F.args_list_pop_2 _ _)
  (MeetsSeq.list_pop_at l aY.toArray n i t k w (fitsIndex_both h1 h2) (by rw [YE,<-hl];exact hk) (by rw [<-zaa];exact hw) (by rw [YE];omega)) ⟨e,?_⟩
 refine ⟨y,_,I.GG (its':=aY.eraseIdx k) hH e ?_ (r.eraseIdx k) ?_,sg,q⟩
 ·show aY.toArray.eraseIdxIfInBounds k=(aY.eraseIdx k).toArray;rw [eraseIdxIfInBounds_toArray]
 ·have:=sI xs k;omega
def Mj:R2:=λx y H Q=>∃ l b xs zs,x=.ref l/\y=.ref b/\H l=some (.lst xs)/\H b=some (.lst zs)/\xs.length+zs.length<=sizeLine/\∀ p,H p=none->Q (.ref p) (upd H p (.lst (xs++zs)))
theorem eV:nO X (binaryOp .Add) Mj:=by
 intro pins s σ H x y v u Q I rx ry h;obtain ⟨l,b,xs,zs,rfl,rfl,hH,hB,hz,q⟩:=h;cases rx
 cases ry
 obtain ⟨z,aY,n,r,hl,e⟩:=I.uM hH;obtain ⟨z2,xg,n2,r2,nV,e2⟩:=I.uM hB;refine PySem.P.add_list e e2 ?_ (by rw [YE,YE];omega);have ea:aY.toArray++xg.toArray=(aY++xg).toArray:=by simp
 rw [ea];exact ⟨.ref _,_,I.PH (t':=s.toks) (r.append r2) (by rw [Yr];assumption),rfl,q _ I.fresh⟩
section
variable {κ:Type} [DecidableEq κ]
def fH (kvs:List (κ×V)) (k:κ):Option V:=(kvs.find? λkv=>decide (kv.1=k)).map (·.2)
def Tl (kvs:List (κ×V)) (k:κ) (v:V):List (κ×V):=
 if (kvs.any λkv=>decide (kv.1=k))=true then kvs.map (λkv=>if kv.1=k then (kv.1,v) else kv) else kvs++[(k,v)]
theorem fj {p:κ×V} {k:κ} (e:p.1=k):fH (p::r) k=some p.2:=by simp [fH,zbL,e]
theorem eL {p:κ×V} {k:κ} (e:¬p.1=k):fH (p::r) k=fH r k:=by simp [fH,zbL,e]
theorem ji (k:κ):∀ kvs:List (κ×V),(kvs.any λkv=>decide (kv.1=k))=(fH kvs k).isSome
 | []=>rfl
 | p::r=>by
  rw [any_cons];by_cases e:p.1=k
  ·simp only [fj e,YC e,Bool.true_or,Option.isSome_some]
  ·rw [eL e,Yw e,Bool.false_or];exact ji k r
theorem gK (kvs:List (κ×V)) (k:κ) (v:V):(Tl kvs k v).length<=kvs.length+1:=by
 unfold Tl;split
 ·rw [Pd];exact zaW _
 ·rw [Yr,YV,zac];exact ZG _
theorem jE {k:κ} (v:V) (h:fH kvs k=none):Tl kvs k v=kvs++[(k,v)]:=by
 unfold Tl;rw [ji,h];exact X6 (by decide)
theorem nk.ig (r:nk o u):o.isSome=u.isSome:=by
 cases o with
 | none=>cases u with
  | none=>rfl
  | some _=>exact (show False from r).elim
 | some _=>cases u with
  | none=>exact (show False from r).elim
  | some _=>rfl
theorem nk.getD (r:nk o u) (rd:RelV d d'):RelV (o.getD d) (u.getD d'):=by
 cases o with
 | none=>cases u with
  | none=>exact rd
  | some _=>exact (show False from r).elim
 | some _=>cases u with
  | none=>exact (show False from r).elim
  | some _=>exact r
theorem KV.val (r:KV kvs vs) (k:κ):nk (fH kvs k) (valueAt vs k):=by
 unfold KV at r
 induction r with
 | nil=>exact True.intro
 | @cons p q ps qs h t ih=>
  obtain ⟨h1,h2⟩:=h;by_cases e:p.1=k
  ·have e':q.1=k:=h1.symm.trans e;have b:valueAt (q::qs) k=some q.2:=by simp [valueAt,zbL,e']
   rw [fj e,b];exact h2
  ·have e':¬q.1=k:=λz=>e (h1.trans z);have b:valueAt (q::qs) k=valueAt qs k:=by simp [valueAt,zbL,e']
   rw [eL e,b];exact ih
theorem KV.any (r:KV kvs vs) (k:κ):(kvs.any λkv=>decide (kv.1=k))=vs.any λkv=>decide (kv.1=k):=by
 unfold KV at r
 induction r with
 | nil=>rfl
 | cons h t ih=>rw [any_cons,any_cons,ih,h.1]
theorem KV.Ju (r:KV kvs vs) (k:κ) (ry:RelV y u) :
  KV (kvs.map λkv=>if kv.1=k then (kv.1,y) else kv) (vs.map λkv=>if kv.1=k then (kv.1,u) else kv):=by
 unfold KV at r ⊢
 induction r with
 | nil=>exact .nil
 | @cons p q ps qs h t ih=>
  rw [Y8,Y8];refine .cons ?_ ih;obtain ⟨h1,h2⟩:=h;by_cases e:p.1=k
  ·rw [Ya e,Ya (h1.symm.trans e)];exact ⟨h1,ry⟩
  ·rw [X6 e,X6 (λz=>e (h1.trans z))];exact ⟨h1,h2⟩
theorem KV.put (r:KV kvs vs) (k:κ) (ry:RelV y u):KV (Tl kvs k y) (stored vs k u):=by
 unfold Tl stored;rw [r.any k];by_cases e:(vs.any λkv=>decide (kv.1=k))=true
 ·rw [Ya e,Ya e];exact r.Ju k ry
 ·rw [X6 e,X6 e];exact Paired.snoc r ⟨rfl,ry⟩
def KV.length {kvs:List (κ×V)} {vs:List (κ×Value)} (r:KV kvs vs):kvs.length=vs.length:=zaM r
end
theorem p5 (r:RelV (kV k) u):(bA P w).is k u=true:=by
 cases k with
 | inl i=>obtain ⟨t,e⟩:=(show ∃ t,u=Value.int i t from r);subst e;exact wQ P w i t
 | inr x=>obtain ⟨t,e⟩:=(show ∃ t,u=Value.str x t from r);subst e;exact wO P w x t
theorem sJ {P:Program} {w:World}:∀ {ks:List Key} {us:XV},Vals (ks.map kV) us->ItemsAre (bA P w) ks us
 | [],_,r=>by rw [map_nil] at r;cases r;exact .nil
 | k::ks,_,r=>by
  rw [Y8] at r;cases r with
  | cons h t=>exact .cons (p5 h) (sJ t)
abbrev KT (H:Hp):List (List Key×V)->List (List Key×Addr×Value)->Prop:=Paired λp q=>p.1=q.1/\H q.2.1=some (.tup (p.1.map kV))/\RelV p.2 q.2.2
theorem KT.val (r:KT H kvs xs) (k:List Key):nk (fH kvs k) ((atKey xs k).map (·.2)):=by
 induction r with
 | nil=>exact True.intro
 | @cons p q ps qs h t ih=>
  obtain ⟨h1,_,h2⟩:=h;by_cases e:p.1=k
  ·have e':q.1=k:=h1.symm.trans e;have b:atKey (q::qs) k=some q.2:=by simp [atKey,zbL,e']
   rw [fj e,b];exact h2
  ·have e':¬q.1=k:=λz=>e (h1.trans z);have b:atKey (q::qs) k=atKey qs k:=by simp [atKey,zbL,e']
   rw [eL e,b];exact ih
theorem KT.Ju (r:KT H kvs xs) (k:List Key) (ry:RelV y u) :
  KT H (kvs.map λkv=>if kv.1=k then (kv.1,y) else kv) (xs.map (putAt k u)):=by
 induction r with
 | nil=>exact .nil
 | @cons p q ps qs h t ih=>
  rw [Y8,Y8];refine .cons ?_ ih;obtain ⟨h1,h2,h3⟩:=h;unfold putAt;by_cases e:p.1=k
  ·rw [Ya e,Ya (h1.symm.trans e)];exact ⟨h1,h2,ry⟩
  ·rw [X6 e,X6 (λz=>e (h1.trans z))];exact ⟨h1,h2,h3⟩
theorem KT.put (r:KT H kvs xs) (k:List Key) (hb:H b=some (.tup (k.map kV))) (ry:RelV y u) :
  KT H (Tl kvs k y) (storedH xs k b u):=by
 have e:(kvs.any λkv=>decide (kv.1=k))=(atKey xs k).isSome:=by
  rw [ji,(r.val k).ig,zbV]
 unfold Tl storedH;rw [e];by_cases q:(atKey xs k).isSome=true
 ·rw [Ya q,Ya q];exact r.Ju k ry
 ·rw [X6 q,X6 q];exact Paired.snoc r ⟨rfl,hb,ry⟩
def KT.keeps (r:KT H kvs xs) (ht:∀ b ys,H b=some (.tup ys)->H' b=some (.tup ys)):KT H' kvs xs:=
 Paired.yW r λ_ _ z=>⟨z.1,ht _ _ z.2.1,z.2.2⟩
def HU (ok:kh P w H h) (e:Rd H a u):bC P w H h a u:=e.ok ok
def nH (ok:kh P w H h) (e:Rd H a (.dK kvs)):kvs.length<=sizeLine/\(a==sysModules)=false/\∃ vs,KV kvs vs/\h.DictOf (bA P w) a vs:=
 show bC P w H h a (.dK kvs) from HU ok e
def A4 (ok:kh P w H h) (e:H a=some (.dK kvs)):kvs.length<=sizeLine/\(a==sysModules)=false/\∃ vs,KV kvs vs/\h.DictOf (bA P w) a vs:=nH ok (.inl e)
theorem jM (ok:kh P w H h) (e:H a=some (.tup (ks.map kV))):(tupleKind (bA P w)).is h ks a:=by
 obtain ⟨_,aY,r,o,h1,h2,n,h3⟩:=(show bC P w H h a (.tup (ks.map kV)) from ok a _ e);exact ⟨o,aY.toArray,n,h1,h2,h3,by simpa using sJ r⟩
theorem qD (ok:kh P w H h) (e:Rd H a (.dT kvs)):kvs.length<=sizeLine/\(a==sysModules)=false/\
  ∃ xs,KT H kvs xs/\h.DictOfH (tupleKind (bA P w)) a xs:=by
 obtain ⟨z,y,xs,r,o,es,ep,h1,h2,h3,h4,h5⟩:=(show bC P w H h a (.dT kvs) from HU ok e);refine ⟨z,y,xs,r,o,es,ep,h1,h2,h3,h4,λx hx=>?_,h5⟩;have all:∀ {l:List (List Key×V)} {m:List (List Key×Addr×Value)},KT H l m->∀ x∈m,(tupleKind (bA P w)).is h x.1 x.2.1:=by
  intro l m q
  induction q with
  | nil=>intro x hx;exact nomatch hx
  | @cons p q ps qs hq t ih=>
   intro x hx;rcases Yk.mp hx with e|hx
   ·subst e;exact jM ok (by rw [<-hq.1];exact hq.2.1)
   ·exact ih x hx
 exact all r x hx
def sS (ok:kh P w H h) (e:H a=some (.dT kvs)):kvs.length<=sizeLine/\(a==sysModules)=false/\
  ∃ xs,KT H kvs xs/\h.DictOfH (tupleKind (bA P w)) a xs:=qD ok (.inl e)
def cP (H:Hp) (a:Addr) (y:V) (r:Option V):Prop:=
 (∃ kvs k,Rd H a (.dK kvs)/\y=kV k/\r=fH kvs k)\/∃ kvs k b,Rd H a (.dT kvs)/\y=.ref b/\H b=some (.tup (k.map kV))/\r=fH kvs k
def i8 (H:Hp) (a:Addr) (y v:V) (H':Hp):Prop:=
 (∃ kvs k,H a=some (.dK kvs)/\y=kV k/\kvs.length<sizeLine/\H'=upd H a (.dK (Tl kvs k v)))\/
 ∃ kvs k b,H a=some (.dT kvs)/\y=.ref b/\H b=some (.tup (k.map kV))/\kvs.length<sizeLine/\H'=upd H a (.dT (Tl kvs k v))
def cP.k {k:Key} (e:H a=some (.dK kvs)):cP H a (kV k) (fH kvs k):=.inl ⟨kvs,k,.inl e,rfl,rfl⟩
def cP.t {H:Hp} {a b:Addr} {kvs:List (List Key×V)} {k:List Key} (e:H a=some (.dT kvs)) (eb:H b=some (.tup (k.map kV))):cP H a (.ref b) (fH kvs k):=.inr ⟨kvs,k,b,.inl e,rfl,eb,rfl⟩
def i8.k {k:Key} (e:H a=some (.dK kvs)) (hl:kvs.length<sizeLine):i8 H a (kV k) v (upd H a (.dK (Tl kvs k v))):=.inl ⟨kvs,k,e,rfl,hl,rfl⟩
def i8.t {H:Hp} {a b:Addr} {kvs:List (List Key×V)} {k:List Key} {v:V} (e:H a=some (.dT kvs)) (eb:H b=some (.tup (k.map kV))) (hl:kvs.length<sizeLine) :
  i8 H a (.ref b) v (upd H a (.dT (Tl kvs k v))):=.inr ⟨kvs,k,b,e,rfl,eb,hl,rfl⟩
section
variable {X:Cx} {pins:Wp} {σ:St} {H:Hp} {s:Shared} {a:Addr} {y v:V} {u r:Value} {o:Option V} {A:Around} {E:WF}
theorem Inv.big (I:Inv X pins σ H s):sysModules<s.heap.objs.size:=by
 have h:mainGlobals<s.heap.objs.size:=(I.mod.glob.keeps I.bk).lt;exact zbb (by decide) h
theorem Ci (hu:A.units+1<cLine) (I:Inv X pins σ H s) (g:cP H a y (some v)) (ry:RelV y u) (h:∀ w' s',Inv X pins σ H s'->RelV v w'->Q w' s') :
  wpAny (model X.prog X.w) A (getItem (.ref a) u) Q E s:=by
 rcases g with ⟨kvs,k,e,ey,l⟩|⟨kvs,k,b,e,ey,eb,l⟩
 ·subst ey;obtain ⟨z,hd,vs,rel,dd⟩:=nH I.bH e;obtain ⟨w',hw,sg⟩:=nk.some_of (v:=v) (o:=valueAt vs k) (by rw [l];exact rel.val k);exact wpAny_getItem_of (p5 ry) dd.mapOf hw (h w' _ (I.tok _) sg)
 ·subst ey;cases (show u=Value.ref b from ry)
  obtain ⟨z,hd,xs,rel,dd⟩:=qD I.bH e;obtain ⟨w',hw,sg⟩:=nk.some_of (v:=v) (o:=(atKey xs k).map (·.2)) (by rw [l];exact rel.val k);obtain ⟨p,hp,zc⟩:=Option.map_eq_some_iff.mp hw;refine wpAny_getItem_heap (Z8 hu) (jM I.bH eb) dd hp ?_;rw [zc];exact h w' _ (I.tok _) sg
theorem QZ (hu:A.units+1<cLine) (I:Inv X pins σ H s) (g:cP H a y o) (ry:RelV y u) (h:∀ s',Inv X pins σ H s'->Q (.bool o.isSome) s') :
  wpAny (model X.prog X.w) A (compareOp .In u (.ref a)) Q E s:=by
 rcases g with ⟨kvs,k,e,ey,l⟩|⟨kvs,k,b,e,ey,eb,l⟩
 ·subst ey;obtain ⟨z,hd,vs,rel,dd⟩:=nH I.bH e;refine wpAny_in_of (p5 ry) hd dd.mapOf ?_;rw [<-(rel.val k).ig,<-l];exact h _ (I.tok _)
 ·subst ey;cases (show u=Value.ref b from ry)
  obtain ⟨z,hd,xs,rel,dd⟩:=qD I.bH e;refine wpAny_in_heap (Z8 hu) (jM I.bH eb) hd dd ?_;have q:=(rel.val k).ig;rw [zbV] at q;rw [<-q,<-l];exact h _ (I.tok _)
theorem Hc (hu:A.units+1<cLine) (I:Inv X pins σ H s) (g:cP H a y o) (ry:RelV y u) (h:∀ s',Inv X pins σ H s'->Q (.bool (!o.isSome)) s') :
  wpAny (model X.prog X.w) A (compareOp .NotIn u (.ref a)) Q E s:=by
 rcases g with ⟨kvs,k,e,ey,l⟩|⟨kvs,k,b,e,ey,eb,l⟩
 ·subst ey;obtain ⟨z,hd,vs,rel,dd⟩:=nH I.bH e;refine wpAny_notIn_of (p5 ry) hd dd.mapOf ?_;rw [<-(rel.val k).ig,<-l];exact h _ (I.tok _)
 ·subst ey;cases (show u=Value.ref b from ry)
  obtain ⟨z,hd,xs,rel,dd⟩:=qD I.bH e;refine wpAny_notIn_heap (Z8 hu) (jM I.bH eb) hd dd ?_;have q:=(rel.val k).ig;rw [zbV] at q;rw [<-q,<-l];exact h _ (I.tok _)
def l9 (I:Inv X pins σ H s) (mu:NO (H a)) (hs:Heap.SameBut a s.heap h') (he:∃ q,h'.get? a=some q) (new:bC X.prog X.w (upd H a ob) h' a ob) :
  Inv X pins σ (upd H a ob) { s with heap:=h',toks:=t' }:=
 I.write (x:=a) (e:=a) mu (.inl rfl) (λb q hb z=>(hs.2 b hb).trans z) he new
def EY (z:kvs.length<=sizeLine) (hd:(a==sysModules)=false) (rel:KV kvs vs) (dd:h'.DictOf (bA P w) a vs) :
  bC P w H' h' a (.dK kvs):=⟨z,hd,vs,rel,dd⟩
theorem Cg (hu:A.units+1<cLine) (I:Inv X pins σ H s) (g:i8 H a y v H') (ry:RelV y u) (rv:RelV v r) (h:∀ s',Inv X pins σ H' s'->Q () s') :
  wpAny (model X.prog X.w) A (setItem (.ref a) u r) Q E s:=by
 rcases g with ⟨kvs,k,e,ey,l,eH⟩|⟨kvs,k,b,e,ey,eb,l,eH⟩
 ·subst ey eH;obtain ⟨z,hd,vs,rel,dd⟩:=A4 I.bH e;have hz:vs.length<=sizeLine:=by rw [<-rel.length];exact z
  have hl:(Tl kvs k v).length<=sizeLine:=by have:=gK kvs k v;omega
  refine wpAny_setItem_pairs (hsz:=hz) (p5 ry) dd λh' Bd hs=>h _ ?_;have he:∃ q,h'.get? a=some q:=let ⟨q,_,_,hq,_⟩:=Bd;⟨q,hq⟩
  exact l9 I (by rw [e];exact True.intro) hs he (EY hl hd (rel.put k rv) Bd)
 ·subst ey eH;cases (show u=Value.ref b from ry)
  obtain ⟨z,hd,xs,rel,dd⟩:=sS I.bH e;have hz:xs.length<=sizeLine:=by rw [<-zaM rel];exact z
  have hl:(Tl kvs k v).length<=sizeLine:=by have:=gK kvs k v;omega
  refine wpAny_setItem_heap (hsz:=hz) (Z8 hu) (jM I.bH eb) dd λh' Bd hs=>h _ ?_;obtain ⟨q,es,ep,hq,h2,h3,h4,_,h5⟩:=Bd;refine l9 I (by rw [e];exact True.intro) hs ⟨q,hq⟩ ⟨hl,hd,_,(rel.put k eb rv).keeps λc ys ec=>?_,q,es,ep,hq,h2,h3,h4,h5⟩;rw [ak (Eh ec e (λz=>nomatch z))];exact ec
end
section
variable {X:Cx} {pins:Wp} {σ:St} {H:Hp} {s:Shared} {a:Addr} {kvs:List (Key×V)} {k:Key} {u:Value} {A:Around} {E:WF}
theorem Nz (I:Inv X pins σ H s) (e:Rd H a (.dK kvs)) (h:∀ t s',Inv X pins σ H s'->Q (.int kvs.length t) s'):wpAny (model X.prog X.w) A (call (.builtin "len") [.ref a]) Q E s:=by
 obtain ⟨z,hd,vs,rel,dd⟩:=nH I.bH e;refine call_len_dict hd dd (by rw [<-rel.length];rw [ZS] at z;omega) ?_;rw [<-rel.length];exact h _ _ (I.tok _)
end
def NN (i:Expr):Prop:=∀ ov iv,subscripted i false ov iv=operate [ov,iv] (getItem ov iv)
theorem FT {A:Around} {s:Shared} {env:Env} {pos:Pos} {T id:String}
  (hl:typeLookup (.type T) "__getitem__"=pure (some (.builtin id))) (hs:NN slice)
  (h:wpAny (model prog w) A (eval value env) (λo s₁=>wpAny (model prog w) A (eval slice env) (λi s₂=>s₂.TypeIs o T/\wpAny (model prog w) A (getItem o i) Q E s₂) E s₁) E s) :
  wpAny (model prog w) A (eval (.Subscript value slice pos) env) Q E s:=by
 refine Subscript_ (Ze h (λo s₁ h₁=>Ze h₁ (λi s₂ h₂=>?_) λ_ _ x=>x) λ_ _ x=>x);obtain ⟨hT,h₂⟩:=h₂;unfold subscriptTail;refine X5 ?_;rw [getitemInPython_of_ne hT.not_modules];refine X5 (zaz hT hl ?_);have fin:wpAny (model prog w) A (subscripted slice false o i) (λr s₃=>wpAny (model prog w) A (letTemporaryGo value o r >>= λ_=>pure r) Q E s₃) E s₂:=by
  rw [hs o i];exact wpAny_operating (Ze h₂ (λr s₃ h₃=>X5 (wpAny_letTemporaryGo (Ym h₃))) λ_ _ x=>x)
 first
  | exact Ym (X5 fin)
  | exact X5 (Ym (X5 fin))
  | exact X5 fin
theorem xP {σ:St} {s:Shared} {o:Option V} (I:Inv X pins σ H s) (g:cP H a y o):s.TypeIs (.ref a) "dict":=by
 rcases g with ⟨kvs,k,e,_,_⟩|⟨kvs,k,b,e,_,_,_⟩
 ·obtain ⟨_,_,vs,_,dd⟩:=nH I.bH e;exact dd.typeIs
 ·obtain ⟨_,_,xs,_,dd⟩:=qD I.bH e;exact dd.typeIs
def zP (td ty:TE):TE:=λσ H Q=>td σ H λx H1=>ty σ H1 λy H2=>∃ a v,x=.ref a/\cP H2 a y (some v)/\Q v H2
def LZ (ty td:TE):TE:=λσ H Q=>ty σ H λy H1=>td σ H1 λx H2=>∃ a o,x=.ref a/\cP H2 a y o/\Q (.bl o.isSome) H2
def zO (ty td:TE):TE:=λσ H Q=>ty σ H λy H1=>td σ H1 λx H2=>∃ a o,x=.ref a/\cP H2 a y o/\Q (.bl (!o.isSome)) H2
def HR (td ty tv:TE):TS:=λD σ H=>tv σ H λv H1=>td σ H1 λx H2=>ty σ H2 λy H3=>∃ a H4,x=.ref a/\i8 H3 a y v H4/\D.nx σ H4
theorem cZ (hu:X.A.units+1<cLine) (ho:PE X o td) (hi:PE X i ty) (hs:NN i):PE X (.Subscript o i pos) (zP td ty):=by
 intro pins s σ H Q I h;refine FT PySem.F.slot_dict_getitem.lookup hs (cT (ho pins s σ H _ I h) λu s1 ⟨x,H1,I1,rx,q1⟩=>cT (hi pins s1 σ H1 _ I1 q1) λiv s2 q9z=>?_);obtain ⟨y,H2,I2,ry,a,v,ex,g,q2⟩:=q9z;subst ex;obtain rfl:u=Value.ref a:=rx;exact ⟨xP I2 g,Ci hu I2 g ry λw' s3 I3 sg=>⟨v,H2,I3,sg,q2⟩⟩
theorem uy (hu:X.A.units+1<cLine) (hi:PE X i ty) (ho:PE X o td):PC X .In i o (LZ ty td):=by
 intro pins s σ H Q I h;refine cT (hi pins s σ H _ I h) λiv s1 ⟨y,H1,I1,ry,q1⟩=>cT (ho pins s1 σ H1 _ I1 q1) λu s2 q9z=>?_;obtain ⟨x,H2,I2,rx,a,ov,ex,g,q2⟩:=q9z;subst ex;obtain rfl:u=Value.ref a:=rx;exact QZ hu I2 g ry λs3 I3=>⟨.bl ov.isSome,H2,I3,rfl,q2⟩
theorem eG (hu:X.A.units+1<cLine) (hi:PE X i ty) (ho:PE X o td):PC X .NotIn i o (zO ty td):=by
 intro pins s σ H Q I h;refine cT (hi pins s σ H _ I h) λiv s1 ⟨y,H1,I1,ry,q1⟩=>cT (ho pins s1 σ H1 _ I1 q1) λu s2 q9z=>?_;obtain ⟨x,H2,I2,rx,a,ov,ex,g,q2⟩:=q9z;subst ex;obtain rfl:u=Value.ref a:=rx;exact Hc hu I2 g ry λs3 I3=>⟨.bl (!ov.isSome),H2,I3,rfl,q2⟩
theorem eD (hu:X.A.units+1<cLine) (ho:PE X o td) (hi:PE X i ty) (hv:PE X value tv) (hs:swapsWith value (some (.Subscript o i pos')) pos.line X.env=pure false) :
  PS X (.Assign [.Subscript o i pos'] value pos) (HR td ty tv):=by
 intro pins s σ H D I h;refine wpAny_Assign_Subscript (cT (hv pins s σ H _ I h) λr s1 ⟨v,H1,I1,rv,q1⟩=>cT (ho pins s1 σ H1 _ I1 q1) λu s2 ⟨x,H2,I2,rx,q2⟩=>cT (hi pins s2 σ H2 _ I2 q2) λiv s3 ⟨y,H3,I3,ry,a,H4,ex,g,q3⟩=>?_) hs;subst ex;obtain rfl:u=Value.ref a:=rx;exact Cg hu I3 g ry rv λs4 I4=>⟨σ,H4,I4,q3⟩
def xO (h:Heap) (hb:sysModules<h.objs.size):bC P w H (h.push { cls:=.type "dict",data:=.dict #[] }) h.objs.size (.dK []):=
 ⟨YK _,zbC.mpr (YU (YR hb)),[],.nil,Heap.DictOf.new h⟩
def xN (h:Heap) (hb:sysModules<h.objs.size):bC P w H (h.push { cls:=.type "dict",data:=.dict #[] }) h.objs.size (.dT []):=
 ⟨YK _,zbC.mpr (YU (YR hb)),[],.nil,_,#[],0,YH _ rfl,⟨rfl,rfl,rfl⟩,rfl,rfl,nodup_nil⟩
def Jg:TE:=λ_ H Q=>∀ p,H p=none->Q (.ref p) (upd H p (.dK []))
def Jf:TE:=λ_ H Q=>∀ p,H p=none->Q (.ref p) (upd H p (.dT []))
def pF:PE X (.Dict [] [] pos) Jg:=λpins s σ H Q I h=>
 wpAny_Dict_empty ⟨.ref s.heap.objs.size,_,I.laid (a:=s.heap.objs.size) (o:=.dK []) (t':=s.toks) (λ_ _ q=>Yh _ q) (X7 _) (xO s.heap I.big),rfl,h _ (I.bH.fresh (X7 _))⟩
def lT:PE X (.Dict [] [] pos) Jf:=λpins s σ H Q I h=>
 wpAny_Dict_empty ⟨.ref s.heap.objs.size,_,I.laid (a:=s.heap.objs.size) (o:=.dT []) (t':=s.toks) (λ_ _ q=>Yh _ q) (X7 _) (xN s.heap I.big),rfl,h _ (I.bH.fresh (X7 _))⟩
def tL:List (TE×TE)->St->Hp->(List (V×V)->Hp->Prop)->Prop
 | [],_,H,Q=>Q [] H
 | (tk,tv)::r,σ,H,Q=>tk σ H λx H1=>tv σ H1 λy H2=>tL r σ H2 λps H3=>Q ((x,y)::ps) H3
abbrev VV:List (V×V)->List (Value×Value)->Prop:=Paired λp q=>RelV p.1 q.1/\RelV p.2 q.2
def OO (X:Cx) (pos:Pos) (keys:List (Option Expr)) (values:List Expr) (FO:List (TE×TE)):Prop:=
 ∀ (pins:Wp) (s:Shared) (σ:St) (H:Hp) (Q:List (V×V)->Hp->Prop),Inv X pins σ H s->tL FO σ H Q->
  wpAny (model X.prog X.w) X.A (evalPairs (pairTrees keys values X.env pos)) (λvs s'=>∃ ps H',Inv X pins σ H' s'/\VV ps vs/\Q ps H') X.xe s
def Aq:OO X pos [] [] []:=λpins s σ H Q I h=>pairTrees_nil_walk ⟨[],H,I,.nil,h⟩
def wF (hk:PE X k tk) (hv:PE X v tv) (hr:OO X pos ks vs FO) :
  OO X pos (some k::ks) (v::vs) ((tk,tv)::FO):=λpins s σ H Q I h=>
 pairTrees_cons_walk (cT (hk pins s σ H _ I h) λu s1 ⟨x,H1,I1,rx,q1⟩=>cT (hv pins s1 σ H1 _ I1 q1) λw2 s2 ⟨y,H2,I2,ry,q2⟩=>
  cT (hr pins s2 σ H2 _ I2 q2) λws s3 ⟨ps,H3,I3,rel,q3⟩=>⟨(x,y)::ps,H3,I3,.cons ⟨rx,ry⟩ rel,q3⟩)
def jG (kvs more:List (Key×V)):List (Key×V):=more.foldl (λacc kv=>Tl acc kv.1 kv.2) kvs
theorem KV.merge:∀ {more:List (Key×V)} {rs:List (Key×Value)} {kvs:List (Key×V)} {vs:List (Key×Value)},KV more rs->KV kvs vs->KV (jG kvs more) (merged vs rs):=by
 intro more rs kvs vs r;unfold KV at r
 induction r generalizing kvs vs with
 | nil=>intro q;exact q
 | @cons p q ps qs h t ih=>
  intro r0;have e:KV (Tl kvs p.1 p.2) (stored vs q.1 q.2):=by
   have:=r0.put p.1 h.2;rw [<-h.1];exact this
  exact ih e
theorem kG:∀ (more kvs:List (Key×V)),(jG kvs more).length<=kvs.length+more.length
 | [],kvs=>by show kvs.length<=kvs.length+0;omega
 | p::r,kvs=>by
  have h1:=kG r (Tl kvs p.1 p.2);have h2:=gK kvs p.1 p.2;show (jG (Tl kvs p.1 p.2) r).length<=_;rw [YV];omega
theorem qG {P:Program} {w:World}:∀ {kvs:List (Key×V)} {ws:List (Value×Value)},VV (kvs.map λkv=>(kV kv.1,kv.2)) ws->∃ rs,Carries (bA P w) ws rs/\KV kvs rs
 | [],_,r=>by rw [map_nil] at r;cases r;exact ⟨[],True.intro,.nil⟩
 | p::kvs,_,r=>by
  rw [Y8] at r;cases r with
  | @cons a b as bs h t=>
   obtain ⟨rs,c,q⟩:=qG (P:=P) (w:=w) t;obtain ⟨b1,b2⟩:=b;exact ⟨(p.1,b2)::rs,⟨p5 h.1,rfl,c⟩,.cons ⟨rfl,h.2⟩ q⟩
def LY (FO:List (TE×TE)):TE:=λσ H Q=>∀ p,H p=none->tL FO σ (upd H p (.dK [])) λps H2=>H2 p=some (.dK [])/\∃ kvs:List (Key×V),ps=kvs.map (λkv=>(kV kv.1,kv.2))/\kvs.length<=15/\Q (.ref p) (upd H2 p (.dK (jG [] kvs)))
theorem Gq (h:OO X pos keys values FO) (Kz:keys.all (·.isSome)=true) (hl:keys.length=values.length) (h0:keys≠[])
  (V8:keys.length<=15):PE X (.Dict keys values pos) (LY FO):=by
 intro pins s σ H Q I q;have hn:=I.bH.fresh (X7 s.heap.objs.size);have I1:=I.laid (a:=s.heap.objs.size) (o:=.dK []) (h':=s.heap.push { cls:=.type "dict",data:=.dict #[] }) (t':=s.toks) (λ_ _ q=>Yh _ q) (X7 _) (xO s.heap I.big);refine wpAny_Dict_walk (knd:=bA X.prog X.w) Kz hl h0 V8 (cT (h pins _ σ _ _ I1 (q _ hn)) λws s2 q9z=>?_);obtain ⟨ps,H2,I2,rel,e,kvs,ep,lk,q2⟩:=q9z;subst ep;obtain ⟨rs,c,rk⟩:=qG (P:=X.prog) (w:=X.w) rel;obtain ⟨z,hd,WT,r0,dd⟩:=A4 I2.bH e;cases r0
 refine ⟨rs,c,dd,λh' Bd hs=>⟨.ref s.heap.objs.size,_,?_,rfl,q2⟩⟩;have hz:(jG [] kvs).length<=sizeLine:=by
  have h1:=kG kvs [];rw [zac] at h1;rw [ZS];omega
 have he:∃ q,h'.get? s.heap.objs.size=some q:=let ⟨q,_,_,hq,_⟩:=Bd;⟨q,hq⟩
 exact l9 I2 (by rw [e];exact True.intro) hs he (EY hz hd (rk.merge .nil) Bd)
structure M1 (X:Cx) (o:Expr) (m:Str) (apos:Pos) (e:Expr) (iw:Pos):Prop where
 base:attributeBase o m X.env (eval o X.env)=eval o X.env
 IH:((backTo iw (starEach [e] X.env)).all (λx=>!x.1)&&(backToKw iw (keywordEach [] X.env)).all (λx=>x.1.isSome)
 &&decide (([e]:List Expr).length+([]:List Keyword).length+(if ([]:List Keyword).isEmpty then 0 else 1)<30))=true
 line:(apos.endLine==iw.line)=true
 trees:backTo iw (starEach [e] X.env)=[(false,eval e X.env)]
def NS (H:Hp) (a:Addr):Prop:=(∃ kvs,Rd H a (.dK kvs))\/∃ kvs,Rd H a (.dT kvs)
theorem EA {σ:St} {s:Shared} (I:Inv X pins σ H s) (d:NS H a) :
  s.TypeIs (.ref a) "dict"/\(∀ b,Value.ref a=.ref b->∃ ob,s.heap.get? b=some ob/\ob.dict=none)/\(a==sysModules)=false:=by
 rcases d with ⟨kvs,e⟩|⟨kvs,e⟩
 ·obtain ⟨_,hd,vs,_,dd⟩:=nH I.bH e;refine ⟨dd.typeIs,λb q=>?_,hd⟩;cases q
  obtain ⟨ob,_,_,h1,h2,_⟩:=dd;exact ⟨ob,h1,h2.2.1⟩
 ·obtain ⟨_,hd,xs,_,dd⟩:=qD I.bH e;refine ⟨dd.typeIs,λb q=>?_,hd⟩;cases q
  obtain ⟨ob,_,_,h1,h2,_⟩:=dd;exact ⟨ob,h1,h2.2.1⟩
section
variable {X:Cx} {pins:Wp} {σ:St} {H:Hp} {s:Shared} {a:Addr} {y d:V} {u r:Value} {o:Option V} {A:Around} {E:WF}
theorem KW (hu:A.units+1<cLine) (I:Inv X pins σ H s) (g:cP H a y o) (ry:RelV y u) (h:∀ w' s',Inv X pins σ H s'->RelV (o.getD .dO) w'->Q w' s') :
  wpAny (model X.prog X.w) A (call (.builtin "dict.get") [.ref a,u]) Q E s:=by
 rcases g with ⟨kvs,k,e,ey,l⟩|⟨kvs,k,b,e,ey,eb,l⟩
 ·subst ey;obtain ⟨z,hd,vs,rel,dd⟩:=nH I.bH e;refine call_meetsIn zbk dd.typeIs PySem.F.entry_dict_get (PySem.F.args_dict_get_2 _ _) (meets_dict_get (bA X.prog X.w) a (p5 ry) hd) ⟨_,dd.mapOf,h _ _ (I.tok _) ?_⟩;rw [l];exact (rel.val k).getD rfl
 ·subst ey;cases (show u=Value.ref b from ry)
  obtain ⟨z,hd,xs,rel,dd⟩:=qD I.bH e;refine call_meetsIn zbk dd.typeIs PySem.F.entry_dict_get (PySem.F.args_dict_get_2 _ _) (meetsH_dict_get (tupleKind (bA X.prog X.w)) a b hd) ⟨Z8 hu,k,xs,jM I.bH eb,dd,h _ _ (I.tok _) ?_⟩;rw [l];exact (rel.val k).getD rfl
end
def C7 (td ty:TE):TE:=λσ H Q=>td σ H λx H1=>∃ a,x=.ref a/\NS H1 a/\ty σ H1 λy H2=>∃ o,cP H2 a y o/\Q (o.getD .dO) H2
theorem DZ (hu:X.A.units+1<cLine) (ho:PE X o td) (he:PE X e ty) (m:M1 X o "get" apos e iw):PE X (.Call (.Attribute o "get" apos) [e] [] iw) (C7 td ty):=by
 intro pins s σ H Q I h;refine wpAny_Call_method m.base m.IH m.line PySem.F.plainAttrs_dict zbk PySem.F.type_dict_get (cT (ho pins s σ H _ I h) λu s1 q9z=>?_);obtain ⟨x,H1,I1,rx,a,ex,d,q1⟩:=q9z;subst ex;obtain rfl:u=Value.ref a:=rx;obtain ⟨t1,t2,_⟩:=EA I1 d;refine ⟨t1,t2,?_⟩;rw [m.trees];refine zav rfl (zbs (Zk (cT (he pins s1 σ H1 _ I1 q1) λiv s2 q9z=>Zn ?_)));obtain ⟨y,H2,I2,ry,ov,g,q2⟩:=q9z;exact KW hu I2 g ry λw' s3 I3 sg=>⟨_,H2,I3,sg,q2⟩
end L2
namespace TJ
open PySem PySem.W PySem.Calls PyProof.Rows
theorem nU:∀ (ns:UV) (vs:XV),WellAll P h vs (ns.map WData.int)->IntsAre vs ns:=by
 intro ns
 induction ns with
 | nil=>
  intro vs w;rw [map_nil] at w;cases w
  exact .nil
 | cons n ns ih=>
  intro vs w;rw [Y8] at w;cases w with
  | cons a b=>
   cases a
   exact .cons _ _ (ih _ b)
theorem BD {l:OpenLaw} {n:Nat} (hn:l.most=some n) {P:Params} {h:Heap}
  (GQ:l.row.toRowW.claim.pre args=true) (P2:WellAll P h vals args) :
  ∃ a vs ns,vals=[Value.ref a]/\args=[WData.list (ns.map WData.int)]/\h.get? a=some { cls:=.type "list",data:=.seq vs.toArray }/\IntsAre vs ns/\ns.length<=n:=by
 have Qb:WShape.hasAll [] args [.list .int]=true:=(pre_splitW GQ).1;have hc:l.pre.holds [] { args:=args }=true:=(pre_splitW GQ).2;obtain ⟨d,r,rfl,h1,h2⟩:=hasAllW_cons Qb;obtain rfl:=hasAllW_nil h2;obtain ⟨xs,rfl,h3⟩:=hasW_list h1;obtain ⟨ns,rfl⟩:=items_int h3;have hlen:ns.length<=n:=by
  unfold OpenLaw.pre at hc;have h4:(WTm.not (.lt (.lit (.int (n:Int))) (.len (.arg 0)))).holds [] { args:=[.list (ns.map .int)] }=true:=by
   have h4:=(holds_andW hc).1;rw [hn] at h4;exact h4
  have h5:=condW_of h4 (w_not (w_lt w_lit (w_len_list (w_arg rfl))));rw [Pd] at h5;refine Nat.le_of_not_lt λq=>?_;have q':(n:Int)<((ns.length:Nat):Int):=by omega
  first
   | (rw [YC q'] at h5;exact absurd h5 (by decide))
   | (simp at h5;omega)
 cases P2 with
 | cons w1 w2=>
  cases w2
  cases w1 with
  | list ho Kz=>exact ⟨_,_,ns,rfl,rfl,ho,nU ns _ Kz,hlen⟩
theorem BL (l:OpenLaw) (args:List WData):l.row.toRowW.claim.post args (.bool true) args=true:=
 postW_of (r:=l.row.toRowW) (X:=(true==true))
  (show WShape.has [] (.bool true) .bool=true by first|rfl|decide|simp [WShape.has,WShape.arms,WShape.armsAll])
  (show (WTm.eq .res (.lit (.bool true))).value [] { args:=args,res:=some (.bool true),after:=args }=some (.bool (true==true)) from w_eq_bool (w_res rfl) w_lit) rfl
theorem xW {l:OpenLaw} {n:Nat} {XP:(Str->Option Value)->Heap->Prop} {d:DefRec}
  (hn:l.most=some n) (M8:d.params.defaults=[])
  (call:∀ (w:World) (s₀ s₁:Shared) (mg mb:WP) (fa:Addr) (o:Obj) (pm cd doc:Value) (a:Addr) (vs:XV) (ns:UV),
   Ground q loose [] XP w s₀ mg mb s₁.heap->YP w s₁.heap->
   s₁.heap.get? fa=some o->o.data=.func (docDef d.name d.params d.body d.scope pm cd doc)->s₁.heap.CodeRec cd d.name->mg d.name=some (.ref fa)->
   s₁.heap.get? a=some { cls:=.type "list",data:=.seq vs.toArray }->IntsAre vs ns->ns.length<=n->s₁.gens=#[]->
   codeAny (model l.prog w) callerA (.call (.ref fa) ⟨[.ref a],[]⟩) (λr s'=>r=.ok (.ret (.bool true))/\OldK s₁.heap s'.heap/\s'.os=s₁.os/\AllBare s'.gens) s₁) :
  WalkO q loose XP YP l.row.toRowW d [] (λf vs=>PySem.call f vs):=by
 intro w s₀ s₁ mg mb G Y fa o pm cd doc dV kV ho hd B8 hD MZ hg args vals as GQ VD XC P2 XG;obtain rfl:dV=.none:=Dflts.none hD M8;obtain rfl:kV=.none:=Dflts.noKw hD;obtain ⟨a,vs,ns,rfl,rfl,Kn,hints,hlen⟩:=BD hn GQ P2;refine enter_call (codeAny_mono (call w s₀ s₁ mg mb fa o pm cd doc a vs ns G Y ho (fd_plain hd) B8 MZ Kn hints hlen hg) λr s' hq=>?_);obtain ⟨rfl,h2,h3,h4⟩:=hq;exact ⟨.inl ⟨.bool true,.bool true,[],rfl,λ_=>rfl,.bool true,BL l _,λ_=>⟨List.Pairwise.nil,λ_ hm=>(nomatch hm)⟩⟩,h2,h3,h4⟩
end TJ
namespace L2
open PySem PySem.Spec PyProof.Rows
theorem mC:∀ {vs:XV} {ns:UV},IntsAre vs ns->Vals (ns.map V.int) vs
 | _,_,.nil=>.nil
 | _,_,.cons n t h=>.cons ⟨t,rfl⟩ (mC h)
def K6 (H:Hp):Prop:=∀ b,H b=none\/∃ o xs,H b=some (.fN o (.lst xs))
theorem Ex {P:Program} {w:World} {K:ZB} {mg mb:WP} {CX:CA} {k:Nat} {fa a:Addr} {fd:FuncData} {x:Str} {sp:Sp} {s₁:Shared} {vs:XV} {ns:UV}
  (KX:K.In s₁.heap) (zd:s₁.heap.Ns mainGlobals mg) (hb:s₁.heap.Ns builtinsNs mb) (VZ:∀ x:Str,x≠ "__name__"->mb x=bootBuiltins x) (Qp:s₁.heap.NoLimit) (hg:s₁.gens=#[])
  (ha:s₁.heap.get? a=some { cls:=.type "list",data:=.seq vs.toArray }) (hi:IntsAre vs ns) (hl:ns.length<=sizeLine) (hr:gD k callerA)
  (F:∀ base:Heap,K.In base->base.Ns mainGlobals mg->rO P w K mg base CX k fa fd [x] sp) (Nb:∀ (s:Shared) (u:Value),BindsTo s fd ⟨[u],[]⟩ [(x,u)])
  (yg:∀ H:Hp,K6 H->aN K H a (ns.map V.int)->sp [.ref a] H (λv _=>v=.bl true) λ_ _ _=>False)
  (QJ:∀ H e s',CX [] H s₁ (λ_ _ _=>False) e s'->False) :
  codeAny (model P w) callerA (.call (.ref fa) ⟨[.ref a],[]⟩) (λr s'=>r=.ok (.ret (.bool true))/\OldK s₁.heap s'.heap/\s'.os=s₁.os/\AllBare s'.gens) s₁:=by
 have rv:=mC hi;have PJ:=hi.length
 -- from an abstract heap in RC nothing but mE Dk may be tracked
 have core:∀ H:Hp,K6 H->aN K H a (ns.map V.int)->kh P w H s₁.heap->(∀ b,H b≠none->b=a)->(H a≠none->K.lookup a=none)->
   codeAny (model P w) callerA (.call (.ref fa) ⟨[.ref a],[]⟩) (λr s'=>r=.ok (.ret (.bool true))/\OldK s₁.heap s'.heap/\s'.os=s₁.os/\AllBare s'.gens) s₁:=by
  intro H hO hS bH hA hK;have Bm:∀ {b:Addr} {o:Obj},s₁.heap.get? b=some o->H b=none->(uV s₁.heap H).get? b=some o:=λe n=>EI e n;have Mr:∀ {b:Addr} {o:Obj} {es:Array DictEntry} {ep:Nat},s₁.heap.get? b=some o->o.data=.dict es ep->H b=none:=λ{b o es ep} e d=>by
   cases q:H b with
   | none=>rfl
   | some u=>
    have e':b=a:=hA b (by rw [q];simp);subst e';rw [ha] at e;cases e;have d':Data.seq vs.toArray _=Data.dict es ep:=d;cases d'
  have Ob:∀ {b:Addr} {m:WP},s₁.heap.Ns b m->(uV s₁.heap H).Ns b m:=λ{b m} ⟨o,es,ep,e,d,r⟩=>⟨o,es,ep,Bm e (Mr e d),d,r⟩;have S9:K.In (uV s₁.heap H):=λb o e=>Bm (KX b o e) (by
   cases q:H b with
   | none=>rfl
   | some u=>
    have e':b=a:=hA b (by rw [q];simp);subst e';rw [hK (by rw [q];simp)] at e;cases e)
  have hM:Mod K mg (uV s₁.heap H):=⟨S9,Ob zd,⟨mb,Ob hb,VZ⟩,let ⟨mc,h1,h2⟩:=Qp;⟨mc,Ob h1,h2⟩⟩;have e0:HC P w K mg (uV s₁.heap H) callerA [] s₁ H:=⟨rfl,hM,λb o e=>Gz e,Nat.le_of_eq (B3 _ _),trivial,λb hb=>absurd (show b∈([]:XL) from hb) (by simp),bH,.of_eq hg⟩;refine codeAny_mono ((F _ S9 (Ob zd)).run callerA [] s₁ H ⟨[.ref a],[]⟩ [.ref a] [.ref a] _ _ hr e0 (Nb s₁ (.ref a)) (.cons rfl .nil) (yg H hO hS)) λr s' h=>?_;cases r with
  | error e=>exact (QJ H e s' h).elim
  | ok fl=>
   cases fl with
   | next=>exact False.elim h
   | brk=>exact False.elim h
   | cont=>exact False.elim h
   | ret u=>
    obtain ⟨v,H',os,bare,un,Qj,r',q⟩:=h;have q':v=.bl true:=q;subst q';obtain rfl:u=Value.bool true:=r';refine ⟨rfl,OldK.of_keep λb o e=>?_,os,bare⟩;cases q:H b with
    | none=>exact un.keep b o e q (by intro z;exact absurd (show b∈([]:XL) from z) (by simp)) (by simp)
    | some u=>
     rcases hO b with z|⟨ob,xs,z⟩
     ·rw [q] at z;cases z
     ·have z2:=un.rB b ob _ z;obtain ⟨e1,_⟩:=bH b _ z;obtain ⟨e2,_⟩:=Qj b _ z2;rw [e] at e1;cases e1;exact e2
 cases hk:K.lookup a with
 | some o=>
  -- mE Dk is one of mE module's own objects
  have e:=KX a o hk;rw [ha] at e;cases e
  refine core (λ_=>none) (λ_=>.inl rfl) (.inr ⟨_,vs.toArray,_,hk,rfl,rfl,rfl,by rw [YE,PJ];exact hl,by simpa using rv⟩) (λb u z=>by have z':(none:Option HO)=some u:=z;cases z') (λb z=>absurd rfl z) λz=>absurd rfl z
 | none=>
  refine core (λb=>if b=a then some (.fN { cls:=.type "list",data:=.seq vs.toArray } (.lst (ns.map V.int))) else none) (λb=>?_) (.inl (.inr ⟨{ cls:=.type "list",data:=.seq vs.toArray },Ya rfl⟩)) (λb u z=>?_) (λb z=>?_) λ_=>hk
  ·by_cases hb:b=a
   ·exact .inr ⟨_,_,Ya hb⟩
   ·exact .inl (X6 hb)
  ·by_cases hb:b=a
   ·have z':=(Ya hb).symm.trans z;cases z'
    subst hb;exact ⟨ha,by rw [Pd];exact hl,vs,_,rv,ha⟩
   ·have z':=(X6 hb).symm.trans z;cases z'
  ·by_cases hb:b=a
   ·exact hb
   ·exact absurd (X6 hb) z
theorem FK {l:PySem.W.OpenLaw} {n k:Nat} {q:Program} {loose:List Str} {XP:(Str->Option Value)->Heap->Prop} {YP:World->Heap->Prop} {d:DefRec} {K:Params->ZB} {CX:World->CA} {sp:World->Sp} {x:Str}
  (hn:l.most=some n) (VA:n<=sizeLine) (M8:d.params.defaults=[]) (hr:gD k callerA)
  (hY:∀ (w:World) (h:Heap),YP w h->(K w.params).In h)
  (F:∀ (w:World) (mg:WP) (fa:Addr) (h:Heap),(K w.params).In h->h.Ns mainGlobals mg->mg d.name=some (.ref fa)->
   ∃ fd:FuncData,(∀ (s:Shared) (u:Value),BindsTo s fd ⟨[u],[]⟩ [(x,u)])/\
    ∀ base:Heap,(K w.params).In base->base.Ns mainGlobals mg->rO l.prog w (K w.params) mg base (CX w) k fa fd [x] (sp w))
  (yg:∀ (w:World) (H:Hp) (a:Addr) (ns:UV),ns.length<=n->K6 H->aN (K w.params) H a (ns.map V.int)->sp w [.ref a] H (λv _=>v=.bl true) λ_ _ _=>False)
  (QJ:∀ (w:World) (H:Hp) (s:Shared) (e:Value) (s':Shared),CX w [] H s (λ_ _ _=>False) e s'->False) :
  PySem.W.WalkO q loose XP YP l.row.toRowW d [] (λf vs=>PySem.call f vs):=by
 refine TJ.xW hn M8 λw s₀ s₁ mg mb fa o pm cd doc a vs ns G Y ho hd B8 MZ Kn hints hlen hg=>?_;have KX:=hY w _ Y;obtain ⟨fd,hb,hF⟩:=F w mg fa _ KX G.T.g MZ;exact Ex KX G.T.g G.T.b G.T.builtins G.T.nolimit hg Kn hints (Y2 hlen VA) hr hF hb (λH hO hS=>yg w H a ns hlen hO hS) λH e s'=>QJ w H s₁ e s'
def fW (s:Stmt):Arguments:=match s with
 | .FunctionDef _ a _ _ _ _ _ _ _ _=>a
 | _=>{ posonlyargs:=[],args:=[],vararg:=none,kwonlyargs:=[],kw_defaults:=[],kwarg:=none,defaults:=[] }
def eN (s:Stmt):List Stmt:=match s with
 | .FunctionDef _ _ b _ _ _ _ _ _ _=>b
 | _=>[]
def aG (s:Stmt):Scope:=match s with
 | .FunctionDef _ _ _ _ _ _ sc _ _ _=>sc
 | _=>{ kind:=.function,names:=[],isGenerator:=false,isCoroutine:=false }
abbrev E0:XK:=λ_ _ _=>False
structure Ld (K:ZB) (x qual:Str) (st:Stmt) (f:Addr) (fd:FuncData):Prop where
 ex:∃ (oc:Value) (od:Option Addr) (kV doc pm:Value) (an:Option Addr) (dW ct:Value) (Gu:Array (Option Value)),
  fd=PySem.W.fnOf x qual (fW st) (eN st) (aG st) .none kV doc pm an dW ct/\K.lookup f=some ⟨oc,od,.func fd,Gu⟩/\PySem.W.codeIn K dW qual=true
 kp:PySem.W.keepIn K (.ref f)=true
section
variable {P:Program} {w:World} {K:ZB} {mg:WP} {base:Heap}
theorem Ld.binds {x qual:Str} {st:Stmt} {fd:FuncData} (F:Ld K x qual st f fd)
  (h:∀ (kV doc pm:Value) (an:Option Addr) (dW ct:Value) (us:XV),us.length=ps.length->bindArgs (PySem.W.fnOf x qual (fW st) (eN st) (aG st) .none kV doc pm an dW ct) ⟨us,[]⟩=pure (ps.zip us)):Binds K fd ps []:=by
 obtain ⟨oc,od,kV,doc,pm,an,dW,ct,Gu,rfl,lk,B8⟩:=F.ex;exact .all (h kV doc pm an dW ct)
def zf {x qual:Str} {st:Stmt} {f:Addr} {oc:Value} {od an:Option Addr} {Gu:Array (Option Value)} {kV doc pm dW ct:Value} (l:K.lookup f=some ⟨oc,od,.func (PySem.W.fnOf x qual (fW st) (eN st) (aG st) .none kV doc pm an dW ct),Gu⟩)
  (c:PySem.W.codeIn K dW qual=true) (k:PySem.W.keepIn K (.ref f)=true):Ld K x qual st f (PySem.W.fnOf x qual (fW st) (eN st) (aG st) .none kV doc pm an dW ct):=⟨⟨oc,od,kV,doc,pm,an,dW,ct,Gu,rfl,l,c⟩,k⟩
end
theorem bB (hr:gD k A):A.units+1<cLine:=Nat.lt_of_le_of_lt (Nat.add_le_add_left (by decide:1<=64) _) hr.units
section
variable {X:Cx}
theorem pv (i:Nat) {x:Str} {pos:Pos} (hN:X.N[i]?=some x:=by rfl) (hv:OM X.env.scope x:=by first|exact Or.inl rfl|exact Or.inr (Or.inl rfl) | exact Or.inr (Or.inr rfl)) (hd:(x==("__debug__":Str))=false:=by decide)
  (B8:(x==("__classdict__":Str))=false:=by decide):PE X (.Name x pos) (fI i):=JF hN hv hd B8
theorem Cq:fG X (.builtin "len") (λxs H Q=>∃ a kvs,xs=[V.ref a]/\H a=some (.dK kvs)/\Q (.int kvs.length) H):=by
 intro pins s σ H xs us Q I r h;obtain ⟨a,kvs,rfl,ha,q⟩:=h;obtain ⟨u,rfl,ru⟩:=vals1 r;cases ru
 exact Nz I (.inl ha) λt s' I'=>⟨.int kvs.length,H,I',⟨t,rfl⟩,q⟩
end
theorem GK {A B:Prop} (h:B):if false=true then A else B:=by
 rw [X6 Yo];exact h
theorem GJ {A B:Prop} (h:A):if true=true then A else B:=by
 rw [Ya rfl];exact h
def ah (H H':Hp):Prop:=∀ b o,H b=some o->H' b=some o
def ah.trans (a:ah H H1) (b:ah H1 H2):ah H H2:=λc o h=>b c o (a c o h)
theorem ah.free (e:ah H H') (h:H' l=Option.none):H l=Option.none:=by
 cases q:H l with
 | none=>rfl
 | some o=>
  rw [e l o q] at h;cases h
theorem ah.seq {K:ZB} {H H':Hp} {a:Addr} {xs:List V} (e:ah H H') (h:aN K H a xs):aN K H' a xs:=by
 rcases h with (h|⟨o,h⟩) | h
 ·exact .inl (.inl (e _ _ h))
 ·exact .inl (.inr ⟨o,e _ _ h⟩)
 ·exact .inr h
end L2

namespace L2
open PySem PySem.Spec PyProof.Rows
def Sz (n:Nat) (x:Int):Prop:=x.natAbs<2 ^ n
theorem Sz.mono (h:Sz m x) (Qn:m<=n):Sz n x:=YJ h (Nat.pow_le_pow_right (by decide) Qn)
def uA:nO X (binaryOp .Mult) (rI IntMulOk λi j=>.int (i*j)):=N9 λ_ _ _ _ _ _ _ hc q=>mul_int q hc
def Rt (_ j:Int):Prop:=j≠0/\Sz 9000 j
theorem Rt.np (h:Rt i j):Builtin.divisionGoesByPylong i j=false:=by
 refine PyProof.noPylong_of_log2 ?_;have h0:j.natAbs≠0:=λe=>h.1 (Int.natAbs_eq_zero.mp e);exact (Nat.log2_lt h0).mpr h.2
def Rr (_ j:Int):Prop:=0<j/\Sz 9000 j
theorem kW:nO X (binaryOp .FloorDiv) (rI Rr λi j=>.int (i / j)):=N9 λi j _ _ _ _ _ hc q=>by
 have h1:(0:Int)<j:=hc.1;exact floordiv_int (by omega) (by rw [Int.fdiv_eq_ediv_of_nonneg i (Ty ‹_›)];exact q) (.inl (Rt.np ⟨by omega,hc.2⟩))
structure dA (P:Program) (w:World) (K:ZB) (mg:WP) (base:Heap) (CX:CA) (x:Str) (k:Nat) (ps:List Str) (sp:Sp):Prop where
 ex:∃ f fd,rO P w K mg base CX k f fd ps sp/\mg x=some (.ref f)/\PySem.W.keepIn K (.ref f)=true/\Binds K fd ps []
section
variable {X:Cx} {CX:CA} {k j:Nat} {ps:List Str} {sp:Sp} {E:XK} {x:Str} {p pos:Pos} {e:Expr} {es:List Expr} {t:TA}
theorem aI (h:dA X.prog X.w X.K X.mg X.base CX x k ps sp) (hr:gD j X.A) (hx:Passes CX X E) (ha:PA X (e::es) t) (hk:k<=j:=by decide) (hg:Gl X x:=by rfl) (GV:(x==("__debug__":Str))=false:=by decide)
  (he:starEach (e::es) X.env=(false,eval e X.env)::starEach es X.env:=by rfl) (CJ:(backTo pos (starEach es X.env)).any (·.1)=false:=by rfl) :
  PE X (.Call (.Name x p) (e::es) [] pos) (C8 sp [] E t):=by
 obtain ⟨f,fd,F,hm,IB,hb⟩:=h.ex;exact Gr F (hr.mono hk) hg hm IB hb .nil hx ha GV he CJ
end
inductive HD:V->Value->Prop where
 | ty (n:String):HD (.ty n) (.type n)
 | ref (a:Addr):HD (.ref a) (.ref a)
def Ig (K:ZB):List V->Hp->VK->Prop:=λxs H Q=>∃ x c t u b,xs=[x,c]/\mf K H x t/\HD c u/\PySem.W.kitOne K t u=some b/\Q (.bl b) H
theorem ni:fG X (.builtin "isinstance") (Ig X.K):=by
 intro pins s σ H xs us Q I r h;obtain ⟨x,c,t,u,b,rfl,ty,rc,e,q⟩:=h;obtain ⟨u1,u2,rfl,r1,r2⟩:=vals2 r;have e2:u2=u:=by
  cases rc<;>(cases r2;rfl)
 subst e2;exact BY I r1 ty e λtk=>⟨.bl b,H,I.tok _,rfl,q⟩
section
variable {X:Cx} {pins:Wp} {σ:St} {H:Hp} {s:Shared} {h':Heap}
theorem Inv.jY {t':Nat} {ch:XL} {a:Addr} {o:HO} (I:Inv X pins σ H s) (k:∀ b u,b∉ch->s.heap.get? b=some u->h'.get? b=some u) (hf:∀ b∈ch,n9 X pins H b) (hp:s.heap.objs.size<=a)
  (new:bC X.prog X.w (upd H a o) h' a o):Inv X pins σ (upd H a o) { s with heap:=h',toks:=t' }:=by
 have hn:=I.bH.fresh hp;have AE:∀ b u,H b=some u->b∉ch:=λb u e z=>by rw [(hf b z).1] at e;cases e
 refine I.step (g':=s.gens) (d':=s.drawn) (ch:=ch) (λb hb=>?_) (λb o _ _ hc e _=>k b o hc e) (λb o _ _ hc e _=>⟨o.slots,k b o hc e⟩) (λb u _ e n=>?_) (λb o hc e=>⟨o,k b o hc e⟩)
  (λb xs e=>by rw [ak (aP e hn)];exact e) (λb u v e=>by rw [ak (aP e hn)];exact e) (λb ps e=>⟨#[],by rw [ak (aP e hn),e];simp⟩) (λm hm=>?_) (λb u e=>?_) I.bare
 ·obtain ⟨f0,f1,f2,f3,f4,f5⟩:=hf b hb;exact ⟨f3,f1,f4,f5⟩
 ·rw [ak (YR (YJ (Yi e) hp))];exact n
 ·obtain ⟨o,es,ep,ho,r⟩:=hm;exact ⟨o,es,ep,k _ o (λz=>(hf _ z).2.1 rfl) ho,r⟩
 ·by_cases hb:b=a
  ·subst hb;rw [ae] at e;cases e;exact new
  ·rw [ak hb] at e;refine (I.bH b u e).jq (λc v hc q=>k c v ?_ q) (λc q=>by rw [ak (aP q hn)];exact q) λc xs q=>by rw [ak (aP q hn)];exact q
   rcases hc with z|z
   ·rw [z];exact AE b u e
   ·exact AE c _ z
theorem Inv.FL {t':Nat} {ch:XL} (I:Inv X pins σ H s) (k:∀ b u,b∉ch->s.heap.get? b=some u->h'.get? b=some u) (hf:∀ b∈ch,n9 X pins H b):Inv X pins σ H { s with heap:=h',toks:=t' }:=by
 have AE:∀ b u,H b=some u->b∉ch:=λb u e z=>by rw [(hf b z).1] at e;cases e
 refine I.step (g':=s.gens) (d':=s.drawn) (ch:=ch) (λb hb=>?_) (λb o _ _ hc e _=>k b o hc e) (λb o _ _ hc e _=>⟨o.slots,k b o hc e⟩) (λb u _ e n=>n) (λb o hc e=>⟨o,k b o hc e⟩)
  (λb xs e=>e) (λb u v e=>e) (λb ps e=>⟨#[],by rw [e];simp⟩) (λm hm=>?_) (λb u e=>?_) I.bare
 ·obtain ⟨f0,f1,f2,f3,f4,f5⟩:=hf b hb;exact ⟨f3,f1,f4,f5⟩
 ·obtain ⟨o,es,ep,ho,r⟩:=hm;exact ⟨o,es,ep,k _ o (λz=>(hf _ z).2.1 rfl) ho,r⟩
 ·refine (I.bH b u e).jq (λc v hc q=>k c v ?_ q) (λc q=>q) λc xs q=>q;rcases hc with z|z
  ·rw [z];exact AE b u e
  ·exact AE c _ z
end
def NR (K:ZB) (a:Addr):It:=
 ⟨λi H=>∃ xs x,aN K H a xs/\xs[i]?=some x,
  λi H x H'=>∃ p y,H p=none/\x=.ref p/\(∀ xs,aN K H a xs->xs[i]?=some y)/\H'=upd H p (.tup [.int i,y]),
  λi H=>∃ xs,aN K H a xs/\xs.length<=i⟩
theorem Bz {P:Program} {w:World} {K:ZB} {elts:List Expr} {kx:Nat} {px:Pos} (a e it:Addr) (sN:e≠it) :
  Turn P w K (.Tuple elts kx px) (NR K a) [e,it] e (λi h=>(∃ old,IsEnum h e it (i:Nat) old)/\h.IsListIter it a i) where
 mem:=by simp
 obj:=λi h st b hb=>by
  obtain ⟨⟨old,he⟩,hit⟩:=st;rcases Yk.mp hb with rfl|hb
  ·exact ⟨_,he,λv z=>by cases z⟩
  ·obtain rfl:b=it:=by simpa using hb
   obtain ⟨o,e1,c,d⟩:=hit;exact ⟨o,e1,λv z=>by rw [d] at z;cases z⟩
 keep:=λi h h' st k=>by
  obtain ⟨⟨old,he⟩,hit⟩:=st;exact ⟨⟨old,k e (by simp) _ he⟩,hit.at λo q=>k it (by simp) o q⟩
 item:=by
  intro X hP hw hK hc i pins s σ H E I hf st hg;subst hP hw hK;obtain ⟨⟨old,he⟩,hit⟩:=st;obtain ⟨xs,x,hq,hx⟩:=hg;obtain ⟨aY,rv,p,hz⟩:=I.list hq;obtain ⟨u,hu,ru⟩:=rv.get hx;have M7:e<s.heap.objs.size:=Yi he;have Qv:it<s.heap.objs.size:=by obtain ⟨_,q,_⟩:=id hit;exact Yi q
  refine wpAny_pyNext_enum_item he hit p.isList (x:=u) (by simpa using hu) sN λh' ho Qu hT hsz hk=>⟨_,rfl,?_⟩;refine wpAny_letOwnedTupleGo_enum ho λh2 B6 AR=>?_;replace AR:Heap.SameBut e h' h2:=AR;have hn:H s.heap.objs.size=none:=I.bH.fresh (X7 _);have kk:∀ b o,b∉[e,it]->s.heap.get? b=some o->h2.get? b=some o:=λb o hb q=>(AR.2 b λz=>hb (by simp [z])).trans (hk b o (λz=>hb (by simp [z])) (λz=>hb (by simp [z])) q);have V4:h2.get? s.heap.objs.size=some { cls:=.type "tuple",data:=.seq #[.int i s.toks,u] }:=(AR.2 _ (Zq M7)).trans hT;refine ⟨.ref s.heap.objs.size,upd H s.heap.objs.size (.tup [.int i,x]),Inv.jY (s:=s) (h':=h2) (t':=s.toks+1) I kk hf (X7 _) ⟨by simp only [YV,zac];rw [ZS];decide,[.int i s.toks,u],.cons ⟨_,rfl⟩ (.cons ru .nil),⟨_,V4,rfl,_,rfl⟩⟩,rfl,
   ⟨_,x,hn,rfl,λys hy=>by rw [I.wX hy hq];exact hx,rfl⟩,⟨⟨_,B6⟩,Qu.at λo q=>(AR.2 it (YU sN)).trans q⟩,λb hb=>?_⟩
  rw [ak ?_]
  ·exact (hf b hb).1
  ·rcases Yk.mp hb with rfl|hb
   ·exact YR M7
   ·obtain rfl:b=it:=by simpa using hb
    exact YR Qv
 done:=by
  intro X hP hw hK hc i pins s σ H E I hf st hg;subst hP hw hK;obtain ⟨⟨old,he⟩,hit⟩:=st;obtain ⟨xs,hq,hx⟩:=hg;obtain ⟨aY,rv,p,hz⟩:=I.list hq;have hl:=rv.length;exact wpAny_pyNext_enum_end (I.ok.hd hc) he hit p.isList (by simp;omega) λh' eb=>⟨rfl,Inv.FL (t':=s.toks) (ch:=[e,it]) I (λb o hb q=>eb b o (λz=>hb (by simp [z])) q) hf⟩
 self:=λ_ _ _ _ _ st h=>by
  obtain ⟨⟨old,he⟩,hit⟩:=st;exact wpAny_pyIter_enum he h
def MM (K:ZB) (ta:TA):TI:=λσ H R=>ta σ H λvs H1=>∃ a,vs=[.ref a]/\(∃ xs,aN K H1 a xs)/\R (NR K a) H1
theorem oo {X:Cx} {l:Expr} {ta:TA} {p pos:Pos} {elts:List Expr} {kx:Nat} {px:Pos} (hm:X.mg "enumerate"=none) (ha:PA X [l] ta) (hg:Gl X "enumerate":=by rfl) (hs:starEach [l] X.env=[(false,eval l X.env)]:=by rfl) :
  PI X (.Tuple elts kx px) (.Call (.Name "enumerate" p) [l] [] pos) (MM X.K ta):=by
 intro pins s σ H R I h;refine Call_ (dJ I hg hm boot_enumerate (YG (cT (ha pos pins s σ H _ I h) λus s1 ⟨vs,H1,I1,r1,q1⟩=>?_) hs rfl));obtain ⟨a,rfl,⟨xs,hq⟩,q⟩:=q1;obtain ⟨u,rfl,ru⟩:=vals1 r1;cases ru
 obtain ⟨aY,rv,pl,hz⟩:=I1.list hq;refine call_enumerate_list pl.isList λh' he hit hsz hk=>?_;refine wpAny_pyIter_enum he ?_;have I2:Inv X pins σ H1 { s1 with heap:=h' }:=I1.kept (t':=s1.toks) λb o e=>hk b o e;refine ⟨_,[s1.heap.objs.size+1,s1.heap.objs.size],_,_,H1,rfl,I2,Bz a _ _ (Nat.succ_ne_self _),⟨⟨_,he⟩,hit⟩,λb hb=>?_,q⟩;rcases Yk.mp hb with rfl|hb
 ·exact I1.rC (zaW _) (I1.bH.fresh (zaW _))
 ·obtain rfl:b=s1.heap.objs.size:=by simpa using hb
  exact I1.rC (X7 _) (I1.bH.fresh (X7 _))
theorem l8 {K:ZB} {a:Addr} {xs:List V} {g:TG} {tb:TS} {D:Ends} {σ:St} {H:Hp} (Pv:Nat->St->Hp->Prop) (h0:Pv 0 σ H) (hl:∀ i σ H,i<=xs.length->Pv i σ H->aN K H a xs)
  (hs:∀ i x p σ H,xs[i]?=some x->Pv i σ H->H p=none->g (.ref p) σ (upd H p (.tup [.int i,x])) λσ2 H2=>tb { D with nx:=Pv (i+1),ct:=Pv (i+1),bk:=D.nx } σ2 H2) (hd:∀ σ H,Pv xs.length σ H->D.nx σ H) :
  ∃ W:Nat->Nat->St->Hp->Prop,(∃ m,W 0 m σ H)/\∀ i m σ H,W i m σ H->
   ((NR K a).stop i H/\D.nx σ H)\/((NR K a).go i H/\∃ N:St->Hp->Prop,(∀ σ' H',N σ' H'->∃ m',m'<m/\W (i+1) m' σ' H')/\∀ x H',(NR K a).vo i H x H'->g x σ H' λσ2 H2=>tb { D with nx:=N,ct:=N,bk:=D.nx } σ2 H2):=by
 refine ⟨λi m σ H=>m=xs.length-i/\i<=xs.length/\Pv i σ H,⟨xs.length,by simp,YK _,h0⟩,?_⟩;rintro i m σ H ⟨rfl,hi,p⟩;have q:=hl i σ H hi p;by_cases eK:i<xs.length
 ·refine .inr ⟨⟨xs,xs[i],q,by simp [eK]⟩,Pv (i+1),λσ' H' p'=>⟨xs.length-(i+1),by omega,rfl,eK,p'⟩,λx H' y=>?_⟩;obtain ⟨r,y,hr,rfl,hy,rfl⟩:=y;exact hs i y r σ H (hy xs q) p hr
 ·have e:i=xs.length:=by omega
  subst e;exact .inl ⟨⟨xs,q,X7 _⟩,hd σ H p⟩
def SC (h:σ[i]?=some (some v)) (q:Q v H):fI i σ H Q:=⟨v,h,q⟩
def r_c (q:Q v H):tC v σ H Q:=q
def ST (h:ta σ H λx H1=>tb σ H1 λy H2=>r x y H2 Q):C4 r ta tb σ H Q:=h
def F4 (h:ta σ H λx H1=>r x H1 Q):O0 r ta σ H Q:=h
def hW (q:Q (g i j) H):Ft g (.int i) (.int j) H Q:=⟨i,j,rfl,rfl,q⟩
def DB (c:C i j) (q:Q (g i j) H):rI C g (.int i) (.int j) H Q:=⟨i,j,rfl,rfl,c,q⟩
def F7 (q:Q (g i) H):rU g (.int i) H Q:=⟨i,rfl,q⟩
theorem DG (q:Q (.bl (decide (i=j))) H):Pe (.int i) (.int j) H Q:=⟨rfl,by rw [oz,Bool.beq_eq_decide_eq];exact q⟩
theorem HW (q:Q (.bl (!decide (i=j))) H):R1 (.int i) (.int j) H Q:=⟨rfl,by rw [oz,Bool.beq_eq_decide_eq];exact q⟩
def SZ (h:t { D with nx:=u D } σ H):Jd t u D σ H:=h
def DE (h:D.nx σ H):HL D σ H:=h
def TW (h:te σ H λx H1=>g x σ H1 D.nx):C9 te g D σ H:=h
def SL (h:R (σ.set i (some v)) H):jQ i v σ H R:=h
def nD (h:te σ H D.rt):Je te D σ H:=h
def DA (h:D.rt .dO H):HI D σ H:=h
def pf (h:te σ H λ_ H1=>D.nx σ H1):HM te D σ H:=h
def HZ (h:c σ H λb H1=>if b=true then t D σ H1 else u D σ H1):LW c t u D σ H:=h
def oY (h:t σ H λx H'=>∃ k,x=.bl k/\R k H'):C3 t σ H R:=h
def RZ (h:t σ H λx H'=>∃ k,x=.bl k/\R k H'):tB t σ H R:=h
def Me {k:Bool} {R:Bool->Prop} (h:R k):∃ k',V.bl k=.bl k'/\R k':=⟨k,rfl,h⟩
def HV (h:t σ H λc H1=>R (!c) H1):LV t σ H R:=h
def Ib (h:t σ H λc H1=>if c=true then u σ H1 R else R false H1):L1 t u σ H R:=h
def Jw (h:t σ H λc H1=>if c=true then R true H1 else u σ H1 R):RH t u σ H R:=h
def DM (h:ta σ H λx H1=>∃ c,x=.bl c/\if c=true then tb σ H1 Q else Q (.bl false) H1):HN ta tb σ H Q:=h
def DC (h:ta σ H λx H1=>∃ c,x=.bl c/\Q (.bl (!c)) H1):HJ ta σ H Q:=h
def bc (h:R [] H):yt σ H R:=h
def aJ (h:ta σ H λx H1=>tr σ H1 λxs H2=>R (x::xs) H2):kz ta tr σ H R:=h
def mP (h:t σ H λvs H1=>sp (vs++[]) H1 Q E):C8 sp [] E t σ H Q:=h
def jd (h:t σ H λvs H1=>r vs H1 Q):NZ r t σ H Q:=h
def oW (h:t σ H λxs H1=>xs.length<=sizeLine/\∀ p,H1 p=none->Q (.ref p) (upd H1 p (.tup xs))):Jc t σ H Q:=h
def su (h:t σ H λxs H1=>xs.length<=sizeLine/\∀ p,H1 p=none->Q (.ref p) (upd H1 p (.lst xs))):FQ t σ H Q:=h
def cJ (h:wi σ H λJ H1=>∃ W:Nat->Nat->St->Hp->Prop,(∃ m,W 0 m σ H1)/\∀ i m σ H,W i m σ H->
 (J.stop i H/\D.nx σ H)\/(J.go i H/\∃ N:St->Hp->Prop,(∀ σ' H',N σ' H'->∃ m',m'<m/\W (i+1) m' σ' H')/\∀ x H',J.vo i H x H'->g x σ H' λσ2 H2=>tb { D with nx:=N,ct:=N,bk:=D.nx } σ2 H2)):LX wi g tb D σ H:=h
def GN {A B:Prop} (h:A):if true=true then A else B:=GJ h
def Ol {A B:Prop} (h:B):if false=true then A else B:=GK h
theorem if2 {c A B:Prop} [Decidable c] (h1:c->A) (h2:¬c->B):if decide c=true then A else B:=by
 by_cases h:c
 ·rw [YC h];exact GJ (h1 h)
 ·rw [Yw h];exact GK (h2 h)
theorem iW {c A B:Prop} [Decidable c] (h1:¬c->A) (h2:c->B):if (!decide c)=true then A else B:=by
 by_cases h:c
 ·rw [YC h];exact GK (h2 h)
 ·rw [Yw h];exact GJ (h1 h)
theorem aV:bootBuiltins "len"=some (.builtin "len"):=by decide +kernel
theorem gW:bootBuiltins "isinstance"=some (.builtin "isinstance"):=by decide +kernel
theorem K3:bootBuiltins "int"=some (.type "int"):=by decide +kernel
theorem Hh:bootBuiltins "bool"=some (.type "bool"):=by decide +kernel
theorem Bj:bootBuiltins "list"=some (.type "list"):=by decide +kernel
structure Def (K:ZB) (mg:WP) (x:Str) (st:Stmt) (ps:List Str):Prop where
 ex:∃ f fd,Ld K x x st f fd/\mg x=some (.ref f)/\Binds K fd ps []
theorem ah.upd (h:H p=none):ah H (upd H p o):=λb u e=>by rw [ak (aP e h)];exact e
section
variable {σ:St} {H:Hp} {Q:VK} {K:ZB}
def DF (h:SqT K H p xs) (hi:mq xs i=some v) (q:Q v H):Jz K (.ref p) (.int i) H Q:=⟨p,xs,i,v,rfl,rfl,h,hi,q⟩
def bg (h:aN K H p xs) (hi:mq xs i=some v) (q:Q v H):Gd K (.ref p) (.int i) H Q:=⟨p,xs,i,v,rfl,rfl,h,hi,q⟩
def yF (ty:mf K H x t) (hc:HD c u) (e:PySem.W.kitOne K t u=some b) (q:Q (.bl b) H):Ig K [x,c] H Q:=⟨x,c,t,u,b,rfl,ty,hc,e,q⟩
def iK (h:SqT K H a xs) (hl:xs.length=n) (q:t xs σ H R):G3 K n t (.ref a) σ H R:=⟨a,xs,rfl,h,hl,q⟩
def gH (q:t v σ H λσ' H'=>u vs σ' H' R):AX t u (v::vs) σ H R:=⟨v,vs,rfl,q⟩
def o5 (q:R σ H):KG [] σ H R:=⟨rfl,q⟩
theorem GH:PySem.W.kitOne K (.type "int") (.type "int")=some true:=by simp [PySem.W.kitOne]
end
end L2
namespace Fr
end Fr
namespace L2
open PySem PySem.Spec PyProof.Rows
theorem gG (Pv:St->Hp->Prop) (μ:St->Hp->Nat) (h0:Pv σ H)
  (hs:∀ σ H,Pv σ H->c σ H λb H1=>if b=true then ∃ N:St->Hp->Prop,(∀ σ' H',N σ' H'->∃ m',m'<μ σ H/\(m'=μ σ' H'/\Pv σ' H'))/\tb { D with nx:=N,ct:=N,bk:=D.nx } σ H1 else D.nx σ H1):C1 c tb D σ H:=
 ⟨λm σ H=>m=μ σ H/\Pv σ H,⟨_,rfl,h0⟩,by rintro m σ H ⟨rfl,p⟩;exact hs σ H p⟩
def w_turn {tb:TS} {bk:St->Hp->Prop} {σ:St} {Pv:St->Hp->Prop} {μ:St->Hp->Nat} {m:Nat} (h:tb { nx:=λσ' H'=>Pv σ' H'/\μ σ' H'<m,rt:=r,bk:=bk,ct:=λσ' H'=>Pv σ' H'/\μ σ' H'<m } σ H) :
  ∃ N:St->Hp->Prop,(∀ σ' H',N σ' H'->∃ m',m'<m/\(m'=μ σ' H'/\Pv σ' H'))/\tb { nx:=N,rt:=r,bk:=bk,ct:=N } σ H:=⟨_,λ_ _ p=>⟨_,p.2,rfl,p.1⟩,h⟩
def MI {A B:Prop} (h:B):if (!true)=true then A else B:=GK h
def MJ {A B:Prop} (h:A):if (!false)=true then A else B:=GJ h
theorem Jj:2<=sizeLine:=by rw [ZS];decide
theorem RP:3<=sizeLine:=by rw [ZS];decide
def dS {CX:CA} {P:Program} {w:World} {K:ZB} {mg:WP} {base:Heap} {N:List Str} {q:Str} {sc:Scope} {f:Addr} {cd:Value} {A:Around} {o:List Env} {s:Shared} {H:Hp} {E:XK}:(xQ CX P w K mg base N q sc f cd A o s H E).K=K:=rfl
section
variable {K:ZB}
theorem J1:PySem.W.kitOne K (.type "int") (.type "bool")=some false:=by kernel_rfl
theorem JZ:PySem.W.kitOne K (.type "list") (.type "list")=some true:=by kernel_rfl
end
def mulL (h1 : -(2 ^ 64)<a) (h2:a<2 ^ 64):IntMulOk a b:=.of_left (intBits_le_64 h1 h2)
def mulR (h1 : -(2 ^ 64)<b) (h2:b<2 ^ 64):IntMulOk a b:=.of_right (intBits_le_64 h1 h2)
theorem Sz.T8 (h1 : -(2 ^ 64)<x) (h2:x<2 ^ 64) (hn:64<=n):Sz n x:=Sz.mono (m:=64) (by unfold Sz;omega) hn
theorem vb (h1:0<j) (h2:j<2 ^ 64):Rr i j:=⟨h1,Sz.T8 (by omega) h2 (by decide)⟩
theorem AA (ho:nO X (binaryOp op) (rI C g)) (ha:PE X a (tC (.int i))) (hb:PE X b (tC (.int j))) (c:C i j) (e:g i j=.int v):PE X (.BinOp a op b pos) (tC (.int v)):=
 λpins s σ H Q I h=>aO ho ha hb pins s σ H Q I ⟨i,j,rfl,rfl,c,by rw [e];exact h⟩
theorem wI (ho:nO X (binaryOp op) (Ft g)) (ha:PE X a (tC (.int i))) (hb:PE X b (tC (.int j))) (e:g i j=.int v):PE X (.BinOp a op b pos) (tC (.int v)):=
 λpins s σ H Q I h=>aO ho ha hb pins s σ H Q I ⟨i,j,rfl,rfl,by rw [e];exact h⟩
end L2
namespace L2
open PySem PySem.Spec PySem.W PySem.Calls PyProof.Rows Builtin Builtin.ObjectAttr Builtin.Getset_descriptor
end L2
namespace Kd
open PySem
def Kp {α:Type}:Sem α->Prop
 | .pure _=>True
 | .raise _=>True
 | .unsupported _=>True
 | .finish _=>True
 | .rule _ k=>Kp (k ())
 | .at _ k=>Kp (k ())
 | .load _ _ k=>∀ o,Kp (k o)
 | .update _ _ f k=>(∀ o,(f o).dict=o.dict)/\Kp (k ())
 | .alloc _ k=>∀ a,Kp (k a)
 | .loadIfAlive _ k=>∀ o,Kp (k o)
 | .point _ k=>Kp (k ())
 | .register _ _=>True
 | .fresh k=>∀ t,Kp (k t)
 | .ask k=>∀ x,Kp (k x)
 | .choose _ _ k=>∀ x,Kp (k x)
 | .os _ _ k=>∀ x,Kp (k x)
 | .call ..=>False
 | .handled _ k=>∀ x,Kp (k x)
 | .newGen _ k=>∀ x,Kp (k x)
 | .genState _ k=>∀ x,Kp (k x)
 | .resume ..=>False
 | .yield ..=>True
 | .stack k=>∀ x,Kp (k x)
 | .fork ..=>True
 | .thread k=>∀ x,Kp (k x)
 | .await ..=>True
def Dc (e:Addr) (D:Option Addr) (h:Heap):Prop:=∃ o,h.objs[e]?=some o/\o.dict=D
end Kd
namespace L2
open PySem PySem.Spec PySem.W PySem.Calls PyProof.Rows
def NV (B:Heap) (fr:XL) (h:Heap):Prop:=∀ b o,h.get? b=some o->b∉fr->∃ o',B.get? b=some o'
structure Ro (P:Program) (w:World) (outer:List Env) (H:Hp) (s:Shared) (a:Addr) (cls:Value) (D:Option Addr) (H':Hp) (s':Shared):Prop where
 os:s'.os=s.os
 bare:AllBare s'.gens
 un:Un (xG outer) [] H H' s.heap s'.heap
 bH:kh P w H' s'.heap
 XO:∃ B a0,Heap.FlyingW B outer a cls a0 s'.heap/\NV B (xG outer) s.heap/\∀ b o,H' b=some o->∃ ob,B.get? b=some ob
 new:H' a=none
 fresh:s.heap.get? a=none
 X1:Kd.Dc a D s'.heap
def cQ (P:Program) (w:World):CA:=λouter H s E e s'=>∃ a cls D H',e=.ref a/\Ro P w outer H s a cls D H' s'/\E cls D H'
theorem bp:Passes (cQ P w) X E0:=by
 rintro pins σ H1 s1 e s' I ⟨a,cls,D,H',rfl,F,q⟩;exact q.elim
section
variable {P:Program} {w:World} {K:ZB} {mg:WP} {base:Heap}
theorem Def.dP {x:Str} {st:Stmt} {k:Nat} {sp:Sp} (D:Def K mg x st ps) (S:aQ N ps (aG st)) (len:∀ vs H Q E,sp vs H Q E->vs.length=ps.length)
  (xm:∀ (f:Addr) (dW:Value) (A:Around) (outer:List Env) (s:Shared) (H:Hp) (vs:List V) (Q:VK) (E:XK),gD k (A.deeper (envOfC x (aG st) s.heap.objs.size f dW))->sp vs H Q E->
   ∃ t,Bp (xQ (cQ P w) P w K mg base N x (aG st) f dW A outer s H E).Lm (eN st) t/\t { nx:=λ_ H'=>Q .dO H',rt:=Q } (start N vs) H):dA P w K mg base (cQ P w) x (k+1) ps sp:=by
 obtain ⟨f,fd,F,hm,hb⟩:=D.ex;have kp:=F.kp;obtain ⟨oc,od,kV,doc,pm,an,dW,ct,Gu,rfl,lk,B8⟩:=F.ex;refine ⟨⟨f,_,IG lk B8 S len λA o s H vs Q E hr yg=>?_,hm,kp,hb⟩⟩;obtain ⟨t,h,q⟩:=xm f dW A o s H vs Q E hr yg;exact ⟨t,h.Lm,q⟩
theorem Ld.okN {x:Str} {st:Stmt} {fd:FuncData} {k:Nat} {sp:Sp} (F:Ld K x x st f fd) (S:aQ N ps (aG st)) (len:∀ vs H Q E,sp vs H Q E->vs.length=ps.length)
  (xm:∀ (dW:Value) (A:Around) (outer:List Env) (s:Shared) (H:Hp) (vs:List V) (Q:VK) (E:XK),gD k (A.deeper (envOfC x (aG st) s.heap.objs.size f dW))->sp vs H Q E->
   ∃ t,Bp (xQ (cQ P w) P w K mg base N x (aG st) f dW A outer s H E).Lm (eN st) t/\t { nx:=λ_ H'=>Q .dO H',rt:=Q } (start N vs) H):rO P w K mg base (cQ P w) (k+1) f fd ps sp:=by
 obtain ⟨oc,od,kV,doc,pm,an,dW,ct,Gu,rfl,lk,B8⟩:=F.ex;refine IG lk B8 S len λA o s H vs Q E hr yg=>?_;obtain ⟨t,h,q⟩:=xm dW A o s H vs Q E hr yg;exact ⟨t,h.Lm,q⟩
end
theorem Cj (h:cQ P w o H s (λ_ _ _=>False) e s'):False:=by
 obtain ⟨_,_,_,_,_,_,z⟩:=h;exact z
def Mh (K:Frag):R2:=λx y H Q=>∃ p q a b c d,x=.ref p/\y=.ref q/\SqT K H p [.int a,.int b]/\SqT K H q [.int c,.int d]/\Q (.bl (!decide (a=c/\b=d))) H
theorem D3 (hu:X.A.units<cLine):nO X (compareOp .NotEq) (Mh X.K):=by
 intro pins s σ H x y v u Q I rx ry h;obtain ⟨p,q,a,b,c,d,rfl,rfl,hp,hq,qq⟩:=h;cases rx
 cases ry
 obtain ⟨aY,r1,p1,_⟩:=I.tuple hp;obtain ⟨xg,r2,p2,_⟩:=I.tuple hq;obtain ⟨u1,u2,rfl,⟨t1,rfl⟩,⟨t2,rfl⟩⟩:=vals2 r1;obtain ⟨w1,w2,rfl,⟨t3,rfl⟩,⟨t4,rfl⟩⟩:=vals2 r2;refine SeqAt.RcNeAt.tuples (e:=λj=>if j=0 then a==c else b==d) p1 p2 hu (λj h1 h2=>?_) X.prog X.w X.xe _ (bw I qq ?_)
 ·have hj:j=0\/j=1:=by
   have:j<2:=h1;omega
  rcases hj with rfl|rfl
  ·exact zau a t1 c t3
  ·exact zau b t2 d t4
 ·show (!decide (a=c/\b=d))=(!((List.range 2).all (λj=>if j=0 then a==c else b==d)&&(2==2)));have e:(List.range 2).all (λj=>if j=0 then a==c else b==d)=((a==c)&&(b==d)):=by
   rw [show List.range 2=[0,1] from rfl];simp
  rw [e];by_cases h1:a=c<;>by_cases h2:b=d<;>simp [h1,h2]
def HY {K:Frag} {H:Hp} {Q:VK} {p q:Addr} {a b c d:Int} (hp:SqT K H p [.int a,.int b]) (hq:SqT K H q [.int c,.int d]) (k:Q (.bl (!decide (a=c/\b=d))) H):Mh K (.ref p) (.ref q) H Q:=⟨p,q,a,b,c,d,rfl,rfl,hp,hq,k⟩
def DD (h:ta σ H λx H1=>Q (.bl (!decide (x=.dO))) H1):HK ta σ H Q:=h
def lB {X:Cx} {k:Nat} (hr:gD k X.A):X.A.units<cLine:=hr.IZ
def AllIn (cells:List (Str×Addr)):List (Str×Addr)->Prop
 | []=>True
 | p::r=>cells.lookup p.1=some p.2/\AllIn cells r
theorem AllIn.get {cells:List (Str×Addr)}:∀ {cl:List (Str×Addr)},AllIn cells cl->∀ {x c},cl.lookup x=some c->cells.lookup x=some c
 | [],_,x,c,e=>by cases e
 | (n,d)::r,h,x,c,e=>by
  rw [lookup_cons] at e;cases q:x==n with
  | true=>
   rw [q] at e;cases e;have z:x=n:=by simpa using q
   subst z;exact h.1
  | false=>rw [q] at e;exact AllIn.get h.2 e
def Fo (X:Cx) (ifs:List Expr) (t:TT):Prop:=
 ∀ (pins:Wp) (s:Shared) (σ:St) (H:Hp) (Q:Bool->Hp->Prop),Inv X pins σ H s->t σ H Q->
  wpAny (model X.prog X.w) X.A (forIn ifs true λc r=>if r=true then do let ok <-isTrue c X.env (eval c X.env);pure (ForInStep.yield ok) else pure (ForInStep.yield r)) (TP X pins σ Q) X.xe s
def rS:TT:=λ_ H Q=>Q true H
def c8:Fo X [] rS:=λ_ _ _ H _ I h=>wpAny_tests_nil ⟨H,I,h⟩
def c5 (h:PT X c t):Fo X [c] t:=λpins s σ H Q I hw=>wpAny_tests_one (h pins s σ H Q I hw)
theorem Ck {elt target iter:Expr} {ifs:List Expr} {scope:Scope} {pos:Pos} {it acc:Value} {env:Env} (I:Nat->Shared->Prop)
  (turn:∀ n s,I n s->wpAny (model prog w) A (pyNext it) (λr s₁=>match r with
   | none=>R (.ok .next) s₁
   | some v=>wpAny (model prog w) A (letOwnedTupleGo target it v) (λ_ s1=>wpAny (model prog w) A (assign target env v) (λ_ s₂=>
     wpAny (model prog w) A (forIn ifs true λc r=>if r=true then do let ok <-isTrue c env (eval c env);pure (ForInStep.yield ok) else pure (ForInStep.yield r)) (λok s₃=>
      if ok=true then wpAny (model prog w) A (eval elt env) (λx s₄=>wpAny (model prog w) A (call (.builtin "list.append") [acc,x]) (λ_ s₅=>∃ m,m<n/\I m s₅) (λ_ _=>False) s₄) (λ_ _=>False) s₃
      else ∃ m,m<n/\I m s₃) (λ_ _=>False) s₂) (λ_ _=>False) s1) (λ_ _=>False) s₁) (λ_ _=>False) s)
  (n:Nat) (h:I n s):codeAny (model prog w) A (.compLoop (.ListComp elt [⟨target,iter,ifs,0⟩] scope pos) 0 it acc env) R s:=by
 refine codeAny_loop rfl I (λn s hI=>?_) n h;show wpAny _ A ((compTurn (.ListComp elt [⟨target,iter,ifs,0⟩] scope pos) 0 it acc env).onRaise (λx=>do noteFrame x env;theTreesLotGoes x)) _ _ s;refine wpAny_noted ?_;rw [compTurn_list];refine X5 (wpAny_standAt (X5 (Ze (turn n s hI) (λr s₁ h₁=>?_) λ_ _ z=>False.elim z)));cases r with
 | none=>exact Ym h₁
 | some v=>
  refine X5 (Ze h₁ (λ_ s1 h1=>X5 (Ze h1 (λ_ s₂ h₂=>X5 (Ze h₂ (λok s₃ h₃=>?_) λ_ _ z=>False.elim z)) λ_ _ z=>False.elim z)) λ_ _ z=>False.elim z);cases ok with
  | false=>exact Ym ⟨rfl,h₃⟩
  | true=>
   exact X5 (X5 (Ze h₃ (λx s₄ h₄=>X5 (Ze h₄ (λ_ s₅ h₅=>Ym (Ym ⟨rfl,h₅⟩)) λ_ _ z=>False.elim z)) λ_ _ z=>False.elim z))
def Cx.block (X:Cx) (scope:Scope) (cl:List (Str×Addr)) (C:Addr) (N:List Str) (fp:XL) (pins:Wp) (s:Shared) (H:Hp):Cx:=
 { X with N:=N,s₀:=s,H₀:=H,env:=compEnvC scope cl C X.env,outer:=X.stack,ex:=fp,fn:=λ_=>false,pn:=X.pn++pins,xe:=λ_ _=>False }
def gL (n:Nat) (fr:List Nat) (σ:St):St:=List.replicate n none++fr.map λi=>(σ[i]?).join
structure oB (X:Cx) (scope:Scope) (cl:List (Str×Addr)) (tg:List Str) (fr:List (Str×Nat)):Prop where
 kind:scope.kind=.function
 JQ:∀ y∈scope.names,y.2≠.cell
 names:∀ y∈scope.names,y.2=.local->scope.names.lookup y.1=some .local
 NC:closureFor scope X.env=pure cl
 IU:AllIn X.env.cells cl
 has:((relabel scope X.env).names.all λp=>!(p.2==.cell || p.2==.free) || (cl.lookup p.1).isSome)=true
 Wg:∀ p∈fr,X.N[p.2]?=some p.1/\OM X.env.scope p.1/\(cl.lookup p.1).isSome=true/\(relabel scope X.env).names.lookup p.1=some .cell
 Wh:∀ p∈fr,X.env.kindOf p.1=some .cell
section
variable {X:Cx} {pins:Wp} {σ:St} {H:Hp} {s:Shared} {scope:Scope} {cl:List (Str×Addr)} {tg:List Str} {fr:List (Str×Nat)}
theorem lookup_mem {κ α:Type} [BEq κ] [LawfulBEq κ]:∀ {l:List (κ×α)} {x:κ} {v:α},l.lookup x=some v->(x,v)∈l
 | [],_,_,e=>by cases e
 | (k,u)::r,x,v,e=>by
  rw [lookup_cons] at e;cases q:x==k with
  | true=>
   rw [q] at e;cases e;have z:x=k:=by simpa using q
   subst z;exact Yg
  | false=>rw [q] at e;exact X8 _ (lookup_mem e)
theorem xV {C:Addr} {fp:XL} {h':Heap} {t':Nat} {m:WP} (B:oB X scope cl tg fr) (I:Inv X pins σ H s) (hf:∀ b∈fp,n9 X pins H b/\b<s.heap.objs.size) (hC:s.heap.objs.size<=C) (hn:h'.Ns C m) (k:∀ b o,s.heap.get? b=some o->h'.get? b=some o)
  {H2:Hp} (hu:Un (xG X.stack) fp H H2 s.heap h') (bH:kh X.prog X.w H2 h') (AU:H2 C=none) :
  Inv (X.block scope cl C (tg++fr.map (·.1)) fp pins s H) [] (gL tg.length (fr.map (·.2)) σ) H2 { s with heap:=h',toks:=t' }:=by
 have cells:∀ {x c},cl.lookup x=some c->X.env.cells.lookup x=some c:=λe=>B.IU.get e;have cC:∀ x c,X.env.cells.lookup x=some c->c≠C:=λx c e z=>by
  obtain ⟨v,o,ho,_⟩:=I.cell x c e;exact absurd (YJ (Yi ho) hC) (by rw [z];exact YN _)
 have cellK:∀ {c v},s.heap.IsCell c v->h'.IsCell c v:=λ{c v} ⟨o,e,d⟩=>⟨o,k c o e,d⟩;have IS:∀ x c,X.env.cells.lookup x=some c->c∉fp/\H2 c=none:=λx c e=>by
  have nf:c∉fp:=λz=>(hf c z).1.2.2.2.2.1 x c e rfl;obtain ⟨v,o,ho,_⟩:=I.cell x c e;exact ⟨nf,hu.free c o ho (I.jc x c e) nf⟩
 have Po:∀ p∈X.pn++pins,p.1∉fp/\H2 p.1=none:=λp hp=>by
  have nf:p.1∉fp:=λz=>(hf p.1 z).1.2.2.2.2.2 p hp rfl;obtain ⟨e,n,_⟩:=I.pin p hp;exact ⟨nf,hu.free p.1 _ e n nf⟩
 have T3:∀ b∈xG X.stack,b<s.heap.objs.size:=λb hb=>by
  obtain ⟨_,o,ho,_⟩:=I.stack.mem hb;exact Yi ho
 refine ⟨⟨I.ok.mod,B.kind,I.ok.glob,I.ok.blt,hC,λx y c h1 h2=>I.ok.inj x y c (cells h1) (cells h2),λx hx=>?_,λx c z=>absurd (show false=true from z) Yo,I.ok.hd,I.ok.frames,.inl rfl,λb hb=>?_,λb o e=>⟨?_,?_⟩,?_,λb o e z=>?_,λb hb z=>?_,I.stack,I.zQ⟩,
  rfl,I.bare,hu,⟨m,hn,λi x v h1 h2 h3=>?_⟩,λx c e=>?_,AU,λx c e=>(IS x c (cells e)).2,λp hp=>?_,bH,?_⟩
 ·have e:(relabel scope X.env).names.lookup x=some .cell\/(relabel scope X.env).names.lookup x=some .free:=hx;have mem:∃ kk,(x,kk)∈(relabel scope X.env).names/\(kk==NameKind.cell || kk==NameKind.free)=true:=by
   rcases e with e|e
   ·exact ⟨_,lookup_mem e,rfl⟩
   ·exact ⟨_,lookup_mem e,rfl⟩
  obtain ⟨kk,mm,hk⟩:=mem;have z:=List.all_eq_true.mp B.has _ mm;simp only [hk,Bool.not_true,Bool.false_or] at z;exact zaN.mp z
 ·exact ⟨λz=>absurd (YJ (hf b hb).2 hC) (by rw [z];exact YN _),λx c e z=>(IS x c (cells e)).1 (z▸hb)⟩
 ·exact (I.bs b o e).1
 ·exact (I.bs b o e).2
 ·exact Y2 I.ok.K4 I.sz
 ·rcases (hf b z).1.2.2.2.1 with q|q
  ·exact I.ok.Ec b o e q
  ·exact absurd (YJ (Yi (I.ok.bs b o e).1) q) (YN _)
 ·have z':b∈xG X.stack:=z;rcases Yk.mp (I.oF b z') with q|q
  ·exact (hf b hb).1.2.1 q
  ·exact (hf b hb).1.2.2.1 q
 ·have hi:tg.length<=i:=by
   refine Nat.le_of_not_lt λz=>?_;unfold gL at h2;rw [YL (by simpa using z),getElem?_replicate,Ya z] at h2;cases h2
  have Cd:(fr.map (·.1))[i-tg.length]?=some x:=by
   have z:(tg++fr.map (·.1))[i]?=some x:=h1;rw [Y1 hi] at z;exact z
  have FC:((fr.map (·.2)).map λi=>(σ[i]?).join)[i-tg.length]?=some (some v):=by
   unfold gL at h2;rw [Y1 (by simpa using hi)] at h2;simpa using h2
  rw [Yj] at Cd;rw [Yj,Yj] at FC;cases q:fr[i-tg.length]? with
  | none=>rw [q] at Cd;cases Cd
  | some p=>
   rw [q] at Cd FC;have ex:p.1=x:=Yf Cd;have ev:(σ[p.2]?).join=some v:=Yf FC;subst ex;obtain ⟨f1,f2,f3,f4⟩:=B.Wg p (Yb q);have eσ:σ[p.2]?=some (some v):=by
    cases z:σ[p.2]? with
    | none=>rw [z] at ev;cases ev
    | some w'=>rw [z] at ev;exact Yt some ev
   obtain ⟨m0,XE,Qr⟩:=I.loc;obtain ⟨u,r,l⟩:=Qr p.2 p.1 v f1 eσ f2;refine ⟨u,r,?_⟩;obtain ⟨c,hc⟩:=zaN.mp f3;have hk:=B.Wh p (Yb q);rcases l with ⟨kl,_⟩|⟨_,c',l7,z⟩
   ·rw [hk] at kl;cases kl
   ·have e':=cells hc;rw [l7] at e';cases e'
    exact .inr ⟨.inl f4,c,hc,cellK z⟩
 ·obtain ⟨v,z⟩:=I.cell x c (cells e);exact ⟨v,cellK z⟩
 ·rw [ZY] at hp;obtain ⟨e,n,ne,nf,d⟩:=I.pin p hp;refine ⟨k _ _ e,(Po p hp).2,λz=>absurd (YJ (Yi e) hC) (by rw [z];exact YN _),λz=>?_,d⟩;rcases Yk.mp (I.oF _ z) with q|q
  ·exact ne q
  ·exact nf q
 ·unfold gL;show _=(tg++fr.map (·.1)).length;simp
end
def rV (wi:TI) (g:TG) (tt:TT) (te:TE) (n:Nat) (fr:List Nat):TE:=λσ H Q=>wi σ H λJ H1=>∀ acc,H1 acc=none->∃ W:Nat->Nat->St->List V->Hp->Prop,(∃ m,W 0 m (gL n fr σ) [] (upd H1 acc (.lst [])))/\
 ∀ i m σ' ys H2,W i m σ' ys H2->((J.stop i H2/\Q (.ref acc) H2)\/(J.go i H2/\∀ x H3,J.vo i H2 x H3->g x σ' H3 λσ2 H4=>tt σ2 H4 λb H5=>
  if b=true then te σ2 H5 λy H6=>H6 acc=some (.lst ys)/\ys.length<sizeLine/\∃ m',m'<m/\W (i+1) m' σ2 (ys++[y]) (upd H6 acc (.lst (ys++[y]))) else ∃ m',m'<m/\W (i+1) m' σ2 ys H5))
section
variable {X:Cx} {scope:Scope} {cl:List (Str×Addr)} {tg:List Str} {fr:List (Str×Nat)} {elt target iter:Expr} {ifs:List Expr} {wi:TI} {g:TG} {tt:TT} {te:TE} {pos:Pos}
theorem sV (B:oB X scope cl tg fr) (hc:X.calm=true) (hi:PI X target iter wi)
  (hg:∀ C fp pins s H,PG (X.block scope cl C (tg++fr.map (·.1)) fp pins s H) target g) (ht:∀ C fp pins s H,Fo (X.block scope cl C (tg++fr.map (·.1)) fp pins s H) ifs tt) (he:∀ C fp pins s H,PE (X.block scope cl C (tg++fr.map (·.1)) fp pins s H) elt te)
  {pins:Wp} {σ:St} {H:Hp} {s:Shared} {Q:VK} (I:Inv X pins σ H s) (hw:rV wi g tt te tg.length (fr.map (·.2)) σ H Q) {RR:Value->Addr->Result->Shared->Prop}
  (V6:∀ D C s1 H5 m,Inv X pins σ H5 s1->s1.heap.Ns C m->H5 C=none->C≠X.env.locals->X.s₀.heap.objs.size<=C->(∀ x c,X.env.cells.lookup x=some c->c≠C)->(∀ p∈X.pn++pins,p.1≠C)->Q (.ref D) H5->RR (.ref D) C (.ok .next) s1) :
  wpAny (model X.prog X.w) X.A (eval iter X.env) (λxv s1=>wpAny (model X.prog X.w) X.A (pyIter xv) (λit s2=>wpAny (model X.prog X.w) X.A (newList []) (λacc s3=>
   wpAny (model X.prog X.w) X.A (newFunctionEnv scope X.env.globals cl [] X.env.qual none .none (some X.env)) (λND s4=>
    codeAny (model X.prog X.w) X.A (.compStart (.ListComp elt [⟨target,iter,ifs,0⟩] scope pos) 0 it acc { ND with scope:=relabel scope X.env }) (RR acc ND.locals) s4) X.xe s3) X.xe s2) X.xe s1) X.xe s:=by
 refine Ze (hi pins s σ H _ I hw) (λxv s1 h1=>Ze h1 (λPQ s2 h2=>?_) λ_ _ z=>z) λ_ _ z=>z;obtain ⟨it,fp,tn,J,H1,rfl,I2,T,OX,f2,Vf⟩:=h2;have ET:∀ b∈fp,b<s2.heap.objs.size:=λb hb=>by
  obtain ⟨o,e,_⟩:=T.obj _ _ OX b hb;exact Yi e
 refine zaD (wpAny_newFunctionEnv B.JQ (by intro y hy;simp at hy) (λh3 zd Lu=>?_) B.kind);dsimp only at zd Lu ⊢;generalize hP:s2.heap.push { cls:=.type "list",dict:=none,data:=.seq ([]:XV).toArray }=hp at zd Lu ⊢;have hC:hp.objs.size=s2.heap.objs.size+1:=by rw [<-hP,Heap.size_push]
 have eK:s2.heap.objs.size<hp.objs.size:=by rw [hC];exact ZG _
 have k3:∀ b o,s2.heap.get? b=some o->h3.get? b=some o:=λb o e=>by
  have l:=Yi e;refine Lu.extBut b o (YR (zbb l eK)) (Yh _ (hP▸Yh _ e))
 have hD:H1 s2.heap.objs.size=none:=I2.bH.fresh (X7 _);have a9:h3.get? s2.heap.objs.size=some { cls:=.type "list",dict:=none,data:=.seq ([]:XV).toArray }:=Lu.extBut _ _ (YR eK) (Yh _ (hP▸YH _ rfl));obtain ⟨W,⟨m0,w0⟩,turn⟩:=Vf _ hD;have TN:Un (xG X.stack) fp H1 (upd H1 s2.heap.objs.size (.lst [])) s2.heap h3:=Un.laid k3 (X7 _) hD;have Uw:kh X.prog X.w (upd H1 s2.heap.objs.size (.lst [])) h3:=I2.bH.laid k3 (X7 _) ⟨YK _,[],0,.nil,a9⟩;have fC:upd H1 s2.heap.objs.size (.lst []) hp.objs.size=none:=by rw [ak (Zq eK)];exact I2.bH.fresh (ZJ eK)
 have UN:=I2.lt;have nL:hp.objs.size≠X.env.locals:=Zq (zbb UN eK);have Ua:X.s₀.heap.objs.size<=hp.objs.size:=Y2 I2.sz (ZJ eK);have cC:∀ x c,X.env.cells.lookup x=some c->c≠hp.objs.size:=λx c e z=>by
  obtain ⟨v,o,ho,_⟩:=I2.cell x c e;exact absurd (zbb (Yi ho) eK) (by rw [z];exact YN _)
 have pC:∀ p∈X.pn++pins,p.1≠hp.objs.size:=λp Iy z=>by
  exact absurd (zbb (Yi (I2.pin p Iy).1) eK) (by rw [z];exact YN _)
 have J0:=xV (t':=s2.toks+([]:List (Str×Value)).length) B I2 (λb hb=>⟨f2 b hb,ET b hb⟩) (ZJ eK) zd k3 TN Uw fC;have QM:∀ {H':Hp} {pl:Wp},(∀ b∈fp,H' b=none)->(∀ p∈pl,p.1∉fp)->∀ b∈fp,n9 (X.block scope cl hp.objs.size (tg++fr.map (·.1)) fp pins s2 H1) pl H' b:=λhn CJ b hb=>by
  obtain ⟨g0,g1,g2,g3,g4,g5⟩:=f2 b hb;refine ⟨hn b hb,λz=>?_,λz=>?_,.inl hb,λx c e=>g4 x c (B.IU.get e),λp Iy z=>?_⟩
  ·have z':b=hp.objs.size:=z;exact absurd (zbb (ET b hb) eK) (by rw [z'];exact YN _)
  ·rcases Yk.mp (I2.oF b z) with q|q
   ·exact g1 q
   ·exact g2 q
  ·rcases Ye.mp Iy with q|q
   ·exact g5 p q z
   ·exact CJ p q (z▸hb)
 have loop:∀ s3:Shared,s3={ s2 with heap:=h3,toks:=s2.toks+([]:List (Str×Value)).length }->
   codeAny (model X.prog X.w) X.A (.compLoop (.ListComp elt [⟨target,iter,ifs,0⟩] scope pos) 0 (.ref it) (.ref s2.heap.objs.size) (compEnvC scope cl hp.objs.size X.env)) (RR (.ref s2.heap.objs.size) hp.objs.size) s3:=by
  rintro s3 rfl;refine Ck (λn s'=>∃ i σ' ys H5,Inv (X.block scope cl hp.objs.size (tg++fr.map (·.1)) fp pins s2 H1) [] σ' H5 s'/\tn i s'.heap/\(∀ b∈fp,H5 b=none)/\W i n σ' ys H5) ?_ m0
   ⟨0,_,[],_,J0,T.keep _ _ _ OX λb hb o e=>k3 b o e,λb hb=>?_,w0⟩
  ·rintro n s' ⟨i,σ',ys,H5,J5,t5,f5,w5⟩;rcases turn i n σ' ys H5 w5 with ⟨stop,q⟩|⟨go,step⟩
   ·refine Ze (T.done (X.block scope cl hp.objs.size (tg++fr.map (·.1)) fp pins s2 H1) rfl rfl rfl hc i [] s' σ' H5 (λ_ _=>False) J5 (QM f5 (by simp)) t5 stop) (λr s6 q9z=>?_) λ_ _ z=>z;obtain ⟨hr,J6⟩:=q9z;subst hr;obtain ⟨m6,Vz,_⟩:=J6.loc;exact V6 _ _ _ H5 m6 (I2.NH (ch:=fp) J6.os J6.base J6.bH J6.bare λb hb=>by obtain ⟨g0,g1,g2,g3,g4,g5⟩:=f2 b hb;exact ⟨g3,g1,g4,g5⟩) Vz J6.free nL Ua cC pC q
   ·refine Ze (T.item (X.block scope cl hp.objs.size (tg++fr.map (·.1)) fp pins s2 H1) rfl rfl rfl hc i [] s' σ' H5 (λ_ _=>False) J5 (QM f5 (by simp)) t5 go) (λr s6 q9z=>?_) λ_ _ z=>z;obtain ⟨u,hr,h6⟩:=q9z;subst hr;refine Ze h6 (λ_ s7 q9z=>?_) λ_ _ z=>z;obtain ⟨x,H7,J7,r7,y7,t7,f7⟩:=q9z;have WN:=J7.pinned (QM f7 (by simp)) (T.obj _ _ t7);have again:∀ {σ8:St} {H8:Hp} {s8:Shared} {OR:List V},Inv (X.block scope cl hp.objs.size (tg++fr.map (·.1)) fp pins s2 H1) ([]++pA fp s7.heap) σ8 H8 s8->(∃ m',m'<n/\W (i+1) m' σ8 OR H8)->
      ∃ m',m'<n/\∃ i σ' ys H5,Inv (X.block scope cl hp.objs.size (tg++fr.map (·.1)) fp pins s2 H1) [] σ' H5 s8/\tn i s8.heap/\(∀ b∈fp,H5 b=none)/\W i m' σ' ys H5:=λ{σ8 H8 s8 OR} J8 ⟨m',hm,w8⟩=>by
     refine ⟨m',hm,i+1,σ8,OR,H8,J8.lA,T.keep _ _ _ t7 λb hb o e=>(J8.pin (b,o) (YA _ (YA _ (iQ hb e)))).1,λb hb=>?_,w8⟩;obtain ⟨o,e,d⟩:=T.obj _ _ t7 b hb;exact (J8.pin (b,o) (YA _ (YA _ (iQ hb e)))).2.1
    refine Ze (hg _ _ _ _ _ _ s7 σ' H7 x u _ WN r7 (step x H7 y7)) (λ_ s8 q9z=>?_) λ_ _ z=>z;obtain ⟨σ8,H8,J8,q8⟩:=q9z;refine Ze (ht _ _ _ _ _ _ s8 σ8 H8 _ J8 q8) (λb s9 q9z=>?_) λ_ _ z=>z;obtain ⟨H9,J9,q9⟩:=q9z;cases b with
    | false=>
     rw [X6 Yo] at q9 ⊢;exact again J9 q9
    | true=>
     rw [Ya rfl] at q9 ⊢;refine Ze (he _ _ _ _ _ _ s9 σ8 H9 _ J9 q9) (λy T9 q9z=>?_) λ_ _ z=>z;obtain ⟨v,vw,WQ,Ug,QF,Qq,Uj⟩:=q9z;refine Ze (df (X:=X.block scope cl hp.objs.size (tg++fr.map (·.1)) fp pins s2 H1) _ T9 σ8 vw (.ref s2.heap.objs.size) [v] (.ref s2.heap.objs.size) [y] (λ_ Fs=>∃ m',m'<n/\W (i+1) m' σ8 (ys++[v]) Fs) WQ rfl (.cons Ug .nil) ⟨_,ys,v,rfl,rfl,QF,Qq,Uj⟩) (λ_ Xc q9z=>?_) λ_ _ z=>z;obtain ⟨_,Fs,WO,_,Ui⟩:=q9z;exact again WO Ui
  ·have l:=ET b hb;rw [ak (YR l)];exact (f2 b hb).1
 exact codeAny_compStart_list (loop _ rfl) (T.self X.A 0 _ _ _ (T.keep _ _ _ OX λb hb o e=>k3 b o e) (loop _ rfl))
theorem bV (B:oB X scope cl tg fr) (hc:X.calm=true) (hi:PI X target iter wi)
  (hg:∀ C fp pins s H,PG (X.block scope cl C (tg++fr.map (·.1)) fp pins s H) target g) (ht:∀ C fp pins s H,Fo (X.block scope cl C (tg++fr.map (·.1)) fp pins s H) ifs tt) (he:∀ C fp pins s H,PE (X.block scope cl C (tg++fr.map (·.1)) fp pins s H) elt te)
  (hs:∀ x,foldedSetIterable iter X.env x=pure x:=by intro _;rfl):PE X (.ListComp elt [⟨target,iter,ifs,0⟩] scope pos) (rV wi g tt te tg.length (fr.map (·.2))):=by
 intro pins s σ H Q I hw;rw [eval_ListComp];refine wpAny_comprehension_free (use:=none) rfl hs B.NC B.kind B.names (sV B hc hi hg ht he I hw (RR:=λacc C=>compPost (model X.prog X.w) X.A X.xe none (EP X pins σ Q) acc C) λD C s1 H5 m J hn f0 f1 f2 f3 f4 q=>?_);refine ⟨m,hn,λh' sb=>⟨.ref D,H5,?_,rfl,q⟩⟩;exact J.turned (t':=s1.toks) (λb o hb e=>(sb.2 b hb).trans e) f0 f1 (.inr f2) f3 f4
theorem iL {i:Nat} {y:Str} {py L4:Pos} (hN:X.N.Nodup) (hy:X.N[i]?=some y) (hl:Loc X.env.scope y) (B:oB X scope cl tg fr) (hc:X.calm=true) (hi:PI X target iter wi)
  (hg:∀ C fp pins s H,PG (X.block scope cl C (tg++fr.map (·.1)) fp pins s H) target g) (ht:∀ C fp pins s H,Fo (X.block scope cl C (tg++fr.map (·.1)) fp pins s H) ifs tt) (he:∀ C fp pins s H,PE (X.block scope cl C (tg++fr.map (·.1)) fp pins s H) elt te)
  (hs:∀ x,foldedSetIterable iter X.env x=pure x:=by intro _;rfl) (Vm:swapsWith (.ListComp elt [⟨target,iter,ifs,0⟩] scope pos) (some (.Name y py)) L4.line X.env=pure true:=by rfl)
  (hf:X.fn y=true\/X.env.scope.names.lookup y=some .local:=by first|exact .inl rfl|exact .inr rfl|assumption) :
  PS X (.Assign [.Name y py] (.ListComp elt [⟨target,iter,ifs,0⟩] scope pos) L4) (C9 (rV wi g tt te tg.length (fr.map (·.2))) (jQ i)):=by
 intro pins s σ H D I hw;rw [exec_Assign_Name_used _ _ _ _ Vm];refine X5 (wpAny_standAt (X5 ?_));show wpAny _ _ (do let _ <-comprehension (.ListComp elt [⟨target,iter,ifs,0⟩] scope pos) scope X.env _ (newList []) false (eval iter X.env) (some (assign (.Name y py) X.env))) _ _ s;refine X5 (Ze (wpAny_comprehension_free (use:=some (assign (.Name y py) X.env)) (Q:=λ_ s'=>SP X pins D .next s') rfl hs B.NC B.kind B.names
  (sV B hc hi hg ht he I hw (RR:=λacc C=>compPost (model X.prog X.w) X.A X.xe (some (assign (.Name y py) X.env)) (λ_ s'=>SP X pins D .next s') acc C) λR C s1 H5 m J hn f0 f1 f2 f3 f4 q=>?_)) (λ_ s' hq=>Ym (Ym hq)) λ_ _ z=>z)
 show wpAny _ _ (assign (.Name y py) X.env (.ref R)) _ _ _;refine wpAny_assign_Name (rW (v:=.ref R) J hN hy hl rfl (λs2 J2 ⟨a,sb,ha⟩=>?_) hf);have na:C≠a:=by
  rcases ha with z|z
  ·rw [z];exact f1
  ·exact YU (f3 y a z)
 refine ⟨m,hn.sameBut sb na,λh' T7=>⟨_,H5,?_,q⟩⟩;exact J2.turned (t':=s2.toks) (λb o hb e=>(T7.2 b hb).trans e) f0 f1 (.inr f2) f3 f4
end
def Gb (K:Frag):List V->Hp->VK->Prop:=λvs H Q=>∃ (a:Addr) (ns:UV),vs=[.ref a]/\aN K H a (ns.map V.int)/\ns.length<64/\∀ (uJ:UV) p,uJ.Perm ns->uJ.Pairwise (·<=·)->H p=none->Q (.ref p) (upd H p (.lst (uJ.map V.int)))
theorem xU:fG X (.builtin "sorted") (Gb X.K):=by
 intro pins s σ H xs us Q I r h;obtain ⟨a,ns,rfl,ha,hl,q⟩:=h;obtain ⟨u,rfl,ru⟩:=vals1 r;cases ru
 obtain ⟨aY,rv,pl,hz⟩:=I.list ha;have hI:IntsAre aY ns:=intsAre_of rv;have len:=rv.length;rw [Pd] at len;refine sorted_ints pl.isList hI (by omega) λout uJ h1 h2 h3=>?_;have lo:=h1.length;obtain ⟨ep,k1⟩:=sortedAll_at s.heap aY out;have nV:=h2.length_eq;have Fx:(uJ.map V.int).length<=sizeLine:=by rw [Pd,Yz];omega
 have new:bC X.prog X.w (upd H (s.heap.objs.size+1) (.lst (uJ.map V.int))) (sortedAll s.heap aY out) (s.heap.objs.size+1) (.lst (uJ.map V.int)):=⟨Fx,out.toList,ep,mC h1,by simpa [seqObj] using k1⟩;exact ⟨.ref (s.heap.objs.size+1),_,I.laid (t':=s.toks) (λb o e=>sortedAll_old e) (zaW _) new,rfl,q uJ _ h2 h3 (I.bH.fresh (zaW _))⟩
mutual
inductive CL (H:Hp):V->PyData->Prop where
 | int (i:Int):CL H (.int i) (.int i)
 | lst {a:Addr} {vs:List V} {ds:List PyData}:H a=some (.lst vs)->gE H vs ds->CL H (.ref a) (.list ds)
 | tup {a:Addr} {vs:List V} {ds:List PyData}:H a=some (.tup vs)->gE H vs ds->CL H (.ref a) (.tuple ds)
inductive gE (H:Hp):List V->List PyData->Prop where
 | nil:gE H [] []
 | cons {v:V} {vs:List V} {d:PyData} {ds:List PyData}:CL H v d->gE H vs ds->gE H (v::vs) (d::ds)
end
section
variable {X:Cx} {pins:Wp} {σ:St} {H:Hp} {s:Shared}
mutual
theorem CL.reads (I:Inv X pins σ H s):∀ {v:V} {d:PyData} {u:Value},CL H v d->RelV v u->∃ as,Reads s.heap u d as
 | _,_,u,.int i,r=>by
  obtain ⟨t,rfl⟩:=r;exact ⟨_,.int i t⟩
 | _,_,u,.lst (a:=a) (vs:=vs) e h,r=>by
  cases (show u=Value.ref a from r)
  obtain ⟨_,aY,n,rv,g⟩:=(show bC X.prog X.w H s.heap a (.lst vs) from I.bH a _ e);obtain ⟨as,ra⟩:=gE.reads I h rv;exact ⟨_,.list g rfl rfl (by simpa using ra)⟩
 | _,_,u,.tup (a:=a) (vs:=vs) e h,r=>by
  cases (show u=Value.ref a from r)
  obtain ⟨_,aY,rv,o,g,hc,n,hd⟩:=(show bC X.prog X.w H s.heap a (.tup vs) from I.bH a _ e);obtain ⟨as,ra⟩:=gE.reads I h rv;exact ⟨_,.tuple g hc hd (by simpa using ra)⟩
theorem gE.reads (I:Inv X pins σ H s):∀ {vs:List V} {ds:List PyData} {us:XV},gE H vs ds->Vals vs us->∃ as,ReadsAll s.heap us ds as
 | _,_,_,.nil,.nil=>⟨_,.nil⟩
 | _,_,_,.cons h t,.cons r q=>by
  obtain ⟨as,ra⟩:=CL.reads I h r;obtain ⟨bs,rb⟩:=gE.reads I t q;exact ⟨_,.cons ra rb⟩
end
end
def Pc (neg:Bool):R2:=λx y H Q=>∃ da db,CL H x da/\CL H y db/\SeqAt.shaped da=true/\SeqAt.shaped db=true/\Q (.bl (if neg then !PyData.eqv da db else PyData.eqv da db)) H
theorem JL (hu:X.A.units+64<cLine):nO X (compareOp .Eq) (Pc false):=by
 intro pins s σ H x y v u Q I rx ry h;obtain ⟨da,db,ra,rb,ha,hb,q⟩:=h;obtain ⟨as,r1⟩:=CL.reads I ra rx;obtain ⟨bs,r2⟩:=CL.reads I rb ry;exact SeqAt.compareEq_shaped r1 r2 ha hb hu (bw I q rfl)
def nK (l:UV):PyData:=.list (l.map .int)
theorem lay_ints:∀ l:UV,PyData.canLayAll0 (l.map .int)=true/\PyData.depthAll (l.map .int)=0
 | []=>⟨by simp [PyData.canLayAll0],by simp [PyData.depthAll]⟩
 | i::l=>by
  obtain ⟨h1,h2⟩:=lay_ints l;simp [PyData.canLayAll0,PyData.depthAll,PyData.canLay0,PyData.depth,h1,h2]
theorem xK:∀ l m:UV,PyData.eqvAll (l.map .int) (m.map .int)=decide (l=m)
 | [],[]=>by simp [PyData.eqvAll]
 | [],_::_=>by simp [PyData.eqvAll]
 | _::_,[]=>by simp [PyData.eqvAll]
 | i::l,j::m=>by
  simp only [Y8,PyData.eqvAll,PyData.eqv,xK l m];by_cases h1:i=j<;>by_cases h2:l=m<;>simp [h1,h2]
theorem iZ:bootBuiltins "min"=some (.builtin "min"):=by decide +kernel
theorem sY:bootBuiltins "sorted"=some (.builtin "sorted"):=by decide +kernel
theorem bj {α:Type} {p:α->Prop}:∀ x∈([]:List α),p x:=λ_ h=>by cases h
def aD {α:Type} {p:α->Prop} {a:α} {l:List α} (h:p a) (t:∀ x∈l,p x):∀ x∈a::l,p x:=List.forall_mem_cons.mpr ⟨h,t⟩
section
variable {σ:St} {H:Hp} {Q:VK} {D:Ends} {K:Frag}
def DK (h:to σ H λx H1=>LN K T x H1/\t σ H1 λxs H2=>r x xs H2 Q):RI K T r to t σ H Q:=h
def Ia (h:to σ H λx H1=>LN K T x H1/\r x [] H1 Q):L0 K T r to σ H Q:=h
def kP (h:R true H):rS σ H R:=h
def dI (h:H l=some (.lst xs)) (hl:xs.length<sizeLine) (q:Q .dO (upd H l (.lst (xs++[y])))):Ap (.ref l) [y] H Q:=⟨l,xs,y,rfl,rfl,h,hl,q⟩
def wA (h:H l=some (.lst xs)) (hb:H b=some (.lst zs)) (hl:xs.length+zs.length<=sizeLine) (q:Q .dO (upd H l (.lst (xs++zs)))):Ao (.ref l) [.ref b] H Q:=⟨l,b,xs,zs,rfl,rfl,h,hb,hl,q⟩
theorem BI {p:Addr} {x:Int} {ns:UV} {neg:Bool} (h:aN K H p (ns.map V.int)) (q:Q (.bl (if neg then !decide (x∈ns) else decide (x∈ns))) H):Lk K neg (.int x) (.ref p) H Q:=by
 have e:Lr (.int x) (ns.map V.int)=decide (x∈ns):=by
  unfold Lr;rw [any_map];have:(λy=>zt y (V.int x)) ∘ V.int=λy=>y==x:=by funext y;rfl
  rw [this];clear this q h
  induction ns with
  | nil=>simp
  | cons a l ih=>
   rw [any_cons,ih];by_cases h1:a=x
   ·subst h1;simp
   ·have h2:¬x=a:=λz=>h1 z.symm;simp [h1,h2]
 refine ⟨p,_,rfl,.inl h,rfl,?_,by rw [e];exact q⟩;rw [all_map];simp [kH]
theorem bQ (hi:i<n) (h:A):∃ m',m'<n-i/\(m'=n-(i+1)/\i+1<=n/\A):=⟨_,by omega,rfl,hi,h⟩
theorem dz {R:Hp->Prop} {acc:Addr} {lo:Int} {n:Nat} {g:TG} {tt:TT} {te:TE} (Pv:Nat->St->List V->Hp->Prop) (h0:Pv 0 σ [] H)
  (hs:∀ i σ ys H,i<n->Pv i σ ys H->g (.int (lo+i)) σ H λσ2 H4=>tt σ2 H4 λb H5=>if b=true then te σ2 H5 λy H6=>H6 acc=some (.lst ys)/\ys.length<sizeLine/\∃ m',m'<n-i/\(m'=n-(i+1)/\i+1<=n/\Pv (i+1) σ2 (ys++[y]) (upd H6 acc (.lst (ys++[y])))) else ∃ m',m'<n-i/\(m'=n-(i+1)/\i+1<=n/\Pv (i+1) σ2 ys H5))
  (hd:∀ σ ys H,Pv n σ ys H->R H) :
  ∃ W:Nat->Nat->St->List V->Hp->Prop,(∃ m,W 0 m σ [] H)/\∀ i m σ' ys H2,W i m σ' ys H2->(((Ct lo n).stop i H2/\R H2)\/((Ct lo n).go i H2/\∀ x H3,(Ct lo n).vo i H2 x H3->g x σ' H3 λσ2 H4=>tt σ2 H4 λb H5=>
   if b=true then te σ2 H5 λy H6=>H6 acc=some (.lst ys)/\ys.length<sizeLine/\∃ m',m'<m/\W (i+1) m' σ2 (ys++[y]) (upd H6 acc (.lst (ys++[y]))) else ∃ m',m'<m/\W (i+1) m' σ2 ys H5)):=by
 refine ⟨λi m σ ys H=>m=n-i/\i<=n/\Pv i σ ys H,⟨n,by simp,YK _,h0⟩,?_⟩;rintro i m σ ys H ⟨rfl,hi,p⟩;by_cases eK:i<n
 ·refine .inr ⟨eK,λx H' y=>?_⟩;obtain ⟨e,y⟩:=y;subst e y;exact hs i σ ys _ eK p
 ·have e:i=n:=by omega
  subst e;exact .inl ⟨X7 _,hd σ ys H p⟩
theorem cF {R:Hp->Prop} {acc a:Addr} {xs:List V} {g:TG} {tt:TT} {te:TE} (Pv:Nat->St->List V->Hp->Prop) (h0:Pv 0 σ [] H) (hl:∀ i σ ys H,i<=xs.length->Pv i σ ys H->aN K H a xs)
  (hs:∀ i x σ ys H,xs[i]?=some x->i<xs.length->Pv i σ ys H->g x σ H λσ2 H4=>tt σ2 H4 λb H5=>if b=true then te σ2 H5 λy H6=>H6 acc=some (.lst ys)/\ys.length<sizeLine/\∃ m',m'<xs.length-i/\(m'=xs.length-(i+1)/\i+1<=xs.length/\Pv (i+1) σ2 (ys++[y]) (upd H6 acc (.lst (ys++[y])))) else ∃ m',m'<xs.length-i/\(m'=xs.length-(i+1)/\i+1<=xs.length/\Pv (i+1) σ2 ys H5))
  (hd:∀ σ ys H,Pv xs.length σ ys H->R H) :
  ∃ W:Nat->Nat->St->List V->Hp->Prop,(∃ m,W 0 m σ [] H)/\∀ i m σ' ys H2,W i m σ' ys H2->(((zF K a).stop i H2/\R H2)\/((zF K a).go i H2/\∀ x H3,(zF K a).vo i H2 x H3->g x σ' H3 λσ2 H4=>tt σ2 H4 λb H5=>
   if b=true then te σ2 H5 λy H6=>H6 acc=some (.lst ys)/\ys.length<sizeLine/\∃ m',m'<m/\W (i+1) m' σ2 (ys++[y]) (upd H6 acc (.lst (ys++[y]))) else ∃ m',m'<m/\W (i+1) m' σ2 ys H5)):=by
 refine ⟨λi m σ ys H=>m=xs.length-i/\i<=xs.length/\Pv i σ ys H,⟨xs.length,by simp,YK _,h0⟩,?_⟩;rintro i m σ ys H ⟨rfl,hi,p⟩;have q:=hl i σ ys H hi p;by_cases eK:i<xs.length
 ·refine .inr ⟨⟨xs,xs[i],q,by simp [eK]⟩,λx H' y=>?_⟩;obtain ⟨e,y⟩:=y;subst e;exact hs i x σ ys _ (y xs q) eK p
 ·have e:i=xs.length:=by omega
  subst e;exact .inl ⟨⟨xs,q,X7 _⟩,hd σ ys H p⟩
def bR (h:wi σ H λJ H1=>∀ acc,H1 acc=none->∃ W:Nat->Nat->St->List V->Hp->Prop,(∃ m,W 0 m (gL n fr σ) [] (upd H1 acc (.lst [])))/\
 ∀ i m σ' ys H2,W i m σ' ys H2->((J.stop i H2/\Q (.ref acc) H2)\/(J.go i H2/\∀ x H3,J.vo i H2 x H3->g x σ' H3 λσ2 H4=>tt σ2 H4 λb H5=>
  if b=true then te σ2 H5 λy H6=>H6 acc=some (.lst ys)/\ys.length<sizeLine/\∃ m',m'<m/\W (i+1) m' σ2 (ys++[y]) (upd H6 acc (.lst (ys++[y]))) else ∃ m',m'<m/\W (i+1) m' σ2 ys H5))):rV wi g tt te n fr σ H Q:=h
end
end L2
namespace Gm
open PySem L2
def put (l:UV) (k:Nat) (x:Int):UV:=l.take k++x::l.drop k
theorem hX (l:UV) (k:Nat) (x:Int):(put l k x).Perm (x::l):=by
 unfold put;refine List.perm_middle.trans ?_;rw [Z6]
theorem iP:y∈put l k x↔y=x\/y∈l:=by rw [(hX l k x).mem_iff,Za]
def sG (h:x∉l) (n:l.Nodup):(put l k x).Nodup:=(hX l k x).nodup_iff.mpr (Yp.mpr ⟨h,n⟩)
structure aB (L:UF):Prop where
 nd:∀ (i:Nat) (l:UV),L[i]?=some l->l.Nodup
 rg:∀ (i:Nat) (l:UV),L[i]?=some l->∀ x∈l,0<=x/\x<L.length/\x≠i
 sy:∀ (i:Nat) (l:UV),L[i]?=some l->∀ x∈l,∀ j:Nat,x=j->∀ m,L[j]?=some m->(i:Int)∈m
structure aX (H:Hp) (p:Addr) (as:XL) (L:UF):Prop where
 top:H p=some (.lst (as.map V.ref))
 len:as.length=L.length
 row:∀ (i:Nat) (a:Addr) (l:UV),as[i]?=some a->L[i]?=some l->H a=some (.lst (l.map V.int))
theorem aX.at (g:aX H p as L) (hi:i<L.length):∃ a l,as[i]?=some a/\L[i]?=some l/\H a=some (.lst (l.map V.int)):=by
 have h2:i<as.length:=by rw [g.len];exact hi
 exact ⟨as[i],L[i],by simp [h2],by simp [hi],g.row i _ _ (by simp [h2]) (by simp [hi])⟩
def aX.same (g:aX H p as L) (e:ah H H'):aX H' p as L:=⟨e _ _ g.top,g.len,λi a l h1 h2=>e _ _ (g.row i a l h1 h2)⟩
theorem aX.ix (g:aX H p as L) {i:Nat} (hi:as[i]?=some a):mq (as.map V.ref) (i:Int)=some (V.ref a):=fg (by rw [Yj,hi];rfl)
theorem wo {H:Hp}:∀ l:UV,gE H (l.map V.int) (l.map PyData.int)
 | []=>.nil
 | i::l=>.cons (.int i) (wo l)
def Ai (h:H a=some (.lst (l.map V.int))):CL H (.ref a) (nK l):=.lst h (wo l)
theorem ah.fresh (e:ah H H') (h:H a=none):ah H (upd H' a o):=λb u q=>by rw [ak (λz=>by rw [z,h] at q;cases q)];exact e b u q
inductive Reach (L:UF) (s:Int):Int->Prop where
 | here:Reach L s s
 | step {i:Nat} {l:UV} {x:Int}:Reach L s i->L[i]?=some l->x∈l->Reach L s x
theorem dh {α:Type} [BEq α] [LawfulBEq α]:∀ {l r:List α},l.Nodup->(∀ x∈l,x∈r)->l.length<=r.length
 | [],_,_,_=>YK _
 | x::l,r,n,h=>by
  have hx:x∈r:=h x Yg;have n2:=Yp.mp n;have ih:=dh (r:=r.erase x) n2.2 λy hy=>by
   have ne:y≠x:=λz=>n2.1 (z▸hy);exact (mem_erase_of_ne ne).mpr (h y (X8 _ hy))
  rw [length_erase_of_mem hx] at ih;have:=ZW hx;rw [YV];omega
theorem cD {n:Nat} {l:UV} (h:l.Nodup) (r:∀ x∈l,0<=x/\x<n):l.length<=n:=by
 have:=dh (r:=(List.range n).map λi:Nat=>(i:Int)) h λx hx=>by
  have:=r x hx;exact Yc.mpr ⟨x.toNat,YO.mpr (by omega),by omega⟩
 simpa using this
def len_eq {α:Type} [BEq α] [LawfulBEq α] {l r:List α} (h1:l.Nodup) (h2:r.Nodup) (h:∀ x,x∈l↔x∈r):l.length=r.length:=
 Nat.le_antisymm (dh h1 λx=>(h x).mp) (dh h2 λx=>(h x).mpr)
theorem aC (h:n<=1000):n<sizeLine:=by rw [Yz];omega
def qS (i:Nat) (l:UV):Nat->UV
 | 0=>[]
 | j+1=>qS i l j++(if ((i+1+j:Nat):Int)∈l then [((i+1+j:Nat):Int)] else [])
def eX (L:UF):Nat->List (Int×Int)
 | 0=>[]
 | k+1=>eX L k++(qS k (L.getD k []) (L.length-(k+1))).map λx=>((k:Int),x)
theorem jH {i:Nat} {l:UV}:∀ {j:Nat} {x:Int},x∈qS i l j↔(i:Int)<x/\x<(i+1+j:Nat)/\x∈l
 | 0,x=>by simp only [qS,YT,false_iff];intro h;omega
 | j+1,x=>by
  rw [qS,zbm,jH];by_cases h:((i+1+j:Nat):Int)∈l
  ·rw [Ya h,zbp];constructor
   ·rintro (⟨h1,h2,h3⟩|rfl)
    ·exact ⟨h1,by omega,h3⟩
    ·exact ⟨by omega,by omega,h⟩
   ·rintro ⟨h1,h2,h3⟩;by_cases e:x=((i+1+j:Nat):Int)
    ·exact .inr e
    ·exact .inl ⟨h1,by omega,h3⟩
  ·rw [X6 h];simp only [YT,Zf];constructor
   ·rintro ⟨h1,h2,h3⟩;exact ⟨h1,by omega,h3⟩
   ·rintro ⟨h1,h2,h3⟩;have:x≠((i+1+j:Nat):Int):=λz=>h (z▸h3);exact ⟨h1,by omega,h3⟩
theorem js {i:Nat} {l:UV}:∀ j,(qS i l j).Pairwise (·<·)
 | 0=>.nil
 | j+1=>by
  rw [qS,pairwise_append];refine ⟨js j,by split<;>simp,λa ha b hb=>?_⟩;have:=jH.mp ha;split at hb
  ·rw [zbp] at hb;omega
  ·cases hb
theorem oM:∀ {l r:UV},l.Pairwise (·<·)->r.Pairwise (·<·)->(∀ x,x∈l↔x∈r)->l=r
 | [],[],_,_,_=>rfl
 | [],b::r,_,_,h=>absurd ((h b).mpr Yg) (by simp)
 | a::l,[],_,_,h=>absurd ((h a).mp Yg) (by simp)
 | a::l,b::r,hl,hr,h=>by
  obtain ⟨l1,l2⟩:=List.pairwise_cons.mp hl;obtain ⟨r1,r2⟩:=List.pairwise_cons.mp hr;have e:a=b:=by
   rcases Yk.mp ((h a).mp Yg) with z|z
   ·exact z
   ·rcases Yk.mp ((h b).mpr Yg) with y|y
    ·exact y.symm
    ·have:=r1 a z;have:=l1 b y;omega
  subst e;rw [oM l2 r2 λx=>?_];constructor
  ·intro z;rcases Yk.mp ((h x).mp (X8 _ z)) with y|y
   ·have:=l1 x z;omega
   ·exact y
  ·intro z;rcases Yk.mp ((h x).mpr (X8 _ z)) with y|y
   ·have:=r1 x z;omega
   ·exact y
theorem strict {l:UV} (h:l.Pairwise (·<=·)) (n:l.Nodup):l.Pairwise (·<·):=by
 have:=h.and n;exact this.imp λ⟨x,y⟩=>by omega
theorem Jo {i n:Nat} {l s:UV} (p:s.Perm l) (h:s.Pairwise (·<=·)) (n1:l.Nodup) (r:∀ x∈l,x<n) (hi:i<n):s.filter (λx=>decide ((i:Int)<x))=qS i l (n-(i+1)):=by
 refine oM ((strict h (p.nodup_iff.mpr n1)).filter _) (js _) λx=>?_;rw [zaR,jH,p.mem_iff];simp only [zbW];constructor
 ·rintro ⟨h1,h2⟩;have:=r x h1;exact ⟨h2,by omega,h1⟩
 ·rintro ⟨h1,h2,h3⟩;exact ⟨h3,h1⟩
theorem wY {i:Nat} {l:UV}:∀ j,(qS i l j).length<=j
 | 0=>X7 _
 | j+1=>by
  rw [qS,Yr];have:=wY (i:=i) (l:=l) j;split<;>simp<;>omega
theorem wZ {L:UF}:∀ k,(eX L k).length<=k*L.length
 | 0=>YK _
 | k+1=>by
  rw [eX,Yr,Pd];have:=wZ (L:=L) k;have:=wY (i:=k) (l:=L.getD k []) (L.length-(k+1));rw [Nat.succ_mul];omega
abbrev PR (H:Hp):XL->List (Int×Int)->Prop:=Paired λa x=>H a=some (.tup [.int x.1,.int x.2])
theorem PR.lst {H:Hp} {t:Addr} {xs zs:List V} {ps:XL} {T:List (Int×Int)} (h:PR H ps T) (ht:H t=some (.lst xs)):PR (upd H t (.lst zs)) ps T:=
 Paired.yW h λa x e=>by
  rw [ak (λz=>by rw [z,ht] at e;cases e)];exact e
def PR.same (h:PR H ps T) (e:ah H H'):PR H' ps T:=Paired.yW h λa x q=>e _ _ q
theorem PR.app {H:Hp}:∀ {ps qs:XL} {T U:List (Int×Int)},PR H ps T->PR H qs U->PR H (ps++qs) (T++U)
 | _,_,_,_,.nil,h=>h
 | _,_,_,_,.cons r t,h=>.cons r (PR.app t h)
def PR.len (h:PR H ps T):ps.length=T.length:=zaM h
structure Fl (L:UF) (s:Int) (ks ws:UV):Prop where
 nd:ks.Nodup
 nw:ws.Nodup
 st:s∈ks
 re:∀ x∈ks,Reach L s x
 sub:∀ x∈ws,x∈ks
 cl:∀ (i:Nat) (l:UV),(i:Int)∈ks->(i:Int)∉ws->L[i]?=some l->∀ x∈l,x∈ks
section
variable {L:UF} {s:Int} {ks ws:UV} {pl k:Nat} {l:UV} {x:Int}
theorem tQ:(l++[x]).Nodup↔x∉l/\l.Nodup:=by
 rw [(zaf x l).nodup_iff,zaS]
theorem vG (h:l[k]?=some x) (hy:y∈l.take (k+1)):y∈l.take k\/y=x:=by
 rw [take_succ,h] at hy;simpa using hy
theorem gY:∀ (ks:UV) (x:Int),(fH (ks.map λx=>((Sum.inl x:Key),V.bl true)) (.inl x)).isSome=decide (x∈ks)
 | [],x=>rfl
 | y::ks,x=>by
  rw [Y8];by_cases e:y=x
  ·subst e;rw [fj rfl];simp
  ·rw [eL (λz=>e (Sum.inl.inj z)),gY ks x];have e':¬x=y:=λz=>e z.symm;simp [e']
theorem wB (h:x∉ks):Tl (ks.map λx=>((Sum.inl x:Key),V.bl true)) (.inl x) (.bl true)=(ks++[x]).map λx=>((Sum.inl x:Key),V.bl true):=by
 rw [jE,Yl]
 ·rfl
 ·have:=gY ks x;rw [Yw h] at this;exact Option.isNone_iff_eq_none.mp (by rw [<-Option.not_isSome,this];rfl)
end
theorem shaped_ints (l:UV):SeqAt.shaped (nK l)=true:=by
 obtain ⟨h1,h2⟩:=lay_ints l;unfold SeqAt.shaped nK;simp [PyData.canLay0,PyData.depth,h1,h2]
theorem G6 (l m:UV):PyData.eqv (nK l) (nK m)=decide (l=m):=by unfold nK;rw [PyData.eqv];exact xK l m
end Gm
namespace L2
open PySem PySem.Spec PySem.W PySem.Calls PyProof.Rows
section
variable {X:Cx} {K:Frag}
def yN (h:X.K=K):nO X (compareOp .In) (Lk K false):=h▸j7
def kE (h:X.K=K):nO X (compareOp .NotIn) (Lk K true):=h▸lU
def lZ (h:X.K=K):OP X (Gd K):=h▸aK
theorem kg (h:X.K=K):fG X (.builtin "len") (λxs H Q=>∃ x n,xs=[x]/\NP K x H n/\Q (.int n) H):=by subst h;exact aL
end
end L2
namespace L2
open PySem PySem.Spec PySem.W PySem.Calls PyProof.Rows HT
section
open PySem.SeqAt
open PySem.AutoSeq1 (wpAny_loadPart')
open PySem.MeetsSeq PySem.MeetsSeq2 PySem.MeetsSeq3
theorem uT (h:IntsAre vs ns) (hi:i<ns.length):∃ t,vs[i]?=some (.int ns[i] t):=by
 induction h generalizing i with
 | nil=>simp at hi
 | cons a t r ih=>
  cases i with
  | zero=>exact ⟨t,rfl⟩
  | succ i=>
   obtain ⟨u,hu⟩:=ih (i:=i) (by simpa using hi);exact ⟨u,by simpa using hu⟩
theorem GD (l b:Addr) (us vs:Array Value) (n1 n2:Nat) (d1 d2:Option Addr) (s1 s2:Array (Option Value)) (ns ms:UV) (hi:IntsAre us.toList ns) (hj:IntsAre vs.toList ms) (k:Nat) :
  ∀ i:Nat,us.size-i=k->i<=ns.length->i<=ms.length->Meets (Builtin.«list.__eq__.loop» ⟨[.ref l,.ref b,rawInt i,rawInt 0],[]⟩)
   (λA R s=>s.heap.get? l=some { cls:=.type "list",dict:=d1,data:=.seq us n1,slots:=s1 }/\
    s.heap.get? b=some { cls:=.type "list",dict:=d2,data:=.seq vs n2,slots:=s2 }/\R (.ok (.ret (.bool (Tm (ns.drop i) (ms.drop i))))) s):=by
 have z1:us.size=ns.length:=by rw [<-hi.length];simp
 have z2:vs.size=ms.length:=by rw [<-hj.length];simp
 have stop:∀ i,i<=ns.length->i<=ms.length->¬(i<ns.length/\i<ms.length)->Tm (ns.drop i) (ms.drop i)=decide (us.size<vs.size):=λi h1 h2 h3=>by
  by_cases q:i<ns.length
  ·have q2:ms.drop i=[]:=drop_eq_nil_of_le (by omega);rw [q2,ZH q,pW];exact (Yw (by omega)).symm
  ·have q2:ns.drop i=[]:=drop_eq_nil_of_le (by omega);rw [q2];by_cases q3:i<ms.length
   ·rw [ZH q3,pV];exact (YC (by omega)).symm
   ·rw [drop_eq_nil_of_le (by omega),rq];exact (Yw (by omega)).symm
 have ends:∀ i,i<=ns.length->i<=ms.length->¬(i<ns.length/\i<ms.length)->Meets (Builtin.«list.__eq__.loop» ⟨[.ref l,.ref b,rawInt i,rawInt 0],[]⟩)
   (λA R s=>s.heap.get? l=some { cls:=.type "list",dict:=d1,data:=.seq us n1,slots:=s1 }/\
    s.heap.get? b=some { cls:=.type "list",dict:=d2,data:=.seq vs n2,slots:=s2 }/\R (.ok (.ret (.bool (Tm (ns.drop i) (ms.drop i))))) s):=by
  intro i h1 h2 h3 prog w A R s h;have e:=stop i h1 h2 h3;obtain ⟨hp,g,d,tk,os⟩:=s;obtain ⟨hl,hb,h⟩:=h;rw [e] at h
  wp_walk using Zm hb,Zm hl
  by_cases q:i<us.size
  ·have x1:us[((i:Nat):Int).toNat]?=some us[i]:=by simp [q]
   have x2:vs[((i:Nat):Int).toNat]?=none:=by simp;omega
   rw [x1,x2]
   wp_walk using Zm hb,Zm hl
   exact h
  ·have x1:us[((i:Nat):Int).toNat]?=none:=by simp;omega
   rw [x1]
   wp_walk using Zm hb,Zm hl
   exact h
 induction k with
 | zero=>exact λi hk h1 h2=>ends i h1 h2 (by omega)
 | succ k ih=>
  intro i hk h1 h2;by_cases Nc:i<ms.length
  ·have S5:i<ns.length:=by omega
   intro prog w A R s h;obtain ⟨hp,g,d,tk,os⟩:=s;obtain ⟨hl,hb,h⟩:=h;obtain ⟨t1,e1⟩:=uT hi S5;obtain ⟨t2,e2⟩:=uT hj Nc;have x1:us[((i:Nat):Int).toNat]?=some (.int ns[i] t1):=by simpa using e1
   have x2:vs[((i:Nat):Int).toNat]?=some (.int ms[i] t2):=by simpa using e2
   rw [ZH S5,ZH Nc,gu] at h
   wp_walk using Zm hb,Zm hl
   rw [x1,x2];obtain ⟨e,he,M6⟩:=EV A.in1 ⟨hp,g,d,tk,os⟩ ns[i] t1 ms[i] t2;refine X5 (he prog w _ _ ?_);have yi:((i:Int)+1)=((i+1:Nat):Int):=by omega
   cases e with
   | true=>
    rw [Ya (M6.mp rfl)] at h
    wp_walk
    rw [yi];refine ⟨ZQ plain_eq_loop _,ZZ entry_eq_loop ?_⟩;rw [Zt plain_eq_loop _];exact ih (i+1) (by omega) ‹_› ‹_› prog w A R _ ⟨hl,hb,h⟩
   | false=>
    rw [X6 (λq=>absurd (M6.mpr q) Yo)] at h
    wp_walk using Zm hb,Zm hl
    rw [x1,x2];have Vq:=Dy A.in1 ⟨hp,g,d,tk,os⟩ ns[i] t1 ms[i] t2 prog w
    wp_walk using Vq
    exact h
  ·exact ends i h1 h2 (by omega)
theorem lX (l b:Addr) (us vs:Array Value) (n1 n2:Nat) (d1 d2:Option Addr) (s1 s2:Array (Option Value)) (ns ms:UV) (hi:IntsAre us.toList ns) (hj:IntsAre vs.toList ms) :
  Meets (Builtin.«list.__lt__» ⟨[.ref l,.ref b],[]⟩)
   (λA R s=>s.heap.get? l=some { cls:=.type "list",dict:=d1,data:=.seq us n1,slots:=s1 }/\
    s.heap.get? b=some { cls:=.type "list",dict:=d2,data:=.seq vs n2,slots:=s2 }/\R (.ok (.ret (.bool (Tm ns ms)))) s):=by
 intro prog w A R s h;obtain ⟨hp,g,d,tk,os⟩:=s;obtain ⟨hl,hb,h⟩:=h;have f3:=AutoSeq1.sub_list_list
 wp_walk using Zm hb,Zm hl
 refine ⟨ZQ plain_eq_loop _,ZZ entry_eq_loop ?_⟩;rw [Zt plain_eq_loop _];exact GD l b us vs n1 n2 d1 d2 s1 s2 ns ms hi hj _ 0 rfl (YK _) (YK _) prog w A R _ ⟨hl,hb,h⟩
end
theorem Em (hl:s.heap.IsList l us) (hb:s.heap.IsList b vs) (hi:IntsAre us.toList ns) (hj:IntsAre vs.toList ms) (hu:A.units<cLine) (h:Q (.bool (Tm ns ms)) s) :
  wpAny (model prog w) A (compareOp .Lt (.ref l) (.ref b)) Q E s:=by
 obtain ⟨⟨c1,d1,a1,z1⟩,h1,k1,n1,q1⟩:=id hl;obtain ⟨⟨c2,d2,a2,z2⟩,h2,k2,n2,q2⟩:=id hb;dsimp only at k1 q1 k2 q2;subst k1 q1 k2 q2;exact richCompare_meets_room (op:=.Lt) ⟨_,h1,rfl⟩ ⟨_,h2,rfl⟩ zbt PySem.F.entry_list_lt (PySem.F.args_list_lt_2 _ _) (lX l b us vs n1 n2 d1 d2 z1 z2 ns ms hi hj)
  ⟨h1,h2,show Value.bool (Tm ns ms)≠Value.notImplemented/\Q (.bool (Tm ns ms)) s from ⟨nofun,h⟩⟩ hu
theorem wL (hl:s.heap.IsList l us) (hb:s.heap.IsList b vs) (hi:IntsAre us.toList ns) (hj:IntsAre vs.toList ms) (hu:A.units<cLine) (h:Q (Tm ns ms) s) :
  wpAny (model prog w) A (oneLt' true (.ref l) (.ref b)) Q E s:=by
 obtain ⟨⟨c1,d1,a1,z1⟩,h1,k1,n1,q1⟩:=id hl;obtain ⟨⟨c2,d2,a2,z2⟩,h2,k2,n2,q2⟩:=id hb;dsimp only at k1 q1 k2 q2;subst k1 q1 k2 q2;rw [oneLt'_eq];simp only [zbU];refine X5 (wpAny_cRoomFor hu ?_);refine X5 (wpAny_callSpecialIfBound?_slot ⟨_,h1,rfl⟩ zbt (zaH zbt ⟨_,h1,rfl⟩ PySem.F.entry_list_lt (PySem.F.args_list_lt_2 _ _) (lX l b us vs n1 n2 d1 d2 z1 z2 ns ms hi hj) ⟨h1,h2,?_⟩));exact ZV h
theorem uQ:∀ a:UV,Tm a a=false
 | []=>rfl
 | x::a=>by rw [gu,Ya rfl];exact uQ a
theorem lex_trans:∀ {a b c:UV},Tm a b=true->Tm b c=true->Tm a c=true
 | [],[],_,h,_=>by cases h
 | [],_::_,[],_,h=>by cases h
 | [],_::_,_::_,_,_=>rfl
 | _::_,[],_,h,_=>by cases h
 | _::_,_::_,[],_,h=>by cases h
 | x::a,y::b,z::c,h1,h2=>by
  rw [gu] at h1 h2 ⊢;by_cases e1:x=y
  ·subst e1;by_cases e2:x=z
   ·subst e2;rw [Ya rfl] at h1 h2 ⊢;exact lex_trans h1 h2
   ·rw [X6 e2] at h2 ⊢;exact h2
  ·rw [X6 e1] at h1;have g1:x<y:=ZX h1;by_cases e2:y=z
   ·subst e2;rw [X6 e1];exact h1
   ·rw [X6 e2] at h2;have g2:y<z:=ZX h2;rw [X6 (by omega)];exact YC (by omega)
theorem lY:∀ {a b:UV},Tm a b=false->Tm b a=false->a=b
 | [],[],_,_=>rfl
 | [],_::_,h,_=>by cases h
 | _::_,[],_,h=>by cases h
 | x::a,y::b,h1,h2=>by
  rw [gu] at h1 h2;by_cases e:x=y
  ·subst e;rw [Ya rfl] at h1 h2;rw [lY h1 h2]
  ·rw [X6 e] at h1;rw [X6 (λz=>e z.symm)] at h2;have g1:=zbN h1;have g2:=zbN h2;omega
theorem Et {a b:UV} (h:Tm a b=true):Tm b a=false:=by
 cases q:Tm b a with
 | false=>rfl
 | true=>have:=lex_trans h q;rw [uQ] at this;cases this
def Le (a b:UV):Prop:=Tm b a=false
def Le.refl (a:UV):Le a a:=uQ a
theorem Le.trans (h1:Le a b) (h2:Le b c):Le a c:=by
 unfold Le at *;cases q:Tm c a with
 | false=>rfl
 | true=>
  by_cases e:Tm a b=true
  ·have:=lex_trans q e;rw [h2] at this;cases this
  ·have e2:a=b:=lY (by simpa using e) h1;subst e2;rw [h2] at q;cases q
def Le.of_lt {a b:UV} (h:Tm a b=true):Le a b:=Et h
def Le.Q8 (h1:Le a b) (h2:Le b a):a=b:=lY h2 h1
end L2
namespace L2
open PySem PySem.Spec PySem.W PySem.Calls PyProof.Rows
def vm (cmp:Nat->Nat->(Bool->Shared->Prop)->Shared->Prop) (n:Nat) (f:Nat->UV) (s:Shared):Prop:=∀ i j C,i<n->j<n->C (HT.Tm (f i) (f j)) s->cmp i j C s
structure Arr (n:Nat) (p:Array Nat):Prop where
 size:p.size=n
 perm:p.Perm (List.toArray (List.range n))
def kf (f:Nat->UV) (p:Array Nat) (i:Nat):UV:=f (p.getD i 0)
theorem Arr.lt (h:Arr n p) (hi:i<n):p.getD i 0<n:=by
 have e:p.getD i 0=p[i]'(by rw [h.size];exact hi):=by simp [Array.getD,h.size,hi]
 have m:p[i]'(by rw [h.size];exact hi)∈p:=Array.getElem_mem _;have:=(h.perm.mem_iff).mp m;rw [e];simpa using this
theorem kf_at (h:p[i]?=q[j]?):kf f p i=kf f q j:=by
 unfold kf;rw [Z2,Z2,h]
theorem Arr.rev (h:Arr n p) (i j:Nat):Arr n (kas_rev p i j):=⟨by unfold kas_rev;rw [mirror_size];exact h.size,(mirror_perm _ _ _ _).trans h.perm⟩
theorem Arr.WH (h:Arr n p) (i j:Nat):Arr n (bubble p i j):=⟨by rw [bubble_size];exact h.size,(bubble_perm _ _ _).trans h.perm⟩
theorem uS (h:Arr n p) (hj:j<=n) (k:Nat):kf f (kas_rev p i j) k=if i<=k/\k<j then kf f p (i+j-1-k) else kf f p k:=by
 have e:=getElem?_mirror_all (xs:=p) (i:=i) (j:=j) (by rw [h.size];exact hj) k;by_cases q:i<=k/\k<j
 ·rw [Ya q] at e ⊢;exact kf_at e
 ·rw [X6 q] at e ⊢;exact kf_at e
def Up (f:Nat->UV) (p:Array Nat) (m:Nat):Prop:=∀ i,i+1<m->Le (kf f p i) (kf f p (i+1))
def Dn (f:Nat->UV) (p:Array Nat) (m:Nat):Prop:=∀ i,i+1<m->Le (kf f p (i+1)) (kf f p i)
theorem Up.le (h:Up f p m) (Kt:i<=j) (hj:j<m):Le (kf f p i) (kf f p j):=by
 induction j with
 | zero=>
      obtain rfl:i=0:=by omega
      exact Le.refl _
 | succ j ih=>
  by_cases e:i=j+1
  ·rw [e];exact Le.refl _
  ·exact (ih (by omega) (ZJ ‹_›)).trans (h j hj)
theorem Dn.le (h:Dn f p m) (Kt:i<=j) (hj:j<m):Le (kf f p j) (kf f p i):=by
 induction j with
 | zero=>
      obtain rfl:i=0:=by omega
      exact Le.refl _
 | succ j ih=>
  by_cases e:i=j+1
  ·rw [e];exact Le.refl _
  ·exact (h j hj).trans (ih (by omega) (ZJ ‹_›))
theorem zD (hc:vm cmp n f s) {p:Array Nat} (hp:Arr n p) {Q:Nat->Shared->Prop}:∀ (fu m:Nat),1<=m->m+fu<=n->Up f p m->(∀ m',m<=m'->m'<=m+fu->Up f p m'->(m'=m+fu\/HT.Tm (kf f p m') (kf f p (m'-1))=true)->Q m' s)->(kas_asc p fu m).kasWp cmp Q s
 | 0,m,_,_,u,k=>k m (X7 _) (X7 _) u (.inl rfl)
 | fu+1,m,h1,h2,u,k=>by
  refine hc _ _ _ (hp.lt (by omega)) (hp.lt (by omega)) ?_;show (if _ then _ else _:KasT Nat).kasWp cmp Q s;cases q:HT.Tm (f (p.getD m 0)) (f (p.getD (m-1) 0)) with
  | true=>rw [Ya rfl];exact k m (X7 _) (by omega) u (.inr q)
  | false=>
   rw [X6 (by decide)];refine zD hc hp fu (m+1) (TD _) (by omega) (λi hi=>?_) λm' a1 a2 a3 a4=>k m' (ZJ ‹_›) (by omega) a3 (a4.imp (λz=>by omega) id);by_cases e:i+1=m
   ·have:i=m-1:=by omega
    rw [e,this];exact q
   ·exact u i (by omega)
def Flt (f:Nat->UV) (p:Array Nat) (m q:Nat):Prop:=∀ i,m-(q+1)<=i->i<m->kf f p i=kf f p (m-1)
theorem oV (hp:Arr n p) (hm:m<=n) (hq:q+1<=m) (h:Flt f p m q) (k:Nat):kf f (kas_rev p (m-(q+1)) m) k=kf f p k:=by
 rw [uS hp hm];by_cases e:m-(q+1)<=k/\k<m
 ·rw [Ya e,h _ (by omega) (by omega),<-h k e.1 e.2]
 ·rw [X6 e]
theorem oy (hc:vm cmp n f s) {Q:Array Nat×Nat×Nat->Shared->Prop}:∀ (fu:Nat) (p:Array Nat) (m q:Nat),Arr n p->1<=m->m+fu<=n->q+1<=m->Dn f p m->Flt f p m q->
  (∀ p' m' q',Arr n p'->1<=m'->m'<=m+fu->q'+1<=m'->Dn f p' m'->Flt f p' m' q'->Q (p',m',q') s)->(kas_desc fu p m q).kasWp cmp Q s
 | 0,p,m,q,hp,h1,_,hq,d,fl,k=>k p m q hp h1 (X7 _) hq d fl
 | fu+1,p,m,q,hp,h1,h2,hq,d,fl,k=>by
  refine hc _ _ _ (hp.lt (by omega)) (hp.lt (by omega)) ?_;show (if _ then _ else _:KasT _).kasWp cmp Q s;cases c:HT.Tm (f (p.getD m 0)) (f (p.getD (m-1) 0)) with
  | true=>
   rw [Ya rfl];have d2:∀ p',(∀ j,kf f p' j=kf f p j)->Dn f p' (m+1):=λp' e i hi=>by
    rw [e,e];by_cases z:i+1=m
    ·have:i=m-1:=by omega
     rw [z,this];exact Le.of_lt c
    ·exact d i (by omega)
   have f2:∀ p',Flt f p' (m+1) 0:=λp' i a b=>by
    have:i=m:=by omega
    rw [this];rfl
   by_cases z:q > 0
   ·rw [Ya z];refine oy hc fu _ (m+1) 0 (hp.rev _ _) (TD _) (by omega) (TD _) (d2 _ λj=>oV hp (by omega) hq fl j) (f2 _) λp' m' q' a1 a2 a3 a4 a5 a6=>k p' m' q' a1 a2 (by omega) a4 a5 a6
   ·rw [X6 z];refine oy hc fu _ (m+1) 0 hp (TD _) (by omega) (TD _) (d2 _ λ_=>rfl) (f2 _) λp' m' q' a1 a2 a3 a4 a5 a6=>k p' m' q' a1 a2 (by omega) a4 a5 a6
  | false=>
   rw [X6 (by decide)];refine hc _ _ _ (hp.lt (by omega)) (hp.lt (by omega)) ?_;show (if _ then _ else _:KasT _).kasWp cmp Q s;cases c2:HT.Tm (f (p.getD (m-1) 0)) (f (p.getD m 0)) with
   | true=>rw [Ya rfl];exact k p m q hp h1 (by omega) hq d fl
   | false=>
    rw [X6 (by decide)];have e:kf f p m=kf f p (m-1):=lY c c2;refine oy hc fu p (m+1) (q+1) hp (TD _) (by omega) (T0 ‹_›) (λi hi=>?_) (λi a b=>?_) λp' m' q' a1 a2 a3 a4 a5 a6=>k p' m' q' a1 a2 (by omega) a4 a5 a6
    ·by_cases z:i+1=m
     ·have:i=m-1:=by omega
      rw [z,this,e];exact Le.refl _
     ·exact d i (by omega)
    ·show kf f p i=kf f p (m+1-1);rw [ZP];by_cases z:i=m
     ·rw [z]
     ·rw [fl i (by omega) (by omega),e]
theorem vH (hc:vm cmp n f s) (hp:Arr n p) (h1:1<=m) (h2:m<=n) (d:Dn f p m) (k:∀ m' p',Arr n p'->m'<=n->1<=m'->Up f p' m'->Q (m',p') s):(kas_tail3 m n p).kasWp cmp Q s:=by
 unfold kas_tail3;rw [zaO];refine zD hc (hp.rev 0 m) (n-m) m h1 (by omega) (λi hi=>?_) λm' a1 a2 a3 _=>k m' _ (hp.rev 0 m) (by omega) (by omega) a3;rw [uS hp h2,uS hp h2,Ya (by omega),Ya (by omega)];exact d.le (by omega) (by omega)
theorem nJ (hc:vm cmp n f s) (hp:Arr n p) (h2:m+1<=n) (h1:1<=m) (d:Dn f p (m+1)) (k:∀ m' p',Arr n p'->m'<=n->1<=m'->Up f p' m'->Q (m',p') s):(kas_descPart m n p).kasWp cmp Q s:=by
 unfold kas_descPart;rw [zaO];refine oy hc (n-(m+1)) p (m+1) 0 hp (TD _) (by omega) (TD _) d (λi a b=>?_) λp' m' q' a1 a2 a3 a4 a5 a6=>?_
 ·have:i=m:=by omega
  rw [this];rfl
 ·dsimp only;by_cases z:q' > 0
  ·rw [Ya z];refine vH hc (a1.rev _ _) a2 (by omega) (λi hi=>?_) k;rw [oV a1 (by omega) a4 a6,oV a1 (by omega) a4 a6];exact a5 i hi
  ·rw [X6 z];exact vH hc a1 a2 (by omega) a5 k
theorem E6 (hc:vm cmp n f s) (hp:Arr n p) (h1:1<=n) (k:∀ m' p',Arr n p'->m'<=n->1<=m'->Up f p' m'->Q (m',p') s):(kas_count n p).kasWp cmp Q s:=by
 unfold kas_count;rw [zaO];refine zD hc hp (n-1) 1 (X7 _) (by omega) (λi hi=>by omega) λm a1 a2 a3 a4=>?_;by_cases z:m=n
 ·rw [Ya (by simpa using z)];exact k m p hp (by omega) a1 a3
 ·rw [X6 (by simpa using z)];have st:HT.Tm (kf f p m) (kf f p (m-1))=true:=a4.resolve_left (by omega);by_cases y:m > 1
  ·rw [Ya y];refine hc _ _ _ (hp.lt ‹_›) (hp.lt (by omega)) ?_;show (if _ then _ else _:KasT _).kasWp cmp Q s;cases c:HT.Tm (f (p.getD 0 0)) (f (p.getD (m-1) 0)) with
   | true=>rw [Ya rfl];exact k m p hp (by omega) a1 a3
   | false=>
    rw [X6 (by decide)];have al:∀ i,i<m->kf f p i=kf f p (m-1):=λi hi=>Le.Q8 (a3.le (by omega) (by omega)) (Le.trans (show Le (kf f p (m-1)) (kf f p 0) from c) (a3.le (YK _) hi));have rv:∀ j,kf f (kas_rev p 0 m) j=kf f p j:=λj=>by
     rw [uS hp (by omega)];by_cases e:0<=j/\j<m
     ·rw [Ya e,al _ (by omega),<-al j e.2]
     ·rw [X6 e]
    refine nJ hc (hp.rev 0 m) (by omega) a1 (λi hi=>?_) k;rw [rv,rv];by_cases e:i+1=m
    ·have:i=m-1:=by omega
     rw [e,this];exact Le.of_lt st
    ·rw [al i (by omega),al (i+1) (by omega)];exact Le.refl _
  ·rw [X6 y];refine nJ hc hp (by omega) a1 (λi hi=>?_) k;have:i+1=m:=by omega
   have e2:i=m-1:=by omega
   rw [this,e2];exact Le.of_lt st
theorem pj (hc:vm cmp n f s) {p:Array Nat} (hp:Arr n p) {k:Nat} (hk:k<n) (u:Up f p k) {Q:Nat->Shared->Prop}:∀ (fu l r:Nat),r-l<=fu->l<=r->r<=k->(∀ i,i<l->Le (kf f p i) (kf f p k))->(∀ i,r<=i->i<k->Le (kf f p k) (kf f p i))->
  (∀ l',l'<=k->(∀ i,i<l'->Le (kf f p i) (kf f p k))->(∀ i,l'<=i->i<k->Le (kf f p k) (kf f p i))->Q l' s)->(kas_place p k fu l r).kasWp cmp Q s
 | 0,l,r,h1,h2,h3,h4,h5,q=>q l (by omega) h4 λi a b=>h5 i (by omega) b
 | fu+1,l,r,h1,h2,h3,h4,h5,q=>by
  unfold kas_place;by_cases z:l>=r
  ·rw [Ya z];exact q l (by omega) h4 λi a b=>h5 i (by omega) b
  ·rw [X6 z];refine hc _ _ _ (hp.lt hk) (hp.lt (by omega)) ?_;show (if _ then _ else _:KasT _).kasWp cmp Q s;cases c:HT.Tm (f (p.getD k 0)) (f (p.getD ((l+r) / 2) 0)) with
   | true=>
    rw [Ya rfl];exact pj hc hp hk u fu l ((l+r) / 2) (by omega) (by omega) (by omega) h4 (λi a b=>Le.trans (Le.of_lt c) (u.le a b)) q
   | false=>
    rw [X6 (by decide)];exact pj hc hp hk u fu ((l+r) / 2+1) r (by omega) (by omega) h3 (λi a=>Le.trans (u.le (by omega) (by omega)) (show Le (kf f p ((l+r) / 2)) (kf f p k) from c)) h5 q
theorem E9 (hc:vm cmp n f s) {Q:Array Nat->Shared->Prop}:∀ (fu:Nat) (p:Array Nat) (k:Nat),Arr n p->k+fu=n->Up f p k->(∀ p',Arr n p'->Up f p' n->Q p' s)->(kas_bin fu p k).kasWp cmp Q s
 | 0,p,k,hp,h1,u,q=>q p hp (by rw [<-h1];exact u)
 | fu+1,p,k,hp,h1,u,q=>by
  unfold kas_bin
  rw [zaO];refine pj hc hp (by omega) u k 0 k (Uf _ _) (YK _) (X7 _) (λi h=>by omega) (λi a b=>by omega) λl hl lo hi=>?_;have ek:∀ j,kf f (bubble p k (k-l)) j=if j=l then kf f p k else if l<j/\j<=k then kf f p (j-1) else kf f p j:=λj=>by
   have e:=getElem?_bubble (xs:=p) (src:=k) (by rw [hp.size];omega) (k-l) (Uf _ _) j;have el:k-(k-l)=l:=by omega
   rw [el] at e;by_cases a:j=l
   ·rw [Ya a] at e ⊢;exact kf_at e
   ·rw [X6 a] at e ⊢;by_cases b:l<j/\j<=k
    ·rw [Ya b] at e ⊢;exact kf_at e
    ·rw [X6 b] at e ⊢;exact kf_at e
  refine E9 hc fu _ (k+1) (hp.WH _ _) (by omega) (λi FA=>?_) q;rw [ek,ek];by_cases a:i+1<l
  ·rw [X6 (by omega),X6 (by omega),X6 (YR ‹_›),X6 (by omega)];exact u i (by omega)
  ·by_cases b:i+1=l
   ·rw [X6 (by omega),X6 (by omega),Ya b];exact lo i (by omega)
   ·by_cases c:i=l
    ·rw [Ya c,X6 ‹_›,Ya (by omega)];show Le (kf f p k) (kf f p (i+1-1));rw [ZP];exact hi i (by omega) (by omega)
    ·rw [X6 c,Ya (by omega),X6 ‹_›,Ya (by omega)];have:i+1-1=(i-1)+1:=by omega
     rw [this];exact u (i-1) (by omega)
theorem FV (hc:vm cmp n f s) (h1:1<=n) (q:∀ p,Arr n p->Up f p n->Q p s):(kas_sort n).kasWp cmp Q s:=by
 unfold kas_sort;rw [zaO];refine E6 hc (p:=List.toArray (List.range n)) ⟨by simp,Array.Perm.refl _⟩ h1 λm p hp a1 a2 u=>?_;dsimp only;by_cases z:m<n
 ·rw [Ya z];have e:max m 1=m:=by omega
  rw [e];exact E9 hc (n-m) p m hp (by omega) u q
 ·rw [X6 z];have e:m=n:=by omega
  exact q p hp (e▸u)
theorem Q7 (n:Nat):Arr n (List.toArray (List.range n)):=⟨by simp,Array.Perm.refl _⟩
def gX (h:Heap) (vs:XV) (f:Nat->UV):Prop:=∀ i,i<vs.length->∃ b us,vs[i]?=some (.ref b)/\h.IsList b us/\IntsAre us.toList (f i)
theorem gX.keep (r:gX h vs f) (k:∀ (i:Nat) (b:Addr),vs[i]?=some (.ref b)->∀ o,h.get? b=some o->h'.get? b=some o):gX h' vs f:=λi hi=>by
 obtain ⟨b,us,e,l,q⟩:=r i hi;exact ⟨b,us,e,l.at λo z=>k i b e o z,q⟩
def hZ (vs:XV) (p:Array Nat):Array Value:=List.toArray (p.toList.map λi=>vs.getD i Value.none)
theorem sF (vs:XV):hZ vs (List.toArray (List.range vs.length))=vs.toArray:=by
 unfold hZ
 congr 1
 apply zbE;intro i;rw [Yj];by_cases h:i<vs.length
 ·simp [h]
 ·simp [h]
theorem zK:∀ l:XV,(l.zip l).map (λx=>x.snd)=l
 | []=>rfl
 | x::l=>by rw [zip_cons_cons,Y8,zK l]
def wR (h:Heap) (a:Addr) (vs:XV):Heap:=((h.update a (Obj.mapSeq λ_=>#[])).push (seqObj "tuple" vs.toArray 0)).push (seqObj "list" #[] 0)
theorem GB (hb:b≠a) (e:h.get? b=some o):(wR h a vs).get? b=some o:=by
 have l:=Yi e;unfold wR;rw [zbc,zbc,Heap.get?_update_ne _ _ _ _ hb]
 ·exact e
 ·rw [zaK];exact YR l
 ·rw [size_push',zaK];exact YR (ZK l)
theorem Hj (hr:gX s.heap vs f) (hu:A.units<cLine):vm (kas_cmp prog w A oneType' (pairsOf vs)) vs.length f s:=by
 intro i j C hi hj c;obtain ⟨b1,u1,e1,l1,q1⟩:=hr i hi;obtain ⟨b2,u2,e2,l2,q2⟩:=hr j hj;rw [<-kas_ask_eq];unfold kas_ask;have g1:vs.getD i Value.none=.ref b1:=by rw [Yn,e1];rfl
 have g2:vs.getD j Value.none=.ref b2:=by rw [Yn,e2];rfl
 rw [g1,g2,keyLt'_oneType];exact wL l1 l2 q1 q2 hu c
theorem FW (ho:s.heap.get? a=some (seqObj "list" vs.toArray n)) (OC:vs.length<64) (hu:A.units<cLine) (hr:gX s.heap vs f) (sN:∀ (i:Nat) (b:Addr),vs[i]?=some (.ref b)->b≠a)
  (k:∀ p:Array Nat,Arr vs.length p->Up f p vs.length->P (.done (.ret .none)) { s with heap:=sortedHeap s.heap a vs (hZ vs p) }) :
  wpAny (model prog w) A (Builtin.«list.sort» ⟨[.ref a],[]⟩) P E s:=by
 have JX:vs.length<=sizeLine:=by rw [ZS];omega
 obtain ⟨ep,SN⟩:∃ ep,(s.heap.update a (Obj.mapSeq λ_=>#[])).get? a=some (seqObj "list" #[] ep):=⟨_,get?_update_seq ho (λ_=>#[])⟩;have Ov:(wR s.heap a vs).get? a=some (seqObj "list" #[] ep):=Yh _ (Yh _ SN);have r3:gX (wR s.heap a vs) vs f:=hr.keep λi b e o z=>GB (sN i b e) z;rw [list_sort_plain];refine X5 (listItems_at ho rfl (X5 (listUpdate_at ho rfl (X5 (seqEpoch_at SN rfl (X5 (wpAny_newTuple (X5 (wpAny_newList (Zo ?_) (YK _))) JX)))) (by rw [YE];exact JX) (YK _))));show wpAny (model prog w) A _ P E { s with heap:=wR s.heap a vs };dsimp only;by_cases h2:vs.toArray.size<2
 ·rw [Ya h2,Ya h2];refine X5 (Ym ?_);rw [StateT.run_pure];refine X5 (Ym (X5 (seqEpoch_at Ov rfl ?_)));have eo:(arrOf (SortSt.mk' general' (vs.toArray.zip vs.toArray) #[] 7 none)).map (·.2)=hZ vs (List.toArray (List.range vs.length)):=by
   rw [sF];show (vs.toArray.zip vs.toArray).map (·.2)=vs.toArray;apply Array.ext';simp;exact zK vs
  dsimp only;rw [eo];refine X5 (listUpdate_at Ov rfl ?_ (YK _) (by rw [sF,YE];exact Nat.le_succ_of_le JX));simp only [bne_self_eq_false,YY,ZO];refine Ym (k _ (Q7 _) λi hi=>?_);rw [YE] at h2;omega
 ·rw [X6 h2,X6 h2];have FC:2<=vs.length:=by rw [YE] at h2;omega
  refine X5 (kas_kind (T:=.type "list") FC (λv hv=>?_) rfl rfl ?_)
  ·obtain ⟨i,hi,rfl⟩:=Yv.mp hv;obtain ⟨b,us,e,l,q⟩:=r3 i hi;rw [X4 hi] at e;rw [Yf e];obtain ⟨o,z1,z2,z3⟩:=l;intro A' Q' E' s' kk qq;exact wpAny_typeOf (T:= "list") ⟨o,kk _ _ z1,z2⟩ qq
  ·have Wj:SortSt.mk' oneType' (vs.toArray.zip vs.toArray) #[] 7 none=kas_st oneType' (pairsOf vs) (List.toArray (List.range vs.length)):=by
    have e:=kas_range (pairsOf vs);rw [pairsOf_size] at e;unfold kas_st;rw [e]
    rfl
   have run:=kas_runs (prog:=prog) (w:=w) (A:=A) (κ:=oneType') (it:=pairsOf vs) (E:=E) (Q:=λ_ oe s'=>s'={ s with heap:=wR s.heap a vs }/\∃ p:Array Nat,Arr vs.length p/\Up f p vs.length/\arrOf oe=p.map (kas_item (pairsOf vs))/\failedOf oe=none)
    (G:=λp s'=>s'={ s with heap:=wR s.heap a vs }/\Arr vs.length p/\Up f p vs.length) FC OC (λp' oe s' a1 a2 a3 a4=>⟨a4.1,p',a4.2.1,a4.2.2,a2,a3⟩) (FV (Hj (s:={ s with heap:=wR s.heap a vs }) r3 hu) (ZJ ‹_›) λp h1 h3=>⟨rfl,h1,h3⟩)
   rw [<-Wj] at run;refine X5 (Ze run ?_ λ_ _ e=>e);rintro ⟨⟨⟩,oe⟩ s' ⟨rfl,p,hp,Kk,V1,hf⟩;dsimp only;have eo:(arrOf oe).map (·.2)=hZ vs p:=by
    unfold hZ;apply Array.toList_inj.mp;rw [V1,Array.map_map,Array.toList_map];refine Zg λi _=>?_;rw [Function.comp_apply,kas_item_eq]
   rw [eo];have zo:(hZ vs p).size=vs.length:=by unfold hZ;rw [YE,Pd,Y0,hp.size]
   refine X5 (seqEpoch_at Ov rfl (X5 (listUpdate_at Ov rfl ?_ (YK _) (by rw [zo];exact Nat.le_succ_of_le JX))));rw [hf];simp only [bne_self_eq_false,YY,ZO];exact Ym (k p hp Kk)
theorem BB (hl:s.heap.IsList l vs.toArray) (OC:vs.length<64) (hu:A.in1.in1.units<cLine) (hr:gX s.heap vs f)
  (k:∀ p:Array Nat,Arr vs.length p->Up f p vs.length->Q (.ref (s.heap.objs.size+1)) { s with heap:=sortedAll s.heap vs (hZ vs p) }) :
  wpAny (model prog w) A (call (.builtin "sorted") [.ref l]) Q E s:=by
 have JX:vs.length<=sizeLine:=by rw [ZS];omega
 refine Calls.call_function_entry kind_sorted plain_sorted entry_sorted (args_sorted1 _) ?_;unfold Builtin.«sorted»;refine X5 (m:=checkCount "sorted" 1 1 _) (Ym (X5 (collect_list hl (X5 (wpAny_newList ?_ JX)) JX)));generalize hh:(s.heap.push (seqObj "list" #[] 0)).update s.heap.objs.size (Obj.mapSeq (·++vs.toArray))=h1;have z1:h1.objs.size=s.heap.objs.size+1:=by rw [<-hh,zaK,size_push']
 have o1:(h1.push (seqObj "list" vs.toArray 0)).get? (s.heap.objs.size+1)=some (seqObj "list" vs.toArray 0):=by rw [<-z1];exact YH _ rfl
 have old:∀ b o,s.heap.get? b=some o->(h1.push (seqObj "list" vs.toArray 0)).get? b=some o:=λb o q=>by
  have lt:=Yi q;rw [zbc _ _ _ (by rw [z1];exact YR (ZK lt)),<-hh,Heap.get?_update_ne _ _ _ _ (YR lt),zbc _ _ _ (YR lt)];exact q
 show wpAny _ _ _ _ _ { s with heap:=h1.push (seqObj "list" vs.toArray 0) };rw [z1];refine X5 (Zo (zaq slot_list_sort ⟨_,o1,rfl⟩ entry_list_sort (FW (f:=f) o1 OC hu (hr.keep λi b e o z=>old b o z) (λi b e=>?_) λp hp Kk=>⟨_,rfl,?_⟩) (args_list_sort _)))
 ·obtain ⟨hi,_⟩:=X3.mp e;obtain ⟨b',us,e',⟨o,z,_⟩,_⟩:=hr i hi;rw [e] at e';cases e'
  exact YR (ZK (Yi z))
 ·refine Ym ⟨_,rfl,?_⟩;have:=k p hp Kk;unfold sortedAll at this;rw [hh] at this;exact this
section
variable {A:Around} {R:Result->Shared->Prop} {n:Nat} {P:Nat->Value->Prop} {St:Nat->Heap->Prop} {Kp:Heap->Prop} {bt:Nat->Nat->Bool}
def IV (prog:Program) (w:World) (A:Around) (P:Nat->Value->Prop) (Kp:Heap->Prop) (bt:Nat->Nat->Bool):Prop:=
 ∀ (i j:Nat) (x y:Value) (t:Shared) (Q E:WF),P i x->P j y->Kp t.heap->Q (.bool (bt i j)) t->wpAny (model prog w) A (richCompare .Lt x y) Q E t
theorem yY (W:Walks prog w A.in1 I fp wr n P St) (hc:IV prog w A.in1 P Kp bt) (nf:S∉fp) (jq:∀ h h',Kp h->(∀ b o,b∉wr->b≠S->h.get? b=some o->h'.get? b=some o)->Kp h') :
  ∀ (k j:Nat) (t:Shared) (x:Value) (c:Nat),n-(j+1)=k->j+1<=n->St (j+1) t.heap->Kp t.heap->P (argBest bt j) x->t.heap.get? S=some { cls:=.type "list",dict:=none,data:=.seq #[x,x] c,slots:=#[] }->
  (∀ v h' tk,P (argBest bt (n-1)) v->(∀ b o,b∉wr->b≠S->t.heap.get? b=some o->h'.get? b=some o)->R (.ok (.ret v)) { t with heap:=h',toks:=tk })->codeAny (model prog w) A (.builtin "min.loop" ⟨[.ref I,.none,.ref S],[]⟩) R t:=by
 have nw:S∉wr:=λz=>nf (W.sub _ z);have nm:(toString "min"++toString ".loop" : String) = "min.loop":=by decide
 intro k
 induction k with
 | zero=>
  intro j t x c hk hj st kp px hS hR;have jn:j+1=n:=by omega
  refine ZZ F.entry_min_loop ?_;rw [Zt Z7 _];show wpAny _ A.in1 (seqItems? (.ref S) >>= _) _ _ t;refine X5 (zar hS rfl ?_);show wpAny _ A.in1 (tryCatch (pyNext (.ref I)) _ >>= _) _ _ t;refine X5 (wpAny_tryCatch (W.done t _ _ (jn▸st) λh' tk kk=>?_));have yj:=kk S _ nw hS;show wpAny _ A.in1 (updateSeq S (λ_=>#[]) >>= _) _ _ _;refine X5 (Z0 yj rfl (X5 (zaX (Ym (hR x _ tk (by rw [<-jn];exact px) λb o b1 b2 e=>?_)))));rw [Y9 _ _ (YU b2)];exact kk b o b1 e
 | succ k ih=>
  intro j t x c hk hj st kp px hS hR;have lt:j+1<n:=by omega
  refine ZZ F.entry_min_loop ?_;rw [Zt Z7 _];show wpAny _ A.in1 (seqItems? (.ref S) >>= _) _ _ t;refine X5 (zar hS rfl ?_);show wpAny _ A.in1 (tryCatch (pyNext (.ref I)) _ >>= _) _ _ t;refine X5 (wpAny_tryCatch (W.item (j+1) t _ _ lt st λv h' tk pv CB kk=>?_));have yj:=kk S _ nw hS;have JY:Kp h':=jq _ _ kp λb o b1 _ e=>kk b o b1 e;show wpAny _ A.in1 (tryCatch (holding [v,v] (richCompare .Lt v x >>= _)) _ >>= _) _ _ _;refine X5 (wpAny_tryCatch (Zo (X5 (hc (j+1) (argBest bt j) v x _ _ _ pv px JY (X5 (Zo (ZV (X5 (zaX (Ym ?_))))))))));cases hb:bt (j+1) (argBest bt j) with
  | true=>
   simp only [zbU];refine X5 (Z0 yj rfl (X5 (zaX ?_)));rw [nm];have up:∀ b o,b≠S->h'.get? b=some o->(h'.update S (Obj.mapSeq λ_=>#[v,v])).get? b=some o:=λb o b2 e=>by rw [Y9 _ _ (YU b2)];exact e
   refine Ym ⟨ZQ Z7 _,ih (j+1) _ v _ (by omega) lt (W.frame _ _ _ CB λb bf o e=>up b o (λz=>nf (z▸bf)) e) (jq _ _ JY λb o _ b2 e=>up b o b2 e) (by simp only [argBest,hb,zbU];exact pv) (Zd _ yj rfl) λv2 h2 LQ p2 k2=>?_⟩;exact hR v2 h2 LQ p2 λb o b1 b2 e=>k2 b o b1 b2 (up b o b2 (kk b o b1 e))
  | false=>
   simp only [YY,ZO];refine X5 (zaX ?_);rw [nm];exact Ym ⟨ZQ Z7 _,ih (j+1) _ x c (by omega) lt CB JY (by simp only [argBest,hb,YY,ZO];exact px) yj λv2 h2 LQ p2 k2=>hR v2 h2 LQ p2 λb o b1 b2 e=>k2 b o b1 b2 (kk b o b1 e)⟩
theorem w9 (W:Walks prog w A.in1 I fp wr n P St) (hc:IV prog w A.in1 P Kp bt) (nf:S∉fp) (jq:∀ h h',Kp h->(∀ b o,b∉wr->b≠S->h.get? b=some o->h'.get? b=some o)->Kp h') (n0:0<n) (st:St 0 t.heap) (kp:Kp t.heap) (hS:t.heap.get? S=some { cls:=.type "list",dict:=none,data:=.seq #[] c,slots:=#[] })
  (hR:∀ v h' tk,P (argBest bt (n-1)) v->(∀ b o,b∉wr->b≠S->t.heap.get? b=some o->h'.get? b=some o)->R (.ok (.ret v)) { t with heap:=h',toks:=tk }):codeAny (model prog w) A (.builtin "min.loop" ⟨[.ref I,.none,.ref S],[]⟩) R t:=by
 have nw:S∉wr:=λz=>nf (W.sub _ z);have nm:(toString "min"++toString ".loop" : String) = "min.loop":=by decide
 refine ZZ F.entry_min_loop ?_;rw [Zt Z7 _];show wpAny _ A.in1 (seqItems? (.ref S) >>= _) _ _ t;refine X5 (zar hS rfl ?_);show wpAny _ A.in1 (tryCatch (pyNext (.ref I)) _ >>= _) _ _ t;refine X5 (wpAny_tryCatch (W.item 0 t _ _ n0 st λv h' tk pv CB kk=>?_));have yj:=kk S _ nw hS;show wpAny _ A.in1 (updateSeq S (λ_=>#[v,v]) >>= _) _ _ _;refine X5 (Z0 yj rfl ?_);rw [nm];have up:∀ b o,b≠S->h'.get? b=some o->(h'.update S (Obj.mapSeq λ_=>#[v,v])).get? b=some o:=λb o b2 e=>by rw [Y9 _ _ (YU b2)];exact e
 have JY:Kp h':=jq _ _ kp λb o b1 _ e=>kk b o b1 e;exact Ym ⟨ZQ Z7 _,yY W hc nf jq _ 0 _ v _ rfl n0 (W.frame _ _ _ CB λb bf o e=>up b o (λz=>nf (z▸bf)) e) (jq _ _ JY λb o _ b2 e=>up b o b2 e) pv (Zd _ yj rfl)
  λv2 h2 LQ p2 k2=>hR v2 h2 LQ p2 λb o b1 b2 e=>k2 b o b1 b2 (up b o b2 (kk b o b1 e))⟩
end
theorem Bl (f:Nat->UV):∀ k,argBest (λi j=>HT.Tm (f i) (f j)) k<=k/\∀ j,j<=k->Le (f (argBest (λi j=>HT.Tm (f i) (f j)) k)) (f j)
 | 0=>⟨X7 _,λj hj=>by
                    obtain rfl:j=0:=by omega
                    exact Le.refl _⟩
 | k+1=>by
  obtain ⟨h1,h2⟩:=Bl f k;unfold argBest;cases q:HT.Tm (f (k+1)) (f (argBest (λi j=>HT.Tm (f i) (f j)) k)) with
  | true=>
   rw [Ya rfl];refine ⟨X7 _,λj hj=>?_⟩;by_cases e:j=k+1
   ·rw [e];exact Le.refl _
   ·exact Le.trans (Le.of_lt q) (h2 j (by omega))
  | false=>
   rw [X6 (by decide)];refine ⟨by omega,λj hj=>?_⟩;by_cases e:j=k+1
   ·rw [e];exact q
   ·exact h2 j (by omega)
theorem Eu (hh:A.handled=none) (hl:s.heap.IsList l vs.toArray) (hu:A.in1.units<cLine) (hr:gX s.heap vs f) (h0:0<vs.length)
  (k:∀ (i:Nat) (v:Value) h' tk,vs[i]?=some v->(∀ j,j<vs.length->Le (f i) (f j))->(∀ b o,s.heap.get? b=some o->h'.get? b=some o)->Q v { s with heap:=h',toks:=tk }) :
  wpAny (model prog w) A (call (.builtin "min") [.ref l]) Q E s:=by
 have nm:(toString "min"++toString ".loop" : String) = "min.loop":=by decide
 have ll:l<s.heap.objs.size:=by obtain ⟨_,e,_⟩:=id hl;exact Yi e
 have low:∀ (i:Nat) (b:Addr),vs[i]?=some (.ref b)->b<s.heap.objs.size:=λi b e=>by
  obtain ⟨b',us,e',⟨o,z,_⟩,_⟩:=hr i (X3.mp e).1;rw [e] at e';cases e'
  exact Yi z
 refine call_function_tree F.kind_min F.plain_min F.entry_min (F.args_min1 _) ?_;show wpAny _ A.in1 (Builtin.Builtins.bindParams "min" ["key", "default"] 0 ⟨[],[]⟩ >>= _) _ _ s;refine X5 (zaI (show Builtin.Builtins.bindParams "min" ["key", "default"] 0 ⟨[],[]⟩=pure [none,none] from rfl) (X5 (Ym (X5 (wpAny_pyIter_list hl (X5 (zaD ?_)))))));rw [nm];generalize hg:s.heap.push { cls:=.type "list_iterator",data:=.fields #[.ref l,.int 0 0] }=g;have zg:g.objs.size=s.heap.objs.size+1:=by rw [<-hg,Heap.size_push]
 have og:∀ b o,s.heap.get? b=some o->g.get? b=some o:=λb o e=>hg▸Yh _ e;have il:g.IsListIter s.heap.objs.size l 0:=hg▸⟨_,YH _ rfl,rfl,rfl⟩;refine Ym ⟨ZQ Z7 _,w9 (Kp:=λh=>gX h vs f) (bt:=λi j=>HT.Tm (f i) (f j)) (W:=Walks.list (A:=A.in1) hh s.heap.objs.size l (YR ll) vs.toArray) (S:=g.objs.size)
  (λi j x y t Q' E' px py kp q=>?_) (λz=>?_) (λh h' r kk=>?_) (by simpa using h0) ⟨il.at λo e=>Yh _ e,hl.at λo e=>Yh _ (og _ _ e)⟩ (hr.keep λi b _ o e=>Yh _ (og _ _ e)) (YH _ rfl) λv h' tk pv kk=>?_⟩
 ·have R6:vs[i]?=some x:=by simpa using px
  have R5:vs[j]?=some y:=by simpa using py
  obtain ⟨b1,u1,e1,l1,q1⟩:=kp i (X3.mp R6).1;obtain ⟨b2,u2,e2,l2,q2⟩:=kp j (X3.mp R5).1;rw [R6] at e1;rw [R5] at e2;cases e1
  cases e2
  exact Em l1 l2 q1 q2 hu q
 ·have:g.objs.size=s.heap.objs.size\/g.objs.size=l:=by simpa using z
  rcases this with e|e
  ·exact absurd (zg.symm.trans e) (Nat.succ_ne_self _)
  ·exact absurd (zg.symm.trans e) (Zq (ZK ll))
 ·refine r.keep λi b e o z=>kk b o (λy=>?_) (λy=>?_) z
  ·have:b=s.heap.objs.size:=by simpa using y
   exact absurd (low i b e) (by rw [this];exact YN _)
  ·exact absurd (low i b e) (by rw [y,zg];exact Nat.lt_asymm (ZG _))
 ·have Uk:vs[argBest (λi j=>HT.Tm (f i) (f j)) (vs.length-1)]?=some v:=by simpa using pv
  have bl:=Bl f (vs.length-1);refine k _ v h' tk Uk (λj hj=>bl.2 j (by omega)) λb o e=>kk b o ?_ ?_ (Yh _ (og b o e))
  ·intro z;have:b=s.heap.objs.size:=by simpa using z
   exact absurd (Yi e) (by rw [this];exact YN _)
  ·intro z;exact absurd (Yi e) (by rw [z,zg];exact Nat.lt_asymm (ZG _))
theorem vL:∀ (l:UV) (x:Int),(l++[x]).sum=l.sum+x
 | [],x=>by simp
 | y::l,x=>by rw [Z4,sum_cons,sum_cons,vL l x];omega
theorem sL:∀ (l:UV) (y:Int) (m:Nat) (h:m<l.length),m<l.idxOf y->l[m]≠y
 | [],_,m,h,_=>by simp at h
 | z::l,y,m,h,hm=>by
  rw [zaJ] at hm;by_cases e:z=y
  ·rw [e] at hm;simp at hm
  ·have e2:(z==y)=false:=zaA e;rw [e2] at hm;cases m with
   | zero=>exact e
   | succ m=>
    have h2:m<l.length:=by simpa using h
    have h3:m<l.idxOf y:=by simpa using hm
    exact sL l y m h2 h3
theorem Ad {σ:St} {s:Shared} (I:Inv X pins σ H s):∀ {as:XL} {L:UF} {aY:XV},Vals (as.map V.ref) aY->as.length=L.length->(∀ (i:Nat) (a:Addr) (l:UV),as[i]?=some a->L[i]?=some l->aN X.K H a (l.map V.int))->gX s.heap aY (λi=>L.getD i []):=by
 intro as L aY rv hl hs i hi;have z:=rv.length;rw [Pd] at z;have ha:i<as.length:=by omega
 have hL:i<L.length:=by omega
 obtain ⟨u,hu,ru⟩:=rv.get (i:=i) (show (as.map V.ref)[i]?=some (V.ref as[i]) by simp [ha]);cases ru
 obtain ⟨rs,rr,rp,_⟩:=I.list (hs i as[i] L[i] (by simp [ha]) (by simp [hL]));refine ⟨as[i],rs.toArray,hu,rp.isList,?_⟩;have e:L.getD i []=L[i]:=by simp [hL]
 dsimp only;rw [e];exact intsAre_of rr
def pick {α:Type} (d:α) (L:List α) (p:Array Nat):List α:=p.toList.map λi=>L.getD i d
def DN (K:Frag):List V->Hp->VK->Prop:=λvs H Q=>∃ (a:Addr) (as:XL) (L:UF),vs=[.ref a]/\aN K H a (as.map V.ref)/\as.length=L.length/\(∀ (i:Nat) (b:Addr) (l:UV),as[i]?=some b->L[i]?=some l->aN K H b (l.map V.int))/\as.length<64/\
 ∀ (p:Array Nat) (q:Addr),Arr L.length p->Up (λi=>L.getD i []) p L.length->H q=none->Q (.ref q) (upd H q (.lst ((pick 0 as p).map V.ref)))
theorem vc (hu:X.A.units+64<cLine):fG X (.builtin "sorted") (DN X.K):=by
 intro pins s σ H xs us Q I r h;obtain ⟨a,as,L,rfl,ha,hl,hs,OC,q⟩:=h;obtain ⟨u,rfl,ru⟩:=vals1 r;cases ru
 obtain ⟨aY,rv,pl,hz⟩:=I.list ha;have z:=rv.length;rw [Pd] at z;refine BB (f:=λi=>L.getD i []) pl.isList (by omega) (by simp only [Around.in1_units];omega) (Ad I rv hl hs) λp hp Kk=>?_;obtain ⟨ep,k1⟩:=sortedAll_at s.heap aY (hZ aY p);have Iy:Arr L.length p:=by rw [<-hl,z];exact hp
 have Fx:((pick 0 as p).map V.ref).length<=sizeLine:=by unfold pick;rw [Pd,Pd,Y0,hp.size,Yz];omega
 have Ub:Vals ((pick 0 as p).map V.ref) (hZ aY p).toList:=by
  have go:∀ l:List Nat,(∀ i∈l,i<aY.length)->Vals ((l.map λi=>as.getD i 0).map V.ref) (l.map λi=>aY.getD i Value.none):=by
   intro l
   induction l with
   | nil=>intro _;exact .nil
   | cons i l ih=>
    intro h;refine .cons ?_ (ih λj hj=>h j (X8 _ hj));have hi:=h i Yg;have FA:i<as.length:=by omega
    obtain ⟨u,hu,ru⟩:=rv.get (i:=i) (show (as.map V.ref)[i]?=some (V.ref as[i]) by simp [FA]);have e1:as.getD i 0=as[i]:=by simp [FA]
    have e2:aY.getD i Value.none=u:=by rw [Yn,hu];rfl
    dsimp only;rw [e1,e2];exact ru
  refine go _ λi hi=>?_;have:=(hp.perm.mem_iff).mp (Array.mem_toList_iff.mp hi);simpa using this
 have new:bC X.prog X.w (upd H (s.heap.objs.size+1) (.lst ((pick 0 as p).map V.ref))) (sortedAll s.heap aY (hZ aY p)) (s.heap.objs.size+1) (.lst ((pick 0 as p).map V.ref)):=⟨Fx,(hZ aY p).toList,ep,Ub,by simpa [seqObj] using k1⟩;exact ⟨.ref (s.heap.objs.size+1),_,I.laid (t':=s.toks) (λb o e=>sortedAll_old e) (zaW _) new,rfl,q p _ Iy (by rw [<-hl,z];exact Kk) (I.bH.fresh (zaW _))⟩
def Mi (K:Frag):List V->Hp->VK->Prop:=λvs H Q=>∃ (a:Addr) (as:XL) (L:UF),vs=[.ref a]/\aN K H a (as.map V.ref)/\as.length=L.length/\(∀ (i:Nat) (b:Addr) (l:UV),as[i]?=some b->L[i]?=some l->aN K H b (l.map V.int))/\0<as.length/\
 ∀ (i:Nat) (b:Addr) (l:UV),as[i]?=some b->L[i]?=some l->(∀ m∈L,Le l m)->Q (.ref b) H
theorem Co (hc:X.calm=true) (hu:X.A.units+64<cLine):fG X (.builtin "min") (Mi X.K):=by
 intro pins s σ H xs us Q I r h;obtain ⟨a,as,L,rfl,ha,hl,hs,h0,q⟩:=h;obtain ⟨u,rfl,ru⟩:=vals1 r;cases ru
 obtain ⟨aY,rv,pl,hz⟩:=I.list ha;have z:=rv.length;rw [Pd] at z;refine Eu (f:=λi=>L.getD i []) (I.ok.hd hc) pl.isList (by simp only [Around.in1_units];omega) (Ad I rv hl hs) (by omega) λi v h' tk hv hle kk=>?_;have hi:i<aY.length:=(X3.mp hv).1;have FA:i<as.length:=by omega
 have Ku:i<L.length:=by omega
 obtain ⟨u,hu,ru⟩:=rv.get (i:=i) (show (as.map V.ref)[i]?=some (V.ref as[i]) by simp [FA]);rw [hv] at hu;cases hu
 cases ru
 refine ⟨.ref as[i],H,I.kept kk,rfl,q i as[i] L[i] (by simp [FA]) (by simp [Ku]) λm hm=>?_⟩;obtain ⟨j,hj,rfl⟩:=Yv.mp hm;have:=hle j (by omega);have e1:L.getD i []=L[i]:=by simp [Ku]
 have e2:L.getD j []=L[j]:=by simp [hj]
 rw [e1,e2] at this;exact this
def Ic (K:Frag):List V->Hp->VK->Prop:=λvs H Q=>∃ (a:Addr) (ns:UV),vs=[.ref a]/\aN K H a (ns.map V.int)/\ns≠[]/\∀ m,m∈ns->(∀ x∈ns,m<=x)->Q (.int m) H
theorem iA (hc:X.calm=true):fG X (.builtin "min") (Ic X.K):=by
 intro pins s σ H xs us Q I r h;obtain ⟨a,ns,rfl,ha,h0,q⟩:=h;obtain ⟨u,rfl,ru⟩:=vals1 r;cases ru
 obtain ⟨aY,rv,pl,hz⟩:=I.list ha;have hi:IntsAre aY ns:=intsAre_of rv;obtain ⟨xs,e⟩:=hi.allInts.items;have zd:ns=xs.toList.map (·.1):=by rw [<-hi.numsOf,<-nums_intItems,<-e]
 have hl:=pl.isList;rw [e] at hl;have h1:0<xs.size:=by
  have:=Zz.mpr h0;rw [zd,Pd,Y0] at this;exact this
 refine min_intList (I.ok.hd hc) hl h1 λv h' tk hv kk=>?_;obtain ⟨t,rfl⟩:=intItems_at hv;obtain ⟨g1,g2⟩:=argBest_lt (numAt xs) (xs.size-1);refine ⟨.int _,H,I.kept kk,⟨t,rfl⟩,q _ ?_ λx hx=>?_⟩
 ·rw [zd,numAt_eq];exact getD_mem (by rw [Pd,Y0];omega)
 ·rw [zd] at hx;obtain ⟨j,hj,rfl⟩:=mem_getD hx;rw [Pd,Y0] at hj;rw [<-numAt_eq];exact g2 j (by omega)
def JA (K:Frag):V->List V->Hp->VK->Prop:=λx vs H Q=>∃ (l:Addr) (ns:UV) (y:Int),x=.ref l/\vs=[.int y]/\H l=some (.lst (ns.map V.int))/\y∈ns/\Q (.int (ns.idxOf y:Nat)) H
theorem Ek:LI X "list.index" (JA X.K):=by
 intro pins s σ H x vs v us Q I rx rv h;obtain ⟨l,ns,y,rfl,rfl,hH,hy,q⟩:=h;cases rx
 obtain ⟨u,rfl,t,rfl⟩:=rv.one;obtain ⟨z,aY,n,r,hl,e⟩:=I.uM hH;have hi:IntsAre aY ns:=intsAre_of r;have zl:=hi.length;have Tb:=mT;have hj:ns.idxOf y<ns.length:=Zh hy;rw [Pd] at z;let ev:Value->Bool:=λv=>match v with | .int i _=>i==y|_=>false
 have at_:∀ m (hm:m<ns.length),∃ t,aY[m]?=some (.int ns[m] t):=λm hm=>uT hi hm;refine zaH F.slot_list_index ⟨_,e,rfl⟩ F.entry_list_index (F.args_list_index_2 _ _) (SeqAt.list_indexAt l aY.toArray n none #[] (.int y t) ev (ns.idxOf y) (by rw [YE];omega) (by omega) ?_ ?_) ⟨e,?_,?_⟩
 ·obtain ⟨t1,e1⟩:=at_ _ hj;have:aY.toArray[ns.idxOf y]'(by rw [YE];omega)=.int ns[ns.idxOf y] t1:=by
   have:=(X3.mp e1).2;simpa using this
  rw [this];show (ns[ns.idxOf y]==y)=true;rw [zal hj];simp
 ·intro m hm eK;obtain ⟨t1,e1⟩:=at_ m (by omega);have:aY.toArray[m]=.int (ns[m]'(by omega)) t1:=by
   have:=(X3.mp e1).2;simpa using this
  rw [this];show (ns[m]'(by omega)==y)=false;exact zaA (sL ns y m (by omega) eK)
 ·intro w hw;have P4:w∈aY:=by simpa using hw
  obtain ⟨m,hm,rfl⟩:=Yv.mp P4;obtain ⟨t1,e1⟩:=at_ m (by omega);rw [(X3.mp e1).2];exact zau _ _ _ _
 ·exact ⟨.int (ns.idxOf y:Nat),H,I.tok _,⟨_,rfl⟩,q⟩
section
variable {X:Cx} {K:Frag}
def vY (h:X.K=K):Rk X (BK K):=h▸dr
end
end L2
namespace Gm
open PySem L2
def cy (r:UV) (j:Nat):Int:=r.getD (j%r.length) 0
theorem bD (h:i%r.length=j%r.length):cy r i=cy r j:=by unfold cy;rw [h]
theorem eO (h:j<r.length):cy r j=r[j]:=by unfold cy;rw [YQ h];simp [h]
theorem dR (h:0<r.length):cy r j∈r:=by
 have hm:=Y5 j h;have:cy r j=r[j%r.length]:=by unfold cy;simp [hm]
 rw [this];exact Zu _
theorem fO {i:Int} {j:Nat} (h1 : -(r.length:Int)<=i) (h2:i<r.length) (e:(j:Int)=i\/(j:Int)=i+r.length):mq (r.map V.int) i=some (V.int (cy r j)):=by
 unfold mq CG;rw [Pd];by_cases h0:0<=i
 ·rw [Ya h0,Ya h2];have hi:i.toNat<r.length:=by omega
  have em:j%r.length=i.toNat:=by
   rcases e with e|e
   ·rw [YQ (by omega)];omega
   ·have:j=i.toNat+r.length:=by omega
    rw [this,Yq,YQ hi]
  show (r.map V.int)[i.toNat]?=_;unfold cy;rw [em];simp [hi]
 ·rw [X6 h0,Ya h1];have hj:(i+(r.length:Int)).toNat=j:=by omega
  have hl:j<r.length:=by omega
  show (r.map V.int)[(i+(r.length:Int)).toNat]?=_;rw [hj,eO hl];simp [hl]
theorem KY (hl:r.length=q.length) (h:∀ j,cy r j=cy q j):r=q:=by
 refine zbu hl λi h1 h2=>?_;have:=h i;rw [eO h1,eO h2] at this;exact this
def cU (r:UV) (k:Nat):UV:=r.drop k++r.take k
theorem cV (h:k<=r.length):(cU r k).length=r.length:=by unfold cU;simp;omega
theorem rG {a b n:Nat} (ha:a<n) (hb:b<n):(a+b)%n=if a+b<n then a+b else a+b-n:=by
 by_cases h:a+b<n
 ·rw [Ya h,YQ h]
 ·rw [X6 h,Nat.mod_eq_sub_mod (by omega),YQ (by omega)]
theorem gV (h:k<r.length) (j:Nat):cy (cU r k) j=cy r (j+k):=by
 have hm:=Y5 j (show 0<r.length by omega);have e:(j+k)%r.length=if j%r.length+k<r.length then j%r.length+k else j%r.length+k-r.length:=by
  rw [<-rG hm h,zaP]
 unfold cy;rw [cV (ZJ ‹_›),e];unfold cU;rw [Yn,Yn]
 congr 1
 by_cases c:j%r.length+k<r.length
 ·rw [Ya c,YL (by rw [Zs];omega),getElem?_drop,zbF]
 ·rw [X6 c,Y1 (by rw [Zs];omega),Zs,getElem?_take,Ya (by omega)]
  congr 1
  omega
theorem Ae (hk:k<r.length) (hi:i<r.length):cU (cU r k) i=cU r ((i+k)%r.length):=by
 have hl:(cU r k).length=r.length:=cV (ZJ ‹_›);have hm:=Y5 (i+k) (show 0<r.length by omega);refine KY (by rw [cV (by rw [hl];exact ZJ ‹_›),hl,cV (ZJ ‹_›)]) λj=>?_;rw [gV (by rw [hl];exact hi),gV hk,gV hm];refine bD ?_;rw [zbq,Nat.add_mod_mod]
abbrev aw:=Int×Int
def tx (L:UF) (a:Int):UV:=L.getD a.toNat []
def pre (l:UV) (x:Int):Int:=cy l (l.idxOf x+l.length-1)
structure Dt (L:UF) (d:aw):Prop where
 lo:0<=d.1
 hi:d.1<L.length
 mem:d.2∈tx L d.1
def nx (L:UF) (d:aw):aw:=(d.2,pre (tx L d.2) d.1)
theorem aE (h0:0<=a) (h1:a<L.length):L[a.toNat]?=some (tx L a):=by
 unfold tx;have:a.toNat<L.length:=by omega
 simp [this]
def Gj (h:x∈l):pre l x∈l:=dR (ZW h)
theorem md (h:i<n):(i+n-1)%n=if i=0 then n-1 else i-1:=by
 by_cases e:i=0
 ·rw [Ya e,e,ZL,YQ (by omega)]
 ·rw [X6 e];have:i+n-1=(i-1)+n:=by omega
  rw [this,Yq,YQ (by omega)]
theorem ur (n:l.Nodup) (hx:x∈l) (hy:y∈l) (h:pre l x=pre l y):x=y:=by
 have ix:=Zh hx;have iy:=Zh hy;have p0:0<l.length:=by omega
 unfold pre cy at h;have mx:=Y5 (l.idxOf x+l.length-1) p0;have my:=Y5 (l.idxOf y+l.length-1) p0;have e1:l.getD ((l.idxOf x+l.length-1)%l.length) 0=l[(l.idxOf x+l.length-1)%l.length]:=by simp [mx]
 have e2:l.getD ((l.idxOf y+l.length-1)%l.length) 0=l[(l.idxOf y+l.length-1)%l.length]:=by simp [my]
 rw [e1,e2] at h;have e:=(Zp n).mp h;rw [md ix,md iy] at e;have ei:l.idxOf x=l.idxOf y:=by split at e<;>split at e<;>omega
 have g1:=zal ix;have g2:=zal iy;rw [<-g1,<-g2]
 congr 1
theorem Hi (h:x∈l):mq (l.map V.int) ((l.idxOf x:Int)-1)=some (V.int (pre l x)):=by
 have ix:=Zh h;exact fO (by omega) (by omega) (.inr (by omega))
theorem Dt.back (h:Dt L d) (m:aB L):0<=d.2/\d.2<L.length/\d.2≠d.1/\d.1∈tx L d.2:=by
 have r:=aE h.lo h.hi;have g:=m.rg _ _ r _ h.mem;have e1:((d.1.toNat:Nat):Int)=d.1:=Z1 h.lo;refine ⟨g.1,g.2.1,by rw [e1] at g;exact g.2.2,?_⟩;have:=m.sy _ _ r _ h.mem d.2.toNat (by omega) _ (aE g.1 g.2.1);rwa [e1] at this
theorem Dt.nx (h:Dt L d) (m:aB L):Dt L (nx L d):=by
 obtain ⟨a,b,c,f⟩:=h.back m;exact ⟨a,b,Gj f⟩
theorem eF (m:aB L) (h1:Dt L d) (h2:Dt L e) (h:Gm.nx L d=Gm.nx L e):d=e:=by
 obtain ⟨a,b,c,f⟩:=h1.back m;obtain ⟨a',b',c',f'⟩:=h2.back m;unfold Gm.nx at h;have e2:d.2=e.2:=Yt Prod.fst h;have e3:pre (tx L d.2) d.1=pre (tx L e.2) e.1:=Yt Prod.snd h;rw [<-e2] at e3 f';exact Zl (ur (m.nd _ _ (aE a b)) f f' e3) e2
def eJ (L:UF):Nat->List aw
 | 0=>[]
 | k+1=>eJ L k++(tx L k).map λx=>((k:Int),x)
theorem j8:∀ {k:Nat},d∈eJ L k↔0<=d.1/\d.1<k/\d.2∈tx L d.1
 | 0=>by simp only [eJ,YT,false_iff];intro h;omega
 | k+1=>by
  rw [eJ,zbm,j8,mem_map];constructor
  ·rintro (⟨h1,h2,h3⟩|⟨x,hx,rfl⟩)
   ·exact ⟨h1,by omega,h3⟩
   ·exact ⟨by simp,by simp;omega,hx⟩
  ·rintro ⟨h1,h2,h3⟩;by_cases e:d.1=k
   ·right;rw [e] at h3;exact ⟨d.2,h3,Zl e.symm rfl⟩
   ·left;exact ⟨h1,by omega,h3⟩
theorem bJ (m:aB L):∀ {k:Nat},k<=L.length->(eJ L k).Nodup
 | 0,_=>.nil
 | k+1,h=>by
  rw [eJ,zbG];refine ⟨bJ m (ZJ ‹_›),?_,λa ha b hb z=>?_⟩
  ·have n:=m.nd _ _ (aE (L:=L) (a:=(k:Int)) (Tk _) (by omega));exact Zi _ (λx y sM z=>sM (Yt Prod.snd z)) n
  ·have:=(j8.mp ha).2.1;obtain ⟨x,_,rfl⟩:=Yc.mp hb;rw [z] at this;simp at this
theorem AH:∀ {k:Nat},k<=L.length->((eJ L k).length:Int)=((L.take k).map (λl=>(l.length:Int))).sum
 | 0,_=>by simp [eJ]
 | k+1,h=>by
  have hk:k<L.length:=‹_›
  have e:tx L (k:Int)=L[k]:=by unfold tx;simp [hk]
  rw [eJ,Yr,Pd,show L.take (k+1)=L.take k++[L[k]] by rw [take_succ,X4 hk];rfl,Yl,zam,vL,<-AH (ZJ ‹_›),e];omega
def Dt.all (h:Dt L d):d∈eJ L L.length:=j8.mpr ⟨h.lo,h.hi,h.mem⟩
theorem Dt.of (h:d∈eJ L L.length):Dt L d:=by have:=j8.mp h;exact ⟨this.1,this.2.1,this.2.2⟩
def it (L:UF) (d:aw):Nat->aw
 | 0=>d
 | k+1=>Gm.nx L (it L d k)
theorem qj (m:aB L) (h:Dt L d):∀ k,Dt L (it L d k)
 | 0=>h
 | k+1=>(qj m h k).nx m
theorem ql (i:Nat):∀ k,it L d (i+k)=it L (it L d i) k
 | 0=>rfl
 | k+1=>by show Gm.nx L (it L d (i+k))=Gm.nx L (it L (it L d i) k);rw [ql i k]
theorem AO (m:aB L) (h:Dt L d) {k:Nat}:∀ i,it L d i=it L d (i+k)->it L d k=d
 | 0,e=>by rw [ZL] at e;exact e.symm
 | i+1,e=>by
  rw [Nat.add_right_comm] at e;exact AO m h i (eF m (qj m h _) (qj m h _) e)
def jV (L:UF) (d:aw) (k:Nat):Prop:=∀ i,0<i->i<k->it L d i≠d
def tr (L:UF) (d:aw) (k:Nat):List aw:=(List.range k).map (it L d)
theorem oE (m:aB L) (h:Dt L d) (n:jV L d k):(tr L d k).Nodup:=by
 unfold tr;refine Zi _ (R:=λa b=>a<b/\a<k/\b<k) (λa b xt z=>?_) ?_
 ·obtain ⟨j,rfl⟩:∃ j,b=a+j:=⟨b-a,by omega⟩;exact n j (by omega) (by omega) (AO m h a z)
 ·have:=pairwise_lt_range (n:=k);refine ZE (λha hb xt=>⟨xt,YO.mp ha,YO.mp hb⟩) this
theorem pQ (m:aB L) (h:Dt L d) (n:jV L d k):k<=(eJ L L.length).length:=by
 have:=dh (oE m h n) (r:=eJ L L.length) λx hx=>by
  obtain ⟨i,_,rfl⟩:=Yc.mp hx;exact (qj m h i).all
 simpa [tr] using this
def dj (r:UV) (j:Nat):aw:=(cy r j,cy r (j+1))
structure Good (L:UF) (r:UV):Prop where
 two:2<=r.length
 dt:∀ j,Dt L (dj r j)
 st:∀ j,Gm.nx L (dj r j)=dj r (j+1)
def sh (s:Nat) (r:UV):List aw:=(List.range r.length).map λj=>dj r (j+s)
theorem bI (h:i%r.length=j%r.length):dj r i=dj r j:=by
 unfold dj;rw [bD h,bD (show (i+1)%r.length=(j+1)%r.length by rw [Nat.add_mod,h,<-Nat.add_mod])]
theorem FX (r:UV) (s:Nat):(sh (s+1) r).Perm (sh s r):=by
 unfold sh;cases hn:r.length with
 | zero=>exact zbP _
 | succ n=>
  have e1:(List.range (n+1)).map (λj=>dj r (j+(s+1)))=(List.range n).map (λj=>dj r (j+(s+1)))++[dj r (n+(s+1))]:=by rw [Z9,Yl];rfl
  have e2:(List.range (n+1)).map (λj=>dj r (j+s))=dj r s::(List.range n).map (λj=>dj r (j+(s+1))):=by
   rw [zbd,Y8,zaE,ZL]
   congr 1
   refine Zg λj _=>?_;show dj r (j+1+s)=_
   congr 1
   omega
  have e3:dj r (n+(s+1))=dj r s:=bI (by rw [hn,show n+(s+1)=s+(n+1) by omega,Yq]);rw [e1,e2,e3];exact zaf _ _
theorem fR (r:UV):∀ s,(sh s r).Perm (sh 0 r)
 | 0=>zbP _
 | s+1=>(FX r s).trans (fR r s)
theorem bu (h0:0<r.length):d∈sh s r↔∃ j,d=dj r j:=by
 rw [(fR r s).mem_iff];unfold sh;rw [mem_map];constructor
 ·rintro ⟨j,_,rfl⟩;exact ⟨_,rfl⟩
 ·rintro ⟨j,rfl⟩;exact ⟨j%r.length,YO.mpr (Y5 _ h0),bI (by rw [ZR,Zv])⟩
theorem qE (h:k<r.length) (j:Nat):dj (cU r k) j=dj r (j+k):=by
 unfold dj;rw [gV h,gV h]
 congr 2
 omega
theorem yw (h:k<r.length):sh 0 (cU r k)=sh k r:=by
 unfold sh;rw [cV (ZJ ‹_›)];exact Zg λj _=>qE h j
theorem Good.cU (g:Good L r) (h:k<r.length):Good L (Gm.cU r k):=by
 refine ⟨by rw [cV (ZJ ‹_›)];exact g.two,λj=>by rw [qE h];exact g.dt _,λj=>?_⟩;rw [qE h,qE h,g.st]
 congr 1
 omega
def aU (L:UF) (d:aw) (k:Nat):UV:=(List.range k).map λi=>(it L d i).1
theorem Kf (e:it L d k=d) (j:Nat):it L d (j+k)=it L d j:=by rw [zbF,ql,e]
theorem y6 (e:it L d k=d) (j:Nat):it L d (j%k)=it L d j:=by
 have go:∀ q,it L d (j%k+k*q)=it L d (j%k):=by
  intro q
  induction q with
  | zero=>rfl
  | succ q ih=>rw [Nat.mul_succ,<-zbq,Kf e,ih]
 rw [<-go (j / k),Nat.mod_add_div]
theorem Be (hk:0<k) (e:it L d k=d) (j:Nat):cy (aU L d k) j=(it L d j).1:=by
 have hl:(aU L d k).length=k:=by unfold aU;simp
 have hm:=Y5 j hk;unfold cy;rw [hl];unfold aU;rw [Yn,Yj,getElem?_range hm];show (it L d (j%k)).1=_;rw [y6 e]
theorem iY (hk:0<k) (e:it L d k=d) (j:Nat):dj (aU L d k) j=it L d j:=by
 unfold dj;rw [Be hk e,Be hk e]
 rfl
theorem sj (m:aB L) (h:Dt L d) (hk:0<k) (e:it L d k=d):Good L (aU L d k):=by
 refine ⟨?_,λj=>by rw [iY hk e];exact qj m h j,λj=>by rw [iY hk e,iY hk e];rfl⟩;have hl:(aU L d k).length=k:=by unfold aU;simp
 rw [hl];by_cases z:k=1
 ·subst z;have:=(h.back m).2.2.1;exact absurd (Yt Prod.fst e) this
 ·omega
theorem yC (m:aB L) (h:Dt L d) (hk:0<k) (e:it L d k=d) (n:jV L d k):(sh 0 (aU L d k)).Nodup:=by
 have hl:(aU L d k).length=k:=by unfold aU;simp
 have:sh 0 (aU L d k)=tr L d k:=by
  unfold sh tr;rw [hl];exact Zg λj _=>by rw [iY hk e,ZR]
 rw [this];exact oE m h n
def Fp (r:UV):Prop:=∀ k,k<r.length->Le r (cU r k)
theorem BV (hk:k<r.length) (h:∀ j,j<r.length->Le (cU r k) (cU r j)):Fp (cU r k):=λi hi=>by
 rw [cV (ZJ ‹_›)] at hi;rw [Ae hk hi];exact h _ (Y5 _ (by omega))
structure Bq (L R:UF):Prop where
 good:∀ r∈R,Good L r
 least:∀ r∈R,Fp r
 sorted:R.Pairwise (λa b=>HT.Tm a b=true)
 nd:(R.flatMap (sh 0)).Nodup
 all:∀ d,Dt L d->d∈R.flatMap (sh 0)
structure Lp (L R:UF) (ks:List aw):Prop where
 good:∀ r∈R,Good L r
 least:∀ r∈R,Fp r
 nd:ks.Nodup
 pm:ks.Perm (R.flatMap (sh 0))
 two:2*R.length<=ks.length
theorem Lp.start:Lp L [] []:=⟨by simp,by simp,.nil,.nil,X7 _⟩
theorem Lp.dt (p:Lp L R ks) (h:d∈ks):Dt L d:=by
 obtain ⟨r,hr,hd⟩:=YF.mp (p.pm.mem_iff.mp h);obtain ⟨j,rfl⟩:=(bu (by have:=(p.good r hr).two;exact ZJ ‹_›)).mp hd;exact (p.good r hr).dt j
def Lp.len (p:Lp L R ks):ks.length<=(eJ L L.length).length:=dh p.nd λx hx=>(p.dt hx).all
theorem Lp.on (p:Lp L R ks) (h:d∈ks):∀ t,it L d t∈ks:=by
 intro t;obtain ⟨r,hr,hd⟩:=YF.mp (p.pm.mem_iff.mp h);have g:=p.good r hr;have r0:0<r.length:=by have:=g.two;exact ZJ ‹_›
 obtain ⟨j,rfl⟩:=(bu r0).mp hd;have e:it L (dj r j) t=dj r (j+t):=by
  induction t with
  | zero=>rfl
  | succ t ih=>show Gm.nx L (it L (dj r j) t)=_;rw [ih,g.st];rfl
 rw [e];exact p.pm.mem_iff.mpr (YF.mpr ⟨r,hr,(bu r0).mpr ⟨_,rfl⟩⟩)
theorem Lp.new (p:Lp L R ks) (hk:0<k) (e:it L d k=d) (n:d∉ks) (j:Nat):it L d j∉ks:=by
 intro h;refine n ?_;have:=p.on h (k*j-j);rw [<-ql,show j+(k*j-j)=k*j from by have:=Nat.le_mul_of_pos_left j hk;omega,zbe] at this;have z:=y6 e (j*k);rw [Nat.mul_mod_left] at z;rw [<-z] at this;exact this
theorem Lp.add (m:aB L) (p:Lp L R ks) (h:Dt L d) (hk:0<k) (e:it L d k=d) (nr:jV L d k) (n:d∉ks) (hc:c<k) (hl:∀ j,j<k->Le (Gm.cU (aU L d k) c) (Gm.cU (aU L d k) j)) :
  Lp L (R++[Gm.cU (aU L d k) c]) (ks++sh (k-1) (aU L d k)):=by
 have zl:(aU L d k).length=k:=by unfold aU;simp
 have g:=sj m h hk e;have l7:c<(aU L d k).length:=by rw [zl];exact hc
 refine ⟨λr hr=>?_,λr hr=>?_,?_,?_,?_⟩
 ·rcases Ye.mp hr with z|z
  ·exact p.good r z
  ·rw [X9.mp z];exact g.cU l7
 ·rcases Ye.mp hr with z|z
  ·exact p.least r z
  ·rw [X9.mp z];exact BV l7 (by rw [zl];exact hl)
 ·rw [zbG];refine ⟨p.nd,((fR _ _).nodup_iff).mpr (yC m h hk e nr),λa ha b hb z=>?_⟩;obtain ⟨j,rfl⟩:=(bu (by omega)).mp hb;rw [iY hk e] at z;exact p.new hk e n j (z▸ha)
 ·rw [ZT,flatMap_singleton,yw l7];exact p.pm.append ((fR _ _).trans (fR _ _).symm)
 ·have:=g.two;have:=p.two;rw [Yr,Yr,YX];unfold sh;rw [Pd,zaw];omega
theorem zi {R:UF} (h:(R.flatMap (sh 0)).Nodup) (n:∀ r∈R,2<=r.length):R.Nodup:=by
 have:=(List.pairwise_flatMap.mp h).2;refine ZE (λ{a b} ha hb xt z=>?_) this;subst z;have r0:0<a.length:=by have:=n a ha;exact ZJ ‹_›
 exact xt (dj a 0) ((bu r0).mpr ⟨0,rfl⟩) (dj a 0) ((bu r0).mpr ⟨0,rfl⟩) rfl
theorem As {α:Type} {d:α} {L:List α} {p:Array Nat} (i:Nat):(pick d L p)[i]?=(p[i]?).map λj=>L.getD j d:=by unfold pick;simp
theorem range_getD {α:Type} {d:α} (L:List α):((List.range L.length).map λi=>L.getD i d)=L:=by
 apply zbE;intro i;rw [Yj];by_cases h:i<L.length
 ·simp [h]
 ·simp [h]
theorem sA {α:Type} {d:α} {L:List α} {p:Array Nat} (h:Arr L.length p):(pick d L p).Perm L:=by
 have e:=range_getD (d:=d) L;have:p.toList.Perm (List.range L.length):=by have:=h.perm;rw [Array.perm_iff_toList_perm] at this;simpa using this
 have q:=this.map λi=>L.getD i d;rw [e] at q;exact q
theorem pB {α:Type} {d:α} {L:List α} {p:Array Nat} {n:Nat} (h:Arr n p):(pick d L p).length=n:=by unfold pick;simp [h.size]
theorem aX.pick (g:aX H t as R) (h:Arr R.length p) (hq:H q=none):aX (upd H q (.lst ((pick 0 as p).map V.ref))) q (pick 0 as p) (pick [] R p):=by
 refine ⟨ae,by rw [pB h,pB h],λi a l h1 h2=>?_⟩;rw [As] at h1 h2;cases e:p[i]? with
 | none=>rw [e] at h1;cases h1
 | some j=>
  rw [e] at h1 h2;have hi:i<p.size:=by
   rcases Nat.lt_or_ge i p.size with z|z
   ·exact z
   ·rw [zbf z] at e;cases e
  have hj:j<R.length:=by
   have:=h.lt (i:=i) (by rw [<-h.size];exact hi);rw [Z2,e] at this;exact this
  have GS:j<as.length:=by rw [g.len];exact hj
  have e1:as.getD j 0=as[j]:=by simp [GS]
  have e2:R.getD j []=R[j]:=by simp [hj]
  have Cd:as.getD j 0=a:=Yf h1;have FC:R.getD j []=l:=Yf h2;have:=g.row j as[j] R[j] (by simp [GS]) (by simp [hj]);rw [<-e1,<-e2,Cd,FC] at this;rw [ak (aP this hq)];exact this
theorem Lp.lands (h:Lp L R ks) (hp:Arr R.length p) (up:Up (λi=>R.getD i []) p R.length) (all:∀ d,Dt L d->d∈ks):Bq L (pick [] R p):=by
 have pm:=sA (d:=([]:UV)) hp;have nd:((pick [] R p).flatMap (sh 0)).Nodup:=((pm.flatMap_right (sh 0)).nodup_iff).mpr ((h.pm.nodup_iff).mp h.nd);have good:∀ r∈pick [] R p,Good L r:=λr hr=>h.good r (pm.mem_iff.mp hr);refine ⟨good,λr hr=>h.least r (pm.mem_iff.mp hr),?_,nd,λd hd=>((pm.flatMap_right (sh 0)).mem_iff).mpr (h.pm.mem_iff.mp (all d hd))⟩;have n2:=zi nd λr hr=>(good r hr).two;refine YS.mpr λi j hi hj Kt=>?_;have hl:=pB (d:=([]:UV)) (L:=R) hp;have at_:∀ k (hk:k<(pick [] R p).length),(pick [] R p)[k]=kf (λi=>R.getD i []) p k:=λk hk=>by
  have e:=As (d:=([]:UV)) (L:=R) (p:=p) k;rw [X4 hk] at e;unfold kf;rw [Z2];cases z:p[k]? with
  | none=>rw [z] at e;cases e
  | some m=>rw [z] at e;exact Yf e
 have le:Le (pick [] R p)[i] (pick [] R p)[j]:=by rw [at_ i hi,at_ j hj];exact up.le (ZJ ‹_›) (by omega)
 cases q:HT.Tm (pick [] R p)[i] (pick [] R p)[j] with
 | true=>rfl
 | false=>
  have:=(Zp n2).mp (lY q le);omega
def gT (d:aw):List Key:=[.inl d.1,.inl d.2]
def kD (ks:List aw):List (List Key×V):=ks.map λd=>(gT d,V.bl true)
theorem p4 (h:gT d=gT e):d=e:=by
 unfold gT at h;simp only [List.cons.injEq,Sum.inl.injEq,and_true] at h;exact Zl h.1 h.2
theorem mD:∀ (ks:List aw) (d:aw),(fH (kD ks) (gT d)).isSome=decide (d∈ks)
 | [],d=>rfl
 | e::ks,d=>by
  unfold kD;rw [Y8];by_cases z:e=d
  ·subst z;rw [fj rfl];simp
  ·rw [eL (λy=>z (p4 y))];have:=mD ks d;unfold kD at this;rw [this];have z2:¬d=e:=λy=>z y.symm;simp [z2]
theorem DO (h:d∉ks):Tl (kD ks) (gT d) (.bl true)=kD (ks++[d]):=by
 rw [jE]
 ·unfold kD;rw [Yl];rfl
 ·have:=mD ks d;rw [Yw h] at this;exact Option.isNone_iff_eq_none.mp (by rw [<-Option.not_isSome,this];rfl)
theorem Ke (ks:List aw):(kD ks).length=ks.length:=by unfold kD;simp
theorem jS {r:UV} {k:Nat} (h:k<=r.length):ng (r.map V.int) (some (k:Int)) none=(r.drop k).map V.int:=by
 unfold ng HT.ug;rw [Pd];dsimp only;rw [X6 (by omega),show min ((k:Int).toNat) r.length=k by omega,zai (by rw [Zs,Pd];omega),map_drop]
theorem iu {r:UV} {k:Nat} (h:k<=r.length):ng (r.map V.int) none (some (k:Int))=(r.take k).map V.int:=by
 unfold ng HT.ug;rw [Pd];dsimp only;rw [X6 (by omega),show min ((k:Int).toNat) r.length=k by omega,drop_zero,zbH,map_take]
def DI (h:ty σ H λy H1=>td σ H1 λx H2=>∃ a o,x=.ref a/\cP H2 a y o/\Q (.bl (!o.isSome)) H2):zO ty td σ H Q:=h
def Md (h:ty σ H λy H1=>td σ H1 λx H2=>∃ a o,x=.ref a/\cP H2 a y o/\Q (.bl o.isSome) H2):LZ ty td σ H Q:=h
def DH (h:tv σ H λv H1=>td σ H1 λx H2=>ty σ H2 λy H3=>∃ a H4,x=.ref a/\i8 H3 a y v H4/\D.nx σ H4):HR td ty tv D σ H:=h
theorem BJ {a:Addr} {i k n:Nat} {r:UV} (h1:σ[i]?=some (some (.ref a))) (h2:σ[k]?=some (some (.int (n:Int)))) (hs:aN K H a (r.map V.int)) (hn:n<=r.length) (q:∀ p,H p=none->Q (.ref p) (upd H p (.lst ((r.drop n).map V.int)))) :
  Lg (BK K) (fI i) (vI (fI k)) lC σ H Q:=⟨_,h1,⟨_,h2,⟨_,rfl,⟨a,_,rfl,hs,λp hp=>by rw [jS hn];exact q p hp⟩⟩⟩⟩
theorem Ga {a:Addr} {i k n:Nat} {r:UV} (h1:σ[i]?=some (some (.ref a))) (h2:σ[k]?=some (some (.int (n:Int)))) (hs:aN K H a (r.map V.int)) (hn:n<=r.length) (q:∀ p,H p=none->Q (.ref p) (upd H p (.lst ((r.take n).map V.int)))) :
  Lg (BK K) (fI i) lC (vI (fI k)) σ H Q:=⟨_,h1,⟨_,h2,⟨_,rfl,⟨a,_,rfl,hs,λp hp=>by rw [iu hn];exact q p hp⟩⟩⟩⟩
theorem aX.snoc (g:aX H t bs R) (nt:t∉bs) (nb:b≠t) (hb:H b=some (.lst (l.map V.int))):aX (upd H t (.lst (bs.map V.ref++[.ref b]))) t (bs++[b]) (R++[l]):=by
 refine ⟨by rw [Yl];exact ae,by rw [Yr,Yr,g.len];rfl,λi a m h1 h2=>?_⟩;rcases Nat.lt_or_ge i bs.length with hi|hi
 ·rw [YL hi] at h1;rw [YL (by rw [<-g.len];exact hi)] at h2;have am:=Yb h1;have ne:a≠t:=λz=>nt (by rw [<-z];exact am);rw [ak ne];exact g.row i a m h1 h2
 ·rw [Y1 hi] at h1;rw [Y1 (by rw [<-g.len];exact hi),<-g.len] at h2;have:i-bs.length=0:=by
   have:=(X3.mp h1).1;rw [YX] at this;omega
  rw [this] at h1 h2;simp at h1 h2;subst h1 h2;rw [ak nb];exact hb
theorem aX.other (h:aX H t bs R) (hg:H g=some (.dT kvs)):aX (upd H g o) t bs R:=by
 refine ⟨?_,h.len,λi a l h1 h2=>?_⟩
 ·rw [ak (λz=>by have:=h.top;rw [z,hg] at this;cases this)];exact h.top
 ·have:=h.row i a l h1 h2;rw [ak (λz=>by rw [z,hg] at this;cases this)];exact this
theorem aX.gJ (g:aX H t bs R) (hb:H b=none):b∉t::bs:=λz=>by
 rcases Yk.mp z with z|z
 ·rw [z,g.top] at hb;cases hb
 ·obtain ⟨k,hk,M5⟩:=Yv.mp z;have kl:k<R.length:=by rw [<-g.len];exact hk
  have:=g.row k b _ (by rw [X4 hk,M5]) (X4 kl);rw [hb] at this;cases this
theorem iN {α:Type} {A B:List α} {x:α} {j:Nat} (h:(A++B).Nodup) (e:B[j]?=some x):x∉A++B.take j:=by
 obtain ⟨h1,h2,h3⟩:=YD.mp h;intro z;rcases Ye.mp z with z|z
 ·exact h3 x z x (Yb e) rfl
 ·obtain ⟨hj,ex⟩:=X3.mp e;obtain ⟨i,hi,ei⟩:=Yv.mp z;rw [getElem_take] at ei;rw [YW] at hi;have:=(Zp h2).mp (ei.trans ex.symm);omega
theorem dG (s:Nat) (r:UV):(sh s r).length=r.length:=by unfold sh;simp
theorem se (h:j<r.length):(sh s r)[j]?=some (dj r (j+s)):=by unfold sh;simp [h]
theorem take_snoc {α:Type} {l:List α} {j:Nat} {x:α} (h:l[j]?=some x):l.take (j+1)=l.take j++[x]:=by rw [take_succ,h];rfl
theorem lE {l:XL} {x:Addr}:(l++[x]).Nodup↔x∉l/\l.Nodup:=by rw [(zaf x l).nodup_iff,zaS]
def fl (R:UF) (k:Nat):List aw:=(R.take k).flatMap λr=>sh (r.length-2) r
theorem qC {L:UF} (m:aB L):∀ {k:Nat},k<=L.length->(eJ L k).length<=k*(L.length-1)
 | 0,_=>YK _
 | k+1,h=>by
  have i:=qC m (k:=k) (ZJ ‹_›);have e:=aE (L:=L) (a:=(k:Int)) (Tk _) (by omega);have n:(tx L (k:Int)).length<=L.length-1:=by
   have n1:((k:Int)::tx L (k:Int)).Nodup:=Yp.mpr ⟨λz=>by have:=m.rg _ _ e _ z;rw [Yu] at this;exact this.2.2 rfl,m.nd _ _ e⟩;have:=cD (n:=L.length) n1 λx hx=>by
    rcases Yk.mp hx with z|z
    ·omega
    ·have:=m.rg _ _ e _ z;exact ⟨this.1,this.2.1⟩
   rw [YV] at this;omega
  rw [eJ,Yr,Pd,Nat.succ_mul];omega
theorem wm (hi:i<r.length):cU r i=cy r i::(r.drop (i+1)++r.take i):=by
 unfold cU;rw [ZH hi,eO hi]
 rfl
theorem Js (hi:i<r.length) (hj:j<r.length) (h:cy r i<cy r j):HT.Tm (cU r i) (cU r j)=true:=by
 rw [wm hi,wm hj,HT.gu,X6 (by omega)];exact YC h
def fe:Int->UV->Int->Int
 | p,[],_=>p
 | p,h::t,x=>if h=x then p else fe h t x
def lst (l:UV):Int:=l.getD (l.length-1) 0
theorem pR (h:Int) (n:t≠[]):lst (h::t)=lst t:=by
 unfold lst;cases t with
 | nil=>exact absurd rfl n
 | cons a t=>simp
theorem iR (u:UV) (n:v≠[]):lst (u++v)=lst v:=by
 induction u with
 | nil=>rfl
 | cons h t ih=>rw [Z4,pR h (by simp [n]),ih]
theorem GF (n:l≠[]):lst l∈l:=by
 unfold lst;have:l.length-1<l.length:=by have:=Zz.mpr n;omega
 simp [this]
theorem Av:∀ {l:UV} {p x:Int},x∈l->fe p l x=if l.idxOf x=0 then p else l.getD (l.idxOf x-1) 0
 | [],_,_,h=>by cases h
 | h::t,p,x,hx=>by
  unfold fe;rw [zaJ];by_cases e:h=x
  ·rw [Ya e,e];simp
  ·rw [X6 e];have e2:(h==x)=false:=zaA e;rw [e2];have ow:x∈t:=(Yk.mp hx).resolve_left (λz=>e z.symm);rw [Av ow];simp only [cond_false];rw [X6 (Nat.succ_ne_zero _)];cases q:t.idxOf x with
   | zero=>simp
   | succ k=>simp
theorem lP (h:x∈l):pre l x=fe (lst l) l x:=by
 have ix:=Zh h;rw [Av h];unfold pre cy lst;rw [md ix];split<;>rfl
theorem uu:∀ (l:UV) (p x:Int),fe p l x=p\/fe p l x∈l
 | [],p,x=>.inl rfl
 | h::t,p,x=>by
  unfold fe;by_cases e:h=x
  ·rw [Ya e];exact .inl rfl
  ·rw [X6 e];rcases uu t h x with z|z
   ·rw [z];exact .inr Yg
   ·exact .inr (X8 _ z)
theorem sD:∀ {l:UV} {p x y:Int},l.Nodup->p≠y->x∈l->x≠y->fe p (l.erase y) x=if fe p l x=y then fe p l y else fe p l x
 | [],_,_,_,_,_,h,_=>by cases h
 | h::t,p,x,y,n,hp,hx,sM=>by
  obtain ⟨n1,n2⟩:=Yp.mp n;by_cases e:h=y
  ·subst e;rw [zaQ];have ow:x∈t:=(Yk.mp hx).resolve_left sM;have a1:fe p (h::t) x=fe h t x:=by show (if h=x then p else fe h t x)=_;rw [X6 (λz=>sM z.symm)]
   have a2:fe p (h::t) h=p:=by show (if h=h then p else fe h t h)=_;rw [Ya rfl]
   rw [a1,a2];cases t with
   | nil=>cases ow
   | cons k s=>
    by_cases e2:k=x
    ·have b1:fe p (k::s) x=p:=by show (if k=x then p else fe k s x)=_;rw [Ya e2]
     have b2:fe h (k::s) x=h:=by show (if k=x then h else fe k s x)=_;rw [Ya e2]
     rw [b1,b2,Ya rfl]
    ·have b1:fe p (k::s) x=fe k s x:=by show (if k=x then p else fe k s x)=_;rw [X6 e2]
     have b2:fe h (k::s) x=fe k s x:=by show (if k=x then h else fe k s x)=_;rw [X6 e2]
     rw [b1,b2,X6];intro z;rcases uu s k x with y|y
     ·rw [y] at z;exact n1 (by rw [<-z];exact Yg)
     ·rw [z] at y;exact n1 (X8 _ y)
  ·rw [erase_cons_tail (by simpa using e)];by_cases e2:h=x
   ·have b1:∀ s,fe p (h::s) x=p:=λs=>by show (if h=x then p else fe h s x)=_;rw [Ya e2]
    rw [b1,b1,X6 hp]
   ·have ow:x∈t:=(Yk.mp hx).resolve_left (λz=>e2 z.symm);have b1:∀ s,fe p (h::s) x=fe h s x:=λs=>by show (if h=x then p else fe h s x)=_;rw [X6 e2]
    have b2:fe p (h::t) y=fe h t y:=by show (if h=y then p else fe h t y)=_;rw [X6 e]
    rw [b1,b1,b2];exact sD n2 e ow sM
theorem wG:∀ {u:UV} {w:UV} {p x:Int},x∈u->fe p (u++w) x=fe p u x
 | [],_,_,_,h=>by cases h
 | h::t,w,p,x,hx=>by
  show (if h=x then p else fe h (t++w) x)=if h=x then p else fe h t x
  by_cases e:h=x
  ·rw [Ya e,Ya e]
  ·rw [X6 e,X6 e];exact wG ((Yk.mp hx).resolve_left (λz=>e z.symm))
theorem Aw:∀ {u:UV} {p y:Int},y∉u->fe p (u++[y]) y=if u=[] then p else lst u
 | [],p,y,_=>by show (if y=y then p else fe y [] y)=_;rw [Ya rfl,Ya rfl]
 | h::t,p,y,n=>by
  have e:h≠y:=λz=>n (by rw [z];exact Yg);show (if h=y then p else fe h (t++[y]) y)=_;rw [X6 e,X6 (by simp),Aw (λz=>n (X8 _ z))];by_cases q:t=[]
  ·subst q;rw [Ya rfl];rfl
  ·rw [X6 q,pR h q]
theorem j6 (n:l.Nodup) (hx:x∈l) (hy:y∈l) (sM:x≠y):pre (l.erase y) x=if pre l x=y then pre l y else pre l x:=by
 have SG:x∈l.erase y:=(mem_erase_of_ne sM).mpr hx;rw [lP SG,lP hx,lP hy];obtain ⟨u,v,rfl⟩:=zbr hy;obtain ⟨n1,n2,n3⟩:=YD.mp n;obtain ⟨n4,n5⟩:=Yp.mp n2;have yu:y∉u:=λz=>n3 y z y Yg rfl;have ee:(u++y::v).erase y=u++v:=by rw [zaT _ yu,zaQ]
 by_cases q:v=[]
 ·subst q;rw [ee,ZY];have xu:x∈u:=by
   rcases Ye.mp hx with z|z
   ·exact z
   ·exact absurd (X9.mp z) sM
  have u0:u≠[]:=λz=>by rw [z] at xu;cases xu
  rw [iR u (v:=[y]) (by simp),wG xu,Aw yu,X6 u0];show fe (lst u) u x=if fe y u x=y then lst u else fe y u x
  cases u with
  | nil=>cases xu
  | cons h t=>
   by_cases e:h=x
   ·have b:∀ q,fe q (h::t) x=q:=λq=>by show (if h=x then q else fe h t x)=_;rw [Ya e]
    rw [b,b,Ya rfl]
   ·have b:∀ q,fe q (h::t) x=fe h t x:=λq=>by show (if h=x then q else fe h t x)=_;rw [X6 e]
    rw [b,b,X6];intro z;rcases uu t h x with w|w
    ·rw [w] at z;exact yu (by rw [<-z];exact Yg)
    ·rw [z] at w;exact yu (X8 _ w)
 ·have e1:lst (u++y::v)=lst v:=by rw [iR u (by simp),pR y q]
  have e2:lst ((u++y::v).erase y)=lst v:=by rw [ee,iR u q]
  rw [e1,e2];exact sD n (λz=>n4 (by rw [<-z];exact GF q)) hx sM
theorem lO (n:l.Nodup) (hx:x∈l) (h:pre l x=x):l=[x]:=by
 have ix:=Zh hx;unfold pre cy at h;have mx:=Y5 (l.idxOf x+l.length-1) (show 0<l.length by omega);have e1:l.getD ((l.idxOf x+l.length-1)%l.length) 0=l[(l.idxOf x+l.length-1)%l.length]:=by simp [mx]
 rw [e1] at h;have g:=zal ix;have e:=(Zp n).mp (h.trans g.symm);rw [md ix] at e;have l1:l.length=1:=by split at e<;>omega
 match l,l1,hx with
 | [z],_,hx=>rw [X9.mp hx]
theorem jN (h:∀ x:Int,0<=x->x<L.length->(tx L x).Nodup/\∀ y∈tx L x,0<=y/\y<L.length/\y≠x/\x∈tx L y):aB L:=by
 have at_:∀ (i:Nat) (l:UV),L[i]?=some l->tx L (i:Int)=l/\(i:Int)<L.length:=λi l e=>by
  have hi:=(X3.mp e).1;have:=aE (L:=L) (a:=(i:Int)) (Tk _) (by omega);rw [Yu,e] at this;exact ⟨(Yf this).symm,by omega⟩
 refine ⟨λi l e=>?_,λi l e x hx=>?_,λi l e x hx j hj m em=>?_⟩
 ·obtain ⟨e1,e2⟩:=at_ i l e;rw [<-e1];exact (h i (Tk _) e2).1
 ·obtain ⟨e1,e2⟩:=at_ i l e;rw [<-e1] at hx;have:=(h i (Tk _) e2).2 x hx;exact ⟨this.1,this.2.1,this.2.2.1⟩
 ·obtain ⟨e1,e2⟩:=at_ i l e;obtain ⟨e3,e4⟩:=at_ j m em;rw [<-e1] at hx;have:=((h i (Tk _) e2).2 x hx).2.2.2;rw [hj,e3] at this;exact this
def rem (L:UF) (a b:Int):UF:=(L.set a.toNat ((tx L a).erase b)).set b.toNat ((tx L b).erase a)
theorem fT:(rem L a b).length=L.length:=by unfold rem;simp
theorem oj (m:aB L) (h:Dt L (a,b)) (hx:0<=x):tx (rem L a b) x=if x=b then (tx L b).erase a else if x=a then (tx L a).erase b else tx L x:=by
 obtain ⟨b0,b1,b2,b3⟩:=h.back m;have a0:=h.lo;have a1:=h.hi;dsimp only at a0 a1 b0 b1 b2 b3;show (rem L a b).getD x.toNat []=_;unfold rem;rw [Yn,zax];by_cases e:x=b
 ·subst e;rw [Ya rfl,Ya rfl,Ya (by rw [zaG];omega)]
  rfl
 ·rw [X6 (by omega),X6 e,zax];by_cases e2:x=a
  ·subst e2;rw [Ya rfl,Ya rfl,Ya (by omega)]
   rfl
  ·rw [X6 (by omega),X6 e2,<-Yn]
   rfl
theorem om (m:aB L) (h:Dt L (a,b)) {x y:Int} (hx:0<=x) (Ls:x<L.length):y∈tx (rem L a b) x↔y∈tx L x/\¬(x=a/\y=b)/\¬(x=b/\y=a):=by
 obtain ⟨b0,b1,b2,b3⟩:=h.back m;have a0:=h.lo;have a1:=h.hi;dsimp only at a0 a1 b0 b1 b2 b3;rw [oj m h hx];by_cases e:x=b
 ·subst e;rw [Ya rfl,(m.nd _ _ (aE hx Ls)).mem_erase_iff];constructor
  ·rintro ⟨h1,h2⟩;exact ⟨h2,λz=>b2 z.1,λz=>h1 z.2⟩
  ·rintro ⟨h1,h2,h3⟩;exact ⟨λz=>h3 ⟨rfl,z⟩,h1⟩
 ·rw [X6 e];by_cases e2:x=a
  ·subst e2;rw [Ya rfl,(m.nd _ _ (aE hx Ls)).mem_erase_iff];constructor
   ·rintro ⟨h1,h2⟩;exact ⟨h2,λz=>h1 z.2,λz=>e z.1⟩
   ·rintro ⟨h1,h2,h3⟩;exact ⟨λz=>h2 ⟨rfl,z⟩,h1⟩
  ·rw [X6 e2];exact ⟨λz=>⟨z,λy=>e2 y.1,λy=>e y.1⟩,λz=>z.1⟩
theorem cw (m:aB L) (h:Dt L (a,b)):Dt (rem L a b) d↔Dt L d/\d≠(a,b)/\d≠(b,a):=by
 constructor
 ·intro q;have hi:=q.hi;rw [fT] at hi;have:=(om m h q.lo hi).mp q.mem;exact ⟨⟨q.lo,hi,this.1⟩,λz=>this.2.1 ⟨Yt Prod.fst z,Yt Prod.snd z⟩,λz=>this.2.2 ⟨Yt Prod.fst z,Yt Prod.snd z⟩⟩
 ·rintro ⟨q,h1,h2⟩;refine ⟨q.lo,by rw [fT];exact q.hi,(om m h q.lo q.hi).mpr ⟨q.mem,λz=>h1 (Zl z.1 z.2),λz=>h2 (Zl z.1 z.2)⟩⟩
theorem Ag (m:aB L) (h:Dt L (a,b)):aB (rem L a b):=by
 refine jN λx x0 x1=>?_;rw [fT] at x1;have n:=m.nd _ _ (aE x0 x1);refine ⟨?_,λy hy=>?_⟩
 ·rw [oj m h x0];split
  ·rename_i e;rw [<-e];exact n.erase _
  ·split
   ·rename_i e;rw [<-e];exact n.erase _
   ·exact n
 ·have q:=(om m h x0 x1).mp hy;obtain ⟨c0,c1,c2,c3⟩:=Dt.back (d:=(x,y)) ⟨x0,x1,q.1⟩ m;rw [fT];refine ⟨c0,c1,c2,(om m h c0 c1).mpr ⟨c3,λz=>q.2.2 ⟨z.2,z.1⟩,λz=>q.2.1 ⟨z.2,z.1⟩⟩⟩
theorem mO (m:aB L) (h:Dt L (a,b)) (hd:Dt (rem L a b) d) :
  nx (rem L a b) d=if nx L d=(b,a) then nx L (a,b) else if nx L d=(a,b) then nx L (b,a) else nx L d:=by
 obtain ⟨q,h1,h2⟩:=(cw m h).mp hd;obtain ⟨b0,b1,b2,b3⟩:=h.back m;obtain ⟨c0,c1,c2,c3⟩:=q.back m;obtain ⟨x,y⟩:=d;dsimp only at b0 b1 b2 b3 c0 c1 c2 c3;have B1:=h.mem;dsimp only at B1;unfold nx;dsimp only;rw [oj m h c0];by_cases e:y=b
 ·subst e;have xa:x≠a:=λz=>h1 (by rw [z]);rw [Ya rfl,j6 (m.nd _ _ (aE c0 c1)) c3 b3 xa];by_cases z:pre (tx L y) x=a
  ·rw [Ya z,z,Ya rfl]
  ·rw [X6 z,X6 (λw=>z (Yt Prod.snd w)),X6 (λw=>b2 (Yt Prod.fst w))]
 ·rw [X6 e];by_cases e2:y=a
  ·subst e2;have xb:x≠b:=λz=>h2 (by rw [z]);rw [Ya rfl,j6 (m.nd _ _ (aE c0 c1)) c3 B1 xb];rw [X6 (λw=>e (Yt Prod.fst w))];by_cases z:pre (tx L y) x=b
   ·rw [Ya z,z,Ya rfl]
   ·rw [X6 z,X6 (λw=>z (Yt Prod.snd w))]
  ·rw [X6 e2,X6 (λw=>e (Yt Prod.fst w)),X6 (λw=>e2 (Yt Prod.fst w))]
inductive Wk (f:aw->aw):aw->List aw->aw->Prop where
 | nil (x:aw):Wk f x [] x
 | cons {x y:aw} {l:List aw}:Wk f (f x) l y->Wk f x (x::l) y
theorem Wk.append (h:Wk f x l y) (k:Wk f y m z):Wk f x (l++m) z:=by
 induction h with
 | nil _=>exact k
 | cons _ ih=>exact .cons (ih k)
theorem Wk.split:∀ {l:List aw} {x:aw},Wk f x (l++m) z->∃ y,Wk f x l y/\Wk f y m z
 | [],x,h=>⟨x,.nil x,h⟩
 | a::l,x,h=>by
  cases h with
  | cons h=>
   obtain ⟨y,h1,h2⟩:=Wk.split h;exact ⟨y,.cons h1,h2⟩
theorem Wk.nil_eq (h:Wk f x [] y):x=y:=by cases h;rfl
theorem Wk.hd (h:Wk f x (d::l) y):d=x:=by cases h;rfl
theorem Wk.tl (h:Wk f x (d::l) y):Wk f (f x) l y:=by cases h;assumption
theorem Wk.on (h:Wk f x l y):∀ d∈l,f d∈l\/f d=y:=by
 induction h with
 | nil _=>intro d hd;cases hd
 | @cons x y l h ih=>
  intro d hd;rcases Yk.mp hd with e|e
  ·subst e;cases h with
   | nil _=>exact .inr rfl
   | cons h=>exact .inl (X8 _ Yg)
  ·rcases ih d e with q|q
   ·exact .inl (X8 _ q)
   ·exact .inr q
theorem Wk.new (h:Wk f x l y) (n:l≠[]) (hy:y∉l) (h1:∀ d∈l,f d=y->g d=w) (h2:∀ d∈l,f d≠y->g d=f d):Wk g x l w:=by
 induction h with
 | nil _=>exact absurd rfl n
 | @cons x y l h ih=>
  cases h with
  | nil _=>
   have:g x=w:=h1 x Yg rfl;rw [<-this];exact .cons (.nil _)
  | @cons _ _ l2 h=>
   have ne:f x≠y:=λq=>hy (by rw [<-q];exact X8 _ Yg);have e:=h2 x Yg ne;refine .cons ?_;rw [e];exact ih (by simp) (λq=>hy (X8 _ q)) (λd hd=>h1 d (X8 _ hd)) λd hd=>h2 d (X8 _ hd)
theorem Wk.congr (h:Wk f x l y) (e:∀ d∈l,g d=f d):Wk g x l y:=by
 induction h with
 | nil _=>exact .nil _
 | @cons x y l h ih=>
  refine .cons ?_;rw [e x Yg];exact ih λd hd=>e d (X8 _ hd)
def tG (f:aw->aw) (c:List aw):Prop:=∃ x l,c=x::l/\Wk f x c x
theorem tG.ne (h:tG f c):c≠[]:=by obtain ⟨x,l,rfl,_⟩:=h;simp
theorem tG.on (h:tG f c) (hd:d∈c):f d∈c:=by
 obtain ⟨x,l,rfl,k⟩:=h;rcases k.on d hd with q|q
 ·exact q
 ·rw [q];exact Yg
theorem tG.turn (h:tG f c) (hd:d∈c):∃ v,(d::v).Perm c/\Wk f (f d) v d:=by
 obtain ⟨x,l,e,k⟩:=h;obtain ⟨u,v,rfl⟩:=zbr hd;obtain ⟨y,k1,k2⟩:=k.split;have:=k2.hd;subst this;exact ⟨v++u,by rw [<-Z4];exact perm_append_comm,k2.tl.append k1⟩
structure Dec (L:UF) (R:List (List aw)):Prop where
 ir:∀ c∈R,tG (nx L) c
 nd:R.flatten.Nodup
 mem:∀ d,d∈R.flatten↔Dt L d
theorem pE {α:Type} {x:α} {l:List α} (h:x∈l):∃ r,l.Perm (x::r):=by
 obtain ⟨u,v,rfl⟩:=zbr h;exact ⟨u++v,perm_middle⟩
theorem Dec.perm (h:Dec L R) (p:R.Perm S):Dec L S:=
 ⟨λc hc=>h.ir c (p.mem_iff.mpr hc),(p.flatten.nodup_iff).mp h.nd,λd=>by rw [<-p.flatten.mem_iff];exact h.mem d⟩
theorem Dec.swap (h:Dec L (c::R)) (p:e.Perm c) (k:tG (nx L) e):Dec L (e::R):=by
 have q:(e::R).flatten.Perm (c::R).flatten:=by rw [Zr,Zr];exact p.append_right _
 refine ⟨λs hs=>?_,q.nodup_iff.mpr h.nd,λd=>by rw [q.mem_iff];exact h.mem d⟩;rcases Yk.mp hs with z|z
 ·rw [z];exact k
 ·exact h.ir s (X8 _ z)
theorem Dec.front (h:Dec L R) (hd:Dt L d):∃ v S,Dec L ((d::v)::S)/\R.length=S.length+1/\Wk (nx L) (nx L d) v d/\(∀ c∈S,c∈R):=by
 obtain ⟨c,hc,QA⟩:=YI.mp ((h.mem d).mpr hd);obtain ⟨S,p⟩:=pE hc;obtain ⟨v,pv,k⟩:=(h.ir c hc).turn QA;exact ⟨v,S,(h.perm p).swap pv ⟨d,v,rfl,.cons k⟩,p.length_eq,k,λs hs=>p.mem_iff.mpr (X8 _ hs)⟩
theorem lL (m:aB L) (h:Dt L (a,b)):(eJ L L.length).Perm ((a,b)::(b,a)::eJ (rem L a b) (rem L a b).length)/\(eJ L L.length).length=(eJ (rem L a b) (rem L a b).length).length+2:=by
 obtain ⟨b0,b1,b2,b3⟩:=h.back m;have hb:Dt L (b,a):=⟨b0,b1,b3⟩;have n2:((a,b)::(b,a)::eJ (rem L a b) (rem L a b).length).Nodup:=by
  refine Yp.mpr ⟨λz=>?_,Yp.mpr ⟨λz=>?_,bJ (Ag m h) (X7 _)⟩⟩
  ·rcases Yk.mp z with z|z
   ·exact b2 (Yt Prod.fst z).symm
   ·exact ((cw m h).mp (Dt.of z)).2.1 rfl
  ·exact ((cw m h).mp (Dt.of z)).2.2 rfl
 have e:∀ x,x∈eJ L L.length↔x∈(a,b)::(b,a)::eJ (rem L a b) (rem L a b).length:=λx=>by
  constructor
  ·intro z;by_cases e1:x=(a,b)
   ·rw [e1];exact Yg
   ·by_cases e2:x=(b,a)
    ·rw [e2];exact X8 _ Yg
    ·exact X8 _ (X8 _ ((cw m h).mpr ⟨Dt.of z,e1,e2⟩).all)
  ·intro z;rcases Yk.mp z with z|z
   ·rw [z];exact h.all
   ·rcases Yk.mp z with z|z
    ·rw [z];exact hb.all
    ·exact ((cw m h).mp (Dt.of z)).1.all
 have n1:=bJ m (X7 L.length);have l:=len_eq n1 n2 e;refine ⟨?_,by rw [l];rfl⟩;exact (List.perm_iff_count.mpr λx=>by
  have c:∀ {l:List aw},l.Nodup->l.count x=if x∈l then 1 else 0:=λ{l} hn=>by
   by_cases hx:x∈l
   ·rw [Ya hx];have h1:=List.nodup_iff_count.mp hn x;have h2:=List.count_pos_iff.mpr hx;omega
   ·rw [X6 hx,List.count_eq_zero.mpr hx]
  rw [c n1,c n2];by_cases hx:x∈eJ L L.length
  ·rw [Ya hx,Ya ((e x).mp hx)]
  ·rw [X6 hx,X6 (λz=>hx ((e x).mpr z))])
theorem uj (m:aB L) (h:Dt L (a,b)) (D:Dec L R) :
  (∃ A B S,Dec (rem L a b) ((if A=[] then [] else [A])++(if B=[] then [] else [B])++S)/\R.length=S.length+1/\Wk (nx L) (nx L (a,b)) A (b,a)/\Wk (nx L) (nx L (b,a)) B (a,b))\/
  (∃ A B S,Dec (rem L a b) ((A++B)::S)/\R.length=S.length+2/\A≠[]/\B≠[]/\Wk (nx (rem L a b)) (nx L (a,b)) A (nx L (b,a))/\Wk (nx (rem L a b)) (nx L (b,a)) B (nx L (a,b))/\(∀ d∈A++B,Dt (rem L a b) d)):=by
 obtain ⟨b0,b1,b2,b3⟩:=h.back m;have hb:Dt L (b,a):=⟨b0,b1,b3⟩;have ne:(a,b)≠(b,a):=λz=>b2 (Yt Prod.fst z).symm;have spec:∀ d,Dt L d->d≠(a,b)->d≠(b,a)->nx (rem L a b) d=if nx L d=(b,a) then nx L (a,b) else if nx L d=(a,b) then nx L (b,a) else nx L d:=λd h0 h1 h2=>mO m h ((cw m h).mpr ⟨h0,h1,h2⟩)
 obtain ⟨v,S,D1,MD,kv,_⟩:=D.front h;have CF:=D1.nd;rw [Zr,Z4,zaS,zbm] at CF;obtain ⟨yT,GA⟩:=CF;obtain ⟨UD,UH,UC⟩:=YD.mp GA;have Nx:∀ d∈v,Dt L d:=λd hd=>(D1.mem d).mp (by rw [Zr];exact Yx _ (X8 _ hd));by_cases q:(b,a)∈v
 ·left;obtain ⟨A,B,rfl⟩:=zbr q;obtain ⟨y,kA,kB⟩:=kv.split;have:=kB.hd;subst this;have kB:=kB.tl;obtain ⟨nA,nB,nX⟩:=YD.mp UD;obtain ⟨PD,Xq⟩:=Yp.mp nB;have Q6:(b,a)∉A:=λz=>nX _ z _ Yg rfl;have Rh:(a,b)∉A:=λz=>yT (.inl (Yx _ z));have Rg:(a,b)∉B:=λz=>yT (.inl (YA _ (X8 _ z)));refine ⟨A,B,S,⟨λc hc=>?_,?_,λd=>?_⟩,MD,kA,kB⟩
  ·rcases Ye.mp hc with hc|hc
   ·rcases Ye.mp hc with hc|hc
    ·by_cases z:A=[]
     ·rw [Ya z] at hc;cases hc
     ·rw [X6 z] at hc;rw [X9.mp hc];have k2:Wk (nx (rem L a b)) (nx L (a,b)) A (nx L (a,b)):=kA.new z Q6 (λd hd e=>by rw [spec d (Nx d (Yx _ hd)) (λy=>Rh (y▸hd)) (λy=>Q6 (y▸hd)),Ya e]) λd hd e=>by
       rw [spec d (Nx d (Yx _ hd)) (λy=>Rh (y▸hd)) (λy=>Q6 (y▸hd)),X6 e,X6];intro y;rcases kA.on d hd with w|w
       ·exact Rh (y▸w)
       ·exact e w
      cases A with
      | nil=>exact absurd rfl z
      | cons p A=>have:=k2.hd;subst this;exact ⟨_,_,rfl,k2⟩
    ·by_cases z:B=[]
     ·rw [Ya z] at hc;cases hc
     ·rw [X6 z] at hc;rw [X9.mp hc];have dB:∀ d∈B,Dt L d:=λd hd=>Nx d (YA _ (X8 _ hd));have k2:Wk (nx (rem L a b)) (nx L (b,a)) B (nx L (b,a)):=kB.new z Rg (λd hd e=>by rw [spec d (dB d hd) (λy=>Rg (y▸hd)) (λy=>PD (y▸hd)),e,X6 ne,Ya rfl]) λd hd e=>by
       rw [spec d (dB d hd) (λy=>Rg (y▸hd)) (λy=>PD (y▸hd)),X6,X6 e];intro y;rcases kB.on d hd with w|w
       ·exact PD (y▸w)
       ·exact e w
      cases B with
      | nil=>exact absurd rfl z
      | cons p B=>have:=k2.hd;subst this;exact ⟨_,_,rfl,k2⟩
   ·have cy:=D1.ir c (X8 _ hc);have PU:∀ d∈c,d∈S.flatten:=λd hd=>YI.mpr ⟨c,hc,hd⟩;have JT:(a,b)∉c:=λz=>yT (.inr (PU _ z));have BP:(b,a)∉c:=λz=>UC _ q _ (PU _ z) rfl;obtain ⟨p,r,rfl,k⟩:=id cy;refine ⟨p,r,rfl,k.congr λd hd=>?_⟩;have dd:Dt L d:=(D1.mem d).mp (by rw [Zr];exact YA _ (PU d hd));have on:=cy.on hd;have o1:nx L d≠(b,a):=λy=>BP (by rw [<-y];exact on);have o2:nx L d≠(a,b):=λy=>JT (by rw [<-y];exact on);rw [spec d dd (λy=>JT (y▸hd)) (λy=>BP (y▸hd)),X6 o1,X6 o2]
  ·have fA:∀ A:List aw,(if A=[] then ([]:List (List aw)) else [A]).flatten=A:=λA=>by
    by_cases z:A=[]
    ·rw [Ya z,z];rfl
    ·rw [X6 z];simp
   rw [ZM,ZM,fA,fA,zab];have:(A++(B++S.flatten)).Perm (A++(B++S.flatten)):=zbP _;have e:((A++(b,a)::B)++S.flatten).Perm ((b,a)::(A++(B++S.flatten))):=by
    rw [zab,Z4];exact perm_middle
   exact (Yp.mp (e.nodup_iff.mp GA)).2
  ·have fA:∀ A:List aw,(if A=[] then ([]:List (List aw)) else [A]).flatten=A:=λA=>by
    by_cases z:A=[]
    ·rw [Ya z,z];rfl
    ·rw [X6 z];simp
   rw [ZM,ZM,fA,fA,zab,cw m h,<-D1.mem];have e:((A++(b,a)::B)++S.flatten).Perm ((b,a)::(A++(B++S.flatten))):=by
    rw [zab,Z4];exact perm_middle
   have e2:=Yp.mp (e.nodup_iff.mp GA);rw [Zr,Z4];have e3:(a,b)∉A++(B++S.flatten):=λz=>yT (Ye.mp (e.mem_iff.mpr (X8 _ z)));constructor
   ·intro z;exact ⟨X8 _ (e.mem_iff.mpr (X8 _ z)),λy=>e3 (y▸z),λy=>e2.1 (y▸z)⟩
   ·rintro ⟨z,z1,z2⟩;rcases Yk.mp z with z|z
    ·exact absurd z z1
    ·rcases Yk.mp (e.mem_iff.mp z) with z|z
     ·exact absurd z z2
     ·exact z
 ·right;have q2:(b,a)∈S.flatten:=by
   have:=(D1.mem (b,a)).mpr hb;rw [Zr,Z4] at this;rcases Yk.mp this with z|z
   ·exact absurd z.symm ne
   ·rcases Ye.mp z with z|z
    ·exact absurd z q
    ·exact z
  obtain ⟨c,hc,VY⟩:=YI.mp q2;obtain ⟨T,pT⟩:=pE hc;obtain ⟨w,pw,kw⟩:=(D1.ir c (X8 _ hc)).turn VY;have pS:S.flatten.Perm (((b,a)::w)++T.flatten):=by
   refine pT.flatten.trans ?_;rw [Zr];exact pw.symm.append_right _
  have nS:=pS.nodup_iff.mp UH;rw [Z4,zaS,zbm] at nS;obtain ⟨UJ,Xp⟩:=nS;have WK:(a,b)∉S.flatten:=λz=>yT (.inr z);have Rb:(a,b)∉w:=λz=>WK (pS.mem_iff.mpr (Yx _ (X8 _ z)));have Q5:(b,a)∉w:=λz=>UJ (.inl z);have Rc:(a,b)∉v:=λz=>yT (.inl z);have Tt:∀ d∈w,Dt L d:=λd hd=>(D1.mem d).mp (by rw [Zr];exact YA _ (pS.mem_iff.mpr (Yx _ (X8 _ hd))));have v0:v≠[]:=λz=>by
   rw [z] at kv;have:nx L (a,b)=(a,b):=kv.nil_eq;exact b2 (Yt Prod.fst this)
  have w0:w≠[]:=λz=>by
   rw [z] at kw;have:nx L (b,a)=(b,a):=kw.nil_eq;exact b2 (Yt Prod.fst this).symm
  have k1:Wk (nx (rem L a b)) (nx L (a,b)) v (nx L (b,a)):=kv.new v0 Rc (λd hd e=>by rw [spec d (Nx d hd) (λy=>Rc (y▸hd)) (λy=>q (y▸hd)),e,X6 ne,Ya rfl]) λd hd e=>by
   rw [spec d (Nx d hd) (λy=>Rc (y▸hd)) (λy=>q (y▸hd)),X6,X6 e];intro y;rcases kv.on d hd with u|u
   ·exact q (y▸u)
   ·exact e u
  have k2:Wk (nx (rem L a b)) (nx L (b,a)) w (nx L (a,b)):=kw.new w0 Q5 (λd hd e=>by rw [spec d (Tt d hd) (λy=>Rb (y▸hd)) (λy=>Q5 (y▸hd)),Ya e]) λd hd e=>by
   rw [spec d (Tt d hd) (λy=>Rb (y▸hd)) (λy=>Q5 (y▸hd)),X6 e,X6];intro y;rcases kw.on d hd with u|u
   ·exact Rb (y▸u)
   ·exact e u
  have pe:((a,b)::(v++S.flatten)).Perm ((a,b)::(b,a)::((v++w)++T.flatten)):=by
   refine List.Perm.cons _ ?_;rw [zab];exact (pS.append_left v).trans (by rw [Z4];exact perm_middle)
  have nA:((a,b)::(b,a)::((v++w)++T.flatten)).Nodup:=pe.nodup_iff.mp (Yp.mpr ⟨λz=>yT (Ye.mp z),GA⟩);obtain ⟨Sn,UL⟩:=Yp.mp nA;obtain ⟨Sm,UK⟩:=Yp.mp UL;have mm:∀ d,d∈(v++w)++T.flatten↔Dt (rem L a b) d:=λd=>by
   rw [cw m h,<-D1.mem,Zr,Z4,pe.mem_iff];constructor
   ·intro z;exact ⟨X8 _ (X8 _ z),λy=>Sn (X8 _ (y▸z)),λy=>Sm (y▸z)⟩
   ·rintro ⟨z,z1,z2⟩;rcases Yk.mp z with z|z
    ·exact absurd z z1
    ·rcases Yk.mp z with z|z
     ·exact absurd z z2
     ·exact z
  refine ⟨v,w,T,⟨λs hs=>?_,by rw [Zr];exact UK,λd=>by rw [Zr];exact mm d⟩,by rw [MD,pT.length_eq];rfl,v0,w0,k1,k2,λd hd=>(mm d).mp (Yx _ hd)⟩;rcases Yk.mp hs with z|z
  ·rw [z];have k:=k1.append k2;cases v with
   | nil=>exact absurd rfl v0
   | cons p v=>have:=k1.hd;subst this;exact ⟨_,_,rfl,k⟩
  ·have Vo:s∈S:=pT.mem_iff.mpr (X8 _ z);have cy:=D1.ir s (X8 _ Vo);have Ki:∀ d∈s,d∈T.flatten:=λd hd=>YI.mpr ⟨s,z,hd⟩;have JT:(a,b)∉s:=λy=>Sn (X8 _ (YA _ (Ki _ y)));have BP:(b,a)∉s:=λy=>Sm (YA _ (Ki _ y));obtain ⟨p,r,rfl,k⟩:=id cy;refine ⟨p,r,rfl,k.congr λd hd=>?_⟩;have dd:Dt L d:=((cw m h).mp ((mm d).mp (YA _ (Ki d hd)))).1;have on:=cy.on hd;have o1:nx L d≠(b,a):=λy=>BP (by rw [<-y];exact on);have o2:nx L d≠(a,b):=λy=>JT (by rw [<-y];exact on);rw [spec d dd (λy=>JT (y▸hd)) (λy=>BP (y▸hd)),X6 o1,X6 o2]
def iso (L:UF):Nat:=L.countP (·.isEmpty)
def jT (L:UF) (S:UV):Prop:=∀ x:Int,0<=x->x<L.length->∃ s∈S,Reach L s x
theorem Reach.one (h:Reach L s d.1) (q:Dt L d):Reach L s d.2:=by
 have e:((d.1.toNat:Nat):Int)=d.1:=Z1 q.lo;exact .step (i:=d.1.toNat) (by rw [e];exact h) (aE q.lo q.hi) q.mem
theorem Reach.trans (h:Reach L s x) (k:Reach L x y):Reach L s y:=by
 induction k with
 | here=>exact h
 | step _ e hx ih=>exact .step ih e hx
theorem Reach.n6 {i:Nat} {x:Int} (e:L[i]?=some l) (hx:x∈l):Dt L ((i:Int),x):=by
 have hi:=(X3.mp e).1;have:=aE (L:=L) (a:=(i:Int)) (Tk _) (by omega);rw [Yu,e] at this;exact ⟨by simp,by simpa using hi,by rw [<-Yf this];exact hx⟩
theorem Reach.off (m:aB L) (h:Dt L (a,b)) (r:Reach L s x):Reach (rem L a b) s x\/Reach (rem L a b) a x\/Reach (rem L a b) b x:=by
 induction r with
 | here=>exact .inl .here
 | step r e hx ih=>
  rename_i i l y;have d:=Reach.n6 e hx;by_cases e1:((i:Int),y)=(a,b)
  ·have:y=b:=Yt Prod.snd e1;rw [this];exact .inr (.inr .here)
  ·by_cases e2:((i:Int),y)=(b,a)
   ·have:y=a:=Yt Prod.snd e2;rw [this];exact .inr (.inl .here)
   ·have d2:=(cw m h).mpr ⟨d,e1,e2⟩;rcases ih with z|z|z
    ·exact .inl (Reach.one (d:=((i:Int),y)) z d2)
    ·exact .inr (.inl (Reach.one (d:=((i:Int),y)) z d2))
    ·exact .inr (.inr (Reach.one (d:=((i:Int),y)) z d2))
theorem Reach.near (m:aB L) (h:Dt L (a,b)) (r:Reach L s x):Reach (rem L a b) s x\/Reach (rem L a b) s a\/Reach (rem L a b) s b:=by
 induction r with
 | here=>exact .inl .here
 | step r e hx ih=>
  rename_i i l y;have d:=Reach.n6 e hx;rcases ih with z|z
  ·by_cases e1:((i:Int),y)=(a,b)
   ·have:(i:Int)=a:=Yt Prod.fst e1;rw [this] at z;exact .inr (.inl z)
   ·by_cases e2:((i:Int),y)=(b,a)
    ·have:(i:Int)=b:=Yt Prod.fst e2;rw [this] at z;exact .inr (.inr z)
    ·exact .inl (Reach.one (d:=((i:Int),y)) z ((cw m h).mpr ⟨d,e1,e2⟩))
  ·exact .inr z
theorem Wk.reach (h:Wk (nx L) x l y) (q:∀ d∈l,Dt L d):Reach L x.1 y.1:=by
 induction h with
 | nil _=>exact .here
 | @cons x y l _ ih=>
  have d:=q x Yg;exact (Reach.one (d:=x) .here d).trans (ih λd hd=>q d (X8 _ hd))
theorem jT.more (m:aB L) (h:Dt L (a,b)) (s:jT L S):∃ t,jT (rem L a b) (t::S):=by
 obtain ⟨b0,b1,b2,b3⟩:=h.back m;obtain ⟨s0,MT,r0⟩:=s a h.lo h.hi;have pick:Reach (rem L a b) s0 a\/Reach (rem L a b) s0 b:=by
  rcases r0.near m h with z|z|z
  ·exact .inl z
  ·exact .inl z
  ·exact .inr z
 rcases pick with p|p
 ·refine ⟨b,λx x0 x1=>?_⟩;rw [fT] at x1;obtain ⟨s1,MS,r1⟩:=s x x0 x1;rcases r1.off m h with z|z|z
  ·exact ⟨s1,X8 _ MS,z⟩
  ·exact ⟨s0,X8 _ MT,p.trans z⟩
  ·exact ⟨b,Yg,z⟩
 ·refine ⟨a,λx x0 x1=>?_⟩;rw [fT] at x1;obtain ⟨s1,MS,r1⟩:=s x x0 x1;rcases r1.off m h with z|z|z
  ·exact ⟨s1,X8 _ MS,z⟩
  ·exact ⟨a,Yg,z⟩
  ·exact ⟨s0,X8 _ MT,p.trans z⟩
theorem jT.L3 (m:aB L) (h:Dt L (a,b)) (r1:Reach (rem L a b) a b) (r2:Reach (rem L a b) b a) (s:jT L S):jT (rem L a b) S:=by
 obtain ⟨s0,MT,r0⟩:=s a h.lo h.hi;have pick:Reach (rem L a b) s0 a:=by
  rcases r0.near m h with z|z|z
  ·exact z
  ·exact z
  ·exact z.trans r2
 intro x x0 x1;rw [fT] at x1;obtain ⟨s1,MS,q⟩:=s x x0 x1;rcases q.off m h with z|z|z
 ·exact ⟨s1,MS,z⟩
 ·exact ⟨s0,MT,pick.trans z⟩
 ·exact ⟨s0,MT,(pick.trans r1).trans z⟩
theorem ui (m:aB L) (h:Dt L (a,b)):iso (rem L a b)=iso L+(if (tx L b).erase a=[] then 1 else 0)+(if (tx L a).erase b=[] then 1 else 0):=by
 obtain ⟨b0,b1,b2,b3⟩:=h.back m;have a0:=h.lo;have a1:=h.hi;have hm:=h.mem;dsimp only at a0 a1 b0 b1 b2 b3 hm;have la:a.toNat<L.length:=by omega
 have lb:b.toNat<L.length:=by omega
 have ea:L[a.toNat]=tx L a:=by have:=aE a0 a1;rw [X4 la] at this;exact Yf this
 have eb:L[b.toNat]=tx L b:=by have:=aE b0 b1;rw [X4 lb] at this;exact Yf this
 have na:(tx L a).isEmpty=false:=by cases q:tx L a with|nil=>rw [q] at hm;cases hm|cons _ _=>rfl
 have nb:(tx L b).isEmpty=false:=by cases q:tx L b with|nil=>rw [q] at b3;cases b3|cons _ _=>rfl
 have iE:∀ l:UV,(if l.isEmpty=true then 1 else 0)=(if l=[] then 1 else 0):=λl=>by cases l<;>simp
 unfold iso rem;have sN:¬a.toNat=b.toNat:=by omega
 have e1:(L.set a.toNat ((tx L a).erase b))[b.toNat]'(by rw [zaG];exact lb)=tx L b:=by rw [getElem_set,X6 sN,eb]
 rw [countP_set (by rw [zaG];exact lb),countP_set la,e1,ea,na,nb,iE,iE];simp only [YY,ZO,zbH];omega
theorem fX (m:aB L) (h:Dt L (a,b)):(tx L b).erase a=[]↔nx L (a,b)=(b,a):=by
 obtain ⟨b0,b1,b2,b3⟩:=h.back m;dsimp only at b0 b1 b2 b3;have n:=m.nd _ _ (aE b0 b1);constructor
 ·intro z;have:tx L b=[a]:=by
   obtain ⟨u,v,e⟩:=zbr b3;rw [e] at z n ⊢;have yu:a∉u:=λy=>(YD.mp n).2.2 a y a Yg rfl;rw [zaT _ yu,zaQ] at z;obtain ⟨z1,z2⟩:=List.append_eq_nil_iff.mp z;rw [z1,z2];rfl
  unfold nx;rw [this];refine Zl rfl ?_;show pre [a] a=a;unfold pre cy;simp [Nat.mod_one]
 ·intro z;have e:pre (tx L b) a=a:=Yt Prod.snd z;rw [lO n b3 e];simp
theorem Wk.all {f:aw->aw} {x y:aw} {P:aw->Prop} (h:Wk f x l y) (hx:P x) (s:∀ d∈l,P d->P (f d)):∀ d∈l,P d:=by
 induction h with
 | nil _=>intro d hd;cases hd
 | @cons x y l _ ih=>
  intro d hd;rcases Yk.mp hd with e|e
  ·rw [e];exact hx
  ·exact ih (s x Yg hx) (λd hd=>s d (X8 _ hd)) d e
theorem tG.conn {f:aw->aw} {x y:aw} {P:aw->Prop} (h:tG f c) (hx:x∈c) (hy:y∈c) (px:P x) (s:∀ d∈c,P d->P (f d)):P y:=by
 obtain ⟨v,p,k⟩:=h.turn hx;have k2:Wk f x (x::v) x:=.cons k;exact k2.all px (λd hd=>s d (p.mem_iff.mp hd)) y (p.mem_iff.mpr hy)
theorem iq {R:List (List aw)} (n:R.flatten.Nodup) {c e:List aw} {d:aw} (hc:c∈R) (he:e∈R) (h1:d∈c) (h2:d∈e):c=e:=by
 have p:=(ZD.mp n).2;obtain ⟨i,hi,rfl⟩:=Yv.mp hc;obtain ⟨j,hj,rfl⟩:=Yv.mp he;have q:=YS.mp p;rcases ZA i j with z|z|z
 ·exact absurd rfl (q i j hi hj z d h1 d h2)
 ·subst z;rfl
 ·exact absurd rfl (q j i hj hi z d h2 d h1)
def Kx (c:List aw):aw:=c.headD (0,0)
def rep (R:List (List aw)) (d:aw):aw:=((R.find? λc=>decide (d∈c)).map Kx).getD (0,0)
theorem yD (h:d∈R.flatten):∃ c∈R,d∈c/\rep R d=Kx c:=by
 obtain ⟨c,hc,hd⟩:=YI.mp h;unfold rep;cases q:R.find? λc=>decide (d∈c) with
 | none=>have:=List.find?_eq_none.mp q c hc;simp [hd] at this
 | some e=>
  have h1:=find?_some q;exact ⟨e,mem_of_find?_eq_some q,by simpa using h1,rfl⟩
theorem qu (h:c≠[]):Kx c∈c:=by cases c with|nil=>exact absurd rfl h|cons a l=>exact Yg
theorem Dec.le (h:Dec L R) (k:Dec L S):R.length<=S.length:=by
 have hm:∀ c∈R,Kx c∈S.flatten:=λc hc=>(k.mem _).mpr ((h.mem _).mp (YI.mpr ⟨c,hc,qu (h.ir c hc).ne⟩));have n:(R.map λc=>rep S (Kx c)).Nodup:=by
  have p:=(ZD.mp h.nd).2;refine Zi _ (λx y sM=>sM) (ZE (λ{c e} hc he VU z=>?_) p);obtain ⟨c',h1,h2,h3⟩:=yD (hm c hc);obtain ⟨e',g1,g2,g3⟩:=yD (hm e he);rw [h3,g3] at z;have ee:c'=e':=iq k.nd h1 g1 (qu (k.ir c' h1).ne) (by rw [z];exact qu (k.ir e' g1).ne);subst ee;have:Kx e∈c:=(k.ir c' h1).conn (P:=λd=>d∈c) h2 g2 (qu (h.ir c hc).ne) λd _ hd=>(h.ir c hc).on hd;exact VU _ this _ (qu (h.ir e he).ne) rfl
 have:=dh n (r:=S.map Kx) λx hx=>by
  obtain ⟨c,hc,rfl⟩:=Yc.mp hx;obtain ⟨c',h1,h2,h3⟩:=yD (hm c hc);rw [h3];exact Yc.mpr ⟨c',h1,rfl⟩
 simpa using this
def Dec.count (h:Dec L R) (k:Dec L S):R.length=S.length:=Nat.le_antisymm (h.le k) (k.le h)
theorem HF {L:UF} {r:UV} (g:Good L r):∀ (n s:Nat),Wk (nx L) (dj r s) ((List.range n).map λj=>dj r (j+s)) (dj r (s+n))
 | 0,s=>.nil _
 | n+1,s=>by
  have e2:(List.range (n+1)).map (λj=>dj r (j+s))=dj r s::(List.range n).map (λj=>dj r (j+(s+1))):=by
   rw [zbd,Y8,zaE,ZL]
   congr 1
   refine Zg λj _=>?_;show dj r (j+1+s)=_
   congr 1
   omega
  rw [e2];refine .cons ?_;rw [g.st,show s+(n+1)=s+1+n by omega];exact HF g n (s+1)
theorem Good.ir (g:Good L r):tG (nx L) (sh 0 r):=by
 have k:=HF g r.length 0;have e:dj r (0+r.length)=dj r 0:=bI (by rw [ZL,zbg,zbI]);rw [e] at k;have two:=g.two;have k':Wk (nx L) (dj r 0) (sh 0 r) (dj r 0):=k;cases q:sh 0 r with
 | nil=>have:=dG 0 r;rw [q] at this;simp at this;omega
 | cons x l=>
  rw [q] at k';have:=k'.hd;subst this;exact ⟨_,_,rfl,k'⟩
theorem fB {L:UF}:∀ {k:Nat} {d:aw},k<=L.length->(d∈eX L k↔0<=d.1/\d.1<k/\d.1<d.2/\d.2<L.length/\d.2∈tx L d.1)
 | 0,d,_=>by simp only [eX,YT,false_iff];intro h;omega
 | k+1,d,hk=>by
  rw [eX,zbm,fB (ZJ ‹_›),mem_map];have er:L.getD k []=tx L (k:Int):=rfl;rw [er];constructor
  ·rintro (⟨h1,h2,h3⟩|⟨x,hx,rfl⟩)
   ·exact ⟨h1,by omega,h3⟩
   ·have:=jH.mp hx;exact ⟨by simp,by simp;omega,this.1,by have:=this.2.1;dsimp only;omega,this.2.2⟩
  ·rintro ⟨h1,h2,h3,h4,h5⟩;by_cases e:d.1=k
   ·right;rw [e] at h5 h3;exact ⟨d.2,jH.mpr ⟨h3,by omega,h5⟩,Zl e.symm rfl⟩
   ·left;exact ⟨h1,by omega,h3,h4,h5⟩
theorem pP {L:UF}:∀ {k:Nat},k<=L.length->(eX L k).Nodup
 | 0,_=>.nil
 | k+1,hk=>by
  rw [eX,zbG];refine ⟨pP (ZJ ‹_›),?_,λa ha b hb z=>?_⟩
  ·exact Zi _ (λx y sM z=>by have:=Yt Prod.snd z;dsimp only at this;omega) (js (i:=k) (l:=L.getD k []) (L.length-(k+1)))
  ·have:=((fB (ZJ ‹_›)).mp ha).2.1;obtain ⟨x,_,rfl⟩:=Yc.mp hb;rw [z] at this;simp at this
theorem xJ:∀ (l:List aw) (p:aw->Bool),l.length=(l.filter p).length+(l.filter λd=>!p d).length
 | [],_=>rfl
 | x::l,p=>by
  have:=xJ l p;cases q:p x with
  | true=>rw [zaU q,zaV (by simp [q]),YV,YV];omega
  | false=>rw [zaV (by simp [q]),zaU (by simp [q]),YV,YV];omega
theorem cM (m:aB L):(eJ L L.length).length=2*(eX L L.length).length:=by
 have n:=bJ m (X7 L.length);have nd:=pP (L:=L) (X7 L.length);have s:=xJ (eJ L L.length) (λd:aw=>decide (d.1<d.2));have e1:((eJ L L.length).filter λd=>decide (d.1<d.2)).length=(eX L L.length).length:=by
  refine len_eq (n.filter _) nd λd=>?_;rw [zaR,fB (X7 _)];constructor
  ·rintro ⟨h1,h2⟩;have q:=Dt.of h1;exact ⟨q.lo,q.hi,by simpa using h2,(q.back m).2.1,q.mem⟩
  ·rintro ⟨h1,h2,h3,h4,h5⟩;exact ⟨Dt.all ⟨h1,h2,h5⟩,by simpa using h3⟩
 have e2:((eJ L L.length).filter λd=>!decide (d.1<d.2)).length=((eX L L.length).map λd=>(d.2,d.1)).length:=by
  have BR:((eX L L.length).map λd=>(d.2,d.1)).Nodup:=Zi _ (λx y sM z=>sM (Zl (Yt Prod.snd z) (Yt Prod.fst z))) nd;refine len_eq (n.filter _) BR λd=>?_
  ·rw [zaR,mem_map];constructor
   ·rintro ⟨h1,h2⟩;have q:=Dt.of h1;obtain ⟨b0,b1,b2,b3⟩:=q.back m;refine ⟨(d.2,d.1),(fB (X7 _)).mpr ⟨b0,b1,?_,q.hi,b3⟩,rfl⟩;have:¬d.1<d.2:=by simpa using h2
    dsimp only;omega
   ·rintro ⟨e,he,rfl⟩;obtain ⟨h1,h2,h3,h4,h5⟩:=(fB (X7 _)).mp he;obtain ⟨b0,b1,b2,b3⟩:=Dt.back (d:=e) ⟨h1,h2,h5⟩ m;refine ⟨Dt.all ⟨b0,b1,b3⟩,?_⟩;have:¬e.2<e.1:=by omega
    simpa using this
 rw [Pd] at e2;omega
theorem HE {L:UF} {d:aw}:∀ k,Wk (nx L) d (tr L d k) (it L d k)
 | 0=>.nil _
 | k+1=>by
  have e:tr L d (k+1)=tr L d k++[it L d k]:=by unfold tr;rw [Z9,Yl];rfl
  rw [e];exact (HE k).append (.cons (.nil _))
theorem I9 (hk:0<k) (e:it L d k=d):tG (nx L) (tr L d k):=by
 have w:=HE (L:=L) (d:=d) k;rw [e] at w;obtain ⟨j,rfl⟩:∃ j,k=j+1:=⟨k-1,by omega⟩;have e2:tr L d (j+1)=d::(tr L d (j+1)).tail:=by unfold tr;rw [zbd];rfl
 exact ⟨d,_,e2,w⟩
theorem zp (m:aB L) (h:Dt L d):∃ k,0<k/\it L d k=d/\jV L d k:=by
 have go:∀ n,(∃ k,0<k/\it L d k=d/\jV L d k)\/jV L d (n+1):=by
  intro n
  induction n with
  | zero=>exact .inr λi h1 h2=>by omega
  | succ n ih=>
   rcases ih with z|z
   ·exact .inl z
   ·by_cases e:it L d (n+1)=d
    ·exact .inl ⟨n+1,TD _,e,z⟩
    ·refine .inr λi h1 h2=>?_;by_cases q:i=n+1
     ·rw [q];exact e
     ·exact z i h1 (by omega)
 rcases go (eJ L L.length).length with z|z
 ·exact z
 ·have:=pQ m h z;omega
structure Dp (L:UF) (R:List (List aw)):Prop where
 ir:∀ c∈R,tG (nx L) c
 nd:R.flatten.Nodup
 dt:∀ d∈R.flatten,Dt L d
theorem Dp.start:Dp L []:=⟨by simp,.nil,by simp⟩
theorem Dp.on (p:Dp L R) (h:d∈R.flatten):∀ t,it L d t∈R.flatten
 | 0=>h
 | t+1=>by
  obtain ⟨c,hc,hd⟩:=YI.mp (p.on h t);exact YI.mpr ⟨c,hc,(p.ir c hc).on hd⟩
theorem Dp.new (p:Dp L R) (hk:0<k) (e:it L d k=d) (n:d∉R.flatten) (j:Nat):it L d j∉R.flatten:=by
 intro h;refine n ?_;have:=p.on h (k*j-j);rw [<-ql,show j+(k*j-j)=k*j from by have:=Nat.le_mul_of_pos_left j hk;omega,zbe] at this;have z:=y6 e (j*k);rw [Nat.mul_mod_left] at z;rw [<-z] at this;exact this
theorem Dp.add (m:aB L) (p:Dp L R) (h:Dt L d) (hk:0<k) (e:it L d k=d) (nr:jV L d k) (n:d∉R.flatten):Dp L (R++[tr L d k]):=by
 refine ⟨λc hc=>?_,?_,λx hx=>?_⟩
 ·rcases Ye.mp hc with z|z
  ·exact p.ir c z
  ·rw [X9.mp z];exact I9 hk e
 ·rw [ZM,zaj,zbG];refine ⟨p.nd,oE m h nr,λx hx y hy z=>?_⟩;obtain ⟨j,_,rfl⟩:=Yc.mp hy;exact p.new hk e n j (z▸hx)
 ·rw [ZM,zaj] at hx;rcases Ye.mp hx with z|z
  ·exact p.dt x z
  ·obtain ⟨j,_,rfl⟩:=Yc.mp z;exact qj m h j
def Dp.dec (p:Dp L R) (all:∀ d,Dt L d->d∈R.flatten):Dec L R:=⟨p.ir,p.nd,λd=>⟨p.dt d,all d⟩⟩
end Gm
namespace L2
open PySem PySem.Spec PySem.W PySem.Calls PyProof.Rows
def zz (ns:UV):UV:=ns.foldl step_dedup []
theorem zj (ns:UV):firstMet (λi=>ns.getD i 0) ns.length=zz ns:=by
 unfold firstMet zz;rw [show ((List.range ns.length).map λi=>ns.getD i 0)=ns from Gm.range_getD ns]
theorem Bc:∀ (ns σ:UV),σ.Nodup->((ns.foldl step_dedup σ).length=σ.length+ns.length↔(σ++ns).Nodup)
 | [],σ,h=>by simp [h]
 | x::ns,σ,h=>by
  rw [foldl_cons];by_cases e:x∈σ
  ·have e1:step_dedup σ x=σ:=by unfold step_dedup;rw [Ya (by simpa using e)]
   rw [e1];constructor
   ·intro z;have:=foldl_step_dedup_length_le σ ns;rw [YV] at z;omega
   ·intro z;exact absurd rfl ((YD.mp z).2.2 x e x Yg)
  ·have e1:step_dedup σ x=σ++[x]:=by unfold step_dedup;rw [X6 (by simpa using e)]
   rw [e1];have n1:(σ++[x]).Nodup:=(zaf x σ).nodup_iff.mpr (Yp.mpr ⟨e,h⟩);have:=Bc ns (σ++[x]) n1;rw [Yr,YX,zab,singleton_append] at this;rw [<-this,YV];omega
theorem E4 (ns:UV):(zz ns).length=ns.length↔ns.Nodup:=by
 have:=Bc ns [] .nil;rw [zac,ZL,nil_append] at this;exact this
def Mg (K:Frag):List V->Hp->VK->Prop:=λvs H Q=>∃ (a:Addr) (ns:UV),vs=[.ref a]/\aN K H a (ns.map V.int)/\ns.length<=1000/\∀ (p:Addr) (S:Int->Bool),H p=none->Q (.ref p) (upd H p (.set S (zz ns).length))
theorem Cn (hc:X.calm=true):fG X (.type "set") (Mg X.K):=by
 intro pins s σ H xs us Q I r h;obtain ⟨a,ns,rfl,ha,hl,q⟩:=h;obtain ⟨u,rfl,ru⟩:=vals1 r;cases ru
 obtain ⟨aY,rv,pl,hz⟩:=I.list ha;have hi:IntsAre aY ns:=intsAre_of rv;have zl:=hi.length;refine call_set_list (I.ok.hd hc) pl.isList (by simpa using hi) (by rw [YE,zl];exact Nat.lt_of_le_of_lt (Nat.succ_le_succ hl) (by decide)) λh' tk hS kk=>?_;have ez:aY.toArray.size=ns.length:=by rw [YE];exact zl
 rw [ez,zj] at hS;exact ⟨.ref s.heap.objs.size,_,I.laid (t':=tk) (λb o e=>kk b o (Yi e) e) (X7 _) (show bC X.prog X.w _ h' s.heap.objs.size (.set _ (zz ns).length) from hS),rfl,q _ _ (I.bH.fresh (X7 _))⟩
theorem Cp:fG X (.builtin "len") (λxs H Q=>∃ a S n,xs=[V.ref a]/\H a=some (.set S n)/\Q (.int (n:Nat)) H):=by
 intro pins s σ H xs us Q I r h;obtain ⟨a,S,n,rfl,ha,q⟩:=h;obtain ⟨u,rfl,ru⟩:=vals1 r;cases ru
 obtain ⟨o,es,ep,tt,ho,hex,hd,_,_,eK,hf,hn⟩:=(show s.heap.SetOf (intKind X.prog X.w) a S n from I.bH a _ ha);have lt:es.size<4096:=eK;refine call_len_set ho hex hd hf (by omega) ⟨.int (n:Nat),H,I.tok _,⟨_,by rw [hn]⟩,q⟩
end L2
namespace Gm
open PySem L2
theorem qz (m:aB L):∃ R,Dec L R:=by
 have go:∀ ds:List aw,(∀ d∈ds,Dt L d)->∃ R,Dp L R/\∀ d∈ds,d∈R.flatten:=by
  intro ds
  induction ds with
  | nil=>intro _;exact ⟨[],Dp.start,by simp⟩
  | cons d ds ih=>
   intro h;obtain ⟨R,p,q⟩:=ih λx hx=>h x (X8 _ hx);by_cases e:d∈R.flatten
   ·refine ⟨R,p,λx hx=>?_⟩;rcases Yk.mp hx with z|z
    ·rw [z];exact e
    ·exact q x z
   ·have dt:=h d Yg;obtain ⟨k,k0,ek,nr⟩:=zp m dt;refine ⟨_,p.add m dt k0 ek nr e,λx hx=>?_⟩;rw [ZM,zaj];rcases Yk.mp hx with z|z
    ·rw [z];exact YA _ (Yc.mpr ⟨0,YO.mpr k0,rfl⟩)
    ·exact Yx _ (q x z)
 obtain ⟨R,p,q⟩:=go (eJ L L.length) λd hd=>Dt.of hd;exact ⟨R,p.dec λd hd=>q d hd.all⟩
theorem Wk.last (h:Wk f x l y) (n:l≠[]):∃ d∈l,f d=y:=by
 induction h with
 | nil _=>exact absurd rfl n
 | @cons x y l k ih=>
  cases l with
  | nil=>exact ⟨x,Yg,k.nil_eq⟩
  | cons p l=>
   obtain ⟨d,hd,e⟩:=ih (by simp);exact ⟨d,X8 _ hd,e⟩
theorem Hl (m':aB M) (h:Dt M (a,b)) (f1:nx M (z1,a)=(a,b)) (f2:nx M (z2,b)=(b,a)) (d1:Dt (rem M a b) (z1,a)) (d2:Dt (rem M a b) (z2,b)) (D:Dec (rem M a b) R) (D':Dec M R')
  (conn:∀ P:aw->Prop,P (z1,a)->(∀ d,Dt (rem M a b) d->P d->P (nx (rem M a b) d))->P (z2,b)):R'.length=R.length+1/\iso M=iso (rem M a b):=by
 obtain ⟨b0,b1,b2,b3⟩:=h.back m';have hb:Dt M (b,a):=⟨b0,b1,b3⟩;have o1:=(cw m' h).mp d1;have o2:=(cw m' h).mp d2;have x1:nx M (a,b)≠(b,a):=λz=>o2.2.1 (eF m' h o2.1 (z.trans f2.symm)).symm;have x2:nx M (b,a)≠(a,b):=λz=>o1.2.2 (eF m' hb o1.1 (z.trans f1.symm)).symm;have i1:¬(tx M b).erase a=[]:=λz=>x1 ((fX m' h).mp z);have i2:¬(tx M a).erase b=[]:=λz=>x2 ((fX m' hb).mp z);have iE:=ui m' h;rw [X6 i1,X6 i2] at iE;refine ⟨?_,iE.symm⟩;rcases uj m' h D' with ⟨A,B,S,DL,lR,kA,kB⟩|⟨A,B,S,DL,lR,_⟩
 ·exfalso;have A0:A≠[]:=λz=>by rw [z] at kA;exact x1 kA.nil_eq
  have B0:B≠[]:=λz=>by rw [z] at kB;exact x2 kB.nil_eq
  rw [X6 A0,X6 B0] at DL;have U5:∀ d∈A,Dt M d:=λd hd=>((cw m' h).mp ((DL.mem d).mp (YI.mpr ⟨A,by simp,hd⟩))).1;have U4:∀ d∈B,Dt M d:=λd hd=>((cw m' h).mp ((DL.mem d).mp (YI.mpr ⟨B,by simp,hd⟩))).1;obtain ⟨p,hp,ep⟩:=kA.last A0;obtain ⟨q,hq,eq⟩:=kB.last B0;have pe:p=(z2,b):=eF m' (U5 p hp) o2.1 (ep.trans f2.symm);have qe:q=(z1,a):=eF m' (U4 q hq) o1.1 (eq.trans f1.symm);rw [pe] at hp;rw [qe] at hq;have cB:tG (nx (rem M a b)) B:=DL.ir B (by simp);have:=conn (λd=>d∈B) hq λd _ hd=>cB.on hd;have nd:=DL.nd;rw [ZM,ZM,zaj,zaj,zab] at nd;exact (YD.mp nd).2.2 _ hp _ (Yx _ this) rfl
 ·have:=D.count DL;rw [YV] at this;omega
theorem Ew (m':aB M) (h:Dt M (a,b)) (e1:nx M (a,b)=(b,a)) (f1:nx M (z1,a)=(a,b)) (d1:Dt (rem M a b) (z1,a)) (D:Dec (rem M a b) R) (D':Dec M R'):R'.length=R.length/\iso (rem M a b)=iso M+1:=by
 obtain ⟨b0,b1,b2,b3⟩:=h.back m';have hb:Dt M (b,a):=⟨b0,b1,b3⟩;have o1:=(cw m' h).mp d1;have x2:nx M (b,a)≠(a,b):=λz=>o1.2.2 (eF m' hb o1.1 (z.trans f1.symm)).symm;have i2:¬(tx M a).erase b=[]:=λz=>x2 ((fX m' hb).mp z);have iE:=ui m' h;rw [Ya ((fX m' h).mpr e1),X6 i2] at iE;refine ⟨?_,iE⟩;rcases uj m' h D' with ⟨A,B,S,DL,lR,kA,kB⟩|⟨A,B,S,DL,lR,A0,B0,kA,kB,dd⟩
 ·have A0:A=[]:=by
   cases A with
   | nil=>rfl
   | cons p A=>
    have hp:=kA.hd;have dt:Dt (rem M a b) p:=(DL.mem p).mp (YI.mpr ⟨p::A,by simp,Yg⟩);rw [hp,e1] at dt;exact absurd rfl ((cw m' h).mp dt).2.2
  have B0:B≠[]:=λz=>by rw [z] at kB;exact x2 kB.nil_eq
  rw [Ya A0,X6 B0] at DL;have:=D.count DL;rw [nil_append,singleton_append,YV] at this;omega
 ·cases A with
  | nil=>exact absurd rfl A0
  | cons p A=>
   have hp:=kA.hd;have dt:=dd p (by simp);rw [hp,e1] at dt;exact absurd rfl ((cw m' h).mp dt).2.2
structure bF (L:UF):Prop where
 map:aB L
 two:2<=L.length
 span:jT L [0]
 E7:∃ R,Dec L R/\(L.length:Int)+R.length+iso L=(eX L L.length).length+2
theorem Reach.mono (h:∀ d,Dt L d->Dt M d) (r:Reach L s x):Reach M s x:=by
 induction r with
 | here=>exact .here
 | step r e hx ih=>
  rename_i i l y;exact Reach.one (d:=((i:Int),y)) ih (h _ (Reach.n6 e hx))
def both (L:UF) (a b:Int) (A B:UV):UF:=(L.set a.toNat A).set b.toNat B
structure bP (L:UF) (a b:Int) (A B:UV):Prop where
 map:aB L
 a0:0<=a
 a1:a<L.length
 b0:0<=b
 b1:b<L.length
 ne:a≠b
 no:b∉tx L a
 pa:A.Perm (b::tx L a)
 pb:B.Perm (a::tx L b)
 ea:A.erase b=tx L a
 eb:B.erase a=tx L b
def bP.Ln (F:bP L a b A B):a∉tx L b:=λz=>F.no (Dt.back (d:=(b,a)) ⟨F.b0,F.b1,z⟩ F.map).2.2.2
theorem dM:(both L a b A B).length=L.length:=by unfold both;simp
theorem bP.row (F:bP L a b A B) (hx:0<=x):tx (both L a b A B) x=if x=b then B else if x=a then A else tx L x:=by
 have:=F.a0;have:=F.a1;have:=F.b0;have:=F.b1;have:=F.ne
 show (both L a b A B).getD x.toNat []=_;unfold both;rw [Yn,zax];by_cases e:x=b
 ·subst e;rw [Ya rfl,Ya rfl,Ya (by rw [zaG];omega)]
  rfl
 ·rw [X6 (by omega),X6 e,zax];by_cases e2:x=a
  ·subst e2;rw [Ya rfl,Ya rfl,Ya (by omega)]
   rfl
  ·rw [X6 (by omega),X6 e2,<-Yn]
   rfl
theorem bP.mem (F:bP L a b A B) (hx:0<=x):y∈tx (both L a b A B) x↔y∈tx L x\/(x=a/\y=b)\/(x=b/\y=a):=by
 rw [F.row hx];by_cases e:x=b
 ·subst e;rw [Ya rfl,F.pb.mem_iff,Za];constructor
  ·rintro (z|z)
   ·exact .inr (.inr ⟨rfl,z⟩)
   ·exact .inl z
  ·rintro (z|z|z)
   ·exact .inr z
   ·exact absurd z.1.symm F.ne
   ·exact .inl z.2
 ·rw [X6 e];by_cases e2:x=a
  ·subst e2;rw [Ya rfl,F.pa.mem_iff,Za];constructor
   ·rintro (z|z)
    ·exact .inr (.inl ⟨rfl,z⟩)
    ·exact .inl z
   ·rintro (z|z|z)
    ·exact .inr z
    ·exact .inl z.2
    ·exact absurd z.1 e
  ·rw [X6 e2];exact ⟨.inl,λz=>z.elim id λz=>z.elim (λw=>absurd w.1 e2) λw=>absurd w.1 e⟩
theorem bP.gv (F:bP L a b A B):aB (both L a b A B):=by
 have:=F.a0;have:=F.a1;have:=F.b0;have:=F.b1;have ne:=F.ne
 refine jN λx x0 x1=>?_;rw [dM] at x1 ⊢;have n:=F.map.nd _ _ (aE x0 x1);refine ⟨?_,λy hy=>?_⟩
 ·rw [F.row x0];split
  ·rename_i e;subst e;exact F.pb.nodup_iff.mpr (Yp.mpr ⟨F.Ln,n⟩)
  ·split
   ·rename_i e;subst e;exact F.pa.nodup_iff.mpr (Yp.mpr ⟨F.no,n⟩)
   ·exact n
 ·rcases (F.mem x0).mp hy with z|⟨z,w⟩|⟨z,w⟩
  ·obtain ⟨c0,c1,c2,c3⟩:=Dt.back (d:=(x,y)) ⟨x0,x1,z⟩ F.map;exact ⟨c0,c1,c2,(F.mem c0).mpr (.inl c3)⟩
  ·subst z w;exact ⟨F.b0,F.b1,ne.symm,(F.mem F.b0).mpr (.inr (.inr ⟨rfl,rfl⟩))⟩
  ·subst z w;exact ⟨F.a0,F.a1,ne,(F.mem F.a0).mpr (.inr (.inl ⟨rfl,rfl⟩))⟩
theorem bP.dt (F:bP L a b A B):Dt (both L a b A B) (a,b):=⟨F.a0,by rw [dM];exact F.a1,(F.mem F.a0).mpr (.inr (.inl ⟨rfl,rfl⟩))⟩
theorem bP.rem (F:bP L a b A B):rem (both L a b A B) a b=L:=by
 have a0:=F.a0;have a1:=F.a1;have b0:=F.b0;have b1:=F.b1;have ne:=F.ne
 unfold Gm.rem;rw [F.row a0,F.row b0,X6 ne,Ya rfl,Ya rfl,F.ea,F.eb];unfold both;apply zbE;intro i;rw [zax];by_cases e:b.toNat=i
 ·rw [Ya e];have:i<L.length:=by omega
  rw [Ya (by simp;omega),<-e,aE b0 b1]
 ·rw [X6 e,zax];by_cases e2:a.toNat=i
  ·rw [Ya e2,Ya (by simp;omega),<-e2,aE a0 a1]
  ·rw [X6 e2,zax,X6 e,zax,X6 e2]
theorem bP.sub (F:bP L a b A B) (d:aw) (h:Dt L d):Dt (both L a b A B) d:=⟨h.lo,by rw [dM];exact h.hi,(F.mem h.lo).mpr (.inl h.mem)⟩
theorem bP.QW (F:bP L a b A B):(eX (both L a b A B) L.length).length=(eX L L.length).length+1:=by
 have h1:=(lL F.gv F.dt).2;rw [F.rem] at h1;have h2:=cM F.gv;have h3:=cM F.map;rw [dM] at h1 h2;omega
theorem bP.bS (F:bP L a b A B) (s:bF L) (h1:z1∈tx L a) (h2:z2∈tx L b) (f1:pre A z1=b) (f2:pre B z2=a)
  (conn:∀ P:aw->Prop,P (z1,a)->(∀ d,Dt L d->P d->P (nx L d))->P (z2,b)):bF (both L a b A B):=by
 obtain ⟨c0,c1,c2,c3⟩:=Dt.back (d:=(a,z1)) ⟨F.a0,F.a1,h1⟩ F.map;obtain ⟨e0,e1,e2,e3⟩:=Dt.back (d:=(b,z2)) ⟨F.b0,F.b1,h2⟩ F.map;obtain ⟨R,D,ch⟩:=s.E7;obtain ⟨R',D'⟩:=qz F.gv;have n1:nx (both L a b A B) (z1,a)=(a,b):=by
  unfold nx;dsimp only;rw [F.row F.a0,X6 F.ne,Ya rfl,f1]
 have n2:nx (both L a b A B) (z2,b)=(b,a):=by
  unfold nx;dsimp only;rw [F.row F.b0,Ya rfl,f2]
 obtain ⟨l1,l2⟩:=Hl (R:=R) F.gv F.dt n1 n2 (by rw [F.rem];exact ⟨c0,c1,c3⟩) (by rw [F.rem];exact ⟨e0,e1,e3⟩) (by rw [F.rem];exact D) D' (by rw [F.rem];exact conn);rw [F.rem] at l2;refine ⟨F.gv,by rw [dM];exact s.two,λx x0 x1=>?_,R',D',?_⟩
 ·rw [dM] at x1;obtain ⟨t,ht,r⟩:=s.span x x0 x1;exact ⟨t,ht,r.mono F.sub⟩
 ·rw [dM,F.QW,l1,l2];omega
theorem fY:∀ {l:UV} {k:Nat} {x:Int},x∉l->(put l k x).erase x=l:=λ{l k x} h=>by
 unfold put;rw [zaT _ (λz=>h (zaB z)),zaQ,Z6]
theorem Au:∀ {l:UV} {p z x:Int},z∈l->x≠z->fe p (put l (l.idxOf z) x) z=x
 | [],_,_,_,h,_=>by cases h
 | h::t,p,z,x,hz,hx=>by
  rw [zaJ];by_cases e:h=z
  ·subst e;have:(h==h)=true:=by simp
   rw [this];show fe p (x::h::t) h=x;show (if x=h then p else if h=h then x else fe h t h)=x;rw [X6 hx,Ya rfl]
  ·have e2:(h==z)=false:=zaA e;rw [e2];show fe p (h::put t (t.idxOf z) x) z=x;show (if h=z then p else fe h (put t (t.idxOf z) x) z)=x;rw [X6 e];exact Au ((Yk.mp hz).resolve_left (λw=>e w.symm)) hx
theorem fU (hz:z∈l) (hx:x∉l):pre (put l (l.idxOf z) x) z=x:=by
 rw [lP (iP.mpr (.inr hz))];exact Au hz (λw=>hx (w▸hz))
theorem yv {x:Int} (h:x∉l):(l++[x]).erase x=l:=by rw [zaT _ h,zaQ,ZY]
theorem DU:pre ((y::l)++[x]) y=x:=by
 rw [lP (by simp),iR (y::l) (v:=[x]) (by simp)];show (if y=y then lst [x] else _)=x;rw [Ya rfl];rfl
theorem Reach.inv (r:Reach L s x):x=s\/∃ (j:Nat) (l:UV),L[j]?=some l/\x∈l:=by
 cases r with
 | here=>exact .inl rfl
 | step r e hx=>exact .inr ⟨_,_,e,hx⟩
theorem bF.Kh (s:bF L):iso L=0:=by
 unfold iso;refine zbD.mpr λl hl=>?_;obtain ⟨i,hi,rfl⟩:=Yv.mp hl;have ei:L[i]?=some L[i]:=X4 hi;intro z;have e0:L[i]=[]:=by simpa using z
 have two:=s.two;by_cases h0:i=0
 ·subst h0;obtain ⟨t,ht,r⟩:=s.span 1 (Tk _) (by omega);have:t=0:=X9.mp ht;subst this;have go:∀ x,Reach L 0 x->x=0:=λx r=>by
   induction r with
   | here=>rfl
   | step r e hx ih=>
    rename_i j l y;have:j=0:=by omega
    subst this;rw [ei] at e;cases e
    rw [e0] at hx;cases hx
  exact absurd (go 1 r) (by omega)
 ·obtain ⟨t,ht,r⟩:=s.span i (Tk _) (by omega);have:t=0:=X9.mp ht;subst this;rcases r.inv with w|⟨j,l,e,hx⟩
  ·omega
  ·have:=s.map.sy _ _ e _ hx i rfl _ ei;rw [e0] at this;cases this
theorem bF.three (s:bF L) (h3:3<=L.length) (D:Dec L R) (hc:c∈R):3<=c.length:=by
 have dt:∀ d∈c,Dt L d:=λd hd=>(D.mem d).mp (YI.mpr ⟨c,hc,hd⟩);obtain ⟨x,l,e,k⟩:=D.ir c hc;subst e;have hx:=dt x Yg;obtain ⟨b0,b1,b2,b3⟩:=hx.back s.map;have k1:=k.tl;cases l with
 | nil=>exact absurd (Yt Prod.fst k1.nil_eq) b2
 | cons y l=>
  cases l with
  | cons w l=>simp
  | nil=>
   exfalso;have ey:=k1.hd;have ex:=k1.tl.nil_eq;rw [<-ey] at ex;have y1:y.1=x.2:=by rw [ey];rfl
   have y2:y.2=x.1:=Yt Prod.fst ex;have p1:pre (tx L x.2) x.1=x.1:=by
    have:y.2=pre (tx L x.2) x.1:=by rw [ey];rfl
    rw [<-this,y2]
   have p2:pre (tx L x.1) x.2=x.2:=by
    have:pre (tx L y.2) y.1=x.2:=Yt Prod.snd ex;rwa [y1,y2] at this
   have r1:=lO (s.map.nd _ _ (aE b0 b1)) b3 p1;have r2:=lO (s.map.nd _ _ (aE hx.lo hx.hi)) hx.mem p2;have go:∀ u,Reach L 0 u->((u=x.1\/u=x.2)↔((0:Int)=x.1\/(0:Int)=x.2)):=λu r=>by
    induction r with
    | here=>exact zad
    | step r e hv ih=>
     rename_i i l v;refine Iff.trans ?_ ih;have d:=Reach.n6 e hv;obtain ⟨q0,q1,q2,q3⟩:=d.back s.map;have dm:=d.mem;dsimp only at q0 q1 q2 q3 dm;constructor
     ·rintro (z|z)
      ·rw [z,r2] at q3;exact .inr (X9.mp q3)
      ·rw [z,r1] at q3;exact .inl (X9.mp q3)
     ·rintro (z|z)
      ·rw [z,r2] at dm;exact .inr (X9.mp dm)
      ·rw [z,r1] at dm;exact .inl (X9.mp dm)
   have reach:∀ u:Int,0<=u->u<L.length->Reach L 0 u:=λu h0 h1=>by
    obtain ⟨t,ht,r⟩:=s.span u h0 h1;rw [X9.mp ht] at r;exact r
   have z0:=(go x.1 (reach x.1 hx.lo hx.hi)).mp (.inl rfl);have l1:=hx.lo;have c0:=(go 0 (reach 0 (Tk _) (by omega))).mpr z0;have c1:=(go 1 (reach 1 (Tk _) (by omega))).mpr z0;have c2:=(go 2 (reach 2 (Tk _) (by omega))).mpr z0;omega
theorem kZ:∀ {R:List (List aw)},(∀ c∈R,3<=c.length)->3*R.length<=R.flatten.length
 | [],_=>X7 _
 | c::R,h=>by
  have:=kZ (R:=R) λx hx=>h x (X8 _ hx);have:=h c Yg;rw [Zr,Yr,YV];omega
def Dec.len (m:aB L) (D:Dec L R):R.flatten.length=(eJ L L.length).length:=
 len_eq D.nd (bJ m (X7 _)) λd=>(D.mem d).trans ⟨λh=>h.all,λh=>Dt.of h⟩
def gS (L:UF):UF:=L++[[]]
theorem fD (x0:0<=x):tx (gS L) x=if x<L.length then tx L x else []:=by
 unfold tx gS;rw [Yn,Yn];by_cases h:x<L.length
 ·rw [Ya h,YL (by omega)]
 ·rw [X6 h,Y1 (by omega)];cases q:([[]]:UF)[x.toNat-L.length]? with
  | none=>rfl
  | some l=>
   have:=Yb q;rw [X9.mp this];rfl
theorem iT:Dt (gS L) d↔Dt L d:=by
 constructor
 ·intro h;have m:=h.mem;rw [fD h.lo] at m;by_cases z:d.1<L.length
  ·rw [Ya z] at m;exact ⟨h.lo,z,m⟩
  ·rw [X6 z] at m;cases m
 ·intro h;refine ⟨h.lo,by unfold gS;have:=h.hi;simp;omega,?_⟩;rw [fD h.lo,Ya h.hi];exact h.mem
theorem lW:(gS L).length=L.length+1:=by unfold gS;simp
theorem wW (m:aB L):aB (gS L):=by
 refine jN λx x0 x1=>?_;rw [fD x0];by_cases z:x<L.length
 ·rw [Ya z];refine ⟨m.nd _ _ (aE x0 z),λy hy=>?_⟩;obtain ⟨c0,c1,c2,c3⟩:=Dt.back (d:=(x,y)) ⟨x0,z,hy⟩ m;dsimp only at c0 c1 c2 c3;rw [fD c0,Ya c1,lW];exact ⟨c0,by omega,c2,c3⟩
 ·rw [X6 z];exact ⟨.nil,λy hy=>by cases hy⟩
theorem uP (m:aB L) (h:Dt L d):nx (gS L) d=nx L d:=by
 obtain ⟨b0,b1,b2,b3⟩:=h.back m;unfold nx;rw [fD b0,Ya b1]
theorem Ep (m:aB L) (D:Dec L R):Dec (gS L) R:=by
 refine ⟨λc hc=>?_,D.nd,λd=>(D.mem d).trans iT.symm⟩;obtain ⟨x,l,e,k⟩:=D.ir c hc;exact ⟨x,l,e,k.congr λd hd=>uP m ((D.mem d).mp (YI.mpr ⟨c,hc,hd⟩))⟩
theorem En:iso (gS L)=iso L+1:=by unfold iso gS;rw [countP_append];rfl
def Eo (m:aB L):(eJ (gS L) (gS L).length).length=(eJ L L.length).length:=
 len_eq (bJ (wW m) (X7 _)) (bJ m (X7 _)) λd=>⟨λh=>(iT.mp (Dt.of h)).all,λh=>(iT.mpr (Dt.of h)).all⟩
structure Pl (L:UF) (r:UV) (c1 cj:Nat) (dn:List Nat) (M:UF):Prop where
 sh:bF M
 len:M.length=L.length+1
 new:tx M (L.length:Int)=dn.map (cy r)
 hd:∃ rest,dn=c1::rest
 keep:∀ x:Int,0<=x->x<L.length->(∀ c∈dn,cy r c≠x)->tx M x=tx L x
 sub:∀ d,Dt L d->Dt M d
 le:c1<=cj
 top:cj<r.length
 i1:∀ i,cj<=i->i+1<c1+r.length->nx M (dj r i)=dj r (i+1)
 i2:nx M (dj r (c1+(r.length-1)))=(cy r c1,(L.length:Int))
 i3:nx M (cy r c1,(L.length:Int))=((L.length:Int),cy r cj)
 i4:nx M ((L.length:Int),cy r cj)=dj r cj
theorem jR (n:(sh 0 r).Nodup) (h:i<j) (h2:j<i+r.length):dj r i≠dj r j:=by
 intro z;have r0:0<r.length:=by omega
 have e1:dj r (i%r.length)=dj r i:=bI (Zv _ _);have e2:dj r (j%r.length)=dj r j:=bI (Zv _ _);have m1:=Y5 i r0;have m2:=Y5 j r0;have at_:∀ k (hk:k<r.length),(sh 0 r)[k]'(by rw [dG];exact hk)=dj r k:=λk hk=>by
  have:=se (s:=0) hk;rw [X4 (by rw [dG];exact hk)] at this;exact Yf this
 have e3:i%r.length=j%r.length:=by
  refine (Zp (h₀:=by rw [dG];exact m1) (h₁:=by rw [dG];exact m2) n).mp ?_;rw [at_ _ m1,at_ _ m2,e1,e2,z]
 have:=zby i r.length;have:=zby j r.length;have a:r.length*(i / r.length)<r.length*(j / r.length):=by omega
 have b:i / r.length+1<=j / r.length:=Nat.lt_of_mul_lt_mul_left a;have c:=Nat.mul_le_mul_left r.length b;rw [zbX,Nat.mul_one] at c;omega
theorem dF (g:Good L r) (m:aB L):cy r (c+(r.length-1))∈tx L (cy r c)/\0<=cy r c/\cy r c<L.length/\dj r (c+(r.length-1))=(cy r (c+(r.length-1)),cy r c):=by
 have two:=g.two;have e:cy r (c+(r.length-1)+1)=cy r c:=bD (by rw [show c+(r.length-1)+1=c+r.length by omega,Yq]);have d:=g.dt (c+(r.length-1));have b:=d.back m;have ed:dj r (c+(r.length-1))=(cy r (c+(r.length-1)),cy r c):=by unfold dj;rw [e]
 rw [ed] at b;exact ⟨b.2.2.2,b.1,b.2.1,ed⟩
theorem kX {x:Int} (m:aB L) (x0:0<=x) (x1:x<L.length):(L.length:Int)∉tx L x:=λz=>by
 have:=m.rg _ _ (aE x0 x1) _ z;omega
theorem Pl.first (s:bF L) (g:Good L r) (nd:(Gm.sh 0 r).Nodup) (hc:c<r.length) :
  bP (gS L) (cy r c) (L.length:Int) (put (tx L (cy r c)) ((tx L (cy r c)).idxOf (cy r (c+(r.length-1)))) L.length) [cy r c]/\
  Pl L r c c [c] (both (gS L) (cy r c) (L.length:Int) (put (tx L (cy r c)) ((tx L (cy r c)).idxOf (cy r (c+(r.length-1)))) L.length) [cy r c]):=by
 have two:=g.two;obtain ⟨z1,x0,x1,ed⟩:=dF g s.map (c:=c);generalize hx:cy r c=x at z1 x0 x1 ed ⊢;generalize hz:cy r (c+(r.length-1))=z at z1 ed ⊢;have nn:=kX s.map x0 x1;have lx:tx (gS L) x=tx L x:=by rw [fD x0,Ya x1]
 have ln:tx (gS L) (L.length:Int)=[]:=by rw [fD (Tk _),X6 (by omega)]
 have F:bP (gS L) x (L.length:Int) (put (tx L x) ((tx L x).idxOf z) L.length) [x]:=
  ⟨wW s.map,x0,by rw [lW];omega,Tk _,by rw [lW];omega,by omega,by rw [lx];exact nn,by rw [lx];exact hX _ _ _,by rw [ln],by rw [lx];exact fY nn,by rw [ln];simp⟩
 refine ⟨F,?_⟩;generalize hM:both (gS L) x (L.length:Int) (put (tx L x) ((tx L x).idxOf z) L.length) [x]=M at F ⊢;have FM:aB M:=hM▸F.gv;have Fd:Dt M (x,(L.length:Int)):=hM▸F.dt;have Fr:rem M x (L.length:Int)=gS L:=hM▸F.rem;have vj:∀ {y:Int},0<=y->tx M y=if y=(L.length:Int) then [x] else if y=x then put (tx L x) ((tx L x).idxOf z) L.length else tx (gS L) y:=λh=>hM▸F.row h
 have Ml:M.length=L.length+1:=by rw [<-hM,dM,lW]
 have xn:x≠(L.length:Int):=by omega
 have sub:∀ d,Dt L d->Dt M d:=λd hd=>hM▸F.sub d (iT.mpr hd);have f1:nx M (z,x)=(x,(L.length:Int)):=by unfold nx;dsimp only;rw [vj x0,X6 xn,Ya rfl,fU z1 nn]
 have f2:nx M (x,(L.length:Int))=((L.length:Int),x):=by
  unfold nx;dsimp only;rw [vj (Tk _),Ya rfl];refine Zl rfl ?_;show pre [x] x=x;unfold pre cy;simp [Nat.mod_one]
 have KQ:Dt L (z,x):=by
  obtain ⟨c0,c1,c2,c3⟩:=Dt.back (d:=(x,z)) ⟨x0,x1,z1⟩ s.map;exact ⟨c0,c1,c3⟩
 have Fu:∀ d,Dt L d->d≠(z,x)->nx M d=nx L d:=λd hd sN=>by
  have h0:=mO FM Fd (d:=d) (by rw [Fr];exact iT.mpr hd);rw [Fr,uP s.map hd] at h0;have dm:=sub d hd;have n1:nx M d≠((L.length:Int),x):=λw=>by
   have:=eF FM dm Fd (w.trans f2.symm);rw [this] at hd;exact kX s.map x0 x1 hd.mem
  have n2:nx M d≠(x,(L.length:Int)):=λw=>sN (eF FM dm (sub _ KQ) (w.trans f1.symm));rw [X6 n1,X6 n2] at h0;exact h0.symm
 have Pr:nx M ((L.length:Int),x)=nx L (z,x):=by
  have h0:=mO FM Fd (d:=(z,x)) (by rw [Fr];exact iT.mpr KQ);rw [Fr,uP s.map KQ,f1,X6 (λw=>xn (Yt Prod.fst w)),Ya rfl] at h0;exact h0.symm
 obtain ⟨R,D,ch⟩:=s.E7;obtain ⟨R',D'⟩:=qz FM;obtain ⟨l1,l2⟩:=Ew (R:=R) (z1:=z) FM Fd f2 f1 (by rw [Fr];exact iT.mpr KQ) (by rw [Fr];exact Ep s.map D) D';rw [Fr,En] at l2;have QW:(eX M M.length).length=(eX L L.length).length+1:=by
  have h1:=(lL FM Fd).2;rw [Fr,Eo s.map] at h1;have h2:=cM FM;have h3:=cM s.map;omega
 have Lh:bF M:=by
  refine ⟨FM,by have:=s.two;omega,λy y0 y1=>?_,R',D',?_⟩
  ·by_cases e:y<L.length
   ·obtain ⟨t,ht,q⟩:=s.span y y0 e;exact ⟨t,ht,q.mono sub⟩
   ·have ey:y=(L.length:Int):=by rw [Ml] at y1;omega
    obtain ⟨t,ht,q⟩:=s.span x x0 x1;rw [ey];exact ⟨t,ht,Reach.one (d:=(x,(L.length:Int))) (q.mono sub) Fd⟩
  ·rw [QW,Ml,l1];omega
 have QR:dj r (c+(r.length-1))=(z,x):=ed;refine ⟨Lh,Ml,by rw [vj (Tk _),Ya rfl,zam,hx],⟨[],rfl⟩,λy y0 y1 hy=>?_,sub,X7 _,hc,λi VJ FA=>?_,?_,?_,?_⟩
 ·have:cy r c≠y:=hy c (by simp);rw [hx] at this;rw [vj y0,X6 (by omega),X6 (λw=>this w.symm),fD y0,Ya y1]
 ·rw [Fu _ (g.dt i) (by rw [<-QR];exact jR nd (by omega) (by omega)),g.st]
 ·rw [QR,f1,hx]
 ·rw [hx,f2]
 ·rw [hx,Pr,<-QR,g.st];exact bI (by rw [show c+(r.length-1)+1=c+r.length by omega,Yq])
theorem Pl.next (s:bF L) (g:Good L r) (nd:(Gm.sh 0 r).Nodup) (p:Pl L r c1 cj dn M) (hc:cj<c) (vv:c<r.length) (un:∀ e∈dn,cy r e≠cy r c) :
  bP M (cy r c) (L.length:Int) (put (tx L (cy r c)) ((tx L (cy r c)).idxOf (cy r (c+(r.length-1)))) L.length) (tx M (L.length:Int)++[cy r c])/\
  Pl L r c1 c (dn++[c]) (both M (cy r c) (L.length:Int) (put (tx L (cy r c)) ((tx L (cy r c)).idxOf (cy r (c+(r.length-1)))) L.length) (tx M (L.length:Int)++[cy r c])):=by
 have two:=g.two;have le:=p.le;obtain ⟨z1,x0,x1,ed⟩:=dF g s.map (c:=c);have rx:=p.keep (cy r c) x0 x1 un;have LK:cy r c∉tx M (L.length:Int):=by
  rw [p.new];intro w;obtain ⟨e,he,h⟩:=Yc.mp w;exact un e he h
 have Ms:=p.new;generalize hx:cy r c=x at z1 x0 x1 ed rx LK ⊢;generalize hz:cy r (c+(r.length-1))=z at z1 ed ⊢;have nn:=kX s.map x0 x1;have F:bP M x (L.length:Int) (put (tx L x) ((tx L x).idxOf z) L.length) (tx M (L.length:Int)++[x]):=
  ⟨p.sh.map,x0,by rw [p.len];omega,Tk _,by rw [p.len];omega,by omega,by rw [rx];exact nn,by rw [rx];exact hX _ _ _,zaf _ _,by rw [rx];exact fY nn,yv LK⟩
 refine ⟨F,?_⟩;obtain ⟨rest,hd⟩:=p.hd;have Jn:tx M (L.length:Int)=cy r c1::rest.map (cy r):=by rw [Ms,hd];rfl
 have e1:dj r (c-1)=(z,x):=by
  rw [<-ed];exact (bI (by rw [show c+(r.length-1)=(c-1)+r.length by omega,Yq])).symm
 have KQ:Dt L (z,x):=e1▸g.dt (c-1);have dyn:Dt M (cy r c1,(L.length:Int)):=by
  have:=Dt.back (d:=((L.length:Int),cy r c1)) ⟨by simp,by rw [p.len];simp;omega,by rw [Jn];exact Yg⟩ p.sh.map;exact ⟨this.1,this.2.1,this.2.2.2⟩
 have Tn:pre (put (tx L x) ((tx L x).idxOf z) L.length) z=(L.length:Int):=fU z1 nn;have Tj:pre (tx M (L.length:Int)++[x]) (cy r c1)=x:=by rw [Jn];exact DU
 have conn:∀ P:aw->Prop,P (z,x)->(∀ d,Dt M d->P d->P (nx M d))->P (cy r c1,(L.length:Int)):=λP h0 hs=>by
  have go:∀ k,c-1+k<=c1+(r.length-1)->P (dj r (c-1+k)):=by
   intro k
   induction k with
   | zero=>intro _;rw [ZR,e1];exact h0
   | succ k ih=>
    intro hk;have:=hs _ (p.sub _ (g.dt (c-1+k))) (ih (ZJ ‹_›));rw [p.i1 (c-1+k) (by omega) (by omega)] at this;exact this
  have:=go (c1+(r.length-1)-(c-1)) (by omega);rw [show c-1+(c1+(r.length-1)-(c-1))=c1+(r.length-1) by omega] at this;have:=hs _ (p.sub _ (g.dt _)) this;rw [p.i2] at this;exact this
 have Lh:=F.bS p.sh (z1:=z) (z2:=cy r c1) (by rw [rx];exact z1) (by rw [Jn];exact Yg) Tn Tj conn;generalize hM:both M x (L.length:Int) (put (tx L x) ((tx L x).idxOf z) L.length) (tx M (L.length:Int)++[x])=N at F Lh ⊢;have FM:aB N:=hM▸F.gv;have Fd:Dt N (x,(L.length:Int)):=hM▸F.dt;have Fr:rem N x (L.length:Int)=M:=hM▸F.rem;have vj:∀ {y:Int},0<=y->tx N y=if y=(L.length:Int) then tx M (L.length:Int)++[x] else if y=x then put (tx L x) ((tx L x).idxOf z) L.length else tx M y:=λh=>hM▸F.row h
 have Nl:N.length=L.length+1:=by rw [<-hM,dM,p.len]
 have xn:x≠(L.length:Int):=by omega
 have FR:∀ d,Dt M d->Dt N d:=λd hd=>hM▸F.sub d hd;have f1:nx N (z,x)=(x,(L.length:Int)):=by unfold nx;dsimp only;rw [vj x0,X6 xn,Ya rfl,Tn]
 have f2:nx N (cy r c1,(L.length:Int))=((L.length:Int),x):=by unfold nx;dsimp only;rw [vj (Tk _),Ya rfl,Tj]
 have Fu:∀ d,Dt M d->d≠(z,x)->d≠(cy r c1,(L.length:Int))->nx N d=nx M d:=λd hd sN Qm=>by
  have h0:=mO FM Fd (d:=d) (by rw [Fr];exact hd);rw [Fr] at h0;have dm:=FR d hd;have n1:nx N d≠((L.length:Int),x):=λw=>Qm (eF FM dm (FR _ dyn) (w.trans f2.symm));have n2:nx N d≠(x,(L.length:Int)):=λw=>sN (eF FM dm (FR _ (p.sub _ KQ)) (w.trans f1.symm));rw [X6 n1,X6 n2] at h0;exact h0.symm
 have Pr:nx N ((L.length:Int),x)=nx M (z,x):=by
  have h0:=mO FM Fd (d:=(z,x)) (by rw [Fr];exact p.sub _ KQ);rw [Fr,f1,X6 (λw=>xn (Yt Prod.fst w)),Ya rfl] at h0;exact h0.symm
 have SD:∀ i,dj r i≠(cy r c1,(L.length:Int)):=λi w=>by
  have d:=g.dt i;have:=(d.back s.map).2.1;rw [w] at this;simp at this
 refine ⟨Lh,Nl,?_,⟨rest++[c],by rw [hd];rfl⟩,λy y0 y1 hy=>?_,λd hd=>FR d (p.sub d hd),by omega,vv,λi VJ FA=>?_,?_,?_,?_⟩
 ·rw [vj (Tk _),Ya rfl,Ms,Yl,zam,hx]
 ·have h1:cy r c≠y:=hy c (by simp);rw [hx] at h1;rw [vj y0,X6 (by omega),X6 (λw=>h1 w.symm)];exact p.keep y y0 y1 λe he=>hy e (Yx _ he)
 ·rw [Fu _ (p.sub _ (g.dt i)) (by rw [<-e1];exact (jR nd (by omega) (by omega)).symm) (SD i)];exact p.i1 i (by omega) FA
 ·rw [Fu _ (p.sub _ (g.dt _)) (by rw [<-e1];exact (jR nd (by omega) (by omega)).symm) (SD _)];exact p.i2
 ·rw [f2,hx]
 ·rw [hx,Pr,<-e1,p.i1 (c-1) (by omega) (by omega)];rw [show c-1+1=c by omega]
end Gm
namespace L2
open PySem PySem.Spec PySem.W PySem.Calls PyProof.Rows
theorem K2:bootBuiltins "set"=some (.type "set"):=by decide +kernel
def DW {X:Cx} {K:Frag} (h:X.K=K) {tg l:Expr} {tl:TE} (hl:PE X l tl):PI X tg l (ED K tl):=h▸bL hl
end L2
namespace Gm
open PySem L2
theorem PR.at {H:Hp}:∀ {ps:XL} {T:List (Int×Int)},PR H ps T->∀ {i:Nat} {a:Addr},ps[i]?=some a->∃ x:Int×Int,T[i]?=some x/\H a=some (.tup [.int x.1,.int x.2])
 | _,_,.nil,_,_,e=>by simp at e
 | _,_,.cons r t,0,_,e=>by simp at e;subst e;exact ⟨_,rfl,r⟩
 | _,_,.cons r t,i+1,_,e=>by
  obtain ⟨x,h1,h2⟩:=PR.at t (i:=i) (by simpa using e);exact ⟨x,by simpa using h1,h2⟩
theorem AN (k:Nat):it L (nx L d) k=it L d (k+1):=by
 rw [zbF,ql];rfl
theorem CP (h:Wk (nx L) x l y):l=tr L x l.length/\y=it L x l.length:=by
 induction h with
 | nil x=>exact ⟨rfl,rfl⟩
 | @cons x y l _ ih=>
  obtain ⟨h1,h2⟩:=ih;refine ⟨?_,by rw [YV,<-AN];exact h2⟩;rw [YV];unfold tr;rw [zbd,Y8,zaE];show x::l=x::_
  congr 1
  refine h1.trans ?_;unfold tr;refine Zg λj _=>?_;exact AN j
theorem FY (hk:0<k) (e:it L d k=d):sh 0 (aU L d k)=tr L d k:=by
 have hl:(aU L d k).length=k:=by unfold aU;simp
 unfold sh tr;rw [hl];exact Zg λj _=>by rw [iY hk e,ZR]
theorem Dec.good (m:aB L) (D:Dec L R) (hc:c∈R):Good L (c.map (·.1))/\sh 0 (c.map (·.1))=c/\c.Nodup:=by
 obtain ⟨x,l,e,k⟩:=D.ir c hc;obtain ⟨h1,h2⟩:=CP k;have k0:0<c.length:=by rw [e];simp
 have dx:Dt L x:=(D.mem x).mp (YI.mpr ⟨c,hc,by rw [e];exact Yg⟩);have er:c.map (·.1)=aU L x c.length:=by
  conv=>lhs;rw [h1]
  unfold aU tr;rw [zaE];rfl
 have hn:c.Nodup:=(ZD.mp D.nd).1 c hc;rw [er];exact ⟨sj m dx k0 h2.symm,(FY k0 h2.symm).trans h1.symm,hn⟩
theorem Good.on (g:Good L r) {P:aw->Prop} (hs:∀ d,Dt L d->P d->P (nx L d)) {i:Nat} (h:P (dj r i)) (j:Nat):P (dj r j):=by
 have two:=g.two;have go:∀ k,P (dj r (i+k)):=by
  intro k
  induction k with
  | zero=>exact h
  | succ k ih=>have:=hs _ (g.dt _) ih;rw [g.st] at this;exact this
 have:=go (j+i*r.length-i);have e:i<=i*r.length:=Nat.le_mul_of_pos_right i (ZJ ‹_›);rw [show i+(j+i*r.length-i)=j+i*r.length by omega] at this;rw [bI (i:=j+i*r.length) (j:=j) (by rw [Nat.add_mul_mod_self_right])] at this;exact this
end Gm
namespace L2
open PySem PySem.Spec PySem.W PySem.Calls PyProof.Rows
theorem Cr:bootBuiltins "zip"=some (.type "zip"):=by decide +kernel
end L2
namespace Gm
open PySem L2
def dD (a b:UV):Prop:=a=b\/∃ c,c<b.length/\a=cU b c
theorem dD.len (h:dD a b):a.length=b.length:=by
 rcases h with rfl|⟨c,hc,rfl⟩
 ·rfl
 ·exact cV (ZJ hc)
end Gm
namespace L2
open PySem PySem.Spec PySem.W PySem.Calls PyProof.Rows
theorem vf:bootBuiltins "max"=some (.builtin "max"):=by decide +kernel
end L2
namespace Gm
open PySem L2
theorem dD.perm (h:dD a b):a.Perm b:=by
 rcases h with rfl|⟨c,hc,rfl⟩
 ·exact zbP _
 ·unfold cU;exact (perm_append_comm).trans (by rw [Z6])
theorem aB.Gy (m:aB M) (hl:L.length=M.length) (h:∀ (i:Nat) (l k:UV),L[i]?=some l->M[i]?=some k->l.Perm k):aB L:=by
 have at_:∀ (j:Nat) (x:UV),L[j]?=some x->∃ y,M[j]?=some y/\x.Perm y:=λj x e=>by
  have hj:j<M.length:=by rw [<-hl];exact (X3.mp e).1
  exact ⟨M[j],X4 hj,h j x M[j] e (X4 hj)⟩
 refine ⟨λj x e=>?_,λj x e y hy=>?_,λj x e y hy k hk z ez=>?_⟩
 ·obtain ⟨y,e1,e2⟩:=at_ j x e;exact e2.nodup_iff.mpr (m.nd _ _ e1)
 ·obtain ⟨w,e1,e2⟩:=at_ j x e;rw [hl];exact m.rg _ _ e1 y (e2.mem_iff.mp hy)
 ·obtain ⟨w,e1,e2⟩:=at_ j x e;obtain ⟨w',e3,e4⟩:=at_ k z ez;exact e4.mem_iff.mpr (m.sy _ _ e1 y (e2.mem_iff.mp hy) k hk _ e3)
def ck (L M:UF):Prop:=L.length=M.length/\∀ (i:Nat) (l m:UV),L[i]?=some l->M[i]?=some m->dD l m
def ck.gv (h:ck L M) (m:aB M):aB L:=m.Gy h.1 λi l k e1 e2=>(h.2 i l k e1 e2).perm
theorem ck.mem (h:ck L M) {x y:Int} (x0:0<=x) (x1:x<L.length):y∈tx L x↔y∈tx M x:=by
 have e1:=aE x0 x1;have e2:=aE (L:=M) x0 (by rw [<-h.1];exact x1);exact (h.2 _ _ _ e1 e2).perm.mem_iff
theorem dD.trans (h:dD a b) (k:dD b c):dD a c:=by
 rcases k with rfl|⟨j,hj,rfl⟩
 ·exact h
 ·rcases h with rfl|⟨i,hi,rfl⟩
  ·exact .inr ⟨j,hj,rfl⟩
  ·rw [cV (ZJ hj)] at hi;rw [Ae hj hi];exact .inr ⟨_,Y5 _ (by omega),rfl⟩
theorem ck.row (h:ck L M) {x:Int} (x0:0<=x) (x1:x<L.length):dD (tx L x) (tx M x):=h.2 _ _ _ (aE x0 x1) (aE x0 (by rw [<-h.1];exact x1))
theorem ck.dt (h:ck L M) (k:Dt M d):Dt L d:=⟨k.lo,by rw [h.1];exact k.hi,(h.mem k.lo (by rw [h.1];exact k.hi)).mpr k.mem⟩
end Gm
namespace PySem
abbrev rJ (h:Heap) (z TI TO a:Addr) (f:Bool):Prop:=
 h.get? z=some { cls:=.type "zip",dict:=none,data:=.fields #[rawInt a,.bool f,.bool false,.ref TI,.ref TO],slots:=#[] }
theorem CO (ho:s.heap.get? a=some o) (h:Q (some o) s):wpAny (model prog w) A (loadIfAlive a) Q E s:=by
 have h':Q (s.heap.get? a) s:=by rw [ho];exact h
 exact λ_ _ _=>h'
theorem zJ (hz:rJ s.heap z TI TO a f) (ha:s.heap.get? a=some oa)
  (h:∀ h',rJ h' z TI TO a true->Heap.SameBut z s.heap h'->Q false { s with heap:=h' }):wpAny (model prog w) A (Builtin.SmallTypes.ownedTupleIsFree (.ref z)) Q E s:=by
 unfold Builtin.SmallTypes.ownedTupleIsFree;refine X5 (zbv hz rfl (x:=rawInt a) rfl ?_);show wpAny _ _ (loadIfAlive ((a:Int).toNat) >>= _) _ _ _;rw [Yu];refine X5 (CO ha ?_);simp only [Option.isNone_some,YY,ZO];refine X5 (zbv hz rfl (x:=.bool f) rfl ?_);cases f with
 | true=>
  rw [X6 (show ¬((Value.bool true != Value.bool true)=true) from Yo)];exact Ym (h _ hz (Heap.SameBut.refl _ _))
 | false=>
  rw [Ya (show (Value.bool false != Value.bool true)=true from rfl)];refine X5 (wpAny_setField_rec hz (by simp) λh₃ he₃ hs₃=>?_);exact Ym (h _ he₃ hs₃)
theorem FI {z TI TO i1 i2 l1 l2 a:Addr} {f:Bool} {oa:Obj} {k1 k2:Nat} {xs ys:Array Value} {x y:Value} {Q:WF} (D:ZipApart z TI TO i1 i2 l1 l2)
  (hz:rJ s.heap z TI TO a f) (ha:s.heap.get? a=some oa) (AW:IsPair s.heap TI (.ref i1) (.ref i2))
  (h1:s.heap.IsListIter i1 l1 k1) (h2:s.heap.IsListIter i2 l2 k2) (qt:s.heap.IsList l1 xs) (nV:s.heap.IsList l2 ys) (hx:xs[k1]?=some x) (hy:ys[k2]?=some y)
  (hQ:∀ h',rJ h' z TI TO a true->h'.IsListIter i1 l1 (k1+1)->h'.IsListIter i2 l2 (k2+1)->IsPair h' s.heap.objs.size x y->h'.objs.size=s.heap.objs.size+1->
   (∀ c o,c≠z->c≠i1->c≠i2->s.heap.get? c=some o->h'.get? c=some o)->Q (.ref s.heap.objs.size) { s with heap:=h' }) :
  wpAny (model prog w) A (Builtin.«zip.__next__» ⟨[.ref z],[]⟩) (λfin s'=>∃ v,fin=.done (.ret v)/\Q v s') E s:=by
 show wpAny _ _ (field (.ref z) 2 >>= _) _ _ _;refine X5 (zbv hz rfl (x:=.bool false) rfl ?_);show wpAny _ _ (field (.ref z) 3 >>= _) _ _ _;refine X5 (zbv hz rfl (x:=.ref TI) rfl ?_);refine X5 (zar AW rfl ?_);show wpAny _ _ (Builtin.SmallTypes.ownedTupleIsFree (.ref z) >>= _) _ _ _;refine X5 (zJ hz ha λh₁ hz₁ hs₁=>?_);simp only [YY,ZO];refine X5 ?_;rw [<-Array.forIn_toList];simp only [forIn_cons,forIn_nil];refine X5 (X5 (Zo ?_));show wpAny _ _ (Builtin.SmallTypes.nextOf (.ref i1) >>= _) _ _ _;refine X5 (wpAny_nextOf_list_item (h1.extBut hs₁.extBut D.i1z) (qt.extBut hs₁.extBut D.l1z) hx λh₂ h1₂ hs₂=>Ym (Ym ?_));refine X5 (X5 (Zo ?_));show wpAny _ _ (Builtin.SmallTypes.nextOf (.ref i2) >>= _) _ _ _;refine X5 (wpAny_nextOf_list_item ((h2.extBut hs₁.extBut D.i2z).extBut hs₂.extBut D.i12.symm)
  ((nV.extBut hs₁.extBut D.l2z).extBut hs₂.extBut D.l2i1) hy λh₄ h2₄ hs₄=>Ym (Ym (Ym ?_)))
 refine X5 (wpAny_newTuple (hsz:=by show 2<=sizeLine;rw [ZS];decide) ?_);refine Ym ⟨_,rfl,?_⟩;have hsz:h₄.objs.size=s.heap.objs.size:=by rw [hs₄.1,hs₂.1,hs₁.1]
 have hz₄:rJ h₄ z TI TO a true:=hs₄.extBut _ _ D.i2z.symm (hs₂.extBut _ _ D.i1z.symm hz₁);have h1₄:h₄.IsListIter i1 l1 (k1+1):=h1₂.extBut hs₄.extBut D.i12;show Q (.ref h₄.objs.size) _;rw [hsz];refine hQ _ (Yh _ hz₄) (h1₄.at λo e=>Yh _ e) (h2₄.at λo e=>Yh _ e) (by rw [<-hsz];exact YH _ rfl) (by rw [Heap.size_push,hsz]) λc o c1 c2 c3 e=>
  Yh _ (hs₄.extBut _ _ c3 (hs₂.extBut _ _ c2 (hs₁.extBut _ _ c1 e)))
theorem IX (hh:A.handled=none) (D:ZipApart z TI TO i1 i2 l1 l2)
  (hz:rJ s.heap z TI TO a f) (ha:s.heap.get? a=some oa) (AW:IsPair s.heap TI (.ref i1) (.ref i2))
  (h1:s.heap.IsListIter i1 l1 k1) (h2:s.heap.IsListIter i2 l2 k2) (qt:s.heap.IsList l1 xs) (nV:s.heap.IsList l2 ys) (B4:xs[k1]?=none)
  (hE:∀ h' e,(∀ c o,c≠z->c≠i1->c≠i2->s.heap.get? c=some o->h'.get? c=some o)->(∃ o,h'.get? e=some o/\o.cls=.type "StopIteration")->E (.ref e) { s with heap:=h' }) :
  wpAny (model prog w) A (Builtin.«zip.__next__» ⟨[.ref z],[]⟩) Q E s:=by
 show wpAny _ _ (field (.ref z) 2 >>= _) _ _ _;refine X5 (zbv hz rfl (x:=.bool false) rfl ?_);show wpAny _ _ (field (.ref z) 3 >>= _) _ _ _;refine X5 (zbv hz rfl (x:=.ref TI) rfl ?_);refine X5 (zar AW rfl ?_);show wpAny _ _ (Builtin.SmallTypes.ownedTupleIsFree (.ref z) >>= _) _ _ _;refine X5 (zJ hz ha λh₁ hz₁ hs₁=>?_);simp only [YY,ZO];refine X5 ?_;rw [<-Array.forIn_toList];simp only [forIn_cons,forIn_nil];refine X5 (X5 (Zo ?_));show wpAny _ _ (Builtin.SmallTypes.nextOf (.ref i1) >>= _) _ _ _;refine X5 (wpAny_nextOf_list_end hh (h1.extBut hs₁.extBut D.i1z) (qt.extBut hs₁.extBut D.l1z) B4 λh₂ e hs₂ he=>?_);exact hE h₂ e (λc o c1 c3 _ x=>hs₂ _ _ c3 (hs₁.extBut _ _ c1 x)) he
theorem Bs (D:ZipApart z TI TO i1 i2 l1 l2)
  (hz:rJ s.heap z TI TO a f) (ha:s.heap.get? a=some oa) (AW:IsPair s.heap TI (.ref i1) (.ref i2))
  (h1:s.heap.IsListIter i1 l1 k1) (h2:s.heap.IsListIter i2 l2 k2) (qt:s.heap.IsList l1 xs) (nV:s.heap.IsList l2 ys) (hx:xs[k1]?=some x) (hy:ys[k2]?=some y)
  (hQ:∀ h',rJ h' z TI TO a true->h'.IsListIter i1 l1 (k1+1)->h'.IsListIter i2 l2 (k2+1)->IsPair h' s.heap.objs.size x y->h'.objs.size=s.heap.objs.size+1->
   (∀ c o,c≠z->c≠i1->c≠i2->s.heap.get? c=some o->h'.get? c=some o)->Q (some (.ref s.heap.objs.size)) { s with heap:=h' }) :
  wpAny (model prog w) A (pyNext (.ref z)) Q E s:=by
 have hT:s.TypeIs (.ref z) "zip":=⟨_,hz,rfl⟩;unfold pyNext;exact X5 (wpAny_attempt (zas (name:=Str.ofString "__next__") hT zbz
  (zaq zbz hT F.entry_zip_next
   (FI D hz ha AW h1 h2 qt nV hx hy λh' a1 a2 a3 a4 a5 a6=>Ym (hQ h' a1 a2 a3 a4 a5 a6)) (F.args_zip_next_1 _))))
theorem CN (hh:A.handled=none) (D:ZipApart z TI TO i1 i2 l1 l2)
  (hz:rJ s.heap z TI TO a f) (ha:s.heap.get? a=some oa) (AW:IsPair s.heap TI (.ref i1) (.ref i2))
  (h1:s.heap.IsListIter i1 l1 k1) (h2:s.heap.IsListIter i2 l2 k2) (qt:s.heap.IsList l1 xs) (nV:s.heap.IsList l2 ys) (B4:xs[k1]?=none)
  (hQ:∀ h',(∀ c o,c≠z->c≠i1->c≠i2->s.heap.get? c=some o->h'.get? c=some o)->Q none { s with heap:=h' }):wpAny (model prog w) A (pyNext (.ref z)) Q E s:=by
 have hT:s.TypeIs (.ref z) "zip":=⟨_,hz,rfl⟩;unfold pyNext;refine X5 (wpAny_attempt (zas (name:=Str.ofString "__next__") hT zbz
  (zaq zbz hT F.entry_zip_next (IX hh D hz ha AW h1 h2 qt nV B4 λh' e hk he=>?_) (F.args_zip_next_1 _))))
 obtain ⟨o,ho,hc⟩:=he;refine X5 (wpAny_isInstance (T:= "StopIteration") (b:=true) ⟨o,ho,hc⟩ isSubtype_stop ?_);exact Ym (hQ _ hk)
structure qI (h:Heap) (z TI TO i1 i2 l1 l2 S:Addr) (i:Nat):Prop where
 own:(i=0/\IsZip h z TI TO .none/\∃ a b,IsPair h TO a b)\/∃ a f oa,rJ h z TI TO a f/\h.get? a=some oa/\a∉[z,i1,i2,S]
 it:IsPair h TI (.ref i1) (.ref i2)
 one:h.IsListIter i1 l1 i
 two:h.IsListIter i2 l2 i
theorem qI.keep (x:qI h z TI TO i1 i2 l1 l2 S i) (hk:∀ b o,b≠S->h.get? b=some o->h'.get? b=some o) (hS:S∉[z,TI,TO,i1,i2]):qI h' z TI TO i1 i2 l1 l2 S i:=by
 simp only [Za,YT,Zf,zbh] at hS;obtain ⟨n1,n2,n3,n4,n5⟩:=hS;refine ⟨?_,hk _ _ (YU n2) x.it,x.one.at λo e=>hk _ _ (YU n4) e,x.two.at λo e=>hk _ _ (YU n5) e⟩;rcases x.own with ⟨e,h1,a,b,h2⟩|⟨a,f,oa,h1,h2,h3⟩
 ·exact .inl ⟨e,hk _ _ (YU n1) h1,a,b,hk _ _ (YU n3) h2⟩
 ·refine .inr ⟨a,f,oa,hk _ _ (YU n1) h1,hk _ _ ?_ h2,h3⟩;simp only [Za,YT,Zf,zbh] at h3;exact h3.2.2.2
structure Hm (xs ys:Array Value) (lo:Addr) (h:Heap) (as:XL):Prop where
 rise:as.Pairwise (·<·)
 above:∀ a∈as,lo<=a
 pairs:∀ (j:Nat) (a:Addr),as[j]?=some a->∃ x y,xs[j]?=some x/\ys[j]?=some y/\IsPair h a x y
theorem FH (D:ZipApart z TI TO i1 i2 l1 l2) (st:qI s.heap z TI TO i1 i2 l1 l2 S i) (hS:S<s.heap.objs.size)
  (qt:s.heap.IsList l1 xs) (nV:s.heap.IsList l2 ys) (hx:xs[i]?=some x) (hy:ys[i]?=some y)
  (hQ:∀ h',qI h' z TI TO i1 i2 l1 l2 S (i+1)->IsPair h' s.heap.objs.size x y->h'.objs.size=s.heap.objs.size+1->
   (∀ c o,c∉[z,TO,i1,i2]->s.heap.get? c=some o->h'.get? c=some o)->Q (some (.ref s.heap.objs.size)) { s with heap:=h' }) :
  wpAny (model prog w) A (pyNext (.ref z)) Q E s:=by
 have UW:i1<s.heap.objs.size:=by obtain ⟨_,e,_⟩:=st.one;exact Yi e
 have UU:i2<s.heap.objs.size:=by obtain ⟨_,e,_⟩:=st.two;exact Yi e
 have f:∀ {c p q r t:Addr},c∉[p,q,r,t]->c≠p/\c≠q/\c≠r/\c≠t:=λh=>by
  simpa only [Za,YT,Zf,zbh] using h
 have g:∀ {c p q r t:Addr},c≠p->c≠q->c≠r->c≠t->c∉[p,q,r,t]:=λh1 h2 h3 h4=>by
  simp only [Za,YT,Zf,zbh];exact ⟨h1,h2,h3,h4⟩
 rcases st.own with ⟨rfl,h1,a,b,h2⟩|⟨a,fl,oa,h1,h2,h3⟩
 ·refine wpAny_pyNext_zip_item D h1 st.it h2 st.one st.two qt nV hx hy λh' k1 k2 k3 k4 hT hsz hk=>hQ h' ⟨.inr ⟨_,false,_,k1,hT,g (Zq (Yi h1)) (Zq UW) (Zq UU) (Zq hS)⟩,hk _ _ D.TIz D.TITO D.TIi1 D.TIi2 st.it,k3,k4⟩ hT hsz λc o hc e=>?_;obtain ⟨c1,c2,c3,c4⟩:=f hc;exact hk c o c1 c2 c3 c4 e
 ·obtain ⟨b1,b2,b3,b4⟩:=f h3;refine Bs D h1 h2 st.it st.one st.two qt nV hx hy λh' k1 k3 k4 hT hsz hk=>hQ h' ⟨.inr ⟨a,true,oa,k1,hk _ _ b1 b2 b3 h2,h3⟩,hk _ _ D.TIz D.TIi1 D.TIi2 st.it,k3,k4⟩ hT hsz λc o hc e=>?_;obtain ⟨c1,c2,c3,c4⟩:=f hc;exact hk c o c1 c3 c4 e
theorem IW (hh:A.handled=none) (D:ZipApart z TI TO i1 i2 l1 l2) (st:qI s.heap z TI TO i1 i2 l1 l2 S i)
  (qt:s.heap.IsList l1 xs) (nV:s.heap.IsList l2 ys) (B4:xs[i]?=none)
  (hQ:∀ h',(∀ c o,c∉[z,TO,i1,i2]->s.heap.get? c=some o->h'.get? c=some o)->Q none { s with heap:=h' }):wpAny (model prog w) A (pyNext (.ref z)) Q E s:=by
 have f:∀ {c p q r t:Addr},c∉[p,q,r,t]->c≠p/\c≠q/\c≠r/\c≠t:=λh=>by
  simpa only [Za,YT,Zf,zbh] using h
 rcases st.own with ⟨rfl,h1,a,b,h2⟩|⟨a,fl,oa,h1,h2,h3⟩
 ·refine wpAny_pyNext_zip_end hh D h1 st.it h2 st.one st.two qt nV (.inl B4) λh' hk=>hQ h' λc o hc e=>?_;obtain ⟨c1,c2,c3,c4⟩:=f hc;exact hk c o c1 c2 c3 c4 e
 ·refine CN hh D h1 h2 st.it st.one st.two qt nV B4 λh' hk=>hQ h' λc o hc e=>?_;obtain ⟨c1,c2,c3,c4⟩:=f hc;exact hk c o c1 c3 c4 e
section
variable {prog:Program} {w:World} {A:Around} {s:Shared} {R:Result->Shared->Prop} {xs ys:Array Value}
theorem FG (hh:A.handled=none) (D:ZipApart z TI TO i1 i2 l1 l2) (EN:S∉[z,TI,TO,i1,i2]) (OB:l1≠S) (yj:l2≠S) (sM:xs.size=ys.size) (hn:xs.size<=sizeLine) (res:Value) {h₁:Heap}
  (hR:∀ h' tk acc c as,(∀ b o,b≠S->b∉[z,TO,i1,i2]->h₁.get? b=some o->h'.get? b=some o)->h'.get? S=some { cls:=.type "list",dict:=none,data:=.seq acc c,slots:=#[] }->as.length=xs.size->Hm xs ys h₁.objs.size h' as->
   acc.toList=as.map Value.ref->R (.ok (.ret res)) { s with heap:=h',toks:=tk }) :
  ∀ (k i:Nat) (h:Heap) (tk c:Nat) (acc:Array Value) (as:XL),xs.size-i=k->i<=xs.size->qI h z TI TO i1 i2 l1 l2 S i->h.IsList l1 xs->h.IsList l2 ys->(∀ b o,b≠S->b∉[z,TO,i1,i2]->h₁.get? b=some o->h.get? b=some o)->
   h.get? S=some { cls:=.type "list",dict:=none,data:=.seq acc c,slots:=#[] }->acc.toList=as.map Value.ref->as.length=i->Hm xs ys h₁.objs.size h as->h₁.objs.size<=h.objs.size->(∀ c∈[z,TO,i1,i2],c<h₁.objs.size)->S<h₁.objs.size->
   codeAny (model prog w) A (.builtin "list.extend.loop" ⟨[.ref S,.ref z,res],[]⟩) R { s with heap:=h,toks:=tk }:=by
 have S6:S∉[z,TO,i1,i2]:=by
  simp only [Za,YT,Zf,zbh] at EN ⊢;exact ⟨EN.1,EN.2.2.1,EN.2.2.2.1,EN.2.2.2.2⟩
 intro k
 induction k with
 | zero=>
  intro i h tk c acc as hk hi GO qt nV EH hS a9 Nd hG hsz eK QH;have Ox:i=xs.size:=by omega
  refine ZZ PySem.F.entry_extend_loop ?_;rw [Zt ZN _];show wpAny _ A.in1 (pyNext (.ref z) >>= _) _ _ _;refine X5 (IW (s:={ s with heap:=h,toks:=tk }) (A:=A.in1) hh D GO qt nV (by rw [zbf];omega) λh' he=>?_);refine Ym (hR h' tk acc c as (λb o h1 h2 e=>he b o h2 (EH b o h1 h2 e)) (he S _ S6 hS) (by omega) ⟨hG.rise,hG.above,λj a hj=>?_⟩ a9);obtain ⟨x,y,e1,e2,e3⟩:=hG.pairs j a hj;refine ⟨x,y,e1,e2,he a _ (λhm=>?_) e3⟩;exact absurd (eK a hm) (Nat.not_lt.mpr (hG.above a (Yb hj)))
 | succ k ih=>
  intro i h tk c acc as hk hi GO qt nV EH hS a9 Nd hG hsz eK QH;have Kr:i<xs.size:=by omega
  have IA:i<ys.size:=by omega
  have Oq:acc.size=i:=by rw [<-Y0,a9,Pd,Nd]
  refine ZZ PySem.F.entry_extend_loop ?_;rw [Zt ZN _];show wpAny _ A.in1 (pyNext (.ref z) >>= _) _ _ _;refine X5 (FH (s:={ s with heap:=h,toks:=tk }) (S:=S) (x:=xs[i]) (y:=ys[i]) D GO (Yi hS) qt nV (by simp [Kr]) (by simp [IA]) λh' P8 ht hz IB=>?_);dsimp only at ht hz IB ⊢;have IE:=IB S _ S6 hS;have up:∀ b o,b≠S->h'.get? b=some o->(h'.update S (Obj.mapSeq (·.push (Value.ref h.objs.size)))).get? b=some o:=λb o hb e=>(Y9 _ _ (YU hb)).trans e;have Ng:S<h.objs.size:=Yi hS;have UB:l1∉[z,TO,i1,i2]:=by
   simp only [Za,YT,Zf,zbh];exact ⟨D.l1z,D.l1TO,D.l1i1,D.l1i2⟩
  have UA:l2∉[z,TO,i1,i2]:=by
   simp only [Za,YT,Zf,zbh];exact ⟨D.l2z,D.l2TO,D.l2i1,D.l2i2⟩
  show wpAny _ A.in1 (updateSeq S (·.push (Value.ref h.objs.size)) >>= _) _ _ _;refine X5 ?_;refine Z0 IE rfl (Ym ⟨ZQ ZN _,ih (i+1) _ tk _ (acc.push (Value.ref h.objs.size)) (as++[h.objs.size]) (by omega) Kr (P8.keep up EN)
   (qt.at λo e=>up l1 o OB (IB l1 o UB e)) (nV.at λo e=>up l2 o yj (IB l2 o UA e))
   (λb o h1 h2 e=>up b o h1 (IB b o h2 (EH b o h1 h2 e))) (Zd _ IE rfl) (by rw [Array.toList_push,a9,Yl];rfl) (by rw [Yr,Nd];rfl) ⟨?_,?_,?_⟩ ?_ eK QH⟩) (by rw [Oq];omega) (by show (acc.push (Value.ref h.objs.size)).size<=sizeLine+1;rw [Array.size_push,Oq];omega)
  ·refine List.pairwise_append.mpr ⟨hG.rise,pairwise_singleton _ _,λa ha b hb=>?_⟩;rw [X9.mp hb];obtain ⟨j,hj⟩:=YB.mp ha;obtain ⟨_,_,_,_,e⟩:=hG.pairs j a hj;exact Yi e
  ·intro a ha;rcases Ye.mp ha with ha|ha
   ·exact hG.above a ha
   ·rw [X9.mp ha];exact hsz
  ·intro j b hj;rcases ZA j as.length with h1|h1|h1
   ·rw [YL h1] at hj;obtain ⟨x',y',e1,e2,e3⟩:=hG.pairs j b hj;have hb:=hG.above b (Yb hj);exact ⟨x',y',e1,e2,up b _ (Zq (YJ QH hb)) (IB b _ (λhm=>absurd (eK b hm) (Nat.not_lt.mpr hb)) e3)⟩
   ·subst h1;have hb:h.objs.size=b:=by simpa using hj
    subst hb;exact ⟨xs[i],ys[i],by rw [Nd];simp [Kr],by rw [Nd];simp [IA],up _ _ (Zq Ng) ht⟩
   ·have MY:(as++[h.objs.size])[j]?=none:=ZI (by rw [Yr,YX];assumption);rw [MY] at hj;cases hj
  ·have e:(h'.update S (Obj.mapSeq (·.push (Value.ref h.objs.size)))).get? h.objs.size=_:=up _ _ (Zq Ng) ht;exact Y2 hsz (ZJ (Yi e))
end
namespace F
theorem yp:typeLookup (.type "zip") "__len__"=pure none:=by rw [zbA,zaC];kernel_rfl
theorem vA:typeLookup (.type "zip") "__length_hint__"=pure none:=by rw [zbA,zaC];kernel_rfl
end F
section
variable {prog:Program} {w:World} {A:Around} {E:WF} {s:Shared} {xs ys:Array Value}
theorem Br (hh:A.handled=none) (D:ZipApart z TI TO i1 i2 l1 l2) (EN:S∉[z,TI,TO,i1,i2]) (OB:l1≠S) (yj:l2≠S) (sM:xs.size=ys.size) (hn:xs.size<=sizeLine) (res:Value) (c₀:Nat)
  (hz:IsZip s.heap z TI TO .none) (EM:∃ a b,IsPair s.heap TO a b) (AW:IsPair s.heap TI (.ref i1) (.ref i2)) (h1:s.heap.IsListIter i1 l1 0) (h2:s.heap.IsListIter i2 l2 0) (qt:s.heap.IsList l1 xs) (nV:s.heap.IsList l2 ys)
  (hS:s.heap.get? S=some { cls:=.type "list",data:=.seq #[] c₀ })
  (hR:∀ h' tk acc c as,(∀ b o,b≠S->b∉[z,TO,i1,i2]->s.heap.get? b=some o->h'.get? b=some o)->h'.get? S=some { cls:=.type "list",dict:=none,data:=.seq acc c,slots:=#[] }->as.length=xs.size->Hm xs ys s.heap.objs.size h' as->
   acc.toList=as.map Value.ref->R (.ok (.ret res)) { s with heap:=h',toks:=tk }) :
  wpAny (model prog w) A.in1 (Builtin.List.listExtendWith (.ref S) (.ref z) res)
   (λfin s'=>match fin with | .done f=>R (.ok f) s' | .again c'=>c'.quiet=true/\codeAny (model prog w) A c' R s') (λe s'=>R (.error e) s') s:=by
 have Nh:=EN;simp only [Za,YT,Zf,zbh] at Nh;obtain ⟨n1,n2,n3,n4,n5⟩:=Nh;have hT:s.TypeIs (.ref z) "zip":=⟨_,hz,rfl⟩;unfold Builtin.List.listExtendWith;refine X5 (wpAny_typeOf hT ?_);have q1:Builtin.List.listSameRef (.ref S) (.ref z)=false:=by simp [Builtin.List.listSameRef,n1]
 have q2:(Value.type "zip"==Value.type "list")=false:=by decide
 have q3:(Value.type "zip"==Value.type "tuple")=false:=by decide
 simp only [q1,q2,q3,Bool.or_false,YY,ZO];refine X5 (wpAny_pyIter_zip hz ?_);refine X5 (Zo ?_);unfold Builtin.List.listLengthHint;refine X5 (zaz hT F.yp ?_);show wpAny _ A.in1 (specialOf (Value.ref z) (Str.ofString "__length_hint__") >>= _) _ _ _;refine X5 (zaz hT F.vA ?_);refine Ym ?_;show wpAny _ A.in1 (rule "list.extend.makes-room" >>= λ_=>Builtin.List.listTouch (.ref S) >>= λ_=>
  again (.builtin "list.extend.loop" ⟨[.ref S,.ref z,res],[]⟩)) _ _ _
 refine X5 (wpAny_rule ?_);refine X5 ?_;show wpAny _ A.in1 (updateSeq S (·.push .none) >>= λ_=>updateSeq S (·.pop)) _ _ _;refine X5 (Z0 hS rfl ?_);have hS₂:=Zd (Obj.mapSeq (·.push Value.none)) hS rfl;refine Z0 (hz:=by seq_fits) hS₂ rfl ?_;have hS₃:=Zd (Obj.mapSeq (·.pop)) hS₂ rfl;have hk:∀ b o,b≠S->s.heap.get? b=some o->((s.heap.update S (Obj.mapSeq (·.push Value.none))).update S (Obj.mapSeq (·.pop))).get? b=some o:=λb o hb e=>(Y9 _ _ (YU hb)).trans ((Y9 _ _ (YU hb)).trans e);obtain ⟨a,b,EM⟩:=EM;refine Ym ⟨ZQ ZN _,FG (s:=s) (h₁:=s.heap) (xs:=xs) (ys:=ys) hh D EN OB yj sM hn res hR xs.size 0 _ _ _ #[] [] (zbH _) (YK _)
  ⟨.inl ⟨rfl,hk _ _ (YU n1) hz,a,b,hk _ _ (YU n3) EM⟩,hk _ _ (YU n2) AW,h1.at λo e=>hk _ _ (YU n4) e,h2.at λo e=>hk _ _ (YU n5) e⟩ (qt.at λo e=>hk _ _ OB e) (nV.at λo e=>hk _ _ yj e)
  (λb o hb _ e=>hk b o hb e) hS₃ rfl rfl ⟨List.Pairwise.nil,(λ_ ha=>nomatch ha),(λj a hj=>by simp at hj)⟩ (by simp [zaK]) (λc hc=>?_) (Yi hS)⟩
 simp only [Za,YT,Zf] at hc;rcases hc with rfl|rfl|rfl|rfl
 ·exact Yi hz
 ·exact Yi EM
 ·obtain ⟨_,e,_⟩:=h1;exact Yi e
 ·obtain ⟨_,e,_⟩:=h2;exact Yi e
theorem rE (hh:A.handled=none) (D:ZipApart z TI TO i1 i2 l1 l2) (sM:xs.size=ys.size) (hn:xs.size<=sizeLine)
  (hz:IsZip s.heap z TI TO .none) (EM:∃ a b,IsPair s.heap TO a b) (AW:IsPair s.heap TI (.ref i1) (.ref i2)) (h1:s.heap.IsListIter i1 l1 0) (h2:s.heap.IsListIter i2 l2 0) (qt:s.heap.IsList l1 xs) (nV:s.heap.IsList l2 ys)
  (hQ:∀ h' tk acc c as,(∀ b o,b∉[z,TO,i1,i2]->s.heap.get? b=some o->h'.get? b=some o)->h'.get? s.heap.objs.size=some { cls:=.type "list",dict:=none,data:=.seq acc c,slots:=#[] }->as.length=xs.size->Hm xs ys (s.heap.objs.size+1) h' as->
   acc.toList=as.map Value.ref->Q (.ref s.heap.objs.size) { s with heap:=h',toks:=tk }) :
  wpAny (model prog w) A (call (.type "list") [.ref z]) Q E s:=by
 refine callType_codes (Q₁:=λobj s₁=>obj=.ref s.heap.objs.size/\s₁={ s with heap:=s.heap.push { cls:=.type "list",data:=.seq #[] } }) PySem.F.called_list (PySem.F.typeCall_list_1 _) PySem.F.entry_list_init
  (code_list_new _ ⟨rfl,rfl⟩) λobj s₁ h₁=>?_
 obtain ⟨rfl,rfl⟩:=h₁;obtain ⟨a,b,EM⟩:=EM;have hS:(s.heap.push { cls:=.type "list",data:=.seq #[] }).get? s.heap.objs.size=some { cls:=.type "list",data:=.seq #[] }:=YH _ rfl;have lt:∀ c∈[z,TI,TO,i1,i2],c<s.heap.objs.size:=λc hc=>by
  simp only [Za,YT,Zf] at hc;rcases hc with rfl|rfl|rfl|rfl|rfl
  ·exact Yi hz
  ·exact Yi AW
  ·exact Yi EM
  ·obtain ⟨_,e,_⟩:=h1;exact Yi e
  ·obtain ⟨_,e,_⟩:=h2;exact Yi e
 have UR:l1<s.heap.objs.size:=by obtain ⟨_,e,_⟩:=qt;exact Yi e
 have UQ:l2<s.heap.objs.size:=by obtain ⟨_,e,_⟩:=nV;exact Yi e
 have EN:s.heap.objs.size∉[z,TI,TO,i1,i2]:=λhm=>absurd (lt _ hm) (YN _);refine ⟨⟨_,hS,rfl⟩,PySem.F.args_list_init_2 _ _,?_⟩;show wpAny _ _ (do let old <-Builtin.List.listItems (.ref s.heap.objs.size);Builtin.List.listUpdate (.ref s.heap.objs.size) (λ_=>#[]);letGo old.toList.reverse;Builtin.List.listExtendWith (.ref s.heap.objs.size) (.ref z) .none) _ _ _;refine X5 ?_;unfold Builtin.List.listItems;refine X5 (zar hS rfl (Ym ?_));show wpAny _ _ (updateSeq s.heap.objs.size (λ_=>#[]) >>= λ_=>letGo (#[]:Array Value).toList.reverse >>= λ_=>Builtin.List.listExtendWith (.ref s.heap.objs.size) (.ref z) .none) _ _ _;refine X5 (Z0 hS rfl ?_);have hS₂:=Zd (Obj.mapSeq (λ_=>(#[]:Array Value))) hS rfl;generalize hg:(s.heap.push { cls:=.type "list",data:=.seq #[] }).update s.heap.objs.size (Obj.mapSeq (λ_=>(#[]:Array Value)))=hp at hS₂;have hsz:hp.objs.size=s.heap.objs.size+1:=by rw [<-hg];simp [zaK,Heap.size_push]
 have AB:∀ b o,s.heap.get? b=some o->hp.get? b=some o:=λb o e=>by
  rw [<-hg];exact (Y9 _ _ (Zq (Yi e))).trans (Yh _ e)
 refine X5 (zaX ?_);refine Br (A:=A.in1) (s:={ s with heap:=hp }) (xs:=xs) (ys:=ys) hh D EN (YR UR) (YR UQ) sM hn .none _ (AB _ _ hz) ⟨a,b,AB _ _ EM⟩ (AB _ _ AW) (h1.at λo e=>AB _ o e) (h2.at λo e=>AB _ o e) (qt.at λo e=>AB _ o e) (nV.at λo e=>AB _ o e) hS₂ λh' tk acc c as hk IE hl hG a9=>?_;refine ⟨rfl,hQ h' tk acc c as (λb o hb e=>hk b o (YR (Yi e)) hb (AB b o e)) IE hl ?_ a9⟩;rw [<-hsz];exact hG
end
end PySem
namespace L2
open PySem PySem.Spec PySem.W PySem.Calls PyProof.Rows
section
variable {X:Cx} {pins:Wp} {σ:St} {H H':Hp} {s:Shared} {h':Heap}
theorem Inv.PK {t':Nat} {ch:XL} (I:Inv X pins σ H s) (k:∀ b u,b∉ch->s.heap.get? b=some u->h'.get? b=some u) (hf:∀ b∈ch,n9 X pins H b) (hs:∀ b u,H b=some u->H' b=some u)
  (new:∀ b u,H' b=some u->H b=none->s.heap.objs.size<=b/\bC X.prog X.w H' h' b u):Inv X pins σ H' { s with heap:=h',toks:=t' }:=by
 have AE:∀ b u,H b=some u->b∉ch:=λb u e z=>by rw [(hf b z).1] at e;cases e
 refine I.step (g':=s.gens) (d':=s.drawn) (ch:=ch) (λb hb=>?_) (λb o _ _ hc e _=>k b o hc e) (λb o _ _ hc e _=>⟨o.slots,k b o hc e⟩) (λb u _ e n=>?_) (λb o hc e=>⟨o,k b o hc e⟩)
  (λb xs e=>hs _ _ e) (λb u v e=>hs _ _ e) (λb ps e=>⟨#[],by rw [hs _ _ e];simp⟩) (λm hm=>?_) (λb u e=>?_) I.bare
 ·obtain ⟨f0,f1,f2,f3,f4,f5⟩:=hf b hb;exact ⟨f3,f1,f4,f5⟩
 ·cases q:H' b with
  | none=>rfl
  | some v=>exact absurd (Yi e) (Nat.not_lt.mpr (new b v q n).1)
 ·obtain ⟨o,es,ep,ho,r⟩:=hm;exact ⟨o,es,ep,k _ o (λz=>(hf _ z).2.1 rfl) ho,r⟩
 ·cases q:H b with
  | none=>exact (new b u e q).2
  | some v=>
   have e2:=hs b v q;rw [e] at e2;cases e2
   refine (I.bH b u q).jq (λc v hc q2=>k c v ?_ q2) (λc q2=>hs _ _ q2) λc xs q2=>hs _ _ q2;rcases hc with z|z
   ·rw [z];exact AE b u q
   ·exact AE c _ z
end
def pY:XL->List (V×V)->Hp->Hp
 | a::as,p::ps,H=>upd (pY as ps H) a (.tup [p.1,p.2])
 | _,_,H=>H
theorem pX:∀ {as:XL} {ps:List (V×V)} {H:Hp} {b:Addr},b∉as->pY as ps H b=H b
 | [],_,_,_,_=>by simp [pY]
 | _::_,[],_,_,_=>by simp [pY]
 | a::as,p::ps,H,b,h=>by
  have nb:b≠a:=λe=>h (by rw [e];exact Yg);rw [pY,ak nb,pX λe=>h (X8 _ e)]
theorem AJ:∀ {as:XL} {ps:List (V×V)} {H:Hp} {j:Nat} {a:Addr} {p:V×V},as.Nodup->as[j]?=some a->ps[j]?=some p->pY as ps H a=some (.tup [p.1,p.2])
 | [],_,_,_,_,_,_,h,_=>by simp at h
 | _::_,[],_,_,_,_,_,_,h=>by simp at h
 | a::as,p::ps,H,0,b,q,_,h1,h2=>by
  have e1:a=b:=by simpa using h1
  have e2:p=q:=by simpa using h2
  subst e1 e2;rw [pY,ae]
 | a::as,p::ps,H,j+1,b,q,hn,h1,h2=>by
  have Cd:as[j]?=some b:=by simpa using h1
  have FC:ps[j]?=some q:=by simpa using h2
  have Ow:=Yp.mp hn;have nb:b≠a:=λe=>Ow.1 (by rw [<-e];exact Yb Cd);rw [pY,ak nb,AJ Ow.2 Cd FC]
theorem rR:∀ (as:XL),Vals (as.map V.ref) (as.map Value.ref)
 | []=>.nil
 | _::as=>.cons rfl (rR as)
def vJ (K:Frag) (ta:TA):TE:=λσ H Q=>ta σ H λvs H1=>∃ a b xs ys,vs=[.ref a,.ref b]/\aN K H1 a xs/\aN K H1 b ys/\xs.length=ys.length/\
 ∀ (l:Addr) (as:XL) (H2:Hp),ah H1 H2->H1 l=none->H2 l=some (.lst (as.map V.ref))->as.length=xs.length->
  (∀ (j:Nat) (a:Addr),as[j]?=some a->H1 a=none/\a≠l/\∃ x y,xs[j]?=some x/\ys[j]?=some y/\H2 a=some (.tup [x,y]))->Q (.ref l) H2
theorem i5:bootBuiltins "list"=some (.type "list"):=by decide +kernel
theorem yM {ta:TA} {p p2 pos qU:Pos} (hc:X.calm=true) (hm:X.mg "zip"=none) (Fz:X.mg "list"=none) (ha:PA X [l,m] ta) (hg:Gl X "zip":=by rfl) (Kv:Gl X "list":=by rfl)
  (he:starEach [l,m] X.env=(false,eval l X.env)::starEach [m] X.env:=by rfl) (CJ:(backTo pos (starEach [m] X.env)).any (·.1)=false:=by rfl)
  (B6:starEach [.Call (.Name "zip" p) [l,m] [] pos] X.env=(false,eval (.Call (.Name "zip" p) [l,m] [] pos) X.env)::starEach [] X.env:=by rfl) :
  PE X (.Call (.Name "list" p2) [.Call (.Name "zip" p) [l,m] [] pos] [] qU) (vJ X.K ta):=by
 intro pins s σ H Q I h;refine Call_ (dJ I Kv Fz i5 (YG ?_ B6 rfl));rw [B6];show wpAny _ _ (spliced ((false,eval (.Call (.Name "zip" p) [l,m] [] pos) X.env)::backTo qU (starEach [] X.env))) _ _ s;refine Zk ?_;refine Call_ (dJ I hg hm Cr (YG (cT (ha pos pins s σ H _ I h) λus s1 ⟨vs,H1,I1,r1,q1⟩=>?_) he CJ));obtain ⟨a,b,xs,ys,rfl,Ou,SJ,sM,q⟩:=q1;obtain ⟨u1,u2,rfl,Ud,Uc⟩:=vals2 r1;cases Ud
 cases Uc
 obtain ⟨ia,ra,pa,za⟩:=I1.list Ou;obtain ⟨ib,rb,pb,zb⟩:=I1.list SJ;have la:=ra.length;have lb:=rb.length;have Oi:a<s1.heap.objs.size:=by obtain ⟨_,e,_⟩:=pa.isList;exact Yi e
 have Oh:b<s1.heap.objs.size:=by obtain ⟨_,e,_⟩:=pb.isList;exact Yi e
 have ne:∀ {j k:Nat},j≠k->s1.heap.objs.size+j≠s1.heap.objs.size+k:=λh z=>h (Nat.add_left_cancel z);have nl:∀ {c:Addr} (k:Nat),c<s1.heap.objs.size->c≠s1.heap.objs.size+k:=λk l=>YR (YJ l (zbn _ _));have D:ZipApart (s1.heap.objs.size+4) (s1.heap.objs.size+2) (s1.heap.objs.size+3) s1.heap.objs.size (s1.heap.objs.size+1) a b:=
  ⟨ne (by decide),ne (by decide),ne (j:=0) (by decide),ne (by decide),ne (by decide),ne (k:=0) (by decide),ne (by decide),ne (k:=0) (by decide),ne (by decide),ne (j:=0) (by decide),nl _ Oi,nl _ Oi,nl 0 Oi,nl _ Oi,nl _ Oh,nl _ Oh,nl 0 Oh,nl _ Oh⟩
 refine call_zip_2 pa.isList pb.isList λh' hz AW EM h1 h2 hsz hk=>?_;refine Zn ?_;have I2:Inv X pins σ H1 { s1 with heap:=h' }:=I1.kept (t':=s1.toks) λc o e=>hk c o e;obtain ⟨U9,RY,Ur,_⟩:=I2.list Ou;obtain ⟨U8,RX,Uq,_⟩:=I2.list SJ;have Xy:=RY.length;have Xx:=RX.length;refine rE (s:={ s1 with heap:=h' }) (xs:=U9.toArray) (ys:=U8.toArray) (I2.ok.hd hc) D (by simp only [YE];omega) (by simp only [YE];omega) hz ⟨_,_,EM⟩ AW h1 h2 Ur.isList Uq.isList λh3 tk acc c as VE hS hl hG a9=>?_;have Ks:as.length=xs.length:=by rw [hl,YE];omega
 have Vy:as.Nodup:=hG.rise.imp (λe=>YR e);have Oz:∀ x,h'.objs.size<=x->H1 x=none:=λx hx=>I2.bH.fresh hx;have Oy:∀ x∈as,h'.objs.size+1<=x:=hG.above;have S8:h'.objs.size∉as:=λhm=>absurd (Oy _ hm) (Nat.not_le.mpr (ZG _));have MR:∀ x u,H1 x=some u->x∉as/\x≠h'.objs.size:=λx u e=>by
  constructor
  ·intro hm;have e2:=Oz x (zbi (Oy x hm));rw [e] at e2;cases e2
  ·intro hm;have e2:=Oz x (Nat.le_of_eq hm.symm);rw [e] at e2;cases e2
 have LA:∀ (j:Nat) (x:Addr),as[j]?=some x->∃ v w v' w',xs[j]?=some v/\ys[j]?=some w/\RelV v v'/\RelV w w'/\IsPair h3 x v' w':=λj x hj=>by
  obtain ⟨v',w',e1,e2,e3⟩:=hG.pairs j x hj;have SV:j<xs.length:=by have:=(X3.mp hj).1;omega
  obtain ⟨u1,f1,g1⟩:=RY.get (show xs[j]?=some xs[j] by simp [SV]);obtain ⟨u2,f2,g2⟩:=RX.get (show ys[j]?=some (ys[j]'(by omega)) by simp [show j<ys.length by omega]);rw [getElem?_toArray] at e1 e2;rw [e1] at f1;rw [e2] at f2;cases f1
  cases f2
  exact ⟨_,_,v',w',by simp [SV],by simp [show j<ys.length by omega],g1,g2,e3⟩
 have Ta:∀ (j:Nat) (x:Addr) (v w:V),as[j]?=some x->xs[j]?=some v->ys[j]?=some w->upd (pY as (xs.zip ys) H1) h'.objs.size (.lst (as.map V.ref)) x=some (.tup [v,w]):=λj x v w hj hv hw=>by
  have nx:x≠h'.objs.size:=λe=>S8 (by rw [<-e];exact Yb hj);rw [ak nx];exact AJ (p:=(v,w)) Vy hj (by rw [getElem?_zip_eq_some];exact ⟨hv,hw⟩)
 have yj:∀ x u,H1 x=some u->upd (pY as (xs.zip ys) H1) h'.objs.size (.lst (as.map V.ref)) x=some u:=λx u e=>by
  obtain ⟨e1,e2⟩:=MR x u e;rw [ak e2,pX e1];exact e
 have I3:Inv X pins σ (upd (pY as (xs.zip ys) H1) h'.objs.size (.lst (as.map V.ref))) { s1 with heap:=h3,toks:=tk }:=by
  refine Inv.PK (s:={ s1 with heap:=h' }) (ch:=[s1.heap.objs.size+4,s1.heap.objs.size+3,s1.heap.objs.size,s1.heap.objs.size+1]) I2 (λb u hb e=>VE b u hb e) (λc hc=>?_) yj λx u e n=>?_
  ·have le:s1.heap.objs.size<=c:=by
    simp only [Za,YT,Zf] at hc;rcases hc with rfl|rfl|rfl|rfl
    ·exact zbn _ _
    ·exact zbn _ _
    ·exact X7 _
    ·exact zbn _ _
   exact I1.rC le (I1.bH.fresh le)
  ·by_cases hx:x=h'.objs.size
   ·subst hx;rw [ae] at e;cases e
    refine ⟨X7 _,show bC X.prog X.w _ h3 _ (.lst (as.map V.ref)) from ⟨by rw [Pd,Ks];exact za,as.map Value.ref,c,rR as,?_⟩⟩;rw [<-a9,zak];exact hS
   ·by_cases hm:x∈as
    ·obtain ⟨j,hj⟩:=YB.mp hm;obtain ⟨v,w,v',w',e1,e2,g1,g2,hP⟩:=LA j x hj;rw [Ta j x v w hj e1 e2] at e;cases e
     exact ⟨zbi (Oy x hm),by simp only [YV,zac];rw [ZS];decide,[v',w'],.cons g1 (.cons g2 .nil),⟨_,hP,rfl,_,rfl⟩⟩
    ·rw [ak hx,pX hm,n] at e;cases e
 refine ⟨.ref h'.objs.size,_,I3,rfl,q _ as _ (λx u e=>yj x u e) (Oz _ (X7 _)) ae Ks λj x hj=>?_⟩;obtain ⟨v,w,v',w',e1,e2,g1,g2,hP⟩:=LA j x hj;have hm:=Yb hj;exact ⟨Oz x (zbi (Oy x hm)),λe=>S8 (e▸hm),v,w,e1,e2,Ta j x v w hj e1 e2⟩
end L2
namespace Gm
open PySem L2
theorem Lp.perm (p:Lp L R ks) (h:ja.Perm ks):Lp L R ja:=
 ⟨p.good,p.least,h.nodup_iff.mpr p.nd,h.trans p.pm,by rw [h.length_eq];exact p.two⟩
theorem PR.mk {H:Hp}:∀ {ps:XL} {T:List (Int×Int)},ps.length=T.length->(∀ (j:Nat) (a:Addr) (d:Int×Int),ps[j]?=some a->T[j]?=some d->H a=some (.tup [.int d.1,.int d.2]))->PR H ps T
 | [],[],_,_=>.nil
 | [],_::_,h,_=>by simp at h
 | _::_,[],h,_=>by simp at h
 | a::ps,d::T,h,f=>.cons (f 0 a d rfl rfl) (PR.mk (by simpa using h) λj b e h1 h2=>f (j+1) b e (by simpa using h1) (by simpa using h2))
theorem FZ (h:j<r.length):(cU r 1)[j]?=some (cy r (j+1)):=by
 have hl:(cU r 1).length=r.length:=cV (by omega);have e1:cy (cU r 1) j=(cU r 1)[j]'(by omega):=eO (by omega);by_cases h1:1<r.length
 ·rw [gV h1] at e1;rw [e1];exact X4 _
 ·have e2:r.length=1:=by omega
  have e3:j=0:=by omega
  subst e3
  match r,e2 with
  | [x],_=>unfold cU cy;simp
theorem NK (h:j<r.length):r[j]?=some (cy r j):=by
 rw [eO h];exact X4 _
theorem yI {a:Addr} {i n:Nat} {m:Int} {r:UV} (h1:σ[i]?=some (some (.ref a))) (hs:aN K H a (r.map V.int)) (hn:n<=r.length) (q:∀ p,H p=none->Q (.ref p) (upd H p (.lst ((r.drop n).map V.int)))) (hm:m=(n:Int):=by rfl) :
  Lg (BK K) (fI i) (vI (tC (.int m))) lC σ H Q:=by
 subst hm;exact ⟨_,h1,⟨_,rfl,⟨a,_,rfl,hs,λp hp=>by rw [jS hn];exact q p hp⟩⟩⟩
theorem DJ {a:Addr} {i n:Nat} {m:Int} {r:UV} (h1:σ[i]?=some (some (.ref a))) (hs:aN K H a (r.map V.int)) (hn:n<=r.length) (q:∀ p,H p=none->Q (.ref p) (upd H p (.lst ((r.take n).map V.int)))) (hm:m=(n:Int):=by rfl) :
  Lg (BK K) (fI i) lC (vI (tC (.int m))) σ H Q:=by
 subst hm;exact ⟨_,h1,⟨_,rfl,⟨a,_,rfl,hs,λp hp=>by rw [iu hn];exact q p hp⟩⟩⟩
def BH (h:ta σ H λvs H1=>∃ a b xs ys,vs=[.ref a,.ref b]/\aN K H1 a xs/\aN K H1 b ys/\xs.length=ys.length/\
  ∀ (l:Addr) (as:XL) (H2:Hp),ah H1 H2->H1 l=none->H2 l=some (.lst (as.map V.ref))->as.length=xs.length->
   (∀ (j:Nat) (a:Addr),as[j]?=some a->H1 a=none/\a≠l/\∃ x y,xs[j]?=some x/\ys[j]?=some y/\H2 a=some (.tup [x,y]))->Q (.ref l) H2):vJ K ta σ H Q:=h
end Gm
namespace L2
open PySem PySem.Spec PySem.W PySem.Calls PyProof.Rows
def yH {to ti:TE} {t:Ho} {Q:St->Hp->Prop} (h:to σ H λo H1=>ti σ H1 λi H2=>t o i v H2 λH3=>Q σ H3):Nm to ti t v σ H Q:=h
theorem yZ {n:Nat} {k:Int} (h0:0<=k) (h1:k<n):CG n k=some k.toNat:=by
 unfold CG;rw [Ya h0,Ya h1]
end L2
namespace Gm
open PySem L2
end Gm
namespace L2
open PySem PySem.Spec PySem.W PySem.Calls PyProof.Rows
theorem sZ:∀ {bs:List Bool} {aY:XV},Vals (bs.map V.bl) aY->aY=bs.map Value.bool
 | [],_,h=>by cases h;rfl
 | b::bs,_,h=>by
  cases h with
  | @cons _ u _ us ru rv=>
   cases ru
   rw [sZ rv]
   rfl
end L2
namespace Gm
open PySem L2
def lk (s:UV->Nat) (R:UF):Nat->List (aw×Int)
 | 0=>[]
 | k+1=>lk s R k++(sh (s (R.getD k [])) (R.getD k [])).map λd=>(d,(k:Int))
theorem gA {s:UV->Nat}:∀ (R:UF),(R.flatMap λr=>sh (s r) r).Perm (R.flatMap (sh 0))
 | []=>.nil
 | r::R=>by
  rw [Z3,Z3];exact (fR r _).append (gA R)
def lo (R:UF) (d:aw):Int:=(R.findIdx λr=>decide (d∈sh 0 r):Nat)
theorem Es (h:(R.flatMap (sh 0)).Nodup) {i:Nat} (hr:R[i]?=some r) (hd:d∈sh 0 r):lo R d=i:=by
 induction R generalizing i with
 | nil=>simp at hr
 | cons q R ih=>
  rw [Z3,zbG] at h;obtain ⟨h1,h2,h3⟩:=h;unfold lo;rw [findIdx_cons];cases i with
  | zero=>
   have e:q=r:=by simpa using hr
   subst e;rw [YC hd]
   rfl
  | succ i=>
   have yh:R[i]?=some r:=by simpa using hr
   have nq:d∉sh 0 q:=λz=>h3 d z d (YF.mpr ⟨r,Yb yh,hd⟩) rfl;rw [Yw nq];have:=ih h2 yh;unfold lo at this;show ((R.findIdx (λr=>decide (d∈sh 0 r))+1:Nat):Int)=_;omega
def wK (R:UF) (s:Nat) (r:UV):UV:=(sh s r).map λd=>lo R (d.2,d.1)
theorem ff (R:UF) (s:Nat) (r:UV):(wK R s r).length=r.length:=by unfold wK;rw [Pd,dG]
theorem pG (h:j<r.length):(wK R s r)[j]?=some (lo R ((dj r (j+s)).2,(dj r (j+s)).1)):=by
 unfold wK;rw [Yj,se h]
 rfl
theorem D0 (h0:0<r.length) (j:Nat):cy (wK R s r) j=lo R ((dj r (j+s)).2,(dj r (j+s)).1):=by
 have hm:j%r.length<r.length:=Y5 _ h0;have e1:cy (wK R s r) j=cy (wK R s r) (j%r.length):=bD (by rw [ff,Zv]);have hl:j%r.length<(wK R s r).length:=by rw [ff];exact hm
 rw [e1,eO hl];have e2:=pG (R:=R) (s:=s) hm;rw [X4 hl] at e2;rw [Yf e2];have e3:dj r (j%r.length+s)=dj r (j+s):=bI (by rw [zaP]);rw [e3]
def Cz (D:UF):Prop:=∀ (k:Nat) (l:UV),D[k]?=some l->(k:Int)∉l/\l.Nodup
theorem Bn (im:aB L) (h:Dt L d):Dt L (d.2,d.1):=by
 have:=h.back im;exact ⟨this.1,this.2.1,this.2.2.2⟩
end Gm
namespace L2
end L2
namespace Gm
open PySem L2
end Gm
namespace Gm
theorem sP {α β:Type} (f:α->List β) (R:List α) (i:Nat):((R.take i).flatMap f).Sublist (R.flatMap f):=by
 have e:R.flatMap f=(R.take i).flatMap f++(R.drop i).flatMap f:=by rw [<-ZT,Z6]
 rw [e];exact sublist_append_left _ _
end Gm
namespace L2
open PySem
theorem Az (hK:X.K=K) {pos:Pos} {k:Nat} {t:FE} {n:Nat} (hc:X.calm=true) (h:NM X es t)
  (hn:(assignEach es X.env).length=n:=by rfl) (GO:(assignEach es X.env).findIdx? (·.1)=none:=by rfl):PG X (.Tuple es k pos) (G3 K n t):=by
 subst hK;exact mQ hc h hn GO
end L2
namespace L2
def dQ (h:td σ H λx H1=>ty σ H1 λy H2=>∃ a v,x=.ref a/\cP H2 a y (some v)/\Q v H2):zP td ty σ H Q:=h
end L2
namespace Gm
open PySem L2
inductive bO (L:UF) (S:UV) (s:Int):Int->Prop where
 | here:bO L S s s
 | step {i:Nat} {l:UV} {x:Int}:bO L S s i->L[i]?=some l->x∈l->x∉S->bO L S s x
theorem bO.rg (h:bO L S s x) (m:aB L) (hs:0<=s/\s<L.length):0<=x/\x<L.length:=by
 cases h with
 | here=>exact hs
 | step _ e hx _=>
  have:=m.rg _ _ e x hx;exact ⟨this.1,this.2.1⟩
structure CM (L:UF) (S:UV) (s:Int) (ks ws:UV):Prop where
 nd:ks.Nodup
 nw:ws.Nodup
 st:s∈ks
 re:∀ x∈ks,bO L S s x
 sub:∀ x∈ws,x∈ks
 cl:∀ (i:Nat) (l:UV),(i:Int)∈ks->(i:Int)∉ws->L[i]?=some l->∀ x∈l,x∉S->x∈ks
structure FF (L:UF) (S:UV) (s:Int) (ks ws:UV) (pl:Nat) (l:UV) (k:Nat):Prop where
 nd:ks.Nodup
 nw:ws.Nodup
 st:s∈ks
 re:∀ x∈ks,bO L S s x
 sub:∀ x∈ws,x∈ks
 pk:(pl:Int)∈ks
 cl:∀ (i:Nat) (m:UV),(i:Int)∈ks->(i:Int)∉ws->i≠pl->L[i]?=some m->∀ x∈m,x∉S->x∈ks
 tk:∀ x∈l.take k,x∉S->x∈ks
section
variable {L:UF} {S:UV} {s:Int} {ks ws:UV} {pl k:Nat} {l:UV} {x:Int}
theorem CM.start:CM L S s [s] [s]:=⟨by simp,by simp,by simp,λx h=>by rw [X9.mp h];exact .here,λx h=>h,λi l h1 h2=>absurd h1 h2⟩
theorem CM.pop (h:CM L S s ks (ws++[(pl:Int)])):FF L S s ks ws pl l 0:=
 ⟨h.nd,(tQ.mp h.nw).2,h.st,h.re,λx hx=>h.sub x (Yx _ hx),h.sub _ (by simp),λi m h1 h2 h3 h4 x hx=>h.cl i m h1 (λz=>by
  rcases Ye.mp z with z|z
  ·exact h2 z
  ·have:=X9.mp z;omega) h4 x hx,λx hx=>by simp at hx⟩
theorem FF.add (h:FF L S s ks ws pl l k) (e:l[k]?=some x) (n:x∉ks) (nS:x∉S) (hl:L[pl]?=some l):FF L S s (ks++[x]) (ws++[x]) pl l (k+1):=by
 refine ⟨tQ.mpr ⟨n,h.nd⟩,tQ.mpr ⟨λz=>n (h.sub _ z),h.nw⟩,Yx _ h.st,λy hy=>?_,λy hy=>?_,Yx _ h.pk,λi m h1 h2 h3 h4 y hy hS=>?_,λy hy hS=>?_⟩
 ·rcases Ye.mp hy with z|z
  ·exact h.re y z
  ·rw [X9.mp z];exact .step (h.re _ h.pk) hl (Yb e) nS
 ·rcases Ye.mp hy with z|z
  ·exact Yx _ (h.sub y z)
  ·exact YA _ z
 ·refine Yx _ (h.cl i m ?_ (λz=>h2 (Yx _ z)) h3 h4 y hy hS);rcases Ye.mp h1 with z|z
  ·exact z
  ·exact absurd (YA _ z) h2
 ·rcases vG e hy with z|z
  ·exact Yx _ (h.tk y z hS)
  ·rw [z];exact YA _ (by simp)
theorem FF.skip (h:FF L S s ks ws pl l k) (e:l[k]?=some x) (n:x∈ks\/x∈S):FF L S s ks ws pl l (k+1):=
 ⟨h.nd,h.nw,h.st,h.re,h.sub,h.pk,h.cl,λy hy hS=>by
  rcases vG e hy with z|z
  ·exact h.tk y z hS
  ·rcases n with n|n
   ·rw [z];exact n
   ·exact absurd (z▸n) hS⟩
theorem FF.done (h:FF L S s ks ws pl l l.length) (hl:L[pl]?=some l):CM L S s ks ws:=
 ⟨h.nd,h.nw,h.st,h.re,h.sub,λi m h1 h2 h3 x hx hS=>by
  by_cases e:i=pl
  ·subst e;rw [hl] at h3;cases h3
   exact h.tk x (by rw [Y6];exact hx) hS
  ·exact h.cl i m h1 h2 e h3 x hx hS⟩
theorem CM.all (h:CM L S s ks []) (x:Int):x∈ks↔bO L S s x:=by
 refine ⟨h.re x,λr=>?_⟩
 induction r with
 | here=>exact h.st
 | step _ e hx hS ih=>exact h.cl _ _ ih (by simp) e _ hx hS
def CM.len (m:aB L) (hs:0<=s/\s<L.length) (nd:ks.Nodup) (re:∀ x∈ks,bO L S s x):ks.length<=L.length:=cD nd λx hx=>(re x hx).rg m hs
end
def bX (n:Nat):UV:=(List.range n).map λi:Nat=>(i:Int)
theorem bM:x∈bX n↔0<=x/\x<n:=by
 unfold bX;rw [mem_map];constructor
 ·rintro ⟨i,hi,rfl⟩;have:=YO.mp hi;omega
 ·intro ⟨h1,h2⟩;exact ⟨x.toNat,YO.mpr (by omega),by omega⟩
theorem fb (n:Nat):(bX n).Nodup:=Zi _ (λa b h z=>h (by omega)) nodup_range
theorem zM (h:i<n):(bX n)[i]?=some (i:Int):=by unfold bX;simp [h]
theorem b7 (n:Nat):(bX n).length=n:=by unfold bX;simp
def left (n:Nat) (S:UV):UV:=(bX n).filter λx=>!decide (x∈S)
open Classical in
noncomputable def rn (L:UF) (S:UV) (s:Int):Nat:=((bX L.length).filter λx=>decide (bO L S s x)).length
noncomputable def yJ (L:UF) (S:UV):Bool:=match left L.length S with | []=>false|s::r=>decide (rn L S s<(s::r).length)
theorem Gg (h:left L.length S=[]):yJ L S=false:=by unfold yJ;rw [h]
theorem wC (h:left L.length S=s::r):yJ L S=decide (rn L S s<(s::r).length):=by unfold yJ;rw [h]
theorem ou (h:s∈left n S):0<=s/\s<n/\s∉S:=by
 unfold left at h;obtain ⟨h1,h2⟩:=Zb.mp h;have:=bM.mp h1;exact ⟨this.1,this.2,by simpa using h2⟩
def twos (n one:Nat):UF:=(List.range (n-(one+1))).map λj:Nat=>[(one:Int),(one:Int)+1+(j:Int)]
def eS (n:Nat):Nat->UF
 | 0=>[]::(bX n).map λi=>[i]
 | k+1=>eS n k++twos n k
theorem twos_at {n one j:Nat} (h:j<n-(one+1)):(twos n one)[j]?=some [(one:Int),(one:Int)+1+j]:=by unfold twos;simp [h]
theorem twos_len (n one:Nat):(twos n one).length=n-(one+1):=by unfold twos;simp
theorem aX.Cm (g:aX H t bs R) (k:aX H c cs M) (hu:H u=none):aX (upd H u (.lst (bs.map V.ref++cs.map V.ref))) u (bs++cs) (R++M):=by
 have n1:=g.gJ hu;have n2:=k.gJ hu;refine ⟨by rw [Yl];exact ae,by rw [Yr,Yr,g.len,k.len],λi a l h1 h2=>?_⟩;rcases Nat.lt_or_ge i bs.length with hi|hi
 ·rw [YL hi] at h1;rw [YL (by rw [<-g.len];exact hi)] at h2;have nb:a≠u:=λe=>n1 (by rw [<-e];exact X8 _ (Yb h1));rw [ak nb];exact g.row i a l h1 h2
 ·rw [Y1 hi] at h1;rw [Y1 (by rw [<-g.len];exact hi),<-g.len] at h2;have nb:a≠u:=λe=>n2 (by rw [<-e];exact X8 _ (Yb h1));rw [ak nb];exact k.row _ a l h1 h2
theorem gZ (i:Nat):bX (i+1)=bX i++[(i:Int)]:=by unfold bX;rw [Z9,Yl];rfl
theorem Dw (m:aB L) (h:Dt L (a,b)) (D:Dec L R) (s:jT L S) :
  ∃ R' S',Dec (rem L a b) R'/\jT (rem L a b) S'/\((R'.length+iso (rem L a b)=R.length+iso L+1/\S'.length=S.length+1)\/(R'.length+1+iso (rem L a b)=R.length+iso L/\S'.length=S.length)):=by
 obtain ⟨b0,b1,b2,b3⟩:=h.back m;have hb:Dt L (b,a):=⟨b0,b1,b3⟩;have Kg:=ui m h;have ib:=fX m h;have ia:(tx L a).erase b=[]↔nx L (b,a)=(a,b):=fX m hb;rcases uj m h D with ⟨A,B,T,D',lR,kA,kB⟩|⟨A,B,T,D',lR,A0,B0,kA,kB,dd⟩
 ·obtain ⟨t0,s'⟩:=s.more m h;have eA:A=[]↔nx L (a,b)=(b,a):=by
   constructor
   ·intro z;rw [z] at kA;exact kA.nil_eq
   ·intro z;cases A with
    | nil=>rfl
    | cons p A=>
     have hp:=kA.hd;have dt:Dt (rem L a b) p:=(D'.mem p).mp (YI.mpr ⟨p::A,by simp,Yg⟩);rw [hp,z] at dt;exact absurd rfl ((cw m h).mp dt).2.2
  have eB:B=[]↔nx L (b,a)=(a,b):=by
   constructor
   ·intro z;rw [z] at kB;exact kB.nil_eq
   ·intro z;cases B with
    | nil=>rfl
    | cons p B=>
     have hp:=kB.hd;have dt:Dt (rem L a b) p:=(D'.mem p).mp (YI.mpr ⟨p::B,by simp,Yg⟩);rw [hp,z] at dt;exact absurd rfl ((cw m h).mp dt).2.1
  have l1:∀ A:List aw,((if A=[] then [] else [A]):List (List aw)).length=if A=[] then 0 else 1:=λA=>by
   by_cases z:A=[]
   ·rw [Ya z,Ya z];rfl
   ·rw [X6 z,X6 z];rfl
  have key:(if A=[] then 0 else 1)+(if (tx L b).erase a=[] then 1 else 0)=1:=by
   by_cases z:A=[]
   ·rw [Ya z,Ya (ib.mpr (eA.mp z))]
   ·rw [X6 z,X6 (λy=>z (eA.mpr (ib.mp y)))]
  have U0:(if B=[] then 0 else 1)+(if (tx L a).erase b=[] then 1 else 0)=1:=by
   by_cases z:B=[]
   ·rw [Ya z,Ya (ia.mpr (eB.mp z))]
   ·rw [X6 z,X6 (λy=>z (eB.mpr (ia.mp y)))]
  refine ⟨_,_,D',s',.inl ⟨?_,rfl⟩⟩;rw [Yr,Yr,l1,l1,Kg];omega
 ·have Bd:∀ d∈A,Dt (rem L a b) d:=λd hd=>dd d (Yx _ hd);have Tx:∀ d∈B,Dt (rem L a b) d:=λd hd=>dd d (YA _ hd);have r2:Reach (rem L a b) b a:=kA.reach Bd;have r1:Reach (rem L a b) a b:=kB.reach Tx;have nb:¬(tx L b).erase a=[]:=λz=>by
   cases A with
   | nil=>exact A0 rfl
   | cons p A=>
    have hp:=kA.hd;have dt:=Bd p Yg;rw [hp,ib.mp z] at dt;exact ((cw m h).mp dt).2.2 rfl
  have na:¬(tx L a).erase b=[]:=λz=>by
   cases B with
   | nil=>exact B0 rfl
   | cons p B=>
    have hp:=kB.hd;have dt:=Tx p Yg;rw [hp,ia.mp z] at dt;exact ((cw m h).mp dt).2.1 rfl
  rw [X6 nb,X6 na] at Kg;refine ⟨_,_,D',s.L3 m h r1 r2,.inr ⟨?_,rfl⟩⟩;rw [YV,Kg];omega
structure rK (L:UF):Prop where
 map:aB L
 E7:∃ R S,Dec L R/\jT L S/\2*(L.length+R.length+iso L)=(eJ L L.length).length+4*S.length
theorem bF.Pn (s:bF L):rK L:=by
 obtain ⟨R,D,e⟩:=s.E7;have:=cM s.map;exact ⟨s.map,R,[0],D,s.span,by simp only [YV,zac];omega⟩
theorem rK.rem (f:rK L) (h:Dt L (a,b)):rK (rem L a b):=by
 obtain ⟨R,S,D,s,e⟩:=f.E7;obtain ⟨R',S',D',s',c⟩:=Dw f.map h D s;have:=(lL f.map h).2;refine ⟨Ag f.map h,R',S',D',s',?_⟩;rw [fT] at *;omega
theorem lh {p:Int->Bool} {x:Int} (hx:p x=false):∀ (l:UV),(l.erase x).filter p=l.filter p
 | []=>rfl
 | y::l=>by
  rw [erase_cons];by_cases e:y=x
  ·subst e;rw [Ya (beq_self_eq_true _),Z5,hx]
   rfl
  ·rw [X6 (by simpa using e),Z5,Z5,lh hx l]
theorem rK.sub (K:aw->Bool) (sy:∀ x y,K (x,y)=K (y,x)):∀ (N:Nat) {L:UF},rK L->(eJ L L.length).length=N->
  ∃ M,rK M/\M.length=L.length/\∀ x:Int,0<=x->tx M x=(tx L x).filter λy=>K (x,y):=by
 intro N
 induction N using Nat.strongRecOn with
 | _ N ih=>
 intro L f hN;by_cases q:∀ d,Dt L d->K d=true
 ·refine ⟨L,f,rfl,λx x0=>?_⟩;by_cases x1:x<L.length
  ·exact (List.filter_eq_self.mpr λy hy=>q (x,y) ⟨x0,x1,hy⟩).symm
  ·have:tx L x=[]:=by unfold tx;rw [Yn,ZI (by omega)];rfl
   rw [this];rfl
 ·have ⟨d,hd⟩:∃ d,¬(Dt L d->K d=true):=Classical.not_forall.mp q;have h:Dt L d:=Yd λz=>hd λy=>absurd y z;have k:K d=false:=by
   cases e:K d with
   | false=>rfl
   | true=>exact absurd (λ_=>e) hd
  obtain ⟨a,b⟩:=d;have lN:=(lL f.map h).2;obtain ⟨M,fM,lM,rM⟩:=ih _ (by omega) (f.rem h) rfl;refine ⟨M,fM,lM.trans fT,λx x0=>?_⟩;rw [rM x x0,oj f.map h x0];by_cases e1:x=b
  ·subst e1;rw [Ya rfl];exact lh (by rw [sy];exact k) _
  ·rw [X6 e1];by_cases e2:x=a
   ·subst e2;rw [Ya rfl];exact lh k _
   ·rw [X6 e2]
theorem sum_rows {n k:Nat}:∀ (L:UF),(∀ l∈L,l=[]\/n<=l.length)->n*L.length<=(L.map List.length).sum+n*L.countP (·.isEmpty)
 | [],_=>by simp
 | l::L,h=>by
  have ih:=sum_rows (n:=n) (k:=k) L λl hl=>h l (X8 _ hl);rw [YV,Y8,sum_cons,countP_cons,zbX,zbX];rcases h l Yg with z|z
  ·subst z;simp only [zac,isEmpty_nil,zbU];omega
  ·omega
theorem tN:∀ (L:UF),(∀ l∈L,l=[]\/l.length=2)->(L.map List.length).sum+2*L.countP (·.isEmpty)=2*L.length
 | [],_=>by simp
 | l::L,h=>by
  have ih:=tN L λl hl=>h l (X8 _ hl);rw [YV,Y8,sum_cons,countP_cons];rcases h l Yg with z|z
  ·subst z;simp only [zac,isEmpty_nil,zbU];omega
  ·rw [X6 (by cases l with|nil=>simp at z|cons _ _=>simp)];omega
theorem AZ (L:UF):(eJ L L.length).length=(L.map List.length).sum:=by
 have h:=AH (L:=L) (k:=L.length) (X7 _);rw [Y6] at h;have g:∀ (l:UF),(l.map λl=>(l.length:Int)).sum=((l.map List.length).sum:Nat):=λl=>by
  induction l with
  | nil=>rfl
  | cons a l ih=>rw [Y8,Y8,sum_cons,sum_cons,ih];simp
 rw [g] at h;exact Int.ofNat.inj h
theorem Ff (L:UF):(List.range L.length).map (λi=>L.getD i [])=L:=by
 refine zbu (by simp) λi h1 h2=>?_;simp at h1 ⊢;simp [h1]
theorem vN {x:Int} (s:jT L S) (x0:0<=x) (x1:x<L.length) (hx:tx L x≠[]) (m:aB L):iso L+1<=S.length:=by
 obtain ⟨s0,hs,r⟩:=s x x0 x1;have s1:tx L s0≠[]:=λz=>by
  rcases r.inv with e|⟨j,l,hj,hl⟩
  ·rw [e] at hx;exact hx z
  ·-- x is a BQ of j;QN mE way back to s0
   have:∀ y,Reach L s0 y->y=s0:=λy ry=>by
    induction ry with
    | here=>rfl
    | step ry e hy ih=>
     rename_i i l' y;have:tx L s0=l':=by rw [<-ih];exact (by unfold tx;simp [e])
     rw [z] at this;rw [<-this] at hy;cases hy
   rw [this x r] at hx;exact hx z
 let I:UV:=((List.range L.length).filter λi=>(L.getD i []).isEmpty).map λi:Nat=>(i:Int);have li:I.length=iso L:=by
  show (((List.range L.length).filter λi=>(L.getD i []).isEmpty).map λi:Nat=>(i:Int)).length=_;rw [Pd,<-zaY];unfold iso;have:=Yt (List.countP (·.isEmpty)) (Ff L);rw [countP_map] at this;exact this
 have mI:∀ y,y∈I->0<=y/\y<L.length/\tx L y=[]:=λy hy=>by
  obtain ⟨i,hi,rfl⟩:=Yc.mp hy;obtain ⟨h1,h2⟩:=Zb.mp hi;have:=YO.mp h1;exact ⟨Tk _,by omega,by unfold tx;simpa using h2⟩
 have:=dh (l:=s0::I) (r:=S) (Yp.mpr ⟨λz=>s1 (mI _ z).2.2,(Zi _ (λa b h z=>h (by omega)) (List.nodup_range.filter _))⟩) λy hy=>by
  rcases Yk.mp hy with z|z
  ·rw [z];exact hs
  ·obtain ⟨y0,y1,yr⟩:=mI y z;obtain ⟨t,ht,rt⟩:=s y y0 y1;cases rt with
   | here=>exact ht
   | step r' e P0=>
    rename_i i l;have d:=Reach.n6 e P0;have:=(d.back m).2.2.2;rw [yr] at this;cases this
 rw [YV,li] at this;exact this
theorem JC (n:l.Nodup) (hx:x∈l) (h2:2<=l.length):pre l x≠x:=λe=>by
 have hi:=zan.mpr hx;unfold pre cy at e;rw [md hi] at e;have hj:(if l.idxOf x=0 then l.length-1 else l.idxOf x-1)<l.length:=by split<;>omega
 rw [Yn,X4 hj,zbo] at e;have e2:l[l.idxOf x]=x:=zal hi;have:=(Zp (h₀:=hj) (h₁:=hi) n).mp (e.trans e2.symm);split at this<;>omega
theorem yB (m:aB L) (D:Dec L R) (h2:∀ x:Int,0<=x->x<L.length->tx L x=[]\/2<=(tx L x).length) (hc:c∈R):3<=c.length:=by
 obtain ⟨x,l,rfl,k⟩:=D.ir c hc;have hx:Dt L x:=(D.mem x).mp (YI.mpr ⟨_,hc,Yg⟩);obtain ⟨b0,b1,b2,b3⟩:=hx.back m;have k:=k.tl;cases l with
 | nil=>
  have e:=k.nil_eq;have:x.2=x.1:=Yt Prod.fst e;exact absurd this b2
 | cons y l=>
  cases l with
  | nil=>
   have e1:=k.hd;have e2:=k.tl.nil_eq;have e3:(nx L x).2=x.1:=Yt Prod.fst e2;have e4:pre (tx L x.2) x.1=x.1:=e3;have n:(tx L x.2).Nodup:=m.nd _ _ (aE b0 b1);rcases h2 x.2 b0 b1 with z|z
   ·rw [z] at b3;cases b3
   ·exact absurd e4 (JC n b3 z)
  | cons z l=>simp
theorem rK.six (f:rK M) (h6:∀ x:Int,0<=x->x<M.length->tx M x=[]\/6<=(tx M x).length) {x:Int} (x0:0<=x) (x1:x<M.length):tx M x=[]:=by
 refine Yd λhx=>?_;obtain ⟨R,S,D,s,e⟩:=f.E7;have f3:=kZ λc hc=>yB f.map D (λy y0 y1=>(h6 y y0 y1).imp_right λz=>by omega) hc;rw [D.len f.map] at f3;have si:=vN s x0 x1 hx f.map;have sr:=sum_rows (n:=6) (k:=0) M λl hl=>by
  obtain ⟨i,hi,rfl⟩:=Yv.mp hl;have:=h6 (i:Int) (Tk _) (by omega);have e:tx M (i:Int)=M[i]:=by unfold tx;simp [hi]
  rw [e] at this;exact this
 rw [<-AZ] at sr;change 6*M.length<=_+6*iso M at sr;omega
theorem rK.Nq (f:rK L) (off:UV) {x:Int} (x0:0<=x) (x1:x<L.length) (hx:x∉off) :
  ∃ y:Int,0<=y/\y<L.length/\y∉off/\((tx L y).filter λz=>!decide (z∈off)).length<=5:=by
 refine Yd λno=>?_;have no:∀ y:Int,0<=y->y<L.length->y∉off->6<=((tx L y).filter λz=>!decide (z∈off)).length:=λy y0 y1 hy=>by
  have:¬((tx L y).filter λz=>!decide (z∈off)).length<=5:=λz=>no ⟨y,y0,y1,hy,z⟩;omega
 obtain ⟨M,fM,lM,rM⟩:=rK.sub (λd=>!decide (d.1∈off)&&!decide (d.2∈off)) (λx y=>Bool.and_comm _ _) _ f rfl;have row:∀ y:Int,0<=y->tx M y=if y∈off then [] else (tx L y).filter λz=>!decide (z∈off):=λy y0=>by
  rw [rM y y0];by_cases h:y∈off
  ·rw [Ya h];refine List.filter_eq_nil_iff.mpr λz _=>by simp [h]
  ·rw [X6 h];refine filter_congr λz _=>by simp [h]
 have:=fM.six (λy y0 y1=>by
  rw [row y y0];by_cases h:y∈off
  ·exact .inl (Ya h)
  ·rw [X6 h];exact .inr (no y y0 (by omega) h)) x0 (by omega)
 rw [row x x0,X6 hx] at this;have h6:=no x x0 x1 hx;rw [this] at h6;simp at h6
theorem two_pre (n:l.Nodup) (h:∀ z,z∈l↔z=a\/z=b) (ne:a≠b):l.length=2/\pre l a=b/\pre l b=a:=by
 have l2:l.length=2:=len_eq (r:=[a,b]) n (by simp [ne]) λz=>by rw [h z];simp
 match l,l2 with
 | [x,y],_=>
  have xy:x≠y:=by simpa using n
  have hx:x=a\/x=b:=(h x).mp (by simp);have hy:y=a\/y=b:=(h y).mp (by simp);refine ⟨rfl,?_⟩;rcases hx with rfl|rfl<;>rcases hy with rfl|rfl
  ·exact absurd rfl xy
  ·have b1:(x==y)=false:=by simpa using xy
   constructor<;>simp [pre,cy,zaJ,b1]
  ·have b1:(x==y)=false:=by simpa using xy
   constructor<;>simp [pre,cy,zaJ,b1]
  ·exact absurd rfl xy
theorem ER (n:[a,b,c,d].Nodup):pre [a,b,c,d] a=d/\pre [a,b,c,d] b=a/\pre [a,b,c,d] c=b/\pre [a,b,c,d] d=c:=by
 simp at n;obtain ⟨⟨h1,h2,h3⟩,⟨h4,h5⟩,h6⟩:=n;have b1:(a==b)=false:=by simpa using h1
 have b2:(a==c)=false:=by simpa using h2
 have b3:(a==d)=false:=by simpa using h3
 have b4:(b==c)=false:=by simpa using h4
 have b5:(b==d)=false:=by simpa using h5
 have b6:(c==d)=false:=by simpa using h6
 refine ⟨?_,?_,?_,?_⟩<;>simp [pre,cy,zaJ,b1,b2,b3,b4,b5,b6]
theorem zk {P:Int->Bool} {s l:UV} (h:s.Sublist l):l.Nodup->(∀ y∈l,P y=true↔y∈s)->l.filter P=s:=by
 induction h with
 | slnil=>intro _ _;rfl
 | @cons s l a h ih=>
  intro n k;obtain ⟨n1,n2⟩:=Yp.mp n;have:¬P a=true:=λz=>n1 (h.subset ((k a Yg).mp z));rw [zaV this];exact ih n2 λy hy=>k y (X8 _ hy)
 | @cons_cons s l a h ih=>
  intro n k;obtain ⟨n1,n2⟩:=Yp.mp n;rw [zaU ((k a Yg).mpr Yg)];rw [ih n2 λy hy=>(k y (X8 _ hy)).trans ⟨λz=>(Yk.mp z).resolve_left λe=>n1 (e▸hy),λz=>X8 _ z⟩]
def lp (v:Int) (p:UV) (j:Nat):Int:=if j=0 then v else p.getD (j-1) v
def On (v:Int) (p:UV) (d:aw):Prop:=∃ j,j<=p.length/\(d=(lp v p j,lp v p (j+1))\/d=(lp v p (j+1),lp v p j))
section
variable {v:Int} {p:UV}
def uN:lp v p 0=v:=rfl
theorem jK (h0:1<=i) (h1:i<=p.length):lp v p i=p[i-1]'(by omega):=by
 unfold lp;rw [X6 (Zq ‹_›),Yn,X4 (by omega),zbo]
theorem iS:lp v p (p.length+1)=v:=by
 unfold lp;rw [X6 (by omega),Yn,ZI (by omega),Option.getD_none]
theorem uO (h0:1<=i) (h1:i<=p.length):lp v p i∈p:=by rw [jK h0 h1];exact Zu _
def nF (hv:v∉p) (h0:1<=i) (h1:i<=p.length):lp v p i≠v:=λz=>hv (z▸uO h0 h1)
theorem yX (n:p.Nodup) (h0:1<=i) (h1:i<=p.length) (k0:1<=j) (k1:j<=p.length) (e:lp v p i=lp v p j):i=j:=by
 rw [jK h0 h1,jK k0 k1] at e;have:=(Zp n).mp e;omega
theorem wV (h:j<=p.length+1):lp v p j=v\/lp v p j∈p:=by
 by_cases h0:j=0
 ·exact .inl (by rw [h0];rfl)
 ·by_cases h1:j=p.length+1
  ·exact .inl (by rw [h1];exact iS)
  ·exact .inr (uO (by omega) (by omega))
theorem On.sw (h:On v p (x,y)):On v p (y,x):=by
 obtain ⟨j,hj,e⟩:=h;refine ⟨j,hj,?_⟩;rcases e with e|e
 ·right;exact Zl (Yt Prod.snd e) (Yt Prod.fst e)
 ·left;exact Zl (Yt Prod.snd e) (Yt Prod.fst e)
theorem On.fst (h:On v p d):d.1=v\/d.1∈p:=by
 obtain ⟨j,hj,e⟩:=h;rcases e with e|e<;>rw [e]
 ·exact wV (j:=j) (by omega)
 ·exact wV (j:=j+1) (by omega)
theorem On.mid (n:p.Nodup) (hv:v∉p) (h0:1<=i) (h1:i<=p.length) (y:Int):On v p (lp v p i,y)↔y=lp v p (i-1)\/y=lp v p (i+1):=by
 constructor
 ·rintro ⟨j,hj,e|e⟩
  ·have e1:lp v p i=lp v p j:=Yt Prod.fst e;have e2:y=lp v p (j+1):=Yt Prod.snd e;by_cases z:j=0
   ·rw [z] at e1;exact absurd e1 (nF hv h0 h1)
   ·have:=yX n h0 h1 (by omega) hj e1;rw [this];exact .inr e2
  ·have e1:lp v p i=lp v p (j+1):=Yt Prod.fst e;have e2:y=lp v p j:=Yt Prod.snd e;by_cases z:j+1=p.length+1
   ·rw [z,iS] at e1;exact absurd e1 (nF hv h0 h1)
   ·have:=yX n h0 h1 (TD _) (by omega) e1;left;rw [e2,this];rfl
 ·rintro (e|e)
  ·exact ⟨i-1,by omega,.inr (by rw [e];rw [show i-1+1=i by omega])⟩
  ·exact ⟨i,‹_›,.inl (by rw [e])⟩
theorem lV (n:p.Nodup) (hv:v∉p) (h2:2<=p.length) (h0:1<=i) (h1:i<=p.length):lp v p (i-1)≠lp v p (i+1):=λe=>by
 by_cases z:i=1
 ·subst z;exact nF hv (i:=2) (zaW _) h2 e.symm
 ·by_cases y:i=p.length
  ·rw [y,iS] at e;exact nF hv (i:=p.length-1) (by omega) (Uf _ _) e
  ·have:=yX n (i:=i-1) (j:=i+1) (by omega) (by omega) (TD _) (by omega) e;omega
theorem On.at (hv:v∉p) (h1:1<=p.length) (y:Int):On v p (v,y)↔y=lp v p 1\/y=lp v p p.length:=by
 constructor
 ·rintro ⟨j,hj,e|e⟩
  ·have e1:v=lp v p j:=Yt Prod.fst e;have e2:y=lp v p (j+1):=Yt Prod.snd e;by_cases z:j=0
   ·subst z;exact .inl e2
   ·exact absurd e1.symm (nF hv (by omega) hj)
  ·have e1:v=lp v p (j+1):=Yt Prod.fst e;have e2:y=lp v p j:=Yt Prod.snd e;by_cases z:j=p.length
   ·subst z;exact .inr e2
   ·exact absurd e1.symm (nF hv (TD _) (by omega))
 ·rintro (e|e)
  ·exact ⟨0,ZJ ‹_›,.inl (by rw [e];rfl)⟩
  ·exact ⟨p.length,by omega,.inr (by rw [e,iS])⟩
end
theorem along (n:p.Nodup) (hv:v∉p) (h2:2<=p.length) (nd:∀ i,1<=i->i<=p.length->(tx M (lp v p i)).Nodup) (row:∀ i,1<=i->i<=p.length->∀ y,y∈tx M (lp v p i)↔y=lp v p (i-1)\/y=lp v p (i+1))
  {C:aw->Prop} (on:∀ d,C d->C (nx M d)) (h:C (v,lp v p 1)):∀ j,j<=p.length->C (lp v p j,lp v p (j+1))
 | 0,_=>h
 | j+1,hj=>by
  have ih:=on _ (along n hv h2 nd row on h j (ZJ ‹_›));have t:=(two_pre (nd (j+1) (TD _) hj) (row (j+1) (TD _) hj) (lV n hv h2 (TD _) hj)).2.1;have:nx M (lp v p j,lp v p (j+1))=(lp v p (j+1),lp v p (j+1+1)):=by
   show (_,_)=_;exact Zl rfl t
  rw [this] at ih;exact ih
theorem Fm (n:p.Nodup) (hv:v∉p) (h2:2<=p.length) (nd:∀ i,1<=i->i<=p.length->(tx M (lp v p i)).Nodup) (row:∀ i,1<=i->i<=p.length->∀ y,y∈tx M (lp v p i)↔y=lp v p (i-1)\/y=lp v p (i+1))
  {C:aw->Prop} (on:∀ d,C d->C (nx M d)) (h:C (v,lp v p p.length)):∀ k,k<=p.length->C (lp v p (p.length-k+1),lp v p (p.length-k))
 | 0,_=>by rw [zbH,iS];exact h
 | k+1,hk=>by
  have ih:=on _ (Fm n hv h2 nd row on h k (ZJ ‹_›));have t:=(two_pre (nd (p.length-k) (by omega) (Uf _ _)) (row (p.length-k) (by omega) (Uf _ _)) (lV n hv h2 (by omega) (Uf _ _))).2.2;have:nx M (lp v p (p.length-k+1),lp v p (p.length-k))=(lp v p (p.length-k),lp v p (p.length-k-1)):=Zl rfl t;rw [this] at ih;rw [show p.length-(k+1)+1=p.length-k by omega,show p.length-(k+1)=p.length-k-1 by omega];exact ih
theorem D4 (D:Dec L R) (hc:c∈R) (all:∀ d,Dt L d->d∈c):R.length<=1:=by
 match R,D,hc with
 | [],_,_=>simp
 | [_],_,_=>simp
 | c1::c2::R,D,hc=>
  exfalso;have w:∀ e∈c1::c2::R,∃ d∈e,d∈c:=λe he=>by
   obtain ⟨x,l,rfl,_⟩:=D.ir e he;exact ⟨x,Yg,all x ((D.mem x).mp (YI.mpr ⟨_,he,Yg⟩))⟩
  obtain ⟨d1,m1,n1⟩:=w c1 (by simp);obtain ⟨d2,m2,n2⟩:=w c2 (by simp);have e1:=iq D.nd (c:=c1) (e:=c) (by simp) hc m1 n1;have e2:=iq D.nd (c:=c2) (e:=c) (by simp) hc m2 n2;have:=D.nd;rw [Zr,Zr] at this;exact (YD.mp this).2.2 d1 m1 d1 (Yx _ (by rw [e2,<-e1];exact m1)) rfl
theorem rK.IQ (f:rK L) {v n0 n1 n2 n3:Int} (v0:0<=v) (v1:v<L.length) (hs:[n0,n1,n2,n3].Sublist (tx L v)) (np:p.Nodup) (nq:q.Nodup)
  (vp:v∉p) (vq:v∉q) (pq:∀ x∈p,x∉q) (p2:2<=p.length) (q2:2<=q.length) (p0:lp v p 1=n0) (pe:lp v p p.length=n2) (q0:lp v q 1=n1) (qe:lp v q q.length=n3)
  (dp:∀ i,1<=i->i<p.length->Dt L (lp v p i,lp v p (i+1))) (dq:∀ i,1<=i->i<q.length->Dt L (lp v q i,lp v q (i+1))):False:=by
 have Mp:(tx L v).Nodup:=f.map.nd _ _ (aE v0 v1);have n4:[n0,n1,n2,n3].Nodup:=hs.nodup Mp;have inv:∀ x∈[n0,n1,n2,n3],Dt L (v,x):=λx hx=>⟨v0,v1,hs.subset hx⟩;have back:∀ x y,Dt L (x,y)->Dt L (y,x):=λx y h=>by
  obtain ⟨b0,b1,_,b3⟩:=h.back f.map;exact ⟨b0,b1,b3⟩
 have R9:∀ d,On v p d->Dt L d:=by
  rintro d ⟨j,hj,e⟩;have:Dt L (lp v p j,lp v p (j+1)):=by
   by_cases z:j=0
   ·subst z;rw [uN,p0];exact inv _ (by simp)
   ·by_cases y:j=p.length
    ·rw [y,iS,pe];exact back _ _ (inv _ (by simp))
    ·exact dp j (by omega) (by omega)
  rcases e with e|e<;>rw [e]
  ·exact this
  ·exact back _ _ this
 have R8:∀ d,On v q d->Dt L d:=by
  rintro d ⟨j,hj,e⟩;have:Dt L (lp v q j,lp v q (j+1)):=by
   by_cases z:j=0
   ·subst z;rw [uN,q0];exact inv _ (by simp)
   ·by_cases y:j=q.length
    ·rw [y,iS,qe];exact back _ _ (inv _ (by simp))
    ·exact dq j (by omega) (by omega)
  rcases e with e|e<;>rw [e]
  ·exact this
  ·exact back _ _ this
 have dec:∀ d,Decidable (On v p d\/On v q d):=λd=>Classical.propDecidable _;obtain ⟨M,fM,lM,rM⟩:=rK.sub (λd=>@decide _ (dec d)) (λx y=>by
  have:(On v p (x,y)\/On v q (x,y))↔(On v p (y,x)\/On v q (y,x)):=⟨λh=>h.imp On.sw On.sw,λh=>h.imp On.sw On.sw⟩;exact decide_eq_decide.mpr this) _ f rfl
 have mem:∀ x y:Int,0<=x->x<L.length->(y∈tx M x↔On v p (x,y)\/On v q (x,y)):=λx y x0 x1=>by
  rw [rM x x0,zaR,zbQ];exact ⟨λh=>h.2,λh=>⟨(h.elim (R9 _) (R8 _)).mem,h⟩⟩
 have Of:∀ x:Int,0<=x->x<L.length->(tx M x).Nodup:=λx x0 x1=>by
  rw [rM x x0];exact (f.map.nd _ _ (aE x0 x1)).filter _
 have Lj:∀ i,1<=i->i<=p.length->0<=lp v p i/\lp v p i<L.length:=λi h0 h1=>by
  have:=R9 (lp v p i,lp v p (i+1)) ⟨i,h1,.inl rfl⟩;exact ⟨this.lo,this.hi⟩
 have Li:∀ i,1<=i->i<=q.length->0<=lp v q i/\lp v q i<L.length:=λi h0 h1=>by
  have:=R8 (lp v q i,lp v q (i+1)) ⟨i,h1,.inl rfl⟩;exact ⟨this.lo,this.hi⟩
 have Jq:∀ i,1<=i->i<=p.length->∀ y,y∈tx M (lp v p i)↔y=lp v p (i-1)\/y=lp v p (i+1):=λi h0 h1 y=>by
  rw [mem _ _ (Lj i h0 h1).1 (Lj i h0 h1).2,On.mid np vp h0 h1];refine ⟨λh=>h.elim id λz=>?_,.inl⟩;rcases z.fst with z|z
  ·exact absurd z (nF vp h0 h1)
  ·exact absurd z (pq _ (uO h0 h1))
 have Jp:∀ i,1<=i->i<=q.length->∀ y,y∈tx M (lp v q i)↔y=lp v q (i-1)\/y=lp v q (i+1):=λi h0 h1 y=>by
  rw [mem _ _ (Li i h0 h1).1 (Li i h0 h1).2,On.mid nq vq h0 h1];refine ⟨λh=>h.elim (λz=>?_) id,.inr⟩;rcases z.fst with z|z
  ·exact absurd z (nF vq h0 h1)
  ·exact absurd (uO h0 h1) (pq _ z)
 have Ds:tx M v=[n0,n1,n2,n3]:=by
  rw [rM v v0];refine zk hs Mp λy hy=>?_;rw [zbQ,On.at vp (ZJ ‹_›),On.at vq (ZJ ‹_›),p0,pe,q0,qe];simp only [Za,YT,Zf];constructor
  ·rintro ((h|h) | (h|h))<;>simp [h]
  ·rintro (h|h|h|h)<;>simp [h]
 have UP:=λi h0 h1=>two_pre (Of _ (Lj i h0 h1).1 (Lj i h0 h1).2) (Jq i h0 h1) (lV np vp p2 h0 h1);have UO:=λi h0 h1=>two_pre (Of _ (Li i h0 h1).1 (Li i h0 h1).2) (Jp i h0 h1) (lV nq vq q2 h0 h1)
 -- all LM UT on one ring
 obtain ⟨R,S,D,s,e⟩:=fM.E7;have dv:Dt M (v,n0):=⟨v0,by omega,by rw [Ds];simp⟩;obtain ⟨c,hc,hd⟩:=YI.mp ((D.mem _).mpr dv);have on:∀ d,d∈c->nx M d∈c:=λd hd=>(D.ir c hc).on hd;have Pt:∀ x,nx M (x,v)=(v,pre [n0,n1,n2,n3] x):=λx=>by show (v,pre (tx M v) x)=_;rw [Ds]
 obtain ⟨f0,f1,f2,f3⟩:=ER n4;have Mt:=λi h0 h1=>Of _ (Lj i h0 h1).1 (Lj i h0 h1).2;have Si:=λi h0 h1=>Of _ (Li i h0 h1).1 (Li i h0 h1).2;have a1:=along np vp p2 Mt Jq (C:=(·∈c)) on (by rw [p0];exact hd);have b1:(n2,v)∈c:=by have:=a1 p.length (X7 _);rw [iS,pe] at this;exact this
 have c1:(v,n1)∈c:=by have:=on _ b1;rw [Pt,f2] at this;exact this
 have a2:=along nq vq q2 Si Jp (C:=(·∈c)) on (by rw [q0];exact c1);have b2:(n3,v)∈c:=by have:=a2 q.length (X7 _);rw [iS,qe] at this;exact this
 have c2:(v,n2)∈c:=by have:=on _ b2;rw [Pt,f3] at this;exact this
 have a3:=Fm np vp p2 Mt Jq (C:=(·∈c)) on (by rw [pe];exact c2);have b3:(n0,v)∈c:=by have:=a3 p.length (X7 _);rw [Nat.sub_self,uN,ZL,p0] at this;exact this
 have c3:(v,n3)∈c:=by have:=on _ b3;rw [Pt,f0] at this;exact this
 have a4:=Fm nq vq q2 Si Jp (C:=(·∈c)) on (by rw [qe];exact c3);have all:∀ d,Dt M d->d∈c:=λd hd=>by
  have:=(mem d.1 d.2 hd.lo (by have:=hd.hi;omega)).mp hd.mem;rcases this with ⟨j,hj,e|e⟩|⟨j,hj,e|e⟩
  ·rw [show d=(lp v p j,lp v p (j+1)) from e];exact a1 j hj
  ·rw [show d=(lp v p (j+1),lp v p j) from e];have:=a3 (p.length-j) (Uf _ _);rw [show p.length-(p.length-j)=j by omega] at this;exact this
  ·rw [show d=(lp v q j,lp v q (j+1)) from e];exact a2 j hj
  ·rw [show d=(lp v q (j+1),lp v q j) from e];have:=a4 (q.length-j) (Uf _ _);rw [show q.length-(q.length-j)=j by omega] at this;exact this
 have r1:=D4 D hc all;have si:=vN s v0 (by omega) (by rw [Ds];simp) fM.map
 -- mE RQ Oj
 have O5:∀ x:Int,0<=x->x<L.length->x≠v->tx M x=[]\/(tx M x).length=2:=λx x0 x1 xv=>by
  by_cases hp:x∈p
  ·right;obtain ⟨i,hi,rfl⟩:=Yv.mp hp;have:=(UP (i+1) (TD _) ‹_›).1;rw [jK (TD _) ‹_›] at this;exact this
  ·by_cases hq:x∈q
   ·right;obtain ⟨i,hi,rfl⟩:=Yv.mp hq;have:=(UO (i+1) (TD _) ‹_›).1;rw [jK (TD _) ‹_›] at this;exact this
   ·left;refine List.eq_nil_iff_forall_not_mem.mpr λy hy=>?_;rcases (mem x y x0 x1).mp hy with z|z
    ·rcases z.fst with z|z
     ·exact xv z
     ·exact hp z
    ·rcases z.fst with z|z
     ·exact xv z
     ·exact hq z
 have hv:v.toNat<M.length:=by omega
 have sp:M=M.take v.toNat++tx M v::M.drop (v.toNat+1):=by
  have:tx M v=M[v.toNat]:=by unfold tx;simp [hv]
  rw [this,getElem_cons_drop,Z6]
 have part:∀ (k:Nat) (h:k<M.length),k≠v.toNat->M[k]=[]\/M[k].length=2:=λk h hk=>by
  have:=O5 (k:Int) (Tk _) (by omega) (by omega);have e:tx M (k:Int)=M[k]:=by unfold tx;simp [h]
  rw [e] at this;exact this
 have s1:=tN (M.take v.toNat) λl hl=>by
  obtain ⟨i,hi,rfl⟩:=Yv.mp hl;rw [getElem_take];rw [YW] at hi;exact part i (by omega) (by omega)
 have s2:=tN (M.drop (v.toNat+1)) λl hl=>by
  obtain ⟨i,hi,rfl⟩:=Yv.mp hl;rw [getElem_drop];rw [Zs] at hi;exact part _ (by omega) (by omega)
 have t1:(eJ M M.length).length=((M.take v.toNat).map List.length).sum+(4+((M.drop (v.toNat+1)).map List.length).sum):=by
  rw [AZ]
  conv=>lhs;rw [sp]
  rw [Yl,Y8,sum_append,sum_cons,Ds]
  rfl
 have t2:iso M=(M.take v.toNat).countP (·.isEmpty)+(M.drop (v.toNat+1)).countP (·.isEmpty):=by
  unfold iso
  conv=>lhs;rw [sp]
  rw [countP_append,countP_cons,Ds]
  rfl
 have t3:M.length=(M.take v.toNat).length+(1+(M.drop (v.toNat+1)).length):=by
  rw [YW,Zs];omega
 omega
end Gm
namespace PySem
namespace F
end F
end PySem
namespace L2
open PySem PySem.Spec PySem.W PySem.Calls PyProof.Rows
end L2
namespace Gm
open PySem L2
def sw (d:aw):aw:=(d.2,d.1)
theorem EC {l:UV} {k:Nat} (n:l.Nodup) (hk:k<l.length):l.idxOf l[k]=k:=by
 have ix:=Zh (Zu hk);exact (Zp n).mp (zal ix)
theorem uK {n:Nat} {l:UV} (hl:l.length<=n) (h:∀ x:Int,0<=x->x<n->x∈l):l.Nodup:=by
 refine YS.mpr λi j hi hj Kt e=>?_;have sub:∀ x∈bX n,x∈l.eraseIdx j:=λx hx=>by
  have r:=bM.mp hx;obtain ⟨k,hk,ek⟩:=Yv.mp (h x r.1 r.2);rw [mem_eraseIdx_iff_getElem];by_cases z:k=j
  ·subst z;exact ⟨i,hi,YR ‹_›,by rw [e];exact ek⟩
  ·exact ⟨k,hk,z,ek⟩
 have h1:=dh (fb n) sub;rw [b7,length_eraseIdx_of_lt hj] at h1;omega
def nm (ks:List (Int×Int)) (p:Int):Int:=(ks.lookup p).getD 0
abbrev Wait:=Int×Int×Int
end Gm
namespace L2
open PySem PySem.Spec PySem.W PySem.Calls PyProof.Rows Gm
section
variable {X:Cx} {l:Expr} {tl:TE} {p p2 pos qU:Pos}
def vK (tl:TE):TE:=λσ H Q=>tl σ H λx H1=>∃ n:Nat,x=.int (n:Int)/\n<=1000/\∀ p,H1 p=none->Q (.ref p) (upd H1 p (.lst ((bX n).map V.int)))
theorem Bt (h:ItemsOf (λi v=>∃ t,v=Value.int (0+(i:Int)*1) t) acc n):Vals ((bX n).map V.int) acc.toList:=by
 obtain ⟨hs,h⟩:=h;have key:∀ (l:XV) (k:Nat),(∀ j v,l[j]?=some v->∃ t,v=Value.int (((k+j:Nat):Int)) t)->Vals (((List.range' k l.length).map λi:Nat=>(i:Int)).map V.int) l:=by
  intro l
  induction l with
  | nil=>intro k _;exact .nil
  | cons a l ih=>
   intro k hk;rw [YV,range'_succ,Y8,Y8];refine .cons ?_ (ih (k+1) λj v e=>?_)
   ·obtain ⟨t,e⟩:=hk 0 a rfl;exact ⟨t,e⟩
   ·obtain ⟨t,e'⟩:=hk (j+1) v (by simpa using e);exact ⟨t,by rw [e'];congr 2;omega⟩
 have:=key acc.toList 0 λj v e=>by
  obtain ⟨t,e'⟩:=h j v (by rw [<-zaa];exact e);refine ⟨t,?_⟩;rw [e']
  congr 1
  omega
 rw [Y0,hs] at this;unfold bX;rw [range_eq_range'];exact this
theorem lQ (hc:X.calm=true) (hm:X.mg "range"=none) (Fz:X.mg "list"=none) (ha:PE X l tl) (hg:Gl X "range":=by rfl) (Kv:Gl X "list":=by rfl)
  (he:starEach [l] X.env=(false,eval l X.env)::starEach [] X.env:=by rfl)
  (B6:starEach [.Call (.Name "range" p) [l] [] pos] X.env=(false,eval (.Call (.Name "range" p) [l] [] pos) X.env)::starEach [] X.env:=by rfl) :
  PE X (.Call (.Name "list" p2) [.Call (.Name "range" p) [l] [] pos] [] qU) (vK tl):=by
 intro pins s σ H Q I h;refine Call_ (dJ I Kv Fz i5 (YG ?_ B6 rfl));rw [B6];show wpAny _ _ (spliced ((false,eval (.Call (.Name "range" p) [l] [] pos) X.env)::backTo qU (starEach [] X.env))) _ _ s;refine Zk ?_;refine Call_ (dJ I hg hm boot_range (YG ?_ he rfl));rw [he];show wpAny _ _ (spliced ((false,eval l X.env)::backTo pos (starEach [] X.env))) _ _ s;refine Zk (cT (ha pins s σ H _ I h) λu1 s1 q9z=>?_);obtain ⟨x,H1,I1,r1,q1⟩:=q9z;refine Zn ?_;obtain ⟨n,rfl,hn,q⟩:=q1;obtain ⟨t,rfl⟩:=r1;refine call_range_1 ?_;refine Zn ?_;generalize jO:s1.heap.push { cls:=Value.type "range",data:=Data.fields #[Value.int 0 s1.toks,Value.int (n:Int) t,Value.int 1 (s1.toks+1)] }=h';have kp:∀ c o,s1.heap.get? c=some o->h'.get? c=some o:=λc o e=>jO▸Yh _ e;have hz:IsRange h' s1.heap.objs.size 0 (n:Int) 1 s1.toks t (s1.toks+1):=jO▸IsRange.new ..;have I2:Inv X pins σ H1 { s1 with heap:=h',toks:=s1.toks+1+1 }:=I1.kept kp;refine call_list_range (s:={ s1 with heap:=h',toks:=s1.toks+1+1 }) (n:=n) (I2.ok.hd hc) hz (small_one (Tk _) (Tk _) (Tk _) (by omega)) (by rw [rangeSize_one];split<;>omega) (by omega) λh3 tk acc c hk hS hit=>?_;have I3:Inv X pins σ (upd H1 h'.objs.size (.lst ((bX n).map V.int))) { s1 with heap:=h3,toks:=tk }:=by
  refine Inv.jY (s:={ s1 with heap:=h',toks:=s1.toks+1+1 }) (ch:=[]) I2 (λb u _ e=>hk b u e) (λb hb=>by simp at hb) (X7 _) ?_;exact ⟨by rw [Pd,b7,Yz];omega,acc.toList,c,Bt hit,by rw [zak];exact hS⟩
 exact ⟨.ref h'.objs.size,_,I3,rfl,q _ (I2.bH.fresh (X7 _))⟩
end
def sv (h:tl σ H λx H1=>∃ n:Nat,x=.int (n:Int)/\n<=1000/\∀ p,H1 p=none->Q (.ref p) (upd H1 p (.lst ((bX n).map V.int)))):vK tl σ H Q:=h
def eC (h:te σ H λx H1=>tl σ H1 λl H2=>th σ H2 λu H3=>r x l u H3 Q):Lg r te tl th σ H Q:=h
theorem Il (h:(bA P w).is k u=true):RelV (kV k) u:=by
 rw [yU] at h;cases k with
 | inl i=>
  have h:Value.isInt i u=true:=h;cases u<;>simp_all [Value.isInt,kV,RelV]
 | inr x=>exact Value.isStrOf_shape h
theorem KV.key (h:KV kvs vs):∀ {i:Nat} {k:Key} {x:Value},vs[i]?=some (k,x)->∃ v,kvs[i]?=some (k,v):=by
 induction h with
 | nil=>intro i k x e;cases i<;>cases e
 | @cons p q kvs vs r t ih=>
  intro i k x e;cases i with
  | zero=>
   have e:q=(k,x):=by simpa using e
   subst e;obtain ⟨a,b⟩:=p;have:a=k:=r.1;exact ⟨b,by rw [<-this];rfl⟩
  | succ i=>exact ih (by simpa using e)
def LJ (d:Addr) (o:Obj) (kvs:List (Key×V)):It:=
 ⟨λi H=>H d=some (.fN o (.dK kvs))/\i<kvs.length,λi H x H'=>H'=H/\∃ k v,kvs[i]?=some (k,v)/\x=kV k,λi H=>H d=some (.fN o (.dK kvs))/\kvs.length<=i⟩
theorem BA {P:Program} {w:World} {K:Frag} {tg:Expr} {d it:Addr} {o:Obj} {kvs:List (Key×V)} {vs:List (Key×Value)} {ep:Nat} (kv:KV kvs vs) (ho:∀ h:Heap,h.get? d=some o->h.DictAt (bA P w) d vs ep) :
  Turn P w K tg (LJ d o kvs) [it] it (λi h=>h.IsKeyIter it d i vs.length ep) where
 mem:=by simp
 obj:=λi h st b hb=>by
  have e:b=it:=by simpa using hb
  subst e;obtain ⟨o,e,c,d⟩:=st;exact ⟨o,e,λv z=>by rw [d] at z;cases z⟩
 keep:=λi h h' st k=>st.at λo e=>k it (by simp) o e
 item:=by
  intro X hP hw hK hc i pins s σ H E I hf st hg;subst hP hw hK;obtain ⟨hd,hi⟩:=hg;have hl:=kv.length;obtain ⟨e1,_⟩:=(show bC X.prog X.w H s.heap d (.fN o (.dK kvs)) from I.bH d _ hd);obtain ⟨f0,f1,f2,f3,f4,f5⟩:=hf it (by simp);obtain ⟨⟨k,x⟩,hx⟩:∃ p,vs[i]?=some p:=⟨vs[i]'(by omega),by simp [show i<vs.length by omega]⟩;refine wpAny_pyNext_dict_item st (ho _ e1) hx λkey h' B2 oe sb=>?_;have I1:Inv X pins σ H { s with heap:=h' }:=I.turned (t':=s.toks) (λb o hb e=>(sb.2 b hb).trans e) f0 f1 f3 f4 f5;obtain ⟨o',e',c',d'⟩:=id oe;obtain ⟨v,hv⟩:=kv.key hx;exact ⟨key,rfl,sO (s:={ s with heap:=h' }) e' c' d' (by decide) ⟨kV k,H,I1,Il B2,⟨rfl,k,v,hv,rfl⟩,oe,λb hb=>(hf b hb).1⟩⟩
 done:=by
  intro X hP hw hK hc i pins s σ H E I hf st hg;subst hP hw hK;obtain ⟨hd,hi⟩:=hg;have hl:=kv.length;obtain ⟨e1,_⟩:=(show bC X.prog X.w H s.heap d (.fN o (.dK kvs)) from I.bH d _ hd);obtain ⟨f0,f1,f2,f3,f4,f5⟩:=hf it (by simp);exact wpAny_pyNext_dict_end (I.ok.hd hc) st (ho _ e1) (by rw [ZI];omega) λh' eb=>⟨rfl,I.turned (t':=s.toks) (λb o hb e=>eb b o hb e) f0 f1 f3 f4 f5⟩
 self:=λ_ _ _ _ _ st h=>wpAny_pyIter_keyiter st h
section
variable {X:Cx} {tg:Expr}
def Ip (tl:TE):TI:=λσ H R=>tl σ H λx H1=>∃ a kvs,x=.ref a/\H1 a=some (.dK kvs)/\∀ o,R (LJ a o kvs) (upd H1 a (.fN o (.dK kvs)))
theorem Gn (hl:PE X l tl):PI X tg l (Ip tl):=by
 intro pins s σ H R I h;refine cT (hl pins s σ H _ I h) λv s1 q9z=>?_;obtain ⟨x,H1,I1,r1,q1⟩:=q9z;obtain ⟨a,kvs,e,hq,q⟩:=q1;subst e;cases r1
 obtain ⟨hz,hs,vs,kv,o,es,ep,e1,rest⟩:=A4 I1.bH hq;have at_:∀ h:Heap,h.get? a=some o->h.DictAt (bA X.prog X.w) a vs ep:=λh e=>⟨o,es,e,rest⟩;refine wpAny_pyIter_dict hs (at_ _ e1) ?_;generalize jO:s1.heap.push { cls:=Value.type "dict_keyiterator",data:=Data.fields #[Value.ref a,Value.int 0 0,Value.int vs.length 0,Value.int ep 0] }=h';have kp:∀ c o,s1.heap.get? c=some o->h'.get? c=some o:=λc o e=>jO▸Yh _ e;have I2:Inv X pins σ (upd H1 a (.fN o (.dK kvs))) { s1 with heap:=h',toks:=s1.toks }:=
  Inv.write (e:=a) (t':=s1.toks) I1 (by rw [hq];trivial) (.inl rfl) (λb u _ e=>kp b u e) ⟨o,kp _ _ e1⟩ ⟨kp _ _ e1,hz,hs,vs,kv,o,es,ep,kp _ _ e1,rest⟩
 refine ⟨s1.heap.objs.size,[s1.heap.objs.size],_,_,_,rfl,I2,BA kv at_,⟨_,jO▸YH _ rfl,rfl,rfl⟩,λb hb=>?_,q o⟩;have e:b=s1.heap.objs.size:=by simpa using hb
 subst e;have ne:s1.heap.objs.size≠a:=λz=>YN _ (z▸Yi e1);have f:=I1.rC (X7 _) (I1.bH.fresh (X7 _));exact ⟨(ak ne).trans f.1,f.2⟩
theorem ES {o:Obj} {g:TG} {tb:TS} {D:Ends} {σ:St} (Pv:Nat->St->Hp->Prop) (h0:Pv 0 σ H) (hl:∀ i σ H,i<=kvs.length->Pv i σ H->H d=some (.fN o (.dK kvs)))
  (hs:∀ i k v σ H,kvs[i]?=some (k,v)->Pv i σ H->g (kV k) σ H λσ2 H2=>tb { D with nx:=Pv (i+1),ct:=Pv (i+1),bk:=D.nx } σ2 H2) (hd:∀ σ H,Pv kvs.length σ H->D.nx σ H) :
  ∃ W:Nat->Nat->St->Hp->Prop,(∃ m,W 0 m σ H)/\∀ i m σ H,W i m σ H->
   ((LJ d o kvs).stop i H/\D.nx σ H)\/((LJ d o kvs).go i H/\∃ N:St->Hp->Prop,(∀ σ' H',N σ' H'->∃ m',m'<m/\W (i+1) m' σ' H')/\∀ x H',(LJ d o kvs).vo i H x H'->g x σ H' λσ2 H2=>tb { D with nx:=N,ct:=N,bk:=D.nx } σ2 H2):=by
 refine ⟨λi m σ H=>m=kvs.length-i/\i<=kvs.length/\Pv i σ H,⟨kvs.length,by simp,YK _,h0⟩,?_⟩;rintro i m σ H ⟨rfl,hi,p⟩;have q:=hl i σ H hi p;by_cases eK:i<kvs.length
 ·refine .inr ⟨⟨q,eK⟩,Pv (i+1),λσ' H' p'=>⟨kvs.length-(i+1),by omega,rfl,eK,p'⟩,λx H' y=>?_⟩;obtain ⟨e,k,v,hk,rfl⟩:=y;subst e;exact hs i k v σ _ hk p
 ·have e:i=kvs.length:=by omega
  subst e;exact .inl ⟨⟨q,X7 _⟩,hd σ H p⟩
def Jy:List V->Hp->VK->Prop:=λxs H Q=>∃ a kvs,xs=[V.ref a]/\H a=some (.dK kvs)/\∀ p,H p=none->Q (.ref p) (upd H p (.lst (kvs.map λkv=>kV kv.1)))
theorem Bu (kv:KV kvs vs) (h:ItemsOf (λi v=>∃ k x,vs[i]?=some (k,x)/\(bA P w).is k v=true) acc vs.length):Vals (kvs.map λkv=>kV kv.1) acc.toList:=by
 obtain ⟨hs,h⟩:=h;have key:∀ (kvs:List (Key×V)) (l:XV),kvs.length=l.length->(∀ (j:Nat) (u:Value),l[j]?=some u->∃ k v,kvs[j]?=some (k,v)/\RelV (kV k) u)->Vals (kvs.map λkv=>kV kv.1) l:=by
  intro kvs
  induction kvs with
  | nil=>intro l hl _;cases l with|nil=>exact .nil|cons _ _=>simp at hl
  | cons p kvs ih=>
   intro l hl hk;cases l with
   | nil=>simp at hl
   | cons a l=>
    refine .cons ?_ (ih l (by simpa using hl) λj u e=>?_)
    ·obtain ⟨k,v,e,r⟩:=hk 0 a rfl;have e:p=(k,v):=by simpa using e
     rw [e];exact r
    ·obtain ⟨k,v,e',r⟩:=hk (j+1) u (by simpa using e);exact ⟨k,v,by simpa using e',r⟩
 refine key _ _ (kv.length.trans (hs.symm.trans Y0.symm)) λj u e=>?_;obtain ⟨k,x,e1,hk⟩:=h j u (by rw [<-zaa];exact e);obtain ⟨v,hv⟩:=kv.key e1;exact ⟨k,v,hv,Il hk⟩
theorem zC (hc:X.calm=true):fG X (.type "list") Jy:=by
 intro pins s σ H xs us Q I r h;obtain ⟨a,kvs,rfl,hq,q⟩:=h;obtain ⟨u,rfl,rx⟩:=vals1 r;cases rx
 obtain ⟨hz,hs,vs,kv,dd⟩:=A4 I.bH hq;obtain ⟨ep,da⟩:=dd.dictAt;have hl:=kv.length;refine kdl_call (kdl_dict hs) (I.ok.hd hc) da (by omega) λh' tk acc c kp e it=>?_;refine ⟨.ref s.heap.objs.size,_,I.laid (t':=tk) kp (X7 _) (show bC X.prog X.w _ h' _ (.lst (kvs.map λkv=>kV kv.1)) from ⟨by rw [Pd];exact hz,acc.toList,c,Bu kv it,by rw [zak];exact e⟩),rfl,q _ (I.bH.fresh (X7 _))⟩
def NQ (K:Frag) (a:Addr) (xs:List V):It:=
 ⟨λi H=>aN K H a xs/\i<xs.length,λi H x H'=>H'=H/\xs.reverse[i]?=some x,λi H=>xs.length<=i⟩
theorem CV {P:Program} {w:World} {K:Frag} {tg:Expr} {a it:Addr} {xs:List V} :
  Turn P w K tg (NQ K a xs) [it] it (λi h=>i<=xs.length/\h.IsRevIter it a ((xs.length:Int)-1-(i:Int))) where
 mem:=by simp
 obj:=λi h st b hb=>by
  have e:b=it:=by simpa using hb
  subst e;obtain ⟨_,o,e,c,d⟩:=st;exact ⟨o,e,λv z=>by rw [d] at z;cases z⟩
 keep:=λi h h' st k=>⟨st.1,st.2.at λo e=>k it (by simp) o e⟩
 item:=by
  intro X hP hw hK hc i pins s σ H E I hf st hg;subst hP hw hK;obtain ⟨hq,hi⟩:=hg;obtain ⟨aY,rv,p,hz⟩:=I.list hq;have hl:=rv.length;obtain ⟨f0,f1,f2,f3,f4,f5⟩:=hf it (by simp);have ei:(xs.length:Int)-1-(i:Int)=((xs.length-1-i:Nat):Int):=by omega
  have CB:=st.2;rw [ei] at CB;obtain ⟨u,hu,ru⟩:=rv.get (i:=xs.length-1-i) (x:=xs[xs.length-1-i]'(by omega)) (by simp [show xs.length-1-i<xs.length by omega]);refine wpAny_pyNext_rev_item CB p.isList (x:=u) (by simpa using hu) λh' oe sb=>?_;have e2:((xs.length-1-i:Nat):Int)-1=(xs.length:Int)-1-((i+1:Nat):Int):=by omega
  rw [e2] at oe;have I1:Inv X pins σ H { s with heap:=h' }:=I.turned (t':=s.toks) (λb o hb e=>(sb.2 b hb).trans e) f0 f1 f3 f4 f5;obtain ⟨o',e',c',d'⟩:=id oe;refine ⟨u,rfl,sO (s:={ s with heap:=h' }) e' c' d' (by decide) ⟨_,H,I1,ru,⟨rfl,?_⟩,⟨‹_›,oe⟩,λb hb=>(hf b hb).1⟩⟩;rw [getElem?_reverse ‹_›,X4 (by omega)]
 done:=by
  intro X hP hw hK hc i pins s σ H E I hf st hg;subst hP hw hK;have hg:xs.length<=i:=hg;obtain ⟨f0,f1,f2,f3,f4,f5⟩:=hf it (by simp);have ei:(xs.length:Int)-1-(i:Int)=-1:=by have:=st.1;omega
  have CB:=st.2;rw [ei] at CB;exact wpAny_pyNext_rev_end (I.ok.hd hc) CB λh' eb=>⟨rfl,I.turned (t':=s.toks) (λb o hb e=>eb b o hb e) f0 f1 f3 f4 f5⟩
 self:=λ_ _ _ _ _ st h=>wpAny_pyIter_revIter st.2 h
def PV (K:Frag) (tl:TE):TI:=λσ H R=>tl σ H λx H1=>∃ a xs,x=.ref a/\aN K H1 a xs/\R (NQ K a xs) H1
theorem JE {tl:TE} {p pos:Pos} (hm:X.mg "reversed"=none) (ha:PE X l tl) (hg:Gl X "reversed":=by rfl)
  (he:starEach [l] X.env=(false,eval l X.env)::starEach [] X.env:=by rfl):PI X tg (.Call (.Name "reversed" p) [l] [] pos) (PV X.K tl):=by
 intro pins s σ H R I h;refine Call_ (dJ I hg hm boot_reversed (YG ?_ he rfl));rw [he];show wpAny _ _ (spliced ((false,eval l X.env)::backTo pos (starEach [] X.env))) _ _ s;refine Zk (cT (ha pins s σ H _ I h) λu1 s1 q9z=>?_);obtain ⟨x,H1,I1,r1,q1⟩:=q9z;refine Zn ?_;obtain ⟨a,xs,rfl,Ou,q⟩:=q1;cases r1
 obtain ⟨ia,ra,pa,za⟩:=I1.list Ou;have la:=ra.length;refine call_reversed_list pa.isList ?_;generalize jO:s1.heap.push (revObj a ((ia.toArray.size:Int)-1))=h';have kp:∀ c o,s1.heap.get? c=some o->h'.get? c=some o:=λc o e=>jO▸Yh _ e;have hz:h'.IsRevIter s1.heap.objs.size a ((ia.toArray.size:Int)-1):=jO▸⟨_,YH _ rfl,rfl,rfl⟩;have I2:Inv X pins σ H1 { s1 with heap:=h' }:=I1.kept (t':=s1.toks) kp;refine wpAny_pyIter_revIter (s:={ s1 with heap:=h' }) hz ?_;refine ⟨s1.heap.objs.size,[s1.heap.objs.size],_,_,H1,rfl,I2,CV (xs:=xs),⟨YK _,?_⟩,λb hb=>?_,q⟩
 ·have:((ia.toArray.size:Nat):Int)-1=(xs.length:Int)-1-((0:Nat):Int):=by simp;omega
  rw [this] at hz;exact hz
 ·have e:b=s1.heap.objs.size:=by simpa using hb
  subst e;exact I1.rC (X7 _) (I1.bH.fresh (X7 _))
theorem G4 {K:Frag} {a:Addr} {xs:List V} {g:TG} {tb:TS} {D:Ends} {σ:St} {H:Hp} (Pv:Nat->St->Hp->Prop) (h0:Pv 0 σ H) (hl:∀ i σ H,i<=xs.length->Pv i σ H->aN K H a xs)
  (hs:∀ i x σ H,xs.reverse[i]?=some x->Pv i σ H->g x σ H λσ2 H2=>tb { D with nx:=Pv (i+1),ct:=Pv (i+1),bk:=D.nx } σ2 H2) (hd:∀ σ H,Pv xs.length σ H->D.nx σ H) :
  ∃ W:Nat->Nat->St->Hp->Prop,(∃ m,W 0 m σ H)/\∀ i m σ H,W i m σ H->
   ((NQ K a xs).stop i H/\D.nx σ H)\/((NQ K a xs).go i H/\∃ N:St->Hp->Prop,(∀ σ' H',N σ' H'->∃ m',m'<m/\W (i+1) m' σ' H')/\∀ x H',(NQ K a xs).vo i H x H'->g x σ H' λσ2 H2=>tb { D with nx:=N,ct:=N,bk:=D.nx } σ2 H2):=by
 refine ⟨λi m σ H=>m=xs.length-i/\i<=xs.length/\Pv i σ H,⟨xs.length,by simp,YK _,h0⟩,?_⟩;rintro i m σ H ⟨rfl,hi,p⟩;have q:=hl i σ H hi p;by_cases eK:i<xs.length
 ·refine .inr ⟨⟨q,eK⟩,Pv (i+1),λσ' H' p'=>⟨xs.length-(i+1),by omega,rfl,eK,p'⟩,λx H' y=>?_⟩;obtain ⟨e,y⟩:=y;subst e;exact hs i x σ _ y p
 ·have e:i=xs.length:=by omega
  subst e;exact .inl ⟨X7 _,hd σ H p⟩
end
end L2
namespace Gm
open PySem L2
def fK (l:UV) (i:Int):Int:=l.getD i.toNat 0
theorem Ef {k:Nat} {x:Int} (h:l[k]?=some x):fK l (k:Int)=x:=by
 unfold fK;rw [Yu,Yn,h]
 rfl
theorem oq (h0:0<=i) (h1:i<l.length):l[i.toNat]?=some (fK l i):=by
 have hl:i.toNat<l.length:=by omega
 have:=Ef (X4 hl);rw [Z1 h0] at this;rw [this];exact X4 hl
structure oA (n:Nat) (l:UV):Prop where
 len:l.length=n
 nd:l.Nodup
 rg:∀ x∈l,0<=x/\x<n
theorem oA.all {n:Nat} (h:oA n l) {x:Int} (h0:0<=x) (h1:x<n):x∈l:=by
 refine Yd λz=>?_;have:=cD (n:=n) (l:=x::l) (Yp.mpr ⟨z,h.nd⟩) λy hy=>by
  rcases Yk.mp hy with rfl|hy
  ·exact ⟨h0,h1⟩
  ·exact h.rg y hy
 rw [YV,h.len] at this;omega
theorem oA.L7 {n:Nat} (h:oA n l) {i:Int} (h0:0<=i) (h1:i<n):0<=fK l i/\fK l i<n:=
 h.rg _ (Yb (oq h0 (by rw [h.len];exact h1)))
theorem oA.inj {n:Nat} (h:oA n l) {i j:Int} (i0:0<=i) (i1:i<n) (j0:0<=j) (j1:j<n) (e:fK l i=fK l j):i=j:=by
 have a:=oq (l:=l) i0 (by rw [h.len];exact i1);have b:=oq (l:=l) j0 (by rw [h.len];exact j1);rw [e] at a;obtain ⟨a1,a2⟩:=X3.mp a;obtain ⟨b1,b2⟩:=X3.mp b;have:=(Zp h.nd).mp (a2.trans b2.symm);omega
theorem oA.qW {n:Nat} (h:oA n l) {x:Int} (h0:0<=x) (h1:x<n):∃ j:Int,0<=j/\j<n/\fK l j=x:=by
 obtain ⟨k,hk,e⟩:=Yv.mp (h.all h0 h1);exact ⟨(k:Int),Tk _,by rw [h.len] at hk;omega,Ef (by rw [X4 hk,e])⟩
structure zE (A:UF) (l:UV) (R:UF):Prop where
 len:R.length=A.length
 row:∀ j:Int,0<=j->j<A.length->R[(fK l j).toNat]?=some ((tx A j).map (fK l))
theorem bE {i:Nat} (h:L[i]?=some l):tx L (i:Int)=l:=by
 unfold tx;rw [Yu,Yn,h]
 rfl
theorem zE.gv (h:zE A l R) (n:oA A.length l) (m:aB A):aB R:=by
 have at_:∀ (i:Nat) (r:UV),R[i]?=some r->∃ j:Int,0<=j/\j<A.length/\fK l j=i/\r=(tx A j).map (fK l):=λi r hr=>by
  have hi:=(X3.mp hr).1;rw [h.len] at hi;obtain ⟨j,j0,j1,e⟩:=n.qW (x:=(i:Int)) (Tk _) (by omega);have h1:=h.row j j0 j1;rw [e,Yu,hr] at h1;exact ⟨j,j0,j1,e,Yf h1⟩
 have rg:∀ {j x:Int},0<=j->j<A.length->x∈tx A j->0<=x/\x<A.length/\x≠j/\j∈tx A x:=λ{j x} j0 j1 hx=>Dt.back (L:=A) (d:=(j,x)) ⟨j0,j1,hx⟩ m;refine ⟨λi r hr=>?_,λi r hr y hy=>?_,λi r hr y hy k ek m' Lw=>?_⟩
 ·obtain ⟨j,j0,j1,e,rfl⟩:=at_ i r hr;have nd:=m.nd _ _ (aE j0 j1);have:∀ l':UV,l'.Nodup->(∀ x∈l',0<=x/\x<A.length)->(l'.map (fK l)).Nodup:=by
   intro l'
   induction l' with
   | nil=>intro _ _;exact nodup_nil
   | cons a l' ih=>
    intro Lo Pa;rw [Y8,zaS];have BR:=Yp.mp Lo;refine ⟨λz=>?_,ih BR.2 λx hx=>Pa x (X8 _ hx)⟩;obtain ⟨b,hb,eb⟩:=Yc.mp z;have ra:=Pa a Yg;have rb:=Pa b (X8 _ hb);exact BR.1 (n.inj rb.1 rb.2 ra.1 ra.2 eb▸hb)
  exact this _ nd λx hx=>⟨(rg j0 j1 hx).1,(rg j0 j1 hx).2.1⟩
 ·obtain ⟨j,j0,j1,e,rfl⟩:=at_ i r hr;obtain ⟨x,hx,rfl⟩:=Yc.mp hy;have rx:=rg j0 j1 hx;have r2:=n.L7 rx.1 rx.2.1;exact ⟨r2.1,by rw [h.len];exact r2.2,λz=>rx.2.2.1 (n.inj rx.1 rx.2.1 j0 j1 (z.trans e.symm))⟩
 ·obtain ⟨j,j0,j1,e,rfl⟩:=at_ i r hr;obtain ⟨x,hx,rfl⟩:=Yc.mp hy;have rx:=rg j0 j1 hx;have h1:=h.row x rx.1 rx.2.1;rw [ek,Yu,Lw] at h1;rw [Yf h1];exact Yc.mpr ⟨j,rx.2.2.2,e⟩
def zH (L:UF):Prop:=∀ x:Int,0<=x->x<L.length->Reach L 0 x
theorem Reach.sym (h:Reach L s x) (m:aB L) (hs:0<=s/\s<L.length):Reach L x s:=by
 induction h with
 | here=>exact .here
 | @step i l x r e hx ih=>
  have d:=Reach.n6 e hx;have b:=d.back m;exact (Reach.one (d:=(x,(i:Int))) .here ⟨b.1,b.2.1,b.2.2.2⟩).trans ih
theorem zH.of (m:aB L) {s:Int} (s0:0<=s) (s1:s<L.length) (h:∀ x:Int,0<=x->x<L.length->Reach L s x):zH L:=λx x0 x1=>
 ((h 0 (Int.le_refl 0) (by omega)).sym m ⟨s0,s1⟩).trans (h x x0 x1)
def jD (Pv:St->Hp->Prop) (hb:∀ σ' H',Pv σ' H'->b D σ' H') (ha:∀ T:St->Hp->Prop,(∀ σ' H',Pv σ' H'->T σ' H')->a { D with nx:=T } σ H):Jd a b D σ H:=ha _ hb
def Al (h:t σ H λx H1=>∃ a,x=.ref a/\(∃ xs,aN K H1 a xs)/\R (zF K a) H1):ED K t σ H R:=h
end Gm
namespace L2
open PySem PySem.Spec PySem.W PySem.Calls PyProof.Rows HT
end L2
namespace Gm
open PySem L2
theorem fV {c:List aw} (h:(c.map (·.1)).Nodup) {d e:aw} (hd:d∈c) (he:e∈c) (q:d.1=e.1):d=e:=by
 obtain ⟨i,hi,rfl⟩:=Yv.mp hd;obtain ⟨j,hj,rfl⟩:=Yv.mp he;have:i=j:=(Zp (h₀:=by rw [Pd];exact hi) (h₁:=by rw [Pd];exact hj) h).mp (by rw [zat,zat];exact q);subst this
 rfl
theorem Wk.hold {f:aw->aw} {P:aw->Prop} {x y:aw} (k:Wk f x l y) (h0:P x) (hs:∀ d,d∈l->P d->P (f d)):∀ e∈l,P e:=by
 induction k with
 | nil _=>intro e he;cases he
 | @cons x y l k ih=>
  intro e he;rcases Yk.mp he with z|z
  ·rw [z];exact h0
  ·exact ih (hs x Yg h0) (λd hd=>hs d (X8 _ hd)) e z
theorem tG.all {f:aw->aw} {P:aw->Prop} (h:tG f c) {d:aw} (hd:d∈c) (h0:P d) (hs:∀ e,e∈c->P e->P (f e)):∀ e∈c,P e:=by
 obtain ⟨v,pv,k⟩:=h.turn hd;intro e he;rcases Yk.mp (pv.mem_iff.mpr he) with z|z
 ·rw [z];exact h0
 ·exact k.hold (hs d hd h0) (λx hx=>hs x (pv.mem_iff.mp (X8 _ hx))) e z
def mr (L:UF):Prop:=∀ d,Dt L d->∃ c,d∈c/\tG (nx L) c/\(c.map (·.1)).Nodup
theorem mr.ring (s:mr L) (g:Good L r) (n:(sh 0 r).Nodup):r.Nodup:=by
 obtain ⟨c,hc,NA,nd⟩:=s _ (g.dt 0);have all:∀ j,dj r j∈c:=λj=>g.on (P:=λd=>d∈c) (λd _ hd=>NA.on hd) (i:=0) hc j;refine YS.mpr λi j hi hj Kt e=>?_;refine jR n Kt (by omega) (fV nd (all i) (all j) ?_);show cy r i=cy r j;rw [eO hi,eO hj];exact e
theorem mr.apart (s:mr L) (st:bF L) (h3:3<=L.length) (D:Dec L R) (h:Dt L (a,b)) (hc:c∈R) (h1:(a,b)∈c):(b,a)∉c:=by
 intro h2;obtain ⟨c',l7,NA,nd⟩:=s _ h;have Cc:=D.ir c hc;have b1:(b,a)∈c':=Cc.all (P:=λd=>d∈c') h1 l7 (λe _ he=>NA.on he) _ h2;have e1:nx L (a,b)=(b,a):=fV nd (NA.on l7) b1 rfl;have e2:nx L (b,a)=(a,b):=fV nd (NA.on b1) l7 rfl;have all:=Cc.all (P:=λd=>d=(a,b)\/d=(b,a)) h1 (.inl rfl) λe _ he=>by
  rcases he with rfl|rfl
  ·exact .inr e1
  ·exact .inl e2
 have cn:c.Nodup:=(ZD.mp D.nd).1 c hc;have:=dh (r:=[(a,b),(b,a)]) cn λx hx=>by
  rcases all x hx with z|z<;>simp [z]
 have:=st.three h3 D hc;simp at *;omega
theorem cO (n:r.Nodup) (h:i<j) (h2:j<i+r.length):cy r i≠cy r j:=by
 intro z;have r0:0<r.length:=by omega
 have m1:=Y5 i r0;have m2:=Y5 j r0;have e1:cy r i=r[i%r.length]:=by rw [<-eO m1];exact bD (by rw [Zv])
 have e2:cy r j=r[j%r.length]:=by rw [<-eO m2];exact bD (by rw [Zv])
 rw [e1,e2] at z;have e3:=(Zp n).mp z;have:=zby i r.length;have:=zby j r.length;have a:r.length*(i / r.length)<r.length*(j / r.length):=by omega
 have b:i / r.length+1<=j / r.length:=Nat.lt_of_mul_lt_mul_left a;have c:=Nat.mul_le_mul_left r.length b;rw [zbX,Nat.mul_one] at c;omega
theorem IY (n:r.Nodup) (s:Nat):∀ {m:Nat},m<=r.length->((List.range m).map λt=>cy r (s+t)).Nodup:=λ{m} hm=>by
 refine Zi _ (R:=λa b=>a<b/\b<m) (λa b h=>?_) ?_
 ·exact cO n (by omega) (by omega)
 ·refine ZE (λ{a b} ha hb h=>⟨h,YO.mp hb⟩) pairwise_lt_range
theorem seg_at (h0:0<r.length):∃ u,u<r.length/\dj r t=dj r (s+u):=by
 refine ⟨(t+s*r.length-s)%r.length,Y5 _ h0,bI ?_⟩;have e:s<=s*r.length:=Nat.le_mul_of_pos_right s h0;rw [Nat.add_mod_mod,show s+(t+s*r.length-s)=t+s*r.length by omega,Nat.add_mul_mod_self_right]
theorem bP.Fu (F:bP L a b A B) (h1:z1∈tx L a) (h2:z2∈tx L b) (f1:pre A z1=b) (f2:pre B z2=a) :
  nx (both L a b A B) (z1,a)=(a,b)/\nx (both L a b A B) (z2,b)=(b,a)/\nx (both L a b A B) (a,b)=nx L (z2,b)/\nx (both L a b A B) (b,a)=nx L (z1,a)/\
  ∀ d,Dt L d->d≠(z1,a)->d≠(z2,b)->nx (both L a b A B) d=nx L d:=by
 obtain ⟨c0,c1,c2,c3⟩:=Dt.back (d:=(a,z1)) ⟨F.a0,F.a1,h1⟩ F.map;obtain ⟨e0,e1,e2,e3⟩:=Dt.back (d:=(b,z2)) ⟨F.b0,F.b1,h2⟩ F.map;have d1:Dt L (z1,a):=⟨c0,c1,c3⟩;have d2:Dt L (z2,b):=⟨e0,e1,e3⟩;have n1:nx (both L a b A B) (z1,a)=(a,b):=by
  unfold nx;dsimp only;rw [F.row F.a0,X6 F.ne,Ya rfl,f1]
 have n2:nx (both L a b A B) (z2,b)=(b,a):=by
  unfold nx;dsimp only;rw [F.row F.b0,Ya rfl,f2]
 have rn:∀ d,Dt L d->nx L d=if nx (both L a b A B) d=(b,a) then nx (both L a b A B) (a,b) else if nx (both L a b A B) d=(a,b) then nx (both L a b A B) (b,a) else nx (both L a b A B) d:=λd hd=>by
  have:=mO F.gv F.dt (d:=d) (by rw [F.rem];exact hd);rwa [F.rem] at this
 refine ⟨n1,n2,?_,?_,λd hd q1 q2=>?_⟩
 ·have:=rn _ d2;rw [Ya n2] at this;exact this.symm
 ·have:=rn _ d1;rw [n1,X6 (λz=>F.ne (Yt Prod.fst z)),Ya rfl] at this;exact this.symm
 ·have:=rn d hd;rw [X6 (λz=>q2 (eF F.gv (F.sub _ hd) (F.sub _ d2) (z.trans n2.symm))),X6 (λz=>q1 (eF F.gv (F.sub _ hd) (F.sub _ d1) (z.trans n1.symm)))] at this;exact this.symm
theorem bP.eJ (F:bP L a b A B) (h:Dt (both L a b A B) d):Dt L d\/d=(a,b)\/d=(b,a):=by
 rcases (F.mem h.lo).mp h.mem with z|⟨z,y⟩|⟨z,y⟩
 ·exact .inl ⟨h.lo,by have:=h.hi;rwa [dM] at this,z⟩
 ·exact .inr (.inl (Zl z y))
 ·exact .inr (.inr (Zl z y))
theorem tG.keep (h:tG f c) (e:∀ d∈c,g d=f d):tG g c:=by
 obtain ⟨x,l,rfl,k⟩:=h;exact ⟨x,l,rfl,k.congr e⟩
theorem bF.nW (s:bF L):zH L:=λx x0 x1=>by
 obtain ⟨t,ht,r⟩:=s.span x x0 x1;rw [X9.mp ht] at r;exact r
def kF (ks:UV) (f:Int->Int):List (Key×V):=ks.map λx=>((Sum.inl x:Key),V.int (f x))
def nZ (f:Int->Int) (x h:Int):Int->Int:=λy=>if y=x then h else f y
theorem Ey (ks:UV) (f:Int->Int):(kF ks f).length=ks.length:=by unfold kF;simp
theorem Bv:∀ (ks:UV) (f:Int->Int) (x:Int),fH (kF ks f) (.inl x)=if x∈ks then some (.int (f x)) else none
 | [],f,x=>rfl
 | k::ks,f,x=>by
  unfold kF;rw [Y8];by_cases e:k=x
  ·subst e;rw [fj rfl,Ya Yg]
  ·rw [eL (λy=>e (Sum.inl.inj y))];refine (Bv ks f x).trans ?_;by_cases h:x∈ks
   ·rw [Ya h,Ya (X8 _ h)]
   ·rw [X6 h,X6 λz=>(Yk.mp z).elim (λy=>e y.symm) h]
theorem DS (hx:x∉ks):Tl (kF ks f) (.inl x) (.int h)=kF (ks++[x]) (nZ f x h):=by
 rw [jE _ (by rw [Bv,X6 hx])];unfold kF;rw [Yl,Y8,map_nil]
 congr 1
 ·refine Zg λy hy=>?_;rw [show nZ f x h y=f y from X6 λ(z:y=x)=>hx (z▸hy)]
 ·rw [show nZ f x h x=h from Ya rfl]
theorem DP (hx:x∈ks):Tl (kF ks f) (.inl x) (.int h)=kF ks (nZ f x h):=by
 have:((kF ks f).any λkv=>decide (kv.1=(Sum.inl x:Key)))=true:=by rw [ji,Bv,Ya hx];rfl
 unfold Tl;rw [Ya this];unfold kF;rw [zaE];refine Zg λy _=>?_;show (if (Sum.inl y:Key)=Sum.inl x then ((Sum.inl y:Key),V.int h) else (Sum.inl y,V.int (f y)))=_;by_cases e:y=x
 ·subst e;rw [Ya rfl,show nZ f y h y=h from Ya rfl]
 ·rw [X6 (λz=>e (Sum.inl.inj z)),show nZ f x h y=f y from X6 e]
theorem Ez (h:∀ x∈ks,f x=g x):kF ks f=kF ks g:=by
 unfold kF;exact Zg λx hx=>by rw [h x hx]
structure zG (L:UF) (ks:UV) (f:Int->Int):Prop where
 nd:ks.Nodup
 rg:∀ x∈ks,0<=x/\x<L.length
 hu:∀ x∈ks,0<=f x/\f x<5
 ap:∀ x∈ks,∀ y∈tx L x,y∈ks->f y≠f x
def near (L:UF) (ks:UV) (v:Int):UV:=(tx L v).filter λz=>decide (z∈ks)
theorem jI:z∈near L ks v↔z∈tx L v/\z∈ks:=by unfold near;rw [zaR,zbQ]
def eR (ts:UV):UV:=(bX 5).filter λh=>!decide (h∈ts)
theorem mR:h∈eR ts↔(0<=h/\h<5)/\h∉ts:=by
 unfold eR;rw [zaR,bM];simp
section
variable {v:Int}
def cI (m:aB L) {x y:Int} (x0:0<=x) (x1:x<L.length) (h:y∈tx L x):0<=y/\y<L.length/\y≠x/\x∈tx L y:=Dt.back (d:=(x,y)) ⟨x0,x1,h⟩ m
theorem zG.add (h:zG L ks f) (m:aB L) (v0:0<=v) (v1:v<L.length) (hv:v∉ks) (hc:c∈eR ((near L ks v).map f)):zG L (ks++[v]) (nZ f v c):=by
 obtain ⟨c1,c2⟩:=mR.mp hc;have old:∀ x∈ks,nZ f v c x=f x:=λx hx=>X6 λ(z:x=v)=>hv (z▸hx);have new:nZ f v c v=c:=Ya rfl;have out:∀ y∈tx L v,y∈ks->f y≠c:=λy hy hk z=>c2 (Yc.mpr ⟨y,jI.mpr ⟨hy,hk⟩,z⟩);refine ⟨?_,λx hx=>?_,λx hx=>?_,λx hx y hy hk=>?_⟩
 ·exact YD.mpr ⟨h.nd,by simp,λa ha b hb z=>hv (by rw [<-X9.mp hb,<-z];exact ha)⟩
 ·rcases Ye.mp hx with z|z
  ·exact h.rg x z
  ·rw [X9.mp z];exact ⟨v0,v1⟩
 ·rcases Ye.mp hx with z|z
  ·rw [old x z];exact h.hu x z
  ·rw [X9.mp z,new];exact c1
 ·rcases Ye.mp hx with z|z
  ·rw [old x z];have xr:=h.rg x z;rcases Ye.mp hk with w|w
   ·rw [old y w];exact h.ap x z y hy w
   ·rw [X9.mp w,new];rw [X9.mp w] at hy;exact λe=>out x (cI m xr.1 xr.2 hy).2.2.2 z e.symm
  ·rw [X9.mp z] at hy ⊢;rw [new];have yb:=cI m v0 v1 hy;rcases Ye.mp hk with w|w
   ·rw [old y w];exact out y hy w
   ·exact absurd (X9.mp w) yb.2.2.1
structure Rl (L:UF) (ks:UV) (f:Int->Int) (a b:Int) (S:UV):Prop where
 sh:∀ x,x∈S↔(0<=x/\x<L.length)/\¬(x∈ks/\(f x=a\/f x=b))
def wd (L:UF) (ks:UV) (f:Int->Int) (a b:Int):UV:=(bX L.length).filter λx=>!decide (x∈ks/\(f x=a\/f x=b))
theorem vZ (a b:Int):Rl L ks f a b (wd L ks f a b):=⟨λx=>by unfold wd;rw [zaR,bM,Bool.not_eq_true',zaZ]⟩
def Cy (L:UF) (ks:UV) (f:Int->Int) (one other x:Int):Prop:=bO L (wd L ks f (f one) (f other)) one x
theorem Cy.in (m:aB L) (h:zG L ks f) (h1:one∈ks) (g:Cy L ks f one other x):x∈ks/\(f x=f one\/f x=f other):=by
 have rg:=bO.rg g m (h.rg one h1);cases g with
 | here=>exact ⟨h1,.inl rfl⟩
 | step _ _ _ hS=>
  refine Yd λz=>hS (((vZ _ _).sh _).mpr ⟨rg,z⟩)
theorem Cy.next (m:aB L) (h:zG L ks f) (h1:one∈ks) (g:Cy L ks f one other x) (hy:y∈tx L x) (hk:y∈ks) (hh:f y=f one\/f y=f other):Cy L ks f one other y:=by
 have rx:=bO.rg g m (h.rg one h1);have e:L[x.toNat]?=some (tx L x):=aE rx.1 rx.2;have ex:((x.toNat:Nat):Int)=x:=by omega
 exact bO.step (i:=x.toNat) (by rw [ex];exact g) e hy λz=>(((vZ _ _).sh _).mp z).2 ⟨hk,hh⟩
def hJ (f:Int->Int) (a b:Int) (G:UV):Int->Int:=λy=>if y∈G then a+b-f y else f y
theorem zG.turn (h:zG L ks f) (m:aB L) (h1:one∈ks) (h2:other∈ks) (hG:∀ x,x∈G↔Cy L ks f one other x):zG L ks (hJ f (f one) (f other) G):=by
 have qN:∀ x∈G,x∈ks/\(f x=f one\/f x=f other):=λx hx=>((hG x).mp hx).in m h h1;have LR:∀ x∈G,hJ f (f one) (f other) G x=f one+f other-f x:=λx hx=>Ya hx;have CZ:∀ x,x∉G->hJ f (f one) (f other) G x=f x:=λx hx=>X6 hx;refine ⟨h.nd,h.rg,λx hx=>?_,λx hx y hy hk=>?_⟩
 ·by_cases z:x∈G
  ·rw [LR x z];have a:=h.hu one h1;have b:=h.hu other h2;rcases (qN x z).2 with e|e<;>rw [e]<;>omega
  ·rw [CZ x z];exact h.hu x hx
 ·have ap:=h.ap x hx y hy hk;have rx:=h.rg x hx;by_cases zx:x∈G<;>by_cases zy:y∈G
  ·rw [LR x zx,LR y zy];omega
  ·rw [LR x zx,CZ y zy];intro e;refine zy ((hG y).mpr (((hG x).mp zx).next m h h1 hy hk ?_));rcases (qN x zx).2 with q|q
   ·right;omega
   ·left;omega
  ·rw [CZ x zx,LR y zy];intro e;refine zx ((hG x).mpr (((hG y).mp zy).next m h h1 (cI m rx.1 rx.2 hy).2.2.2 hx ?_));rcases (qN y zy).2 with q|q
   ·right;omega
   ·left;omega
  ·rw [CZ x zx,CZ y zy];exact ap
theorem sQ (h5:(near L ks v).length<=5) (nf:eR ((near L ks v).map f)=[]):((near L ks v).map f).Nodup/\(near L ks v).length=5:=by
 have all:∀ c:Int,0<=c->c<5->c∈(near L ks v).map f:=λc c0 c1=>Yd λz=>by
  have:c∈eR ((near L ks v).map f):=mR.mpr ⟨⟨c0,c1⟩,z⟩;rw [nf] at this;cases this
 refine ⟨uK (n:=5) (by rw [Pd];exact h5) λx x0 x1=>all x x0 ‹_›,?_⟩;have:=dh (l:=bX 5) (r:=(near L ks v).map f) (fb 5) λx hx=>by
  have:=bM.mp hx;exact all x this.1 (by omega)
 rw [Pd,b7] at this;omega
theorem l6 {l:UV} {f:Int->Int} (n:(l.map f).Nodup) {x y:Int} (hx:x∈l) (hy:y∈l) (e:f x=f y):x=y:=by
 obtain ⟨i,hi,rfl⟩:=Yv.mp hx;obtain ⟨j,hj,rfl⟩:=Yv.mp hy;have:i=j:=(Zp (h₀:=by rw [Pd];exact hi) (h₁:=by rw [Pd];exact hj) n).mp (by rw [zat,zat];exact e);subst this
 rfl
theorem zG.freed (h:zG L ks f) (m:aB L) (h5:(near L ks v).length<=5) (nf:eR ((near L ks v).map f)=[]) (h1:one∈near L ks v) (h2:other∈near L ks v)
  (hG:∀ x,x∈G↔Cy L ks f one other x) (no:other∉G):f one∈eR ((near L ks v).map (hJ f (f one) (f other) G)):=by
 have nd:=(sQ h5 nf).1;have k1:=(jI.mp h1).2;refine mR.mpr ⟨h.hu one k1,λz=>?_⟩;obtain ⟨y,hy,e⟩:=Yc.mp z;have oG:one∈G:=(hG one).mpr .here;by_cases yG:y∈G
 ·rw [show hJ f (f one) (f other) G y=f one+f other-f y from Ya yG] at e;have:f y=f other:=by omega
  have:=l6 nd hy h2 this;exact no (this▸yG)
 ·rw [show hJ f (f one) (f other) G y=f y from X6 yG] at e;have:=l6 nd hy h1 e;exact yG (this▸oG)
end
theorem bO.road (h:bO L S s x) (m:aB L) (hs:0<=s/\s<L.length) (v:Int) :
  ∃ p:UV,p.Nodup/\p≠[]/\lp v p 1=s/\lp v p p.length=x/\(∀ y∈p,bO L S s y)/\∀ i,1<=i->i<p.length->Dt L (lp v p i,lp v p (i+1)):=by
 induction h with
 | here=>exact ⟨[s],by simp,by simp,rfl,rfl,λy hy=>by rw [X9.mp hy];exact .here,λi h0 h1=>by simp at h1;omega⟩
 | @step i l x r e hx hS ih=>
  obtain ⟨p,nd,p0,ps,pe,all,ch⟩:=ih;have Xr:0<p.length:=Zz.mpr p0;by_cases hm:x∈p
  ·obtain ⟨k,hk,rfl⟩:=Yv.mp hm;have tl:(p.take (k+1)).length=k+1:=by rw [YW];omega
   have tk:∀ j,1<=j->j<=k+1->lp v (p.take (k+1)) j=lp v p j:=λj h0 h1=>by
    rw [jK h0 (by omega),jK h0 (by omega),getElem_take]
   refine ⟨p.take (k+1),nd.sublist (take_sublist _ _),λz=>by rw [z] at tl;simp at tl,by rw [tk 1 (ZG _) (TD _)];exact ps,?_,λy hy=>all y (zaB hy),λj h0 h1=>?_⟩
   ·rw [tl,tk _ (TD _) (ZG _),jK (TD _) ‹_›]
    rfl
   ·rw [tk j h0 (by omega),tk (j+1) (TD _) (by omega)];exact ch j h0 (by omega)
  ·have ad:∀ j,1<=j->j<=p.length->lp v (p++[x]) j=lp v p j:=λj h0 h1=>by
    rw [jK h0 (by simp;omega),jK h0 h1,getElem_append_left]
   have al:lp v (p++[x]) (p.length+1)=x:=by
    rw [jK (TD _) (by simp)];simp
   refine ⟨p++[x],?_,by simp,by rw [ad 1 (ZG _) ‹_›];exact ps,by rw [Yr,YX];exact al,λy hy=>?_,λj h0 h1=>?_⟩
   ·exact YD.mpr ⟨nd,by simp,λa ha b hb z=>hm (by rw [<-X9.mp hb,<-z];exact ha)⟩
   ·rcases Ye.mp hy with z|z
    ·exact all y z
    ·rw [X9.mp z];exact bO.step r e hx hS
   ·rw [Yr,YX] at h1;rw [ad j h0 (by omega)];by_cases z:j=p.length
    ·rw [z,al,pe];exact Reach.n6 e hx
    ·rw [ad (j+1) (TD _) (by omega)];exact ch j h0 (by omega)
theorem rK.ME {v:Int} (fl:rK L) (h:zG L ks f) (v0:0<=v) (v1:v<L.length) (hv:v∉ks) (h5:(near L ks v).length<=5) (nf:eR ((near L ks v).map f)=[])
  (all:∀ one∈near L ks v,∀ other∈near L ks v,Cy L ks f one other other):False:=by
 obtain ⟨nd,l5⟩:=sQ h5 nf
 match hn:near L ks v,l5 with
 | [m0,m1,m2,m3,m4],_=>
  have i0:m0∈near L ks v:=by rw [hn];simp
  have i1:m1∈near L ks v:=by rw [hn];simp
  have i2:m2∈near L ks v:=by rw [hn];simp
  have i3:m3∈near L ks v:=by rw [hn];simp
  have sub:[m0,m1,m2,m3].Sublist (tx L v):=by
   have s1:(near L ks v).Sublist (tx L v):=filter_sublist;rw [hn] at s1;exact (List.Sublist.cons₂ _ (List.Sublist.cons₂ _ (List.Sublist.cons₂ _ (List.Sublist.cons₂ _ (nil_sublist _))))).trans s1
  have g1:=all m0 i0 m2 i2;have g2:=all m1 i1 m3 i3;have k0:=(jI.mp i0).2;have k1:=(jI.mp i1).2;obtain ⟨p,np,p0,ps,pe,ap,cp⟩:=bO.road g1 fl.map (h.rg m0 k0) v;obtain ⟨q,nq,q0,qs,qe,aq,cq⟩:=bO.road g2 fl.map (h.rg m1 k1) v;rw [hn] at nd;simp only [Y8,map_nil,zaS,Za,YT,Zf,zbh] at nd;obtain ⟨⟨Wv,Wu,Wt,_⟩,⟨d12,d13,_⟩,⟨d23,_⟩,_⟩:=nd;have SA:∀ y∈p,y∈ks/\(f y=f m0\/f y=f m2):=λy hy=>Cy.in fl.map h k0 (ap y hy);have Sy:∀ y∈q,y∈ks/\(f y=f m1\/f y=f m3):=λy hy=>Cy.in fl.map h k1 (aq y hy);have MC:∀ {p:UV} {a b:Int},p≠[]->lp v p 1=a->lp v p p.length=b->a≠b->2<=p.length:=λ{p a b} h0 h1 h2 ne=>by
   have:=Zz.mpr h0;refine Yd λz=>?_;have e:p.length=1:=by omega
   rw [e] at h2;exact ne (h1.symm.trans h2)
  exact fl.IQ v0 v1 sub np nq (λz=>hv (SA v z).1) (λz=>hv (Sy v z).1)
   (λx hx hq=>by
    rcases (SA x hx).2 with e|e<;>rcases (Sy x hq).2 with e' | e'<;>rw [e] at e'
    ·exact Wv e'
    ·exact Wt e'
    ·exact d12 e'.symm
    ·exact d23 e')
   (MC p0 ps pe λz=>Wu (by rw [z])) (MC q0 qs qe λz=>d13 (by rw [z])) ps pe qs qe cp cq
theorem Cf {p q:Int->Bool} {l:UV} (h:∀ x∈l,p x=true->q x=true):(l.filter p).length<=(l.filter q).length:=by
 rw [<-zaY,<-zaY];exact countP_mono_left h
structure Off (L:UF) (os:UV):Prop where
 nd:os.Nodup
 rg:∀ x∈os,0<=x/\x<L.length
 IH:∀ (i:Nat) (x:Int),os[i]?=some x->((tx L x).filter λz=>!decide (z∈os.take i)).length<=5
theorem Off.nil:Off L []:=⟨nodup_nil,λx hx=>(nomatch hx),λi x e=>by simp at e⟩
theorem Off.add {L:UF} {os:UV} {x:Int} (h:Off L os) (x0:0<=x) (x1:x<L.length) (hx:x∉os) (h5:((tx L x).filter λz=>!decide (z∈os)).length<=5):Off L (os++[x]):=by
 refine ⟨YD.mpr ⟨h.nd,by simp,λa ha b hb z=>hx (by rw [<-X9.mp hb,<-z];exact ha)⟩,λy hy=>?_,λi y e=>?_⟩
 ·rcases Ye.mp hy with z|z
  ·exact h.rg y z
  ·rw [X9.mp z];exact ⟨x0,x1⟩
 ·by_cases hi:i<os.length
  ·rw [YL hi] at e;rw [take_append_of_le_length (ZJ ‹_›)];exact h.IH i y e
  ·have:i=os.length:=by
    have:=(X3.mp e).1;simp at this;omega
   subst this;have e:x=y:=by simpa using e
   subst e;rw [take_append_of_le_length (X7 _),Y6];exact h5
def Off.len {L:UF} {os:UV} (h:Off L os):os.length<=L.length:=cD h.nd h.rg
theorem Off.near {L:UF} {os:UV} (h:Off L os) (m:aB L) (hn:os.length=L.length) {i:Nat} {x:Int} (e:os.reverse[i]?=some x):x∉os.reverse.take i/\(0<=x/\x<L.length)/\(near L (os.reverse.take i) x).length<=5:=by
 have hi:i<os.length:=by have:=(X3.mp e).1;simpa using this
 rw [getElem?_reverse hi] at e;have hx:x∈os:=Yb e;have rg:=h.rg x hx;have tk:os.reverse.take i=(os.drop (os.length-i)).reverse:=by rw [take_reverse]
 have sp:os=os.take (os.length-1-i)++x::os.drop (os.length-i):=by
  have he:=X3.mp e;obtain ⟨h1,h2⟩:=he;have:os.drop (os.length-1-i)=x::os.drop (os.length-i):=by
   rw [ZH h1,h2]
   congr 2
   omega
  rw [<-this,Z6]
 have nd:=h.nd;rw [sp] at nd;obtain ⟨n1,n2,n3⟩:=YD.mp nd;have n4:=(Yp.mp n2);refine ⟨by rw [tk,mem_reverse];exact n4.1,rg,?_⟩;have:=h.IH _ x e;refine Y2 (Cf λz hz hk=>?_) this;have hk:=ZX hk;rw [tk,mem_reverse] at hk;rw [Bool.not_eq_true',zaZ];exact λy=>n3 z y z (X8 _ hk) rfl
theorem Gk {f:Int->Int} {x:Int} (inj:∀ a∈l,∀ b∈l,f a=f b->a=b) (hx:x∈l):pre (l.map f) (f x)=f (pre l x):=by
 have idx:∀ (l:UV),(∀ a∈l,∀ b∈l,f a=f b->a=b)->x∈l->(l.map f).idxOf (f x)=l.idxOf x:=by
  intro l
  induction l with
  | nil=>intro _ h;cases h
  | cons y l ih=>
   intro inj hx;rw [Y8,zaJ,zaJ];by_cases e:y=x
   ·subst e;simp
   ·have:f y≠f x:=λz=>e (inj y Yg x hx z);have b1:(f y==f x)=false:=by simpa using this
    have b2:(y==x)=false:=by simpa using e
    rw [b1,b2];have ow:x∈l:=(Yk.mp hx).resolve_left λz=>e z.symm;rw [ih (λa ha b hb=>inj a (X8 _ ha) b (X8 _ hb)) ow]
 have hl:0<l.length:=ZW hx;unfold pre;rw [idx l inj hx,Pd];unfold cy;rw [Pd];have hj:=Y5 (l.idxOf x+l.length-1) hl;rw [Yn,Yn,Yj,X4 hj]
 rfl
theorem zE.tx (h:zE A l R) {j:Int} (j0:0<=j) (j1:j<A.length) (n:oA A.length l):tx R (fK l j)=(tx A j).map (fK l):=by
 have r:=n.L7 j0 j1;have:=h.row j j0 j1;unfold Gm.tx;rw [Yn,this]
 rfl
def CC (l:UV) (d:aw):aw:=(fK l d.1,fK l d.2)
theorem zE.dt (h:zE A l R) (n:oA A.length l) (m:aB A) (hd:Dt A d):Dt R (CC l d):=by
 have r:=n.L7 hd.lo hd.hi;refine ⟨r.1,by rw [h.len];exact r.2,?_⟩;show fK l d.2∈Gm.tx R (fK l d.1);rw [h.tx hd.lo hd.hi n];exact Yc.mpr ⟨d.2,hd.mem,rfl⟩
theorem zE.sS (h:zE A l R) (n:oA A.length l) (he:Dt R e):∃ d,Dt A d/\CC l d=e:=by
 have h1:=he.hi;rw [h.len] at h1;obtain ⟨j,j0,j1,ej⟩:=n.qW he.lo h1;have hm:=he.mem;rw [<-ej,h.tx j0 j1 n] at hm;obtain ⟨y,hy,ey⟩:=Yc.mp hm;exact ⟨(j,y),⟨j0,j1,hy⟩,Zl ej ey⟩
theorem zE.nx (h:zE A l R) (n:oA A.length l) (m:aB A) (hd:Dt A d):nx R (CC l d)=CC l (Gm.nx A d):=by
 obtain ⟨b0,b1,b2,b3⟩:=hd.back m;unfold Gm.nx CC;dsimp only;rw [h.tx b0 b1 n,Gk (λa ha b hb e=>?_) b3];have ra:=cI m b0 b1 ha;have rb:=cI m b0 b1 hb;exact n.inj ra.1 ra.2.1 rb.1 rb.2.1 e
theorem AD (n:oA A.length l) (m:aB A) (hd:Dt A d) (he:Dt A e) (q:CC l d=CC l e):d=e:=by
 obtain ⟨b0,b1,_⟩:=hd.back m;obtain ⟨c0,c1,_⟩:=he.back m;exact Zl (n.inj hd.lo hd.hi he.lo he.hi (Yt Prod.fst q)) (n.inj b0 b1 c0 c1 (Yt Prod.snd q))
theorem Reach.HS (h:zE A l R) (n:oA A.length l) (m:aB A) (r:Reach A s x):Reach R (fK l s) (fK l x):=by
 induction r with
 | here=>exact .here
 | step r e hx ih=>
  rename_i i r' x;exact Reach.one (d:=(fK l (i:Int),fK l x)) ih (h.dt n m (Reach.n6 e hx))
end Gm
namespace L2
open PySem PySem.Spec PySem.W PySem.Calls PyProof.Rows Gm Fr
section
variable {σ:St} {H:Hp} {Q:VK} {K:Frag}
def An (h:td σ H λx H1=>∃ a,x=.ref a/\NS H1 a/\ty σ H1 λy H2=>∃ o,cP H2 a y o/\Q (o.getD .dO) H2):C7 td ty σ H Q:=h
def F9 (h:tl σ H λx H1=>∃ a kvs,x=.ref a/\H1 a=some (.dK kvs)/\∀ o,R (LJ a o kvs) (upd H1 a (.fN o (.dK kvs)))):Ip tl σ H R:=h
def MH (h:H a=some (.dK kvs)):NS H a:=.inl ⟨kvs,.inl h⟩
theorem Mb (h:SqT K H p [.int a,.int b]) (q:Q (.bl (!decide (x=some a\/x=some b))) H):Lk K true ((x.map V.int).getD .dO) (.ref p) H Q:=by
 refine ⟨p,_,rfl,.inr h,?_,by simp [kH],?_⟩
 ·cases x<;>rfl
 ·rw [Ya rfl];have e:Lr ((x.map V.int).getD .dO) [.int a,.int b]=decide (x=some a\/x=some b):=by
   cases x with
   | none=>simp [Lr,zt]
   | some y=>
    show (zt (.int a) (.int y) || (zt (.int b) (.int y) || false))=_;by_cases h1:y=a
    ·subst h1;simp [zt]
    ·by_cases h2:y=b
     ·subst h2;simp [zt]
     ·have:¬a=y:=λz=>h1 z.symm;have:¬b=y:=λz=>h2 z.symm;simp [zt, *]
  rw [e];exact q
end
end L2
namespace Gm
open PySem L2
theorem zL (ks:UV) (f:Int->Int) (x:Int):(fH (kF ks f) (.inl x)).isSome=decide (x∈ks):=by
 rw [Bv];by_cases h:x∈ks
 ·rw [Ya h,YC h];rfl
 ·rw [X6 h,Yw h];rfl
theorem jk (h:x∈ks):fH (kF ks f) (.inl x)=some (.int (f x)):=by rw [Bv,Ya h]
theorem CS (ks:UV) (f:Int->Int) (x:Int):fH (kF ks f) (.inl x)=(if x∈ks then some (f x) else none).map V.int:=by
 rw [Bv];split<;>rfl
theorem eI {p:Int->Bool} {r:UV} {j:Nat} {y:Int} (hy:r[j]?=some y):(r.take (j+1)).filter p=(r.take j).filter p++if p y=true then [y] else []:=by
 rw [zay,hy,Zx]
 congr 1
 cases h:p y<;>simp [h]
theorem Off.more {L:UF} {os:UV} (h:Off L os) (hl:os.length<L.length):∃ x:Int,0<=x/\x<L.length/\x∉os:=by
 refine Yd λno=>?_;have:=dh (l:=bX L.length) (r:=os) (fb _) λx hx=>Yd λz=>no ⟨x,(bM.mp hx).1,(bM.mp hx).2,z⟩;rw [b7] at this;omega
theorem yR {l:UV} (n:l.Nodup) {i:Nat} {x:Int} (h:l[i]?=some x):x∉l.take i:=λz=>by
 obtain ⟨j,hj,e⟩:=List.mem_take_iff_getElem.mp z;obtain ⟨hi,e2⟩:=X3.mp h;have:=(Zp n).mp (e.trans e2.symm);omega
theorem xI (l:UV):(l.filter λz=>!decide (z∈([]:UV)))=l:=List.filter_eq_self.mpr λa _=>by simp
def lK (m:aB L) {i:Nat} (h:L[i]?=some r):r.length<=L.length:=cD (m.nd _ _ h) λy hy=>⟨(m.rg _ _ h y hy).1,(m.rg _ _ h y hy).2.1⟩
theorem ph (nd:l.Nodup) (hz:z∈l) (hn:n∉l) (hy:y∈l) (ne:y≠z):pre (put l (l.idxOf z) n) y=pre l y:=by
 have Lo:(put l (l.idxOf z) n).Nodup:=sG hn nd;have my:y∈put l (l.idxOf z) n:=iP.mpr (.inr hy);have mz:z∈put l (l.idxOf z) n:=iP.mpr (.inr hz);have mn:n∈put l (l.idxOf z) n:=iP.mpr (.inl rfl);have yn:y≠n:=λe=>hn (e▸hy);have h:=j6 Lo my mn yn;rw [fY hn] at h;have:pre (put l (l.idxOf z) n) y≠n:=λe=>ne (ur Lo my mz (e.trans (fU hz hn).symm));rw [X6 this] at h;exact h.symm
theorem bF.place (s:bF L) (g:Good L r) (nd:(sh 0 r).Nodup) {cs:List Nat} (inc:cs.Pairwise (·<·)) (lt:∀ c∈cs,c<r.length) (un:(cs.map (cy r)).Nodup) :
  ∀ k,1<=k->k<=cs.length->∃ M c1 cj,Pl L r c1 cj (cs.take k) M/\cs[k-1]?=some cj/\∀ c∈cs.take k,tx M (cy r c)=put (tx L (cy r c)) ((tx L (cy r c)).idxOf (cy r (c+(r.length-1)))) L.length:=by
 intro k
 induction k with
 | zero=>intro h;omega
 | succ k ih=>
  intro _ hk;obtain ⟨c,hc⟩:∃ c,cs[k]?=some c:=⟨cs[k],X4 ‹_›⟩;have M9:=lt c (Yb hc);obtain ⟨zm,x0,x1,ed⟩:=dF g s.map (c:=c);have tk:cs.take (k+1)=cs.take k++[c]:=by rw [zay,hc];rfl
  rw [tk];by_cases k0:k=0
  ·subst k0;obtain ⟨F,pl⟩:=Pl.first s g nd M9
   refine ⟨_,c,c,pl,by simpa using hc,λe he=>?_⟩;have e1:e=c:=by simpa using he
   subst e1;rw [F.row x0,X6 (by omega),Ya rfl]
  ·obtain ⟨M,c1,cj,pl,VT,rows⟩:=ih (by omega) (ZJ ‹_›);have lt':cj<c:=by
    obtain ⟨q1,w1⟩:=X3.mp VT;obtain ⟨q2,w2⟩:=X3.mp hc;have:=YS.mp inc (k-1) k q1 q2 (by omega);rw [w1,w2] at this;exact this
   have RD:∀ e∈cs.take k,cy r e≠cy r c:=λe he z=>by
    have:=iN (A:=[]) (B:=cs.map (cy r)) (j:=k) (x:=cy r c) (by simpa using un) (by rw [Yj,hc];rfl);refine this ?_;rw [nil_append,<-map_take,<-z];exact Yc.mpr ⟨e,he,rfl⟩
   obtain ⟨F,Uo⟩:=pl.next s g nd lt' M9 RD
   refine ⟨_,c1,c,Uo,by rw [ZP];exact hc,λe he=>?_⟩;rcases Ye.mp he with h|h
   ·obtain ⟨_,y0,y1,_⟩:=dF g s.map (c:=e);rw [F.row y0,X6 (by omega),X6 (RD e h),rows e h]
   ·have e1:e=c:=by simpa using h
    subst e1;rw [F.row x0,X6 (by omega),Ya rfl]
structure ON (L:UF) (r:UV) (cs:List Nat) (M:UF):Prop where
 bS:bF M
 len:M.length=L.length+1
 new:tx M (L.length:Int)=cs.map (cy r)
 sub:∀ d,Dt L d->Dt M d
 keep:∀ x:Int,0<=x->x<L.length->(∀ c∈cs,cy r c≠x)->tx M x=tx L x
 Fu:∀ d,Dt L d->(∀ c∈cs,d≠dj r (c+(r.length-1)))->nx M d=nx L d
theorem bF.put (s:bF L) (g:Good L r) (nd:(sh 0 r).Nodup) (c0:cs≠[]) (inc:cs.Pairwise (·<·)) (lt:∀ c∈cs,c<r.length) (un:(cs.map (cy r)).Nodup):∃ M,ON L r cs M:=by
 obtain ⟨M,c1,cj,pl,_,rows⟩:=s.place g nd inc lt un cs.length (Zz.mpr c0) (X7 _);rw [Y6] at pl rows;refine ⟨M,pl.sh,pl.len,pl.new,pl.sub,pl.keep,λd hd ne=>?_⟩;obtain ⟨b0,b1,b2,b3⟩:=hd.back s.map;unfold nx;by_cases h:∃ c∈cs,cy r c=d.2
 ·obtain ⟨c,hc,e⟩:=h;obtain ⟨zm,x0,x1,ed⟩:=dF g s.map (c:=c);rw [e] at zm x0 x1 ed;have L6:=rows c hc;rw [e] at L6;rw [L6,ph (s.map.nd _ _ (aE b0 b1)) zm (kX s.map b0 b1) b3 λz=>ne c hc ?_];rw [ed,<-z]
 ·rw [pl.keep d.2 b0 b1 λc hc e=>h ⟨c,hc,e⟩]
theorem ON.good (p:ON L r cs M) (gq:Good L q) (off:∀ j c,dj q j≠dj r c):Good M q:=
 ⟨gq.two,λj=>p.sub _ (gq.dt j),λj=>by rw [p.Fu _ (gq.dt j) λc _=>off j _];exact gq.st j⟩
def qJ (L:UF):Prop:=∀ a b x y:Int,0<=x->x<L.length->0<=y->y<L.length->x≠a->x≠b->y≠a->y≠b->bO L [a,b] x y
theorem bO.gJ (h:bO L S s x) (hs:s∉S):x∉S:=by
 cases h with
 | here=>exact hs
 | step _ _ _ h=>exact h
theorem sd (m:aB L) (D:Dec L R) (hc:c∈R) (j:Nat):dj (c.map (·.1)) j∈c:=by
 obtain ⟨g,hs,_⟩:=D.good m hc;have:dj (c.map (·.1)) j∈sh 0 (c.map (·.1)):=(bu (by have:=g.two;exact ZJ ‹_›)).mpr ⟨j,rfl⟩;rw [hs] at this;exact this
theorem cE (h:x∈r):∃ i,i<r.length/\cy r i=x:=by
 obtain ⟨i,hi,e⟩:=Yv.mp h;exact ⟨i,hi,by rw [eO hi];exact e⟩
theorem qJ.meet (t:qJ L) (s:bF L) (sm:mr L) (D:Dec L R) (h1:c1∈R) (h2:c2∈R) (ne:c1≠c2) (ab:a≠b)
  (a1:a∈c1.map (·.1)) (b1:b∈c1.map (·.1)) (a2:a∈c2.map (·.1)) (b2:b∈c2.map (·.1)):(a,b)∈c1\/(b,a)∈c1:=by
 refine Yd λno=>?_;have JT:(a,b)∉c1:=λz=>no (.inl z);have BP:(b,a)∉c1:=λz=>no (.inr z);have im:=s.map;obtain ⟨g1,s1,n1⟩:=D.good im h1;obtain ⟨g2,s2,n2⟩:=D.good im h2;have Od:(c1.map (·.1)).Nodup:=sm.ring g1 (by rw [s1];exact n1);have UE:(c2.map (·.1)).Nodup:=sm.ring g2 (by rw [s2];exact n2);have in1:=sd im D h1;have SE:=sd im D h2;have off:∀ i j,dj (c2.map (·.1)) i≠dj (c1.map (·.1)) j:=λi j e=>ne (iq D.nd h1 h2 (in1 j) (by rw [<-e];exact SE i));have RN:(sh 0 (c1.map (·.1))).Nodup:=by rw [s1];exact n1
 have RM:(sh 0 (c2.map (·.1))).Nodup:=by rw [s2];exact n2
 generalize c1.map (·.1)=r1 at g1 Od a1 b1 in1 off RN;generalize c2.map (·.1)=r2 at g2 UE a2 b2 SE off RM;have tw1:=g1.two;obtain ⟨i,hi,ea⟩:=cE a1;obtain ⟨j,hj,eb⟩:=cE b1;have ij:i≠j:=λz=>ab (by rw [<-ea,<-eb,z]);obtain ⟨k,k0,k1,ek⟩:∃ k,0<k/\k<r1.length/\cy r1 (i+k)=b:=by
  by_cases z:i<j
  ·exact ⟨j-i,by omega,by omega,by rw [show i+(j-i)=j by omega];exact eb⟩
  ·exact ⟨j+r1.length-i,by omega,by omega,by rw [show i+(j+r1.length-i)=j+r1.length by omega,bD (Yq _ _)];exact eb⟩
 have d1:=in1 i;have d2:=in1 (i+k);have e1:dj r1 i=(a,cy r1 (i+1)):=by unfold dj;rw [ea]
 have e2:dj r1 (i+k)=(b,cy r1 (i+k+1)):=by unfold dj;rw [ek]
 rw [e1] at d1;rw [e2] at d2;have pb:cy r1 (i+1)≠b:=λz=>JT (by rw [<-z];exact d1);have qa:cy r1 (i+k+1)≠a:=λz=>BP (by rw [<-z];exact d2);have k2:2<=k:=by
  refine Yd λz=>pb ?_;have:k=1:=by omega
  rw [this] at ek;exact ek
 have k3:k+1<r1.length:=by
  refine Yd λz=>qa ?_;have:i+k+1=i+r1.length:=by omega
  rw [this,bD (Yq _ _)];exact ea
 have pa:cy r1 (i+1)≠a:=λz=>cO Od (i:=i) (j:=i+1) (ZG _) (by omega) (ea.trans z.symm);have qb:cy r1 (i+k+1)≠b:=λz=>cO Od (i:=i+k) (j:=i+k+1) (ZG _) (by omega) (ek.trans z.symm);have pq:cy r1 (i+1)≠cy r1 (i+k+1):=cO Od (by omega) (by omega);have RT:=g1.dt (i+1);have RS:=g1.dt (i+k+1)
 -- a place in mE first land
 have gr:=g1.cU hi;have rl:(cU r1 i).length=r1.length:=cV (ZJ ‹_›);have Ww:∀ m,cy (cU r1 i) m=cy r1 (m+i):=λm=>gV hi m;have u9:[0,1,k,k+1].map (cy (cU r1 i))=[a,cy r1 (i+1),b,cy r1 (i+k+1)]:=by
  simp only [Y8,map_nil,Ww];rw [show 0+i=i by omega,ea,show 1+i=i+1 by omega,show k+i=i+k by omega,ek,show k+1+i=i+k+1 by omega]
 obtain ⟨M,pM⟩:=s.put gr (by rw [yw hi];exact (fR r1 i).nodup_iff.mpr RN) (cs:=[0,1,k,k+1]) (by simp) (by simp;omega) (by rw [rl];simp;omega)
  (by rw [u9];simp [YU pa,ab,YU qa,pb,pq,YU qb])
 have Wb:Good M r2:=pM.good g2 λj c=>by rw [qE hi];exact off j _
 -- a place in mE second land
 obtain ⟨i2,FA,QT⟩:=cE a2;obtain ⟨j2,GS,QS⟩:=cE b2;have XA:i2≠j2:=λz=>ab (by rw [<-QT,<-QS,z]);obtain ⟨qO,WB,WA,Wz,Q0⟩:∃ qO:List Nat,qO≠[]/\qO.Pairwise (·<·)/\(∀ c∈qO,c<r2.length)/\(qO.map (cy r2)=[a,b]\/qO.map (cy r2)=[b,a]):=by
  by_cases z:i2<j2
  ·exact ⟨[i2,j2],by simp,by simp [z],by simp;omega,.inl (by simp [QT,QS])⟩
  ·exact ⟨[j2,i2],by simp,by simp;omega,by simp;omega,.inr (by simp [QT,QS])⟩
 have Wy:(qO.map (cy r2)).Nodup:=by rcases Q0 with z|z<;>rw [z]<;>simp [ab,YU ab]
 obtain ⟨N,pN⟩:=pM.bS.put Wb RM WB WA Wz Wy;have Ml:=pM.len;have Nl:=pN.len;have ar:0<=a/\a<L.length:=by have:=g1.dt i;rw [e1] at this;exact ⟨this.lo,this.hi⟩
 have br:0<=b/\b<L.length:=by have:=g1.dt (i+k);rw [e2] at this;exact ⟨this.lo,this.hi⟩
 have pr:0<=cy r1 (i+1)/\cy r1 (i+1)<L.length:=⟨RT.lo,RT.hi⟩;have qr:0<=cy r1 (i+k+1)/\cy r1 (i+k+1)<L.length:=⟨RS.lo,RS.hi⟩;generalize cy r1 (i+1)=p at *;generalize cy r1 (i+k+1)=q at *;have rv:tx N (L.length:Int)=[a,p,b,q]:=by
  rw [pN.keep (L.length:Int) (Tk _) (by omega) λc hc z=>?_,pM.new,u9];have:cy r2 c∈qO.map (cy r2):=Yc.mpr ⟨c,hc,rfl⟩;rw [z] at this;rcases Q0 with w|w<;>(rw [w] at this;simp at this;omega)
 have sg:∀ x,x=a\/x=b->Dt N ((M.length:Int),x)/\Dt N (x,(M.length:Int)):=λx hx=>by
  have:Dt N ((M.length:Int),x):=⟨Tk _,by omega,by
   show x∈tx N (M.length:Int);rw [pN.new];rcases Q0 with w|w<;>rw [w]<;>simp [hx,Or.comm]⟩
  obtain ⟨c0,WG,_,c3⟩:=this.back pN.bS.map;exact ⟨this,c0,WG,c3⟩
 have up:∀ d,Dt L d->Dt N d:=λd hd=>pN.sub _ (pM.sub _ hd);obtain ⟨u,nu,u0,us,ue,au,cu⟩:=bO.road (t a b p q pr.1 pr.2 qr.1 qr.2 pa pb qa qb) im pr (L.length:Int);have Sx:∀ y∈u,(0<=y/\y<L.length)/\y≠a/\y≠b:=λy hy=>by
  have h:=au y hy;have h2:=h.gJ (by simp [pa,pb]);simp at h2;exact ⟨h.rg im pr,h2⟩
 have lu:2<=u.length:=by
  have:=Zz.mpr u0;refine Yd λz=>?_;have e:u.length=1:=by omega
  rw [e] at ue;exact pq (us.symm.trans ue)
 refine pN.bS.Pn.IQ (v:=(L.length:Int)) (n0:=a) (n1:=p) (n2:=b) (n3:=q) (Tk _) (by omega) (by rw [rv];exact .refl _) (p:=[a,(M.length:Int),b]) (q:=u) ?_ nu ?_ ?_ ?_ (by simp) lu rfl rfl us ue ?_ λi h0 h1=>up _ (cu i h0 h1)
 ·simp [ab];omega
 ·simp;omega
 ·intro z;have:=(Sx _ z).1;omega
 ·intro x hx hu;have:=Sx x hu;simp at hx;rcases hx with z|z|z
  ·exact this.2.1 z
  ·omega
  ·exact this.2.2 z
 ·intro i h0 h1;simp at h1;have:i=1\/i=2:=by omega
  rcases this with rfl|rfl
  ·exact (sg a (.inl rfl)).2
  ·exact (sg b (.inr rfl)).1
theorem bO.up (h:∀ d,Dt L d->Dt M d) (r:bO L S s x):bO M S s x:=by
 induction r with
 | here=>exact .here
 | step r e hx hS ih=>
  have d:=h _ (Reach.n6 e hx);have:=aE d.lo d.hi;exact bO.step ih (by simpa using this) d.mem hS
theorem bO.trans (h:bO L S s x) (k:bO L S x y):bO L S s y:=by
 induction k with
 | here=>exact h
 | step _ e hx hS ih=>exact .step ih e hx hS
theorem bO.one (h:Dt L d) (hS:d.2∉S):bO L S d.1 d.2:=by
 have e:=aE h.lo h.hi;have ex:((d.1.toNat:Nat):Int)=d.1:=Z1 h.lo;refine bO.step (i:=d.1.toNat) (by rw [ex];exact .here) e h.mem hS
theorem qJ.up (t:qJ L) (hl:M.length=L.length) (h:∀ d,Dt L d->Dt M d):qJ M:=λa b x y x0 x1 y0 y1 xa xb ya yb=>
 (t a b x y x0 (by omega) y0 (by omega) xa xb ya yb).up h
theorem LS {l:UV} (n:l.Nodup) (h3:3<=l.length) (a b:Int):∃ z∈l,z≠a/\z≠b:=by
 refine Yd λno=>?_;have:=dh (l:=l) (r:=[a,b]) n λx hx=>by
  by_cases e:x=a
  ·simp [e]
  ·by_cases e2:x=b
   ·simp [e2]
   ·exact absurd ⟨x,hx,e,e2⟩ no
 simp at this;omega
theorem qJ.more (t:qJ L) (m:aB M) (hl:M.length=L.length+1) (h:∀ d,Dt L d->Dt M d) (h3:3<=(tx M (L.length:Int)).length):qJ M:=by
 intro a b x y x0 x1 y0 y1 xa xb ya yb;have n0:(0:Int)<=(L.length:Int):=Tk _
 have n1:(L.length:Int)<M.length:=by omega
 obtain ⟨z,hz,za,zb⟩:=LS (m.nd _ _ (aE n0 n1)) h3 a b;obtain ⟨z0,z1,z2,z3⟩:=cI m n0 n1 hz;have zl:z<L.length:=by omega
 have up:∀ u w:Int,0<=u->u<L.length->0<=w->w<L.length->u≠a->u≠b->w≠a->w≠b->bO M [a,b] u w:=λu w u0 u1 w0 w1 ua ub wa wb=>(t a b u w u0 u1 w0 w1 ua ub wa wb).up h;by_cases ex:x=(L.length:Int)
 ·by_cases ey:y=(L.length:Int)
  ·rw [ex,ey];exact .here
  ·have s1:bO M [a,b] x z:=by
    rw [ex];exact bO.one (d:=((L.length:Int),z)) ⟨n0,n1,hz⟩ (by simp [za,zb])
   exact s1.trans (up z y z0 zl y0 (by omega) za zb ya yb)
 ·by_cases ey:y=(L.length:Int)
  ·refine (up x z x0 (by omega) z0 zl xa xb za zb).trans ?_;rw [ey];rw [ey] at ya yb;exact bO.one (d:=(z,(L.length:Int))) ⟨z0,z1,z3⟩ (by simp [ya,yb])
  ·exact up x y x0 (by omega) y0 (by omega) xa xb ya yb
theorem qJ.rD (t:qJ L) (m:aB L) (h4:4<=L.length) {x:Int} (x0:0<=x) (x1:x<L.length):3<=(tx L x).length:=by
 refine Yd λno=>?_;obtain ⟨a,b,xt⟩:∃ a b:Int,∀ z∈tx L x,z=a\/z=b:=by
  match hr:tx L x with
  | []=>exact ⟨0,0,λz hz=>by cases hz⟩
  | [u]=>exact ⟨u,u,λz hz=>.inl (X9.mp hz)⟩
  | [u,w]=>exact ⟨u,w,λz hz=>by simpa using hz⟩
  | u::w::v::l=>rw [hr] at no;simp at no
 have xn:∀ z∈tx L x,z≠x:=λz hz=>(cI m x0 x1 hz).2.2.1
 -- OJ place Q4 x,a,b
 have ⟨y,hy,ya,yb,yx⟩:∃ y:Int,(0<=y/\y<L.length)/\y≠a/\y≠b/\y≠x:=by
  refine Yd λBP=>?_;have:=dh (l:=bX L.length) (r:=[a,b,x]) (fb _) λz hz=>by
   have hz:=bM.mp hz;by_cases e1:z=a
   ·simp [e1]
   ·by_cases e2:z=b
    ·simp [e2]
    ·by_cases e3:z=x
     ·simp [e3]
     ·exact absurd ⟨z,hz,e1,e2,e3⟩ BP
  rw [b7] at this;simp at this;omega
 by_cases hx:x=a\/x=b
 ·-- then x has at most one BQ,OZ parts it
  obtain ⟨c,hc⟩:∃ c:Int,∀ z∈tx L x,z=c:=by
   rcases hx with e|e
   ·exact ⟨b,λz hz=>(xt z hz).resolve_left λw=>xn z hz (w.trans e.symm)⟩
   ·exact ⟨a,λz hz=>(xt z hz).resolve_right λw=>xn z hz (w.trans e.symm)⟩
  have ⟨w,hw,wc,wx⟩:∃ w:Int,(0<=w/\w<L.length)/\w≠c/\w≠x:=by
   refine Yd λBP=>?_;have:=dh (l:=bX L.length) (r:=[c,x]) (fb _) λz hz=>by
    have hz:=bM.mp hz;by_cases e1:z=c
    ·simp [e1]
    ·by_cases e3:z=x
     ·simp [e3]
     ·exact absurd ⟨z,hz,e1,e3⟩ BP
   rw [b7] at this;simp at this;omega
  have cx:x≠c:=λe=>by
   have h:=t y y x w x0 x1 hw.1 hw.2 (YU yx) (YU yx);have only:∀ u,bO L [y,y] x u->u=x:=λu hu=>by
    induction hu with
    | here=>rfl
    | @step i l u' _ e' ow _ ih=>
     have:tx L x=l:=by rw [<-ih];exact bE e'
     rw [<-this] at ow;exact absurd ((hc _ ow).trans e.symm) (xn _ ow)
   by_cases wy:w=y
   ·obtain ⟨v,hv,vy,vx⟩:∃ v:Int,(0<=v/\v<L.length)/\v≠y/\v≠x:=by
     refine Yd λBP=>?_;have:=dh (l:=bX L.length) (r:=[y,x]) (fb _) λz hz=>by
      have hz:=bM.mp hz;by_cases e1:z=y
      ·simp [e1]
      ·by_cases e3:z=x
       ·simp [e3]
       ·exact absurd ⟨z,hz,e1,e3⟩ BP
     rw [b7] at this;simp at this;omega
    exact vx (only v (t y y x v x0 x1 hv.1 hv.2 (YU yx) (YU yx) vy vy))
   ·exact wx (only w (h wy wy))
  have h:=t c c x w x0 x1 hw.1 hw.2 cx cx wc wc;have only:∀ u,bO L [c,c] x u->u=x:=λu hu=>by
   induction hu with
   | here=>rfl
   | @step i l u' _ e' ow hS ih=>
    have:tx L x=l:=by rw [<-ih];exact bE e'
    rw [<-this] at ow;exact absurd (by simp [hc _ ow]) hS
  exact wx (only w h)
 ·have xa:x≠a:=λe=>hx (.inl e);have xb:x≠b:=λe=>hx (.inr e);have h:=t a b x y x0 x1 hy.1 hy.2 xa xb ya yb;have only:∀ u,bO L [a,b] x u->u=x:=λu hu=>by
   induction hu with
   | here=>rfl
   | @step i l u' _ e' ow hS ih=>
    have:tx L x=l:=by rw [<-ih];exact bE e'
    rw [<-this] at ow;exact absurd (by simpa using xt _ ow) hS
  exact yx (only y h)
theorem Gi (n:l.Nodup) (ha:a∈l) (hz:z∈l) (ne:a≠z) (h1:pre l a=z) (h2:pre l z=a):l.length<=2:=by
 have ia:=zan.mpr ha;have iz:=zan.mpr hz;have at_:∀ {x:Int},x∈l->l.idxOf (pre l x)=if l.idxOf x=0 then l.length-1 else l.idxOf x-1:=λ{x} hx=>by
  have hi:=zan.mpr hx;unfold pre cy;rw [md hi];have hj:(if l.idxOf x=0 then l.length-1 else l.idxOf x-1)<l.length:=by split<;>omega
  rw [Yn,X4 hj,zbo];exact EC n hj
 have e1:=at_ ha;have e2:=at_ hz;rw [h1] at e1;rw [h2] at e2;split at e1<;>split at e2<;>omega
def uZ {c:List aw} {d:aw} (h:d∈c):d.1∈c.map (·.1):=Yc.mpr ⟨d,h,rfl⟩
def tR (D:Dec L R) (hc:c∈R) (h:d∈c):d.2∈c.map (·.1):=Yc.mpr ⟨nx L d,(D.ir c hc).on h,rfl⟩
theorem qJ.one (t:qJ L) (s:bF L) (sm:mr L) (h4:4<=L.length) (D:Dec L R) (h1:c1∈R) (h2:c2∈R) (ne:c1≠c2) (d1:d∈c1) (e1:e∈c1) (d2:(d.2,d.1)∈c2) (e2:(e.2,e.1)∈c2):d=e:=by
 refine Yd λde=>?_;have im:=s.map;have Oe:∀ {c:List aw},c∈R->(c.map (·.1)).Nodup:=λ{c} hc=>by
  obtain ⟨g,hs,n⟩:=D.good im hc;exact sm.ring g (by rw [hs];exact n)
 have inD:∀ {c:List aw} {x:aw},c∈R->x∈c->Dt L x:=λhc hx=>(D.mem _).mp (YI.mpr ⟨_,hc,hx⟩);have only:∀ {x:aw},x∈c1->x∈c2->False:=λha hb=>ne (iq D.nd h1 h2 ha hb);have Uz:∀ {c:List aw} {a b:Int},c∈R->(a,b)∈c->(b,a)∉c:=λhc ha=>sm.apart s (ZJ ‹_›) D (inD hc ha) hc ha;obtain ⟨a,b⟩:=d;have ab:a≠b:=λz=>((inD h1 d1).back im).2.2.1 z.symm;have a1:=uZ d1;have b1:=tR D h1 d1;have b2:=uZ d2;have a2:=tR D h2 d2;obtain ⟨z,z1,z2,za,zb⟩:∃ z,z∈c1.map (·.1)/\z∈c2.map (·.1)/\z≠a/\z≠b:=by
  by_cases q1:e.1=a\/e.1=b
  ·by_cases q2:e.2=a\/e.2=b
   ·exfalso;have en:e.1≠e.2:=λw=>((inD h1 e1).back im).2.2.1 w.symm;rcases q1 with q1|q1<;>rcases q2 with q2|q2
    ·exact en (q1.trans q2.symm)
    ·exact de (Zl q1.symm q2.symm)
    ·have:e=(b,a):=Zl q1 q2;rw [this] at e1;exact Uz h1 d1 e1
    ·exact en (q1.trans q2.symm)
   ·exact ⟨e.2,tR D h1 e1,uZ e2,λw=>q2 (.inl w),λw=>q2 (.inr w)⟩
  ·exact ⟨e.1,uZ e1,tR D h2 e2,λw=>q1 (.inl w),λw=>q1 (.inr w)⟩
 have fi:∀ {x y:aw},x∈c1->y∈c1->x.1=y.1->x=y:=λhx hy=>fV (Oe h1) hx hy;have si:∀ {x y:aw},x∈c1->y∈c1->x.2=y.2->x=y:=λ{x y} hx hy w=>eF im (inD h1 hx) (inD h1 hy) (fV (Oe h1) ((D.ir c1 h1).on hx) ((D.ir c1 h1).on hy) w);have k1:(z,a)∈c1:=by
  rcases t.meet s sm D h1 h2 ne (YU za) a1 z1 a2 z2 with w|w
  ·exact absurd (Yt Prod.snd (fi w d1 rfl)) zb
  ·exact w
 have k2:(b,z)∈c1:=by
  rcases t.meet s sm D h1 h2 ne (YU zb) b1 z1 b2 z2 with w|w
  ·exact w
  ·exact absurd (Yt Prod.fst (si w d1 rfl)) za
 have k3:(z,b)∈c2:=by
  rcases t.meet s sm D h2 h1 (YU ne) (YU zb) b2 z2 b1 z1 with w|w
  ·exact (only k2 w).elim
  ·exact w
 have e3:nx L (a,b)=(b,z):=fV (Oe h1) ((D.ir c1 h1).on d1) k2 rfl;have e4:nx L (z,b)=(b,a):=fV (Oe h2) ((D.ir c2 h2).on k3) d2 rfl;obtain ⟨b0,bl,_,ba⟩:=(inD h1 d1).back im;have bz:z∈tx L b:=(inD h1 k2).mem;have:=Gi (im.nd _ _ (aE b0 bl)) ba bz (YU za) (Yt Prod.snd e3) (Yt Prod.snd e4);have:=t.rD im h4 b0 bl;omega
structure eP (L R:UF):Prop where
 good:∀ r∈R,Good L r
 nd:(R.flatMap (sh 0)).Nodup
 all:∀ d,Dt L d->d∈R.flatMap (sh 0)
def Bq.O9 (h:Bq L R):eP L R:=⟨h.good,h.nd,h.all⟩
theorem eP.dec (h:eP L R):Dec L (R.map (sh 0)):=by
 have e:(R.map (sh 0)).flatten=R.flatMap (sh 0):=rfl;refine ⟨λc hc=>?_,by rw [e];exact h.nd,λd=>?_⟩
 ·obtain ⟨r,hr,rfl⟩:=Yc.mp hc;exact (h.good r hr).ir
 ·rw [e];constructor
  ·intro z;obtain ⟨r,hr,hd⟩:=YF.mp z;obtain ⟨j,rfl⟩:=(bu (by have:=(h.good r hr).two;exact ZJ ‹_›)).mp hd;exact (h.good r hr).dt j
  ·exact h.all d
theorem pU (ld:eP L R) (hd:Dt L d):0<=lo R d/\lo R d<R.length:=by
 obtain ⟨r,hr,hm⟩:=YF.mp (ld.all d hd);obtain ⟨i,hi⟩:=YB.mp hr;rw [Es ld.nd hi hm];have:=(X3.mp hi).1;omega
def oU (ld:eP L R) (hr:r∈R):(sh 0 r).Nodup:=(ZD.mp ld.dec.nd).1 _ (Yc.mpr ⟨r,hr,rfl⟩)
theorem Dec.O9 (m:aB L) (D:Dec L (R.map (sh 0))):eP L R:=by
 have e:(R.map (sh 0)).flatten=R.flatMap (sh 0):=rfl;refine ⟨λr hr=>?_,by rw [<-e];exact D.nd,λd hd=>by rw [<-e];exact (D.mem d).mpr hd⟩;have:=(D.good m (Yc.mpr ⟨r,hr,rfl⟩)).1;have fst:(sh 0 r).map (·.1)=r:=by
  unfold sh;rw [zaE];refine zbu (by simp) λi h1 h2=>?_;simp only [zat,getElem_range,Function.comp];show cy r (i+0)=_;rw [ZR,eO h2]
 rwa [fst] at this
theorem Kj {l:UV} (n:l.Nodup) (h0:0<l.length) (m:Nat):l.idxOf (cy l m)=m%l.length:=by
 have hm:=Y5 m h0;unfold cy;rw [Yn,X4 hm,zbo];exact EC n hm
theorem fJ (n:l.Nodup) (h0:0<l.length) (m:Nat):pre l (cy l (m+1))=cy l m:=by
 unfold pre;rw [Kj n h0];refine bD ?_;rw [show (m+1)%l.length+l.length-1=(m+1)%l.length+(l.length-1) by omega,zaP,show m+1+(l.length-1)=m+l.length by omega,Yq]
theorem qF (f:Int->Int) (h0:0<l.length) (m:Nat):cy (l.map f) m=f (cy l m):=by
 have hm:=Y5 m h0;unfold cy;rw [Pd,Yn,Yn,Yj,X4 hm]
 rfl
abbrev Du (R:UF):UF:=R.map (wK R 0)
def dl (R:UF) (d:aw):aw:=(lo R d,lo R (d.2,d.1))
theorem iU (ld:eP L R) (hd:Dt L d):∃ (i:Nat) (r:UV) (j:Nat),R[i]?=some r/\j<r.length/\d=dj r j/\lo R d=i:=by
 obtain ⟨r,hr,hm⟩:=YF.mp (ld.all d hd);obtain ⟨i,hi⟩:=YB.mp hr;obtain ⟨k,hk,e⟩:=Yv.mp hm;rw [dG] at hk;have:=se (s:=0) hk;rw [X4 (by rw [dG];exact hk),e] at this;exact ⟨i,r,k,hi,hk,Yf this,Es ld.nd hi hm⟩
def F0 (ld:eP L R) (hr:r∈R):(sh 0 r).Nodup:=(ZD.mp ld.dec.nd).1 _ (Yc.mpr ⟨r,hr,rfl⟩)
theorem jL (ld:eP L R) {i:Nat} (hr:R[i]?=some r) (j:Nat):lo R (dj r j)=i:=by
 have g:=ld.good r (Yb hr);exact Es ld.nd hr ((bu (by have:=g.two;exact ZJ ‹_›)).mpr ⟨j,rfl⟩)
theorem Er (ld:eP L R) (hd:Dt L d):lo R (nx L d)=lo R d:=by
 obtain ⟨i,r,j,hr,hj,rfl,e⟩:=iU ld hd;rw [(ld.good r (Yb hr)).st,jL ld hr,e]
theorem qB {i:Nat} (hr:R[i]?=some r):tx (Du R) (i:Int)=wK R 0 r:=bE (by rw [Yj,hr];rfl)
def eZ:(Du R).length=R.length:=Pd _
theorem uL (g:Good L r):x∈wK R 0 r↔∃ j,x=lo R ((dj r j).2,(dj r j).1):=by
 unfold wK;rw [mem_map];constructor
 ·rintro ⟨d,hd,rfl⟩;obtain ⟨j,rfl⟩:=(bu (by have:=g.two;exact ZJ ‹_›)).mp hd;exact ⟨j,rfl⟩
 ·rintro ⟨j,rfl⟩;exact ⟨dj r j,(bu (by have:=g.two;exact ZJ ‹_›)).mpr ⟨j,rfl⟩,rfl⟩
theorem xM (ld:eP L R) (im:aB L) (hd:Dt L d):Dt (Du R) (dl R d):=by
 obtain ⟨i,r,j,hr,hj,rfl,e⟩:=iU ld hd;have rg:=pU ld hd;refine ⟨rg.1,by rw [eZ];exact rg.2,?_⟩;show lo R _∈tx (Du R) (lo R (dj r j));rw [e,qB hr];exact (uL (ld.good r (Yb hr))).mpr ⟨j,rfl⟩
theorem IM (ld:eP L R) (he:Dt (Du R) e):∃ d,Dt L d/\dl R d=e:=by
 have h1:=he.hi;rw [eZ] at h1;have h0:=he.lo;obtain ⟨i,hi⟩:=Ys h0;have il:i<R.length:=by omega
 have hr:R[i]?=some R[i]:=X4 il;have hm:=he.mem;rw [hi] at hm;have Fz:e.2∈wK R 0 R[i]:=by rw [<-qB hr];exact hm
 have g:=ld.good R[i] (Zu il);obtain ⟨j,ej⟩:=(uL g).mp Fz;exact ⟨dj R[i] j,g.dt j,Zl ((jL ld hr j).trans hi.symm) ej.symm⟩
theorem EX (ld:eP L R) (ko:Cz (Du R)) (hd:Dt L d) (he:Dt L e) (q:dl R d=dl R e):d=e:=by
 obtain ⟨i,r,j,hr,hj,rfl,e1⟩:=iU ld hd;obtain ⟨i',r',j',yh,SX,rfl,e2⟩:=iU ld he;have q1:lo R (dj r j)=lo R (dj r' j'):=Yt Prod.fst q;have q2:lo R ((dj r j).2,(dj r j).1)=lo R ((dj r' j').2,(dj r' j').1):=Yt Prod.snd q;rw [e1,e2] at q1;have ii:i=i':=by omega
 subst ii;rw [hr] at yh;cases yh
 have nd:=(ko i _ (by rw [Yj,hr];rfl)).2;have a1:=pG (R:=R) (s:=0) hj;have a2:=pG (R:=R) (s:=0) SX;rw [ZR] at a1 a2;rw [q2,<-a2] at a1;have l1:j<(wK R 0 r).length:=by rw [ff];exact hj
 have l2:j'<(wK R 0 r).length:=by rw [ff];exact SX
 rw [X4 l1,X4 l2] at a1;have:=(Zp nd).mp (Yf a1);rw [this]
theorem zv (ld:eP L R) (im:aB L) (ko:Cz (Du R)):aB (Du R):=by
 refine jN λx x0 x1=>?_;obtain ⟨i,rfl⟩:=Ys x0;have il:i<R.length:=by rw [eZ] at x1;omega
 have hr:R[i]?=some R[i]:=X4 il;obtain ⟨f1,f2⟩:=ko i (wK R 0 R[i]) (by rw [Yj,hr];rfl);rw [qB hr];refine ⟨f2,λy hy=>?_⟩;have g:=ld.good R[i] (Zu il);obtain ⟨j,ej⟩:=(uL g).mp hy;have bk:=Bn im (g.dt j);have rg:=pU ld bk;rw [<-ej] at rg;refine ⟨rg.1,by rw [eZ];exact rg.2,λz=>f1 (z▸hy),?_⟩;have:=(xM ld im bk).mem;show (i:Int)∈tx (Du R) y;rw [ej,<-jL ld hr j];exact this
theorem Nw (ld:eP L R) (im:aB L) (ko:Cz (Du R)) (he:Dt L e):nx (Du R) (dl R ((nx L e).2,(nx L e).1))=dl R e:=by
 obtain ⟨i,r,j,hr,hj,rfl,e1⟩:=iU ld he;have g:=ld.good r (Yb hr);have r0:0<r.length:=by have:=g.two;exact ZJ ‹_›
 rw [g.st];have s:∀ d:aw,dl R (d.2,d.1)=(lo R (d.2,d.1),lo R d):=λd=>rfl;rw [s];unfold nx;dsimp only;rw [jL ld hr,qB hr];have nd:=(ko i _ (by rw [Yj,hr];rfl)).2;have c1:=D0 (R:=R) (s:=0) r0 (j+1);rw [ZR] at c1;rw [<-c1,fJ nd (by rw [ff];exact r0),D0 r0,ZR];unfold dl;rw [jL ld hr]
def rd (L R:UF) (b:Int):UV:=(tx L b).map λx=>lo R (x,b)
theorem Ak (ld:eP L R) (im:aB L) {b:Int} (b0:0<=b) (b1:b<L.length) (h0:0<(tx L b).length) (m:Nat):dj (rd L R b) m=dl R (cy (tx L b) m,b):=by
 have nd:=im.nd _ _ (aE b0 b1);have mem:=dR (j:=m+1) h0;have bk:=cI im b0 b1 mem;have dt:Dt L (cy (tx L b) (m+1),b):=⟨bk.1,bk.2.1,bk.2.2.2⟩;have e1:nx L (cy (tx L b) (m+1),b)=(b,cy (tx L b) m):=Zl rfl (fJ nd h0 m);have e2:=Er ld dt;rw [e1] at e2;unfold dj rd dl;rw [qF _ h0,qF _ h0,<-e2]
theorem F2 (ld:eP L R) (im:aB L) (ko:Cz (Du R)) {b:Int} (b0:0<=b) (b1:b<L.length) (h2:2<=(tx L b).length):Good (Du R) (rd L R b):=by
 have h0:0<(tx L b).length:=ZJ ‹_›
 have nd:=im.nd _ _ (aE b0 b1);have dt:∀ m,Dt L (cy (tx L b) m,b):=λm=>by
  have bk:=cI im b0 b1 (dR (j:=m) h0);exact ⟨bk.1,bk.2.1,bk.2.2.2⟩
 refine ⟨by unfold rd;rw [Pd];exact h2,λm=>by rw [Ak ld im b0 b1 h0];exact xM ld im (dt m),λm=>?_⟩;rw [Ak ld im b0 b1 h0,Ak ld im b0 b1 h0];have e1:nx L (cy (tx L b) (m+1),b)=(b,cy (tx L b) m):=Zl rfl (fJ nd h0 m);have:=Nw ld im ko (dt (m+1));rw [e1] at this;exact this
theorem Good.along (gr:Good L r) (gq:Good L q) (h:dj r i=dj q j) (m:Nat):dj r (i+m)=dj q (j+m):=by
 induction m with
 | zero=>exact h
 | succ m ih=>rw [<-zbq,<-zbq,<-gr.st,<-gq.st,ih]
structure qM (L R:UF):Prop where
 im:aB L
 ld:eP L R
 ko:Cz (Du R)
 two:∀ x:Int,0<=x->x<L.length->2<=(tx L x).length
theorem qM.dt (D:qM L R) {b:Int} (b0:0<=b) (b1:b<L.length) (m:Nat):Dt L (cy (tx L b) m,b):=by
 have h0:0<(tx L b).length:=by have:=D.two b b0 b1;exact ZJ ‹_›
 obtain ⟨x0,x1,_,x3⟩:=Dt.back (d:=(b,cy (tx L b) m)) ⟨b0,b1,dR h0⟩ D.im;exact ⟨x0,x1,x3⟩
theorem qM.eJ (D:qM L R):(Gm.eJ (Du R) (Du R).length).length=(Gm.eJ L L.length).length:=by
 have dm:=zv D.ld D.im D.ko;have:=len_eq (l:=(Gm.eJ L L.length).map (dl R)) (r:=Gm.eJ (Du R) (Du R).length) (ZC.mpr ((bJ D.im (X7 _)).imp_of_mem λ{a b} ha hb ne q=>ne (EX D.ld D.ko (Dt.of ha) (Dt.of hb) q))) (bJ dm (X7 _)) λe=>by
  constructor
  ·intro h;obtain ⟨d,hd,rfl⟩:=Yc.mp h;exact (xM D.ld D.im (Dt.of hd)).all
  ·intro h;obtain ⟨d,hd,rfl⟩:=IM D.ld (Dt.of h);exact Yc.mpr ⟨d,hd.all,rfl⟩
 rw [Pd] at this;exact this.symm
theorem qM.iso (D:qM L R):Gm.iso (Du R)=0:=by
 unfold Gm.iso;refine zbD.mpr λl hl=>?_;obtain ⟨r,hr,rfl⟩:=Yc.mp hl;have g:=(D.ld.good r hr).two;have hl:=ff R 0 r;intro z;have z:wK R 0 r=[]:=by simpa using z
 rw [z] at hl;simp at hl;omega
theorem qM.nW (D:qM L R) (hL:zH L) (h0:0<L.length):zH (Du R):=by
 have dm:=zv D.ld D.im D.ko
 -- from any land at a place all lands at all places are WC to
 have step:∀ {d:aw},Dt L d->Reach (Du R) (lo R d) (lo R (d.2,d.1)):=λ{d} hd=>Reach.one (d:=dl R d) .here (xM D.ld D.im hd);have round:∀ {b:Int},0<=b->b<L.length->∀ m,Reach (Du R) (lo R (cy (tx L b) 0,b)) (lo R (cy (tx L b) m,b)):=λ{b} b0 b1 m=>by
  induction m with
  | zero=>exact .here
  | succ m ih=>
   have h0:0<(tx L b).length:=by have:=D.two b b0 b1;exact ZJ ‹_›
   have e1:nx L (cy (tx L b) (m+1),b)=(b,cy (tx L b) m):=Zl rfl (fJ (D.im.nd _ _ (aE b0 b1)) h0 m);have e2:=Er D.ld (D.dt b0 b1 (m+1));rw [e1] at e2;rw [<-e2];exact ih.trans (step (D.dt b0 b1 m))
 have at_:∀ {b x:Int},0<=b->b<L.length->x∈tx L b->Reach (Du R) (lo R (cy (tx L b) 0,b)) (lo R (x,b)):=λ{b x} b0 b1 hx=>by
  obtain ⟨i,hi,e⟩:=cE hx;have:=round b0 b1 i;rw [e] at this;exact this
 have s0:(0:Int)<L.length:=by omega
 have all:∀ b:Int,Reach L 0 b->Reach (Du R) (lo R (cy (tx L 0) 0,0)) (lo R (cy (tx L b) 0,b)):=λb rb=>by
  induction rb with
  | here=>exact .here
  | @step i l x r e hx ih=>
   have d:=Reach.n6 e hx;have bk:=d.back D.im;have hm:x∈tx L (i:Int):=d.mem
   -- to mE way from x to i,Q9,and round x
   have r1:=ih.trans (at_ d.lo d.hi hm);have r2:=r1.trans (step (d:=(x,(i:Int))) ⟨bk.1,bk.2.1,bk.2.2.2⟩);have r3:=at_ bk.1 bk.2.1 bk.2.2.2;exact r2.trans (r3.sym dm (by have:=pU D.ld (D.dt bk.1 bk.2.1 0);rw [eZ];exact this))
 refine zH.of dm (s:=lo R (cy (tx L 0) 0,0)) (pU D.ld (D.dt (Tk _) s0 0)).1 (by rw [eZ];exact (pU D.ld (D.dt (Tk _) s0 0)).2) λx x0 x1=>?_;rw [eZ] at x1;obtain ⟨k,rfl⟩:=Ys x0;have hq:R[k]?=some R[k]:=X4 (by omega);have g:=D.ld.good R[k] (Zu (by omega));have dt:=g.dt 0;obtain ⟨c0,c1,_,c3⟩:=dt.back D.im;have:=(all (dj R[k] 0).2 (hL _ c0 c1)).trans (at_ c0 c1 c3);rw [show ((dj R[k] 0).1,(dj R[k] 0).2)=dj R[k] 0 from rfl,jL D.ld hq] at this;exact this
theorem qJ.ko (t:qJ L) (s:bF L) (sm:mr L) (h4:4<=L.length) (ld:eP L R):Cz (Du R):=by
 have im:=s.map;have D:=ld.dec;intro k l hl;rw [Yj] at hl;cases hr:R[k]? with
 | none=>rw [hr] at hl;cases hl
 | some r=>
  rw [hr] at hl;cases hl
  have rm:=Yb hr;have g:=ld.good r rm;have r0:0<r.length:=by have:=g.two;exact ZJ ‹_›
  have cm:sh 0 r∈R.map (sh 0):=Yc.mpr ⟨r,rm,rfl⟩;have on:∀ j,dj r j∈sh 0 r:=λj=>(bu r0).mpr ⟨j,rfl⟩
  -- mE land beyond a way
  have land:∀ j,∃ r',r'∈R/\∃ i:Nat,R[i]?=some r'/\lo R ((dj r j).2,(dj r j).1)=i/\((dj r j).2,(dj r j).1)∈sh 0 r':=λj=>by
   obtain ⟨i,r',m,yh,hm,e,el⟩:=iU ld (Bn im (g.dt j));have g':=ld.good r' (Yb yh);exact ⟨r',Yb yh,i,yh,el,by rw [e];exact (bu (by have:=g'.two;exact ZJ ‹_›)).mpr ⟨m,rfl⟩⟩
  have apart:∀ j,((dj r j).2,(dj r j).1)∉sh 0 r:=λj=>sm.apart s (ZJ ‹_›) D (a:=(dj r j).1) (b:=(dj r j).2) (g.dt j) cm (on j);constructor
  ·intro z;obtain ⟨j,ej⟩:=(uL g).mp z;obtain ⟨r',_,i,hi,el,hm⟩:=land j;rw [<-ej] at el;have:i=k:=by omega
   subst this;rw [hr] at hi;cases hi
   exact apart j hm
  ·refine YS.mpr λi j hi hj Kt z=>?_;rw [ff] at hi hj;have a1:=pG (R:=R) (s:=0) hi;have a2:=pG (R:=R) (s:=0) hj;rw [ZR] at a1 a2;rw [X4 (by rw [ff];exact hi)] at a1;rw [X4 (by rw [ff];exact hj)] at a2;rw [Yf a1,Yf a2] at z;obtain ⟨r1,m1,k1,h1,l1,o1⟩:=land i;obtain ⟨r2,m2,k2,h2,l2,o2⟩:=land j;rw [z,l2] at l1;have:k1=k2:=by omega
   subst this;rw [h1] at h2;cases h2
   have ne:sh 0 r≠sh 0 r1:=λw=>apart i (by rw [w];exact o1);have:=t.one s sm h4 D cm (Yc.mpr ⟨r1,m1,rfl⟩) ne (on i) (on j) o1 o2;exact jR (Gm.F0 ld rm) Kt (by omega) this
end Gm
namespace Gm
theorem dD.pre (h:dD l m) (n:m.Nodup) (hy:y∈m):pre l y=pre m y:=by
 rcases h with rfl|⟨c,hc,rfl⟩
 ·rfl
 ·have n2:(cU m c).Nodup:=(dD.perm (.inr ⟨c,hc,rfl⟩)).nodup_iff.mpr n;have h0:0<m.length:=by omega
  have l2:(cU m c).length=m.length:=(dD.perm (.inr ⟨c,hc,rfl⟩)).length_eq;have Vc:y∈cU m c:=(dD.perm (.inr ⟨c,hc,rfl⟩)).mem_iff.mpr hy;obtain ⟨i,hi,e⟩:=cE Vc;have e2:cy (cU m c) (i+(m.length-1)+1)=y:=by
   rw [<-e];exact bD (by rw [l2,show i+(m.length-1)+1=i+m.length by omega,Yq])
  rw [<-e2,fJ n2 (by omega),gV hc,gV hc,show i+(m.length-1)+1+c=(i+(m.length-1)+c)+1 by omega,fJ n h0]
theorem ck.OG (h:ck L M) (k:Dt L d):Dt M d:=⟨k.lo,by rw [<-h.1];exact k.hi,(h.mem k.lo k.hi).mp k.mem⟩
theorem ck.nx (h:ck L M) (m:aB M) (k:Dt M d):nx L d=Gm.nx M d:=by
 obtain ⟨b0,b1,_,bm⟩:=k.back m;unfold Gm.nx;rw [(h.row b0 (by rw [h.1];exact b1)).pre (m.nd _ _ (aE b0 b1)) bm]
def ck.dec (h:ck L M) (m:aB M) (D:Dec M R):Dec L R:=
 ⟨λc hc=>(D.ir c hc).keep λd hd=>h.nx m ((D.mem d).mp (YI.mpr ⟨c,hc,hd⟩)),D.nd,λd=>(D.mem d).trans ⟨λk=>h.dt k,λk=>h.OG k⟩⟩
theorem ck.mj (h:ck L M) (m:aB M) (s:mr M):mr L:=λd hd=>by
 obtain ⟨c,h1,h2,h3⟩:=s d (h.OG hd);refine ⟨c,h1,h2.keep λe he=>h.nx m ?_,h3⟩;exact h2.all h1 (h.OG hd) (λe _ k=>k.nx m) e he
def ck.zN (h:ck L M) (t:qJ M):qJ L:=t.up h.1 λd k=>h.dt k
theorem ck.iso (h:ck L M):iso L=Gm.iso M:=by
 obtain ⟨hl,h⟩:=h;unfold Gm.iso
 induction L generalizing M with
 | nil=>cases M with
  | nil=>rfl
  | cons _ _=>simp at hl
 | cons l L ih=>cases M with
  | nil=>simp at hl
  | cons m M=>
   rw [countP_cons,countP_cons,ih (by simpa using hl) λi l m h1 h2=>h (i+1) l m (by simpa using h1) (by simpa using h2)];have:=(h 0 l m rfl rfl).len;have e:l.isEmpty=m.isEmpty:=by
    cases l<;>cases m<;>simp at this ⊢
   rw [e]
theorem ck.bS (h:ck L M) (s:bF M):bF L:=by
 have mL:=h.gv s.map;refine ⟨mL,by rw [h.1];exact s.two,λx x0 x1=>?_,?_⟩
 ·obtain ⟨k,hk,r⟩:=s.span x x0 (by rw [<-h.1];exact x1);exact ⟨k,hk,r.mono λd k=>h.dt k⟩
 ·obtain ⟨R,D,e⟩:=s.E7;refine ⟨R,h.dec s.map D,?_⟩;have e1:=cM mL;have e2:=cM s.map;have e3:(eJ L L.length).length=(eJ M M.length).length:=by
   refine Nat.le_antisymm (dh (bJ mL (X7 _)) λd hd=>?_) (dh (bJ s.map (X7 _)) λd hd=>?_)
   ·obtain ⟨h0,h1,h2⟩:=j8.mp hd;exact (h.OG ⟨h0,h1,h2⟩).all
   ·obtain ⟨h0,h1,h2⟩:=j8.mp hd;exact (h.dt ⟨h0,h1,h2⟩).all
  rw [h.1,h.iso,e];rw [h.1] at e1 e3;omega
theorem bF.lands (s:bF L) (h4:4<=L.length) (ld:eP L R):R.length+4<=2*L.length/\(L.length:Int)+R.length=(eX L L.length).length+2:=by
 obtain ⟨R0,D,ch⟩:=s.E7;have c:=ld.dec.count D;rw [Pd] at c;have f:=kZ λc hc=>s.three (ZJ ‹_›) D hc;rw [D.len s.map] at f;have i:=s.Kh;have d:=cM s.map;omega
theorem qJ.Ts (t:qJ L) (s:bF L) (sm:mr L) (h4:4<=L.length) (ld:eP L R):qM L R:=
 ⟨s.map,ld,t.ko s sm h4 ld,λx x0 x1=>by have:=t.rD s.map h4 x0 x1;exact ZJ ‹_›⟩
end Gm
namespace Gm
open PySem L2
theorem qM.Aj (D:qM L R) {b:Int} (b0:0<=b) (b1:b<L.length):sh 0 (rd L R b)=(tx L b).map λx=>dl R (x,b):=by
 have h0:0<(tx L b).length:=by have:=D.two b b0 b1;exact ZJ ‹_›
 refine zbE λj=>?_;by_cases hj:j<(tx L b).length
 ·rw [se (by unfold rd;rw [Pd];exact hj),Yj,X4 hj,ZR,Ak D.ld D.im b0 b1 h0,eO hj]
  rfl
 ·rw [ZI (by rw [dG];unfold rd;rw [Pd];omega),ZI (by rw [Pd];omega)]
theorem qM.flat (D:qM L R):∀ k,k<=L.length->(((List.range k).map λb:Nat=>sh 0 (rd L R (b:Int)))).flatten=(Gm.eJ L k).map λd=>dl R (d.2,d.1)
 | 0,_=>rfl
 | k+1,h=>by
  rw [Z9,Yl,ZM,D.flat k (ZJ ‹_›),Gm.eJ,Yl,zaE]
  congr 1
  rw [zam,zaj,D.Aj (Tk _) (by omega)]
  rfl
theorem qM.dec (D:qM L R):Dec (Du R) ((List.range L.length).map λb:Nat=>sh 0 (rd L R (b:Int))):=by
 refine ⟨λc hc=>?_,?_,λd=>?_⟩
 ·obtain ⟨b,hb,rfl⟩:=Yc.mp hc;have hb:=YO.mp hb;exact (F2 D.ld D.im D.ko (Tk _) (by omega) (D.two b (Tk _) (by omega))).ir
 ·rw [D.flat _ (X7 _)];refine ZC.mpr ((bJ D.im (X7 _)).imp_of_mem λ{x y} hx hy ne q=>ne ?_);have bx:=Dt.back (Dt.of hx) D.im;have Hg:=Dt.back (Dt.of hy) D.im;have:=EX D.ld D.ko (d:=(x.2,x.1)) (e:=(y.2,y.1)) ⟨bx.1,bx.2.1,bx.2.2.2⟩ ⟨Hg.1,Hg.2.1,Hg.2.2.2⟩ q;exact Zl (Yt Prod.snd this) (Yt Prod.fst this)
 ·rw [D.flat _ (X7 _)];constructor
  ·intro h;obtain ⟨x,hx,rfl⟩:=Yc.mp h;have bx:=Dt.back (Dt.of hx) D.im;exact xM D.ld D.im ⟨bx.1,bx.2.1,bx.2.2.2⟩
  ·intro h;obtain ⟨x,hx,rfl⟩:=IM D.ld h;have bx:=Dt.back hx D.im;exact Yc.mpr ⟨(x.2,x.1),(show Dt L (x.2,x.1) from ⟨bx.1,bx.2.1,bx.2.2.2⟩).all,rfl⟩
theorem qM.bS (D:qM L R) (s:bF L) (h2:2<=R.length):bF (Du R):=by
 have nW:zH L:=λx x0 x1=>by
  obtain ⟨t,ht,r⟩:=s.span x x0 x1;rw [X9.mp ht] at r;exact r
 have two:=s.two;have hg:=D.nW nW (ZJ ‹_›);have dm:=zv D.ld D.im D.ko;refine ⟨dm,by rw [eZ];exact h2,λx x0 x1=>⟨0,by simp,hg x x0 x1⟩,_,D.dec,?_⟩;obtain ⟨Q,DQ,ch⟩:=s.E7;have c:=DQ.count D.ld.dec;rw [Pd] at c;have e1:=cM dm;have e2:=cM D.im;have e3:=D.eJ;have i0:=s.Kh;have l1:((List.range L.length).map λb:Nat=>sh 0 (rd L R (b:Int))).length=L.length:=by rw [Pd,zaw]
 have l2:=eZ (R:=R);rw [l1,D.iso,l2];rw [l2] at e1 e3;omega
section
variable {a b:Int}
theorem bO.bk (m:aB L) (h:bO L S s x) (hs:s∉S) (r:0<=s/\s<L.length):bO L S x s:=by
 induction h with
 | here=>exact .here
 | @step i l x h1 h2 h3 h4 ih=>
  have rx:=m.rg i l h2 x h3;obtain ⟨xn,rfl⟩:=Ys rx.1;have hx:xn<L.length:=by omega
  have h5:=m.sy i l h2 _ h3 xn rfl _ (X4 hx);exact bO.trans (bO.step (i:=xn) .here (X4 hx) h5 (bO.gJ h1 hs)) ih
theorem bO.wk (m:aB L) (h:∀ z:Int,0<=z->z<L.length->z∈S'->z∈S) (r:bO L S s x):bO L S' s x:=by
 induction r with
 | here=>exact .here
 | step _ h1 h2 h3 ih=>exact .step ih h1 h2 λz=>h3 (h _ (m.rg _ _ h1 _ h2).1 (m.rg _ _ h1 _ h2).2.1 z)
theorem mN {r:UV} (g:Good L r) {S:UV} {i:Nat}:∀ k,(∀ t,1<=t->t<=k+1->cy r (i+t)∉S)->bO L S (cy r (i+1)) (cy r (i+(k+1)))
 | 0,_=>.here
 | k+1,h=>by
  have ih:=mN g (i:=i) k λt h1 h2=>h t h1 (by omega);exact ih.trans (bO.one (d:=dj r (i+(k+1))) (g.dt _) (h (k+2) (TD _) (ZG _)))
theorem E3 (m:aB L) (D:Dec L R) (hc:c∈R) (hd:d∈c):∃ i,d=dj (c.map (·.1)) i:=by
 obtain ⟨g,s,n⟩:=D.good m hc;rw [<-s] at hd;exact (bu (by have:=g.two;exact ZJ ‹_›)).mp hd
theorem ly (m:aB L) (sm:mr L) (D:Dec L R) (hc:c∈R) (h1:(x,a)∈c) (h2:(y,a)∈c):x=y:=by
 obtain ⟨g,s,n⟩:=D.good m hc;have nd:=sm.ring g (by rw [s];exact n);have d1:=(D.mem _).mp (YI.mpr ⟨c,hc,h1⟩);have d2:=(D.mem _).mp (YI.mpr ⟨c,hc,h2⟩);have e:=fV nd ((D.ir c hc).on h1) ((D.ir c hc).on h2) rfl;exact Yt Prod.fst (eF m d1 d2 e)
theorem xS (m:aB L) (sm:mr L) (D:Dec L R) (hc:c∈R) (h1:(x,a)∈c) (nb:b∉c.map (·.1)):bO L [a,b] (pre (tx L a) x) x:=by
 obtain ⟨g,s,n⟩:=D.good m hc;have nd:=sm.ring g (by rw [s];exact n);obtain ⟨i,hi⟩:=E3 m D hc h1;have st:=g.st i;generalize c.map (·.1)=r at g nd hi st nb;have two:=g.two;have ex:cy r i=x:=(Yt Prod.fst hi).symm;have ea:cy r (i+1)=a:=(Yt Prod.snd hi).symm;rw [<-hi] at st;have ey:cy r (i+2)=pre (tx L a) x:=(Yt Prod.snd st).symm;have p:=mN g (S:=[a,b]) (i:=i+1) (r.length-2) λt t1 t2 z=>by
  simp only [Za,YT,Zf] at z;rcases z with z|z
  ·exact cO nd (i:=i+1) (j:=i+1+t) (by omega) (by omega) (ea.trans z.symm)
  ·exact nb (z▸dR (ZJ ‹_›))
 rw [show i+1+(r.length-2+1)=i+r.length by omega,bD (Yq i _),ex,show i+1+1=i+2 by omega,ey] at p;exact p
def xX (R:List (List aw)):Prop:=∀ c1∈R,∀ c2∈R,c1≠c2->∀ a b:Int,a≠b->a∈c1.map (·.1)->b∈c1.map (·.1)->a∈c2.map (·.1)->b∈c2.map (·.1)->(a,b)∈c1\/(b,a)∈c1
theorem qH (m:aB L) (a0:0<=a) (a1:a<L.length) {S:UV} (h0:0<(tx L a).length) {i:Nat}:∀ k,(∀ t,t<k->bO L S (cy (tx L a) (i+t)) (cy (tx L a) (i+t+1)))->bO L S (cy (tx L a) i) (cy (tx L a) (i+k))
 | 0,_=>.here
 | k+1,h=>(qH m a0 a1 h0 (i:=i) k λt ht=>h t (ZK ‹_›)).trans (h k (ZG _))
theorem JU (m:aB L) (sm:mr L) (D:Dec L R) (mp:xX R) (ab:a≠b) (a0:0<=a) (a1:a<L.length) (hx:x∈tx L a) (hy:y∈tx L a) (xb:x≠b) (yb:y≠b):bO L [a,b] x y:=by
 have nd:=m.nd _ _ (aE a0 a1);have Sb:∀ {z:Int},z∈tx L a->(z∉[a,b]↔z≠b):=λ{z} hz=>by
  have:=(Dt.back (d:=(a,z)) ⟨a0,a1,hz⟩ m).2.2.1;simp only [Za,YT,Zf,zbh];exact ⟨λh=>h.2,λh=>⟨this,h⟩⟩
 have rg:∀ {z:Int},z∈tx L a->0<=z/\z<L.length:=λhz=>⟨(Dt.back (d:=(a,_)) ⟨a0,a1,hz⟩ m).1,(Dt.back (d:=(a,_)) ⟨a0,a1,hz⟩ m).2.1⟩
 -- mE land of a u9
 have land:∀ j,∃ c∈R,(cy (tx L a) (j+1),a)∈c/\(a,cy (tx L a) j)∈c:=λj=>by
  have h0:0<(tx L a).length:=ZW hx;have hz:=dR (j:=j+1) h0;have bk:=Dt.back (d:=(a,cy (tx L a) (j+1))) ⟨a0,a1,hz⟩ m;have dt:Dt L (cy (tx L a) (j+1),a):=⟨bk.1,bk.2.1,bk.2.2.2⟩;obtain ⟨c,hc,hd⟩:=YI.mp ((D.mem _).mpr dt);have nx:=(D.ir c hc).on hd;have e:Gm.nx L (cy (tx L a) (j+1),a)=(a,cy (tx L a) j):=by
   show (a,pre (tx L a) (cy (tx L a) (j+1)))=_;rw [fJ nd h0]
  rw [e] at nx;exact ⟨c,hc,hd,nx⟩
 have key:∀ i j,i<j->j<(tx L a).length->cy (tx L a) i≠b->cy (tx L a) j≠b->bO L [a,b] (cy (tx L a) i) (cy (tx L a) j):=by
  intro i j ij jn hi hj;have h0:0<(tx L a).length:=by omega
  have good:∀ t,(∀ c∈R,(cy (tx L a) (t+1),a)∈c->b∉c.map (·.1))->bO L [a,b] (cy (tx L a) t) (cy (tx L a) (t+1)):=λt h=>by
   obtain ⟨c,hc,h1,_⟩:=land t;have p:=xS m sm D hc h1 (h c hc h1);rwa [fJ nd h0] at p
  have UM:cy (tx L a) i∈tx L a:=dR h0;have My:cy (tx L a) j∈tx L a:=dR h0;by_cases g1:∀ t,i<=t->t<j->∀ c∈R,(cy (tx L a) (t+1),a)∈c->b∉c.map (·.1)
  ·have p:=qH m a0 a1 h0 (S:=[a,b]) (i:=i) (j-i) λt ht=>good (i+t) (g1 (i+t) (by omega) (by omega));rwa [show i+(j-i)=j by omega] at p
  ·have g2:∀ t,j<=t->t<i+(tx L a).length->∀ c∈R,(cy (tx L a) (t+1),a)∈c->b∉c.map (·.1):=by
    intro t2 WX WW c2 vv hd2 Nc;refine g1 λt1 WZ WY c1 yi OA S4=>?_;have ne:c1≠c2:=λz=>by
     subst z;have:=ly m sm D yi OA hd2;exact cO nd (i:=t1+1) (j:=t2+1) (by omega) (by omega) this
    have fa:∀ {t:Nat} {c:List aw},c∈R->(cy (tx L a) (t+1),a)∈c->a∈c.map (·.1):=λhc hd=>Yc.mpr ⟨_,(D.ir _ hc).on hd,rfl⟩;have at':∀ {t:Nat} {c:List aw},c∈R->(cy (tx L a) (t+1),a)∈c->((a,b)∈c\/(b,a)∈c)->cy (tx L a) t=b\/cy (tx L a) (t+1)=b:=λ{t c} hc hd h=>by
     rcases h with h|h
     ·left;obtain ⟨g,s,n⟩:=D.good m hc;have UG:=sm.ring g (by rw [s];exact n);have e:Gm.nx L (cy (tx L a) (t+1),a)=(a,cy (tx L a) t):=by
       show (a,pre (tx L a) (cy (tx L a) (t+1)))=_;rw [fJ nd h0]
      have:=fV UG ((D.ir _ hc).on hd) h rfl;rw [e] at this;exact Yt Prod.snd this
     ·right;exact ly m sm D hc hd h
    have e1:=at' yi OA (mp c1 yi c2 vv ne a b ab (fa yi OA) S4 (fa vv hd2) Nc);have e2:=at' vv hd2 (mp c2 vv c1 yi (YU ne) a b ab (fa vv hd2) Nc (fa yi OA) S4);rcases e1 with e1|e1<;>rcases e2 with e2|e2
    ·exact cO nd (i:=t1) (j:=t2) (by omega) (by omega) (e1.trans e2.symm)
    ·by_cases z:t2+1=t1+(tx L a).length
     ·have:t1=i:=by omega
      rw [this] at e1;exact hi e1
     ·exact cO nd (i:=t1) (j:=t2+1) (by omega) (by omega) (e1.trans e2.symm)
    ·by_cases z:t1+1=t2
     ·have:t2=j:=by omega
      rw [this] at e2;exact hj e2
     ·exact cO nd (i:=t1+1) (j:=t2) (by omega) (by omega) (e1.trans e2.symm)
    ·exact cO nd (i:=t1+1) (j:=t2+1) (by omega) (by omega) (e1.trans e2.symm)
   have p:=qH m a0 a1 h0 (S:=[a,b]) (i:=j) (i+(tx L a).length-j) λt ht=>good (j+t) (g2 (j+t) (by omega) (by omega));rw [show j+(i+(tx L a).length-j)=i+(tx L a).length by omega,bD (Yq i _)] at p;exact p.bk m ((Sb My).mpr hj) (rg My)
 obtain ⟨i,hi,ei⟩:=cE hx;obtain ⟨j,hj,ej⟩:=cE hy;rcases ZA i j with z|z|z
 ·rw [<-ei,<-ej];exact key i j z hj (by rw [ei];exact xb) (by rw [ej];exact yb)
 ·rw [<-ei,<-ej,z];exact .here
 ·have p:=key j i z hi (by rw [ej];exact yb) (by rw [ei];exact xb);rw [ei,ej] at p;exact p.bk m ((Sb hy).mpr yb) (rg hy)
theorem Reach.closed {P:Int->Prop} {s x:Int} (r:Reach L s x) (h0:P s) (hs:∀ y z:Int,P y->Dt L (y,z)->P z):P x:=by
 induction r with
 | here=>exact h0
 | @step i l x r e hx ih=>exact hs _ _ ih (Reach.n6 e hx)
def back_mem (m:aB L) (h:Dt L (x,y)):x∈tx L y:=(h.back m).2.2.2
theorem link (s:bF L) (sm:mr L) (D:Dec L R) (mp:xX R) (ab:a≠b) (a0:0<=a) (a1:a<L.length) (b0:0<=b) (b1:b<L.length) (d2:∀ x:Int,0<=x->x<L.length->2<=(tx L x).length) :
  ∃ x∈tx L a,x≠b/\∃ y∈tx L b,y≠a/\bO L [a,b] x y:=by
 have m:=s.map;by_cases jg:b∈tx L a
 ·have dt:Dt L (a,b):=⟨a0,a1,jg⟩;obtain ⟨c,hc,hd⟩:=YI.mp ((D.mem _).mpr dt);obtain ⟨g,s',n⟩:=D.good m hc;have nd:=sm.ring g (by rw [s'];exact n);obtain ⟨i,hi⟩:=E3 m D hc hd;have st:=g.st i;generalize c.map (·.1)=r at g nd hi st;have two:=g.two;have ea:cy r i=a:=(Yt Prod.fst hi).symm;have eb:cy r (i+1)=b:=(Yt Prod.snd hi).symm;have three:3<=r.length:=by
   refine Yd λz=>?_;have l2:r.length=2:=by omega
   have e2:cy r (i+2)=a:=by rw [show i+2=i+r.length by omega,bD (Yq i _),ea]
   rw [<-hi] at st;have e:pre (tx L b) a=a:=by
    have:=Yt Prod.snd st;exact this.trans e2
   have:=lO (m.nd _ _ (aE b0 b1)) (back_mem m dt) e;have:=d2 b b0 b1;rw [‹tx L b=[a]›] at this;simp at this
  have p:=mN g (S:=[a,b]) (i:=i+1) (r.length-3) λt t1 t2 z=>by
   simp only [Za,YT,Zf] at z;rcases z with z|z
   ·exact cO nd (i:=i) (j:=i+1+t) (by omega) (by omega) (ea.trans z.symm)
   ·exact cO nd (i:=i+1) (j:=i+1+t) (by omega) (by omega) (eb.trans z.symm)
  rw [show i+1+1=i+2 by omega,show i+1+(r.length-3+1)=i+(r.length-1) by omega] at p;have dy:Dt L (b,cy r (i+2)):=by have:=g.dt (i+1);rw [<-eb];exact this
  have dx:Dt L (cy r (i+(r.length-1)),a):=by
   have:=g.dt (i+(r.length-1));have e:cy r (i+(r.length-1)+1)=a:=by rw [show i+(r.length-1)+1=i+r.length by omega,bD (Yq i _),ea]
   rw [<-e];exact this
  have ya:cy r (i+2)≠a:=λz=>cO nd (i:=i) (j:=i+2) (zaW _) (by omega) (ea.trans z.symm);have yb:cy r (i+2)≠b:=λz=>cO nd (i:=i+1) (j:=i+2) (ZG _) (by omega) (eb.trans z.symm);have xb:cy r (i+(r.length-1))≠b:=λz=>cO nd (i:=i+1) (j:=i+(r.length-1)) (by omega) (by omega) (eb.trans z.symm);have ry:=dy.back m;exact ⟨_,back_mem m dx,xb,_,dy.mem,ya,p.bk m (by simp;exact ⟨ya,yb⟩) ⟨ry.1,ry.2.1⟩⟩
 ·have ha:=d2 a a0 a1;have h0:0<(tx L a).length:=ZJ ‹_›
  have Iq:cy (tx L a) 0∈tx L a:=dR h0;have OU:cy (tx L a) 0≠b:=λz=>jg (z▸Iq);have WI:=Dt.back (d:=(a,cy (tx L a) 0)) ⟨a0,a1,Iq⟩ m;have n0:cy (tx L a) 0∉[a,b]:=by simp;exact ⟨WI.2.2.1,OU⟩
  refine Yd λno=>?_;have rb:Reach L a b:=((s.nW a a0 a1).sym m ⟨Tk _,by omega⟩).trans (s.nW b b0 b1);have P:=rb.closed (P:=λw=>w=a\/bO L [a,b] (cy (tx L a) 0) w) (.inl rfl) λy z hy hz=>by
   rcases hy with rfl|hy
   ·exact .inr (JU m sm D mp ab a0 a1 Iq hz.mem OU λw=>jg (w▸hz.mem))
   ·by_cases za:z=a
    ·exact .inl za
    ·have yn:=bO.gJ hy n0;by_cases zb:z=b
     ·subst zb;refine absurd ⟨_,Iq,OU,y,back_mem m hz,λw=>yn (by simp [w]),hy⟩ no
     ·exact .inr (hy.trans (bO.one (d:=(y,z)) hz (by simp;exact ⟨za,zb⟩)))
  rcases P with z|z
  ·exact ab z.symm
  ·exact bO.gJ z n0 (by simp)
theorem JK (s:bF L) (ab:a≠b) (a0:0<=a) (a1:a<L.length) {z:Int} (z0:0<=z) (z1:z<L.length) (za:z≠a) (zb:z≠b) :
  ∃ x,bO L [a,b] z x/\((x∈tx L a/\x≠b)\/(x∈tx L b/\x≠a)):=by
 have m:=s.map;have nz:z∉[a,b]:=by simp;exact ⟨za,zb⟩
 refine Yd λno=>?_;have rb:Reach L z a:=((s.nW z z0 z1).sym m ⟨Tk _,by omega⟩).trans (s.nW a a0 a1);have P:=rb.closed (P:=λw=>bO L [a,b] z w) .here λy u hy hu=>by
  have yn:=bO.gJ hy nz;simp only [Za,YT,Zf,zbh] at yn;refine hy.trans (bO.one (d:=(y,u)) hu λw=>?_);simp only [Za,YT,Zf] at w;rcases w with rfl|rfl
  ·exact no ⟨y,hy,.inl ⟨back_mem m hu,yn.2⟩⟩
  ·exact no ⟨y,hy,.inr ⟨back_mem m hu,yn.1⟩⟩
 exact bO.gJ P nz (by simp)
theorem I8 (s:bF L) (sm:mr L) (D:Dec L R) (mp:xX R) (d2:∀ x:Int,0<=x->x<L.length->2<=(tx L x).length) (ab:a≠b) (a0:0<=a) (a1:a<L.length) (b0:0<=b) (b1:b<L.length)
  {x y:Int} (x0:0<=x) (x1:x<L.length) (y0:0<=y) (y1:y<L.length) (xa:x≠a) (xb:x≠b) (ya:y≠a) (yb:y≠b):bO L [a,b] x y:=by
 have m:=s.map;obtain ⟨u,hu,ub,v,hv,va,uv⟩:=link s sm D mp ab a0 a1 b0 b1 d2;have nA:∀ {p q:Int},p∈tx L a->q∈tx L a->p≠b->q≠b->bO L [a,b] p q:=JU m sm D mp ab a0 a1;have nB:∀ {p q:Int},p∈tx L b->q∈tx L b->p≠a->q≠a->bO L [a,b] p q:=λh1 h2 h3 h4=>(JU m sm D mp (YU ab) b0 b1 h1 h2 h3 h4).wk m λz _ _ hz=>by
  simp only [Za,YT,Zf] at hz ⊢;exact hz.symm
 have RU:∀ {p:Int},p∈tx L a->(0<=p/\p<L.length)/\p≠a:=λhp=>let h:=Dt.back (d:=(a,_)) ⟨a0,a1,hp⟩ m;⟨⟨h.1,h.2.1⟩,h.2.2.1⟩
 have Xe:∀ {p:Int},p∈tx L b->(0<=p/\p<L.length)/\p≠b:=λhp=>let h:=Dt.back (d:=(b,_)) ⟨b0,b1,hp⟩ m;⟨⟨h.1,h.2.1⟩,h.2.2.1⟩
 have un:u∉[a,b]:=by simp;exact ⟨(RU hu).2,ub⟩
 have to:∀ {z:Int},0<=z->z<L.length->z≠a->z≠b->bO L [a,b] z u:=λ{z} z0 z1 za zb=>by
  obtain ⟨w,hw,h⟩:=JK s ab a0 a1 z0 z1 za zb;rcases h with ⟨h1,h2⟩|⟨h1,h2⟩
  ·exact hw.trans (nA h1 hu h2 ub)
  ·exact (hw.trans (nB h1 hv h2 va)).trans (uv.bk m un (RU hu).1)
 exact (to x0 x1 xa xb).trans ((to y0 y1 ya yb).bk m (by simp;exact ⟨ya,yb⟩) ⟨y0,y1⟩)
theorem EO {n:Nat} (h:4<=n) (p q r:Int):∃ z:Int,0<=z/\z<n/\z≠p/\z≠q/\z≠r:=by
 refine Yd λno=>?_;have:=dh (fb n) (r:=[p,q,r]) λx hx=>by
  have hx:=bM.mp hx;simp only [Za,YT,Zf];refine Yd λz=>no ⟨x,hx.1,hx.2,?_⟩;simp only [zbh] at z;exact z
 rw [b7] at this;simp at this;omega
theorem wU (s:bF L) (sm:mr L) (D:Dec L R) (mp:xX R) (d2:∀ x:Int,0<=x->x<L.length->2<=(tx L x).length) (h4:4<=L.length):qJ L:=by
 intro a b x y x0 x1 y0 y1 xa xb ya yb;have m:=s.map;obtain ⟨a',a0,a1,ax,ay,am⟩:∃ a':Int,0<=a'/\a'<L.length/\x≠a'/\y≠a'/\(0<=a->a<L.length->a=a'):=by
  by_cases h:0<=a/\a<L.length
  ·exact ⟨a,h.1,h.2,xa,ya,λ_ _=>rfl⟩
  ·obtain ⟨z,z0,z1,zx,zy,_⟩:=EO h4 x y x;exact ⟨z,z0,z1,YU zx,YU zy,λh1 h2=>absurd ⟨h1,h2⟩ h⟩
 obtain ⟨b',b0,b1,bx,Hg,ba,bm⟩:∃ b':Int,0<=b'/\b'<L.length/\x≠b'/\y≠b'/\a'≠b'/\(0<=b->b<L.length->b=b'\/b=a'):=by
  by_cases h:(0<=b/\b<L.length)/\a'≠b
  ·exact ⟨b,h.1.1,h.1.2,xb,yb,h.2,λ_ _=>.inl rfl⟩
  ·obtain ⟨z,z0,z1,zx,zy,za⟩:=EO h4 x y a';refine ⟨z,z0,z1,YU zx,YU zy,YU za,λh1 h2=>.inr ?_⟩;exact Yd λw=>h ⟨⟨h1,h2⟩,λq=>w q.symm⟩
 refine (I8 s sm D mp d2 ba a0 a1 b0 b1 x0 x1 y0 y1 ax bx ay Hg).wk m λz z0 z1 hz=>?_;simp only [Za,YT,Zf] at hz ⊢;rcases hz with rfl|rfl
 ·exact .inl (am z0 z1)
 ·exact (bm z0 z1).symm
end
theorem cv (r:UV):(sh 0 r).map (·.1)=r:=by
 unfold sh;rw [zaE];refine zbu (by simp) λi h1 h2=>?_;simp only [zat,getElem_range,Function.comp];show cy r (i+0)=_;rw [ZR,eO h2]
theorem uU (ld:eP L R) (im:aB L) (h:Dt L (x,b)):∃ (i:Nat) (r:UV),R[i]?=some r/\lo R (x,b)=i/\(x,b)∈sh 0 r/\b∈r:=by
 obtain ⟨i,r,j,hr,hj,e,el⟩:=iU ld h;have r0:0<r.length:=by omega
 refine ⟨i,r,hr,el,(bu r0).mpr ⟨j,e⟩,?_⟩;have:b=cy r (j+1):=Yt Prod.snd e;rw [this];exact dR r0
theorem qM.Dx (D:qM L R) (sm:mr L) {b:Int} (b0:0<=b) (b1:b<L.length):(rd L R b).Nodup:=by
 have nd:=D.im.nd _ _ (aE b0 b1);refine ZC.mpr (nd.imp_of_mem λ{x y} hx hy ne q=>ne ?_);have bx:=cI D.im b0 b1 hx;have Hg:=cI D.im b0 b1 hy;obtain ⟨i,r,hr,e,m1,_⟩:=uU D.ld D.im (x:=x) (b:=b) ⟨bx.1,bx.2.1,bx.2.2.2⟩;obtain ⟨j,q',hq,e2,m2,_⟩:=uU D.ld D.im (x:=y) (b:=b) ⟨Hg.1,Hg.2.1,Hg.2.2.2⟩;rw [q,e2] at e;have:j=i:=by omega
 subst this;rw [hr] at hq;cases hq
 exact ly D.im sm D.ld.dec (Yc.mpr ⟨r,Yb hr,rfl⟩) m1 m2
theorem qM.mj (D:qM L R) (sm:mr L):mr (Du R):=λd hd=>by
 obtain ⟨c,hc,QA⟩:=YI.mp ((D.dec.mem d).mpr hd);refine ⟨c,QA,D.dec.ir c hc,?_⟩;obtain ⟨b,hb,rfl⟩:=Yc.mp hc;have hb:=YO.mp hb;rw [cv];exact D.Dx sm (Tk _) (by omega)
theorem qM.meet (D:qM L R) (t:qJ L) (s:bF L) (sm:mr L):xX ((List.range L.length).map λb:Nat=>sh 0 (rd L R (b:Int))):=by
 intro c1 h1 c2 h2 ne a b ab a1 b1 a2 b2;obtain ⟨p,hp,rfl⟩:=Yc.mp h1;obtain ⟨q,hq,rfl⟩:=Yc.mp h2;have hp:=YO.mp hp;have hq:=YO.mp hq;have pq:(p:Int)≠(q:Int):=λz=>ne (by rw [z]);rw [cv] at a1 b1 a2 b2
 -- mE lands a and b,and mE two places on TZ
 have on:∀ {z:Int} {u:Nat},u<L.length->z∈rd L R (u:Int)->∃ (i:Nat) (r:UV),R[i]?=some r/\z=i/\(u:Int)∈r:=λ{z u} hu hz=>by
  obtain ⟨x,hx,e⟩:=Yc.mp hz;have bx:=cI D.im (Tk _) (by omega) hx;obtain ⟨i,r,hr,el,_,hb⟩:=uU D.ld D.im (x:=x) (b:=(u:Int)) ⟨bx.1,bx.2.1,bx.2.2.2⟩;exact ⟨i,r,hr,by rw [<-e];exact el,hb⟩
 obtain ⟨i,ra,Iw,ea,pa⟩:=on hp a1;obtain ⟨i',Xg,MV,XZ,qa⟩:=on hq a2;obtain ⟨j,rb,CI,eb,pb⟩:=on hp b1;obtain ⟨j',Xf,MU,XY,qb⟩:=on hq b2;have:i'=i:=by omega
 subst this;have:j'=j:=by omega
 subst this;rw [Iw] at MV;cases MV
 rw [CI] at MU;cases MU
 have ma:=Yb Iw;have mb:=Yb CI;have ca:sh 0 ra∈R.map (sh 0):=Yc.mpr ⟨ra,ma,rfl⟩;have cb:sh 0 rb∈R.map (sh 0):=Yc.mpr ⟨rb,mb,rfl⟩;have ga:=D.ld.good ra ma;have gb:=D.ld.good rb mb;have MB:∀ {d:aw},d∈sh 0 ra->lo R d=i':=λhd=>by
  obtain ⟨k,rfl⟩:=(bu (by have:=ga.two;exact ZJ ‹_›)).mp hd;exact jL D.ld Iw k
 have MA:∀ {d:aw},d∈sh 0 rb->lo R d=j':=λhd=>by
  obtain ⟨k,rfl⟩:=(bu (by have:=gb.two;exact ZJ ‹_›)).mp hd;exact jL D.ld CI k
 have AF:sh 0 ra≠sh 0 rb:=λz=>by
  have m:dj ra 0∈sh 0 ra:=(bu (by have:=ga.two;exact ZJ ‹_›)).mpr ⟨0,rfl⟩;have e1:=MB m;rw [z] at m;have e2:=MA m;omega
 have A:=t.meet s sm D.ld.dec ca cb AF pq (by rw [cv];exact pa) (by rw [cv];exact qa) (by rw [cv];exact pb) (by rw [cv];exact qb);have B:=t.meet s sm D.ld.dec cb ca (YU AF) pq (by rw [cv];exact pb) (by rw [cv];exact qb) (by rw [cv];exact pa) (by rw [cv];exact qa);rw [D.Aj (Tk _) (by omega)];have dt:∀ {r:UV} {d:aw},Good L r->d∈sh 0 r->Dt L d:=λg hd=>by
  obtain ⟨k,rfl⟩:=(bu (by have:=g.two;exact ZJ ‹_›)).mp hd;exact g.dt k
 rcases A with A|A<;>rcases B with B|B
 ·have e1:=MB A;have e2:=MA B;omega
 ·right;refine Yc.mpr ⟨(q:Int),(dt ga A).mem,?_⟩;have e1:=MB A;have e2:=MA B
  unfold dl;dsimp only;rw [e1,e2,ea,eb]
 ·left;refine Yc.mpr ⟨(q:Int),(dt gb B).mem,?_⟩;have e1:=MB A;have e2:=MA B
  unfold dl;dsimp only;rw [e1,e2,ea,eb]
 ·have e1:=MB A;have e2:=MA B;omega
theorem zw {L:UF} {g:Nat} (h:∀ x:Int,0<=x->x<L.length->g<=(tx L x).length):∀ k,k<=L.length->g*k<=(eJ L k).length
 | 0,_=>YK _
 | k+1,hk=>by
  have ih:=zw h k (ZJ ‹_›);have:=h (k:Int) (Tk _) (by omega);rw [eJ,Yr,Pd,Nat.mul_succ];omega
structure TY (L:UF):Prop where
 bS:bF L
 mj:mr L
 zN:qJ L
 four:4<=L.length
def TY.map (t:TY L):aB L:=t.bS.map
def TY.rD (t:TY L) {x:Int} (x0:0<=x) (x1:x<L.length):3<=(tx L x).length:=t.zN.rD t.map t.four x0 x1
theorem TY.mU (t:TY L) (ld:eP L R):4<=R.length:=by
 have h:=(t.bS.lands t.four ld).2;have g:=zw (g:=3) (λx x0 x1=>t.rD x0 x1) L.length (X7 _);have d:=cM t.map;have:=t.four;omega
theorem TY.QX (t:TY L) (ld:eP L R):TY (Du R):=by
 have D:=t.zN.Ts t.bS t.mj t.four ld;have l4:=t.mU ld;have sh:=D.bS t.bS (by omega);have sm:=D.mj t.mj;refine ⟨sh,sm,wU sh sm D.dec (D.meet t.zN t.bS t.mj) (λx x0 x1=>?_) (by rw [eZ];exact l4),by rw [eZ];exact l4⟩;rw [eZ] at x1;obtain ⟨k,rfl⟩:=Ys x0;have hk:R[k]?=some R[k]:=X4 (by omega);rw [qB hk,ff];exact (ld.good _ (Yb hk)).two
theorem ox (two:2<=r.length) (dt:∀ j,j<r.length->Dt L (dj r j)) (st:∀ j,j<r.length->nx L (dj r j)=dj r (j+1)):Good L r:=by
 have e:∀ j,dj r j=dj r (j%r.length):=λj=>bI (Zv j _).symm;have lt:∀ j,j%r.length<r.length:=λj=>Y5 _ (ZJ ‹_›);refine ⟨two,λj=>by rw [e];exact dt _ (lt j),λj=>?_⟩;rw [e j,st _ (lt j)];exact bI (by rw [zaP])
def kJ (h:0<r.length) (j:Nat):dj r j∈sh 0 r:=(bu h).mpr ⟨j,rfl⟩
theorem Dj (h:r.Nodup):(sh 0 r).Nodup:=by
 have:((sh 0 r).map (·.1)).Nodup:=by rw [cv];exact h
 exact (ZC.mp this).imp λh z=>h (by rw [z])
theorem eP.mj (ld:eP L R) (h:∀ q∈R,q.Nodup):mr L:=λd hd=>by
 obtain ⟨q,hq,GU⟩:=YF.mp (ld.all d hd);exact ⟨sh 0 q,GU,(ld.good q hq).ir,by rw [cv];exact h q hq⟩
def mr.rings (s:mr L) (ld:eP L R):∀ q∈R,q.Nodup:=λq hq=>s.ring (ld.good q hq) (oU ld hq)
theorem vF {α:Type} {R:List α} {k:Nat} {r:α} (hr:R[k]?=some r):R=R.take k++r::R.drop (k+1):=by
 obtain ⟨h,e⟩:=X3.mp hr;rw [<-e,<-ZH h,Z6]
theorem eP.off (ld:eP L R) (hr:R[k]?=some r) (hq:q∈R.take k++R.drop (k+1)) (i j:Nat):dj q i≠dj r j:=λz=>by
 have e:=vF hr;have qm:q∈R:=by
  rw [e];rcases Ye.mp hq with h|h
  ·exact Yx _ h
  ·exact YA _ (X8 _ h)
 have nd:=ld.nd;rw [e,ZT,Z3] at nd;have h1:dj q i∈sh 0 q:=kJ (by have:=(ld.good q qm).two;exact ZJ ‹_›) i;have h2:dj r j∈sh 0 r:=kJ (by have:=(ld.good r (Yb hr)).two;exact ZJ ‹_›) j;rw [z] at h1;rcases Ye.mp hq with h|h
 ·exact (YD.mp nd).2.2 _ (YF.mpr ⟨q,h,h1⟩) _ (Yx _ h2) rfl
 ·exact (YD.mp (YD.mp nd).2.1).2.2 _ h2 _ (YF.mpr ⟨q,h,h1⟩) rfl
theorem eP.split (ld:eP L R) (hr:R[k]?=some r) (old:∀ q∈R.take k++R.drop (k+1),Good M q) (gB:∀ b∈B,Good M b) (nB:∀ b∈B,(sh 0 b).Nodup) (dB:B.Pairwise λb c=>∀ i j,dj b i≠dj c j)
  (new:∀ b∈B,∃ j,¬Dt L (dj b j)) (all:∀ d,Dt M d->Dt L d\/d∈B.flatMap (sh 0)) (Q1:∀ j,dj r j∈B.flatMap (sh 0)):eP M (R.take k++B++R.drop (k+1)):=by
 have e:=vF hr;have sub:∀ q,q∈R.take k++R.drop (k+1)->q∈R:=λq hq=>by
  rw [e];rcases Ye.mp hq with h|h
  ·exact Yx _ h
  ·exact YA _ (X8 _ h)
 refine ⟨λq hq=>?_,?_,λd hd=>?_⟩
 ·rcases Ye.mp hq with h|h
  ·rcases Ye.mp h with h|h
   ·exact old q (Yx _ h)
   ·exact gB q h
  ·exact old q (YA _ h)
 ·have nd:=ld.nd;rw [e,ZT,Z3] at nd;have Tv:∀ d,d∈B.flatMap (sh 0)->∀ q∈R.take k++R.drop (k+1),d∉sh 0 q:=λd hd q hq GU=>by
   obtain ⟨b,hb,GV⟩:=YF.mp hd;have g1:=gB b hb;have g2:=old q hq;obtain ⟨i,e1⟩:=(bu (by have:=g1.two;exact ZJ ‹_›)).mp GV;obtain ⟨j,e2⟩:=(bu (by have:=g2.two;exact ZJ ‹_›)).mp GU;obtain ⟨j0,SW⟩:=new b hb;have al:=g1.along g2 (e1.symm.trans e2) (j0+i*(b.length-1));have md:dj b (i+(j0+i*(b.length-1)))=dj b j0:=bI (by
    have two:=g1.two;rw [show i+(j0+i*(b.length-1))=j0+b.length*i by
     obtain ⟨n,hn⟩:∃ n,b.length=n+1:=⟨b.length-1,by omega⟩;rw [hn,ZP,Nat.add_mul,Nat.one_mul,zbe n i];omega,zag])
   rw [md] at al;rw [al] at SW;exact SW ((ld.good q (sub q hq)).dt _)
  have nA:=(YD.mp nd).1;have nC:=(YD.mp (YD.mp nd).2.1).2.1;have nY:(B.flatMap (sh 0)).Nodup:=by
   show ((B.map (sh 0)).flatten).Nodup;refine ZD.mpr ⟨λl hl=>?_,ZC.mpr (dB.imp_of_mem λ{b c} hb hc h x hx y hy z=>?_)⟩
   ·obtain ⟨b,hb,rfl⟩:=Yc.mp hl;exact nB b hb
   ·obtain ⟨i,e1⟩:=(bu (by have:=(gB b hb).two;exact ZJ ‹_›)).mp hx;obtain ⟨j,e2⟩:=(bu (by have:=(gB c hc).two;exact ZJ ‹_›)).mp hy;exact h i j (e1.symm.trans (z.trans e2))
  rw [ZT,ZT];refine YD.mpr ⟨YD.mpr ⟨nA,nY,λx hx y hy z=>?_⟩,nC,λx hx y hy z=>?_⟩
  ·obtain ⟨q,hq,Vd⟩:=YF.mp hx;exact Tv y hy q (Yx _ hq) (z▸Vd)
  ·obtain ⟨q,hq,Va⟩:=YF.mp hy;rcases Ye.mp hx with h|h
   ·exact (YD.mp nd).2.2 x h y (YA _ hy) z
   ·exact Tv x h q (YA _ hq) (z▸Va)
 ·rw [ZT,ZT];rcases all d hd with h|h
  ·obtain ⟨q,hq,GU⟩:=YF.mp (ld.all d h);rw [e] at hq;rcases Ye.mp hq with h|h
   ·exact Yx _ (Yx _ (YF.mpr ⟨q,h,GU⟩))
   ·rcases Yk.mp h with rfl|h
    ·obtain ⟨j,rfl⟩:=(bu (by have:=(ld.good q (Yb hr)).two;exact ZJ ‹_›)).mp GU;exact Yx _ (YA _ (Q1 j))
    ·exact YA _ (YF.mpr ⟨q,h,GU⟩)
  ·exact Yx _ (YA _ h)
def bU (r:UV) (s m:Nat):UV:=(List.range m).map λt=>cy r (s+t)
theorem aZ (r:UV) (s m:Nat):(bU r s m).length=m:=by unfold bU;simp
theorem mw (h:t<m):(bU r s m)[t]?=some (cy r (s+t)):=by unfold bU;simp [h]
theorem sT (h:q[j]?=some x):cy q j=x:=by
 obtain ⟨h1,h2⟩:=X3.mp h;rw [eO h1];exact h2
theorem KZ:cy q q.length=cy q 0:=bD (by rw [zbg,zbI])
def ka (h:t<m):cy (bU r s m) t=cy r (s+t):=sT (mw h)
theorem eE (h:t+1<m):dj (bU r s m) t=dj r (s+t):=by
 unfold dj;rw [ka (ZJ ‹_›),ka h]
 rfl
theorem A9 (h:0<m):dj (bU r s m) (m-1)=(cy r (s+(m-1)),cy r s):=by
 unfold dj;rw [ka (by omega),show m-1+1=(bU r s m).length by rw [aZ];omega,KZ,ka h]
 rfl
theorem A8 (h:1<m):dj (bU r s m) m=dj r s:=by
 have e:dj (bU r s m) m=dj (bU r s m) 0:=bI (by rw [aZ,zbg,zbI]);rw [e,eE ‹_›]
 rfl
def mv (n:r.Nodup) (s:Nat) (h:m<=r.length):(bU r s m).Nodup:=IY n s h
theorem KR (n:(sh 0 r).Nodup) (h0:0<r.length) (e:dj r i=dj r j):i%r.length=j%r.length:=by
 have e1:dj r i=dj r (i%r.length):=bI (Zv i _).symm;have e2:dj r j=dj r (j%r.length):=bI (Zv j _).symm;have l1:=Y5 i h0;have l2:=Y5 j h0;rw [e1,e2] at e;rcases ZA (i%r.length) (j%r.length) with z|z|z
 ·exact absurd e (jR n z (by omega))
 ·exact z
 ·exact absurd e.symm (jR n z (by omega))
theorem TY.jg (t:TY L) (ld:eP L R) (hr:R[k]?=some r) (m2:2<=m) (m1:m+2<=r.length) (no:cy r (i+m)∉tx L (cy r i)) :
  ∃ M,TY M/\M.length=L.length/\eP M (R.take k++[bU r i (m+1),bU r (i+m) (r.length-m+1)]++R.drop (k+1)):=by
 have im:=t.map;have rm:=Yb hr;have g:=ld.good r rm;have ns:=oU ld rm;have nr:=t.mj.rings ld r rm;obtain ⟨NX,a0,a1,Tq⟩:=dF g im (c:=i);obtain ⟨NW,b0,b1,Tp⟩:=dF g im (c:=i+m);have ne:cy r i≠cy r (i+m):=cO nr (by omega) (by omega);have F:bP L (cy r i) (cy r (i+m)) (put (tx L (cy r i)) ((tx L (cy r i)).idxOf (cy r (i+(r.length-1)))) (cy r (i+m))) (put (tx L (cy r (i+m))) ((tx L (cy r (i+m))).idxOf (cy r (i+m+(r.length-1)))) (cy r i)):=by
  have Ln:cy r i∉tx L (cy r (i+m)):=λz=>no (Dt.back (d:=(cy r (i+m),cy r i)) ⟨b0,b1,z⟩ im).2.2.2;exact ⟨im,a0,a1,b0,b1,ne,no,hX _ _ _,hX _ _ _,fY no,fY Ln⟩
 have Lh:=F.bS t.bS NX NW (fU NX no) (fU NW F.Ln) (λPd h0 hs=>by
  rw [<-Tq] at h0;rw [<-Tp];exact g.on hs h0 _)
 obtain ⟨n1,n2,n3,n4,n5⟩:=F.Fu NX NW (fU NX no) (fU NW F.Ln);have hd:=λd (h:Dt _ d)=>F.eJ (d:=d) h;have sub:=F.sub;have Ws:=F.dt;have QY:=(F.dt.back F.gv);have len:(both L (cy r i) (cy r (i+m)) (put (tx L (cy r i)) ((tx L (cy r i)).idxOf (cy r (i+(r.length-1)))) (cy r (i+m))) (put (tx L (cy r (i+m))) ((tx L (cy r (i+m))).idxOf (cy r (i+m+(r.length-1)))) (cy r i))).length=L.length:=dM;rw [<-Tq] at n1 n4 n5;rw [<-Tp] at n2 n3 n5;rw [g.st] at n3 n4;generalize both L (cy r i) (cy r (i+m)) (put (tx L (cy r i)) ((tx L (cy r i)).idxOf (cy r (i+(r.length-1)))) (cy r (i+m))) (put (tx L (cy r (i+m))) ((tx L (cy r (i+m))).idxOf (cy r (i+m+(r.length-1)))) (cy r i))=M at *;have q1:dj r (i+m+(r.length-1))=dj r (i+(m-1)):=bI (by rw [show i+m+(r.length-1)=i+(m-1)+r.length by omega,Yq]);have q3:dj r (i+m+(r.length-1)+1)=dj r (i+m):=bI (by rw [show i+m+(r.length-1)+1=i+m+r.length by omega,Yq]);have q4:dj r (i+(r.length-1)+1)=dj r i:=bI (by rw [show i+(r.length-1)+1=i+r.length by omega,Yq]);rw [q1] at n2 n5;rw [q3] at n3;rw [q4] at n4;have AF:¬Dt L (cy r i,cy r (i+m)):=λz=>no z.mem;have Sk:¬Dt L (cy r (i+m),cy r i):=λz=>F.Ln z.mem;have rn:cy r (i+m+(r.length-m))=cy r i:=bD (by rw [show i+m+(r.length-m)=i+r.length by omega,Yq]);have E1:dj (bU r i (m+1)) m=(cy r (i+m),cy r i):=by have:=A9 (r:=r) (s:=i) (m:=m+1) (TD _);rwa [ZP] at this
 have E2:dj (bU r (i+m) (r.length-m+1)) (r.length-m)=(cy r i,cy r (i+m)):=by
  have:=A9 (r:=r) (s:=i+m) (m:=r.length-m+1) (TD _);rw [ZP,rn] at this;exact this
 have G1:Good M (bU r i (m+1)):=by
  refine ox (by rw [aZ];exact ZK ‹_›) (λj hj=>?_) (λj hj=>?_)
  ·rw [aZ] at hj;by_cases z:j<m
   ·rw [eE (T0 ‹_›)];exact sub _ (g.dt _)
   ·rw [show j=m by omega,E1];exact ⟨QY.1,QY.2.1,QY.2.2.2⟩
  ·rw [aZ] at hj;by_cases z:j+1<m
   ·rw [eE (ZK ‹_›),eE (T0 ‹_›),n5 _ (g.dt _) (jR ns (by omega) (by omega)) (jR ns (by omega) (by omega)),g.st]
    rfl
   ·by_cases y:j+1=m
    ·rw [eE (by omega),y,E1,show i+j=i+(m-1) by omega,n2]
    ·rw [show j=m by omega,E1,n4,A8 (ZK ‹_›)]
 have G2:Good M (bU r (i+m) (r.length-m+1)):=by
  refine ox (by rw [aZ];omega) (λj hj=>?_) (λj hj=>?_)
  ·rw [aZ] at hj;by_cases z:j<r.length-m
   ·rw [eE (T0 ‹_›)];exact sub _ (g.dt _)
   ·rw [show j=r.length-m by omega,E2];exact Ws
  ·rw [aZ] at hj;by_cases z:j+1<r.length-m
   ·rw [eE (ZK ‹_›),eE (T0 ‹_›),n5 _ (g.dt _) (jR ns (by omega) (by omega)) (YU (jR ns (by omega) (by omega))),g.st]
    rfl
   ·by_cases y:j+1=r.length-m
    ·rw [eE (by omega),y,E2,show i+m+j=i+(r.length-1) by omega,n1]
    ·rw [show j=r.length-m by omega,E2,n3,A8 (by omega)]
 have Uv:∀ j,Dt L (dj (bU r (i+m) (r.length-m+1)) j)\/dj (bU r (i+m) (r.length-m+1)) j=(cy r i,cy r (i+m)):=λj=>by
  have e:dj (bU r (i+m) (r.length-m+1)) j=dj (bU r (i+m) (r.length-m+1)) (j%(r.length-m+1)):=bI (by rw [aZ,Zv]);have lt:=Y5 j (show 0<r.length-m+1 by omega);rw [e];by_cases z:j%(r.length-m+1)<r.length-m
  ·left;rw [eE (T0 ‹_›)];exact g.dt _
  ·right;rw [show j%(r.length-m+1)=r.length-m by omega,E2]
 have old:∀ q∈R.take k++R.drop (k+1),Good M q:=λq hq=>by
  have qm:q∈R:=by
   rcases Ye.mp hq with h|h
   ·exact zaB h
   ·exact zbB h
  have gq:=ld.good q qm;refine ⟨gq.two,λj=>sub _ (gq.dt j),λj=>?_⟩;rw [n5 _ (gq.dt j) (ld.off hr hq j _) (ld.off hr hq j _),gq.st]
 have CF:=mv nr i (m:=m+1) (ZJ ‹_›);have BR:=mv nr (i+m) (m:=r.length-m+1) (by omega);have RG:eP M (R.take k++[bU r i (m+1),bU r (i+m) (r.length-m+1)]++R.drop (k+1)):=by
  refine ld.split hr old (λb hb=>?_) (λb hb=>?_) ?_ (λb hb=>?_) (λd QB=>?_) (λj=>?_)
  ·simp only [Za,YT,Zf] at hb;rcases hb with rfl|rfl
   ·exact G1
   ·exact G2
  ·simp only [Za,YT,Zf] at hb;rcases hb with rfl|rfl
   ·exact Dj CF
   ·exact Dj BR
  ·refine List.pairwise_pair.mpr λu v z=>?_;have al:=G1.along G2 z (m+u*m);have md:dj (bU r i (m+1)) (u+(m+u*m))=dj (bU r i (m+1)) m:=bI (by
    rw [aZ,show u+(m+u*m)=m+(m+1)*u by rw [Nat.add_mul,Nat.one_mul,zbe m u];omega,zag])
   rw [md,E1] at al;rcases Uv (v+(m+u*m)) with h|h
   ·rw [<-al] at h;exact Sk h
   ·rw [<-al] at h;exact ne (Yt Prod.snd h)
  ·simp only [Za,YT,Zf] at hb;rcases hb with rfl|rfl
   ·exact ⟨m,by rw [E1];exact Sk⟩
   ·exact ⟨r.length-m,by rw [E2];exact AF⟩
  ·rcases hd d QB with h|h|h
   ·exact .inl h
   ·right;refine YF.mpr ⟨bU r (i+m) (r.length-m+1),by simp,?_⟩;rw [h,<-E2];exact kJ (by rw [aZ];exact TD _) _
   ·right;refine YF.mpr ⟨bU r i (m+1),by simp,?_⟩;rw [h,<-E1];exact kJ (by rw [aZ];exact TD _) _
  ·obtain ⟨u,hu,e⟩:=seg_at (r:=r) (s:=i) (t:=j) (by omega);rw [e];by_cases z:u<m
   ·refine YF.mpr ⟨bU r i (m+1),by simp,?_⟩;rw [<-eE (r:=r) (s:=i) (m:=m+1) (T0 ‹_›)];exact kJ (by rw [aZ];exact TD _) _
   ·refine YF.mpr ⟨bU r (i+m) (r.length-m+1),by simp,?_⟩;have:dj r (i+u)=dj (bU r (i+m) (r.length-m+1)) (u-m):=by
     rw [eE (by omega),show i+m+(u-m)=i+u by omega]
    rw [this];exact kJ (by rw [aZ];exact TD _) _
 have sm:mr M:=RG.mj λq hq=>by
  rcases Ye.mp hq with h|h
  ·rcases Ye.mp h with h|h
   ·exact t.mj.rings ld q (zaB h)
   ·simp only [Za,YT,Zf] at h;rcases h with rfl|rfl
    ·exact CF
    ·exact BR
  ·exact t.mj.rings ld q (zbB h)
 exact ⟨M,⟨Lh,sm,t.zN.up len sub,by rw [len];exact t.four⟩,len,RG⟩
theorem wD (nd:l.Nodup) (hz:z∈l) (hn:n∉l):pre (put l (l.idxOf z) n) n=pre l z:=by
 have Lo:(put l (l.idxOf z) n).Nodup:=sG hn nd;have mz:z∈put l (l.idxOf z) n:=iP.mpr (.inr hz);have mn:n∈put l (l.idxOf z) n:=iP.mpr (.inl rfl);have h:=j6 Lo mz mn (λe=>hn (e▸hz));rw [fY hn,Ya (fU hz hn)] at h;exact h.symm
theorem bF.put2 (s:bF L) (g:Good L r) (nd:(sh 0 r).Nodup) (c0:cs≠[]) (inc:cs.Pairwise (·<·)) (lt:∀ c∈cs,c<r.length) (un:(cs.map (cy r)).Nodup) :
  ∃ M,ON L r cs M/\∀ c∈cs,tx M (cy r c)=Gm.put (tx L (cy r c)) ((tx L (cy r c)).idxOf (cy r (c+(r.length-1)))) L.length:=by
 obtain ⟨M,c1,cj,pl,_,rows⟩:=s.place g nd inc lt un cs.length (Zz.mpr c0) (X7 _);rw [Y6] at pl rows;refine ⟨M,⟨pl.sh,pl.len,pl.new,pl.sub,pl.keep,λd hd ne=>?_⟩,rows⟩;obtain ⟨b0,b1,b2,b3⟩:=hd.back s.map;unfold nx;by_cases h:∃ c∈cs,cy r c=d.2
 ·obtain ⟨c,hc,e⟩:=h;obtain ⟨zm,x0,x1,ed⟩:=dF g s.map (c:=c);rw [e] at zm x0 x1 ed;have L6:=rows c hc;rw [e] at L6;rw [L6,ph (s.map.nd _ _ (aE b0 b1)) zm (kX s.map b0 b1) b3 λz=>ne c hc ?_];rw [ed,<-z]
 ·rw [pl.keep d.2 b0 b1 λc hc e=>h ⟨c,hc,e⟩]
def kj (cs:List Nat) (k:Nat):Nat:=cs.getD ((k+(cs.length-1))%cs.length) 0
def ki (r:UV) (cs:List Nat) (k:Nat):Nat:=if cs.getD k 0<kj cs k then cs.getD k 0+r.length else cs.getD k 0
def fq (r:UV) (cs:List Nat) (N:Nat) (k:Nat):UV:=bU r (kj cs k) (ki r cs k-kj cs k+1)++[(N:Int)]
def FU (r:UV) (cs:List Nat) (N:Nat):UF:=(List.range cs.length).map (fq r cs N)
structure WS (r:UV) (cs:List Nat) (k h T:Nat):Prop where
 hm:∃ j,j<cs.length/\cs[j]?=some h/\j=(k+(cs.length-1))%cs.length
 km:∃ c,cs[k]?=some c/\(T=c\/T=c+r.length)
 lt:h<T
 le:T<h+r.length
 top:h<r.length
 no:∀ u,h<u->u<T->∀ c∈cs,c≠u/\c+r.length≠u
theorem Fg (inc:cs.Pairwise (·<·)) (lt:∀ c∈cs,c<r.length) (c3:2<=cs.length) (hk:k<cs.length):WS r cs k (kj cs k) (ki r cs k):=by
 have mono:∀ {i j:Nat} (hi:i<cs.length) (hj:j<cs.length),i<j->cs[i]<cs[j]:=λhi hj h=>YS.mp inc _ _ hi hj h;have AG:∀ {i j:Nat} (hi:i<cs.length) (hj:j<cs.length),cs[i]<cs[j]->i<j:=λ{i j} hi hj h=>by
  rcases ZA i j with z|z|z
  ·exact z
  ·subst z;omega
  ·have:=mono hj hi z;omega
 have gk:cs.getD k 0=cs[k]:=by rw [Yn,X4 hk];rfl
 have tk:=lt cs[k] (Zu _);by_cases k0:k=0
 ·subst k0;have e:(0+(cs.length-1))%cs.length=cs.length-1:=by rw [ZL];exact YQ (by omega)
  have hl:cs.length-1<cs.length:=by omega
  have gh:kj cs 0=cs[cs.length-1]:=by
   unfold kj;rw [e,Yn,X4 hl];rfl
  have th:=lt cs[cs.length-1] (Zu _);have m0:=mono hk hl (by omega);have gt:ki r cs 0=cs[0]+r.length:=by
   unfold ki;rw [gk,gh,Ya m0]
  rw [gt];refine ⟨⟨_,hl,by rw [gh];exact X4 hl,e.symm⟩,⟨_,X4 hk,.inr rfl⟩,by omega,by omega,by omega,λu h1 h2 c hc=>?_⟩;obtain ⟨j,hj,ej⟩:=Yv.mp hc;rw [gh] at h1;have cl:=lt c hc;refine ⟨λz=>?_,λz=>?_⟩
  ·rw [<-z,<-ej] at h1;have:=AG hl hj h1;omega
  ·have:cs[j]<cs[0]:=by omega
   have:=AG hj hk this;omega
 ·have e:(k+(cs.length-1))%cs.length=k-1:=by
   rw [show k+(cs.length-1)=k-1+cs.length by omega,Yq];exact YQ (by omega)
  have hl:k-1<cs.length:=by omega
  have gh:kj cs k=cs[k-1]:=by
   unfold kj;rw [e,Yn,X4 hl];rfl
  have th:=lt cs[k-1] (Zu _);have m0:=mono hl hk (by omega);have gt:ki r cs k=cs[k]:=by
   unfold ki;rw [gk,gh,X6 (by omega)]
  rw [gt];refine ⟨⟨_,hl,by rw [gh];exact X4 hl,e.symm⟩,⟨_,X4 hk,.inl rfl⟩,by omega,by omega,by omega,λu h1 h2 c hc=>?_⟩;obtain ⟨j,hj,ej⟩:=Yv.mp hc;rw [gh] at h1;have cl:=lt c hc;refine ⟨λz=>?_,λz=>by omega⟩;rw [<-z,<-ej] at h1 h2;have:=AG hl hj h1;have:=AG hj hk h2;omega
section
variable {s e N t:Nat}
theorem i6:(bU r s (e+1)++[(N:Int)]).length=e+2:=by rw [Yr,aZ];rfl
theorem u7 (h:t<=e):cy (bU r s (e+1)++[(N:Int)]) t=cy r (s+t):=sT (by rw [YL (by rw [aZ];omega),mw (by omega)])
theorem Bg:cy (bU r s (e+1)++[(N:Int)]) (e+1)=(N:Int):=sT (by rw [Y1 (by rw [aZ];exact ZG _),aZ,Nat.sub_self];rfl)
theorem mZ (h:t<e):dj (bU r s (e+1)++[(N:Int)]) t=dj r (s+t):=by
 unfold dj;rw [u7 (ZJ ‹_›),u7 ‹_›]
 rfl
theorem G9:dj (bU r s (e+1)++[(N:Int)]) e=(cy r (s+e),(N:Int)):=by
 unfold dj;rw [u7 (X7 _),Bg]
theorem Hb:dj (bU r s (e+1)++[(N:Int)]) (e+1)=((N:Int),cy r s):=by
 unfold dj;rw [Bg,show cy (bU r s (e+1)++[(N:Int)]) (e+1+1)=cy (bU r s (e+1)++[(N:Int)]) 0 from bD (by rw [i6,zbg,zbI]),u7 (YK _)]
 rfl
theorem Ha (h:0<e):dj (bU r s (e+1)++[(N:Int)]) (e+2)=dj r s:=by
 have q:dj (bU r s (e+1)++[(N:Int)]) (e+2)=dj (bU r s (e+1)++[(N:Int)]) 0:=bI (by rw [i6,zbg,zbI]);rw [q,mZ h]
 rfl
end
theorem TY.stack (t:TY L) (ld:eP L R) (hr:R[k]?=some r) (inc:cs.Pairwise (·<·)) (lt:∀ c∈cs,c<r.length) (c3:3<=cs.length) :
  ∃ M,TY M/\M.length=L.length+1/\eP M (R.take k++FU r cs L.length++R.drop (k+1)):=by
 have im:=t.map;have rm:=Yb hr;have g:=ld.good r rm;have ns:=oU ld rm;have nr:=t.mj.rings ld r rm;have two:=g.two;have r0:0<r.length:=ZJ ‹_›
 have c0:cs≠[]:=λz=>by rw [z] at c3;simp at c3
 have un:(cs.map (cy r)).Nodup:=Zi _ (R:=λa b=>a<b/\b<r.length) (λa b h=>cO nr h.1 (by omega)) (ZE (λ{a b} _ hb h=>⟨h,lt b hb⟩) inc);obtain ⟨M,P,rows⟩:=t.bS.put2 g ns c0 inc lt un;have len:=P.len;have new:=P.new;have mM:=P.bS.map
 -- mE LM of M
 have dt:∀ d,Dt M d->Dt L d\/(∃ c∈cs,d=(cy r c,(L.length:Int)))\/∃ c∈cs,d=((L.length:Int),cy r c):=λd hd=>by
  have h1:=hd.hi;rw [len] at h1;by_cases z:d.1=(L.length:Int)
  ·have h2:=hd.mem;rw [z,new] at h2;obtain ⟨c,hc,e⟩:=Yc.mp h2;exact .inr (.inr ⟨c,hc,Zl z e.symm⟩)
  ·have x1:d.1<L.length:=by omega
   by_cases y:∃ c∈cs,cy r c=d.1
   ·obtain ⟨c,hc,e⟩:=y;have h2:=hd.mem;rw [<-e,rows c hc] at h2;rcases iP.mp h2 with w|w
    ·exact .inr (.inl ⟨c,hc,Zl e.symm w⟩)
    ·rw [e] at w;exact .inl ⟨hd.lo,x1,w⟩
   ·have h2:=hd.mem;rw [P.keep _ hd.lo x1 λc hc e=>y ⟨c,hc,e⟩] at h2;exact .inl ⟨hd.lo,x1,h2⟩
 have dN:∀ {c:Nat},c∈cs->Dt M ((L.length:Int),cy r c):=λ{c} hc=>⟨Tk _,by rw [len];omega,by rw [new];exact Yc.mpr ⟨c,hc,rfl⟩⟩;have dT:∀ {c:Nat},c∈cs->Dt M (cy r c,(L.length:Int)):=λhc=>let h:=(dN hc).back mM;⟨h.1,h.2.1,h.2.2.2⟩
 have nN:∀ {x:Int},¬Dt L (x,(L.length:Int)):=λ{x} z=>by have:=(z.back im).2.1;omega
 -- nx of M
 have Pu:∀ {c:Nat},c∈cs->nx M (dj r (c+(r.length-1)))=(cy r c,(L.length:Int)):=λ{c} hc=>by
  obtain ⟨zm,x0,x1,ed⟩:=dF g im (c:=c);rw [ed];unfold nx;dsimp only;rw [rows c hc,fU zm (kX im x0 x1)]
 have Ux:∀ {c:Nat},c∈cs->nx M ((L.length:Int),cy r c)=dj r c:=λ{c} hc=>by
  obtain ⟨zm,x0,x1,ed⟩:=dF g im (c:=c);have st:=g.st (c+(r.length-1));have e:dj r (c+(r.length-1)+1)=dj r c:=bI (by rw [show c+(r.length-1)+1=c+r.length by omega,Yq]);rw [ed,e] at st;rw [<-st];unfold nx;dsimp only;rw [rows c hc,wD (im.nd _ _ (aE x0 x1)) zm (kX im x0 x1)]
 have Sd:∀ {k h:Nat} {c:Nat},cs[k]?=some c->(∃ j,j<cs.length/\cs[j]?=some h/\j=(k+(cs.length-1))%cs.length)->nx M (cy r c,(L.length:Int))=((L.length:Int),cy r h):=λ{k h c} hk ⟨j,hj,hh,ej⟩=>by
  have kl:=(X3.mp hk).1;show ((L.length:Int),pre (tx M (L.length:Int)) (cy r c))=_;rw [new];have l0:0<(cs.map (cy r)).length:=by rw [Pd];omega
  have e1:cy (cs.map (cy r)) (k+(cs.length-1)+1)=cy r c:=by
   rw [bD (show (k+(cs.length-1)+1)%(cs.map (cy r)).length=k%(cs.map (cy r)).length by rw [Pd,show k+(cs.length-1)+1=k+cs.length by omega,Yq])];exact sT (by rw [Yj,hk];rfl)
  have e2:cy (cs.map (cy r)) (k+(cs.length-1))=cy r h:=by
   rw [bD (show (k+(cs.length-1))%(cs.map (cy r)).length=j%(cs.map (cy r)).length by rw [Pd,ej,Zv])];exact sT (by rw [Yj,hh];rfl)
  rw [<-e1,fJ un l0,e2]
 have WJ:=λ{k:Nat} (hk:k<cs.length)=>Fg inc lt (r:=r) (ZJ ‹_›) hk
 -- one ring
 have one:∀ k,k<cs.length->Good M (fq r cs L.length k)/\(fq r cs L.length k).Nodup/\(∃ c,cs[k]?=some c/\dj (fq r cs L.length k) (ki r cs k-kj cs k)=(cy r c,(L.length:Int)))/\
   (∀ j,Dt L (dj (fq r cs L.length k) j)\/(∃ c,cs[k]?=some c/\dj (fq r cs L.length k) j=(cy r c,(L.length:Int)))\/∃ x,dj (fq r cs L.length k) j=((L.length:Int),x))/\(fq r cs L.length k).length=ki r cs k-kj cs k+2:=λk hk=>by
  have A:=WJ hk;unfold fq;generalize kj cs k=h at A ⊢;generalize ki r cs k=T at A ⊢;obtain ⟨c,hc,hT⟩:=A.km;have cm:=Yb hc;obtain ⟨jh,XH,hh,_⟩:=A.hm;have hm:=Yb hh;have lt':=A.lt;have le:=A.le;have eT:cy r (h+(T-h))=cy r c:=by
   rw [show h+(T-h)=T by omega];rcases hT with z|z
   ·rw [z]
   ·rw [z];exact bD (Yq _ _)
  have E1:dj (bU r h (T-h+1)++[(L.length:Int)]) (T-h)=(cy r c,(L.length:Int)):=by rw [G9,eT]
  have E2:dj (bU r h (T-h+1)++[(L.length:Int)]) (T-h+1)=((L.length:Int),cy r h):=Hb;refine ⟨ox (by rw [i6];omega) (λj hj=>?_) (λj hj=>?_),?_,⟨c,hc,E1⟩,λj=>?_,i6⟩
  ·rw [i6] at hj;by_cases z:j<T-h
   ·rw [mZ z];exact P.sub _ (g.dt _)
   ·by_cases y:j=T-h
    ·rw [y,E1];exact dT cm
    ·rw [show j=T-h+1 by omega,E2];exact dN hm
  ·rw [i6] at hj;by_cases z:j+1<T-h
   ·rw [mZ (ZJ ‹_›),mZ z,P.Fu _ (g.dt _) (λc' l7 w=>?_),g.st]
    ·rfl
    ·have q:=KR ns r0 w;have n1:=A.no (h+j+1) (by omega) (by omega) c' l7;have cl:=lt c' l7;have hl:=A.top;have q2:(h+j+1)%r.length=c'%r.length:=by
      rw [Nat.add_mod,q,<-Nat.add_mod,show c'+(r.length-1)+1=c'+r.length by omega,Yq]
     rw [YQ cl] at q2;by_cases w2:h+j+1<r.length
     ·rw [YQ w2] at q2;exact n1.1 q2.symm
     ·rw [show h+j+1=h+j+1-r.length+r.length by omega,Yq,YQ (by omega)] at q2;exact n1.2 (by omega)
   ·by_cases y:j+1=T-h
    ·rw [mZ (by omega),y,E1,<-Pu cm]
     congr 1
     refine bI ?_;rcases hT with w|w
     ·rw [show c+(r.length-1)=h+j+r.length by omega,Yq]
     ·rw [show h+j=c+(r.length-1) by omega]
    ·by_cases x:j=T-h
     ·rw [x,E1,E2,Sd hc A.hm]
     ·rw [show j=T-h+1 by omega,E2,Ux hm,show T-h+1+1=T-h+2 by omega,Ha (by omega)]
  ·refine YD.mpr ⟨mv nr h (by omega),by simp,λx hx y hy z=>?_⟩;rw [X9.mp hy] at z;obtain ⟨u,hu,e⟩:=Yc.mp hx;have:=(g.dt (h+u)).hi;rw [show (dj r (h+u)).1=cy r (h+u) from rfl] at this;omega
  ·have e:dj (bU r h (T-h+1)++[(L.length:Int)]) j=dj (bU r h (T-h+1)++[(L.length:Int)]) (j%(T-h+2)):=bI (by rw [i6,Zv]);have jl:=Y5 j (show 0<T-h+2 by omega);rw [e];by_cases z:j%(T-h+2)<T-h
   ·left;rw [mZ z];exact g.dt _
   ·by_cases y:j%(T-h+2)=T-h
    ·exact .inr (.inl ⟨c,hc,by rw [y,E1]⟩)
    ·exact .inr (.inr ⟨_,by rw [show j%(T-h+2)=T-h+1 by omega,E2]⟩)
 have ot:∀ {b:UV},b∈FU r cs L.length->∃ k,k<cs.length/\b=fq r cs L.length k:=λhb=>by
  obtain ⟨k,hk,e⟩:=Yc.mp hb;exact ⟨k,YO.mp hk,e.symm⟩
 have tO:∀ {k:Nat},k<cs.length->fq r cs L.length k∈FU r cs L.length:=λhk=>Yc.mpr ⟨_,YO.mpr hk,rfl⟩
 -- LM into mE new place UT on mE rings
 have Ki:∀ {k c:Nat},cs[k]?=some c->(cy r c,(L.length:Int))∈sh 0 (fq r cs L.length k):=λ{k c} hc=>by
  have kl:=(X3.mp hc).1;obtain ⟨_,_,⟨c',l7,e⟩,_,hl⟩:=one k kl;rw [hc] at l7;cases l7
  rw [<-e];exact kJ (by rw [hl];exact TD _) _
 -- mE way ahead of one on a ring lies on it
 have pred:∀ {k:Nat} {d:aw},k<cs.length->Dt M d->nx M d∈sh 0 (fq r cs L.length k)->d∈sh 0 (fq r cs L.length k):=λ{k d} hk hd h=>by
  obtain ⟨gq,_,_,_,hl⟩:=one k hk;obtain ⟨j,ej⟩:=(bu (by rw [hl];exact TD _)).mp h;have e:dj (fq r cs L.length k) (j+((fq r cs L.length k).length-1)+1)=dj (fq r cs L.length k) j:=bI (by rw [show j+((fq r cs L.length k).length-1)+1=j+(fq r cs L.length k).length by omega,Yq]);have:=gq.st (j+((fq r cs L.length k).length-1));rw [e,<-ej] at this;rw [<-eF mM (gq.dt _) hd this];exact kJ (by rw [hl];exact TD _) _
 have old:∀ q∈R.take k++R.drop (k+1),Good M q:=λq hq=>by
  have qm:q∈R:=by
   rcases Ye.mp hq with h|h
   ·exact zaB h
   ·exact zbB h
  exact P.good (ld.good q qm) λj c=>ld.off hr hq j c
 have Q1:∀ n j,(∃ c∈cs,(j+n)%r.length=(c+(r.length-1))%r.length)->∃ k,k<cs.length/\dj r j∈sh 0 (fq r cs L.length k):=by
  intro n
  induction n with
  | zero=>
   rintro j ⟨c,hc,e⟩;obtain ⟨i,hi⟩:=YB.mp hc;have il:=(X3.mp hi).1;refine ⟨i,il,pred il (P.sub _ (g.dt _)) ?_⟩;rw [show dj r j=dj r (c+(r.length-1)) from bI e,Pu hc];exact Ki hi
  | succ n ih=>
   rintro j ⟨c,hc,e⟩;by_cases z:∃ c'∈cs,dj r j=dj r (c'+(r.length-1))
   ·obtain ⟨c',l7,e'⟩:=z;obtain ⟨i,hi⟩:=YB.mp l7;have il:=(X3.mp hi).1;refine ⟨i,il,pred il (P.sub _ (g.dt _)) ?_⟩;rw [e',Pu l7];exact Ki hi
   ·obtain ⟨i,il,h⟩:=ih (j+1) ⟨c,hc,by rw [show j+1+n=j+(n+1) by omega];exact e⟩;refine ⟨i,il,pred il (P.sub _ (g.dt _)) ?_⟩;rw [P.Fu _ (g.dt _) λc' l7 w=>z ⟨c',l7,w⟩,g.st];exact h
 have RG:eP M (R.take k++FU r cs L.length++R.drop (k+1)):=by
  refine ld.split hr old (λb hb=>?_) (λb hb=>?_) ?_ (λb hb=>?_) (λd QB=>?_) (λj=>?_)
  ·obtain ⟨i,hi,rfl⟩:=ot hb;exact (one i hi).1
  ·obtain ⟨i,hi,rfl⟩:=ot hb;exact Dj (one i hi).2.1
  ·refine ZC.mpr (ZE (λ{a b} ha hb (xt:a≠b) u v z=>?_) nodup_range);have ha:=YO.mp ha;have hb:=YO.mp hb;obtain ⟨ga,_,⟨ca,S3,ea⟩,_,la⟩:=one a ha;obtain ⟨gb,_,_,ob,_⟩:=one b hb;generalize hw:ki r cs a-kj cs a=w at ea la;have al:=ga.along gb z (w+u*(w+1));have md:dj (fq r cs L.length a) (u+(w+u*(w+1)))=dj (fq r cs L.length a) w:=bI (by
    rw [la,show u+(w+u*(w+1))=w+(w+2)*u by rw [Nat.add_mul,zbX,zbe w u];omega,zag])
   rw [md,ea] at al;rcases ob (v+(w+u*(w+1))) with h|⟨cb,S2,h⟩|⟨x,h⟩
   ·rw [<-al] at h;exact nN h
   ·rw [<-al] at h;have e:cy r ca=cy r cb:=Yt Prod.fst h;have l1:=lt ca (Yb S3);have l2:=lt cb (Yb S2);have ee:ca=cb:=by
     rcases ZA ca cb with y|y|y
     ·exact absurd e (cO nr y (by omega))
     ·exact y
     ·exact absurd e.symm (cO nr y (by omega))
    subst ee;obtain ⟨q1,w1⟩:=X3.mp S3;obtain ⟨q2,w2⟩:=X3.mp S2;rcases Nat.lt_or_gt_of_ne xt with y|y
    ·have:=YS.mp inc _ _ q1 q2 y;omega
    ·have:=YS.mp inc _ _ q2 q1 y;omega
   ·rw [<-al] at h;have:=Yt Prod.fst h;have:=(g.dt ca).hi;rw [show (dj r ca).1=cy r ca from rfl] at this;dsimp only at *;omega
  ·obtain ⟨i,hi,rfl⟩:=ot hb;obtain ⟨_,_,⟨c,_,e⟩,_⟩:=one i hi;exact ⟨_,by rw [e];exact nN⟩
  ·rcases dt d QB with h|⟨c,hc,e⟩|⟨c,hc,e⟩
   ·exact .inl h
   ·right;obtain ⟨i,hi⟩:=YB.mp hc;exact YF.mpr ⟨_,tO (X3.mp hi).1,by rw [e];exact Ki hi⟩
   ·right;obtain ⟨i,hi⟩:=YB.mp hc;have il:=(X3.mp hi).1
    -- mE ring HG u9 ahead is c
    have kl:(i+1)%cs.length<cs.length:=Y5 _ (by omega);refine YF.mpr ⟨_,tO kl,?_⟩;obtain ⟨gq,_,⟨c',l7,e'⟩,_,hl⟩:=one _ kl;have n3:=Sd l7 (h:=c) ⟨i,il,hi,by
     by_cases z:i+1<cs.length
     ·rw [YQ z,show i+1+(cs.length-1)=i+cs.length by omega,Yq,YQ il]
     ·rw [show i+1=cs.length by omega,zbg,ZL,YQ (by omega)];omega⟩
    rw [e,<-n3,<-e',gq.st];exact kJ (by rw [hl];exact TD _) _
  ·obtain ⟨c,hc⟩:=exists_mem_of_ne_nil cs c0;obtain ⟨i,hi,h⟩:=Q1 (c+(r.length-1)+j*(r.length-1)) j ⟨c,hc,by
    rw [show j+(c+(r.length-1)+j*(r.length-1))=c+(r.length-1)+r.length*j by
     obtain ⟨n,hn⟩:∃ n,r.length=n+1:=⟨r.length-1,by omega⟩;rw [hn,ZP,Nat.add_mul,Nat.one_mul,zbe n j];omega,zag]⟩
   exact YF.mpr ⟨_,tO hi,h⟩
 have sm:mr M:=RG.mj λq hq=>by
  rcases Ye.mp hq with h|h
  ·rcases Ye.mp h with h|h
   ·exact t.mj.rings ld q (zaB h)
   ·obtain ⟨i,hi,rfl⟩:=ot h;exact (one i hi).2.1
  ·exact t.mj.rings ld q (zbB h)
 exact ⟨M,⟨P.bS,sm,t.zN.more mM len P.sub (by rw [new,Pd];exact c3),by have:=t.four;omega⟩,len,RG⟩
theorem eP.O6 (ld:eP L R) (hl:R'.length=R.length) (h:∀ (i:Nat) (q r:UV),R'[i]?=some q->R[i]?=some r->dD q r):eP L R':=by
 have at':∀ {i:Nat} {q:UV},R'[i]?=some q->∃ r,R[i]?=some r/\dD q r:=λ{i q} hq=>by
  have il:=(X3.mp hq).1;have:=X4 (show i<R.length by omega);exact ⟨_,this,h i q _ hq this⟩
 have T6:∀ {q r:UV},dD q r->(sh 0 q).Perm (sh 0 r):=λ{q r} e=>by
  rcases e with rfl|⟨c,hc,rfl⟩
  ·exact .refl _
  ·rw [yw hc];exact fR _ _
 have gd:∀ {q r:UV},dD q r->Good L r->Good L q:=λ{q r} e g=>by
  rcases e with rfl|⟨c,hc,rfl⟩
  ·exact g
  ·exact g.cU hc
 have pm:∀ (A B:UF),A.length=B.length->(∀ (i:Nat) (q r:UV),A[i]?=some q->B[i]?=some r->dD q r)->(A.flatMap (sh 0)).Perm (B.flatMap (sh 0)):=by
  intro A
  induction A with
  | nil=>
   intro B hl _;cases B with
   | nil=>exact .refl _
   | cons b B=>simp at hl
  | cons a A ih=>
   intro B hl hh;cases B with
   | nil=>simp at hl
   | cons b B=>
    rw [Z3,Z3];exact (T6 (hh 0 a b rfl rfl)).append (ih B (by simpa using hl) λi q r h1 h2=>hh (i+1) q r (by simpa using h1) (by simpa using h2))
 have p:=pm R' R hl h;refine ⟨λq hq=>?_,p.nodup_iff.mpr ld.nd,λd hd=>p.mem_iff.mpr (ld.all d hd)⟩;obtain ⟨i,hi⟩:=YB.mp hq;obtain ⟨r,hr,e⟩:=at' hi;exact gd e (ld.good r (Yb hr))
def Rx (L:UF):Prop:=∀ i∈List.range L.length,(tx L (i:Int)).Nodup/\(∀ y∈tx L (i:Int),0<=y/\y<(L.length:Int)/\y≠(i:Int)/\(i:Int)∈tx L y)/\2<=(tx L (i:Int)).length/\(i=0\/∃ y∈tx L (i:Int),y<(i:Int))
def Rw (L R:UF):Prop:=∀ r∈R,2<=r.length/\r.Nodup/\∀ j∈List.range r.length,(0<=(dj r j).1/\(dj r j).1<(L.length:Int)/\(dj r j).2∈tx L (dj r j).1)/\nx L (dj r j)=dj r (j+1)
def Rv (L R:UF):Prop:=(R.flatMap (sh 0)).Nodup/\(∀ d∈eJ L L.length,d∈R.flatMap (sh 0))/\((L.length:Int)+R.length+iso L=(eX L L.length).length+2)/\4<=L.length
def Ru (R:UF):Prop:=∀ c1∈R,∀ c2∈R,c1≠c2->∀ a∈c1,∀ b∈c1,a≠b->a∈c2->b∈c2->(a,b)∈sh 0 c1\/(b,a)∈sh 0 c1
instance (L:UF):Decidable (Rx L):=by unfold Rx;infer_instance
instance (L R:UF):Decidable (Rw L R):=by unfold Rw;infer_instance
instance (L R:UF):Decidable (Rv L R):=by unfold Rv;infer_instance
instance (R:UF):Decidable (Ru R):=by unfold Ru;infer_instance
def i9 (L R:UF):Prop:=Rx L/\Rw L R/\Rv L R/\Ru R
instance (L R:UF):Decidable (i9 L R):=by unfold i9;infer_instance
theorem i9.vE (h:i9 L R):TY L/\eP L R:=by
 obtain ⟨h1,h2,⟨h3,h4,h5,h6⟩,h7⟩:=h;have row:∀ x:Int,0<=x->x<L.length->∃ i:Nat,x=i/\i∈List.range L.length:=λx x0 x1=>⟨x.toNat,by omega,YO.mpr (by omega)⟩;have im:aB L:=jN λx x0 x1=>by
  obtain ⟨i,rfl,hi⟩:=row x x0 x1;exact ⟨(h1 i hi).1,(h1 i hi).2.1⟩
 have RG:eP L R:=by
  refine ⟨λr hr=>?_,h3,λd hd=>h4 d hd.all⟩;obtain ⟨q1,_,q3⟩:=h2 r hr;refine ox q1 (λj hj=>?_) (λj hj=>(q3 j (YO.mpr hj)).2);have:=(q3 j (YO.mpr hj)).1;exact ⟨this.1,this.2.1,this.2.2⟩
 have reach:∀ n:Nat,n<L.length->Reach L 0 (n:Int):=by
  intro n
  induction n using Nat.strongRecOn with
  | ind n ih=>
   intro hn;obtain ⟨_,q2,_,q4⟩:=h1 n (YO.mpr hn);rcases q4 with rfl|⟨y,hy,yl⟩
   ·exact .here
   ·obtain ⟨y0,y1,_,y3⟩:=q2 y hy;obtain ⟨m,rfl⟩:=Ys y0;exact Reach.one (d:=((m:Int),(n:Int))) (ih m (by omega) (by omega)) ⟨y0,y1,y3⟩
 have st:bF L:=⟨im,by omega,λx x0 x1=>⟨0,by simp,by
  obtain ⟨i,rfl,hi⟩:=row x x0 x1;exact reach i (YO.mp hi)⟩,_,RG.dec,by rw [Pd];exact h5⟩
 have sm:mr L:=RG.mj λq hq=>(h2 q hq).2.1;refine ⟨⟨st,sm,wU st sm RG.dec (λc1 yi c2 vv ne a b ab a1 b1 a2 b2=>?_) (λx x0 x1=>?_) h6,h6⟩,RG⟩
 ·obtain ⟨r1,m1,rfl⟩:=Yc.mp yi;obtain ⟨r2,m2,rfl⟩:=Yc.mp vv;rw [cv] at a1 b1 a2 b2;exact h7 r1 m1 r2 m2 (λz=>ne (by rw [z])) a a1 b b1 ab a2 b2
 ·obtain ⟨i,rfl,hi⟩:=row x x0 x1;exact (h1 i hi).2.2.1
theorem u6 (h:0<q.length) (j:Nat):dj (q.map (fK l)) j=CC l (dj q j):=by
 unfold dj CC;rw [qF _ h,qF _ h]
theorem Jk (h:0<q.length):sh 0 (q.map (fK l))=(sh 0 q).map (CC l):=by
 unfold sh;rw [Pd,zaE];exact Zg λj _=>u6 h _
theorem eP.HS (ld:eP A R) (h:zE A l B) (n:oA A.length l) (m:aB A):eP B (R.map (List.map (fK l))):=by
 have fl:∀ S:UF,(∀ q∈S,0<q.length)->(S.map (List.map (fK l))).flatMap (sh 0)=(S.flatMap (sh 0)).map (CC l):=by
  intro S
  induction S with
  | nil=>intro _;rfl
  | cons q S ih=>
   intro hs;rw [Y8,Z3,Z3,Yl,Jk (hs q Yg),ih λx hx=>hs x (X8 _ hx)]
 have pos:∀ q∈R,0<q.length:=λq hq=>by have:=(ld.good q hq).two;exact ZJ ‹_›
 have Tu:∀ d∈R.flatMap (sh 0),Dt A d:=λd hd=>by
  obtain ⟨q,hq,GU⟩:=YF.mp hd;obtain ⟨j,rfl⟩:=(bu (pos q hq)).mp GU;exact (ld.good q hq).dt j
 refine ⟨λq hq=>?_,?_,λd hd=>?_⟩
 ·obtain ⟨q',Kl,rfl⟩:=Yc.mp hq;have g:=ld.good q' Kl;refine ⟨by rw [Pd];exact g.two,λj=>?_,λj=>?_⟩
  ·rw [u6 (pos q' Kl)];exact h.dt n m (g.dt j)
  ·rw [u6 (pos q' Kl),u6 (pos q' Kl),h.nx n m (g.dt j),g.st]
 ·rw [fl R pos];exact ZC.mpr (ld.nd.imp_of_mem λ{a b} ha hb ne q=>ne (AD n m (Tu a ha) (Tu b hb) q))
 ·rw [fl R pos];obtain ⟨d',B7,rfl⟩:=h.sS n hd;exact Yc.mpr ⟨d',ld.all d' B7,rfl⟩
theorem bO.HS (h:zE A l B) (n:oA A.length l) (m:aB A) (hS:∀ z:Int,0<=z->z<A.length->z∉S->fK l z∉S') (r:bO A S s x):bO B S' (fK l s) (fK l x):=by
 induction r with
 | here=>exact .here
 | @step i r' x r e hx ns ih=>
  have d:=Reach.n6 e hx;have bk:=d.back m;exact ih.trans (bO.one (d:=(fK l (i:Int),fK l x)) (h.dt n m d) (hS x bk.1 bk.2.1 ns))
theorem TY.HS (t:TY A) (ld:eP A R) (h:zE A l B) (n:oA A.length l):TY B:=by
 have m:=t.map;have mB:=h.gv n m;have RB:=ld.HS h n m;have qW:∀ x:Int,0<=x->x<B.length->∃ j:Int,0<=j/\j<A.length/\fK l j=x:=λx x0 x1=>by
  rw [h.len] at x1;exact n.qW x0 x1
 have nW:=t.bS.nW;have four:=t.four;have rD:∀ x:Int,0<=x->x<B.length->3<=(tx B x).length:=λx x0 x1=>by
  obtain ⟨j,j0,j1,rfl⟩:=qW x x0 x1;rw [h.tx j0 j1 n,Pd];exact t.rD j0 j1
 have dl:(eJ B B.length).length=(eJ A A.length).length:=by
  have e:((eJ A A.length).map (CC l)).length=(eJ B B.length).length:=len_eq (ZC.mpr ((bJ m (X7 _)).imp_of_mem λ{a b} ha hb ne q=>ne (AD n m (Dt.of ha) (Dt.of hb) q))) (bJ mB (X7 _)) λx=>by
   constructor
   ·intro hx;obtain ⟨d,hd,rfl⟩:=Yc.mp hx;exact (h.dt n m (Dt.of hd)).all
   ·intro hx;obtain ⟨d,hd,rfl⟩:=h.sS n (Dt.of hx);exact Yc.mpr ⟨d,hd.all,rfl⟩
  rw [Pd] at e;exact e.symm
 have iB:iso B=0:=by
  unfold iso;refine zbD.mpr λq hq z=>?_;obtain ⟨i,hi⟩:=YB.mp hq;have il:=(X3.mp hi).1;have:=rD (i:Int) (Tk _) (by omega);rw [bE hi] at this;cases q with
  | nil=>simp at this
  | cons a q=>simp at z
 have st:bF B:=by
  refine ⟨mB,by rw [h.len];omega,λx x0 x1=>⟨0,by simp,?_⟩,_,RB.dec,?_⟩
  ·obtain ⟨j,j0,j1,rfl⟩:=qW x x0 x1;obtain ⟨u,u0,u1,eu⟩:=qW 0 (Tk _) (by rw [h.len];omega);have:Reach A u j:=((nW u u0 u1).sym m ⟨Tk _,by omega⟩).trans (nW j j0 j1);have:=this.HS h n m;rwa [eu] at this
  ·obtain ⟨Q,DQ,ch⟩:=t.bS.E7;have c:=DQ.count ld.dec;rw [Pd] at c;have e1:=cM mB;have e2:=cM m;have i0:=t.bS.Kh;rw [Pd,Pd,iB];have hl:=h.len;rw [hl] at e1 dl ⊢;omega
 have sm:mr B:=RB.mj λq hq=>by
  obtain ⟨q',Kl,rfl⟩:=Yc.mp hq;have nd:=t.mj.rings ld q' Kl;have g:=ld.good q' Kl;have rg:∀ x∈q',0<=x/\x<A.length:=λx hx=>by
   obtain ⟨i,hi,e⟩:=cE hx;rw [<-e];exact ⟨(g.dt i).lo,(g.dt i).hi⟩
  exact ZC.mpr (nd.imp_of_mem λ{a b} ha hb ne q=>ne (n.inj (rg a ha).1 (rg a ha).2 (rg b hb).1 (rg b hb).2 q))
 refine ⟨st,sm,λa b x y x0 x1 y0 y1 xa xb ya yb=>?_,by rw [h.len];exact four⟩;obtain ⟨x',Iq,Ls,rfl⟩:=qW x x0 x1;obtain ⟨y',PZ,PY,rfl⟩:=qW y y0 y1;have pull:∀ c:Int,∃ c':Int,∀ z:Int,0<=z->z<A.length->(z=c'↔fK l z=c):=λc=>by
  by_cases hc:0<=c/\c<B.length
  ·obtain ⟨c',c0,c1,rfl⟩:=qW c hc.1 hc.2;exact ⟨c',λz z0 z1=>⟨λe=>by rw [e],λe=>n.inj z0 z1 c0 c1 e⟩⟩
  ·refine ⟨-1,λz z0 z1=>⟨λe=>by omega,λe=>?_⟩⟩;have:=n.L7 z0 z1;rw [e] at this;rw [h.len] at hc;exact absurd this hc
 obtain ⟨a',ha⟩:=pull a;obtain ⟨b',hb⟩:=pull b;refine (t.zN a' b' x' y' Iq Ls PZ PY (λe=>xa ((ha x' Iq Ls).mp e)) (λe=>xb ((hb x' Iq Ls).mp e)) (λe=>ya ((ha y' PZ PY).mp e)) (λe=>yb ((hb y' PZ PY).mp e))).HS h n m λz z0 z1 hz w=>hz ?_;simp only [Za,YT,Zf] at w ⊢;rcases w with w|w
 ·exact .inl ((ha z z0 z1).mpr w)
 ·exact .inr ((hb z z0 z1).mpr w)
theorem Jv (n:oA A.length l):∃ B,zE A l B:=by
 refine ⟨(bX A.length).map λi=>(tx A (((bX A.length).find? λj=>decide (fK l j=i)).getD 0)).map (fK l),by rw [Pd,b7],λj j0 j1=>?_⟩;have r:=n.L7 j0 j1;have hk:(fK l j).toNat<A.length:=by omega
 rw [Yj,zM hk];have e:((fK l j).toNat:Int)=fK l j:=Z1 r.1;have f:(bX A.length).find? (λi=>decide (fK l i=fK l j))=some j:=by
  cases hf:(bX A.length).find? (λi=>decide (fK l i=fK l j)) with
  | none=>
   have:=List.find?_eq_none.mp hf j (bM.mpr ⟨j0,j1⟩);simp at this
  | some u=>
   have h1:=find?_some hf;have h2:=bM.mp (mem_of_find?_eq_some hf);simp only [zbW] at h1;rw [n.inj h2.1 h2.2 j0 j1 h1]
 show some ((tx A (((bX A.length).find? λi=>decide (fK l i=((fK l j).toNat:Int))).getD 0)).map (fK l))=_;rw [e,f]
 rfl
theorem Ph:i9 [[1,3,2],[0,2,3],[0,3,1],[0,1,2]] [[0,1,3],[1,2,3],[2,0,3],[2,1,0]]:=by decide +kernel
theorem Pg:i9 [[1,4,3],[0,2,4],[1,3,4],[0,4,2],[0,1,2,3]] [[0,1,4],[1,2,4],[2,3,4],[3,0,4],[3,2,1,0]]:=by decide +kernel
theorem Pf:i9 [[1,5,4],[0,2,5],[1,3,5],[2,4,5],[0,5,3],[0,1,2,3,4]] [[0,1,5],[1,2,5],[2,3,5],[3,4,5],[4,0,5],[4,3,2,1,0]]:=by decide +kernel
theorem Pk:i9 [[1,3,2],[0,2,4],[0,5,1],[0,4,5],[1,5,3],[2,3,4]] [[0,1,4,3],[1,2,5,4],[2,0,3,5],[3,4,5],[2,1,0]]:=by decide +kernel
theorem Pj:i9 [[1,4,3],[0,2,5],[1,3,6],[0,7,2],[0,5,7],[1,6,4],[2,7,5],[3,4,6]] [[0,1,5,4],[1,2,6,5],[2,3,7,6],[3,0,4,7],[4,5,6,7],[3,2,1,0]]:=by decide +kernel
def TR (R:UF) (n:Nat):Prop:=∃ L,TY L/\eP L R/\L.length=n
theorem uh (ld:eP L R) (hr:r∈R):∀ x∈r,0<=x/\x<L.length:=λx hx=>by
 obtain ⟨i,hi,e⟩:=cE hx;rw [<-e];exact ⟨((ld.good r hr).dt i).lo,((ld.good r hr).dt i).hi⟩
theorem TY.three (t:TY L) (ld:eP L R) (hr:r∈R):3<=r.length:=by
 have:=t.bS.three (by have:=t.four;exact ZJ ‹_›) ld.dec (Yc.mpr ⟨r,hr,rfl⟩);rwa [dG] at this
def TY.small (t:TY L) (ld:eP L R) (hr:r∈R):r.length<=L.length:=cD (t.mj.rings ld r hr) (uh ld hr)
def TY.many (t:TY L) (ld:eP L R):R.length+4<=2*L.length:=(t.bS.lands t.four ld).1
theorem TR.four (h:TR R n):4<=n:=by obtain ⟨L,t,_,rfl⟩:=h;exact t.four
theorem TR.many (h:TR R n):4<=R.length/\R.length+4<=2*n:=by obtain ⟨L,t,ld,rfl⟩:=h;exact ⟨t.mU ld,t.many ld⟩
theorem TR.ring (h:TR R n) (hr:r∈R):3<=r.length/\r.length<=n/\r.Nodup/\∀ x∈r,0<=x/\x<n:=by
 obtain ⟨L,t,ld,rfl⟩:=h;exact ⟨t.three ld hr,t.small ld hr,t.mj.rings ld r hr,uh ld hr⟩
theorem TR.on {n:Nat} (h:TR R n) {x:Int} (x0:0<=x) (x1:x<n):∃ r∈R,x∈r:=by
 obtain ⟨L,t,ld,rfl⟩:=h;have d:=t.rD x0 x1;obtain ⟨y,hy⟩:=exists_mem_of_length_pos (l:=tx L x) (by omega);obtain ⟨r,hr,hd⟩:=YF.mp (ld.all (x,y) ⟨x0,x1,hy⟩);refine ⟨r,hr,?_⟩;have:x∈(sh 0 r).map (·.1):=Yc.mpr ⟨(x,y),hd,rfl⟩;rwa [cv] at this
def kC (ks:List (aw×Addr)):List (List Key×V):=ks.map λp=>(gT p.1,V.ref p.2)
theorem qi (ks:List (aw×Addr)):(kC ks).length=ks.length:=by unfold kC;simp
theorem AL:∀ {ks:List (aw×Addr)} {d:aw},d∉ks.map (·.1)->fH (kC ks) (gT d)=none
 | [],_,_=>rfl
 | p::ks,d,h=>by
  unfold kC;rw [Y8,eL (λy=>h (by rw [<-p4 y];exact Yg))];exact AL λz=>h (X8 _ z)
theorem AK:∀ {ks:List (aw×Addr)} {d:aw} {a:Addr},(ks.map (·.1)).Nodup->(d,a)∈ks->fH (kC ks) (gT d)=some (.ref a)
 | [],_,_,_,h=>by cases h
 | p::ks,d,a,nd,h=>by
  unfold kC;rw [Y8];obtain ⟨n1,n2⟩:=Yp.mp nd;by_cases e:p.1=d
  ·rw [fj (Yt gT e)];rcases Yk.mp h with z|z
   ·rw [<-z]
   ·exact absurd (Yc.mpr ⟨(d,a),z,e.symm⟩) n1
  ·rw [eL (λy=>e (p4 y))];rcases Yk.mp h with z|z
   ·exact absurd (by rw [<-z]) e
   ·exact AK n2 z
theorem Mk (h:d∉ks.map (·.1)):Tl (kC ks) (gT d) (.ref a)=kC (ks++[(d,a)]):=by
 rw [jE _ (AL h)];unfold kC;rw [Yl]
 rfl
structure CD (H:Hp) (g:Addr) (L R:UF) (ks:List (aw×Addr)):Prop where
 top:H g=some (.dT (kC ks))
 nd:(ks.map (·.1)).Nodup
 mem:∀ d,d∈ks.map (·.1)↔Dt L d
 val:∀ d a,(d,a)∈ks->∃ c:Int,H a=some (.tup [.int c,.int (lo R d)])/\Dt L (c,d.1)/\nx L (c,d.1)=d
def CD.same (x:CD H g L R ks) (e:ah H H'):CD H' g L R ks:=
 ⟨e _ _ x.top,x.nd,x.mem,λd a h=>let ⟨c,h1,h2⟩:=x.val d a h;⟨c,e _ _ h1,h2⟩⟩
theorem CD.get (x:CD H g L R ks) (hd:Dt L d):∃ (a:Addr) (c:Int),fH (kC ks) (gT d)=some (.ref a)/\H a=some (.tup [.int c,.int (lo R d)])/\Dt L (c,d.1)/\nx L (c,d.1)=d:=by
 obtain ⟨p,hp,e⟩:=Yc.mp ((x.mem d).mpr hd);obtain ⟨d',a⟩:=p;cases e
 obtain ⟨c,h1,h2⟩:=x.val d' a hp;exact ⟨a,c,AK x.nd hp,h1,h2⟩
end Gm
namespace L2
open PySem PySem.Spec PySem.W PySem.Calls PyProof.Rows Gm
def Cu (lo:Int) (n:Nat):It:=⟨λi _=>i<n,λi H x H'=>H'=H/\x=.int (lo-i),λi _=>n<=i⟩
theorem vC {P:Program} {w:World} {K:ZB} {tg:Expr} (it:Addr) (lo:Int) (n:Nat):Turn P w K tg (Cu lo n) [it] it (λi h=>IsRangeIter h it (lo+(i:Nat)*(-1)) ((n:Int)-(i:Nat)) (-1)) where
 mem:=by simp
 obj:=λi h st b hb=>by
  have e:b=it:=by simpa using hb
  subst e;exact ⟨_,st,λv z=>by
   have z':Data.fields _=Data.cell v:=z;cases z'⟩
 keep:=λi h h' st k=>k it (by simp) _ st
 item:=by
  intro X hP hw hK hc i pins s σ H E I hf st hg;subst hP hw hK;obtain ⟨f0,f1,f2,f3,f4,f5⟩:=hf it (by simp);have W:=Walks.range (prog:=X.prog) (w:=X.w) (I.ok.hd hc) it lo (-1) n;refine W.item i s _ _ hg st λv h' tk hv oe kk=>?_;obtain ⟨t,rfl⟩:=hv;have I1:Inv X pins σ H { s with heap:=h',toks:=tk }:=I.turned (λb o hb e=>kk b o (by simpa using hb) e) f0 f1 f3 f4 f5;refine ⟨_,rfl,sO (s:={ s with heap:=h',toks:=tk }) (n:= "range_iterator") oe rfl rfl (by decide) ⟨.int (lo-i),H,I1,⟨t,?_⟩,⟨rfl,rfl⟩,oe,λb hb=>(hf b hb).1⟩⟩
  congr 1
  omega
 done:=by
  intro X hP hw hK hc i pins s σ H E I hf st hg;subst hP hw hK;obtain ⟨f0,f1,f2,f3,f4,f5⟩:=hf it (by simp);exact wpAny_pyNext_range_end (I.ok.hd hc) st (by have:n<=i:=hg;omega) λh' eb=>⟨rfl,I.turned (t':=s.toks) (λb o hb e=>eb b o hb e) f0 f1 f3 f4 f5⟩
 self:=λ_ _ _ _ _ st h=>zba st h
section
variable {X:Cx} {tg:Expr}
theorem BF {σ:St} {s:Shared} {R:It->Hp->Prop} {lo hi:Int} {t u v:Tok} {tk:Nat} (I:Inv X pins σ H s) (h1 : -(2 ^ 62)<=lo) (h2:lo<2 ^ 62) (h3 : -(2 ^ 62)<=hi) (h4:hi<2 ^ 62)
  (q:R (Cu lo (lo-hi).toNat) H):wpAny (model X.prog X.w) X.A (pyIter (.ref s.heap.objs.size)) (Rm X pins σ tg R) E { s with heap:=s.heap.push { cls:=.type "range",data:=.fields #[.int lo t,.int hi u,.int (-1) v] },toks:=tk }:=by
 refine wpAny_pyIter_range (IsRange.new ..) (small_down h1 h2 h3 h4) ?_;have I1:Inv X pins σ H { s with heap:=s.heap.push { cls:=.type "range",data:=.fields #[.int lo t,.int hi u,.int (-1) v] },toks:=tk }:=I.kept λb o e=>Yh _ e;refine ⟨(s.heap.push { cls:=.type "range",data:=.fields #[.int lo t,.int hi u,.int (-1) v] }).objs.size,[(s.heap.push { cls:=.type "range",data:=.fields #[.int lo t,.int hi u,.int (-1) v] }).objs.size],_,_,H,rfl,
  I1.kept (t':=tk) λb o e=>Yh _ e,vC _ lo (lo-hi).toNat,?_,λb hb=>?_,q⟩
 ·have e1:lo+((0:Nat):Int)*(-1)=lo:=by simp
  have e2:(((lo-hi).toNat:Nat):Int)-((0:Nat):Int)=Builtin.Range.rangeSize lo hi (-1):=by rw [rangeSize_downNat];omega
  show IsRangeIter _ _ (lo+((0:Nat):Int)*(-1)) ((((lo-hi).toNat:Nat):Int)-((0:Nat):Int)) (-1);rw [e1,e2];exact YH _ rfl
 ·have e:b=(s.heap.push { cls:=.type "range",data:=.fields #[.int lo t,.int hi u,.int (-1) v] }).objs.size:=by simpa using hb
  subst e;exact I1.rC (X7 _) (I1.bH.fresh (X7 _))
def MK (ta:TA):TI:=λσ H R=>ta σ H λvs H1=>∃ i j:Int,vs=[.int i,.int j,.int (-1)]/\(-(2 ^ 62)<=i/\i<2 ^ 62/\-(2 ^ 62)<=j/\j<2 ^ 62)/\R (Cu i (i-j).toNat) H1
theorem BM {ta:TA} {p pos:Pos} (hg:Gl X "range") (hm:X.mg "range"=none) (ha:PA X [a,b,c] ta) (hs:starEach [a,b,c] X.env=[(false,eval a X.env),(false,eval b X.env),(false,eval c X.env)]:=by rfl) (AR:starEach [b,c] X.env=[(false,eval b X.env),(false,eval c X.env)]:=by rfl) :
  PI X tg (.Call (.Name "range" p) [a,b,c] [] pos) (MK ta):=by
 intro pins s σ H R I h;refine Call_ (dJ I hg hm boot_range (YG (cT (ha pos pins s σ H _ I h) λus s1 ⟨vs,H1,I1,r1,q1⟩=>?_) (by rw [hs,AR]) (by rw [AR];rfl)));obtain ⟨i,j,e,⟨q1,q2,q3,q4⟩,q⟩:=q1;subst e;cases r1 with
 | cons r rr=>
  cases rr with
  | cons r' rr=>
   cases rr with
   | cons Uh rr=>
    cases rr
    obtain ⟨t,rfl⟩:=r;obtain ⟨t',rfl⟩:=r';obtain ⟨W9,rfl⟩:=Uh;exact call_range_3 (by decide) (BF I1 q1 q2 q3 q4 q) (Or.inl (PyProof.noPylong_small (by omega)))
end
theorem zh {lo:Int} {n:Nat} {g:TG} {tb:TS} {D:Ends} {σ:St} (Pv:Nat->St->Hp->Prop) (h0:Pv 0 σ H)
  (hs:∀ i σ H,i<n->Pv i σ H->g (.int (lo-i)) σ H λσ2 H2=>tb { D with nx:=Pv (i+1),ct:=Pv (i+1),bk:=D.nx } σ2 H2) (hd:∀ σ H,Pv n σ H->D.nx σ H) :
  ∃ W:Nat->Nat->St->Hp->Prop,(∃ m,W 0 m σ H)/\∀ i m σ H,W i m σ H->
   ((Cu lo n).stop i H/\D.nx σ H)\/((Cu lo n).go i H/\∃ N:St->Hp->Prop,(∀ σ' H',N σ' H'->∃ m',m'<m/\W (i+1) m' σ' H')/\∀ x H',(Cu lo n).vo i H x H'->g x σ H' λσ2 H2=>tb { D with nx:=N,ct:=N,bk:=D.nx } σ2 H2):=by
 refine ⟨λi m σ H=>m=n-i/\i<=n/\Pv i σ H,⟨n,by simp,YK _,h0⟩,?_⟩;rintro i m σ H ⟨rfl,hi,p⟩;by_cases eK:i<n
 ·refine .inr ⟨eK,Pv (i+1),λσ' H' p'=>⟨n-(i+1),by omega,rfl,eK,p'⟩,λx H' y=>?_⟩;obtain ⟨e,y⟩:=y;subst e y;exact hs i σ _ eK p
 ·have e:i=n:=by omega
  subst e;exact .inl ⟨X7 _,hd σ H p⟩
end L2
namespace PySem
namespace F
theorem BE:typeLookup (.type "range_iterator") "__len__"=pure none:=by rw [zbA,zaC];kernel_rfl
theorem F1:typeLookup (.type "range_iterator") "__length_hint__"=pure (some (.builtin "range_iterator.__length_hint__")):=by rw [zbA,zaC];kernel_rfl
theorem nP:isSubtype (.type "range_iterator") (.type "reversed")=pure false:=by rw [isSubtype_type];kernel_rfl
end F
theorem jC (r:Addr) (a b c:Int) (t u v:Tok) (QE:¬(!(Builtin.Range.rangeFitsLong a&&Builtin.Range.rangeFitsLong b&&Builtin.Range.rangeFitsLong c&&Builtin.Range.rangeFitsLong (-c)&&Builtin.Range.rangeFitsLong (a-c)&&Builtin.Range.rangeFitsLong (Builtin.Range.rangeSize a b c)))=true) :
  Meets (Builtin.«range.__reversed__» ⟨[.ref r],[]⟩) (λ_ R s=>s.heap.get? r=some { cls:=.type "range",dict:=none,data:=.fields #[.int a t,.int b u,.int c v],slots:=#[] }/\R (.ok (.ret (Value.ref s.heap.objs.size))) { s with heap:=s.heap.push { cls:=Value.type (if (Builtin.Range.rangeFitsLong a&&Builtin.Range.rangeFitsLong b&&Builtin.Range.rangeFitsLong c&&Builtin.Range.rangeFitsLong (-c)&&Builtin.Range.rangeFitsLong (a-c)&&Builtin.Range.rangeFitsLong (Builtin.Range.rangeSize a b c))=true then "range_iterator" else "longrange_iterator"),data:=Data.fields #[rawInt (a+(Builtin.Range.rangeSize a b c-1)*c),rawInt (Builtin.Range.rangeSize a b c),rawInt (-c)] },toks:=s.toks }):=
 .of_wp λprog w A R s h=>by obtain ⟨hp,g,d,tk,os⟩:=s;obtain ⟨hl,h⟩:=h;wp_walk;exact ⟨_,rfl,h⟩
theorem gC (h1 : -(2 ^ 62)<=i) (h2:i<2 ^ 62):Builtin.Range.rangeFitsLong i=true:=by
 simp only [Builtin.Range.rangeFitsLong,Bool.and_eq_true,zbW];omega
theorem ky {n:Nat} (hr:IsRange s.heap r 0 (n:Int) 1 t u v) (hn:n<=1000)
  (h:Q (.ref s.heap.objs.size) { s with heap:=s.heap.push { cls:=.type "range_iterator",data:=.fields #[rawInt ((n:Int)-1),rawInt (n:Int),rawInt (-1)] } }):wpAny (model prog w) A (call (.builtin "range.__reversed__") [.ref r]) Q E s:=by
 have hT:s.TypeIs (.ref r) "range":=⟨_,hr,rfl⟩;have sz:Builtin.Range.rangeSize 0 (n:Int) 1=(n:Int):=by rw [rangeSize_one];split<;>omega
 have sm:(Builtin.Range.rangeFitsLong 0&&Builtin.Range.rangeFitsLong (n:Int)&&Builtin.Range.rangeFitsLong 1&&Builtin.Range.rangeFitsLong (-1)&&Builtin.Range.rangeFitsLong (0-1)&&Builtin.Range.rangeFitsLong (Builtin.Range.rangeSize 0 (n:Int) 1))=true:=by
  rw [sz,gC (by omega) (by omega),gC (i:=(n:Int)) (by omega) (by omega),gC (i:=1) (by omega) (by omega),gC (i:=-1) (by omega) (by omega),gC (i:=0-1) (by omega) (by omega)]
  rfl
 refine zaH F.slot_range_reversed hT F.entry_range_reversed (F.args_range_reversed_1 _) (jC r 0 (n:Int) 1 t u v (by rw [sm];decide)) ⟨hr,?_⟩;rw [Ya sm,sz,show (0:Int)+((n:Int)-1)*1=(n:Int)-1 by omega];exact h
theorem kr {n:Nat} (hr:IsRange s.heap r 0 (n:Int) 1 t u v) (hn:n<=1000)
  (h:Q₁ (.ref s.heap.objs.size) { s with heap:=s.heap.push { cls:=.type "range_iterator",data:=.fields #[rawInt ((n:Int)-1),rawInt (n:Int),rawInt (-1)] } }) :
  codeAny (model prog w) A (.call (.builtin "reversed.__new__") ⟨[.type "reversed",.ref r],[]⟩) (wants Q₁ E) s:=by
 have hT:s.TypeIs (.ref r) "range":=⟨_,hr,rfl⟩;refine codeAny_of_tree ?_;show wpAny _ A.in1 (do checkBuiltinCall "reversed.__new__" ⟨[.type "reversed",.ref r],[]⟩;again (.builtin "reversed.__new__" ⟨[.type "reversed",.ref r],[]⟩)) _ _ s;refine X5 (zaI (F.newCall_reversed_1 _) (Ym ⟨ZQ F.plain_reversed_new _,ZZ F.entry_reversed_new ?_⟩));rw [Zt F.plain_reversed_new _];unfold Builtin.«reversed.__new__»;refine X5 (zaI (newClass_reversed _) ?_)
 try dsimp only
 refine X5 (zaI (a:=()) (by first|rfl|kernel_rfl) ?_);refine X5 (zaI (a:=()) (by first|rfl|kernel_rfl) ?_)
 try dsimp only
 refine X5 (zaz hT F.slot_range_reversed.lookup ?_)
 try dsimp only
 refine X5 (zaI (F.slot_range_reversed.bind _) ?_)
 try dsimp only
 first
 | rw [X6 (show ¬((Value.builtin "range.__reversed__"==Value.none)=true) from Yo)]
 | (show wpAny _ _ (if (Value.builtin "range.__reversed__"==Value.none)=true then _ else _) _ _ _;rw [X6 (show ¬((Value.builtin "range.__reversed__"==Value.none)=true) from Yo)])
 refine X5 (wpAny_rule ?_);refine X5 (m:=runValue (.call (.builtin "range.__reversed__") ⟨[.ref r],[]⟩)) (show wpAny _ _ (call (.builtin "range.__reversed__") [.ref r]) _ _ _ from ky hr hn ?_)
 first
 | exact Ym h
 | exact X5 (Ym (Ym h))
theorem ku {n:Nat} (hr:IsRange s.heap r 0 (n:Int) 1 t u v) (hn:n<=1000)
  (h:Q (.ref s.heap.objs.size) { s with heap:=s.heap.push { cls:=.type "range_iterator",data:=.fields #[rawInt ((n:Int)-1),rawInt (n:Int),rawInt (-1)] } }):wpAny (model prog w) A (call (.type "reversed") [.ref r]) Q E s:=by
 refine callType_other (U:= "range_iterator") (Q₁:=λobj s₁=>obj=.ref s.heap.objs.size/\s₁={ s with heap:=s.heap.push { cls:=.type "range_iterator",data:=.fields #[rawInt ((n:Int)-1),rawInt (n:Int),rawInt (-1)] } }) (by decide +kernel) F.create_reversed ⟨_,_,F.mro_reversed⟩ F.made_reversed F.nP (F.typeCall_reversed_1 _) (kr hr hn ⟨rfl,rfl⟩) ?_;rintro obj s₁ ⟨rfl,rfl⟩;exact ⟨⟨_,YH _ rfl,rfl⟩,h⟩
theorem qT (it:Addr) (x left step:Int) :
  Meets (Builtin.«range_iterator.__length_hint__» ⟨[.ref it],[]⟩) (λ_ R s=>s.heap.get? it=some { cls:=.type "range_iterator",dict:=none,data:=.fields #[rawInt x,rawInt left,rawInt step],slots:=#[] }/\R (.ok (.ret (Value.int left s.toks))) { s with toks:=s.toks+1 }):=
 .of_wp λprog w A R s h=>by obtain ⟨hp,g,d,tk,os⟩:=s;obtain ⟨hl,h⟩:=h;wp_walk;exact ⟨_,rfl,h⟩
theorem Dv {x step:Int} {n:Nat} (hz:IsRangeIter s.heap z x (n:Int) step) (hn:n<=sizeLine) (h:Q false { s with toks:=s.toks+1 }):wpAny (model prog w) A (Builtin.List.listLengthHint (.ref z)) Q E s:=by
 have hT:s.TypeIs (.ref z) "range_iterator":=⟨_,hz,rfl⟩;unfold Builtin.List.listLengthHint;refine X5 (zaz hT F.BE ?_);show wpAny _ A (specialOf (Value.ref z) (Str.ofString "__length_hint__") >>= _) _ _ _;refine X5 (zaz hT F.F1 ?_);generalize SY:("range_iterator.__length_hint__" : String)=U7
 wp_delta
 rw [show splitId U7=some ("range_iterator", "__length_hint__") from by subst SY;decide +kernel];subst SY;refine X5 (wpAny_isInstance (T:= "range_iterator") (b:=true) hT (by rw [isSubtype_type];kernel_rfl) ?_);refine wpAny_ite_split (λxt=>absurd xt (by decide)) (λ_=>?_);refine wpAny_ite_split (λ_=>?_) (λxt=>absurd (by decide +kernel) xt);refine wpAny_ite_split (λ_=>?_) (λxt=>absurd (by decide +kernel) xt);refine X5 (zaH F.slot_range_iterator_length_hint hT F.entry_range_iterator_length_hint (F.args_range_iterator_length_hint_1 _) (qT z x (n:Int) step) ⟨hz,?_⟩);show wpAny _ A (do
     let LH <-asInt? (Value.int (n:Int) s.toks)
     _) Q E _
 refine X5 (zaI (a:=some (n:Int)) rfl ?_);dsimp only;rw [X6 (by unfold Builtin.List.listTooLong;rw [Yu];simpa using hn)];exact Ym h
theorem vd {x step:Int} {n:Nat} (hh:A.handled=none) (hz:IsRangeIter s.heap z x (n:Int) step) (hn:n<=sizeLine)
  (hQ:∀ h' tk acc c,(∀ b o,b≠z->s.heap.get? b=some o->h'.get? b=some o)->h'.get? s.heap.objs.size=some { cls:=.type "list",dict:=none,data:=.seq acc c,slots:=#[] }->ItemsOf (λi v=>∃ t,v=.int (x+i*step) t) acc n->
   Q (.ref s.heap.objs.size) { s with heap:=h',toks:=tk }):wpAny (model prog w) A (call (.type "list") [.ref z]) Q E s:=by
 refine callType_codes (Q₁:=λobj s₁=>obj=.ref s.heap.objs.size/\s₁={ s with heap:=s.heap.push { cls:=.type "list",data:=.seq #[] } }) PySem.F.called_list (PySem.F.typeCall_list_1 _) PySem.F.entry_list_init
  (code_list_new _ ⟨rfl,rfl⟩) λobj s₁ h₁=>?_
 obtain ⟨rfl,rfl⟩:=h₁;have hS:(s.heap.push { cls:=.type "list",data:=.seq #[] }).get? s.heap.objs.size=some { cls:=.type "list",data:=.seq #[] }:=YH _ rfl;have lz:z<s.heap.objs.size:=Yi hz;refine ⟨⟨_,hS,rfl⟩,PySem.F.args_list_init_2 _ _,?_⟩;show wpAny _ _ (do let old <-Builtin.List.listItems (.ref s.heap.objs.size);Builtin.List.listUpdate (.ref s.heap.objs.size) (λ_=>#[]);letGo old.toList.reverse;Builtin.List.listExtendWith (.ref s.heap.objs.size) (.ref z) .none) _ _ _;refine X5 ?_;unfold Builtin.List.listItems;refine X5 (zar hS rfl (Ym ?_));show wpAny _ _ (updateSeq s.heap.objs.size (λ_=>#[]) >>= λ_=>letGo (#[]:Array Value).toList.reverse >>= λ_=>Builtin.List.listExtendWith (.ref s.heap.objs.size) (.ref z) .none) _ _ _;refine X5 (Z0 hS rfl ?_);have hS₂:=Zd (Obj.mapSeq (λ_=>(#[]:Array Value))) hS rfl;generalize hg:(s.heap.push { cls:=.type "list",data:=.seq #[] }).update s.heap.objs.size (Obj.mapSeq (λ_=>(#[]:Array Value)))=hp at hS₂;have AB:∀ b o,s.heap.get? b=some o->hp.get? b=some o:=λb o e=>by
  rw [<-hg];exact (Y9 _ _ (Zq (Yi e))).trans (Yh _ e)
 have Fx:IsRangeIter hp z x (n:Int) step:=AB _ _ hz;refine X5 (zaX ?_);unfold Builtin.List.listExtendWith;refine X5 (wpAny_typeOf (T:= "range_iterator") (show Shared.TypeIs { s with heap:=hp } (.ref z) "range_iterator" from ⟨_,Fx,rfl⟩) ?_);have q1:Builtin.List.listSameRef (.ref s.heap.objs.size) (.ref z)=false:=by simp [Builtin.List.listSameRef,Zq lz]
 have q2:(Value.type "range_iterator"==Value.type "list")=false:=by decide
 have q3:(Value.type "range_iterator"==Value.type "tuple")=false:=by decide
 simp only [q1,q2,q3,Bool.or_false,YY,ZO];refine X5 (zba (s:={ s with heap:=hp }) Fx ?_);refine X5 (Zo (Dv (s:={ s with heap:=hp }) Fx hn ?_));rw [X6 (by decide)];have V5:s.heap.objs.size∉[z]:=λhm=>absurd lz (by rw [<-X9.mp hm];exact YN _);refine Ym ⟨ZQ ZN _,codeAny_extend_loopS (Walks.range (A:=A.in1.in1) hh z x step n).toS hn _ V5 _ n 0 _ _ _ rfl (YK _) (by show IsRangeIter _ _ (x+((0:Nat):Int)*step) ((n:Int)-((0:Nat):Int)) step;simpa using Fx) hS₂ (ItemsOf.nil _) λs' Ra c' hm IE a9=>?_⟩;rw [Moved.eq_with hm];refine ⟨rfl,hQ s'.heap s'.toks Ra c' (λb ob hb e=>hm.heap b ob (λB1=>?_) (AB b ob e)) IE a9⟩;rcases Yk.mp B1 with e' | B1
 ·exact absurd (Yi e) (by rw [e'];exact YN _)
 ·exact hb (X9.mp B1)
end PySem
namespace L2
open PySem PySem.Spec PySem.W PySem.Calls PyProof.Rows Gm
end L2
namespace Gm
open PySem L2
def jl (s:List Nat):List (List Nat)->List Nat
 | []=>[]
 | [a]=>a
 | a::b::r=>a++s++jl s (b::r)
abbrev num (n:Int):Str:=((toString n:String):Str)
abbrev O1:Str:=(("\n" : String):Str)
abbrev t0:Str:=(("" : String):Str)
def mn (l:UV):Int:=l.min?.getD 0
def lb (l:UV):UV:=cU l (l.idxOf (mn l))
end Gm
namespace L2
open PySem PySem.Spec PySem.W PySem.Calls PyProof.Rows Gm
theorem cg (hg:Gl X x) (hm:∃ t,X.mg x=some (.int z t)) (hd:(x==("__debug__":Str))=false:=by decide):PE X (.Name x pos) (tC (.int z)):=
 let ⟨_,h⟩:=hm;Gp hg h ⟨_,rfl⟩ hd
end L2
namespace L2
open PySem PySem.Spec PySem.W PySem.Calls PyProof.Rows HT
end L2
namespace L2
open PySem PySem.Spec PySem.W PySem.Calls PyProof.Rows Gm
section
variable {prog:Program} {w:World} {ar:Around} {E:WF} {t0:Shared} {dk ik:Addr} {o:Obj} {ents:Array DictEntry} {ep:Nat}
theorem Fj (nd:(dk==sysModules)=false) (ho:t0.heap.get? dk=some o) (hx:o.ExactDict) (hd:o.data=.dict ents ep)
  (q:Q (.ref t0.heap.objs.size) { t0 with heap:=t0.heap.push { cls:=.type "dict_keyiterator",data:=.fields #[.ref dk,.int 0 0,.int ents.size 0,.int ep 0] } }) :
  wpAny (model prog w) ar (pyIter (.ref dk)) Q E t0:=by
 have ty:t0.TypeIs (.ref dk) "dict":=⟨o,ho,hx.1⟩;refine wpAny_pyIter_slot ty F.slot_dict_iter (zaq F.slot_dict_iter ty F.entry_dict_iter ?_ (F.args_dict_iter_1 _));unfold Builtin.«dict.__iter__» Builtin.Dict.dictSlotNone;refine X5 (X5 (wpAny_notOrdered_dict ty (show wpAny _ _ (pure (Value.ref dk)) _ _ t0 from Ym ?_)));show wpAny _ _ (Builtin.Dict.showsAll dk >>= _) _ _ t0;unfold Builtin.Dict.showsAll;rw [X6 (by rw [nd];exact Yo)];refine X5 (Ym (X5 (zaF ho hd (X5 (wpAny_dictEpoch ho hd (X5 (zaD (Ym ⟨_,rfl, "dict_keyiterator",_,⟨_,YH _ rfl,rfl⟩,F.slot_dict_keyiterator_next.lookup,?_⟩))))))));simpa [rawInt] using q
theorem Fi (i:Nat) (hit:t0.heap.IsKeyIter ik dk i ents.size ep) (ho:t0.heap.get? dk=some o) (hd:o.data=.dict ents ep) (hi:i<ents.size)
  (q:∀ h',h'.IsKeyIter ik dk (i+1) ents.size ep->Heap.SameBut ik t0.heap h'->Q (some ents[i].key) { t0 with heap:=h' }):wpAny (model prog w) ar (pyNext (.ref ik)) Q E t0:=by
 obtain ⟨oi,gi,ci,di⟩:=id hit;unfold pyNext;refine X5 (wpAny_attempt (zas (name:=Str.ofString "__next__") hit.typeIs zae (zaq zae hit.typeIs F.entry_dict_keyiterator_next ?_ (F.args_dict_keyiterator_next_1 _))));refine X5 (Ym (X5 (X5 ?_)))
 first|refine X5 (ZU hit.typeIs (Ym (X5 (wpAny_fieldsOf gi di ?_)))) | refine X5 (zao hit.typeIs (Ym (X5 (wpAny_fieldsOf gi di ?_))))
 simp only [show Builtin.Dict_items.ownsTuple "dict_keyiterator"=false by decide,YY,ZO];show wpAny _ _ (if (Value.ref dk==Value.none)=true then _ else _) _ _ t0;rw [X6 (show ¬((Value.ref dk==Value.none)=true) from Yo)];refine X5 (Ym (X5 (zaF ho hd ?_)));rw [X6 (by simp)];refine X5 (Ym (X5 (wpAny_dictEpoch ho hd ?_)));rw [X6 (by simp)];refine Ym ?_;simp only [show ¬((i:Int)<0) from by omega,ZO,Yu,Array.getElem?_eq_getElem hi];refine X5 ?_
 first|refine X5 (ZU hit.typeIs (Ym (X5 (zbl hit.typeIs ?_)))) | refine X5 (zao hit.typeIs (Ym (X5 (zbl hit.typeIs ?_))))
 show wpAny _ _ (setField (.ref ik) 1 (rawInt ((i:Int)+1)) >>= _) _ _ t0;refine X5 (wpAny_setField gi di (by simp) ?_);have nx:(t0.heap.update ik (Obj.mapFields (·.setIfInBounds 1 (rawInt ((i:Int)+1))))).IsKeyIter ik dk (i+1) ents.size ep:=
  ⟨_,Zd _ gi (Obj.isFreed_of_fields (Obj.data_mapFields di _)),(Obj.cls_mapFields ..).trans ci,by rw [Obj.data_mapFields di];simp [rawInt]⟩
 refine X5 (Zo (X5 (zbl (s:={ t0 with heap:=t0.heap.update ik (Obj.mapFields (·.setIfInBounds 1 (rawInt ((i:Int)+1)))) }) nx.typeIs ?_)));show wpAny _ _ (pure ents[i].key) _ _ _;exact Ym (Ym ⟨_,rfl,Ym (q _ nx (zaL ..))⟩)
theorem Fh (i:Nat) (hh:ar.handled=none) (hit:t0.heap.IsKeyIter ik dk i ents.size ep) (ho:t0.heap.get? dk=some o) (hd:o.data=.dict ents ep) (hi:ents.size<=i)
  (q:∀ h',Heap.ExtBut ik t0.heap h'->Q none { t0 with heap:=h' }):wpAny (model prog w) ar (pyNext (.ref ik)) Q E t0:=by
 obtain ⟨oi,gi,ci,di⟩:=id hit;unfold pyNext;refine X5 (wpAny_attempt (zas (name:=Str.ofString "__next__") (hit).typeIs zae (zaq zae (hit).typeIs F.entry_dict_keyiterator_next ?_ (F.args_dict_keyiterator_next_1 _))));refine X5 (Ym (X5 (X5 ?_)))
 first|refine X5 (ZU (hit).typeIs (Ym (X5 (wpAny_fieldsOf gi di ?_)))) | refine X5 (zao (hit).typeIs (Ym (X5 (wpAny_fieldsOf gi di ?_))))
 simp only [show Builtin.Dict_items.ownsTuple "dict_keyiterator"=false by decide,YY,ZO];show wpAny _ _ (if (Value.ref dk==Value.none)=true then _ else _) _ _ t0;rw [X6 (show ¬((Value.ref dk==Value.none)=true) from Yo)];refine X5 (Ym (X5 (zaF ho hd ?_)));rw [X6 (by simp)];refine X5 (Ym (X5 (wpAny_dictEpoch ho hd ?_)));rw [X6 (by simp)];refine Ym ?_;simp only [show ¬((i:Int)<0) from by omega,ZO,Yu,zbf hi];refine X5 ?_
 first|refine X5 (ZU (hit).typeIs (Ym ?_)) | refine X5 (zao (hit).typeIs (Ym ?_))
 show wpAny _ _ (setField (.ref ik) 0 .none >>= _) _ _ t0;refine X5 (wpAny_setField gi di (by simp) (show wpAny _ _ (newExc (.type "StopIteration") [] >>= _) _ _ _ from X5 ?_));simp only [newExc,newTuple];refine X5 (zaD (X5 (m:=firstArgMember _ _) (zaI (a:=Value.none) (by first|rfl | (simp only [firstArgMember];rfl)) (zaD ?_ (by size_fits)))) (by size_fits));simp only [raiseNew];refine X5 (wpAny_handled ?_);rw [show ar.in1.handled=none from hh];refine X5 (Ym (wpAny_throw ?_));refine X5 (wpAny_isInstance (b:=true) (T:= "StopIteration") ⟨_,YH _ rfl,rfl⟩ isSubtype_stop ?_);exact Ym (q _ (((zaL ..).extBut.push _).push _))
end
def Hu (d:Addr) (o:Obj) (kvs:List (List Key×V)):It:=
 ⟨λi H=>H d=some (.fN o (.dT kvs))/\i<kvs.length,λi H x H'=>H'=H/\∃ k v b,kvs[i]?=some (k,v)/\H b=some (.tup (k.map kV))/\x=.ref b,λi H=>H d=some (.fN o (.dT kvs))/\kvs.length<=i⟩
theorem FN {P:Program} {w:World} {K:Frag} {tg:Expr} {d it:Addr} {o:Obj} {kvs:List (List Key×V)} {es:Array DictEntry} {ep:Nat} (hd:o.data=.dict es ep) (hn:es.size=kvs.length) :
  Turn P w K tg (Hu d o kvs) [it] it (λi h=>h.IsKeyIter it d i es.size ep) where
 mem:=by simp
 obj:=λi h st b hb=>by
  have e:b=it:=by simpa using hb
  subst e;obtain ⟨o,e,c,d⟩:=st;exact ⟨o,e,λv z=>by rw [d] at z;cases z⟩
 keep:=λi h h' st k=>let ⟨o,e,r⟩:=st;⟨o,k it (by simp) o e,r⟩
 item:=by
  intro X hP hw hK hc i pins s σ H E I hf st hg;subst hP hw hK;obtain ⟨Qw,hi⟩:=hg;obtain ⟨e1,ok⟩:=(show bC X.prog X.w H s.heap d (.fN o (.dT kvs)) from I.bH d _ Qw);obtain ⟨z,y,xs,r,o2,XU,XW,h1,h2,h3,h4,h5⟩:=(show bC X.prog X.w H s.heap d (.dT kvs) from ok);rw [e1] at h1;cases h1
  rw [hd] at h3;cases h3
  obtain ⟨f0,f1,f2,f3,f4,f5⟩:=hf it (by simp);refine Fi i st e1 hd (by omega) λh' oe sb=>?_;have I1:Inv X pins σ H { s with heap:=h' }:=I.turned (t':=s.toks) (λb o hb e=>(sb.2 b hb).trans e) f0 f1 f3 f4 f5;obtain ⟨o',e',c',d'⟩:=id oe;have xl:=r.length;have SF:xs[i]?=some (xs[i]'(by omega)):=X4 _;have key:∀ {l:List (List Key×V)} {m:List (List Key×Addr×Value)} (_:Paired (λ(p:List Key×V) (q:List Key×Addr×Value)=>p.1=q.1/\H q.2.1=some (.tup (p.1.map kV))/\RelV p.2 q.2.2) l m) (j:Nat) (x:List Key×Addr×Value),m[j]?=some x->∃ v,l[j]?=some (x.1,v)/\H x.2.1=some (.tup (x.1.map kV)):=by
   intro l m pr
   induction pr with
   | nil=>intro j x e;simp at e
   | @cons p q ps qs hq _ ih=>
    intro j x e;cases j with
    | zero=>
     have e:q=x:=by simpa using e
     subst e;obtain ⟨p1,p2⟩:=p;obtain ⟨a1,a2,_⟩:=hq;have a1:p1=q.1:=a1;subst a1;exact ⟨p2,rfl,a2⟩
    | succ j=>simpa using ih j x (by simpa using e)
  obtain ⟨v,hv,hb⟩:=key r i _ SF;have ek:es[i]'(by omega)=entryOfKey (tupleKind (bA X.prog X.w)) (xs[i]'(by omega)):=by
   have:=entry_at h4 i;rw [SF,Array.getElem?_eq_getElem (by omega)] at this;exact Yf this
  rw [ek];exact ⟨_,rfl,sO (s:={ s with heap:=h' }) e' c' d' (by decide) ⟨.ref (xs[i]'(by omega)).2.1,H,I1,rfl,⟨rfl,_,v,_,hv,hb,rfl⟩,oe,λb hb=>(hf b hb).1⟩⟩
 done:=by
  intro X hP hw hK hc i pins s σ H E I hf st hg;subst hP hw hK;obtain ⟨Qw,hi⟩:=hg;obtain ⟨e1,ok⟩:=(show bC X.prog X.w H s.heap d (.fN o (.dT kvs)) from I.bH d _ Qw);obtain ⟨f0,f1,f2,f3,f4,f5⟩:=hf it (by simp);exact Fh i (I.ok.hd hc) st e1 hd (by omega) λh' eb=>⟨rfl,I.turned (t':=s.toks) (λb o hb e=>eb b o hb e) f0 f1 f3 f4 f5⟩
 self:=λ_ _ _ _ _ st h=>wpAny_pyIter_keyiter st h
def y8 (tl:TE):TI:=λσ H R=>tl σ H λx H1=>∃ a kvs,x=.ref a/\H1 a=some (.dT kvs)/\∀ o,R (Hu a o kvs) (upd H1 a (.fN o (.dT kvs)))
theorem pD (hl:PE X l tl):PI X tg l (y8 tl):=by
 intro pins s σ H R I h;refine cT (hl pins s σ H _ I h) λv s1 q9z=>?_;obtain ⟨x,H1,I1,r1,q1⟩:=q9z;obtain ⟨a,kvs,e,hq,q⟩:=q1;subst e;cases r1
 obtain ⟨z,y,xs,r,o,es,ep,h1,h2,h3,h4,h5⟩:=(show bC X.prog X.w H1 s1.heap a (.dT kvs) from I1.bH a _ hq);have nz:es.size=kvs.length:=by rw [size_of_entries h4];exact r.length.symm
 refine Fj y h1 h2 h3 ?_;generalize jO:s1.heap.push { cls:=Value.type "dict_keyiterator",data:=Data.fields #[Value.ref a,Value.int 0 0,Value.int es.size 0,Value.int ep 0] }=h';have kp:∀ c o,s1.heap.get? c=some o->h'.get? c=some o:=λc o e=>jO▸Yh _ e;have na:∀ b ys,H1 b=some (.tup ys)->b≠a:=λb ys e z=>by rw [z,hq] at e;cases e
 have I2:Inv X pins σ (upd H1 a (.fN o (.dT kvs))) { s1 with heap:=h',toks:=s1.toks }:=
  Inv.write (e:=a) (t':=s1.toks) I1 (by rw [hq];trivial) (.inl rfl) (λb u _ e=>kp b u e) ⟨o,kp _ _ h1⟩
   ⟨kp _ _ h1,z,y,xs,Paired.yW r λp q w=>⟨w.1,by rw [ak (na _ _ w.2.1)];exact w.2.1,w.2.2⟩,o,es,ep,kp _ _ h1,h2,h3,h4,h5⟩
 refine ⟨s1.heap.objs.size,[s1.heap.objs.size],_,_,_,rfl,I2,FN h3 nz,⟨_,jO▸YH _ rfl,rfl,rfl⟩,λb hb=>?_,q o⟩;have e:b=s1.heap.objs.size:=by simpa using hb
 subst e;have ne:s1.heap.objs.size≠a:=λz=>YN _ (z▸Yi h1);have f:=I1.rC (X7 _) (I1.bH.fresh (X7 _));exact ⟨(ak ne).trans f.1,f.2⟩
def wz (h:tl σ H λx H1=>∃ a kvs,x=.ref a/\H1 a=some (.dT kvs)/\∀ o,R (Hu a o kvs) (upd H1 a (.fN o (.dT kvs)))):y8 tl σ H R:=h
theorem Ce {o:Obj} {g:TG} {tb:TS} {D:Ends} {σ:St} (Pv:Nat->St->Hp->Prop) (h0:Pv 0 σ H) (hl:∀ i σ H,i<=kvs.length->Pv i σ H->H d=some (.fN o (.dT kvs)))
  (hs:∀ i k v b σ H,kvs[i]?=some (k,v)->H b=some (.tup (k.map kV))->Pv i σ H->g (.ref b) σ H λσ2 H2=>tb { D with nx:=Pv (i+1),ct:=Pv (i+1),bk:=D.nx } σ2 H2) (hd:∀ σ H,Pv kvs.length σ H->D.nx σ H) :
  ∃ W:Nat->Nat->St->Hp->Prop,(∃ m,W 0 m σ H)/\∀ i m σ H,W i m σ H->
   ((Hu d o kvs).stop i H/\D.nx σ H)\/((Hu d o kvs).go i H/\∃ N:St->Hp->Prop,(∀ σ' H',N σ' H'->∃ m',m'<m/\W (i+1) m' σ' H')/\∀ x H',(Hu d o kvs).vo i H x H'->g x σ H' λσ2 H2=>tb { D with nx:=N,ct:=N,bk:=D.nx } σ2 H2):=by
 refine ⟨λi m σ H=>m=kvs.length-i/\i<=kvs.length/\Pv i σ H,⟨kvs.length,by simp,YK _,h0⟩,?_⟩;rintro i m σ H ⟨rfl,hi,p⟩;have q:=hl i σ H hi p;by_cases eK:i<kvs.length
 ·refine .inr ⟨⟨q,eK⟩,Pv (i+1),λσ' H' p'=>⟨kvs.length-(i+1),by omega,rfl,eK,p'⟩,λx H' y=>?_⟩;obtain ⟨e,k,v,b,hk,hb,rfl⟩:=y;subst e;exact hs i k v b σ _ hk hb p
 ·have e:i=kvs.length:=by omega
  subst e;exact .inl ⟨⟨q,X7 _⟩,hd σ H p⟩
theorem Inv.OY {σ:St} {s:Shared} {o:Obj} {u:HO} (I:Inv X pins σ H s) (hf:H d=some (.fN o u)) (nt:∀ xs,u≠.tup xs) (no:∀ x,u≠.own x) (h0:∀ o' u',X.H₀ d≠some (.fN o' u')):Inv X pins σ (upd H d u) s:=by
 have nd:∀ {b:Addr},H b=none->b≠d:=λ{b} e z=>by rw [z,hf] at e;cases e
 have ok:kh X.prog X.w (upd H d u) s.heap:=λb v e=>by
  have ts:∀ c xs,H c=some (.tup xs)->upd H d u c=some (.tup xs):=λc xs q=>by
   rw [ak (show c≠d from λz=>by rw [z,hf] at q;cases q)];exact q
  have os:∀ c x,H c=some (.own x)->upd H d u c=some (.own x):=λc x q=>by
   rw [ak (show c≠d from λz=>by rw [z,hf] at q;cases q)];exact q
  by_cases z:b=d
  ·subst z;rw [ae] at e;cases e
   obtain ⟨_,q⟩:=(show bC X.prog X.w H s.heap b (.fN o u) from I.bH b _ hf);exact q.jq (λc v _ r=>r) (λc q=>os c _ q) ts
  ·rw [ak z] at e;exact (I.bH b v e).jq (λc v _ r=>r) (λc q=>os c _ q) ts
 have bs:Un X.fs X.ex X.H₀ (upd H d u) X.s₀.heap s.heap:=by
  refine ⟨I.base.keep,I.base.slot,λb ob e n hx=>?_,I.base.there,λb xs e=>?_,λb ob v e=>?_,λb ps e=>?_⟩
  ·have:=I.base.free b ob e n hx;rw [ak (nd this)];exact this
  ·have:=I.base.tJ b xs e;rw [ak (show b≠d from λz=>by rw [z,hf] at this;cases this)];exact this
  ·have:=I.base.rB b ob v e;rw [ak (show b≠d from λz=>h0 ob v (by rw [<-z];exact e))];exact this
  ·obtain ⟨m,this⟩:=I.base.tK b ps e;exact ⟨m,by rw [ak (show b≠d from λz=>by rw [z,hf] at this;cases this)];exact this⟩
 exact ⟨I.ok,I.os,I.bare,bs,I.loc,I.cell,by rw [ak (nd I.free)];exact I.free,λx c e=>by rw [ak (nd (I.jc x c e))];exact I.jc x c e,λp hp=>by
  obtain ⟨a1,a2,a3⟩:=I.pin p hp;exact ⟨a1,by rw [ak (nd a2)];exact a2,a3⟩,ok,I.len⟩
section
variable {X:Cx} {pins:Wp} {σ:St} {H:Hp} {s:Shared} {a:Addr} {A:Around} {E:WF}
theorem KS (hu:A.units<cLine) (I:Inv X pins σ H s) (e:H a=some (.dT kvs)) (eb:H b=some (.tup (k.map kV))) (l:kvs.length<sizeLine) (rv:RelV v r)
  (h:∀ s',Inv X pins σ (upd H a (.dT (Tl kvs k v))) s'->Q () s'):wpAny (model X.prog X.w) A (dictSet a (.ref b) r) Q E s:=by
 obtain ⟨z,hd,xs,rel,dd⟩:=sS I.bH e;refine wpAny_dictSet_heap (hsz:=by rw [<-zaM rel];exact z) (knd:=tupleKind (bA X.prog X.w)) hu (jM I.bH eb) dd λh' Bd hs=>h _ ?_;obtain ⟨q,es,ep,hq,h2,h3,h4,_,h5⟩:=Bd;refine l9 I (by rw [e];exact True.intro) hs ⟨q,hq⟩ ⟨by have:=gK kvs k v;omega,hd,_,(rel.put k eb rv).keeps λc ys ec=>?_,q,es,ep,hq,h2,h3,h4,h5⟩;rw [ak (Eh ec e (λz=>nomatch z))];exact ec
def C5 (tk tv:TE):TE:=λσ H Q=>∀ p,H p=none->tL [(tk,tv)] σ (upd H p (.dT [])) λps H2=>H2 p=some (.dT [])/\∃ (b:Addr) (k:List Key) (y:V),ps=[(.ref b,y)]/\H2 b=some (.tup (k.map kV))/\Q (.ref p) (upd H2 p (.dT [(k,y)]))
def Am (h:∀ p,H p=none->tk σ (upd H p (.dT [])) λx H1=>tv σ H1 λy H2=>H2 p=some (.dT [])/\∃ (b:Addr) (k:List Key) (z:V),[(x,y)]=[(V.ref b,z)]/\H2 b=some (.tup (k.map kV))/\Q (.ref p) (upd H2 p (.dT [(k,z)]))):C5 tk tv σ H Q:=h
theorem wJ (hu:X.A.units<cLine) (hk:PE X ke tk) (hv:PE X ve tv):PE X (.Dict [some ke] [ve] pos) (C5 tk tv):=by
 intro pins s σ H Q I q;have hn:=I.bH.fresh (X7 s.heap.objs.size);have I1:=I.laid (a:=s.heap.objs.size) (o:=.dT []) (h':=s.heap.push { cls:=.type "dict",data:=.dict #[] }) (t':=s.toks) (λ_ _ q=>Yh _ q) (X7 _) (xN s.heap I.big);refine wpAny_Dict_any rfl rfl (by simp) (by simp) (cT (wF (pos:=pos) hk hv Aq pins _ σ _ _ I1 (q _ hn)) ?_);rintro ws s2 ⟨ps,H2,I2,rel,e,b,k,y,rfl,eb,q2⟩;cases rel with
 | @cons _ w _ wr r1 r2=>
  cases r2
  obtain ⟨wk,wv⟩:=w;obtain ⟨r1,r3⟩:=r1;cases (show wk=Value.ref b from r1)
  unfold storeAll;rw [forIn_cons];refine X5 (X5 (KS (v:=y) hu I2 e eb (by rw [ZS];simp) r3 λs3 I3=>Ym ?_));show wpAny _ _ (forIn ([]:List (Value×Value)) PUnit.unit _) _ _ _;rw [forIn_nil];exact Ym ⟨.ref s.heap.objs.size,_,I3,rfl,q2⟩
theorem FP {kn:HeapKind X.prog X.w (List Key)} {j:Nat} {Q:Option DictEntry->Shared->Prop} (hu:kn.room A) (B2:kn.is s.heap k b) (hm:s.heap.DictOfH kn d xs) (hj:xs[j]?=some (k,p)) (hz:xs.length<=sizeLine)
  (q:∀ h',h'.DictOfH kn d (xs.eraseIdx j)->Heap.SameBut d s.heap h'->Q (some (entryOfKey kn (k,p))) { s with heap:=h',toks:=s.toks+kn.draws k }) :
  wpAny (model X.prog X.w) A (Builtin.Dict.takeOut d (.ref b)) Q E s:=by
 obtain ⟨o,es,ep,ho,hc,hd,he,Lx,hn⟩:=hm;unfold Builtin.Dict.takeOut;refine Zo (X5 (kn.pyHash hu B2 (X5 (wpAny_dictFind_heap (s:={ s with toks:=s.toks+kn.draws k }) hu B2 ho hd he Lx hn (λno=>absurd hj (no j p)) λi p' hi=>?_))));have ij:i=j/\p'=p:=by
  have h1:(xs.map (·.1))[i]?=some k:=by rw [Yj,hi];rfl
  have h2:(xs.map (·.1))[j]?=some k:=by rw [Yj,hj];rfl
  obtain ⟨l1,e1⟩:=X3.mp h1;obtain ⟨l2,e2⟩:=X3.mp h2;have e:i=j:=by
   have pw:=YS.mp hn;rcases ZA i j with z|z|z
   ·exact absurd (e1.trans e2.symm) (pw i j l1 l2 z)
   ·exact z
   ·exact absurd (e2.trans e1.symm) (pw j i l2 l1 z)
  subst e;rw [hi] at hj;cases hj
  exact ⟨rfl,rfl⟩
 obtain ⟨rfl,rfl⟩:=ij;refine X5 (zaF (s:={ s with toks:=s.toks+kn.draws k }) ho hd ?_);rw [entry_at he i,hi];have el:=size_of_entries he;have il:=(X3.mp hi).1;refine X5 (wpAny_updateDictKeys (s:={ s with toks:=s.toks+kn.draws k }) (hz:=by omega) (hf:=by unfold Array.eraseIdxIfInBounds;split<;>simp<;>omega) ho hd (Ym (q _ ⟨_,_,ep+1,Zd _ ho (Obj.isFreed_of_dict (Obj.data_mapDictKeys hd _)),hc.mapDictKeys _,Obj.data_mapDictKeys hd _,?_,λx hx=>kn.keeps (Lx x (mem_of_mem_eraseIdx hx)) ho hd (zaL ..),?_⟩ (zaL ..))))
 ·rw [Array.eraseIdxIfInBounds,dif_pos (show i<es.size by omega),Array.toList_eraseIdx,he];have er:∀ (l:List (List Key×Addr×Value)) (i:Nat),(l.map (entryOfKey kn)).eraseIdx i=(l.eraseIdx i).map (entryOfKey kn):=λl=>by
   induction l with
   | nil=>intro i;rfl
   | cons x l ih=>intro i;cases i with
    | zero=>rfl
    | succ i=>simp [ih i]
  exact er xs i
 ·have er:∀ (l:List (List Key×Addr×Value)) (i:Nat),(l.eraseIdx i).map (·.1)=(l.map (·.1)).eraseIdx i:=λl=>by
   induction l with
   | nil=>intro i;rfl
   | cons x l ih=>intro i;cases i with
    | zero=>rfl
    | succ i=>simp [ih i]
  rw [er];exact hn.sublist (eraseIdx_sublist _ _)
end
section
variable {X:Cx} {pins:Wp} {σ:St} {H:Hp} {s:Shared} {a:Addr} {A:Around} {E:WF}
theorem KU (hu:A.units+1<cLine) (I:Inv X pins σ H s) (e:H a=some (.dT kvs)) (eb:H b=some (.tup (k.map kV))) (hj:kvs[j]?=some (k,v))
  (h:∀ w' s',Inv X pins σ (upd H a (.dT (kvs.eraseIdx j))) s'->RelV v w'->Q w' s'):wpAny (model X.prog X.w) A (call (.builtin "dict.pop") [.ref a,.ref b]) Q E s:=by
 obtain ⟨z,hd,xs,rel,dd⟩:=sS I.bH e;have xl:=zaM rel;have jl:=(X3.mp hj).1;have pick:∀ {l:List (List Key×V)} {m:List (List Key×Addr×Value)} (_:KT H l m) (j:Nat) (k:List Key) (v:V),l[j]?=some (k,v)->∃ (c:Addr) (w':Value),m[j]?=some (k,c,w')/\RelV v w':=by
  intro l m pr
  induction pr with
  | nil=>intro j k v e;simp at e
  | @cons p q ps qs hq _ ih=>
   intro j k v e;cases j with
   | zero=>
    have e:p=(k,v):=by simpa using e
    subst e;obtain ⟨q1,q2,q3⟩:=q;obtain ⟨a1,_,a3⟩:=hq;have a1:k=q1:=a1;subst a1;exact ⟨q2,q3,rfl,a3⟩
   | succ j=>simpa using ih j k v (by simpa using e)
 obtain ⟨c,w',hx,sg⟩:=pick rel j k v hj;have drop:∀ {l:List (List Key×V)} {m:List (List Key×Addr×Value)} (_:KT H l m) (j:Nat),KT H (l.eraseIdx j) (m.eraseIdx j):=by
  intro l m pr
  induction pr with
  | nil=>intro j;exact .nil
  | cons hq t ih=>
   intro j;cases j with
   | zero=>exact t
   | succ j=>exact .cons hq (ih j)
 have ty:=dd.typeIs;obtain ⟨o0,Wl,XX,Vw,QE,VS,VQ,_,_⟩:=id dd;refine call_meetsIn PySem.F.slot_dict_pop ty PySem.F.entry_dict_pop (PySem.F.args_dict_pop_2 _ _) (S:=λA' R t=>t=s/\A'.units+1<cLine/\∀ s',Inv X pins σ (upd H a (.dT (kvs.eraseIdx j))) s'->R (.ok (.ret w')) s') (.of_wp λA' R t ⟨et,Vi,k3⟩=>?_) ⟨rfl,?_,λs' I'=>?_⟩
 ·subst et;unfold Builtin.«dict.pop» Builtin.Dict.keyAndDefault;refine X5 (X5 (wpAny_notOrdered_dict ty ?_));show wpAny _ _ (pure (a,Value.ref b,none)) _ _ t;refine Ym ?_;simp only [keyPart,Option.isSome_none,YY,ZO];have en:Wl.isEmpty=false:=by
   have e1:=size_of_entries VQ;rw [Array.isEmpty,zaZ];omega
  refine X5 (zaF Vw VS (X5 (Ym ?_)));rw [en];simp only [ZO,YY];refine X5 (FP (kn:=tupleKind (bA X.prog X.w)) (Z8 Vi) (jM I.bH eb) dd hx (by omega) λh' Bd hs=>?_);simp only [ZO,Option.isNone_some,YY];refine X5 (zaX (Ym ⟨w',rfl,k3 _ ?_⟩));obtain ⟨q,es,ep,hq,h2,h3,h4,_,h5⟩:=Bd;have le:(kvs.eraseIdx j).length<=kvs.length:=by rw [length_eraseIdx];split<;>omega
  refine l9 I (by rw [e];exact True.intro) hs ⟨q,hq⟩ ⟨by omega,hd,_,(drop rel j).keeps λc ys ec=>?_,q,es,ep,hq,h2,h3,h4,h5⟩;rw [ak (Eh ec e (λz=>nomatch z))];exact ec
 ·exact hu
 ·exact h w' s' I' sg
def C6 (td ty:TE):TE:=λσ H Q=>td σ H λx H1=>∃ a,x=.ref a/\NS H1 a/\ty σ H1 λy H2=>∃ (kvs:List (List Key×V)) (j:Nat) (k:List Key) (v:V) (b:Addr),H2 a=some (.dT kvs)/\y=.ref b/\H2 b=some (.tup (k.map kV))/\kvs[j]?=some (k,v)/\Q v (upd H2 a (.dT (kvs.eraseIdx j)))
theorem DY (hu:X.A.units+1<cLine) (ho:PE X o td) (he:PE X e ty) (m:M1 X o "pop" apos e iw):PE X (.Call (.Attribute o "pop" apos) [e] [] iw) (C6 td ty):=by
 intro pins s σ H Q I h;refine wpAny_Call_method m.base m.IH m.line PySem.F.plainAttrs_dict PySem.F.slot_dict_pop PySem.F.type_dict_pop (cT (ho pins s σ H _ I h) λu s1 q9z=>?_);obtain ⟨x,H1,I1,rx,a,ex,d,q1⟩:=q9z;subst ex;obtain rfl:u=Value.ref a:=rx;obtain ⟨t1,t2,_⟩:=EA I1 d;refine ⟨t1,t2,?_⟩;rw [m.trees];refine zav rfl (zbs (Zk (cT (he pins s1 σ H1 _ I1 q1) λiv s2 q9z=>Zn ?_)));obtain ⟨y,H2,I2,ry,kvs,j,k,v,b,ea,ey,eb,hj,q2⟩:=q9z;subst ey;obtain rfl:iv=Value.ref b:=ry;exact KU hu I2 ea eb hj λw' s3 I3 sg=>⟨v,_,I3,sg,q2⟩
def C2 (H0:Hp) (t:TS):TS:=λD σ H=>t { D with nx:=λσ' H'=>∃ (d:Addr) (o:Obj) (kvs:List (List Key×V)),H' d=some (.fN o (.dT kvs))/\(∀ o' u',H0 d≠some (.fN o' u'))/\D.nx σ' (upd H' d (.dT kvs)) } σ H
theorem uo {st:Stmt} {t:TS} (h:PS X st t):PS X st (C2 X.H₀ t):=by
 intro pins s σ H D I q;refine cT (h pins s σ H _ I q) λf s' r=>?_;cases f with
 | next=>
  obtain ⟨σ',H',I',d,o,kvs,hf,h0,q'⟩:=r;exact ⟨σ',_,I'.OY hf (λxs z=>nomatch z) (λx z=>nomatch z) h0,q'⟩
 | brk=>exact r
 | cont=>exact r
 | ret u=>exact r
def Dz (h:t { D with nx:=λσ' H'=>∃ (d:Addr) (o:Obj) (kvs:List (List Key×V)),H' d=some (.fN o (.dT kvs))/\(∀ o' u',H0 d≠some (.fN o' u'))/\D.nx σ' (upd H' d (.dT kvs)) } σ H):C2 H0 t D σ H:=h
end
section
variable {X:Cx} {l a b:Expr} {tl:TE} {ta:TA} {p p2 p3 pos qU DV:Pos}
theorem rQ {lo st:Int} {n:Nat} (h:ItemsOf (λi v=>∃ t,v=Value.int (lo+(i:Int)*st) t) acc n):Vals (((List.range n).map λi:Nat=>lo+(i:Int)*st).map V.int) acc.toList:=by
 obtain ⟨hs,h⟩:=h;have key:∀ (l:XV) (k:Nat),(∀ j v,l[j]?=some v->∃ t,v=Value.int (lo+((k+j:Nat):Int)*st) t)->Vals (((List.range' k l.length).map λi:Nat=>lo+(i:Int)*st).map V.int) l:=by
  intro l
  induction l with
  | nil=>intro k _;exact .nil
  | cons a l ih=>
   intro k hk;rw [YV,range'_succ,Y8,Y8];refine .cons ?_ (ih (k+1) λj v e=>?_)
   ·obtain ⟨t,e⟩:=hk 0 a rfl;exact ⟨t,e⟩
   ·obtain ⟨t,e'⟩:=hk (j+1) v (by simpa using e);refine ⟨t,?_⟩;rw [e',show k+(j+1)=k+1+j by omega]
 have:=key acc.toList 0 λj v e=>by
  obtain ⟨t,e'⟩:=h j v (by rw [<-zaa];exact e);refine ⟨t,?_⟩;rw [e',ZL]
 rw [Y0,hs] at this;rw [range_eq_range'];exact this
def rT (ta:TA):TE:=λσ H Q=>ta σ H λvs H1=>∃ (lo:Int) (n:Nat),vs=[.int lo,.int (lo+n)]/\n<=1000/\-1000<=lo/\lo<=1000/\∀ p,H1 p=none->Q (.ref p) (upd H1 p (.lst (((List.range n).map λi:Nat=>lo+(i:Int)).map V.int)))
theorem qV (hc:X.calm=true) (hm:X.mg "range"=none) (Fz:X.mg "list"=none) (ha:PA X [a,b] ta) (hg:Gl X "range":=by rfl) (Kv:Gl X "list":=by rfl)
  (hs:starEach [a,b] X.env=[(false,eval a X.env),(false,eval b X.env)]:=by rfl) (AR:starEach [b] X.env=[(false,eval b X.env)]:=by rfl)
  (B6:starEach [.Call (.Name "range" p) [a,b] [] pos] X.env=(false,eval (.Call (.Name "range" p) [a,b] [] pos) X.env)::starEach [] X.env:=by rfl) :
  PE X (.Call (.Name "list" p2) [.Call (.Name "range" p) [a,b] [] pos] [] qU) (rT ta):=by
 intro pins s σ H Q I h;refine Call_ (dJ I Kv Fz i5 (YG ?_ B6 rfl));rw [B6];show wpAny _ _ (spliced ((false,eval (.Call (.Name "range" p) [a,b] [] pos) X.env)::backTo qU (starEach [] X.env))) _ _ s;refine Zk ?_;refine Call_ (dJ I hg hm boot_range (YG (cT (ha pos pins s σ H _ I h) λus s1 ⟨vs,H1,I1,r1,q1⟩=>?_) (by rw [hs,AR]) (by rw [AR];rfl)));obtain ⟨lo,n,rfl,hn,l1,l2,q⟩:=q1;cases r1 with
 | cons r rr=>
  cases rr with
  | cons r' rr=>
   cases rr
   obtain ⟨t,rfl⟩:=r;obtain ⟨t',rfl⟩:=r';refine call_range_2 ?_;refine Zn ?_;generalize jO:s1.heap.push { cls:=Value.type "range",data:=Data.fields #[Value.int lo t,Value.int (lo+n) t',Value.int 1 s1.toks] }=h';have kp:∀ c o,s1.heap.get? c=some o->h'.get? c=some o:=λc o e=>jO▸Yh _ e;have hz:IsRange h' s1.heap.objs.size lo (lo+n) 1 t t' s1.toks:=jO▸IsRange.new ..;have I2:Inv X pins σ H1 { s1 with heap:=h',toks:=s1.toks+1 }:=I1.kept kp;refine call_list_range (s:={ s1 with heap:=h',toks:=s1.toks+1 }) (n:=n) (I2.ok.hd hc) hz (small_one (by omega) (by omega) (by omega) (by omega)) (by rw [rangeSize_one];split<;>omega) (by omega) λh3 tk acc c hk hS hit=>?_;have I3:Inv X pins σ (upd H1 h'.objs.size (.lst (((List.range n).map λi:Nat=>lo+(i:Int)).map V.int))) { s1 with heap:=h3,toks:=tk }:=by
    refine Inv.jY (s:={ s1 with heap:=h',toks:=s1.toks+1 }) (ch:=[]) I2 (λb u _ e=>hk b u e) (λb hb=>by simp at hb) (X7 _) ?_;refine ⟨by rw [Pd,Pd,zaw,Yz];omega,acc.toList,c,?_,by rw [zak];exact hS⟩;have:=rQ (st:=1) hit;simpa only [Int.mul_one] using this
   exact ⟨.ref h'.objs.size,_,I3,rfl,q _ (I2.bH.fresh (X7 _))⟩
def down (n:Nat):UV:=(List.range n).map λi:Nat=>(n:Int)-1-(i:Int)
def mF (tl:TE):TE:=λσ H Q=>tl σ H λx H1=>∃ n:Nat,x=.int (n:Int)/\n<=1000/\∀ p,H1 p=none->Q (.ref p) (upd H1 p (.lst ((down n).map V.int)))
theorem nE (hc:X.calm=true) (hm:X.mg "range"=none) (VB:X.mg "reversed"=none) (Fz:X.mg "list"=none) (ha:PE X l tl) (hg:Gl X "range":=by rfl) (VM:Gl X "reversed":=by rfl) (Kv:Gl X "list":=by rfl)
  (he:starEach [l] X.env=(false,eval l X.env)::starEach [] X.env:=by rfl)
  (S0:starEach [.Call (.Name "range" p) [l] [] pos] X.env=(false,eval (.Call (.Name "range" p) [l] [] pos) X.env)::starEach [] X.env:=by rfl)
  (B6:starEach [.Call (.Name "reversed" p3) [.Call (.Name "range" p) [l] [] pos] [] DV] X.env=(false,eval (.Call (.Name "reversed" p3) [.Call (.Name "range" p) [l] [] pos] [] DV) X.env)::starEach [] X.env:=by rfl) :
  PE X (.Call (.Name "list" p2) [.Call (.Name "reversed" p3) [.Call (.Name "range" p) [l] [] pos] [] DV] [] qU) (mF tl):=by
 intro pins s σ H Q I h;refine Call_ (dJ I Kv Fz i5 (YG ?_ B6 rfl));rw [B6];show wpAny _ _ (spliced ((false,eval (.Call (.Name "reversed" p3) [.Call (.Name "range" p) [l] [] pos] [] DV) X.env)::backTo qU (starEach [] X.env))) _ _ s;refine Zk ?_;refine Call_ (dJ I VM VB boot_reversed (YG ?_ S0 rfl));rw [S0];show wpAny _ _ (spliced ((false,eval (.Call (.Name "range" p) [l] [] pos) X.env)::backTo DV (starEach [] X.env))) _ _ s;refine Zk ?_;refine Call_ (dJ I hg hm boot_range (YG ?_ he rfl));rw [he];show wpAny _ _ (spliced ((false,eval l X.env)::backTo pos (starEach [] X.env))) _ _ s;refine Zk (cT (ha pins s σ H _ I h) λu1 s1 q9z=>?_);obtain ⟨x,H1,I1,r1,q1⟩:=q9z;refine Zn ?_;obtain ⟨n,rfl,hn,q⟩:=q1;obtain ⟨t,rfl⟩:=r1;refine call_range_1 ?_;refine Zn ?_;generalize jO:s1.heap.push { cls:=Value.type "range",data:=Data.fields #[Value.int 0 s1.toks,Value.int (n:Int) t,Value.int 1 (s1.toks+1)] }=h';have kp:∀ c o,s1.heap.get? c=some o->h'.get? c=some o:=λc o e=>jO▸Yh _ e;have hz:IsRange h' s1.heap.objs.size 0 (n:Int) 1 s1.toks t (s1.toks+1):=jO▸IsRange.new ..;have I2:Inv X pins σ H1 { s1 with heap:=h',toks:=s1.toks+1+1 }:=I1.kept kp;refine ku (s:={ s1 with heap:=h',toks:=s1.toks+1+1 }) hz hn ?_;refine Zn ?_;generalize IC:h'.push { cls:=Value.type "range_iterator",data:=Data.fields #[rawInt ((n:Int)-1),rawInt (n:Int),rawInt (-1)] }=g;have JY:∀ c o,h'.get? c=some o->g.get? c=some o:=λc o e=>IC▸Yh _ e;have Fx:IsRangeIter g h'.objs.size ((n:Int)-1) (n:Int) (-1):=IC▸YH _ rfl;have I3:Inv X pins σ H1 { s1 with heap:=g,toks:=s1.toks+1+1 }:=I2.kept (s:={ s1 with heap:=h',toks:=s1.toks+1+1 }) (t':=s1.toks+1+1) JY;have fz:n9 X pins H1 h'.objs.size:=I2.rC (X7 _) (I2.bH.fresh (X7 _));refine vd (s:={ s1 with heap:=g,toks:=s1.toks+1+1 }) (I3.ok.hd hc) Fx (by rw [Yz];omega) λh3 tk acc c hk hS hit=>?_;have I4:Inv X pins σ (upd H1 g.objs.size (.lst ((down n).map V.int))) { s1 with heap:=h3,toks:=tk }:=by
  refine Inv.jY (s:={ s1 with heap:=g,toks:=s1.toks+1+1 }) (ch:=[h'.objs.size]) I3 (λb u hb e=>hk b u (by simpa using hb) e) (λb hb=>by rw [X9.mp hb];exact fz) (X7 _) ?_;refine ⟨by unfold down;rw [Pd,Pd,zaw,Yz];omega,acc.toList,c,?_,by rw [zak];exact hS⟩;have:=rQ (lo:=(n:Int)-1) (st:=-1) hit;have e:(List.range n).map (λi:Nat=>(n:Int)-1+(i:Int) * -1)=down n:=by
   unfold down;exact Zg λi _=>by omega
  rw [e] at this;exact this
 exact ⟨.ref g.objs.size,_,I4,rfl,q _ (I3.bH.fresh (X7 _))⟩
def Ie (K:Frag):List V->Hp->VK->Prop:=λvs H Q=>∃ (a:Addr) (ns:UV),vs=[.ref a]/\aN K H a (ns.map V.int)/\ns≠[]/\∀ m,m∈ns->(∀ x∈ns,x<=m)->Q (.int m) H
theorem sW (hc:X.calm=true):fG X (.builtin "max") (Ie X.K):=by
 intro pins s σ H xs us Q I r h;obtain ⟨a,ns,rfl,ha,h0,q⟩:=h;obtain ⟨u,rfl,ru⟩:=vals1 r;cases ru
 obtain ⟨aY,rv,pl,hz⟩:=I.list ha;have hi:IntsAre aY ns:=intsAre_of rv;obtain ⟨xs,e⟩:=hi.allInts.items;have zd:ns=xs.toList.map (·.1):=by rw [<-hi.numsOf,<-nums_intItems,<-e]
 have hl:=pl.isList;rw [e] at hl;have h1:0<xs.size:=by
  have:=Zz.mpr h0;rw [zd,Pd,Y0] at this;exact this
 refine max_intList (I.ok.hd hc) hl h1 λv h' tk hv kk=>?_;obtain ⟨t,rfl⟩:=intItems_at hv;obtain ⟨g1,g2⟩:=argBest_gt (numAt xs) (xs.size-1);refine ⟨.int _,H,I.kept kk,⟨t,rfl⟩,q _ ?_ λx hx=>?_⟩
 ·rw [zd,numAt_eq];exact getD_mem (by rw [Pd,Y0];omega)
 ·rw [zd] at hx;obtain ⟨j,hj,rfl⟩:=mem_getD hx;rw [Pd,Y0] at hj;rw [<-numAt_eq];exact g2 j (by omega)
def zB {K:Frag} (h:X.K=K) (hc:X.calm=true):fG X (.builtin "max") (Ie K):=h▸sW hc
end
def yE (h:ta σ H λvs H1=>∃ (lo:Int) (n:Nat),vs=[.int lo,.int (lo+n)]/\n<=1000/\-1000<=lo/\lo<=1000/\∀ p,H1 p=none->Q (.ref p) (upd H1 p (.lst (((List.range n).map λi:Nat=>lo+(i:Int)).map V.int)))):rT ta σ H Q:=h
def oZ (h:tl σ H λx H1=>∃ n:Nat,x=.int (n:Int)/\n<=1000/\∀ p,H1 p=none->Q (.ref p) (upd H1 p (.lst ((down n).map V.int)))):mF tl σ H Q:=h
theorem zA {R:Hp->Prop} {acc d:Addr} {o:Obj} {kvs:List (List Key×V)} {g:TG} {tt:TT} {te:TE} (Pv:Nat->St->List V->Hp->Prop) (h0:Pv 0 σ [] H) (hl:∀ i σ ys H,i<=kvs.length->Pv i σ ys H->H d=some (.fN o (.dT kvs)))
  (hs:∀ i k v b σ ys H,kvs[i]?=some (k,v)->H b=some (.tup (k.map kV))->i<kvs.length->Pv i σ ys H->g (.ref b) σ H λσ2 H4=>tt σ2 H4 λbb H5=>if bb=true then te σ2 H5 λy H6=>H6 acc=some (.lst ys)/\ys.length<sizeLine/\∃ m',m'<kvs.length-i/\(m'=kvs.length-(i+1)/\i+1<=kvs.length/\Pv (i+1) σ2 (ys++[y]) (upd H6 acc (.lst (ys++[y])))) else ∃ m',m'<kvs.length-i/\(m'=kvs.length-(i+1)/\i+1<=kvs.length/\Pv (i+1) σ2 ys H5))
  (hd:∀ σ ys H,Pv kvs.length σ ys H->R H) :
  ∃ W:Nat->Nat->St->List V->Hp->Prop,(∃ m,W 0 m σ [] H)/\∀ i m σ' ys H2,W i m σ' ys H2->(((Hu d o kvs).stop i H2/\R H2)\/((Hu d o kvs).go i H2/\∀ x H3,(Hu d o kvs).vo i H2 x H3->g x σ' H3 λσ2 H4=>tt σ2 H4 λb H5=>
   if b=true then te σ2 H5 λy H6=>H6 acc=some (.lst ys)/\ys.length<sizeLine/\∃ m',m'<m/\W (i+1) m' σ2 (ys++[y]) (upd H6 acc (.lst (ys++[y]))) else ∃ m',m'<m/\W (i+1) m' σ2 ys H5)):=by
 refine ⟨λi m σ ys H=>m=kvs.length-i/\i<=kvs.length/\Pv i σ ys H,⟨kvs.length,by simp,YK _,h0⟩,?_⟩;rintro i m σ ys H ⟨rfl,hi,p⟩;have q:=hl i σ ys H hi p;by_cases eK:i<kvs.length
 ·refine .inr ⟨⟨q,eK⟩,λx H' y=>?_⟩;obtain ⟨e,k,v,b,hk,hb,rfl⟩:=y;subst e;exact hs i k v b σ ys _ hk hb eK p
 ·have e:i=kvs.length:=by omega
  subst e;exact .inl ⟨⟨q,X7 _⟩,hd σ ys H p⟩
end L2
namespace Dt
def sm:Nat->(Nat->Int)->Int
 | 0,_=>0
 | n+1,f=>sm n f+f n
theorem dX {f g:Nat->Int}:∀ {n:Nat},(∀ i,i<n->f i=g i)->sm n f=sm n g
 | 0,_=>rfl
 | n+1,h=>by
  show sm n f+f n=sm n g+g n;rw [dX λi hi=>h i (ZK hi),h n (ZG n)]
theorem j4 {f:Nat->Int}:∀ {n:Nat},(∀ i,i<n->f i=0)->sm n f=0
 | 0,_=>rfl
 | n+1,h=>by
  show sm n f+f n=0;rw [j4 λi hi=>h i (ZK hi),h n (ZG n)]
  rfl
theorem Ji {f g:Nat->Int} (a b:Int):∀ (n:Nat),sm n (λi=>a*f i+b*g i)=a*sm n f+b*sm n g
 | 0=>by simp [sm]
 | n+1=>by
  show sm n (λi=>a*f i+b*g i)+(a*f n+b*g n)=a*(sm n f+f n)+b*(sm n g+g n);rw [Ji a b n];grind
theorem tT {f:Nat->Int} (a:Int):∀ (n:Nat),sm n (λi=>a*f i)=a*sm n f
 | 0=>by simp [sm]
 | n+1=>by
  show sm n (λi=>a*f i)+a*f n=a*(sm n f+f n);rw [tT a n];grind
theorem oO {f g:Nat->Int}:∀ (n:Nat),sm n (λi=>f i+g i)=sm n f+sm n g
 | 0=>by simp [sm]
 | n+1=>by
  show sm n (λi=>f i+g i)+(f n+g n)=(sm n f+f n)+(sm n g+g n);rw [oO n];omega
theorem oN {f g:Nat->Int}:∀ (n:Nat),sm n (λi=>f i-g i)=sm n f-sm n g
 | 0=>by simp [sm]
 | n+1=>by
  show sm n (λi=>f i-g i)+(f n-g n)=(sm n f+f n)-(sm n g+g n);rw [oN n];omega
theorem kL {f:Nat->Int} {k:Nat}:∀ {n:Nat},k<n->(∀ i,i<n->i≠k->f i=0)->sm n f=f k
 | n+1,hk,h=>by
  show sm n f+f n=f k;by_cases e:k=n
  ·subst e;rw [j4 λi hi=>h i (ZK hi) (YR hi)];omega
  ·rw [kL (k:=k) (by omega) λi hi=>h i (ZK hi),h n (ZG n) (λz=>e z.symm)];omega
theorem Ac (f:Nat->Nat->Int) (m:Nat):∀ (n:Nat),sm n (λi=>sm m (f i))=sm m λj=>sm n λi=>f i j
 | 0=>by rw [show sm 0 (λi=>sm m (f i))=0 from rfl,j4];intro i _;rfl
 | n+1=>by
  show sm n (λi=>sm m (f i))+sm m (f n)=sm m λj=>sm n (λi=>f i j)+f n j;rw [Ac f m n,oO]
def sk (j l:Nat):Nat:=if l<j then l else l+1
abbrev Mx:=Nat->Nat->Int
def mi (A:Mx) (j:Nat):Mx:=λi l=>A (i+1) (sk j l)
def cl (A:Mx) (c:Nat) (v:Nat->Int):Mx:=λi j=>if j=c then v i else A i j
def dn (j c:Nat):Nat:=if c<j then c else c-1
def un (k i:Nat):Int:=if i=k then 1 else 0
def rl (A:Mx) (k:Nat) (v:Nat->Int):Mx:=λi j=>if i=k then v j else A i j
def mx (L:UF):Mx:=λi j=>(L.getD i []).getD j 0
theorem getD_none {l:UV} {j:Nat} (h:l.length<=j):l.getD j 0=0:=by
 rw [Yn,ZI h]
 rfl
end Dt
namespace Gm
open PySem L2
theorem sU {k:Nat} (h:k<=xs.length):ng xs (some (k:Int)) none=xs.drop k:=by
 unfold ng HT.ug;dsimp only;rw [X6 (by omega),show min ((k:Int).toNat) xs.length=k by omega,zai (by rw [Zs];omega)]
theorem m7 {k:Nat} (h:k<=xs.length):ng xs none (some (k:Int))=xs.take k:=by
 unfold ng HT.ug;dsimp only;rw [X6 (by omega),show min ((k:Int).toNat) xs.length=k by omega,drop_zero,zbH]
theorem aX.dropped (g:aX H p as L) (k:Nat) (hq:H q=none):aX (upd H q (.lst ((as.drop k).map V.ref))) q (as.drop k) (L.drop k):=
 ⟨ae,by rw [Zs,Zs,g.len],λi a l h1 h2=>by
  rw [getElem?_drop] at h1 h2;have:=g.row _ a l h1 h2;rw [ak (λz=>by rw [z,hq] at this;cases this)];exact this⟩
theorem aX.taken (g:aX H p as L) (k:Nat) (hq:H q=none):aX (upd H q (.lst ((as.take k).map V.ref))) q (as.take k) (L.take k):=
 ⟨ae,by rw [YW,YW,g.len],λi a l h1 h2=>by
  rw [getElem?_take] at h1 h2;split at h1
  ·rename_i z;rw [Ya z] at h2;have:=g.row _ a l h1 h2;rw [ak (λz=>by rw [z,hq] at this;cases this)];exact this
  ·cases h1⟩
theorem aX.one (h:H a=some (.lst (l.map V.int))) (hq:H q=none):aX (upd H q (.lst [.ref a])) q [a] [l]:=
 ⟨ae,rfl,λi b k h1 h2=>by
  have i0:i=0:=by
   have:=(X3.mp h1).1;rw [YX] at this;omega
  subst i0;cases h1
  cases h2
  rw [ak (λz=>by rw [z,hq] at h;cases h)];exact h⟩
theorem wj {R:Hp->Prop} {acc:Addr} {n:Nat} {te:TE} {rest:List (Option V)} {H:Hp} (f:Nat->UV)
  (MP:∀ (i:Nat) (H':Hp) (Q':VK),i<n->ah H H'->(∀ c Lc,ah H' Lc->H' c=none->Lc c=some (.lst ((f i).map V.int))->Q' (.ref c) Lc)->te (some (.int (i:Int))::rest) H' Q') (a9:H acc=none) (hn:n<=1000)
  (q:∀ cs H',ah H H'->aX H' acc cs ((List.range n).map f)->(acc::cs).Nodup->(∀ b∈acc::cs,H b=none)->R H') :
  ∃ W:Nat->Nat->St->List V->Hp->Prop,(∃ m,W 0 m (none::rest) [] (upd H acc (.lst [])))/\∀ i m σ' ys H2,W i m σ' ys H2->(((Ct 0 n).stop i H2/\R H2)\/((Ct 0 n).go i H2/\∀ x H3,(Ct 0 n).vo i H2 x H3->jQ 0 x σ' H3 λσ2 H4=>rS σ2 H4 λb H5=>
   if b=true then te σ2 H5 λy H6=>H6 acc=some (.lst ys)/\ys.length<sizeLine/\∃ m',m'<m/\W (i+1) m' σ2 (ys++[y]) (upd H6 acc (.lst (ys++[y]))) else ∃ m',m'<m/\W (i+1) m' σ2 ys H5)):=by
 refine dz (lo:=0) (λi σ' ys Hx=>∃ (bs:XL) (v:Option V),σ'=v::rest/\ys=bs.map V.ref/\ah H Hx/\bs.length=i/\aX Hx acc bs ((List.range i).map f)/\(acc::bs).Nodup/\∀ b∈acc::bs,H b=none)
  ⟨[],none,rfl,rfl,ah.upd a9,rfl,⟨ae,rfl,λi a l z=>by simp at z⟩,by simp,by simpa using a9⟩ ?_ ?_
 ·rintro i σ' ys Hx hi ⟨bs,v,rfl,rfl,e2,rfl,g2,BR,KJ⟩;refine SL ?_;refine kP ?_;refine GN ?_;show te (some (.int (0+(bs.length:Int)))::rest) Hx _;rw [Zj];refine MP bs.length Hx _ hi e2 λc Hy e3 hc c3=>?_;have nc:=g2.gJ hc;have cH:H c=none:=e2.free hc;have g3:=g2.same e3;have Mw:c≠acc:=λz=>nc (z▸Yg);refine ⟨g3.top,by rw [Pd];exact aC (by omega),bQ hi ⟨bs++[c],_,rfl,by simp,ah.fresh (e2.trans e3) (KJ _ Yg),by simp,?_,?_,λy hy=>?_⟩⟩
  ·rw [Z9,Yl];exact g3.snoc (Yp.mp BR).1 Mw c3
  ·obtain ⟨n1,n2⟩:=Yp.mp BR;refine Yp.mpr ⟨λz=>?_,lE.mpr ⟨λz=>nc (X8 _ z),n2⟩⟩;rcases Ye.mp z with z|z
   ·exact n1 z
   ·exact Mw (X9.mp z).symm
  ·rcases Yk.mp hy with z|z
   ·rw [z];exact KJ _ Yg
   ·rcases Ye.mp z with z|z
    ·exact KJ y (X8 _ z)
    ·rw [X9.mp z];exact cH
 ·rintro σ' ys H4 ⟨cs,v,rfl,rfl,e4,VX,g4,Mu,KI⟩;exact q cs H4 e4 g4 Mu KI
def nI (cs:List Nat):UV:=cs.map λc:Nat=>(c:Int)
theorem aX.two (h:H a=some (.lst (l.map V.int))) (k:H b=some (.lst (m.map V.int))) (hq:H q=none):aX (upd H q (.lst [.ref a,.ref b])) q [a,b] [l,m]:=by
 have na:a≠q:=λz=>by rw [z,hq] at h;cases h
 have nb:b≠q:=λz=>by rw [z,hq] at k;cases k
 refine ⟨ae,rfl,λi c r h1 h2=>?_⟩
 match i with
 | 0=>simp at h1 h2;subst h1 h2;rw [ak na];exact h
 | 1=>simp at h1 h2;subst h1 h2;rw [ak nb];exact k
 | (j+2)=>simp at h1
theorem tI (h:k<=r.length):cU r k=bU r k r.length:=by
 by_cases z:k=r.length
 ·subst z;unfold cU bU;rw [drop_length,nil_append,Y6];refine zbu (by simp) λi h1 h2=>?_;rw [zat,getElem_range,bD (show (r.length+i)%r.length=i%r.length by rw [zbF,Yq]),eO h1]
 ·have hk:k<r.length:=by omega
  refine zbu (by rw [cV h,aZ]) λi h1 h2=>?_;rw [cV h] at h1;have e:=gV hk i;rw [eO (by rw [cV h];exact h1)] at e;rw [e];have w:=mw (r:=r) (s:=k) (m:=r.length) h1;rw [X4 (by rw [aZ];exact h1)] at w;rw [Yf w,zbF]
theorem vB (h:k<=m):(bU r s m).take k=bU r s k:=by
 unfold bU;rw [<-map_take,take_range,Nat.min_eq_left h]
theorem CQ (h:k<=m):(bU r s m).drop k=bU r (s+k) (m-k):=by
 refine zbE λi=>?_;rw [getElem?_drop];by_cases z:i<m-k
 ·rw [mw z,mw (by omega),zbq]
 ·rw [ZI (by rw [aZ];omega),ZI (by rw [aZ];omega)]
theorem oC:bU r s (m+1)=bU r s m++[cy r (s+m)]:=by
 unfold bU;rw [Z9,Yl]
 rfl
def Fv (ks:List (aw×Addr)) (pl:Int):UV:=((ks.map (·.1)).filter λd=>decide (d.1=pl)).map (·.2)
theorem GC:x∈Fv ks pl↔(pl,x)∈ks.map (·.1):=by
 unfold Fv;constructor
 ·intro h;obtain ⟨d,hd,e⟩:=Yc.mp h;obtain ⟨h1,h2⟩:=Zb.mp hd;have h2:=ZX h2;rw [<-h2,<-e];exact h1
 ·intro h;exact Yc.mpr ⟨(pl,x),Zb.mpr ⟨h,YC rfl⟩,rfl⟩
theorem xH {ic ip jf:Nat} {pl:Int} (cd:CD H gd L R ks) (h0:H0 gd=none) (hc:σ[ic]?=some (some (.ref gd))) (hp:σ[ip]?=some (some (.int pl)))
  (p0:0<=pl) (p1:pl<L.length) (ne:tx L pl≠[]) (hl:ks.length<=5000)
  (q:∀ m H',m∈tx L pl->(∀ x∈tx L pl,m<=x)->ah H H'->D.nx (σ.set jf (some (.int m))) H') :
  C2 H0 (C9 (NZ (Ic K) (kz (rV (y8 (fI ic)) (G3 K 2 (AX (jQ 0) (AX (jQ 1) KG))) (C3 (C4 Pe (fI 0) (fI 2))) (fI 1) 2 [ip]) yt)) (jQ jf)) D σ H:=by
 have row:∀ x,x∈Fv ks pl↔x∈tx L pl:=λx=>by
  rw [GC,cd.mem];exact ⟨λh=>h.mem,λh=>⟨p0,p1,h⟩⟩
 refine Dz (TW (jd (aJ (bR (wz (SC hc ⟨gd,kC ks,rfl,cd.top,λo=>?_⟩))))));intro acc a9;have e0:∀ b u,b≠gd->H b=some u->upd H gd (.fN o (.dT (kC ks))) b=some u:=λb u nb e=>by rw [ak nb];exact e
 have f0:upd H gd (.fN o (.dT (kC ks))) gd=some (.fN o (.dT (kC ks))):=ae;generalize upd H gd (.fN o (.dT (kC ks)))=Hf at e0 f0 a9 ⊢;have bs:gL 2 [ip] σ=[none,none,some (.int pl)]:=by
  unfold gL;simp [hp]
 rw [bs];refine zA (λi σ' ys H4=>∃ v1 v2:Option V,σ'=[v1,v2,some (.int pl)]/\ys=(Fv (ks.take i) pl).map V.int/\ah Hf H4/\H4 acc=some (.lst ys)) ⟨none,none,rfl,rfl,ah.upd a9,ae⟩ (by rintro i σ' ys H4 _ ⟨_,_,_,_,e,_⟩;exact e _ _ f0) ?_ ?_
 ·rintro i k v b σ' ys H4 hk hb hi ⟨v1,v2,rfl,rfl,e4,h4⟩;rw [qi] at hi;obtain ⟨d,a,VR,rfl⟩:∃ d a,ks[i]?=some (d,a)/\k=gT d:=by
   unfold kC at hk;rw [Yj] at hk;cases e:ks[i]? with
   | none=>rw [e] at hk;cases hk
   | some z=>rw [e] at hk;cases hk;exact ⟨z.1,z.2,rfl,rfl⟩
  have tk:ks.take (i+1)=ks.take i++[(d,a)]:=take_snoc VR;have nl:(Fv (ks.take i) pl).length<=i:=by
   unfold Fv;rw [Pd];refine Y2 (Zy _ _) ?_;rw [Pd,YW];omega
  refine iK (SqT.of hb) rfl ?_;refine gH (SL (gH (SL (o5 ?_))));refine oY (ST (SC rfl (SC rfl (DG ?_))));refine ⟨_,rfl,?_⟩;by_cases z:d.1=pl
  ·rw [YC z];refine GN (SC rfl ?_);refine ⟨h4,by rw [Pd,Yz];omega,bQ (by rw [qi];exact hi) ⟨_,_,rfl,?_,ah.fresh e4 a9,ae⟩⟩;rw [tk];unfold Fv;rw [Yl,Zx,Yl,Yl];rw [zam,Z5,Ya (YC z)]
   rfl
  ·rw [Yw z];refine Ol (bQ (by rw [qi];exact hi) ⟨_,_,rfl,?_,e4,h4⟩);rw [tk];unfold Fv;rw [Yl,Zx,Yl,Yl,zam,Z5,X6 (by simpa using z)];simp
 ·rintro σ' ys H4 ⟨v1,v2,rfl,rfl,e4,h4⟩;rw [qi,Y6] at h4;refine bc ⟨acc,Fv ks pl,rfl,aN.of h4,λz=>?_,λm hm hle=>?_⟩
  ·obtain ⟨x,hx⟩:=exists_mem_of_ne_nil _ ne;have:=(row x).mpr hx;rw [z] at this;cases this
  ·refine SL ⟨gd,o,kC ks,e4 _ _ f0,(λo' u'=>by rw [h0];exact λz=>nomatch z),?_⟩;refine q m _ ((row m).mp hm) (λx hx=>hle x ((row x).mpr hx)) λb u hb=>?_;by_cases z:b=gd
   ·subst z;rw [cd.top] at hb;rw [ae];exact hb
   ·rw [ak z];exact e4 _ _ (e0 b u z hb)
theorem behind (im:aB L) {p:Int} (p0:0<=p) (p1:p<L.length) {c:Int} {j:Nat} (h:Dt L (c,p)) (e:nx L (c,p)=(p,cy (tx L p) j)):c=cy (tx L p) (j+1):=by
 have nd:=im.nd _ _ (aE p0 p1);have cm:=(h.back im).2.2.2;have r0:0<(tx L p).length:=ZW cm;have e2:pre (tx L p) c=cy (tx L p) j:=Yt Prod.snd e;exact ur nd cm (dR r0) (e2.trans (fJ nd r0 j).symm)
def fm (L R:UF) (b:Int) (i0 m:Nat):UV:=(List.range m).map λu=>lo R (b,cy (tx L b) (i0+u))
theorem CU (ld:eP L R) (im:aB L) {b:Int} (b0:0<=b) (b1:b<L.length) {i0:Nat} (hi:i0<(tx L b).length):dD (fm L R b i0 (tx L b).length) (rd L R b):=by
 have r0:0<(tx L b).length:=by omega
 have nd:=im.nd _ _ (aE b0 b1);have rl:(rd L R b).length=(tx L b).length:=Pd _;have key:∀ j,lo R (b,cy (tx L b) j)=cy (rd L R b) (j+1):=λj=>by
  have bk:=cI im b0 b1 (dR (j:=j+1) r0);have dt:Dt L (cy (tx L b) (j+1),b):=⟨bk.1,bk.2.1,bk.2.2.2⟩;have e:nx L (cy (tx L b) (j+1),b)=(b,cy (tx L b) j):=by
   show (b,pre (tx L b) (cy (tx L b) (j+1)))=_;rw [fJ nd r0]
  rw [<-e,Er ld dt];unfold rd;rw [qF _ r0]
 have w:fm L R b i0 (tx L b).length=bU (rd L R b) (i0+1) (rd L R b).length:=by
  unfold fm bU;rw [rl];refine Zg λu _=>?_;rw [key,show i0+u+1=i0+1+u by omega]
 rw [w,<-tI (by omega)];by_cases z:i0+1<(rd L R b).length
 ·exact .inr ⟨i0+1,z,rfl⟩
 ·left;unfold cU;rw [show i0+1=(rd L R b).length by omega,drop_length,Y6,nil_append]
theorem TY.turned (t:TY L) (ld:eP L R) (hl:R'.length=L.length) (h:∀ (b:Nat) (q:UV),R'[b]?=some q->dD q (rd L R (b:Int))):TR R' R.length:=by
 have D:=t.zN.Ts t.bS t.mj t.four ld;have dt:=t.QX ld;have e:((List.range L.length).map λb:Nat=>sh 0 (rd L R (b:Int)))=((List.range L.length).map λb:Nat=>rd L R (b:Int)).map (sh 0):=by rw [zaE];rfl
 have d:=D.dec;rw [e] at d;have RG:=d.O9 dt.map;refine ⟨Du R,dt,RG.O6 (by rw [hl,Pd,zaw]) λi q r hq hr=>?_,eZ⟩;rw [Yj] at hr;have il:i<L.length:=by have:=(X3.mp hq).1;omega
 rw [getElem?_range il] at hr;cases hr
 exact h i q hq
theorem Ei (h:oA n l) (hj:j<l.length) (hk:k<l.length):oA n ((l.set k l[j]).set j l[k]):=by
 have len:((l.set k l[j]).set j l[k]).length=l.length:=by rw [zaG,zaG]
 have at':∀ i (hi:i<((l.set k l[j]).set j l[k]).length),∃ u,∃ hu:u<l.length,((l.set k l[j]).set j l[k])[i]=l[u]/\u=(if i=j then k else if i=k then j else i):=λi hi=>by
  rw [len] at hi;by_cases z:i=j
  ·subst z;exact ⟨k,hk,by rw [getElem_set_self],by rw [Ya rfl]⟩
  ·by_cases y:i=k
   ·subst y;exact ⟨j,hj,by rw [getElem_set_ne (YU z),getElem_set_self],by rw [X6 z,Ya rfl]⟩
   ·exact ⟨i,hi,by rw [getElem_set_ne (YU z),getElem_set_ne (YU y)],by rw [X6 z,X6 y]⟩
 refine ⟨by rw [len];exact h.len,YS.mpr λa b ha hb xt e=>?_,λx hx=>?_⟩
 ·obtain ⟨u,hu,e1,eu⟩:=at' a ha;obtain ⟨v,hv,e2,ev⟩:=at' b hb;rw [e1,e2] at e;have:u=v:=by
   rcases ZA u v with z|z|z
   ·exact absurd e (YS.mp h.nd u v hu hv z)
   ·exact z
   ·exact absurd e.symm (YS.mp h.nd v u hv hu z)
  rw [eu,ev] at this;split at this<;>split at this<;>(try split at this)<;>(try split at this)<;>omega
 ·obtain ⟨i,hi,e⟩:=Yv.mp hx;obtain ⟨u,hu,e1,_⟩:=at' i hi;rw [<-e,e1];exact h.rg _ (Zu hu)
theorem Dr {K:ZB} {R:Hp->Prop} {acc p:Addr} {as:XL} {L:UF} {te:TE} {rest:List (Option V)} {H:Hp} (f:UV->UV) (gp:aX H p as L)
  (MP:∀ (b:Addr) (l:UV) (H':Hp) (Q':VK),l∈L->ah H H'->H' b=some (.lst (l.map V.int))->(∀ c Lc,ah H' Lc->H' c=none->Lc c=some (.lst ((f l).map V.int))->Q' (.ref c) Lc)->te (some (.ref b)::rest) H' Q') (a9:H acc=none) (hn:L.length<=1000)
  (q:∀ cs H',ah H H'->aX H' acc cs (L.map f)->(acc::cs).Nodup->(∀ b∈acc::cs,H b=none)->R H') :
  ∃ W:Nat->Nat->St->List V->Hp->Prop,(∃ m,W 0 m (none::rest) [] (upd H acc (.lst [])))/\∀ i m σ' ys H2,W i m σ' ys H2->(((zF K p).stop i H2/\R H2)\/((zF K p).go i H2/\∀ x H3,(zF K p).vo i H2 x H3->jQ 0 x σ' H3 λσ2 H4=>rS σ2 H4 λb H5=>
   if b=true then te σ2 H5 λy H6=>H6 acc=some (.lst ys)/\ys.length<sizeLine/\∃ m',m'<m/\W (i+1) m' σ2 (ys++[y]) (upd H6 acc (.lst (ys++[y]))) else ∃ m',m'<m/\W (i+1) m' σ2 ys H5)):=by
 refine cF (K:=K) (a:=p) (xs:=as.map V.ref) (λi σ' ys Hx=>∃ (bs:XL) (v:Option V),σ'=v::rest/\ys=bs.map V.ref/\ah H Hx/\bs.length=i/\aX Hx acc bs ((L.map f).take i)/\(acc::bs).Nodup/\∀ b∈acc::bs,H b=none)
  ⟨[],none,rfl,rfl,ah.upd a9,rfl,⟨ae,rfl,λi a l z=>by simp at z⟩,by simp,by simpa using a9⟩ (by rintro i σ' ys Hx _ ⟨_,_,_,_,e,_⟩;exact aN.of (e _ _ gp.top)) ?_ ?_
 ·rintro i x σ' ys Hx hx hi ⟨bs,v,rfl,rfl,e2,rfl,g2,BR,KJ⟩;obtain ⟨b,l,ha,hl,bK⟩:=gp.at (i:=bs.length) (by rw [Pd,gp.len] at hi;exact hi);obtain rfl:x=V.ref b:=by
   rw [Yj,ha] at hx;exact (Yf hx).symm
  have Ku:=hi;rw [Pd,gp.len] at Ku;have VC:(L.map f)[bs.length]?=some (f l):=by rw [Yj,hl];rfl
  refine SL ?_;refine kP ?_;refine GN (MP b l Hx _ (Yb hl) e2 (e2 _ _ bK) λc Hy e3 hc c3=>?_);have nc:=g2.gJ hc;have cH:H c=none:=e2.free hc;have g3:=g2.same e3;have Mw:c≠acc:=λz=>nc (z▸Yg);refine ⟨g3.top,by rw [Pd];exact aC (by omega),bQ hi ⟨bs++[c],_,rfl,by simp,ah.fresh (e2.trans e3) (KJ _ Yg),by simp,?_,?_,λy hy=>?_⟩⟩
  ·rw [take_snoc VC];exact g3.snoc (Yp.mp BR).1 Mw c3
  ·obtain ⟨n1,n2⟩:=Yp.mp BR;refine Yp.mpr ⟨λz=>?_,lE.mpr ⟨λz=>nc (X8 _ z),n2⟩⟩;rcases Ye.mp z with z|z
   ·exact n1 z
   ·exact Mw (X9.mp z).symm
  ·rcases Yk.mp hy with z|z
   ·rw [z];exact KJ _ Yg
   ·rcases Ye.mp z with z|z
    ·exact KJ y (X8 _ z)
    ·rw [X9.mp z];exact cH
 ·rintro σ' ys H4 ⟨cs,v,rfl,rfl,e4,VX,g4,Mu,KI⟩;rw [Pd,gp.len,zai (by rw [Pd];exact X7 _)] at g4;exact q cs H4 e4 g4 Mu KI
theorem TR.named (h:TR R n) (nm:oA n l):TR (R.map (List.map (fK l))) n:=by
 obtain ⟨L,t,ld,rfl⟩:=h;obtain ⟨B,rn⟩:=Jv nm;exact ⟨B,t.HS ld rn nm,ld.HS rn nm t.map,rn.len⟩
end Gm
namespace L2
open PySem PySem.Spec PySem.W PySem.Calls PyProof.Rows
theorem kY:∀ (l:List Bool) (y:Bool) (m:Nat) (h:m<l.length),m<l.idxOf y->l[m]≠y
 | [],_,m,h,_=>by simp at h
 | z::l,y,m,h,hm=>by
  rw [zaJ] at hm;by_cases e:z=y
  ·rw [e] at hm;simp at hm
  ·have e2:(z==y)=false:=zaA e;rw [e2] at hm;cases m with
   | zero=>exact e
   | succ m=>exact kY l y m (by simpa using h) (by simpa using hm)
def Ge:V->List V->Hp->VK->Prop:=λx vs H Q=>∃ (l:Addr) (bs:List Bool) (y:Bool),x=.ref l/\vs=[.bl y]/\H l=some (.lst (bs.map V.bl))/\y∈bs/\Q (.int (bs.idxOf y:Nat)) H
theorem BS:LI X "list.index" Ge:=by
 intro pins s σ H x vs v us Q I rx rv h;obtain ⟨l,bs,y,rfl,rfl,hH,hy,q⟩:=h;cases rx
 obtain ⟨u,rfl,hu⟩:=rv.one;have hu:u=Value.bool y:=hu;subst hu;obtain ⟨z,aY,n,r,hl,e⟩:=I.uM hH;obtain rfl:=sZ r;have Tb:=mT;have hj:bs.idxOf y<bs.length:=Zh hy;rw [Pd] at z;let ev:Value->Bool:=λv=>match v with | .bool b=>b==y|_=>false
 refine zaH F.slot_list_index ⟨_,e,rfl⟩ F.entry_list_index (F.args_list_index_2 _ _) (SeqAt.list_indexAt l (bs.map Value.bool).toArray n none #[] (.bool y) ev (bs.idxOf y) (by rw [YE,Pd];assumption) (by omega) ?_ ?_) ⟨e,?_,?_⟩
 ·have:(bs.map Value.bool).toArray[bs.idxOf y]'(by rw [YE,Pd];exact hj)=.bool bs[bs.idxOf y]:=by simp
  rw [this];show (bs[bs.idxOf y]==y)=true;rw [zal hj];simp
 ·intro m hm eK;have Lw:m<bs.length:=by rw [YE,Pd] at hm;exact hm
  have:(bs.map Value.bool).toArray[m]=.bool bs[m]:=by simp
  rw [this];show (bs[m]==y)=false;exact zaA (kY bs y m Lw eK)
 ·intro w hw;have P4:w∈bs.map Value.bool:=by simpa using hw
  obtain ⟨b,hb,rfl⟩:=Yc.mp P4;exact SeqAt.EqAt.bool_bool _ _
 ·exact ⟨.int (bs.idxOf y:Nat),H,I.tok _,⟨_,rfl⟩,q⟩
end L2
namespace Fw
open Dt (sm)
abbrev aj:=Nat×Bool
def bi (b:Bool):Int:=if b then 1 else 0
def nj:bi true=1:=rfl
def rF:bi false=0:=rfl
theorem Bk (b:Bool):0<=bi b:=by cases b<;>decide
theorem IT (b:Bool):bi b<=1:=by cases b<;>decide
structure Flow where
 U:Nat->Bool
 F:Nat->Nat->Bool
def Flow.qN (f:Flow) (n p:Nat):Int:=sm n λu=>bi (f.F u p)
def Flow.out (f:Flow) (n p:Nat):Int:=sm n λv=>bi (f.F p v)
def Flow.nM (f:Flow) (n:Nat):aj->Int
 | (p,false)=>f.qN n p-bi (f.U p)
 | (p,true)=>bi (f.U p)-f.out n p
def Res (T:Nat->Nat->Prop) (f:Flow):aj->aj->Prop
 | (p,false),(q,true)=>(p=q/\f.U p=false)\/f.F q p=true
 | (p,true),(q,false)=>T p q\/(p=q/\f.U p=true)
 | _,_=>False
theorem tS (hk:k<n) (e:∀ i,i≠k->g i=h i):sm n g=sm n h+(g k-h k):=by
 have:sm n (λi=>g i-h i)=g k-h k:=Dt.kL hk λi _ ne=>by rw [e i ne];omega
 rw [Dt.oN] at this;omega
def Flow.push (f:Flow):aj->aj->Flow
 | (p,false),(q,true)=>if p=q then ⟨λx=>if x=p then true else f.U x,f.F⟩ else ⟨f.U,λa b=>if a=q/\b=p then false else f.F a b⟩
 | (p,true),(q,false)=>if p=q then ⟨λx=>if x=p then false else f.U x,f.F⟩ else ⟨f.U,λa b=>if a=p/\b=q then true else f.F a b⟩
 | _,_=>f
def dl (d e:aj):Int:=if d=e then 1 else 0
theorem Flow.DT (CH:∀ p,¬T p p) (JS:∀ p,f.F p p=false) (hd:d.1<n) (he:e.1<n) (r:Res T f d e) (fwd:∀ p q,d=(p,true)->e=(q,false)->p≠q->f.F p q=false) (x:aj) :
  (f.push d e).nM n x=f.nM n x+dl x e-dl x d:=by
 obtain ⟨p,s⟩:=d;obtain ⟨q,t⟩:=e;obtain ⟨y,z⟩:=x;cases s<;>cases t
 ·exact r.elim
 ·-- from (p,0) to (q,1)
  by_cases h:p=q
  ·subst h;have u0:f.U p=false:=by
    rcases (show (p=p/\f.U p=false)\/f.F p p=true from r) with r|r
    ·exact r.2
    ·rw [JS] at r;cases r
   have e1:f.push (p,false) (p,true)=⟨λx=>if x=p then true else f.U x,f.F⟩:=by unfold Flow.push;exact Ya rfl
   rw [e1];cases z
   ·show f.qN n y-bi (if y=p then true else f.U y)=f.qN n y-bi (f.U y)+dl (y,false) (p,true)-dl (y,false) (p,false);have o1:dl (y,false) (p,true)=0:=X6 (by simp);rw [o1];by_cases hy:y=p
    ·subst hy;rw [Ya rfl,u0,nj,rF,show dl (y,false) (y,false)=1 from Ya rfl];omega
    ·rw [X6 hy,show dl (y,false) (p,false)=0 from X6 (by simp [hy])];omega
   ·show bi (if y=p then true else f.U y)-f.out n y=bi (f.U y)-f.out n y+dl (y,true) (p,true)-dl (y,true) (p,false);have o1:dl (y,true) (p,false)=0:=X6 (by simp);rw [o1];by_cases hy:y=p
    ·subst hy;rw [Ya rfl,u0,nj,rF,show dl (y,true) (y,true)=1 from Ya rfl];omega
    ·rw [X6 hy,show dl (y,true) (p,true)=0 from X6 (by simp [hy])];omega
  ·have f1:f.F q p=true:=by
    rcases (show (p=q/\f.U p=false)\/f.F q p=true from r) with r|r
    ·exact absurd r.1 h
    ·exact r
   have e1:f.push (p,false) (q,true)=⟨f.U,λa b=>if a=q/\b=p then false else f.F a b⟩:=by unfold Flow.push;exact X6 h
   rw [e1];cases z
   ·show sm n (λu=>bi (if u=q/\y=p then false else f.F u y))-bi (f.U y)=sm n (λu=>bi (f.F u y))-bi (f.U y)+dl (y,false) (q,true)-dl (y,false) (p,false);rw [show dl (y,false) (q,true)=0 from X6 (by simp)];by_cases hy:y=p
    ·subst hy;rw [tS (g:=λu=>bi (if u=q/\y=y then false else f.F u y)) (h:=λu=>bi (f.F u y)) he λi hi=>by simp [hi]];have:bi (if q=q/\y=y then false else f.F q y)=0:=by simp [bi]
     rw [this,f1,nj,show dl (y,false) (y,false)=1 from Ya rfl];omega
    ·have:sm n (λu=>bi (if u=q/\y=p then false else f.F u y))=sm n (λu=>bi (f.F u y)):=Dt.dX λi _=>by rw [X6 (λz=>hy z.2)]
     rw [this,show dl (y,false) (p,false)=0 from X6 (by simp [hy])];omega
   ·show bi (f.U y)-sm n (λv=>bi (if y=q/\v=p then false else f.F y v))=bi (f.U y)-sm n (λv=>bi (f.F y v))+dl (y,true) (q,true)-dl (y,true) (p,false);rw [show dl (y,true) (p,false)=0 from X6 (by simp)];by_cases hy:y=q
    ·subst hy;rw [tS (g:=λv=>bi (if y=y/\v=p then false else f.F y v)) (h:=λv=>bi (f.F y v)) hd λi hi=>by simp [hi]];have:bi (if y=y/\p=p then false else f.F y p)=0:=by simp [bi]
     rw [this,f1,nj,show dl (y,true) (y,true)=1 from Ya rfl];omega
    ·have:sm n (λv=>bi (if y=q/\v=p then false else f.F y v))=sm n (λv=>bi (f.F y v)):=Dt.dX λi _=>by rw [X6 (λz=>hy z.1)]
     rw [this,show dl (y,true) (q,true)=0 from X6 (by simp [hy])];omega
 ·-- from (p,1) to (q,0)
  by_cases h:p=q
  ·subst h;have u1:f.U p=true:=by
    rcases (show T p p\/(p=p/\f.U p=true) from r) with r|r
    ·exact absurd r (CH p)
    ·exact r.2
   have e1:f.push (p,true) (p,false)=⟨λx=>if x=p then false else f.U x,f.F⟩:=by unfold Flow.push;exact Ya rfl
   rw [e1];cases z
   ·show f.qN n y-bi (if y=p then false else f.U y)=f.qN n y-bi (f.U y)+dl (y,false) (p,false)-dl (y,false) (p,true);rw [show dl (y,false) (p,true)=0 from X6 (by simp)];by_cases hy:y=p
    ·subst hy;rw [Ya rfl,u1,nj,rF,show dl (y,false) (y,false)=1 from Ya rfl];omega
    ·rw [X6 hy,show dl (y,false) (p,false)=0 from X6 (by simp [hy])];omega
   ·show bi (if y=p then false else f.U y)-f.out n y=bi (f.U y)-f.out n y+dl (y,true) (p,false)-dl (y,true) (p,true);rw [show dl (y,true) (p,false)=0 from X6 (by simp)];by_cases hy:y=p
    ·subst hy;rw [Ya rfl,u1,nj,rF,show dl (y,true) (y,true)=1 from Ya rfl];omega
    ·rw [X6 hy,show dl (y,true) (p,true)=0 from X6 (by simp [hy])];omega
  ·have f0:=fwd p q rfl rfl h;have e1:f.push (p,true) (q,false)=⟨f.U,λa b=>if a=p/\b=q then true else f.F a b⟩:=by unfold Flow.push;exact X6 h
   rw [e1];cases z
   ·show sm n (λu=>bi (if u=p/\y=q then true else f.F u y))-bi (f.U y)=sm n (λu=>bi (f.F u y))-bi (f.U y)+dl (y,false) (q,false)-dl (y,false) (p,true);rw [show dl (y,false) (p,true)=0 from X6 (by simp)];by_cases hy:y=q
    ·subst hy;rw [tS (g:=λu=>bi (if u=p/\y=y then true else f.F u y)) (h:=λu=>bi (f.F u y)) hd λi hi=>by simp [hi]];have:bi (if p=p/\y=y then true else f.F p y)=1:=by simp [bi]
     rw [this,f0,rF,show dl (y,false) (y,false)=1 from Ya rfl];omega
    ·have:sm n (λu=>bi (if u=p/\y=q then true else f.F u y))=sm n (λu=>bi (f.F u y)):=Dt.dX λi _=>by rw [X6 (λz=>hy z.2)]
     rw [this,show dl (y,false) (q,false)=0 from X6 (by simp [hy])];omega
   ·show bi (f.U y)-sm n (λv=>bi (if y=p/\v=q then true else f.F y v))=bi (f.U y)-sm n (λv=>bi (f.F y v))+dl (y,true) (q,false)-dl (y,true) (p,true);rw [show dl (y,true) (q,false)=0 from X6 (by simp)];by_cases hy:y=p
    ·subst hy;rw [tS (g:=λv=>bi (if y=y/\v=q then true else f.F y v)) (h:=λv=>bi (f.F y v)) he λi hi=>by simp [hi]];have:bi (if y=y/\q=q then true else f.F y q)=1:=by simp [bi]
     rw [this,f0,rF,show dl (y,true) (y,true)=1 from Ya rfl];omega
    ·have:sm n (λv=>bi (if y=p/\v=q then true else f.F y v))=sm n (λv=>bi (f.F y v)):=Dt.dX λi _=>by rw [X6 (λz=>hy z.1)]
     rw [this,show dl (y,true) (p,true)=0 from X6 (by simp [hy])];omega
 ·exact r.elim
def A2 (d:aj):dl d d=1:=Ya rfl
def kI (h:d≠e):dl d e=0:=X6 h
theorem Fb (h:1<=bi b):b=true:=by cases b;exact absurd h (by decide);rfl
def dU:Res T f (p,false) (q,true)↔(p=q/\f.U p=false)\/f.F q p=true:=zad
def fP:Res T f (p,true) (q,false)↔T p q\/(p=q/\f.U p=true):=zad
theorem Res.HQ (h:Res T f d e):d.2≠e.2:=by
 obtain ⟨p,s⟩:=d;obtain ⟨q,t⟩:=e;cases s<;>cases t
 ·exact h.elim
 ·exact λz=>by cases z
 ·exact λz=>by cases z
 ·exact h.elim
theorem kU (f:Flow) (p:Nat):f.push (p,false) (p,true)=⟨λx=>if x=p then true else f.U x,f.F⟩:=by unfold Flow.push;exact Ya rfl
theorem kT (f:Flow) (h:p≠q):f.push (p,false) (q,true)=⟨f.U,λa b=>if a=q/\b=p then false else f.F a b⟩:=by unfold Flow.push;exact X6 h
theorem kS (f:Flow) (p:Nat):f.push (p,true) (p,false)=⟨λx=>if x=p then false else f.U x,f.F⟩:=by unfold Flow.push;exact Ya rfl
theorem kQ (f:Flow) (h:p≠q):f.push (p,true) (q,false)=⟨f.U,λa b=>if a=p/\b=q then true else f.F a b⟩:=by unfold Flow.push;exact X6 h
theorem jU (d e:aj) (h1:¬(d=p/\e=x)) (h2:¬(d=x/\e=p)):Res T (f.push p x) d e↔Res T f d e:=by
 obtain ⟨p,s⟩:=p;obtain ⟨q,t⟩:=x;obtain ⟨y,z⟩:=d;obtain ⟨u,v⟩:=e;cases z<;>cases v
 ·exact zad
 ·rw [dU,dU];cases s<;>cases t
  ·exact zad
  ·by_cases h:p=q
   ·subst h;rw [kU];dsimp only;by_cases e1:y=p
    ·subst e1;have:¬y=u:=λz=>h1 ⟨rfl,by rw [z]⟩;simp [this]
    ·simp [e1]
   ·rw [kT f h];dsimp only;have:¬(u=q/\y=p):=λz=>h1 ⟨by rw [z.2],by rw [z.1]⟩;rw [X6 this]
  ·by_cases h:p=q
   ·subst h;rw [kS];dsimp only;by_cases e1:y=p
    ·subst e1;have:¬y=u:=λz=>h2 ⟨rfl,by rw [z]⟩;simp [this]
    ·simp [e1]
   ·rw [kQ f h];dsimp only;have:¬(u=p/\y=q):=λz=>h2 ⟨by rw [z.2],by rw [z.1]⟩;rw [X6 this]
  ·exact zad
 ·rw [fP,fP];cases s<;>cases t
  ·exact zad
  ·by_cases h:p=q
   ·subst h;rw [kU];dsimp only;by_cases e1:y=p
    ·subst e1;have:¬y=u:=λz=>h2 ⟨rfl,by rw [z]⟩;simp [this]
    ·simp [e1]
   ·rw [kT f h]
  ·by_cases h:p=q
   ·subst h;rw [kS];dsimp only;by_cases e1:y=p
    ·subst e1;have:¬y=u:=λz=>h1 ⟨rfl,by rw [z]⟩;simp [this]
    ·simp [e1]
   ·rw [kQ f h]
  ·exact zad
 ·exact zad
theorem Fn (sym:∀ a b,T a b->T b a) (jg:∀ u v,f.F u v=true->T u v) (r:Res T f p x):Res T (f.push p x) x p:=by
 obtain ⟨p,s⟩:=p;obtain ⟨q,t⟩:=x;cases s<;>cases t
 ·exact r.elim
 ·by_cases h:p=q
  ·subst h;rw [kU,fP];exact .inr ⟨rfl,Ya rfl⟩
  ·rw [kT f h,fP];rw [dU] at r;exact .inl (jg _ _ (r.resolve_left λz=>h z.1))
 ·by_cases h:p=q
  ·subst h;rw [kS,dU];exact .inl ⟨rfl,Ya rfl⟩
  ·rw [kQ f h,dU];exact .inr (Ya ⟨rfl,rfl⟩)
 ·exact r.elim
theorem Cs (CH:∀ a,¬T a a) (JS:∀ a,f.F a a=false) (r:Res T f p x):Res T (f.push p x) p x↔¬(p.1=x.1\/p.2=false):=by
 obtain ⟨p,s⟩:=p;obtain ⟨q,t⟩:=x;cases s<;>cases t
 ·exact r.elim
 ·by_cases h:p=q
  ·subst h;rw [kU,dU];simp [JS]
  ·rw [kT f h,dU];simp [h]
 ·by_cases h:p=q
  ·subst h;rw [kS,fP];simp [CH]
  ·rw [kQ f h,fP];rw [fP] at r;have:=r.resolve_right λz=>h z.1;simp [h,this]
 ·exact r.elim
structure Net (n:Nat) (T:Nat->Nat->Prop) (a b:Nat):Prop where
 sym:∀ p q,T p q->T q p
 CH:∀ p,¬T p p
 rg:∀ p q,T p q->p<n/\q<n
 no:¬T a b
 ha:a<n
 hb:b<n
 ne:a≠b
structure Fl (n:Nat) (T:Nat->Nat->Prop) (a b:Nat) (i:Int) (f:Flow):Prop where
 jg:∀ u v,f.F u v=true->T u v
 u1:f.U a=false
 u2:f.U b=false
 nM:∀ x:aj,x.1<n->f.nM n x=i*dl x (b,false)-i*dl x (a,true)
theorem tU {g h:Nat->Int}:∀ {n:Nat},(∀ i,i<n->g i<=h i)->sm n g<=sm n h
 | 0,_=>Int.le_refl _
 | n+1,e=>by
  show sm n g+g n<=sm n h+h n;have:=tU (n:=n) λi hi=>e i (ZK ‹_›);have:=e n (ZG _);omega
theorem HP (h:∀ i,0<=g i) (hk:k<n):g k<=sm n g:=by
 have:sm n (λi=>if i=k then g k else 0)=g k:=by
  rw [Dt.kL hk λi _ ne=>X6 ne];exact Ya rfl
 rw [<-this];refine tU λi _=>?_;by_cases e:i=k
 ·rw [Ya e,e];exact Int.le_refl _
 ·rw [X6 e];exact h i
theorem Dh (h:∀ i,0<=g i) (hk:k<n) (hl:l<n) (ne:k≠l):g k+g l<=sm n g:=by
 have e1:sm n (λi=>(if i=k then g k else 0)+(if i=l then g l else 0))=g k+g l:=by
  rw [Dt.oO];rw [Dt.kL hk λi _ ne=>X6 ne,Dt.kL hl λi _ ne=>X6 ne,Ya rfl,Ya rfl]
 rw [<-e1];refine tU λi _=>?_;by_cases e:i=k
 ·rw [Ya e,X6 (by omega),e];omega
 ·rw [X6 e];by_cases e':i=l
  ·rw [Ya e',e'];omega
  ·rw [X6 e'];have:=h i;assumption
theorem Fl.qN (F:Fl n T a b i f) (hq:q<n) (hb:q≠b):f.qN n q=bi (f.U q):=by
 have:=F.nM (q,false) hq;rw [kI (show ((q,false):aj)≠(b,false) from λz=>hb (by injection z)),kI (show ((q,false):aj)≠(a,true) from λz=>by injection z with _ z;cases z)] at this;have e:f.nM n (q,false)=f.qN n q-bi (f.U q):=rfl;omega
theorem Fl.out (F:Fl n T a b i f) (hp:p<n) (ha:p≠a):f.out n p=bi (f.U p):=by
 have:=F.nM (p,true) hp;rw [kI (show ((p,true):aj)≠(a,true) from λz=>ha (by injection z)),kI (show ((p,true):aj)≠(b,false) from λz=>by injection z with _ z;cases z)] at this;have e:f.nM n (p,true)=bi (f.U p)-f.out n p:=rfl;omega
theorem Fl.EB (F:Fl n T a b i f) (N:Net n T a b) (hb:q≠b) (h:f.F p q=true):f.U q=true:=by
 have hT:=N.rg _ _ (F.jg _ _ h);have e:=F.qN hT.2 hb;have:bi (f.F p q)<=f.qN n q:=HP (g:=λu=>bi (f.F u q)) (λ_=>Bk _) hT.1;rw [h,nj] at this;exact Fb (by omega)
theorem Fl.Im (F:Fl n T a b i f) (N:Net n T a b) (hb:q≠b) (h:f.F p q=true) (h':f.F p' q=true):p=p':=by
 have hT:=N.rg _ _ (F.jg _ _ h);have QG:=N.rg _ _ (F.jg _ _ h');have e:=F.qN hT.2 hb;refine Yd λne=>?_;have:bi (f.F p q)+bi (f.F p' q)<=f.qN n q:=Dh (g:=λu=>bi (f.F u q)) (λ_=>Bk _) hT.1 QG.1 ne;rw [h,h',nj] at this;have:=IT (f.U q);omega
theorem Fl.Ii (F:Fl n T a b i f) (N:Net n T a b) (ha:p≠a) (h:f.F p q=true):f.U p=true:=by
 have hT:=N.rg _ _ (F.jg _ _ h);have e:=F.out hT.1 ha;have:bi (f.F p q)<=f.out n p:=HP (g:=λv=>bi (f.F p v)) (λ_=>Bk _) hT.2;rw [h,nj] at this;exact Fb (by omega)
theorem Fl.Ij (F:Fl n T a b i f) (N:Net n T a b) (ha:p≠a) (h:f.F p q=true) (h':f.F p q'=true):q=q':=by
 have hT:=N.rg _ _ (F.jg _ _ h);have QG:=N.rg _ _ (F.jg _ _ h');have e:=F.out hT.1 ha;refine Yd λne=>?_;have:bi (f.F p q)+bi (f.F p q')<=f.out n p:=Dh (g:=λv=>bi (f.F p v)) (λ_=>Bk _) hT.2 QG.2 ne;rw [h,h',nj] at this;have:=IT (f.U p);omega
theorem Fl.Ee (F:Fl n T a b i f) (N:Net n T a b) (u:Nat):f.F u a=false:=by
 cases h:f.F u a with
 | false=>rfl
 | true=>have:=F.EB N N.ne h;rw [F.u1] at this;cases this
theorem Fl.JR (F:Fl n T a b i f) (N:Net n T a b) (v:Nat):f.F b v=false:=by
 cases h:f.F b v with
 | false=>rfl
 | true=>have:=F.Ii N N.ne.symm h;rw [F.u2] at this;cases this
theorem Ab {g:Nat->Bool}:∀ {n:Nat},1<=sm n (λi=>bi (g i))->∃ i,i<n/\g i=true
 | 0,h=>absurd (show (1:Int)<=0 from h) (by decide)
 | n+1,h=>by
  cases e:g n with
  | true=>exact ⟨n,ZG _,e⟩
  | false=>
   have h:1<=sm n (λi=>bi (g i))+bi (g n):=h;rw [e,rF] at h;obtain ⟨i,hi,hg⟩:=Ab (g:=g) (n:=n) (by omega);exact ⟨i,ZK ‹_›,hg⟩
theorem Fl.next (F:Fl n T a b i f) (N:Net n T a b) (hb:p≠b) (h:f.F u p=true):∃ q,f.F p q=true:=by
 have hp:=(N.rg _ _ (F.jg _ _ h)).2;have ha:p≠a:=λz=>by subst z;rw [F.Ee N] at h;cases h
 have e:=F.out hp ha;rw [F.EB N hb h,nj] at e;obtain ⟨q,_,hq⟩:=Ab (g:=λv=>f.F p v) (n:=n) (by rw [show sm n (λv=>bi (f.F p v))=f.out n p from rfl,e];exact Int.le_refl _);exact ⟨q,hq⟩
theorem Hd (f:Flow) (n:Nat) (D:aj->Bool) :
  sm n (λp=>bi (D (p,false))*f.nM n (p,false)+bi (D (p,true))*f.nM n (p,true))=sm n (λp=>bi (f.U p)*(bi (D (p,true))-bi (D (p,false))))+sm n (λu=>sm n (λv=>bi (f.F u v)*(bi (D (v,false))-bi (D (u,true))))):=by
 have e1:sm n (λu=>sm n (λv=>bi (f.F u v)*(bi (D (v,false))-bi (D (u,true)))))=sm n (λp=>bi (D (p,false))*f.qN n p)-sm n (λp=>bi (D (p,true))*f.out n p):=by
  have a1:sm n (λu=>sm n (λv=>bi (f.F u v)*(bi (D (v,false))-bi (D (u,true)))))=sm n (λu=>sm n (λv=>bi (D (v,false))*bi (f.F u v))-bi (D (u,true))*f.out n u):=Dt.dX λu _=>by
   unfold Flow.out;rw [<-Dt.tT,<-Dt.oN];exact Dt.dX λv _=>by grind
  rw [a1,Dt.oN,Dt.Ac]
  congr 1
  exact Dt.dX λp _=>by unfold Flow.qN;rw [<-Dt.tT]
 rw [e1,<-Dt.oN,<-Dt.oO];refine Dt.dX λp _=>?_;show bi (D (p,false))*(f.qN n p-bi (f.U p))+bi (D (p,true))*(bi (f.U p)-f.out n p)=_;grind
theorem Fl.sum (F:Fl n T a b i f) (N:Net n T a b) (D:aj->Bool):sm n (λp=>bi (D (p,false))*f.nM n (p,false)+bi (D (p,true))*f.nM n (p,true))=i*bi (D (b,false))-i*bi (D (a,true)):=by
 rw [Dt.oO];have e1:sm n (λp=>bi (D (p,false))*f.nM n (p,false))=i*bi (D (b,false)):=by
  rw [Dt.kL N.hb]
  ·rw [F.nM (b,false) N.hb,A2,kI (λz=>by injection z with _ z;cases z)];grind
  ·intro p hp ne;rw [F.nM (p,false) hp,kI (λz=>ne (by injection z)),kI (λz=>by injection z with _ z;cases z)];grind
 have e2:sm n (λp=>bi (D (p,true))*f.nM n (p,true))=- (i*bi (D (a,true))):=by
  rw [Dt.kL N.ha]
  ·rw [F.nM (a,true) N.ha,A2,kI (λz=>by injection z with _ z;cases z)];grind
  ·intro p hp ne;rw [F.nM (p,true) hp,kI (λz=>by injection z with _ z;cases z),kI (λz=>ne (by injection z))];grind
 rw [e1,e2];omega
theorem Fl.val (F:Fl n T a b i f) (N:Net n T a b) (D:aj->Bool) (da:D (a,true)=true) (db:D (b,false)=false) :
 -i=sm n (λp=>bi (f.U p)*(bi (D (p,true))-bi (D (p,false))))+sm n (λu=>sm n (λv=>bi (f.F u v)*(bi (D (v,false))-bi (D (u,true))))):=by
 rw [<-Hd,F.sum N,da,db,nj,rF];omega
theorem Fl.cut (F:Fl n T a b i f) (N:Net n T a b) (D:aj->Bool) (da:D (a,true)=true) (db:D (b,false)=false) (cl:∀ d e,D d=true->Res T f d e->D e=true) :
  i=sm n (λp=>bi (D (p,false)&&!D (p,true))):=by
 have h:=F.val N D da db;have z:sm n (λu=>sm n (λv=>bi (f.F u v)*(bi (D (v,false))-bi (D (u,true)))))=0:=Dt.j4 λu _=>Dt.j4 λv _=>by
  cases e:f.F u v with
  | false=>rw [rF];omega
  | true=>
   have:D (v,false)=D (u,true):=by
    cases h1:D (u,true) with
    | true=>exact cl _ _ h1 (fP.mpr (.inl (F.jg _ _ e)))
    | false=>
     cases h2:D (v,false) with
     | false=>rfl
     | true=>rw [cl _ _ h2 (dU.mpr (.inr e))] at h1;cases h1
   rw [this];omega
 rw [z] at h;have:sm n (λp=>bi (f.U p)*(bi (D (p,true))-bi (D (p,false))))=sm n (λp=>(-1)*bi (D (p,false)&&!D (p,true))):=Dt.dX λp _=>by
  cases e:f.U p with
  | false=>
   rw [rF];cases h1:D (p,false) with
   | false=>simp [bi]
   | true=>
    have:D (p,true)=true:=cl _ _ h1 (dU.mpr (.inl ⟨rfl,e⟩));rw [this];simp [bi]
  | true=>
   rw [nj];cases h1:D (p,true) with
   | true=>
    have:D (p,false)=true:=cl _ _ h1 (fP.mpr (.inr ⟨rfl,e⟩));rw [this];simp [bi]
   | false=>cases D (p,false)<;>simp [bi]
 rw [this,Dt.tT] at h;omega
theorem r9 (g:Nat->Bool):∀ n:Nat,sm n (λp=>bi (g p))=(((List.range n).filter g).length:Int)
 | 0=>rfl
 | n+1=>by
  show sm n (λp=>bi (g p))+bi (g n)=_;rw [r9 g n,Z9,Zx,Yr];cases e:g n<;>simp [e,bi]
structure Fan (n:Nat) (N:aj->aj->Prop) (st:aj) (kvs:List (aj×Option aj)):Prop where
 nd:(kvs.map Prod.fst).Nodup
 st:kvs[0]?=some (st,none)
 par:∀ (j:Nat) (d:aj) (e:Option aj),kvs[j]?=some (d,e)->(j=0/\e=none)\/∃ (k:Nat) (p:aj) (o:Option aj),k<j/\e=some p/\kvs[k]?=some (p,o)/\N p d
 rg:∀ d∈kvs.map Prod.fst,d.1<n
def rk (kvs:List (aj×Option aj)) (d:aj):Nat:=(kvs.map Prod.fst).idxOf d
theorem Fan.Af {N:aj->aj->Prop} {st:aj} (h:Fan n N st kvs) {j:Nat} {d:aj} {e:Option aj} (hj:kvs[j]?=some (d,e)):rk kvs d=j:=by
 have hl:j<kvs.length:=(X3.mp hj).1;have e1:(kvs.map Prod.fst)[j]'(by rw [Pd];exact hl)=d:=by
  rw [zat];rw [(X3.mp hj).2]
 unfold rk;rw [<-e1];exact h.nd.idxOf_getElem j _
theorem Fan.up {N:aj->aj->Prop} {st:aj} (h:Fan n N st kvs) {d p:aj} (hd:(d,some p)∈kvs):rk kvs p<rk kvs d/\N p d/\∃ o,(p,o)∈kvs:=by
 obtain ⟨j,hj⟩:=YB.mp hd;rcases h.par j d _ hj with ⟨_,z⟩|⟨k,q,o,hk,e,hq,hN⟩
 ·cases z
 ·injection e with e;subst e;rw [h.Af hj,h.Af hq];exact ⟨hk,hN,o,Yb hq⟩
theorem Fan.root {N:aj->aj->Prop} {st:aj} (h:Fan n N st kvs) {d:aj} (hd:(d,none)∈kvs):d=st:=by
 obtain ⟨j,hj⟩:=YB.mp hd;rcases h.par j d _ hj with ⟨z,_⟩|⟨k,q,o,hk,e,hq,hN⟩
 ·subst z;rw [h.st] at hj;injection hj with hj;injection hj with hj;exact hj.symm
 ·cases e
theorem Fan.uniq {N:aj->aj->Prop} {st:aj} (h:Fan n N st kvs) {d:aj} {e e':Option aj} (h1:(d,e)∈kvs) (h2:(d,e')∈kvs):e=e':=by
 obtain ⟨j,hj⟩:=YB.mp h1;obtain ⟨k,hk⟩:=YB.mp h2;have:=h.Af hj;have:=h.Af hk;have:j=k:=by omega
 subst this;rw [hj] at hk;injection hk with hk;injection hk
structure Go (n:Nat) (T:Nat->Nat->Prop) (a b:Nat) (f:Flow) (kvs:List (aj×Option aj)) (x:aj) (f':Flow):Prop where
 xk:∃ o,(x,o)∈kvs
 le:rk kvs x<=rk kvs (b,false)
 jg:∀ u v,f'.F u v=true->T u v
 u1:f'.U a=false
 u2:f'.U b=false
 nM:∀ y:aj,y.1<n->f'.nM n y=f.nM n y+dl y (b,false)-dl y x
 same:∀ d e,rk kvs d<rk kvs x\/rk kvs e<rk kvs x->(Res T f' d e↔Res T f d e)
 nx:x=(b,false)\/∃ e,Res T f x e/\(e,some x)∈kvs
theorem Go.start (F:Fl n T a b i f) (h:∃ o,((b,false),o)∈kvs):Go n T a b f kvs (b,false) f:=
 ⟨h,X7 _,F.jg,F.u1,F.u2,λy _=>by omega,λ_ _ _=>zad,.inl rfl⟩
theorem Go.fwd (F:Fl n T a b i f) (N:Net n T a b) (K:Fan n (Res T f) (a,true) kvs) (G:Go n T a b f kvs x f') (hx:(x,some (p,true))∈kvs) (xq:x=(q,false)) (ne:p≠q):f'.F p q=false:=by
 subst xq;obtain ⟨hr,hN,o,hp⟩:=K.up hx;cases h:f'.F p q with
 | false=>rfl
 | true=>
  exfalso;have h1:f.F p q=true:=by
   have:=(G.same (q,false) (p,true) (.inr hr)).mp (dU.mpr (.inr h));exact (dU.mp this).resolve_left λz=>ne z.1.symm
  by_cases hb:q=b
  ·subst hb;have pa:p≠a:=λz=>by subst z;exact N.no (F.jg _ _ h1)
   cases o with
   | none=>exact pa (by have:=K.root hp;injection this)
   | some r=>
    obtain ⟨XD,S7,_⟩:=K.up hp;obtain ⟨r',s⟩:=r;cases s with
    | true=>exact S7.elim
    | false=>
     rcases dU.mp S7 with z|z
     ·rw [z.1,F.Ii N pa h1] at z;cases z.2
     ·have:=F.Ij N pa h1 z;subst this;omega
  ·rcases G.nx with z|⟨e,he,hk⟩
   ·exact hb (by injection z)
   ·obtain ⟨e',s⟩:=e;cases s with
    | false=>exact he.elim
    | true=>
     rcases dU.mp he with z|z
     ·rw [F.EB N hb h1] at z;cases z.2
     ·have:=F.Im N hb h1 z;subst this;have:=(K.up hk).1;omega
theorem Go.open (F:Fl n T a b i f) (N:Net n T a b) (K:Fan n (Res T f) (a,true) kvs) (G:Go n T a b f kvs x f') (hx:(x,some p)∈kvs):Res T f' p x:=by
 obtain ⟨hr,hN,_⟩:=K.up hx;exact (G.same p x (.inl hr)).mpr hN
theorem Go.step (F:Fl n T a b i f) (N:Net n T a b) {kvs:List (aj×Option aj)} (K:Fan n (Res T f) (a,true) kvs) {x p:aj} {f':Flow} (G:Go n T a b f kvs x f') (hx:(x,some p)∈kvs):Go n T a b f kvs p (f'.push p x):=by
 obtain ⟨hr,hN,o,hp⟩:=K.up hx;have r:=G.open F N K hx;have JS:∀ c,f'.F c c=false:=λc=>by
  cases h:f'.F c c with
  | false=>rfl
  | true=>exact absurd (G.jg _ _ h) (N.CH c)
 have px:x.1<n:=K.rg x (Yc.mpr ⟨_,hx,rfl⟩);have pn:p.1<n:=K.rg p (Yc.mpr ⟨_,hp,rfl⟩);have pb:∀ y:aj,y.1<n->(f'.push p x).nM n y=f'.nM n y+dl y x-dl y p:=λy _=>Flow.DT (T:=T) N.CH JS pn px r (λu q e1 e2 ne=>by
  subst e1;exact G.fwd F N K hx e2 ne) y
 refine ⟨⟨o,hp⟩,Y2 (ZJ hr) G.le,?_,?_,?_,λy hy=>?_,λd e h=>?_,.inr ⟨x,hN,hx⟩⟩
 ·intro u v AQ;obtain ⟨p',s⟩:=p;obtain ⟨q,t⟩:=x;cases s<;>cases t
  ·exact r.elim
  ·by_cases h:p'=q
   ·subst h;rw [kU] at AQ;exact G.jg _ _ AQ
   ·rw [kT _ h] at AQ;dsimp only at AQ;by_cases c:u=q/\v=p'
    ·rw [Ya c] at AQ;cases AQ
    ·rw [X6 c] at AQ;exact G.jg _ _ AQ
  ·by_cases h:p'=q
   ·subst h;rw [kS] at AQ;exact G.jg _ _ AQ
   ·rw [kQ _ h] at AQ;dsimp only at AQ;by_cases c:u=p'/\v=q
    ·rw [c.1,c.2];exact (fP.mp r).resolve_right λz=>h z.1
    ·rw [X6 c] at AQ;exact G.jg _ _ AQ
  ·exact r.elim
 ·obtain ⟨p',s⟩:=p;obtain ⟨q,t⟩:=x;cases s<;>cases t
  ·exact r.elim
  ·by_cases h:p'=q
   ·subst h;rw [kU];dsimp only;have:a≠p':=λz=>by
     subst z;have:=K.uniq hx (Yb K.st);cases this
    rw [X6 this];exact G.u1
   ·rw [kT _ h];exact G.u1
  ·by_cases h:p'=q
   ·subst h;rw [kS];dsimp only;by_cases c:a=p'
    ·rw [Ya c]
    ·rw [X6 c];exact G.u1
   ·rw [kQ _ h];exact G.u1
  ·exact r.elim
 ·obtain ⟨p',s⟩:=p;obtain ⟨q,t⟩:=x;cases s<;>cases t
  ·exact r.elim
  ·by_cases h:p'=q
   ·subst h;rw [kU];dsimp only;have:b≠p':=λz=>by
     subst z;have:=G.le;omega
    rw [X6 this];exact G.u2
   ·rw [kT _ h];exact G.u2
  ·by_cases h:p'=q
   ·subst h;rw [kS];dsimp only;by_cases c:b=p'
    ·rw [Ya c]
    ·rw [X6 c];exact G.u2
   ·rw [kQ _ h];exact G.u2
  ·exact r.elim
 ·rw [pb y hy,G.nM y hy];omega
 ·have h':¬(d=p/\e=x):=λz=>by rw [z.1,z.2] at h;omega
  have Wa:¬(d=x/\e=p):=λz=>by rw [z.1,z.2] at h;omega
  rw [jU d e h' Wa];exact G.same d e (by omega)
theorem Go.done (F:Fl n T a b i f) (K:Fan n (Res T f) (a,true) kvs) (G:Go n T a b f kvs x f') (hx:(x,none)∈kvs):Fl n T a b (i+1) f':=by
 have:=K.root hx;subst this;refine ⟨G.jg,G.u1,G.u2,λy hy=>?_⟩;rw [G.nM y hy,F.nM y hy,Int.add_mul,Int.add_mul];omega
structure Bf (n:Nat) (N:aj->aj->Prop) (st:aj) (kvs:List (aj×Option aj)) (ws:List aj):Prop extends Fan n N st kvs where
 sub:∀ d∈ws,d∈kvs.map Prod.fst
 BC:∀ d∈kvs.map Prod.fst,d∉ws->∀ e,N d e->e∈kvs.map Prod.fst
structure Bi (n:Nat) (N:aj->aj->Prop) (st:aj) (kvs:List (aj×Option aj)) (ws:List aj) (x:aj) (l:List aj) (k:Nat):Prop extends Fan n N st kvs where
 sub:∀ d∈ws,d∈kvs.map Prod.fst
 xk:x∈kvs.map Prod.fst
 BC:∀ d∈kvs.map Prod.fst,d∉ws->d≠x->∀ e,N d e->e∈kvs.map Prod.fst
 got:∀ (j:Nat) (e:aj),j<k->l[j]?=some e->e∈kvs.map Prod.fst
theorem Bf.start (h:st.1<n):Bf n N st [(st,none)] [st]:=
 ⟨⟨by simp,rfl,λj d e hj=>by
  cases j with
  | zero=>injection (show some (st,(none:Option aj))=some (d,e) from hj) with hj;injection hj with _ hj;exact .inl ⟨rfl,hj.symm⟩
  | succ j=>simp at hj,λd hd=>by rw [zam,zbp] at hd;rw [hd];exact h⟩,λd hd=>by simpa using hd,λd hd nd=>absurd (by simpa using hd) nd⟩
theorem Bf.pop (B:Bf n N st kvs (x::ws)) (l:List aj):Bi n N st kvs ws x l 0:=
 ⟨B.toFan,λd hd=>B.sub d (.tail _ hd),B.sub x (.head _),λd hd nd ne=>B.BC d hd λz=>by
  rcases Yk.mp z with z|z
  ·exact ne z
  ·exact nd z,λj e h=>absurd h (ZF _)⟩
theorem Bi.skip (B:Bi n N st kvs ws x l k) (he:l[k]?=some e) (h:e∈kvs.map Prod.fst):Bi n N st kvs ws x l (k+1):=
 ⟨B.toFan,B.sub,B.xk,B.BC,λj e' hj hl=>by
  by_cases z:j=k
  ·subst z;rw [he] at hl;injection hl with hl;rw [<-hl];exact h
  ·exact B.got j e' (by omega) hl⟩
theorem Bi.add (B:Bi n N st kvs ws x l k) (he:l[k]?=some e) (h:e∉kvs.map Prod.fst) (hN:N x e) (hn:e.1<n):Bi n N st (kvs++[(e,some x)]) (ws++[e]) x l (k+1):=by
 have mono:∀ d,d∈kvs.map Prod.fst->d∈(kvs++[(e,some x)]).map Prod.fst:=λd hd=>by rw [Yl];exact Yx _ hd
 have new:e∈(kvs++[(e,some x)]).map Prod.fst:=by rw [Yl];exact YA _ (.head _)
 have E8:∀ d,d∈(kvs++[(e,some x)]).map Prod.fst->d∈kvs.map Prod.fst\/d=e:=λd hd=>by
  rw [Yl] at hd;rcases Ye.mp hd with hd|hd
  ·exact .inl hd
  ·exact .inr (by simpa using hd)
 have kl:0<kvs.length:=(X3.mp B.st).1;refine ⟨⟨?_,?_,?_,?_⟩,?_,mono _ B.xk,?_,?_⟩
 ·rw [Yl];refine YD.mpr ⟨B.nd,by simp,λd hd d' B7=>?_⟩;have:d'=e:=by simpa using B7
  subst this;exact λz=>h (z▸hd)
 ·rw [YL kl];exact B.st
 ·intro j d o hj;by_cases hl:j<kvs.length
  ·rw [YL hl] at hj;rcases B.par j d o hj with z|⟨k',p,o',hk,e1,e2,e3⟩
   ·exact .inl z
   ·exact .inr ⟨k',p,o',hk,e1,by rw [YL (by omega)];exact e2,e3⟩
  ·rw [Y1 (by omega)] at hj;have z:j-kvs.length=0:=by
    have:=(X3.mp hj).1;rw [YX] at this;omega
   rw [z] at hj;injection hj with hj;injection hj with h1 h2;subst h1;subst h2;obtain ⟨⟨x',o'⟩,hx,ex⟩:=Yc.mp B.xk;dsimp only at ex;subst ex;obtain ⟨k',SS⟩:=YB.mp hx;have eK:=(X3.mp SS).1;exact .inr ⟨k',x',o',by omega,rfl,by rw [YL eK];exact SS,hN⟩
 ·intro d hd;rcases E8 d hd with z|z
  ·exact B.rg d z
  ·rw [z];exact hn
 ·intro d hd;rcases Ye.mp hd with z|z
  ·exact mono _ (B.sub d z)
  ·rw [X9.mp z];exact new
 ·intro d hd nd ne e' V7;rcases E8 d hd with z|z
  ·exact mono _ (B.BC d z (λy=>nd (Yx _ y)) ne e' V7)
  ·exact absurd (by rw [z];exact YA _ (.head _)) nd
 ·intro j e' hj hl;by_cases z:j=k
  ·subst z;rw [he] at hl;injection hl with hl;rw [<-hl];exact new
  ·exact mono _ (B.got j e' (by omega) hl)
theorem Bi.done (B:Bi n N st kvs ws x l l.length) (hl:∀ e,N x e->e∈l):Bf n N st kvs ws:=
 ⟨B.toFan,B.sub,λd hd nd e he=>by
  by_cases z:d=x
  ·subst z;obtain ⟨j,hj⟩:=YB.mp (hl e he);exact B.got j e (X3.mp hj).1 hj
  ·exact B.BC d hd nd z e he⟩
theorem Fan.len {N:aj->aj->Prop} {st:aj} (K:Fan n N st kvs):kvs.length<=2*n:=by
 have h:((kvs.map Prod.fst).map λd:aj=>2*d.1+(if d.2 then 1 else 0)).Nodup:=by
  refine Zi _ (λd e ne z=>ne ?_) K.nd;obtain ⟨p,s⟩:=d;obtain ⟨q,t⟩:=e;dsimp only at z;have:p=q/\s=t:=by cases s<;>cases t<;>simp at z ⊢<;>omega
  rw [this.1,this.2]
 have:=(nodup_range (n:=2*n));have sb:∀ x∈((kvs.map Prod.fst).map λd:aj=>2*d.1+(if d.2 then 1 else 0)),x∈List.range (2*n):=λx hx=>by
  obtain ⟨d,hd,rfl⟩:=Yc.mp hx;have:=K.rg d hd;rw [mem_range];split<;>omega
 have:=h.length_le_of_subset sb;simpa using this
end Fw
namespace Fw
open PySem L2 Gm
def kd (d:aj):List Key:=[.inl (d.1:Int),.inl (if d.2 then 1 else 0)]
theorem Kc (h:kd d=kd e):d=e:=by
 obtain ⟨p,s⟩:=d;obtain ⟨q,t⟩:=e;unfold kd at h;simp only [List.cons.injEq,Sum.inl.injEq,and_true] at h;obtain ⟨h1,h2⟩:=h;have:p=q:=by omega
 subst this;cases s<;>cases t<;>first|rfl | (simp at h2)
def kR (ks:List aj) (r:aj->V):List (List Key×V):=ks.map λd=>(kd d,r d)
theorem mV:∀ (ks:List aj) (r:aj->V) (d:aj),fH (kR ks r) (kd d)=if d∈ks then some (r d) else none
 | [],r,d=>rfl
 | e::ks,r,d=>by
  unfold kR;rw [Y8];by_cases z:e=d
  ·subst z;rw [fj rfl,Ya (Yg)]
  ·rw [eL (λy=>z (Kc y))];have:=mV ks r d;unfold kR at this;rw [this];by_cases h:d∈ks
   ·rw [Ya h,Ya (X8 _ h)]
   ·rw [X6 h,X6 (λy=>(Yk.mp y).elim (λy=>z y.symm) h)]
theorem qg (h:d∉ks):Tl (kR ks r) (kd d) v=kR (ks++[d]) (λe=>if e=d then v else r e):=by
 rw [jE v (by rw [mV,X6 h])];unfold kR;rw [Yl,zam];dsimp only;rw [Ya rfl]
 congr 1
 refine Zg λe he=>?_;rw [X6 (show ¬e=d from λz=>h (z▸he))]
theorem qf (h:d∉ks):Tl (kR ks λ_=>v) (kd d) v=kR (ks++[d]) λ_=>v:=by
 rw [qg h]
 congr 1
 funext e;split<;>rfl
theorem qc (h:d∈ks):Tl (kR ks λ_=>v) (kd d) v=kR ks λ_=>v:=by
 unfold Tl;rw [ji,mV,Ya h];rw [Option.isSome_some,Ya rfl];unfold kR;rw [zaE];refine Zg λe _=>?_;show (if kd e=kd d then (kd e,v) else (kd e,v))=_;split<;>rfl
theorem iV (ks:List aj) (r:aj->V):(kR ks r).length=ks.length:=by unfold kR;rw [Pd]
theorem MG {j:Nat} (h:ks[j]?=some d):(kR ks r)[j]?=some (kd d,r d):=by unfold kR;rw [Yj,h];rfl
theorem MF {j:Nat} (h:(kR ks r)[j]?=some (k,v)):∃ d,ks[j]?=some d/\k=kd d/\v=r d:=by
 unfold kR at h;rw [Yj] at h;cases e:ks[j]? with
 | none=>rw [e] at h;cases h
 | some d=>rw [e] at h;injection h with h;injection h with h1 h2;exact ⟨d,rfl,h1.symm,h2.symm⟩
theorem GI (j:Nat):(kR ks r).eraseIdx j=kR (ks.eraseIdx j) r:=by
 unfold kR
 induction ks generalizing j with
 | nil=>rfl
 | cons d ks ih=>
  cases j with
  | zero=>rfl
  | succ j=>show _::_=_::_;rw [ih]
theorem El {ks:List aj} {j:Nat} {d:aj} (nd:ks.Nodup) (h:ks[j]?=some d) (e:aj):e∈ks.eraseIdx j↔e∈ks/\e≠d:=by
 rw [mem_eraseIdx_iff_getElem?];constructor
 ·rintro ⟨i,hi,he⟩;refine ⟨Yb he,λz=>hi ?_⟩;subst z;have h1:=X3.mp he;have h2:=X3.mp h;exact (Zp nd).mp (h1.2.trans h2.2.symm)
 ·rintro ⟨he,ne⟩;obtain ⟨i,hi⟩:=YB.mp he;exact ⟨i,λz=>by subst z;rw [h] at hi;injection hi with hi;exact ne hi.symm,hi⟩
structure ef (H:Hp) (wy:Addr) (n:Nat) (N:aj->aj->Prop) (kvs:List (List Key×V)) (g:aj->Addr) (ks:aj->List aj):Prop where
 top:H wy=some (.dT kvs)
 val:∀ d:aj,d.1<n->fH kvs (kd d)=some (.ref (g d))
 row:∀ d:aj,d.1<n->H (g d)=some (.dT (kR (ks d) λ_=>.bl true))
 nd:∀ d:aj,d.1<n->(ks d).Nodup
 mem:∀ d e:aj,d.1<n->(e∈ks d↔N d e)
 rg:∀ d e:aj,d.1<n->N d e->e.1<n
 inj:∀ d e:aj,d.1<n->e.1<n->g d=g e->d=e
 off:∀ d:aj,d.1<n->g d≠wy
def ef.same (W:ef H wy n N kvs g ks) (e:ah H H'):ef H' wy n N kvs g ks:=
 ⟨e _ _ W.top,W.val,λd h=>e _ _ (W.row d h),W.nd,W.mem,W.rg,W.inj,W.off⟩
theorem ef.len (W:ef H wy n N kvs g ks) (h:d.1<n):(ks d).length<=2*n:=by
 have h1:((ks d).map λd:aj=>2*d.1+(if d.2 then 1 else 0)).Nodup:=by
  refine Zi _ (λd e ne z=>ne ?_) (W.nd d h);obtain ⟨p,s⟩:=d;obtain ⟨q,t⟩:=e;dsimp only at z;have:p=q/\s=t:=by cases s<;>cases t<;>simp at z ⊢<;>omega
  rw [this.1,this.2]
 have sb:∀ x∈((ks d).map λd:aj=>2*d.1+(if d.2 then 1 else 0)),x∈List.range (2*n):=λx hx=>by
  obtain ⟨e,he,rfl⟩:=Yc.mp hx;have:=W.rg d e h ((W.mem d e h).mp he);rw [mem_range];split<;>omega
 have:=h1.length_le_of_subset sb;simpa using this
inductive DR (H:Hp):XL->List aj->Prop where
 | nil:DR H [] []
 | cons {c:Addr} {d:aj} {cs:XL} {ds:List aj} (h:H c=some (.tup ((kd d).map kV))) (t:DR H cs ds):DR H (c::cs) (d::ds)
theorem DR.mono (e:∀ c xs,H c=some (.tup xs)->H' c=some (.tup xs)) (h:DR H cs ds):DR H' cs ds:=by
 induction h with
 | nil=>exact .nil
 | cons h _ ih=>exact .cons (e _ _ h) ih
theorem DR.add (h:DR H cs ds) (hc:H c=some (.tup ((kd d).map kV))):DR H (cs++[c]) (ds++[d]):=by
 induction h with
 | nil=>exact .cons hc .nil
 | cons h _ ih=>exact .cons h ih
def AV (H:Hp) (v:V):Option aj->Prop
 | none=>v=.dO
 | some e=>∃ c,v=.ref c/\H c=some (.tup ((kd e).map kV))
theorem AV.mono (e:∀ c xs,H c=some (.tup xs)->H' c=some (.tup xs)) (h:AV H v o):AV H' v o:=by
 cases o with
 | none=>exact h
 | some d=>obtain ⟨c,h1,h2⟩:=h;exact ⟨c,h1,e _ _ h2⟩
structure vz (H:Hp) (t:Addr) (kvs:List (aj×Option aj)) (r:aj->V):Prop where
 top:H t=some (.dT (kR (kvs.map Prod.fst) r))
 val:∀ d o,(d,o)∈kvs->AV H (r d) o
theorem qh (ks:List aj) (r:aj->V) (d:aj):(fH (kR ks r) (kd d)).isSome=decide (d∈ks):=by
 rw [mV];by_cases h:d∈ks
 ·rw [Ya h,YC h];rfl
 ·rw [X6 h,Yw h];rfl
theorem fQ (o':HO) (h:H a=some o) (no:∀ xs,o≠.tup xs):∀ c xs,H c=some (.tup xs)->upd H a o' c=some (.tup xs):=λc xs e=>by
 rw [ak (λz=>by rw [z,h] at e;injection e with e;exact no xs e)];exact e
theorem vz.get (A:vz H t eW r) (hb:H b=some (.tup ((kd d).map kV))) (hd:d∈eW.map Prod.fst):cP H t (.ref b) (some (r d)):=by
 have:=cP.t (k:=kd d) A.top hb;rw [mV,Ya hd] at this;exact this
theorem ef.get (W:ef H wy n N kvs g ks) (hb:H b=some (.tup ((kd d).map kV))) (hd:d.1<n):cP H wy (.ref b) (some (.ref (g d))):=by
 have:=cP.t (k:=kd d) W.top hb;rw [W.val d hd] at this;exact this
theorem vz.add (A:vz H t eW r) (ne:e∉eW.map Prod.fst) (hc:H' c=some (.tup ((kd x).map kV))) (h:H' t=some (.dT (Tl (kR (eW.map Prod.fst) r) (kd e) (.ref c)))) (tu:∀ c xs,H c=some (.tup xs)->H' c=some (.tup xs)):vz H' t (eW++[(e,some x)]) (λy=>if y=e then .ref c else r y):=by
 refine ⟨by rw [h,qg ne,Yl];rfl,λd o hd=>?_⟩;rcases Ye.mp hd with hd|hd
 ·rw [X6 (show ¬d=e from λz=>ne (z▸Yc.mpr ⟨_,hd,rfl⟩))];exact (A.val d o hd).mono tu
 ·have:=X9.mp hd;injection this with h1 h2;subst h1;subst h2;rw [Ya rfl];exact ⟨c,rfl,hc⟩
def vz.keep (A:vz H t eW r) (h:H' t=H t) (tu:∀ c xs,H c=some (.tup xs)->H' c=some (.tup xs)):vz H' t eW r:=⟨h.trans A.top,λd o hd=>(A.val d o hd).mono tu⟩
def G8 (eW:List (aj×Option aj)) (v:Option V) (H:Hp):Nat:=
 match v with
 | some (.ref c)=>(match H c with|some (.tup [.int p,.int s])=>rk eW (p.toNat,decide (s=1)) | _=>0)
 | _=>0
theorem mY (h:H c=some (.tup ((kd y).map kV))):G8 eW (some (.ref c)) H=rk eW y:=by
 unfold G8;dsimp only;rw [h];obtain ⟨p,s⟩:=y;cases s<;>rfl
theorem ef.push (W:ef H wy n (Res T f) kvs g ks) (pn:p.1<n) (xn:x.1<n)
  (sym:∀ a b,T a b->T b a) (CH:∀ a,¬T a a) (jg:∀ u v,f.F u v=true->T u v) (r:Res T f p x) (lx lp:List aj) (nx:lx.Nodup) (mx:∀ e,e∈lx↔e∈ks x\/e=p) (np:lp.Nodup) (mp:∀ e,e∈lp↔e∈ks p/\(e=x->¬(p.1=x.1\/p.2=false)))
  (hx:H' (g x)=some (.dT (kR lx λ_=>.bl true))) (hp:H' (g p)=some (.dT (kR lp λ_=>.bl true))) (AB:∀ b,b≠g x->b≠g p->H' b=H b):ef H' wy n (Res T (f.push p x)) kvs g (λd=>if d=x then lx else if d=p then lp else ks d):=by
 have px:p≠x:=λz=>by rw [z] at r;exact r.HQ rfl
 have JS:∀ c,f.F c c=false:=λc=>by
  cases h:f.F c c with
  | false=>rfl
  | true=>exact absurd (jg _ _ h) (CH c)
 refine ⟨?_,W.val,λd hd=>?_,λd hd=>?_,λd e hd=>?_,λd e hd hN=>?_,W.inj,W.off⟩
 ·rw [AB wy (W.off x xn).symm (W.off p pn).symm];exact W.top
 ·by_cases h1:d=x
  ·rw [Ya h1,h1];exact hx
  ·rw [X6 h1];by_cases h2:d=p
   ·rw [Ya h2,h2];exact hp
   ·rw [X6 h2,AB (g d) (λz=>h1 (W.inj _ _ hd xn z)) (λz=>h2 (W.inj _ _ hd pn z))];exact W.row d hd
 ·by_cases h1:d=x
  ·rw [Ya h1];exact nx
  ·rw [X6 h1];by_cases h2:d=p
   ·rw [Ya h2];exact np
   ·rw [X6 h2];exact W.nd d hd
 ·by_cases h1:d=x
  ·rw [Ya h1,mx,h1];by_cases h3:e=p
   ·rw [h3];exact ⟨λ_=>Fn sym jg r,λ_=>.inr rfl⟩
   ·rw [jU x e (λz=>px z.1.symm) (λz=>h3 z.2),<-W.mem x e xn];exact ⟨λz=>z.resolve_right h3,.inl⟩
  ·rw [X6 h1];by_cases h2:d=p
   ·rw [Ya h2,mp,h2];by_cases h3:e=x
    ·rw [h3,Cs CH JS r,W.mem p x pn];exact ⟨λz=>z.2 rfl,λz=>⟨r,λ_=>z⟩⟩
    ·rw [jU p e (λz=>h3 z.2) (λz=>px z.1),<-W.mem p e pn];exact ⟨λz=>z.1,λz=>⟨z,λy=>absurd y h3⟩⟩
   ·rw [X6 h2,jU d e (λz=>h2 z.1) (λz=>h1 z.1)];exact W.mem d e hd
 ·by_cases h1:d=p/\e=x
  ·rw [h1.2];exact xn
  ·by_cases h2:d=x/\e=p
   ·rw [h2.2];exact pn
   ·exact W.rg d e hd ((jU d e h1 h2).mp hN)
def Tw (L:UF) (a b:Nat) (p q:Nat):Prop:=(∃ l,L[p]?=some l/\(q:Int)∈l)/\¬((p=a/\q=b)\/(p=b/\q=a))
theorem Tw.Sg (m:aB L) (ha:a<L.length) (hb:b<L.length) (ne:a≠b):Net L.length (Tw L a b) a b:=by
 have rg:∀ p q,Tw L a b p q->p<L.length/\q<L.length:=λp q ⟨⟨l,h1,h2⟩,_⟩=>⟨(X3.mp h1).1,by have:=(m.rg p l h1 _ h2).2.1;omega⟩;refine ⟨λp q h=>?_,λp ⟨⟨l,h1,h2⟩,_⟩=>(m.rg p l h1 _ h2).2.2 rfl,rg,λh=>h.2 (.inl ⟨rfl,rfl⟩),ha,hb,ne⟩;have hq:=(rg p q h).2;obtain ⟨⟨l,h1,h2⟩,h3⟩:=h;refine ⟨⟨L[q],X4 hq,m.sy p l h1 _ h2 q rfl _ (X4 hq)⟩,λz=>h3 ?_⟩;rcases z with ⟨z1,z2⟩|⟨z1,z2⟩
 ·exact .inr ⟨z2,z1⟩
 ·exact .inl ⟨z2,z1⟩
def gn (f:Flow) (l:UV) (x:Nat):UV:=l.filter λv=>f.F x v.toNat
theorem qy {α:Type} {q:α->Bool} {y:α}:∀ {l:List α},l.Nodup->y∈l->q y=true->(∀ z∈l,q z=true->z=y)->l.filter q=[y]
 | [],_,h,_,_=>by cases h
 | x::l,nd,h,hq,un=>by
  rw [zaS] at nd;by_cases e:x=y
  ·subst e;rw [Z5,Ya hq]
   congr 1
   rw [filter_eq_nil_iff];intro z hz c;exact nd.1 (un z (.tail _ hz) c▸hz)
  ·have hl:y∈l:=(Yk.mp h).resolve_left λz=>e z.symm;have:¬q x=true:=λc=>e (un x (.head _) c);rw [Z5,X6 this];exact qy nd.2 hl hq λz hz=>un z (.tail _ hz)
structure Rd (f:Flow) (a b:Nat) (rd:List Nat):Prop where
 len:2<=rd.length
 hd:rd[0]?=some a
 nd:rd.Nodup
 go:∀ (j u v:Nat),rd[j]?=some u->rd[j+1]?=some v->f.F u v=true
 nb:∀ j,j+1<rd.length->rd[j]?≠some b
theorem Rd.start (F:Fl n T a b i f) (N:Net n T a b) (h:f.F a c=true):Rd f a b [a,c]:=by
 have ac:a≠c:=λz=>N.CH a (by have:=F.jg _ _ h;rwa [<-z] at this);refine ⟨by simp,rfl,by simp [ac],λj u v h1 h2=>?_,λj hj=>?_⟩
 ·cases j with
  | zero=>injection h1 with h1;injection h2 with h2;rw [<-h1,<-h2];exact h
  | succ j=>simp at h2
 ·have:j=0:=by simp at hj;omega
  subst this;intro z;injection z with z;exact N.ne z
theorem Rd.last {rd:List Nat} (R:Rd f a b rd) {x:Nat} (hx:rd[rd.length-1]?=some x):∃ u,f.F u x=true:=by
 have:=R.len;obtain ⟨u,hu⟩:∃ u,rd[rd.length-2]?=some u:=⟨_,X4 (by omega)⟩;exact ⟨u,R.go _ _ _ hu (by rw [show rd.length-2+1=rd.length-1 by omega];exact hx)⟩
theorem Rd.step (F:Fl n T a b i f) (N:Net n T a b) {rd:List Nat} (R:Rd f a b rd) {x y:Nat} (hx:rd[rd.length-1]?=some x) (xb:x≠b) (h:f.F x y=true):Rd f a b (rd++[y]):=by
 have l2:=R.len;have ny:y∉rd:=λhy=>by
  obtain ⟨j,hj⟩:=YB.mp hy;have jl:=(X3.mp hj).1;cases j with
  | zero=>
   rw [R.hd] at hj;injection hj with hj;subst hj;rw [F.Ee N] at h;cases h
  | succ j=>
   obtain ⟨u,hu⟩:∃ u,rd[j]?=some u:=⟨_,X4 (ZJ ‹_›)⟩;have h1:=R.go _ _ _ hu hj;by_cases yb:y=b
   ·subst yb;by_cases jj:j+1+1<rd.length
    ·exact R.nb _ jj hj
    ·have:j+1=rd.length-1:=by omega
     rw [this,hx] at hj;injection hj with hj;exact xb hj
   ·have:=F.Im N yb h1 h;subst this;have e1:=X3.mp hu;have e2:=X3.mp hx;have:=(Zp R.nd).mp (e1.2.trans e2.2.symm);omega
 refine ⟨by rw [Yr];exact ZK ‹_›,by rw [YL (ZJ ‹_›)];exact R.hd,?_,λj u v h1 h2=>?_,λj hj=>?_⟩
 ·refine YD.mpr ⟨R.nd,by simp,λd hd d' B7 z=>ny ?_⟩;rw [<-X9.mp B7,<-z];exact hd
 ·by_cases hl:j+1<rd.length
  ·rw [YL (by omega)] at h1 h2;exact R.go j u v h1 h2
  ·rw [Y1 (by omega)] at h2;have:j+1-rd.length=0:=by
    have:=(X3.mp h2).1;rw [YX] at this;omega
   rw [this] at h2;injection h2 with h2;subst h2;rw [YL (by omega),show j=rd.length-1 by omega,hx] at h1;injection h1 with h1;subst h1;exact h
 ·rw [Yr,YX] at hj;rw [YL (by omega)];by_cases hl:j+1<rd.length
  ·exact R.nb j hl
  ·rw [show j=rd.length-1 by omega,hx];intro z;injection z with z;exact xb z
theorem Rd.rg (F:Fl n T a b i f) (N:Net n T a b) {rd:List Nat} (R:Rd f a b rd):∀ x∈rd,x<n:=λx hx=>by
 obtain ⟨j,hj⟩:=YB.mp hx;cases j with
 | zero=>rw [R.hd] at hj;injection hj with hj;rw [<-hj];exact N.ha
 | succ j=>
  have jl:=(X3.mp hj).1;obtain ⟨u,hu⟩:∃ u,rd[j]?=some u:=⟨_,X4 (ZJ ‹_›)⟩;exact (N.rg _ _ (F.jg _ _ (R.go _ _ _ hu hj))).2
theorem Rd.IH (F:Fl n T a b i f) (N:Net n T a b) {rd:List Nat} (R:Rd f a b rd):rd.length<=n:=by
 have:=R.nd.length_le_of_subset (l₂:=List.range n) λx hx=>YO.mpr (R.rg F N x hx);simpa using this
theorem Fc {l:UV} {n:Nat} {y:Int} (hl:l.length=n+1) (h:l[n]?=some y):mq (l.map V.int) (-1)=some (V.int y):=by
 have e:l=l.take n++[y]:=by
  have:=take_succ (l:=l) (i:=n);rw [h,zai (by omega)] at this;exact this
 rw [e,Yl];exact Fe _ _
def ef.congr (W:ef H wy n N kvs g ks) (h:∀ d e,d.1<n->(N d e↔N' d e)):ef H wy n N' kvs g ks:=
 ⟨W.top,W.val,W.row,W.nd,λd e hd=>(W.mem d e hd).trans (h d e hd),λd e hd hN=>W.rg d e hd ((h d e hd).mpr hN),W.inj,W.off⟩
theorem ef.put (W:ef H wy n N kvs g ks) (xn:x.1<n) (pn:p.1<n) :
  ∃ ja,ef (upd H (g x) (.dT (Tl (kR (ks x) λ_=>V.bl true) (kd p) (V.bl true)))) wy n (λd e=>N d e\/(d=x/\e=p)) kvs g ja:=by
 obtain ⟨lx,ex,nx,mx⟩:∃ lx:List aj,Tl (kR (ks x) λ_=>V.bl true) (kd p) (V.bl true)=kR lx (λ_=>V.bl true)/\lx.Nodup/\∀ e,e∈lx↔e∈ks x\/e=p:=by
  by_cases h:p∈ks x
  ·exact ⟨ks x,qc h,W.nd x xn,λe=>⟨.inl,λz=>z.elim id λz=>z▸h⟩⟩
  ·refine ⟨ks x++[p],qf h,?_,λe=>by simp⟩;refine YD.mpr ⟨W.nd x xn,by simp,λd hd d' B7 z=>h ?_⟩;rw [<-X9.mp B7,<-z];exact hd
 rw [ex];refine ⟨λd=>if d=x then lx else ks d,(ak (W.off x xn).symm).trans W.top,W.val,λd hd=>?_,λd hd=>?_,λd e hd=>?_,λd e hd hN=>?_,W.inj,W.off⟩
 ·by_cases h1:d=x
  ·rw [Ya h1,h1];exact ae
  ·rw [X6 h1,ak (λz=>h1 (W.inj _ _ hd xn z))];exact W.row d hd
 ·by_cases h1:d=x
  ·rw [Ya h1];exact nx
  ·rw [X6 h1];exact W.nd d hd
 ·by_cases h1:d=x
  ·rw [Ya h1,mx,h1,W.mem x e xn];exact ⟨λz=>z.imp id λy=>⟨rfl,y⟩,λz=>z.imp id And.right⟩
  ·rw [X6 h1,W.mem d e hd];exact ⟨.inl,λz=>z.resolve_right λy=>h1 y.1⟩
 ·rcases hN with z|z
  ·exact W.rg d e hd z
  ·rw [z.2];exact pn
def N0 (d e:aj):Prop:=d.2=false/\e=(d.1,true)
theorem ef.lay {H H':Hp} {wy:Addr} {i:Nat} {dl:List aj} {g:aj->Addr} {ks:aj->List aj} (W:ef H wy i N0 (kR dl λd=>.ref (g d)) g ks) (Kw:∀ d,d∈dl↔d.1<i) {p1 p2:Addr}
  (h0:∀ b,b≠wy->∀ o,H b=some o->H' b=some o) (f1:H p1=none) (f2:H p2=none) (So:p1≠p2) (h1:H' p1=some (.dT (kR [(i,true)] λ_=>.bl true))) (h2:H' p2=some (.dT (kR [] λ_=>.bl true)))
  (ht:H' wy=some (.dT (Tl (Tl (kR dl λd=>.ref (g d)) (kd (i,false)) (.ref p1)) (kd (i,true)) (.ref p2)))) :
  ∃ Ny g' ja,(∀ d,d∈Ny↔d.1<i+1)/\Ny.length=dl.length+2/\ef H' wy (i+1) N0 (kR Ny λd=>.ref (g' d)) g' ja/\∀ d:aj,d.1<i+1->g' d=p1\/g' d=p2\/(d.1<i/\g' d=g d):=by
 have n1:(i,false)∉dl:=λz=>by have:=(Kw _).mp z;exact absurd this (YN _)
 have n2:((i,true):aj)∉dl++[(i,false)]:=λz=>by
  rcases Ye.mp z with z|z
  ·have:=(Kw _).mp z;exact absurd this (YN _)
  ·have:=X9.mp z;injection this with _ y;cases y
 rw [qg n1,qg n2] at ht;let g':aj->Addr:=λd=>if d=(i,true) then p2 else if d=(i,false) then p1 else g d
 have eg:(λe:aj=>if e=(i,true) then V.ref p2 else if e=(i,false) then V.ref p1 else V.ref (g e))=λe=>V.ref (g' e):=by
  funext e;show _=V.ref (if e=(i,true) then p2 else if e=(i,false) then p1 else g e);split
  ·rfl
  ·split<;>rfl
 rw [eg] at ht;have two:∀ d:aj,d.1<i+1->d=(i,true)\/d=(i,false)\/d.1<i:=λd hd=>by
  obtain ⟨p,s⟩:=d;by_cases e:p=i
  ·subst e;cases s
   ·exact .inr (.inl rfl)
   ·exact .inl rfl
  ·exact .inr (.inr (by show p<i;have:p<i+1:=hd;omega))
 have gt:g' (i,true)=p2:=Ya rfl;have gf:g' (i,false)=p1:=(X6 (by simp)).trans (Ya rfl);have go:∀ d:aj,d.1<i->g' d=g d:=λd hd=>(X6 (λz=>by rw [z] at hd;exact absurd hd (YN _))).trans (X6 (λz=>by rw [z] at hd;exact absurd hd (YN _)));have r1:∀ d:aj,d.1<i->g d≠p1:=λd hd z=>by have:=W.row d hd;rw [z,f1] at this;cases this
 have r2:∀ d:aj,d.1<i->g d≠p2:=λd hd z=>by have:=W.row d hd;rw [z,f2] at this;cases this
 have w1:p1≠wy:=λz=>by rw [z,W.top] at f1;cases f1
 have w2:p2≠wy:=λz=>by rw [z,W.top] at f2;cases f2
 have hm:∀ d,d∈dl++[(i,false)]++[(i,true)]↔d.1<i+1:=λd=>by
  rw [zbm,zbm,zbp,zbp,Kw];constructor
  ·rintro ((z|z) | z)
   ·omega
   ·rw [z];exact ZG _
   ·rw [z];exact ZG _
  ·intro z;rcases two d z with y|y|y
   ·exact .inr y
   ·exact .inl (.inr y)
   ·exact .inl (.inl y)
 refine ⟨dl++[(i,false)]++[(i,true)],g',λd=>if d=(i,true) then [] else if d=(i,false) then [(i,true)] else ks d,hm,by simp,⟨ht,λd hd=>?_,λd hd=>?_,λd hd=>?_,λd e hd=>?_,λd e hd hN=>?_,λd e hd he hg=>?_,λd hd=>?_⟩,λd hd=>?_⟩
 ·rw [mV,Ya ((hm d).mpr hd)]
 ·rcases two d hd with z|z|z
  ·rw [z,gt,Ya rfl];exact h2
  ·rw [z,gf,X6 (by simp),Ya rfl];exact h1
  ·rw [go d z,X6 (λy=>by rw [y] at z;exact absurd z (YN _)),X6 (λy=>by rw [y] at z;exact absurd z (YN _))];exact h0 _ (W.off d z) _ (W.row d z)
 ·rcases two d hd with z|z|z
  ·rw [Ya z];simp
  ·rw [z,X6 (by simp),Ya rfl];simp
  ·rw [X6 (λy=>by rw [y] at z;exact absurd z (YN _)),X6 (λy=>by rw [y] at z;exact absurd z (YN _))];exact W.nd d z
 ·rcases two d hd with z|z|z
  ·rw [Ya z,z];simp [N0]
  ·rw [z,X6 (by simp),Ya rfl];simp [N0]
  ·rw [X6 (λy=>by rw [y] at z;exact absurd z (YN _)),X6 (λy=>by rw [y] at z;exact absurd z (YN _))];exact W.mem d e z
 ·rw [hN.2];exact hd
 ·rcases two d hd with z|z|z<;>rcases two e he with y|y|y
  ·rw [z,y]
  ·rw [z,y,gt,gf] at hg;exact absurd hg.symm So
  ·rw [z,gt,go e y] at hg;exact absurd hg.symm (r2 e y)
  ·rw [z,y,gt,gf] at hg;exact absurd hg So
  ·rw [z,y]
  ·rw [z,gf,go e y] at hg;exact absurd hg.symm (r1 e y)
  ·rw [y,gt,go d z] at hg;exact absurd hg (r2 d z)
  ·rw [y,gf,go d z] at hg;exact absurd hg (r1 d z)
  ·rw [go d z,go e y] at hg;exact W.inj d e z y hg
 ·rcases two d hd with z|z|z
  ·rw [z,gt];exact w2
  ·rw [z,gf];exact w1
  ·rw [go d z];exact W.off d z
 ·rcases two d hd with z|z|z
  ·rw [z];exact .inr (.inl gt)
  ·rw [z];exact .inl gf
  ·exact .inr (.inr ⟨z,go d z⟩)
def Nk (T:List (Int×Int)) (a b k:Nat) (d e:aj):Prop:=N0 d e\/(d.2=true/\e.2=false/\(((d.1:Int),(e.1:Int))∈T.take k\/((e.1:Int),(d.1:Int))∈T.take k)/\¬((d.1=a/\e.1=b)\/(d.1=b/\e.1=a)))
theorem Hr (d e:aj):N0 d e↔Nk T a b 0 d e:=by
 unfold Nk;simp
theorem jZ {α:Type} {T:List α} {k:Nat} {t x:α} (h:T[k]?=some t):x∈T.take (k+1)↔x∈T.take k\/x=t:=by
 rw [zay,h];simp
theorem Ht {a b k u v:Nat} (h:T[k]?=some ((u:Int),(v:Int))) (ex:(u=a/\v=b)\/(u=b/\v=a)) (d e:aj):Nk T a b k d e↔Nk T a b (k+1) d e:=by
 unfold Nk;rw [jZ h,jZ h];refine or_congr zad (and_congr zad (and_congr zad ⟨λz=>⟨z.1.imp .inl .inl,z.2⟩,λz=>⟨?_,z.2⟩⟩));rcases z.1 with (y|y) | (y|y)
 ·exact .inl y
 ·injection y with y1 y2;exact absurd (by omega) z.2
 ·exact .inr y
 ·injection y with y1 y2;exact absurd (by omega) z.2
theorem K9 {a b k u v:Nat} (h:T[k]?=some ((u:Int),(v:Int))) (ex:¬((u=a/\v=b)\/(u=b/\v=a))) (d e:aj):((Nk T a b k d e\/(d=(u,true)/\e=(v,false)))\/(d=(v,true)/\e=(u,false)))↔Nk T a b (k+1) d e:=by
 unfold Nk;rw [jZ h,jZ h];obtain ⟨p,s⟩:=d;obtain ⟨q,t⟩:=e;constructor
 ·rintro ((z|z) | z)
  ·rcases z with z|⟨z1,z2,z3,z4⟩
   ·exact .inl z
   ·exact .inr ⟨z1,z2,z3.imp .inl .inl,z4⟩
  ·obtain ⟨z1,z2⟩:=z;injection z1 with z1 z3;injection z2 with z2 z4;subst z1;subst z2;subst z3;subst z4;exact .inr ⟨rfl,rfl,.inl (.inr rfl),ex⟩
  ·obtain ⟨z1,z2⟩:=z;injection z1 with z1 z3;injection z2 with z2 z4;subst z1;subst z2;subst z3;subst z4;refine .inr ⟨rfl,rfl,.inr (.inr rfl),λz=>ex ?_⟩;dsimp only at z;omega
 ·rintro (z|⟨z1,z2,z3,z4⟩)
  ·exact .inl (.inl (.inl z))
  ·dsimp only at z1 z2 z3;subst z1;subst z2;rcases z3 with (y|y) | (y|y)
   ·exact .inl (.inl (.inr ⟨rfl,rfl,.inl y,z4⟩))
   ·injection y with y1 y2;have:p=u:=by omega
    have:q=v:=by omega
    subst p;subst q;exact .inl (.inr ⟨rfl,rfl⟩)
   ·exact .inl (.inl (.inr ⟨rfl,rfl,.inr y,z4⟩))
   ·injection y with y1 y2;have:q=u:=by omega
    have:p=v:=by omega
    subst p;subst q;exact .inr ⟨rfl,rfl⟩
def f0:Flow:=⟨λ_=>false,λ_ _=>false⟩
theorem K8 (m:aB L) (d e:aj) (hd:d.1<L.length):Nk (eX L L.length) a b (eX L L.length).length d e↔Res (Tw L a b) f0 d e:=by
 unfold Nk;rw [Y6];obtain ⟨p,s⟩:=d;obtain ⟨q,t⟩:=e;have hp:p<L.length:=hd;have row:tx L (p:Int)=L[p]:=bE (X4 hp);have key:((((p:Int),(q:Int))∈eX L L.length\/((q:Int),(p:Int))∈eX L L.length))↔∃ l,L[p]?=some l/\(q:Int)∈l:=by
  rw [fB (X7 _),fB (X7 _)];dsimp only;constructor
  ·rintro (z|z)
   ·exact ⟨L[p],X4 hp,by rw [<-row];exact z.2.2.2.2⟩
   ·have hq:q<L.length:=by omega
    have Jr:tx L (q:Int)=L[q]:=bE (X4 hq);rw [Jr] at z;exact ⟨L[p],X4 hp,m.sy q _ (X4 hq) _ z.2.2.2.2 p rfl _ (X4 hp)⟩
  ·rintro ⟨l,h1,h2⟩;have r:=m.rg p l h1 _ h2;have hq:q<L.length:=by omega
   have el:l=L[p]:=by rw [X4 hp] at h1;injection h1 with h1;exact h1.symm
   by_cases c:p<q
   ·exact .inl ⟨Tk _,by omega,by omega,by omega,by rw [row,<-el];exact h2⟩
   ·have Jr:tx L (q:Int)=L[q]:=bE (X4 hq);exact .inr ⟨Tk _,by omega,by omega,by omega,by rw [Jr];exact m.sy p l h1 _ h2 q rfl _ (X4 hq)⟩
 cases s<;>cases t
 ·simp [N0,Res]
 ·rw [dU];simp [N0,f0];exact eq_comm
 ·rw [fP];dsimp only;rw [key];unfold Tw N0;simp [f0]
 ·simp [N0,Res]
theorem Nr:Fl n T a b ((0:Nat):Int) f0:=by
 refine ⟨λu v h=>absurd h Yo,rfl,rfl,λx _=>?_⟩;obtain ⟨p,s⟩:=x;have z:Dt.sm n (λ_=>bi false)=0:=Dt.j4 λi _=>rfl;cases s
 ·show Dt.sm n (λu=>bi (f0.F u p))-bi (f0.U p)=_;rw [show (λu=>bi (f0.F u p))=λ_=>bi false from rfl,z];show (0:Int)-0=_;grind
 ·show bi (f0.U p)-Dt.sm n (λv=>bi (f0.F p v))=_;rw [show (λu=>bi (f0.F p u))=λ_=>bi false from rfl,z];show (0:Int)-0=_;grind
theorem kO (c:Nat->Bool) (j:Nat):(List.range (j+1)).filter c=(List.range j).filter c++if c j=true then [j] else []:=by
 rw [Z9,Zx]
 congr 1
 cases h:c j<;>simp [h]
theorem BG (c:Nat->Bool) (j:Nat):((List.range j).filter c).length<=j:=Y2 (Zy _ _) (by simp)
def lenOf (v:Option V) (H:Hp):Nat:=
 match v with
 | some (.ref c)=>(match H c with|some (.lst xs)=>xs.length|_=>0)
 | _=>0
theorem fE (h:H c=some (.lst xs)):lenOf (some (.ref c)) H=xs.length:=by
 unfold lenOf;dsimp only;rw [h]
theorem Dd {α:Type} [DecidableEq α] {A B:List α} (nd:A.Nodup) (sub:∀ x∈A,x∈B) (le:B.length<=A.length):∀ x∈B,x∈A:=λx hx=>by
 refine Yd λnx=>?_;have h:=(Yp.mpr ⟨nx,nd⟩).length_le_of_subset (l₂:=B) λy hy=>by
  rcases Yk.mp hy with z|z
  ·rw [z];exact hx
  ·exact sub y z
 rw [YV] at h;omega
theorem bO.from (h:bO L S s x) (k:bO L S x y):bO L S s y:=by
 induction k with
 | here=>exact h
 | step _ h1 h2 h3 ih=>exact .step ih h1 h2 h3
theorem bO.off (h:bO L S s x) (hs:s∉S):x∉S:=by
 cases h with
 | here=>exact hs
 | step _ _ _ h=>exact h
theorem bO.back (m:aB L) (h:bO L S s x) (hs:s∉S) (r:0<=s/\s<L.length):bO L S x s:=by
 induction h with
 | here=>exact .here
 | @step i l x h1 h2 h3 h4 ih=>
  have rx:=m.rg i l h2 x h3;obtain ⟨xn,rfl⟩:=Ys rx.1;have hx:xn<L.length:=by omega
  have h5:=m.sy i l h2 _ h3 xn rfl _ (X4 hx);exact bO.from (bO.step (i:=xn) .here (X4 hx) h5 (bO.off h1 hs)) ih
theorem JB (m:aB L) {a b:Int} (ha:0<=a/\a<L.length) (hb:0<=b/\b<L.length) (na:a∉S) (nb:b∉S) (h:¬bO L S a b):yJ L S=true:=by
 have ma:a∈left L.length S:=Zb.mpr ⟨bM.mpr ha,by simpa using na⟩;have mb:b∈left L.length S:=Zb.mpr ⟨bM.mpr hb,by simpa using nb⟩;cases e:left L.length S with
 | nil=>rw [e] at ma;cases ma
 | cons s r=>
  rw [wC e];have hs:=ou (n:=L.length) (S:=S) (s:=s) (by rw [e];exact .head _);refine YC (Nat.lt_of_not_le λle=>h ?_);have sub:∀ x∈(bX L.length).filter (λx=>@decide (bO L S s x) (Classical.propDecidable _)),x∈s::r:=λx hx=>by
   obtain ⟨h1,h2⟩:=Zb.mp hx;rw [<-e];have h2:bO L S s x:=by simpa using h2
   exact Zb.mpr ⟨h1,by simpa using bO.off h2 hs.2.2⟩
  have nd:((bX L.length).filter (λx=>@decide (bO L S s x) (Classical.propDecidable _))).Nodup:=(fb _).filter _;have all:∀ x∈s::r,bO L S s x:=λx hx=>by
   have:=Dd nd sub le x hx;simpa using (Zb.mp this).2
  have ra:=all a (by rw [<-e];exact ma);have rb:=all b (by rw [<-e];exact mb);exact bO.from (bO.back m ra hs.2.2 ⟨hs.1,hs.2.1⟩) rb
theorem Gf (m:aB L) (h:yJ L S=true):∃ a b:Int,(0<=a/\a<L.length)/\(0<=b/\b<L.length)/\a∉S/\b∉S/\¬bO L S a b:=by
 cases e:left L.length S with
 | nil=>rw [Gg e] at h;cases h
 | cons s r=>
  rw [wC e] at h;have h:=ZX h;have hs:=ou (n:=L.length) (S:=S) (s:=s) (by rw [e];exact .head _);refine Yd λno=>?_;have all:∀ x∈s::r,bO L S s x:=λx hx=>by
   have ow:=ou (n:=L.length) (S:=S) (s:=x) (by rw [e];exact hx);exact Yd λnx=>no ⟨s,x,⟨hs.1,hs.2.1⟩,⟨ow.1,ow.2.1⟩,hs.2.2,ow.2.2,nx⟩
  have nd:(s::r).Nodup:=by rw [<-e];exact (fb _).filter _
  have:=nd.length_le_of_subset (l₂:=(bX L.length).filter (λx=>@decide (bO L S s x) (Classical.propDecidable _))) λx hx=>by
   have ow:=ou (n:=L.length) (S:=S) (s:=x) (by rw [e];exact hx);exact Zb.mpr ⟨bM.mpr ⟨ow.1,ow.2.1⟩,by simpa using all x hx⟩
  unfold rn at h;omega
theorem bO.mem (h:∀ x,x∈S↔x∈S') (r:bO L S s x):bO L S' s x:=by
 induction r with
 | here=>exact .here
 | step _ h1 h2 h3 ih=>exact .step ih h1 h2 λz=>h3 ((h _).mpr z)
theorem wg (n:Nat):∀ k,[]∈eS n k
 | 0=>.head _
 | k+1=>Yx _ (wg n k)
theorem we {n x:Nat} (h:x<n):∀ k,[(x:Int)]∈eS n k
 | 0=>.tail _ (Yc.mpr ⟨_,bM.mpr ⟨Tk _,by omega⟩,rfl⟩)
 | k+1=>Yx _ (we h k)
theorem oQ {n x y:Nat} (h:x<y) (hy:y<n):∀ k,x<k->[(x:Int),(y:Int)]∈eS n k
 | 0,hk=>absurd hk (ZF _)
 | k+1,hk=>by
  by_cases e:x=k
  ·subst e;refine YA _ (Yc.mpr ⟨y-(x+1),YO.mpr (by omega),?_⟩);rw [show (x:Int)+1+((y-(x+1):Nat):Int)=(y:Int) by omega]
  ·exact Yx _ (oQ h hy k (by omega))
theorem Di {n:Nat} {S:List Nat} (nd:S.Nodup) (rg:∀ x∈S,x<n) (l:S.length<=2):∃ S'∈eS n n,S'.length=S.length/\∀ x:Int,x∈S'↔x∈S.map λy:Nat=>(y:Int):=by
 match S,nd,rg,l with
 | [],_,_,_=>exact ⟨[],wg n n,rfl,λx=>zad⟩
 | [x],_,rg,_=>exact ⟨[(x:Int)],we (rg x (.head _)) n,rfl,λ_=>zad⟩
 | [x,y],nd,rg,_=>
  have hx:=rg x (.head _);have hy:=rg y (.tail _ (.head _));have ne:x≠y:=λz=>by subst z;simp at nd
  by_cases c:x<y
  ·exact ⟨[(x:Int),(y:Int)],oQ c hy n hx,rfl,λ_=>zad⟩
  ·refine ⟨[(y:Int),(x:Int)],oQ (by omega) hx n hy,rfl,λz=>?_⟩;simp;exact or_comm
theorem j5 (m:aB L) {S:List Nat} (nd:S.Nodup) (rg:∀ x∈S,x<L.length) (l:S.length<=2) {a b:Nat} (ha:a<L.length) (hb:b<L.length) (na:a∉S) (nb:b∉S) (h:¬bO L (S.map λy:Nat=>(y:Int)) (a:Int) (b:Int)):∃ S'∈eS L.length L.length,S'.length=S.length/\yJ L S'=true:=by
 obtain ⟨S',h1,h2,h3⟩:=Di nd rg l;have off:∀ c:Nat,c∉S->(c:Int)∉S':=λc hc z=>by
  obtain ⟨y,hy,e⟩:=Yc.mp ((h3 _).mp z);have:y=c:=by omega
  exact hc (this▸hy)
 exact ⟨S',h1,h2,JB m ⟨Tk _,by omega⟩ ⟨Tk _,by omega⟩ (off a na) (off b nb) λz=>h (bO.mem h3 z)⟩
theorem uz (m:aB L) {a b:Nat} (hl:L[a]?=some l) (hb:b<L.length) (AF:a≠b) {f:Flow} {i:Nat} {D:aj->Bool} (hi:i<if (b:Int)∈l then 2 else 3) (F:Fl L.length (Tw L a b) a b (i:Int) f)
  (da:D (a,true)=true) (db:D (b,false)=false) (E5:D (b,true)=false) (cl:∀ d e,D d=true->Res (Tw L a b) f d e->D e=true) (hS:S=(List.range L.length).filter (λp=>D (p,false)&&!D (p,true))) :
  (3<L.length->∃ S'∈eS L.length L.length,yJ L S'=true)/\((b:Int)∉l->S.length<=2/\∃ S'∈eS L.length L.length,S'.length=S.length/\yJ L S'=true):=by
 have ha:a<L.length:=(X3.mp hl).1;have N:=Tw.Sg m ha hb AF;have len:(i:Int)=(S.length:Int):=by rw [F.cut N D da db cl,r9,hS]
 have mS:∀ x,x∈S↔x<L.length/\D (x,false)=true/\D (x,true)=false:=λx=>by
  rw [hS,zaR,mem_range];simp
 have nd:S.Nodup:=by rw [hS];exact List.nodup_range.filter _
 have rg:∀ x∈S,x<L.length:=λx hx=>((mS x).mp hx).1;have na:a∉S:=λz=>by rw [((mS a).mp z).2.2] at da;cases da
 have nb:b∉S:=λz=>by rw [((mS b).mp z).2.1] at db;cases db
 have go:∀ x y:Nat,D (x,true)=true->Tw L a b x y->y∉S->D (y,true)=true:=λx y hx t hy=>by
  have h1:=cl _ _ hx (fP.mpr (.inl t));cases h2:D (y,true) with
  | true=>rfl
  | false=>exact absurd ((mS y).mpr ⟨(N.rg _ _ t).2,h1,h2⟩) hy
 have Gx:∀ (A:List Nat) (y:Nat),(y:Int)∉A.map (λy:Nat=>(y:Int))->y∉A:=λA y h z=>h (Yc.mpr ⟨y,z,rfl⟩);constructor
 ·intro n3;by_cases hn:(b:Int)∈l
  ·rw [Ya hn] at hi;have lS:S.length<=1:=by omega
   obtain ⟨c,hc,ca,cb,cS⟩:∃ c,c<L.length/\c≠a/\c≠b/\c∉S:=by
    refine Yd λno=>?_;have:=(nodup_range (n:=L.length)).length_le_of_subset (l₂:=a::b::S) λx hx=>by
     refine Yd λnx=>no ⟨x,YO.mp hx,λz=>nx (z▸.head _),λz=>nx (z▸.tail _ (.head _)),λz=>nx (.tail _ (.tail _ z))⟩
    simp at this;omega
   cases dc:D (c,true) with
   | false=>
    -- a and c are parted by S and b
    obtain ⟨S',h1,_,h2⟩:=j5 m (S:=b::S) (Yp.mpr ⟨nb,nd⟩) (λx hx=>(Yk.mp hx).elim (λz=>z▸hb) (rg x)) (by rw [YV];omega) ha hc (λz=>(Yk.mp z).elim AF na) (λz=>(Yk.mp z).elim cb cS) λr=>by
     have:∀ z:Int,bO L ((b::S).map λy:Nat=>(y:Int)) (a:Int) z->∀ y:Nat,z=y->D (y,true)=true:=λz r=>by
      induction r with
      | here=>
           intro y e;have:y=a:=by omega
           rw [this];exact da
      | @step j lj z h1 h2 h3 h4 ih=>
       intro y e;subst e;have hj:=ih j rfl;have hy:=Gx _ _ h4;have jb:j≠b:=λz=>by rw [z,E5] at hj;cases hj
       refine go j y hj ⟨⟨lj,h2,h3⟩,λz=>?_⟩ λz=>hy (.tail _ z);rcases z with ⟨_,z⟩|⟨z,_⟩
       ·exact hy (z▸.head _)
       ·exact jb z
     rw [this _ r c rfl] at dc;cases dc
    exact ⟨S',h1,h2⟩
   | true=>
    obtain ⟨S',h1,_,h2⟩:=j5 m (S:=a::S) (Yp.mpr ⟨na,nd⟩) (λx hx=>(Yk.mp hx).elim (λz=>z▸ha) (rg x)) (by rw [YV];omega) hb hc (λz=>(Yk.mp z).elim (λz=>AF z.symm) nb) (λz=>(Yk.mp z).elim ca cS) λr=>by
     have:∀ z:Int,bO L ((a::S).map λy:Nat=>(y:Int)) (b:Int) z->∀ y:Nat,z=y->y∉a::S/\D (y,true)=false:=λz r=>by
      induction r with
      | here=>
           intro y e;have:y=b:=by omega
           rw [this];exact ⟨λz=>(Yk.mp z).elim (λz=>AF z.symm) nb,E5⟩
      | @step j lj z h1 h2 h3 h4 ih=>
       intro y e;subst e;obtain ⟨VG,hj⟩:=ih j rfl;have hy:=Gx _ _ h4;refine ⟨hy,?_⟩;cases dy:D (y,true) with
       | false=>rfl
       | true=>
        have ya:y≠a:=λz=>hy (z▸.head _);have yb:y≠b:=λz=>by rw [z,E5] at dy;cases dy
        have t:Tw L a b j y:=⟨⟨lj,h2,h3⟩,λz=>by rcases z with ⟨_,z⟩|⟨_,z⟩;exact yb z;exact ya z⟩;rw [go y j dy (N.sym _ _ t) λz=>VG (.tail _ z)] at hj;cases hj
     rw [(this _ r c rfl).2] at dc;cases dc
    exact ⟨S',h1,h2⟩
  ·obtain ⟨S',h1,_,h2⟩:=j5 m nd rg (by rw [X6 hn] at hi;omega) ha hb na nb λr=>by
    have:∀ z:Int,bO L (S.map λy:Nat=>(y:Int)) (a:Int) z->∀ y:Nat,z=y->D (y,true)=true:=λz r=>by
     induction r with
     | here=>
          intro y e;have:y=a:=by omega
          rw [this];exact da
     | @step j lj z h1 h2 h3 h4 ih=>
      intro y e;subst e;have hj:=ih j rfl;have jb:j≠b:=λz=>by rw [z,E5] at hj;cases hj
      refine go j y hj ⟨⟨lj,h2,h3⟩,λz=>?_⟩ (Gx _ _ h4);rcases z with ⟨z1,z2⟩|⟨z,_⟩
      ·subst z1;subst z2;rw [hl] at h2;injection h2 with h2;subst h2;exact hn h3
      ·exact jb z
    rw [this _ r b rfl] at E5;cases E5
   exact ⟨S',h1,h2⟩
 ·intro hn;rw [X6 hn] at hi;refine ⟨by omega,j5 m nd rg (by omega) ha hb na nb λr=>?_⟩;have:∀ z:Int,bO L (S.map λy:Nat=>(y:Int)) (a:Int) z->∀ y:Nat,z=y->D (y,true)=true:=λz r=>by
   induction r with
   | here=>
        intro y e;have:y=a:=by omega
        rw [this];exact da
   | @step j lj z h1 h2 h3 h4 ih=>
    intro y e;subst e;have hj:=ih j rfl;have jb:j≠b:=λz=>by rw [z,E5] at hj;cases hj
    refine go j y hj ⟨⟨lj,h2,h3⟩,λz=>?_⟩ (Gx _ _ h4);rcases z with ⟨z1,z2⟩|⟨z,_⟩
    ·subst z1;subst z2;rw [hl] at h2;injection h2 with h2;subst h2;exact hn h3
    ·exact jb z
  rw [this _ r b rfl] at E5;cases E5
def NT (L:UF) (x y:Nat):Prop:=∃ l f,L[x]?=some l/\Fl L.length (Tw L x y) x y (if (y:Int)∈l then 2 else 3) f
structure J (L:UF) (al:Bool) (fw:Nat) (Dn:Nat->Nat->Prop):Prop where
 t:al=true->∀ x y,Dn x y->NT L x y
 f:al=false->3<L.length->∃ S'∈eS L.length L.length,yJ L S'=true
 le:fw<=3
 sm:fw<3->∃ S'∈eS L.length L.length,S'.length=fw/\yJ L S'=true
 nb:∀ x y,Dn x y->∀ l,L[x]?=some l->(y:Int)∉l->NT L x y\/fw<=2
end Fw
namespace Gm
open PySem L2
theorem oP {n:Nat}:∀ (k:Nat) (S:UV),S∈eS n k->S.length<=2
 | 0,S,h=>by
  unfold eS at h;rcases Yk.mp h with rfl|h
  ·simp
  ·obtain ⟨i,_,rfl⟩:=Yc.mp h;simp
 | k+1,S,h=>by
  unfold eS at h;rcases Ye.mp h with h|h
  ·exact oP k S h
  ·obtain ⟨j,hj⟩:=YB.mp h;have jl:=(X3.mp hj).1;rw [twos_len] at jl;rw [twos_at jl] at hj;cases hj
   simp
theorem qJ.yJ (t:qJ L) (m:aB L) (h:S.length<=2):yJ L S=false:=by
 cases e:Gm.yJ L S with
 | false=>rfl
 | true=>
  obtain ⟨a,b,ha,hb,na,nb,no⟩:=Fw.Gf m e;exfalso;obtain ⟨x,y,hS⟩:∃ x y:Int,(∀ z∈S,z=x\/z=y)/\a≠x/\a≠y/\b≠x/\b≠y:=by
   match S,h with
   | [],_=>exact ⟨-1,-1,by simp,by omega,by omega,by omega,by omega⟩
   | [x],_=>exact ⟨x,x,by simp,by simpa using na,by simpa using na,by simpa using nb,by simpa using nb⟩
   | [x,y],_=>
    simp only [Za,YT,Zf,zbh] at na nb;exact ⟨x,y,by simp,na.1,na.2,nb.1,nb.2⟩
  refine no ((t x y a b ha.1 ha.2 hb.1 hb.2 hS.2.1 hS.2.2.1 hS.2.2.2.1 hS.2.2.2.2).wk m λz _ _ hz=>?_);simp only [Za,YT,Zf];exact hS.1 z hz
section
variable {i j:Nat}
theorem iJ (ld:eP L R) (hi:R[i]?=some r) (hj:R[j]?=some s) (ij:i≠j) (h1:d∈sh 0 r):d∉sh 0 s:=λh2=>by
 obtain ⟨u,e1⟩:=(bu (by have:=(ld.good r (Yb hi)).two;exact ZJ ‹_›)).mp h1;obtain ⟨v,e2⟩:=(bu (by have:=(ld.good s (Yb hj)).two;exact ZJ ‹_›)).mp h2;have l1:=jL ld hi u;have l2:=jL ld hj v;rw [<-e1] at l1;rw [<-e2] at l2;omega
theorem TY.C0 (t:TY L) (ld:eP L R) (hi:R[i]?=some r) (hj:R[j]?=some s) (ij:i≠j) (ab:a≠b) (a1:a∈r) (b1:b∈r) (a2:a∈s) (b2:b∈s):∃ d,d∈sh 0 r/\(d.2,d.1)∈sh 0 s/\(d=(a,b)\/d=(b,a)):=by
 have m1:sh 0 r∈R.map (sh 0):=Yc.mpr ⟨r,Yb hi,rfl⟩;have m2:sh 0 s∈R.map (sh 0):=Yc.mpr ⟨s,Yb hj,rfl⟩;have ne:sh 0 r≠sh 0 s:=λz=>by
  have h:dj r 0∈sh 0 r:=kJ (ZW a1) 0;exact iJ ld hi hj ij h (z▸h)
 have A:=t.zN.meet t.bS t.mj ld.dec m1 m2 ne ab (by rw [cv];exact a1) (by rw [cv];exact b1) (by rw [cv];exact a2) (by rw [cv];exact b2);have B:=t.zN.meet t.bS t.mj ld.dec m2 m1 (YU ne) ab (by rw [cv];exact a2) (by rw [cv];exact b2) (by rw [cv];exact a1) (by rw [cv];exact b1);rcases A with A|A<;>rcases B with B|B
 ·exact absurd B (iJ ld hi hj ij A)
 ·exact ⟨_,A,B,.inl rfl⟩
 ·exact ⟨_,A,B,.inr rfl⟩
 ·exact absurd B (iJ ld hi hj ij A)
theorem TY.two_meet (t:TY L) (ld:eP L R) (hi:R[i]?=some r) (hj:R[j]?=some s) (ij:i≠j):(r.filter λx=>decide (x∈s)).length<=2/\∀ a b,(r.filter λx=>decide (x∈s))=[a,b]->b∈tx L a:=by
 have nd:(r.filter λx=>decide (x∈s)).Nodup:=(t.mj.rings ld r (Yb hi)).filter _;have mem:∀ x∈(r.filter λx=>decide (x∈s)),x∈r/\x∈s:=λx hx=>by
  have:=Zb.mp hx;exact ⟨this.1,ZX this.2⟩
 have dt:∀ {d:aw},d∈sh 0 r->Dt L d:=λh=>by
  obtain ⟨u,rfl⟩:=(bu (by have:=(ld.good r (Yb hi)).two;exact ZJ ‹_›)).mp h;exact (ld.good r (Yb hi)).dt u
 generalize (r.filter λx=>decide (x∈s))=l at nd mem;constructor
 ·match l,nd,mem with
  | [],_,_=>simp
  | [_],_,_=>simp
  | [_,_],_,_=>simp
  | a::b::c::l,nd,mem=>
   exfalso;have ha:=mem a (by simp);have hb:=mem b (by simp);have hc:=mem c (by simp);simp only [zaS,Za,zbh] at nd;obtain ⟨d,d1,d2,dd⟩:=t.C0 ld hi hj ij nd.1.1 ha.1 hb.1 ha.2 hb.2;obtain ⟨e,e1,e2,ee⟩:=t.C0 ld hi hj ij nd.2.1.1 hb.1 hc.1 hb.2 hc.2;have m1:sh 0 r∈R.map (sh 0):=Yc.mpr ⟨r,Yb hi,rfl⟩;have m2:sh 0 s∈R.map (sh 0):=Yc.mpr ⟨s,Yb hj,rfl⟩;have ne:sh 0 r≠sh 0 s:=λz=>iJ ld hi hj ij d1 (z▸d1);have q:=t.zN.one t.bS t.mj t.four ld.dec m1 m2 ne d1 e1 d2 e2;rw [q] at dd;rcases dd with x|x<;>rcases ee with y|y<;>rw [x] at y
   ·exact nd.1.1 (Yt Prod.fst y)
   ·exact nd.1.2.1 (Yt Prod.fst y)
   ·exact nd.1.2.1 (Yt Prod.snd y)
   ·exact nd.2.1.1 (Yt Prod.fst y)
 ·rintro a b rfl;have ha:=mem a (by simp);have hb:=mem b (by simp);have ab:a≠b:=by simp at nd;exact nd
  obtain ⟨d,d1,_,dd⟩:=t.C0 ld hi hj ij ab ha.1 hb.1 ha.2 hb.2;rcases dd with rfl|rfl
  ·exact (dt d1).mem
  ·exact ((dt d1).back t.map).2.2.2
theorem AY {g:Nat}:∀ {R:UF},(∀ r∈R,g<=r.length)->g*R.length<=(R.flatMap (sh 0)).length
 | [],_=>by simp
 | r::R,h=>by
  have:=AY (R:=R) λx hx=>h x (X8 _ hx);have:=h r Yg;rw [Z3,Yr,dG,YV,Nat.mul_succ];omega
theorem TY.least (t:TY L) (ld:eP L R) (h:∀ x:Int,0<=x->x<L.length->4<=(tx L x).length):∃ r∈R,r.length<=3:=by
 refine Yd λno=>?_;have f:=AY (g:=4) (R:=R) λr hr=>by
  refine Yd λz=>no ⟨r,hr,by omega⟩
 have d:=ld.dec.len t.map;rw [show ((R.map (sh 0)).flatten)=R.flatMap (sh 0) from rfl] at d;have g:=zw (g:=4) h L.length (X7 _);have e:=(t.bS.lands t.four ld).2;have u:=cM t.map;omega
end
theorem mX {K:ZB} {R:Hp->Prop} {acc p:Addr} {as:XL} {L:UF} {te:TE} {H:Hp} (g:UV->V) (gp:aX H p as L)
  (MP:∀ (b:Addr) (l:UV) (H':Hp) (Q':VK),l∈L->H' b=some (.lst (l.map V.int))->Q' (g l) H'->te [some (.ref b)] H' Q') (a9:H acc=none) (hn:L.length<=1000)
  (q:∀ H',ah H H'->H' acc=some (.lst (L.map g))->R H') :
  ∃ W:Nat->Nat->St->List V->Hp->Prop,(∃ m,W 0 m [none] [] (upd H acc (.lst [])))/\∀ i m σ' ys H2,W i m σ' ys H2->(((zF K p).stop i H2/\R H2)\/((zF K p).go i H2/\∀ x H3,(zF K p).vo i H2 x H3->jQ 0 x σ' H3 λσ2 H4=>rS σ2 H4 λb H5=>
   if b=true then te σ2 H5 λy H6=>H6 acc=some (.lst ys)/\ys.length<sizeLine/\∃ m',m'<m/\W (i+1) m' σ2 (ys++[y]) (upd H6 acc (.lst (ys++[y]))) else ∃ m',m'<m/\W (i+1) m' σ2 ys H5)):=by
 refine cF (K:=K) (a:=p) (xs:=as.map V.ref) (λi σ' ys Hx=>∃ v:Option V,σ'=[v]/\ys=(L.take i).map g/\ah H Hx/\Hx acc=some (.lst ys))
  ⟨none,rfl,rfl,ah.upd a9,ae⟩ (by rintro i σ' ys Hx _ ⟨_,_,_,e,_⟩;exact aN.of (e _ _ gp.top)) ?_ ?_
 ·rintro i x σ' ys Hx hx hi ⟨v,rfl,rfl,e2,h2⟩;have Ku:=hi;rw [Pd,gp.len] at Ku;obtain ⟨b,l,ha,hl,bK⟩:=gp.at (i:=i) Ku;obtain rfl:x=V.ref b:=by
   rw [Yj,ha] at hx;exact (Yf hx).symm
  refine SL (kP (GN (MP b l Hx _ (Yb hl) (e2 _ _ bK) ?_)));refine ⟨h2,by rw [Pd,YW];exact aC (by omega),bQ hi ⟨_,rfl,?_,ah.fresh e2 a9,ae⟩⟩;rw [take_snoc hl,Yl]
  rfl
 ·rintro σ' ys Hx ⟨v,rfl,rfl,e2,h2⟩;rw [Pd,gp.len,Y6] at h2;exact q Hx e2 h2
end Gm
namespace L2
open PySem PySem.Spec PySem.W PySem.Calls PyProof.Rows
abbrev newExc (C:Addr) (t:Addr):Obj:={ cls:=.ref C,data:=.fields #[.ref t,.none,.none,.none,.bool false,.none] }
end L2
namespace L2
open PySem PySem.Spec PySem.W PySem.Calls PyProof.Rows Builtin Builtin.ObjectAttr
end L2
namespace L2
open PySem PySem.Spec PySem.W PySem.Calls PyProof.Rows
structure DefIn (K:Frag) (x:Str) (st:Stmt):Prop where
 ex:∃ (f:Addr) (od an:Option Addr) (sl:Array (Option Value)) (oc kV dc pm cd ct:Value),nsIn K mainGlobals x=some (some (.ref f))/\K.lookup f=some ⟨oc,od,.func (fnOf x x (fW st) (eN st) (aG st) .none kV dc pm an cd ct),sl⟩/\codeIn K cd x=true/\keepIn K (.ref f)=true
def DefIn.mk0 {K:Frag} {x:Str} {st:Stmt} {f:Addr} {od an:Option Addr} {sl:Array (Option Value)} {oc kV dc pm cd ct:Value} (a:nsIn K mainGlobals x=some (some (.ref f))) (l:K.lookup f=some ⟨oc,od,.func (fnOf x x (fW st) (eN st) (aG st) .none kV dc pm an cd ct),sl⟩) (c:codeIn K cd x=true) (k:keepIn K (.ref f)=true):DefIn K x st:=⟨⟨f,od,an,sl,oc,kV,dc,pm,cd,ct,a,l,c,k⟩⟩
section
variable {K:Frag} {h:Heap} {mg:WP} {x q:Str} {st:Stmt} {ps:List Str} {C:Addr}
theorem DefIn.j9 (d:DefIn K x st) (X:K.In h) (G:h.Ns mainGlobals mg) (hb:∀ (kV doc pm:Value) (an:Option Addr) (dW ct:Value) (us:XV),us.length=ps.length->bindArgs (fnOf x x (fW st) (eN st) (aG st) .none kV doc pm an dW ct) ⟨us,[]⟩=pure (ps.zip us)):Def K mg x st ps:=by
 obtain ⟨f,od,an,sl,oc,kV,dc,pm,cd,ct,a,l,c,k⟩:=d.ex;exact ⟨⟨f,_,zf (st:=st) l c k,mg_of X G a,(zf (st:=st) l c k).binds (ps:=ps) hb⟩⟩
end
end L2
namespace Hn
open PySem L2 Fr Gm Fw
def top (i:Nat):Stmt:=PySem.Challenge.pw_standup_k93_whole_lands_of_tight_maps.main.body.getD i (.Pass ⟨0,0,0,0⟩)
abbrev yz:Stmt:=top 1
abbrev mK:Stmt:=top 2
abbrev oS:Stmt:=top 3
abbrev jv:Stmt:=top 4
abbrev gO:Stmt:=top 5
abbrev tY:Stmt:=top 6
abbrev uc:Stmt:=top 7
abbrev jw:Stmt:=top 11
abbrev iD:Stmt:=top 12
abbrev ud:Stmt:=top 13
abbrev mJ:Stmt:=top 14
abbrev mH:Stmt:=top 15
abbrev tZ:Stmt:=top 16
abbrev gP:Stmt:=top 17
abbrev Dm:Stmt:=top 18
abbrev ju:Stmt:=top 19
abbrev jx:Stmt:=top 20
abbrev kN:Stmt:=top 21
abbrev uf:Stmt:=top 22
abbrev yA:Stmt:=top 23
abbrev iF:Stmt:=top 25
abbrev gj:Stmt:=top 26
abbrev iI:Stmt:=top 27
abbrev jB:Stmt:=top 28
abbrev gg:Stmt:=top 29
abbrev jy:Stmt:=top 30
abbrev gQ:Stmt:=top 31
abbrev gm:Stmt:=top 32
abbrev dH:Stmt:=top 33
abbrev iG:Stmt:=top 34
abbrev gR:Stmt:=top 35
abbrev iH:Stmt:=top 36
abbrev jz:Stmt:=top 37
abbrev jA:Stmt:=top 38
abbrev oT:Stmt:=top 39
structure Ry where
structure Txt (K:ZB) (mg:WP) (Z:Ry):Prop where
 len:mg "len"=none
 isinstance:mg "isinstance"=none
 int:mg "int"=none
 bool:mg "bool"=none
 enumerate:mg "enumerate"=none
 range:mg "range"=none
 min:mg "min"=none
 max:mg "max"=none
 list:mg "list"=none
 reversed:mg "reversed"=none
 sorted:mg "sorted"=none
 set:mg "set"=none
 zip:mg "zip"=none
 g_IN:∃ t,mg "IN"=some (.int 0 t)
 g_OUT:∃ t,mg "OUT"=some (.int 1 t)
def oH:Sp:=λvs H Q _=>∃ n:Int,vs=[.int n]/\Q (.bl true) H
def oJ (K:ZB):Sp:=λvs H Q _=>∃ (a:Addr) (ns:UV) (m:Nat),vs=[.ref a,.int (m:Int)]/\aN K H a (ns.map V.int)/\ns.length<=63/\0<m/\m<=30/\
 ∀ (t:Addr) (fs:UV) H',ah H H'->H t=none->H' t=some (.lst (fs.map V.int))->fs.length=m->(∀ x∈fs,0<=x/\x<10 ^ 60+7)->Q (.ref t) H'
def lD:Sp:=λvs H Q _=>∃ (n b p:Int),vs=[.int n,.int b,.int p]/\0<=n/\n<10 ^ 61/\2<=b/\b<=100/\0<=p/\p<=100/\∀ d:Int,0<=d->d<b->Q (.int d) H
def Aa:Sp:=λvs H Q _=>∃ n:Int,vs=[.int n]/\0<=n/\n<10 ^ 61/\∀ t bs R m H',ah H H'->aX H' t bs R->m<=8->TR R m->Q (.ref t) H'
def hU:Sp:=λvs H Q _=>∃ (p:Addr) (as:XL) (R:UF) (n:Nat),vs=[.ref p]/\aX H p as R/\TR R n/\n<=60/\∀ H',ah H H'->Q (.int (n:Int)) H'
def oI:Sp:=λvs H Q _=>∃ (p:Addr) (as:XL) (R:UF) (n:Nat) (k:Int),vs=[.ref p,.int k,.int (n:Int)]/\aX H p as R/\TR R n/\n<=60/\0<=k/\k<10 ^ 61/\∀ t bs R' H',ah H H'->aX H' t bs R'->TR R' (n+1)->Q (.ref t) H'
def vS:Sp:=λvs H Q _=>∃ (p:Addr) (as:XL) (R:UF) (n:Nat) (k:Int),vs=[.ref p,.int k]/\aX H p as R/\TR R n/\n<=60/\0<=k/\k<10 ^ 61/\∀ t bs R' H',ah H H'->aX H' t bs R'->TR R' n->Q (.ref t) H'
def jr:Sp:=λvs H Q _=>∃ (p:Addr) (as:XL) (L R:UF),vs=[.ref p]/\aX H p as R/\TY L/\eP L R/\L.length<=60/\∀ g ks H',ah H H'->H g=none->CD H' g L R ks->Q (.ref g) H'
def rX:Sp:=λvs H Q _=>∃ (p:Addr) (as:XL) (R:UF) (n:Nat),vs=[.ref p]/\aX H p as R/\TR R n/\n<=60/\∀ t bs R' H',ah H H'->aX H' t bs R'->TR R' R.length->Q (.ref t) H'
def r8:Sp:=λvs H Q _=>∃ (h:Addr) (fs:UV),vs=[.ref h]/\H h=some (.lst (fs.map V.int))/\6<=fs.length/\(∀ x∈fs,0<=x/\x<10 ^ 60+7)/\∀ t bs R n H',ah H H'->aX H' t bs R->n<=8->TR R n->Q (.ref t) H'
def vR:Sp:=λvs H Q _=>∃ (p:Addr) (as:XL) (R:UF) (n:Nat) (k:Int),vs=[.ref p,.int k]/\aX H p as R/\TR R n/\n<=60/\0<=k/\k<10 ^ 61/\∀ t bs R' H',ah H H'->aX H' t bs R'->TR R' n->Q (.ref t) H'
def oK:Sp:=λvs H Q _=>∃ (p:Addr) (as:XL) (R:UF) (n:Nat) (k:Int),vs=[.ref p,.int k]/\aX H p as R/\TR R n/\n<=60/\0<=k/\k<10 ^ 61/\∀ t bs L H',ah H H'->aX H' t bs L->(t::bs).Nodup->(∀ b∈t::bs,H b=none)->TY L->L.length=n->Q (.ref t) H'
def tP (K:ZB):Sp:=λvs H Q _=>∃ (a:Addr) (ns:UV),vs=[.ref a]/\aN K H a (ns.map V.int)/\ns.length<=63/\∀ H',Q (.bl true) H'
def rZ:Sp:=λvs H Q _=>∃ (p:Addr) (as:XL) (L:UF) (d:aw),vs=[.ref p,.int d.1,.int d.2]/\aX H p as L/\aB L/\Dt L d/\Q (.int (nx L d).2) H
def zT:Sp:=λvs H Q _=>∃ (p:Addr) (as:XL) (L:UF) (d:aw),vs=[.ref p,.int d.1,.int d.2]/\aX H p as L/\aB L/\Dt L d/\(eJ L L.length).length<128/\
 ∀ (r:Addr) (k:Nat) H',ah H H'->H r=none->H' r=some (.lst ((aU L d k).map V.int))->0<k->it L d k=d->jV L d k->Q (.ref r) H'
def vU:Sp:=λvs H Q _=>∃ (a:Addr) (r:UV),vs=[.ref a]/\H a=some (.lst (r.map V.int))/\0<r.length/\r.length<=1000/\
 ∀ (b:Addr) (c:Nat) H',ah H H'->H b=none->H' b=some (.lst ((cU r c).map V.int))->c<r.length->(∀ j,j<r.length->Le (cU r c) (cU r j))->Q (.ref b) H'
def vP:Sp:=λvs H Q _=>∃ (a:Addr) (r:UV),vs=[.ref a]/\H a=some (.lst (r.map V.int))/\0<r.length/\r.length<=1000/\
 ∀ (t:Addr) (ps:XL) H',ah H H'->H t=none->H' t=some (.lst (ps.map V.ref))->PR H' ps (sh 0 r)->Q (.ref t) H'
def vV:Sp:=λvs H Q _=>∃ (p:Addr) (as:XL) (L:UF),vs=[.ref p]/\aX H p as L/\aB L/\L.length<=60/\(eJ L L.length).length<128/\
 ∀ (t:Addr) (bs:XL) (R:UF) H',ah H H'->aX H' t bs R->(t::bs).Nodup->(∀ b∈t::bs,H b=none)->Bq L R->Q (.ref t) H'
def zS:Sp:=λvs H Q _=>∃ (p:Addr) (as:XL) (L:UF),vs=[.ref p]/\aX H p as L/\L.length<=60/\aB L/\
 ∀ t ps H',ah H H'->H t=none->H' t=some (.lst (ps.map V.ref))->PR H' ps (eX L L.length)->Q (.ref t) H'
def vX:Sp:=λvs H Q _=>∃ (wy sp:Addr) (n:Nat) (N:aj->aj->Prop) (kvs:List (List Key×V)) (g:aj->Addr) (ks:aj->List aj) (st:aj),vs=[.ref wy,.ref sp]/\ef H wy n N kvs g ks/\st.1<n/\n<=60/\H sp=some (.tup ((kd st).map kV))/\
 ∀ (t:Addr) (eW:List (aj×Option aj)) (r:aj->V) H',ah H H'->H t=none->vz H' t eW r->Bf n N st eW []->Q (.ref t) H'
def zX:Sp:=λvs H Q _=>∃ (wy t gp:Addr) (n:Nat) (T:Nat->Nat->Prop) (a b:Nat) (f:Fw.Flow) (i:Int) (kvs:List (List Key×V)) (g:aj->Addr) (ks:aj->List aj) (eW:List (aj×Option aj)) (r:aj->V),vs=[.ref wy,.ref t,.ref gp]/\ef H wy n (Res T f) kvs g ks/\vz H t eW r/\(∀ d:aj,d.1<n->g d≠t)/\H gp=some (.tup ((kd (b,false)).map kV))/\Fan n (Res T f) (a,true) eW/\(∃ o,((b,false),o)∈eW)/\Fl n T a b i f/\Net n T a b/\n<=60/\
 ∀ (f':Fw.Flow) (ja:aj->List aj) H',(∀ c o,(∀ d:aj,d.1<n->c≠g d)->H c=some o->H' c=some o)->ef H' wy n (Res T f') kvs g ja->Fl n T a b (i+1) f'->Q .dO H'
def mG:Sp:=λvs H Q _=>∃ (p wy:Addr) (as:XL) (L:UF) (T:Nat->Nat->Prop) (f:Fw.Flow) (kvs:List (List Key×V)) (g:aj->Addr) (ks:aj->List aj) (x:Nat) (l:UV),vs=[.ref p,.ref wy,.int (x:Int)]/\aX H p as L/\aB L/\L.length<=60/\ef H wy L.length (Res T f) kvs g ks/\L[x]?=some l/\
 ∀ (t:Addr) H',ah H H'->H t=none->H' t=some (.lst ((gn f l x).map V.int))->Q (.ref t) H'
def rY:Sp:=λvs H Q _=>∃ (p wy ra:Addr) (as:XL) (L:UF) (T:Nat->Nat->Prop) (f:Fw.Flow) (kvs:List (List Key×V)) (g:aj->Addr) (ks:aj->List aj) (a b c:Nat) (i:Int),vs=[.ref p,.ref wy,.ref ra,.int (b:Int)]/\aX H p as L/\aB L/\L.length<=60/\ef H wy L.length (Res T f) kvs g ks/\Fl L.length T a b i f/\Net L.length T a b/\(∀ p q,T p q->∃ l,L[p]?=some l/\(q:Int)∈l)/\H ra=some (.lst [.int (a:Int),.int (c:Int)])/\f.F a c=true/\
 ∀ (t:Addr) (rd:List Nat) H',ah H H'->H' t=some (.lst ((rd.map λx:Nat=>(x:Int)).map V.int))->Fw.Rd f a b rd->rd[rd.length-1]?=some b->Q (.ref t) H'
def zU:Sp:=λvs H Q _=>∃ (p:Addr) (as:XL) (L:UF) (a b:Nat),vs=[.ref p,.int (a:Int),.int (b:Int)]/\aX H p as L/\aB L/\L.length<=60/\a<L.length/\b<L.length/\a≠b/\
 ∀ (wy:Addr) (kvs:List (List Key×V)) (g:aj->Addr) (ks:aj->List aj) H',ah H H'->H wy=none->(∀ d:aj,d.1<L.length->H (g d)=none)->ef H' wy L.length (Res (Tw L a b) f0) kvs g ks->Q (.ref wy) H'
def vQ:Sp:=λvs H Q _=>∃ (p:Addr) (as:XL) (L:UF) (a b:Nat) (l:UV),vs=[.ref p,.int (a:Int),.int (b:Int)]/\aX H p as L/\aB L/\L.length<=60/\L[a]?=some l/\b<L.length/\a≠b/\
 (∀ (x:Addr) (ys:List V) (t:Addr) (f:Fw.Flow) H',ah H H'->H' t=some (.tup [.str "roads",.ref x])->H' x=some (.lst ys)->Fl L.length (Tw L a b) a b (if (b:Int)∈l then 2 else 3) f->Q (.ref t) H')/\
 (∀ (x:Addr) (S:List Nat) (t:Addr) (f:Fw.Flow) (i:Nat) (D:aj->Bool) H',ah H H'->H' t=some (.tup [.str "parted",.ref x])->H' x=some (.lst ((S.map λx:Nat=>(x:Int)).map V.int))->i<(if (b:Int)∈l then 2 else 3)->Fl L.length (Tw L a b) a b (i:Int) f->D (a,true)=true->D (b,false)=false->D (b,true)=false->(∀ d e,D d=true->Res (Tw L a b) f d e->D e=true)->S=(List.range L.length).filter (λp=>D (p,false)&&!D (p,true))->Q (.ref t) H')
def zZ:Sp:=λvs H Q _=>∃ (p:Addr) (as:XL) (L:UF) (S:UV) (st:Int) (sh:Addr),vs=[.ref p,.int st,.ref sh]/\aX H p as L/\H sh=some (.lst (S.map V.int))/\L.length<=60/\aB L/\0<=st/\st<L.length/\
 ∀ (t:Addr) (ks:UV) H',ah H H'->H t=none->H' t=some (.dK (ks.map λx=>(Sum.inl x,V.bl true)))->ks.Nodup->(∀ x,x∈ks↔bO L S st x)->Q (.ref t) H'
def Df:Sp:=λvs H Q _=>∃ (p d:Addr) (as:XL) (L:UF) (os:UV),vs=[.ref p,.ref d]/\aX H p as L/\H d=some (.dK (os.map λx=>((Sum.inl x:Key),V.bl true)))/\aB L/\L.length<=60/\(∃ y:Int,0<=y/\y<L.length/\y∉os/\((tx L y).filter λz=>!decide (z∈os)).length<=5)/\
 ∀ y:Int,0<=y->y<L.length->y∉os->((tx L y).filter λz=>!decide (z∈os)).length<=5->(∀ z:Int,0<=z->z<y->z∉os->5<((tx L z).filter λz=>!decide (z∈os)).length)->∀ H',ah H H'->Q (.int y) H'
def Dg:Sp:=λvs H Q _=>∃ (p:Addr) (as:XL) (L:UF),vs=[.ref p]/\aX H p as L/\rK L/\L.length<=60/\0<L.length/\
 ∀ y:Int,0<=y->y<L.length->(tx L y).length<=5->(∀ z:Int,0<=z->z<y->5<(tx L z).length)->∀ H',ah H H'->Q (.int y) H'
def vO:Sp:=λvs H Q _=>∃ (p:Addr) (as:XL) (L:UF),vs=[.ref p]/\aX H p as L/\rK L/\L.length<=60/\
 ∀ (t:Addr) (os:UV) H',ah H H'->H' t=some (.lst (os.map V.int))->Off L os->os.length=L.length->Q (.ref t) H'
def zY:Sp:=λvs H Q _=>∃ (p d:Addr) (as:XL) (L:UF) (ks:UV) (f:Int->Int) (v:Int),vs=[.ref p,.ref d,.int v]/\aX H p as L/\H d=some (.dK (kF ks f))/\aB L/\L.length<=60/\0<=v/\v<L.length/\
 ∀ (t:Addr) H',ah H H'->H' t=some (.lst ((eR ((near L ks v).map f)).map V.int))->Q (.ref t) H'
def De:Sp:=λvs H Q _=>∃ (p d pr:Addr) (as:XL) (L:UF) (ks:UV) (f:Int->Int) (one a b:Int),vs=[.ref p,.ref d,.int one,.ref pr]/\aX H p as L/\H d=some (.dK (kF ks f))/\H pr=some (.tup [.int a,.int b])/\aB L/\L.length<=60/\0<=one/\one<L.length/\
 ∀ (t:Addr) (G:UV) H',ah H H'->H t=none->H' t=some (.dK (G.map λx=>(Sum.inl x,V.bl true)))->G.Nodup->(∀ x,x∈G↔bO L (wd L ks f a b) one x)->Q (.ref t) H'
def vW:Sp:=λvs H Q _=>∃ (p d:Addr) (as:XL) (L:UF) (ks:UV) (f:Int->Int) (v:Int),vs=[.ref p,.ref d,.int v]/\aX H p as L/\H d=some (.dK (kF ks f))/\rK L/\L.length<=60/\zG L ks f/\0<=v/\v<L.length/\v∉ks/\(near L ks v).length<=5/\eR ((near L ks v).map f)=[]/\
 ∀ (f':Int->Int) (c:Int) H',(∀ b o,b≠d->H b=some o->H' b=some o)->H' d=some (.dK (kF ks f'))->zG L ks f'->c∈eR ((near L ks v).map f')->Q .dO H'
def zW:Sp:=λvs H Q _=>∃ (p:Addr) (as:XL) (L:UF),vs=[.ref p]/\aX H p as L/\rK L/\L.length<=60/\
 ∀ (t:Addr) (f:Int->Int) H',ah H H'->H t=none->H' t=some (.lst (((bX L.length).map f).map V.int))->(∀ x:Int,0<=x->x<L.length->0<=f x/\f x<5)->(∀ x:Int,0<=x->x<L.length->∀ y∈tx L x,f y≠f x)->Q (.ref t) H'
def zV:Sp:=λvs H Q _=>∃ (p ra sa:Addr) (as:XL) (L:UF) (r s:UV),vs=[.ref p,.ref ra,.ref sa]/\aX H p as L/\H ra=some (.lst (r.map V.int))/\H sa=some (.lst (s.map V.int))/\r.length<=60/\(r.filter λx=>decide (x∈s)).length<=2/\(∀ x∈r,0<=x/\x<L.length)/\(∀ a b,(r.filter λx=>decide (x∈s))=[a,b]->b∈tx L a)/\∀ H',ah H H'->Q (.bl true) H'
def vT:Sp:=λvs H Q _=>∃ (p t:Addr) (as:XL) (L:UF) (f:Int->Int),vs=[.ref p,.ref t]/\aX H p as L/\aB L/\L.length<=60/\H t=some (.lst (((bX L.length).map f).map V.int))/\(∀ x:Int,0<=x->x<L.length->0<=f x/\f x<5)/\(∀ x:Int,0<=x->x<L.length->∀ y∈tx L x,f y≠f x)/\
 ∀ H',ah H H'->Q (.bl true) H'
local macro_rules | `(tactic| walk_at "n")=>`(tactic| exact ⟨rfl,rfl,rfl,by decide +kernel,rfl,by decide +kernel,by decide +kernel⟩)
local macro_rules | `(tactic| walk_at "q")=>`(tactic| first | with_reducible (first|refine SZ ?_|refine TW ?_|refine SL ?_|refine ST ?_|refine r_c ?_) | ((with_reducible refine' SC ?hv ?_);case' hv=>exact rfl) | with_reducible (first|refine hW ?_|refine F4 ?_|refine F7 ?_|refine DG ?_|refine HW ?_|refine nD ?_|refine DA ?_|refine pf ?_|refine HZ ?_|refine oY ?_|refine RZ ?_|refine Me ?_|refine HV ?_|refine Ib ?_|refine Jw ?_|refine DM ?_|refine L9 ?_|refine DC ?_|refine Mc ?_|refine bc ?_|refine aJ ?_|refine mP ?_|refine jd ?_|refine oW ?_|refine su ?_|refine DE ?_|refine gH ?_|refine o5 ?_|refine L8 ?_|refine GN ?_|refine Ol ?_|refine MI ?_|refine MJ ?_) | ((with_reducible refine DB ?hc ?_);case' hc=>walk_at "side") | ((with_reducible refine' DF ?hp ?hi ?_);(case' hp=>walk_at "seq");(case' hi=>exact rfl)) | ((with_reducible refine' bg ?hp ?hi ?_);(case' hp=>walk_at "seq");(case' hi=>exact rfl)) | ((with_reducible refine' iK ?hp ?hi ?_);(case' hp=>walk_at "seq");(case' hi=>exact rfl)) | ((with_reducible refine And.intro ?hl ?_);case' hl=>(first|exact Jj|exact RP)) | with_reducible (first|refine DK ?_|refine Ia ?_|refine kP ?_|refine Ma ?_|refine DD ?_|refine F6 ?_|refine F5 ?_|refine An ?_) | dsimp only)
local macro_rules | `(tactic| walk_at "")=>`(tactic| repeat walk_at "q")
local macro_rules | `(tactic| walk_at "blk_vis")=>`(tactic| first|exact Or.inl rfl|exact Or.inr (Or.inl rfl) | exact Or.inr (Or.inr rfl))
local macro_rules | `(tactic| walk_at "blk_ok")=>`(tactic| exact ⟨rfl,by decide +kernel,by decide +kernel,rfl,by (repeat (first|exact trivial|refine ⟨rfl,?_⟩)),rfl,by (repeat (first|exact bj|refine aD ⟨rfl,by walk_at "blk_vis",rfl,rfl⟩ ?_)),by (repeat (first|exact bj|refine aD rfl ?_))⟩)
local macro_rules | `(tactic| walk_at "side")=>`(tactic| first|assumption|exact (show (0:Int)<_ by decide) | exact vb (by decide) (by decide) | exact He (by decide) (by decide) | exact mulL (by decide) (by decide))
local macro_rules | `(tactic| walk_at "L")=>`(tactic| first|exact Or.inl rfl|exact Or.inr rfl)
local macro_rules | `(tactic| walk_at "seq")=>`(tactic| first|assumption|exact SqT.of (by assumption))
theorem gc:aQ ["orders", "start", "shut", "reached", "waiting", "place", "neighbour"] ["orders", "start", "shut"] (aG mK):=by walk_at "n"
theorem yQ (D:Def K mg "come_to" mK ["orders", "start", "shut"]) (T:Txt K mg Z):dA P w K mg base (cQ P w) "come_to" 1 ["orders", "start", "shut"] zZ:=by
 refine D.dP gc (λvs H Q E h=>?_) (λf dW A o s H vs Q E hr h=>?_)
 ·obtain ⟨p,as,L,S,st,sh,rfl,_⟩:=h;rfl
 ·obtain ⟨p,as,L,S,st,sh,rfl,g,Qb,hn,im,s0,s1,q⟩:=h;refine ⟨_,(ai (aH (i:=3) gc.nd rfl (.inl rfl) (Gq (wF (pv 1) eQ Aq) rfl rfl (by decide) (by decide)))
   (ai (aH (i:=4) gc.nd rfl (.inl rfl) (c9 (aa (pv 1) af)))
   (ai (fv Yy (aM pI (aA aL (by rfl) T.len aV (aa (pv 4) af)) az (aW _)) (ai (aH (i:=5) gc.nd rfl (.inl rfl) (JI YM PySem.F.slot_list_pop PySem.F.type_list_pop JV (pv 4)))
   (ao (bG Yy rfl (bL (aR aK (pv 0) (pv 5) (λ_ _=>rfl))) (aF (i:=6) gc.nd rfl (.inl rfl))
   (ao (cR (PW.pt (pw_and (eU (eG (bB hr) (pv 6) (pv 3))) (pw_and1 (aM lU (pv 6) (pv 2) (by with_unfolding_all rfl))))) (ai (eD (bB hr) (pv 3) (pv 6) eQ rfl)
   (ao (dw (gs YM Y3 Y4 df (pv 4) (aa (pv 6) af))))) bq))))))
   (ao (aS (pv 3)))))),?_⟩
  dsimp only [dS];walk_at "";refine λt ht=>⟨_,rfl,?_⟩;refine ⟨ae,[(.inl st,.bl true)],rfl,by simp,?_⟩;walk_at "";refine ⟨by rw [Yz];simp,λwq hw=>?_⟩;have e0:ah H (upd (upd H t (.dK [])) t (.dK (jG [] [(.inl st,.bl true)]))):=ah.fresh (ah.upd ht) ht;have t0:upd (upd H t (.dK [])) t (.dK (jG [] [(.inl st,.bl true)])) t=some (.dK ([st].map λx=>((Sum.inl x:Key),V.bl true))):=ae;generalize upd (upd H t (.dK [])) t (.dK (jG [] [(.inl st,.bl true)]))=H0 at e0 t0 hw ⊢;have wf:H wq=none:=e0.free hw;walk_at "";refine gG (λσ H1=>∃ (ks ws:UV) (v4 v5:Option V),σ=[some (.ref p),some (.int st),some (.ref sh),some (.ref t),some (.ref wq),v4,v5]/\ah H H1/\H1 t=some (.dK (ks.map λx=>((Sum.inl x:Key),V.bl true)))/\H1 wq=some (.lst (ws.map V.int))/\CM L S st ks ws)
   (λ_ H1=>match H1 t,H1 wq with|some (.dK kvs),some (.lst xs)=>2*(L.length-kvs.length)+xs.length|_,_=>0) ⟨[st],[st],none,none,rfl,e0.trans (ah.upd hw),ah.upd hw _ _ t0,ae,CM.start⟩ ?_
  rintro σ H1 ⟨ks,ws,v4,v5,rfl,e1,t1,w1,fl⟩;walk_at "";refine ⟨_,_,rfl,.inl ⟨_,aN.of w1,rfl⟩,?_⟩;rw [Pd];walk_at "";refine if2 (λxi=>?_) (λxi=>?_)
  ·refine w_turn ?_;rw [t1,w1];dsimp only;rw [Pd,Pd];obtain ⟨FJ,pl,rfl⟩:∃ FJ pl,ws=FJ++[pl]:=⟨ws.dropLast,ws.getLast (λz=>by rw [z] at xi;simp at xi),(dropLast_concat_getLast _).symm⟩;have Ue:=(fl.re pl (fl.sub pl (by simp))).rg im ⟨s0,s1⟩;obtain ⟨pn,rfl⟩:=Ys Ue.1;obtain ⟨b,l,ha,hl,bK⟩:=g.at (i:=pn) (by omega);have wt:wq≠t:=λz=>by rw [z,t1] at w1;cases w1
   walk_at "";refine ⟨.inl ⟨rfl,_,aN.of w1⟩,?_⟩;refine ⟨wq,_,.int (pn:Int),rfl,rfl,w1,by simp,?_⟩;have e2:ah H (upd H1 wq (.lst ((FJ++[(pn:Int)]).map V.int).dropLast)):=ah.fresh e1 wf;have w2:upd H1 wq (.lst ((FJ++[(pn:Int)]).map V.int).dropLast) wq=some (.lst (FJ.map V.int)):=by rw [ae];simp
   have t2:upd H1 wq (.lst ((FJ++[(pn:Int)]).map V.int).dropLast) t=some (.dK (ks.map λx=>((Sum.inl x:Key),V.bl true))):=by rw [ak (YU wt)];exact t1
   generalize upd H1 wq (.lst ((FJ++[(pn:Int)]).map V.int).dropLast)=H2 at e2 w2 t2 ⊢;walk_at "";refine cJ ?_;refine ⟨_,rfl,_,rfl,bg (aN.of (e2 _ _ g.top)) (g.ix ha) ?_⟩;refine ⟨b,rfl,⟨_,aN.of (e2 _ _ bK)⟩,fF (K:=K) (a:=b) (xs:=l.map V.int) (λk σ H3=>∃ (ja rP:UV) (v5:Option V),σ=[some (.ref p),some (.int st),some (.ref sh),some (.ref t),some (.ref wq),some (.int (pn:Int)),v5]/\ah H H3/\H3 t=some (.dK (ja.map λx=>((Sum.inl x:Key),V.bl true)))/\H3 wq=some (.lst (rP.map V.int))/\FF L S st ja rP pn l k/\2*(L.length-ja.length)+rP.length<2*(L.length-ks.length)+(FJ++[(pn:Int)]).length)
    ⟨ks,FJ,v5,rfl,e2,t2,w2,fl.pop,by simp⟩ (by rintro k σ H3 _ ⟨_,_,_,_,e,_⟩;exact aN.of (e _ _ bK)) ?_ ?_⟩
   ·rintro k x σ H3 hx ⟨ja,rP,v5,rfl,e3,t3,w3,fi,ms⟩;obtain ⟨y,hy,rfl⟩:∃ y,l[k]?=some y/\x=V.int y:=by
     rw [Yj] at hx;cases e:l[k]? with
     | none=>rw [e] at hx;cases hx
     | some z=>rw [e] at hx;exact ⟨z,rfl,(Yf hx).symm⟩
    have lk:=CM.len im ⟨s0,s1⟩ fi.nd fi.re;have lw:rP.length<=ja.length:=dh fi.nw fi.sub;walk_at "";refine ⟨_,rfl,_,rfl,t,_,rfl,cP.k (k:=.inl y) t3,?_⟩;rw [gY];walk_at "";refine iW (λKq=>?_) (λMN=>?_)
    ·walk_at "";refine BI (ns:=S) (aN.of (e3 _ _ Qb)) ?_;rw [Ya rfl];walk_at "";refine iW (λnS=>?_) (λyS=>⟨ja,rP,_,rfl,e3,t3,w3,fi.skip hy (.inr yS),ms⟩);have fa:=fi.add hy Kq nS hl;have US:=CM.len im ⟨s0,s1⟩ fa.nd fa.re;rw [Yr,YX] at US;walk_at "";refine ⟨_,rfl,_,rfl,t,_,rfl,i8.k (k:=.inl y) t3 (by rw [Pd];exact aC (by omega)),?_⟩;rw [wB Kq];have w4:upd H3 t (.dK ((ja++[y]).map λx=>((Sum.inl x:Key),V.bl true))) wq=some (.lst (rP.map V.int)):=by rw [ak wt];exact w3
     walk_at "";refine ⟨.inl ⟨rfl,_,aN.of w4⟩,?_⟩;walk_at "";refine dI w4 (by rw [Pd];exact aC (by omega)) ?_;refine ⟨ja++[y],rP++[y],_,rfl,ah.fresh (ah.fresh e3 ht) wf,by rw [ak (YU wt)];exact ae,by rw [Yl (l₁:=rP)];exact ae,fa,?_⟩;rw [Yr,Yr,YX];omega
    ·walk_at "";exact ⟨ja,rP,_,rfl,e3,t3,w3,fi.skip hy (.inl MN),ms⟩
   ·rintro σ H3 ⟨ja,rP,v5,rfl,e3,t3,w3,fi,ms⟩;rw [Pd] at fi;refine ⟨⟨ja,rP,_,_,rfl,e3,t3,w3,fi.done hl⟩,?_⟩;rw [t3,w3];dsimp only;rw [Pd,Pd];exact ms
  ·have Vg:ws=[]:=by
    cases ws with
    | nil=>rfl
    | cons a b=>simp at xi
   subst Vg;walk_at "";exact q t ks H1 e1 ht t1 fl.nd fl.all
local macro_rules | `(tactic| walk_at "")=>`(tactic| repeat (first | with_reducible (first|refine DI ?_|refine Md ?_|refine DH ?_) | walk_at "q"))
theorem sf:aQ ["orders", "one", "other", "order"] ["orders", "one", "other"] (aG oS):=by walk_at "n"
theorem BN (D:Def K mg "onward" oS ["orders", "one", "other"]) (T:Txt K mg Z):dA P w K mg base (cQ P w) "onward" 1 ["orders", "one", "other"] rZ:=by
 refine D.dP sf (λvs H Q E h=>?_) (λf dW A o s H vs Q E hr h=>?_)
 ·obtain ⟨p,as,L,d,rfl,_⟩:=h;rfl
 ·obtain ⟨p,as,L,d,rfl,g,im,hd,q⟩:=h;obtain ⟨b0,b1,b2,b3⟩:=hd.back im;obtain ⟨b,l,ha,hl,bK⟩:=g.at (i:=d.2.toNat) (by omega);have el:l=tx L d.2:=by rw [aE b0 b1] at hl;exact (Yf hl).symm
  subst el;have e2:d.2=((d.2.toNat:Nat):Int):=by omega
  refine ⟨_,(ai (aH (i:=3) sf.nd rfl (.inl rfl) (aR aK (pv 0) (pv 2) (λ_ _=>rfl)))
   (ao (aS (aR aK (pv 3) (aO jF (gs YM PySem.F.slot_list_index PySem.F.type_list_index Ek (pv 3) (aa (pv 1) af)) az) (λ_ _=>rfl))))),?_⟩
  dsimp only [dS];walk_at "";refine bg (aN.of g.top) (by rw [e2];exact g.ix ha) ?_;walk_at "";refine ⟨.inl ⟨rfl,_,aN.of bK⟩,?_⟩;walk_at "";refine ⟨b,_,d.1,rfl,rfl,bK,b3,?_⟩;walk_at "";exact bg (aN.of bK) (Hi b3) q
theorem du:aQ ["orders", "one", "other", "ring", "here", "there", "beyond"] ["orders", "one", "other"] (aG jv):=by walk_at "n"
theorem uC (D:Def K mg "ring_from" jv ["orders", "one", "other"]) (T:Txt K mg Z) (xB:dA P w K mg base (cQ P w) "onward" 1 ["orders", "one", "other"] rZ):dA P w K mg base (cQ P w) "ring_from" 2 ["orders", "one", "other"] zT:=by
 refine D.dP du (λvs H Q E h=>?_) (λf dW A o s H vs Q E hr h=>?_)
 ·obtain ⟨p,as,L,d,rfl,_⟩:=h;rfl
 ·obtain ⟨p,as,L,d,rfl,g,im,hd,hn,q⟩:=h;refine ⟨_,(ai (aH (i:=3) du.nd rfl (.inl rfl) (c9 (aa (pv 1) af)))
   (ai (aH (i:=4) du.nd rfl (.inl rfl) (pv 2))
   (ai (aH (i:=5) du.nd rfl (.inl rfl) (aI xB hr bp (aa (pv 0) (aa (pv 1) (aa (pv 2) af)))))
   (ai (fv Yy (aM (D3 (lB hr)) (bN (aa (pv 4) (aa (pv 5) af))) (bN (aa (pv 1) (aa (pv 2) af))) (aW _)) (ai (dw (gs YM Y3 Y4 df (pv 3) (aa (pv 4) af)))
   (ai (aH (i:=6) du.nd rfl (.inl rfl) (aI xB hr bp (aa (pv 0) (aa (pv 4) (aa (pv 5) af)))))
   (ai (aH (i:=4) du.nd rfl (.inl rfl) (pv 5))
   (ao (aH (i:=5) du.nd rfl (.inl rfl) (pv 6)))))))
   (ao (aS (pv 3))))))),?_⟩
  dsimp only [dS];walk_at "";refine ⟨by rw [Yz];simp,λr qo=>?_⟩;have e0:ah H (upd H r (.lst [.int d.1])):=ah.upd qo;have r0:upd H r (.lst [.int d.1]) r=some (.lst ((aU L d 1).map V.int)):=ae;generalize upd H r (.lst [.int d.1])=H0 at e0 r0 ⊢;walk_at "";refine ⟨p,as,L,d,rfl,g.same e0,im,hd,?_⟩;walk_at "";refine gG (λσ H1=>∃ (j:Nat) (v:Option V),σ=[some (.ref p),some (.int d.1),some (.int d.2),some (.ref r),some (.int (it L d (j+1)).1),some (.int (it L d (j+1)).2),v]/\ah H H1/\H1 r=some (.lst ((aU L d (j+1)).map V.int))/\jV L d (j+1))
   (λ_ H1=>match H1 r with|some (.lst xs)=>(eJ L L.length).length-xs.length|_=>0) ⟨0,none,rfl,e0,r0,λi h1 h2=>by omega⟩ ?_
  rintro σ H1 ⟨j,v,rfl,e1,r1,nr⟩;walk_at "";intro t1 Vl;walk_at "";intro t2 SI;refine HY (a:=(it L d (j+1)).1) (b:=(it L d (j+1)).2) (c:=d.1) (d:=d.2) (SqT.of (by rw [ak (aP ae SI)];exact ae)) (SqT.of ae) ?_;have e2:ah H1 (upd (upd H1 t1 (.tup [.int (it L d (j+1)).1,.int (it L d (j+1)).2])) t2 (.tup [.int d.1,.int d.2])):=(ah.upd Vl).trans (ah.upd SI);generalize upd (upd H1 t1 (.tup [.int (it L d (j+1)).1,.int (it L d (j+1)).2])) t2 (.tup [.int d.1,.int d.2])=H2 at e2 ⊢;walk_at "";refine iW (λsN=>?_) (λheq=>?_)
  ·refine w_turn ?_;rw [r1];dsimp only;have r2:=e2 _ _ r1;have Se:jV L d (j+1+1):=λi h1 h2=>by
    by_cases z:i=j+1
    ·rw [z];exact λy=>sN ⟨Yt Prod.fst y,Yt Prod.snd y⟩
    ·exact nr i h1 (by omega)
   have bd:=pQ im hd Se;have zl:((aU L d (j+1)).map V.int).length=j+1:=by unfold aU;simp
   have er:(aU L d (j+1)).map V.int++[V.int (it L d (j+1)).1]=(aU L d (j+1+1)).map V.int:=by
    unfold aU;rw [Z9 (n:=j+1),Yl,Yl]
    rfl
   walk_at "";refine ⟨.inl ⟨rfl,_,aN.of r2⟩,?_⟩;walk_at "";refine dI r2 (by rw [zl];exact aC (by omega)) ?_;rw [er];have e3:ah H (upd H2 r (.lst ((aU L d (j+1+1)).map V.int))):=ah.fresh (e1.trans e2) qo;have r3:upd H2 r (.lst ((aU L d (j+1+1)).map V.int)) r=some (.lst ((aU L d (j+1+1)).map V.int)):=ae;generalize upd H2 r (.lst ((aU L d (j+1+1)).map V.int))=H3 at e3 r3 ⊢;walk_at "";refine ⟨p,as,L,it L d (j+1),rfl,g.same e3,im,qj im hd _,?_⟩;walk_at "";refine ⟨⟨j+1,_,rfl,e3,r3,Se⟩,?_⟩;rw [r3];dsimp only;have TK:((aU L d (j+1+1)).map V.int).length=j+1+1:=by unfold aU;simp
   rw [zl,TK];omega
  ·walk_at "";exact q r (j+1) H2 (e1.trans e2) qo (e2 _ _ r1) (TD _) (Zl heq.1 heq.2) nr
theorem jt:aQ ["ring", "least"] ["ring"] (aG gO):=by walk_at "n"
theorem pJ (D:Def K mg "least_begun" gO ["ring"]) (T:Txt K mg Z):dA P w K mg base (cQ P w) "least_begun" 1 ["ring"] vU:=by
 refine D.dP jt (λvs H Q E h=>?_) (λf dW A o s H vs Q E hr h=>?_)
 ·obtain ⟨a,r,rfl,_⟩:=h;rfl
 ·obtain ⟨a,r,rfl,ha,h0,h1,q⟩:=h;refine ⟨_,(ai (aH (i:=1) jt.nd rfl (by walk_at "L") (aA (iA rfl) (by rfl) T.min iZ (aa (pv 0) af)))
   (ao (aS (aA (Co rfl hr.units) (by rfl) T.min iZ (aa (bV (tg:=["k"]) (fr:=[("ring",0),("least",1)]) (by walk_at "blk_ok") rfl (bh rfl T.range (aa (aA aL (by rfl) T.len aV (aa (pv 0) af)) af)) (λ_ _ _ _ _=>(aF (i:=0) (show [("k":Str),("ring":Str),("least":Str)].Nodup by decide +kernel) rfl (by walk_at "L"))) (λ_ _ _ _ _=>(c5 (aM ie (aR (lZ (K:=K) rfl) (pv 1) (pv 0) (λ_ _=>rfl)) (pv 2) (aW _)))) (λ_ _ _ _ _=>(aO eV (bT (vY (K:=K) rfl) (pv 1) (cW (pv 0)) cY) (bT (vY (K:=K) rfl) (pv 1) cY (cW (pv 0)))))) af))))),?_⟩
  dsimp only [dS];walk_at "";refine ⟨a,r,rfl,aN.of ha,(λz=>by rw [z] at h0;simp at h0),λm hm hle=>?_⟩;walk_at "";refine bR ?_;refine ⟨_,rfl,_,_,rfl,.inl ⟨_,aN.of ha,rfl⟩,(r.length:Int),by rw [Pd],Tk _,by omega,?_⟩;rw [Yu];intro acc a9;refine dz (λi σ' ys H1=>∃ (bs:XL) (cs:List Nat) (v:Option V),σ'=[v,some (.ref a),some (.int m)]/\ys=bs.map V.ref/\ah H H1/\aX H1 acc bs (cs.map (cU r))/\acc∉bs/\(∀ b∈bs,H b=none)/\(∀ c∈cs,c<i/\cy r c=m)/\bs.length<=i/\∀ j,j<i->cy r j=m->j∈cs)
   ⟨[],[],none,rfl,rfl,ah.upd a9,⟨ae,rfl,λi b l z=>by simp at z⟩,by simp,by simp,by simp,X7 _,λj z=>by omega⟩ ?_ ?_
  ·rintro i σ' ys H1 hi ⟨bs,cs,v,rfl,rfl,e1,g1,na,fr,hc,hz,hj⟩;simp only [Zj];walk_at "";refine bg (aN.of (e1 _ _ ha)) (fO (j:=i) (by omega) (by omega) (.inl rfl)) ?_;walk_at "";refine if2 (λhe=>?_) (λhe=>?_)
   ·walk_at "";refine BJ (a:=a) (i:=1) (k:=0) (n:=i) (r:=r) rfl rfl (aN.of (e1 _ _ ha)) (ZJ ‹_›) λp1 Fy=>?_;have e2:ah H1 (upd H1 p1 (.lst ((r.drop i).map V.int))):=ah.upd Fy;refine Ga (a:=a) (i:=1) (k:=0) (n:=i) (r:=r) rfl rfl (aN.of (e2 _ _ (e1 _ _ ha))) (ZJ ‹_›) λp2 zc=>?_;have e3:=e2.trans (ah.upd (o:=.lst ((r.take i).map V.int)) zc);have x1:upd (upd H1 p1 (.lst ((r.drop i).map V.int))) p2 (.lst ((r.take i).map V.int)) p1=some (.lst ((r.drop i).map V.int)):=by rw [ak (aP ae zc)];exact ae
    refine ⟨p1,p2,_,_,rfl,rfl,x1,ae,by rw [Pd,Pd,Zs,YW,Yz];omega,λb hb=>?_⟩;generalize upd (upd H1 p1 (.lst ((r.drop i).map V.int))) p2 (.lst ((r.take i).map V.int))=H3 at e3 x1 hb ⊢;have e4:=e3.trans (ah.upd (o:=.lst ((r.drop i).map V.int++(r.take i).map V.int)) hb);have er:(r.drop i).map V.int++(r.take i).map V.int=(cU r i).map V.int:=by unfold cU;rw [Yl]
    rw [er] at e4 ⊢;have g4:=g1.same e4;have b4:upd H3 b (.lst ((cU r i).map V.int)) b=some (.lst ((cU r i).map V.int)):=ae;have V0:H b=none:=(e1.trans e3).free hb;have nb:b≠acc:=λz=>by rw [z] at hb;exact absurd (e3 _ _ g1.top) (by rw [hb];simp)
    have Fv:b∉bs:=λz=>by
     obtain ⟨k,hk,M5⟩:=Yv.mp z;have kl:k<(cs.map (cU r)).length:=by rw [<-g1.len];exact hk
     have:=e3 _ _ (g1.row k b _ (by rw [X4 hk,M5]) (X4 kl));rw [hb] at this;cases this
    generalize upd H3 b (.lst ((cU r i).map V.int))=H4 at e4 g4 b4 ⊢;refine ⟨g4.top,by rw [Pd];exact aC (by omega),bQ hi ⟨bs++[b],cs++[i],_,rfl,by simp,ah.fresh (e1.trans e4) a9,?_,?_,?_,?_,?_,?_⟩⟩
    ·rw [Yl];exact g4.snoc na nb b4
    ·intro z;rcases Ye.mp z with z|z
     ·exact na z
     ·exact nb (X9.mp z).symm
    ·intro c l7;rcases Ye.mp l7 with z|z
     ·exact fr c z
     ·rw [X9.mp z];exact V0
    ·intro c l7;rcases Ye.mp l7 with z|z
     ·have:=hc c z;exact ⟨by omega,this.2⟩
     ·rw [X9.mp z];exact ⟨ZG _,he⟩
    ·rw [Yr,YX];omega
    ·intro j VH GS;by_cases z:j=i
     ·rw [z];simp
     ·exact Yx _ (hj j (by omega) GS)
   ·refine bQ hi ⟨bs,cs,_,rfl,rfl,e1,g1,na,fr,λc z=>?_,by omega,λj VH GS=>?_⟩
    ·have:=hc c z;exact ⟨by omega,this.2⟩
    ·by_cases z:j=i
     ·rw [z] at GS;exact absurd GS he
     ·exact hj j (by omega) GS
  ·rintro σ' ys H1 ⟨bs,cs,v,rfl,rfl,e1,g1,na,fr,hc,hz,hj⟩;walk_at "";obtain ⟨k,hk,M5⟩:=Yv.mp hm;have kc:k∈cs:=hj k hk (by rw [eO hk];exact M5);have c0:0<cs.length:=ZW kc;have zl:=g1.len;rw [Pd] at zl;refine ⟨acc,bs,cs.map (cU r),rfl,aN.of g1.top,g1.len,λi b l x1 x2=>aN.of (g1.row i b l x1 x2),by omega,λi b l x1 x2 hl=>?_⟩;rw [Yj] at x2;cases ec:cs[i]? with
   | none=>rw [ec] at x2;cases x2
   | some c=>
    rw [ec] at x2;have:cU r c=l:=Yf x2;subst this;have cm:=hc c (Yb ec);refine q b c H1 e1 (fr b (Yb x1)) (g1.row i b _ x1 (by rw [Yj,ec];rfl)) cm.1 λj Qt=>?_;by_cases z:cy r j=m
    ·exact hl _ (Yc.mpr ⟨j,hj j Qt z,rfl⟩)
    ·have kk:=hc k kc;refine Le.trans (hl _ (Yc.mpr ⟨k,kc,rfl⟩)) (Le.of_lt (Js kk.1 Qt ?_));have:=hle (cy r j) (dR h0);rw [kk.2];omega
theorem Dl:aQ ["ring"] ["ring"] (aG tY):=by walk_at "n"
theorem D5 (D:Def K mg "steps" tY ["ring"]) (T:Txt K mg Z):dA P w K mg base (cQ P w) "steps" 1 ["ring"] vP:=by
 refine D.dP Dl (λvs H Q E h=>?_) (λf dW A o s H vs Q E hr h=>?_)
 ·obtain ⟨a,r,rfl,_⟩:=h;rfl
 ·obtain ⟨a,r,rfl,ha,r0,rn,q⟩:=h;refine ⟨_,(ao (aS (yM rfl T.zip T.list (aa (pv 0) (aa (aO eV (bT dr (pv 0) (cW az) cY) (bT dr (pv 0) cY (cW az))) af))))),?_⟩;dsimp only [dS];walk_at "";refine BH ?_;walk_at "";refine yI (a:=a) (i:=0) (n:=1) (r:=r) rfl (aN.of ha) ‹_› λp1 Fy=>?_;have e2:ah H (upd H p1 (.lst ((r.drop 1).map V.int))):=ah.upd Fy;refine DJ (a:=a) (i:=0) (n:=1) (r:=r) rfl (aN.of (e2 _ _ ha)) ‹_› λp2 zc=>?_;have e3:=e2.trans (ah.upd (o:=.lst ((r.take 1).map V.int)) zc);have x1:upd (upd H p1 (.lst ((r.drop 1).map V.int))) p2 (.lst ((r.take 1).map V.int)) p1=some (.lst ((r.drop 1).map V.int)):=by rw [ak (aP ae zc)];exact ae
  refine ⟨p1,p2,_,_,rfl,rfl,x1,ae,by rw [Pd,Pd,Zs,YW,Yz];omega,λb hb=>?_⟩;generalize upd (upd H p1 (.lst ((r.drop 1).map V.int))) p2 (.lst ((r.take 1).map V.int))=H3 at e3 x1 hb ⊢;have er:(r.drop 1).map V.int++(r.take 1).map V.int=(cU r 1).map V.int:=by unfold cU;rw [Yl]
  rw [er];have e4:=e3.trans (ah.upd (o:=.lst ((cU r 1).map V.int)) hb);walk_at "";have rl:(cU r 1).length=r.length:=cV ‹_›;refine ⟨a,b,r.map V.int,(cU r 1).map V.int,rfl,aN.of (e4 _ _ ha),aN.of ae,by rw [Pd,Pd,rl],λl as H5 e5 hl h5 la hp=>?_⟩;rw [Pd] at la;walk_at "";refine q l as H5 (e4.trans e5) (e4.free hl) h5 (PR.mk (by rw [dG];exact la) λj x d hx hd=>?_);obtain ⟨_,_,u,v,hu,hv,h6⟩:=hp j x hx;have hj:j<r.length:=by
   have:=(X3.mp hx).1;omega
  rw [Yj,NK hj] at hu;rw [Yj,FZ hj] at hv;cases hu
  cases hv
  rw [se hj] at hd;cases hd
  exact h6
theorem ft:aQ ["orders", "gone", "rings", "one", "order", "other", "ring", "step"] ["orders"] (aG uc):=by walk_at "n"
theorem D7 (D:Def K mg "lands" uc ["orders"]) (T:Txt K mg Z) (xx:dA P w K mg base (cQ P w) "ring_from" 2 ["orders", "one", "other"] zT) (rz:dA P w K mg base (cQ P w) "least_begun" 1 ["ring"] vU) (GW:dA P w K mg base (cQ P w) "steps" 1 ["ring"] vP):dA P w K mg base (cQ P w) "lands" 3 ["orders"] vV:=by
 refine D.dP ft (λvs H Q E h=>?_) (λf dW A o s H vs Q E hr h=>?_)
 ·obtain ⟨p,as,L,rfl,_⟩:=h;rfl
 ·obtain ⟨p,as,L,rfl,g,im,hn,hd,q⟩:=h;refine ⟨_,(ai (aH (i:=1) ft.nd rfl (.inl rfl) lT)
   (ai (aH (i:=2) ft.nd rfl (.inl rfl) (c9 af))
   (ai (bG Yy rfl (oo T.enumerate (aa (pv 0) af)) (mQ (n:=2) rfl (cK (aF (i:=3) ft.nd rfl (.inl rfl)) (cK (aF (i:=4) ft.nd rfl (.inl rfl)) iM)))
   (ao (bG Yy rfl (bL (pv 4)) (aF (i:=5) ft.nd rfl (.inl rfl))
   (ao (cR (eU (eG (bB hr) (bN (aa (pv 3) (aa (pv 5) af))) (pv 1))) (ai (aH (i:=6) ft.nd rfl (.inl rfl) (aI xx hr bp (aa (pv 0) (aa (pv 3) (aa (pv 5) af)))))
   (ai (dw (gs YM Y3 Y4 df (pv 2) (aa (aI rz hr bp (aa (pv 6) af)) af)))
   (ao (bG Yy rfl (bL (aI GW hr bp (aa (pv 6) af))) (aF (i:=7) ft.nd rfl (.inl rfl))
   (ao (eD (bB hr) (pv 1) (pv 7) eQ rfl)))))) bq)))))
   (ao (aS (aA (vc hr.units) (by rfl) T.sorted sY (aa (pv 2) af))))))),?_⟩
  dsimp only [dS];walk_at "";intro gd EJ;walk_at "";refine ⟨YK _,λt ht=>?_⟩;have tH:H t=none:=(ah.upd EJ).free ht;have e0:ah H (upd (upd H gd (.dT [])) t (.lst [])):=(ah.upd EJ).trans (ah.upd ht);have g0:upd (upd H gd (.dT [])) t (.lst []) gd=some (.dT (kD [])):=by rw [ak (aP ae ht)];exact ae
  have t0:aX (upd (upd H gd (.dT [])) t (.lst [])) t [] []:=⟨ae,rfl,λi a l z=>by simp at z⟩;generalize upd (upd H gd (.dT [])) t (.lst [])=H0 at e0 g0 t0 ⊢;walk_at "";refine cJ ?_;refine ⟨_,rfl,p,rfl,⟨_,aN.of (e0 _ _ g.top)⟩,l8 (K:=K) (a:=p) (xs:=as.map V.ref) (λi σ H1=>∃ (ks:List aw) (bs:XL) (R:UF) (v3 v4 v5 v6 v7:Option V),σ=[some (.ref p),some (.ref gd),some (.ref t),v3,v4,v5,v6,v7]/\ah H H1/\H1 gd=some (.dT (kD ks))/\aX H1 t bs R/\(t::bs).Nodup/\(∀ b∈t::bs,H b=none)/\Lp L R ks/\∀ d,Dt L d->d.1<i->d∈ks)
   ⟨[],[],[],none,none,none,none,none,rfl,e0,g0,t0,by simp,by simpa using tH,Lp.start,λd h1 h2=>by have:=h1.lo;omega⟩ (by rintro i σ H1 _ ⟨_,_,_,_,_,_,_,_,_,e1,_⟩;exact aN.of (e1 _ _ g.top)) ?_ ?_⟩
  ·rintro i x pr σ H1 hx ⟨ks,bs,R,v3,v4,v5,v6,v7,rfl,e1,g1,t1,CF,CK,Lq,NB⟩ AS;have hi:i<L.length:=by
    have:=(X3.mp hx).1;rw [Pd,g.len] at this;exact this
   obtain ⟨b,l,ha,hl,bK⟩:=g.at hi;obtain rfl:x=V.ref b:=by
    rw [Yj,ha] at hx;exact (Yf hx).symm
   have el:tx L (i:Int)=l:=by
    have:=aE (L:=L) (a:=(i:Int)) (Tk _) (by omega);rw [Yu,hl] at this;exact (Yf this).symm
   have e2:ah H1 (upd H1 pr (.tup [.int i,.ref b])):=ah.upd AS;have g2:=e2 _ _ g1;have t2:=t1.same e2;have qA:=e1.trans e2;refine iK (SqT.of ae) rfl ?_;generalize upd H1 pr (.tup [.int i,.ref b])=H2 at e2 g2 t2 qA ⊢;walk_at "";refine cJ ?_;refine ⟨_,rfl,b,rfl,⟨_,aN.of (qA _ _ bK)⟩,fF (K:=K) (a:=b) (xs:=l.map V.int) (λk σ H3=>∃ (ks:List aw) (bs:XL) (R:UF) (v5 v6 v7:Option V),σ=[some (.ref p),some (.ref gd),some (.ref t),some (.int (i:Int)),some (.ref b),v5,v6,v7]/\ah H H3/\H3 gd=some (.dT (kD ks))/\aX H3 t bs R/\(t::bs).Nodup/\(∀ b∈t::bs,H b=none)/\Lp L R ks/\∀ d,Dt L d->d.1<i\/d.1=i/\d.2∈l.take k->d∈ks)
    ⟨ks,bs,R,v5,v6,v7,rfl,qA,g2,t2,CF,CK,Lq,λd h1 h2=>NB d h1 (h2.elim id λz=>by simp at z)⟩ (by rintro k σ H3 _ ⟨_,_,_,_,_,_,_,e,_⟩;exact aN.of (e _ _ bK)) ?_ ?_⟩
   ·clear ks bs R v3 v4 v5 v6 v7 e1 g1 t1 CF CK Lq NB e2 g2 t2 qA AS hx;rintro k x σ H3 hx ⟨ks,bs,R,v5,v6,v7,rfl,e3,g3,t3,Mv,FD,Mz,LF⟩;obtain ⟨y,hy,rfl⟩:∃ y,l[k]?=some y/\x=V.int y:=by
     rw [Yj] at hx;cases e:l[k]? with
     | none=>rw [e] at hx;cases hx
     | some z=>rw [e] at hx;exact ⟨z,rfl,(Yf hx).symm⟩
    have dt:Dt L ((i:Int),y):=⟨by simp,by simpa using hi,by rw [el];exact Yb hy⟩;walk_at "";intro q1 GP;have e4:ah H3 (upd H3 q1 (.tup [.int i,.int y])):=ah.upd GP;have k4:upd H3 q1 (.tup [.int i,.int y]) q1=some (.tup ((gT ((i:Int),y)).map kV)):=ae;generalize upd H3 q1 (.tup [.int i,.int y])=H4 at e4 k4 ⊢;refine ⟨_,rfl,gd,_,rfl,cP.t (k:=gT ((i:Int),y)) (e4 _ _ g3) k4,?_⟩;rw [mD];walk_at "";refine iW (λKq=>?_) (λMN=>?_)
    ·walk_at "";refine ⟨p,as,L,((i:Int),y),rfl,g.same (e3.trans e4),im,dt,hd,λr n H5 e5 r0 r5 n0 ek nr=>?_⟩;have Jt:(aU L ((i:Int),y) n).length=n:=by unfold aU;simp
     have Xn:=pQ im dt nr;have Ni:=e5 _ _ (e4 _ _ g3);have t5:=(t3.same e4).same e5;have Nv:=(e3.trans e4).trans e5;walk_at "";refine ⟨.inl ⟨rfl,_,aN.of t5.top⟩,?_⟩;walk_at "";refine ⟨r,_,rfl,r5,by omega,by omega,λc cc H6 e6 c0 c6 Na M9=>?_⟩;rw [Jt] at Na M9;have t6:=t5.same e6;have nc:=t5.gJ c0;have g6:=e6 _ _ Ni;have r6:=e6 _ _ r5;have rH:H r=none:=(e3.trans e4).free r0;have Uy:r≠t:=λz=>by rw [z] at r0;exact absurd (t3.same e4).top (by rw [r0];simp)
     have PF:=Mz.add im dt n0 ek nr Kq Na M9;have lb:=PF.len;have l2:=PF.two;rw [Yr,dG,Jt] at lb;have zR:=t6.len;have l3:=Mz.two;walk_at "";refine dI t6.top (by rw [Pd];exact aC (by omega)) ?_;have Sj:c≠t:=λz=>nc (z▸Yg);have t7:=t6.snoc (Yp.mp Mv).1 Sj c6;have e7:ah H (upd H6 t (.lst (bs.map V.ref++[.ref c]))):=ah.fresh (Nv.trans e6) tH;have g7:upd H6 t (.lst (bs.map V.ref++[.ref c])) gd=some (.dT (kD ks)):=by rw [ak (λz=>by have:=t6.top;rw [<-z,g6] at this;cases this)];exact g6
     have r7:upd H6 t (.lst (bs.map V.ref++[.ref c])) r=some (.lst ((aU L ((i:Int),y) n).map V.int)):=by rw [ak Uy];exact r6
     generalize upd H6 t (.lst (bs.map V.ref++[.ref c]))=H7 at t7 e7 g7 r7 ⊢;have UI:(t::(bs++[c])).Nodup:=by
      obtain ⟨n1,n2⟩:=Yp.mp Mv;refine Yp.mpr ⟨λz=>?_,lE.mpr ⟨λz=>nc (X8 _ z),n2⟩⟩;rcases Ye.mp z with z|z
      ·exact n1 z
      ·exact Sj (X9.mp z).symm
     have Wi:∀ b∈t::(bs++[c]),H b=none:=λb hb=>by
      rcases Yk.mp hb with z|z
      ·rw [z];exact tH
      ·rcases Ye.mp z with z|z
       ·exact FD b (X8 _ z)
       ·rw [X9.mp z];exact Nv.free c0
     walk_at "";refine cJ ?_;refine ⟨_,rfl,r,_,rfl,r7,by omega,by omega,λsl ps Hs es Xb RO Ul=>?_⟩;have Wn:=e7.trans es;have We:=es _ _ g7;have T2:=t7.same es;have Sr:=PF.perm ((perm_append_left_iff ks).mpr (fR (aU L ((i:Int),y) n) (n-1)).symm);refine ⟨sl,rfl,⟨_,aN.of RO⟩,fF (K:=K) (a:=sl) (xs:=ps.map V.ref) (λj σ H8=>∃ v7:Option V,σ=[some (.ref p),some (.ref gd),some (.ref t),some (.int (i:Int)),some (.ref b),some (.int y),some (.ref r),v7]/\ah H H8/\H8 gd=some (.dT (kD (ks++(sh 0 (aU L ((i:Int),y) n)).take j)))/\aX H8 t (bs++[c]) (R++[cU (aU L ((i:Int),y) n) cc])/\H8 sl=some (.lst (ps.map V.ref))/\PR H8 ps (sh 0 (aU L ((i:Int),y) n)))
      ⟨_,rfl,Wn,by rw [take_zero,ZY];exact We,T2,RO,Ul⟩ (by rintro j σ H8 _ ⟨_,_,_,_,_,e,_⟩;exact aN.of e) ?_ ?_⟩
     ·rintro j x σ H8 hx ⟨w7,rfl,e8,g8,t8,s8,Mm⟩;have SU:j<ps.length:=by
       have:=(X3.mp hx).1;rw [Pd] at this;exact this
      have Qt:j<(aU L ((i:Int),y) n).length:=by
       have:=Mm.len;rw [dG] at this;omega
      obtain ⟨d8,S1,k8⟩:=Mm.at (i:=j) (a:=ps[j]) (by simp [SU]);obtain rfl:x=V.ref ps[j]:=by
       rw [Yj,X4 SU] at hx;exact (Yf hx).symm
      have new:=iN Sr.nd S1;walk_at "";refine ⟨gd,_,rfl,i8.t (k:=gT d8) g8 k8 ?_,?_⟩
      ·rw [Ke,Yr,YW];exact aC (by omega)
      ·rw [DO new,zab,<-take_snoc S1];refine ⟨_,rfl,ah.fresh e8 EJ,ae,t8.other g8,?_,Paired.yW Mm λa z h=>?_⟩
       ·rw [ak (λz=>by rw [z,g8] at s8;cases s8)];exact s8
       ·rw [ak (λw=>by rw [w,g8] at h;cases h)];exact h
     ·rintro σ H8 ⟨w7,rfl,e8,g8,t8,s8,Mm⟩;rw [Pd,Mm.len,Y6] at g8;refine ⟨_,_,_,_,_,_,rfl,e8,g8,t8,UI,Wi,Sr,λd h1 h2=>?_⟩;rw [take_snoc hy] at h2;by_cases z:d=((i:Int),y)
      ·rw [z];refine YA _ ((bu (by omega)).mpr ⟨0,?_⟩);rw [iY n0 ek];rfl
      ·refine Yx _ (LF d h1 ?_);rcases h2 with h2|⟨h2,h3⟩
       ·exact .inl h2
       ·rcases Ye.mp h3 with h3|h3
        ·exact .inr ⟨h2,h3⟩
        ·exact absurd (Zl h2 (X9.mp h3)) z
    ·refine ⟨ks,bs,R,_,_,_,rfl,e3.trans e4,e4 _ _ g3,t3.same e4,Mv,FD,Mz,λd h1 h2=>?_⟩;rw [take_snoc hy] at h2;rcases h2 with h2|⟨h2,h3⟩
     ·exact LF d h1 (.inl h2)
     ·rcases Ye.mp h3 with h3|h3
      ·exact LF d h1 (.inr ⟨h2,h3⟩)
      ·rw [show d=((i:Int),y) from Zl h2 (X9.mp h3)];exact MN
   ·rintro σ H3 ⟨ks,bs,R,v5,v6,v7,rfl,e3,g3,t3,Mv,FD,Mz,LF⟩;rw [Pd,Y6] at LF;refine ⟨ks,bs,R,_,_,_,_,_,rfl,e3,g3,t3,Mv,FD,Mz,λd h1 h2=>LF d h1 ?_⟩;by_cases z:d.1=i
    ·refine .inr ⟨z,?_⟩;have:=h1.mem;rw [z,el] at this;exact this
    ·exact .inl (by omega)
  ·rintro σ H1 ⟨ks,bs,R,v3,v4,v5,v6,v7,rfl,e1,g1,t1,CF,CK,Lq,NB⟩;rw [Pd,g.len] at NB;walk_at "";have zR:=t1.len;have lb:=Lq.len;have l2:=Lq.two;refine ⟨t,bs,R,rfl,aN.of t1.top,t1.len,λi b l h1 h2=>aN.of (t1.row i b l h1 h2),by omega,λpp qd hp Kk hq=>?_⟩;have pm:=sA (d:=(0:Addr)) (L:=bs) (p:=pp) (by rw [zR];exact hp);refine q qd (pick 0 bs pp) (pick [] R pp) _ (e1.trans (ah.upd hq)) (t1.pick hp hq) ?_ (λb hb=>?_) (Lq.lands hp Kk λd hd=>NB d hd hd.hi)
   ·refine Yp.mpr ⟨λz=>t1.gJ hq (X8 _ (pm.mem_iff.mp z)),pm.nodup_iff.mpr (Yp.mp CF).2⟩
   ·rcases Yk.mp hb with z|z
    ·rw [z];exact e1.free hq
    ·exact CK b (X8 _ (pm.mem_iff.mp z))
theorem oh:aQ ["orders", "found", "place", "order"] ["orders"] (aG yz):=by walk_at "n"
theorem Gv (D:Def K mg "ties" yz ["orders"]) (T:Txt K mg Z):dA P w K mg base (cQ P w) "ties" 1 ["orders"] zS:=by
 refine D.dP oh (λvs H Q E h=>?_) (λf dW A o s H vs Q E hr h=>?_)
 ·obtain ⟨p,as,L,rfl,_⟩:=h;rfl
 ·obtain ⟨p,as,L,rfl,g,hn,im,q⟩:=h;refine ⟨_,(ai (aH (i:=1) oh.nd rfl (by walk_at "L") (c9 af))
   (ai (bG Yy rfl (oo T.enumerate (aa (pv 0) af)) (mQ (n:=2) rfl (cK (aF (i:=2) oh.nd rfl (by walk_at "L")) (cK (aF (i:=3) oh.nd rfl (by walk_at "L")) iM)))
   (ao (dw (gs YM PySem.F.slot_list_extend PySem.F.type_list_extend sH (pv 1) (aa (bV (tg:=["neighbour"]) (fr:=[("place",2)]) (by walk_at "blk_ok") rfl (bL (aA xU (by rfl) T.sorted sY (aa (pv 3) af))) (λ_ _ _ _ _=>(aF (i:=0) (show [("neighbour":Str),("place":Str)].Nodup by decide +kernel) rfl (by walk_at "L"))) (λ_ _ _ _ _=>(c5 (aM h9 (pv 1) (pv 0) (aW _)))) (λ_ _ _ _ _=>(bN (aa (pv 1) (aa (pv 0) af))))) af)))))
   (ao (aS (pv 1))))),?_⟩
  dsimp only [dS];walk_at "";refine ⟨YK _,λt ht=>?_⟩;walk_at "";refine cJ ?_;have e0:ah H (upd H t (.lst [])):=ah.upd ht;refine ⟨_,rfl,p,rfl,⟨_,aN.of (e0 _ _ g.top)⟩,l8 (K:=K) (a:=p) (xs:=as.map V.ref) (λi σ H1=>∃ (ps:XL) (v2 v3:Option V),σ=[some (.ref p),some (.ref t),v2,v3]/\ah H H1/\H1 t=some (.lst (ps.map V.ref))/\PR H1 ps (eX L i)) ⟨[],none,none,rfl,e0,ae,.nil⟩ (by rintro i σ H1 _ ⟨_,_,_,_,e1,_⟩;exact aN.of (e1 _ _ g.top)) ?_ ?_⟩
  ·rintro i x pr σ H1 hx ⟨ps,v2,v3,rfl,e1,h1,N7⟩ AS;have hi:i<L.length:=by
    have:=(X3.mp hx).1;rw [Pd,g.len] at this;exact this
   obtain ⟨b,l,ha,hl,bK⟩:=g.at hi;obtain rfl:x=V.ref b:=by
    rw [Yj,ha] at hx;exact (Yf hx).symm
   have e2:ah H1 (upd H1 pr (.tup [.int i,.ref b])):=ah.upd AS;have Iv:=e2 _ _ (e1 _ _ bK);have h2:=e2 _ _ h1;have Pm:=N7.same e2;have qA:=e1.trans e2;refine iK (SqT.of ae) rfl ?_;generalize upd H1 pr (.tup [.int i,.ref b])=H2 at Iv h2 Pm qA ⊢;walk_at "";refine ⟨.inl ⟨rfl,_,aN.of h2⟩,?_⟩;walk_at "";refine bR ?_;have ln:l.length<=L.length:=cD (im.nd _ _ hl) λy hy=>⟨(im.rg _ _ hl y hy).1,(im.rg _ _ hl y hy).2.1⟩;refine ⟨_,rfl,b,l,rfl,aN.of Iv,by omega,λuJ sp hp hs yg=>?_⟩;have Xs:=hp.length_eq;refine ⟨sp,rfl,⟨_,aN.of ae⟩,λacc a9=>?_⟩;have e3:ah H2 (upd H2 sp (.lst (uJ.map V.int))):=ah.upd yg;have e4:=e3.trans (ah.upd (o:=.lst []) a9);have P9:upd (upd H2 sp (.lst (uJ.map V.int))) acc (.lst []) sp=some (.lst (uJ.map V.int)):=by rw [ak (aP ae a9)];exact ae
   refine cF (K:=K) (a:=sp) (xs:=uJ.map V.int) (λk σ' ys H5=>∃ (qs:XL) (v:Option V),σ'=[v,some (.int i)]/\ys=qs.map V.ref/\ah H2 H5/\H5 sp=some (.lst (uJ.map V.int))/\H5 acc=some (.lst ys)/\qs.length<=k/\PR H5 qs (((uJ.take k).filter (λy=>decide ((i:Int)<y))).map λy=>((i:Int),y)))
    ⟨[],none,rfl,rfl,e4,P9,ae,X7 _,.nil⟩ (by rintro k σ' ys H5 _ ⟨_,_,_,_,_,h,_⟩;exact aN.of h) ?_ ?_
   ·rintro k x σ' ys H5 hx hk ⟨qs,v,rfl,rfl,e5,s5,a5,q5,JD⟩;obtain ⟨y,hy,rfl⟩:∃ y,uJ[k]?=some y/\x=V.int y:=by
     rw [Yj] at hx;cases e:uJ[k]? with
     | none=>rw [e] at hx;cases hx
     | some z=>rw [e] at hx;exact ⟨z,rfl,(Yf hx).symm⟩
    rw [Pd] at hk;have tk:uJ.take (k+1)=uJ.take k++[y]:=by rw [take_succ,hy];rfl
    walk_at "";refine if2 (λeK=>?_) (λeK=>?_)
    ·walk_at "";intro pq Lv;refine ⟨by rw [ak (aP a5 Lv)];exact a5,by rw [Pd];exact aC (by omega),bQ (by rw [Pd];exact hk) ⟨qs++[pq],_,rfl,by simp,?_,?_,ae,by simp;assumption,?_⟩⟩
     ·exact ah.fresh (e5.trans (ah.upd Lv)) (e3.free a9)
     ·rw [ak (λz=>by rw [<-z] at a9;rw [ae] at a9;cases a9),ak (aP s5 Lv)];exact s5
     ·have p6:PR (upd H5 pq (.tup [.int i,.int y])) qs _:=JD.same (ah.upd Lv);have p7:=PR.lst (zs:=qs.map V.ref++[.ref pq]) p6 (show upd H5 pq (.tup [.int i,.int y]) acc=some (.lst (qs.map V.ref)) by rw [ak (aP a5 Lv)];exact a5);rw [tk,Zx,Yl];refine PR.app p7 ?_;rw [Z5,Ya (by simpa using eK)];refine .cons ?_ .nil;rw [ak (YU (aP a5 Lv))];exact ae
    ·refine bQ (by rw [Pd];exact hk) ⟨qs,_,rfl,rfl,e5,s5,a5,by omega,?_⟩;rw [tk,Zx,Yl,Z5,X6 (by simpa using eK)];simpa using JD
   ·rintro σ' ys H5 ⟨qs,v,rfl,rfl,e5,s5,a5,q5,JD⟩;rw [Pd] at q5 JD;rw [Y6] at JD;rw [Jo hp hs (im.nd _ _ hl) (λy hy=>(im.rg _ _ hl y hy).2.1) hi] at JD;walk_at "";have lp:=Pm.len;have ld:=wZ (L:=L) i;have lm:i*L.length<=60*60:=zbj (by omega) hn;refine wA (e5 _ _ h2) a5 (by rw [Pd,Pd,Yz];omega) ?_;walk_at "";refine ⟨ps++qs,_,_,rfl,ah.fresh (qA.trans e5) ht,by rw [Yl];exact ae,?_⟩;have hg:L.getD i []=l:=by rw [Yn,hl];rfl
    rw [eX,hg];exact PR.app (PR.lst (Pm.same e5) (e5 _ _ h2)) (PR.lst JD (e5 _ _ h2))
  ·rintro σ H1 ⟨ps,v2,v3,rfl,e1,h1,N7⟩;rw [Pd,g.len] at N7;walk_at "";exact q t ps H1 e1 ht h1 N7
theorem fS:aQ ["orders", "one", "other", "ways", "place", "tie"] ["orders", "one", "other"] (aG jw):=by walk_at "n"
theorem uD (D:Def K mg "open_ways" jw ["orders", "one", "other"]) (T:Txt K mg Z) (KA:dA P w K mg base (cQ P w) "ties" 1 ["orders"] zS):dA P w K mg base (cQ P w) "open_ways" 2 ["orders", "one", "other"] zU:=by
 refine D.dP fS (λvs H Q E h=>?_) (λfa dW A o s H vs Q E hr h=>?_)
 ·obtain ⟨p,as,L,a,b,rfl,_⟩:=h;rfl
 ·obtain ⟨p,as,L,a,b,rfl,gr,im,hn,ha,hb,AF,q⟩:=h;refine ⟨_,(ai (aH (i:=3) fS.nd rfl (.inl rfl) lT)
   (ai (bG Yy rfl (bh rfl T.range (aa (aA aL (by rfl) T.len aV (aa (pv 0) af)) af)) (aF (i:=4) fS.nd rfl (.inl rfl))
   (ai (eD (bB hr) (pv 3) (bN (aa (pv 4) (aa (cg rfl T.g_IN) af))) (wJ (lB hr) (bN (aa (pv 4) (aa (cg rfl T.g_OUT) af))) eQ) rfl)
   (ao (eD (bB hr) (pv 3) (bN (aa (pv 4) (aa (cg rfl T.g_OUT) af))) lT rfl))))
   (ai (bG Yy rfl (bL (aI KA hr bp (aa (pv 0) af))) (aF (i:=5) fS.nd rfl (.inl rfl))
   (ao (cR (aM (D3 (lB hr)) (pv 5) (bN (aa (aA (nh rfl) (by rfl) T.min iZ (aa (pv 1) (aa (pv 2) af))) (aa (aA (sX rfl) (by rfl) T.max vf (aa (pv 1) (aa (pv 2) af))) af))) (aW _)) (ai (eD (bB hr) (cZ (bB hr) (pv 3) (bN (aa (aR fL (pv 5) az (λ_ _=>rfl)) (aa (cg rfl T.g_OUT) af))) (λ_ _=>rfl)) (bN (aa (aR fL (pv 5) az (λ_ _=>rfl)) (aa (cg rfl T.g_IN) af))) eQ rfl)
   (ao (eD (bB hr) (cZ (bB hr) (pv 3) (bN (aa (aR fL (pv 5) az (λ_ _=>rfl)) (aa (cg rfl T.g_OUT) af))) (λ_ _=>rfl)) (bN (aa (aR fL (pv 5) az (λ_ _=>rfl)) (aa (cg rfl T.g_IN) af))) eQ rfl))) bq)))
   (ao (aS (pv 3)))))),?_⟩
  dsimp only [dS];walk_at "";intro wy Om;walk_at "";refine cJ ?_;have e0:ah H (upd H wy (.dT [])):=ah.upd Om;have W0:ef (upd H wy (.dT [])) wy 0 N0 (kR [] λ_=>V.ref 0) (λ_=>0) (λ_=>[]):=⟨ae,λd h=>absurd h (ZF _),λd h=>absurd h (ZF _),λd h=>absurd h (ZF _),λd e h=>absurd h (ZF _),λd e h=>absurd h (ZF _),λd e h=>absurd h (ZF _),λd h=>absurd h (ZF _)⟩;generalize upd H wy (.dT [])=H0 at e0 W0 ⊢;refine ⟨_,rfl,_,_,rfl,.inl ⟨_,aN.of (e0 _ _ gr.top),rfl⟩,(L.length:Int),by rw [Pd,gr.len],Tk _,by omega,?_⟩;rw [Yu];refine bZ (λi σ H1=>∃ (dl:List aj) (g:aj->Addr) (ks:aj->List aj) (v4 v5:Option V),σ=[some (.ref p),some (.int (a:Int)),some (.int (b:Int)),some (.ref wy),v4,v5]/\ah H H1/\(∀ d,d∈dl↔d.1<i)/\dl.length=2*i/\ef H1 wy i N0 (kR dl λd=>V.ref (g d)) g ks/\∀ d:aj,d.1<i->H (g d)=none)
   ⟨[],λ_=>0,λ_=>[],none,none,rfl,e0,by simp,rfl,W0,λd h=>absurd h (ZF _)⟩ ?_ ?_
  ·rintro i σ H1 hi ⟨dl,g,ks,v4,v5,rfl,e1,Kw,ll,W1,CK⟩;simp only [Zj];walk_at "";refine Am λp1 Fy=>?_;walk_at "";intro q1 GP;walk_at "";have Pq:p1≠q1:=λz=>by rw [<-z,ae] at GP;cases GP
   refine ⟨(ak Pq).trans ae,q1,kd (i,true),.bl true,rfl,ae,?_⟩;have e2:ah H1 (upd (upd (upd H1 p1 (.dT [])) q1 (.tup [.int (i:Int),.int 1])) p1 (.dT [(kd (i,true),V.bl true)])):=ah.fresh ((ah.upd Fy).trans (ah.upd GP)) Fy;have d2:upd (upd (upd H1 p1 (.dT [])) q1 (.tup [.int (i:Int),.int 1])) p1 (.dT [(kd (i,true),V.bl true)]) p1=some (.dT (kR [(i,true)] λ_=>V.bl true)):=ae;generalize upd (upd (upd H1 p1 (.dT [])) q1 (.tup [.int (i:Int),.int 1])) p1 (.dT [(kd (i,true),V.bl true)])=H2 at e2 d2 ⊢;walk_at "";intro q2 MW;have e3:ah H2 (upd H2 q2 (.tup [.int (i:Int),.int 0])):=ah.upd MW;have k3:upd H2 q2 (.tup [.int (i:Int),.int 0]) q2=some (.tup ((kd (i,false)).map kV)):=ae;generalize upd H2 q2 (.tup [.int (i:Int),.int 0])=H3 at e3 k3 ⊢;have t3:=e3 _ _ (e2 _ _ W1.top);have lk:(kR dl λd=>V.ref (g d)).length<sizeLine:=by rw [iV,ll];exact aC (by omega)
   refine ⟨wy,_,rfl,i8.t (k:=kd (i,false)) t3 k3 lk,?_⟩;have w1:p1≠wy:=λz=>by rw [z,W1.top] at Fy;cases Fy
   have o4:∀ b,b≠wy->upd H3 wy (.dT (Tl (kR dl λd=>V.ref (g d)) (kd (i,false)) (V.ref p1))) b=H3 b:=λb nb=>ak nb;have t4:upd H3 wy (.dT (Tl (kR dl λd=>V.ref (g d)) (kd (i,false)) (V.ref p1))) wy=some (.dT (Tl (kR dl λd=>V.ref (g d)) (kd (i,false)) (V.ref p1))):=ae;generalize upd H3 wy (.dT (Tl (kR dl λd=>V.ref (g d)) (kd (i,false)) (V.ref p1)))=H4 at o4 t4 ⊢;walk_at "";intro p2 zc;have e5:ah H4 (upd H4 p2 (.dT [])):=ah.upd zc;have d5:upd H4 p2 (.dT []) p2=some (.dT (kR [] λ_=>V.bl true)):=ae;generalize upd H4 p2 (.dT [])=H5 at e5 d5 ⊢;walk_at "";intro q3 Qi;have e6:ah H5 (upd H5 q3 (.tup [.int (i:Int),.int 1])):=ah.upd Qi;have k6:upd H5 q3 (.tup [.int (i:Int),.int 1]) q3=some (.tup ((kd (i,true)).map kV)):=ae;generalize upd H5 q3 (.tup [.int (i:Int),.int 1])=H6 at e6 k6 ⊢;have t6:=e6 _ _ (e5 _ _ t4);have n1:((i,false):aj)∉dl:=λz=>by have:=(Kw _).mp z;exact absurd this (YN _)
   refine ⟨wy,_,rfl,i8.t (k:=kd (i,true)) t6 k6 (by rw [qg n1,iV,Yr,ll];exact aC (by simp;omega)),?_⟩;have w2:p2≠wy:=λz=>by rw [z,t4] at zc;cases zc
   have h0:∀ b,b≠wy->∀ o,H1 b=some o->upd H6 wy (.dT (Tl (Tl (kR dl λd=>V.ref (g d)) (kd (i,false)) (V.ref p1)) (kd (i,true)) (V.ref p2))) b=some o:=λb nb o hb=>by
    rw [ak nb];exact e6 _ _ (e5 _ _ ((o4 b nb).trans (e3 _ _ (e2 _ _ hb))))
   have Ut:p1≠p2:=λz=>by rw [<-z,o4 p1 w1,e3 _ _ d2] at zc;cases zc
   have f2:H1 p2=none:=by
    cases h:H1 p2 with
    | none=>rfl
    | some o=>rw [o4 p2 w2,e3 _ _ (e2 _ _ h)] at zc;cases zc
   obtain ⟨Ny,g',ja,Qz,Xt,W7,nw⟩:=W1.lay Kw h0 Fy f2 Ut (by rw [ak w1];exact e6 _ _ (e5 _ _ ((o4 p1 w1).trans (e3 _ _ d2)))) (by rw [ak w2];exact e6 _ _ d5) ae;refine ⟨Ny,g',ja,_,_,rfl,λb o hb=>h0 b (λz=>by rw [z,Om] at hb;cases hb) o (e1 _ _ hb),Qz,by omega,W7,λd hd=>?_⟩;rcases nw d hd with z|z|⟨z1,z2⟩
   ·rw [z];exact e1.free Fy
   ·rw [z];exact e1.free f2
   ·rw [z2];exact CK d z1
  ·rintro σ H1 ⟨dl,g,ks,v4,v5,rfl,e1,Kw,ll,W1,CK⟩;walk_at "";refine cJ ?_;refine ⟨_,rfl,?_⟩;refine ⟨p,as,L,rfl,gr.same e1,hn,im,λt ps H2 e2 ht tt pr=>?_⟩;refine ⟨t,rfl,⟨_,aN.of tt⟩,fF (K:=K) (a:=t) (xs:=ps.map V.ref) (λk σ H3=>∃ (ks:aj->List aj) (v5:Option V),σ=[some (.ref p),some (.int (a:Int)),some (.int (b:Int)),some (.ref wy),v4,v5]/\ah H H3/\H3 t=some (.lst (ps.map V.ref))/\(∀ c xs,H2 c=some (.tup xs)->H3 c=some (.tup xs))/\ef H3 wy L.length (Nk (eX L L.length) a b k) (kR dl λd=>V.ref (g d)) g ks)
    ⟨ks,v5,rfl,e1.trans e2,tt,λ_ _ h=>h,(W1.same e2).congr λd e _=>Hr d e⟩ (by rintro k σ H3 _ ⟨_,_,_,_,z,_⟩;exact aN.of z) ?_ ?_⟩
   ·rintro k x σ H3 hx ⟨ks,v5,rfl,e3,t3,vD,W3⟩;obtain ⟨c,hc,rfl⟩:∃ c,ps[k]?=some c/\x=V.ref c:=by
     rw [Yj] at hx;cases e:ps[k]? with
     | none=>rw [e] at hx;cases hx
     | some z=>rw [e] at hx;exact ⟨z,rfl,(Yf hx).symm⟩
    obtain ⟨⟨u,v⟩,hT,vv⟩:=Gm.PR.at pr hc;have hm:=(fB (X7 _)).mp (Yb hT);dsimp only at hm vv;obtain ⟨u,rfl⟩:=Ys hm.1;obtain ⟨v,rfl⟩:=Ys (show 0<=v by omega);have un:∀ {s:Bool},((u,s):aj).1<L.length:=by intro s;show u<_;omega
    have vn:∀ {s:Bool},((v,s):aj).1<L.length:=by intro s;show v<_;omega
    have c3:=vD _ _ vv;walk_at "";refine ⟨_,_,rfl,?_⟩;walk_at "";refine ⟨_,_,rfl,?_⟩;walk_at "";intro q0 SK;refine HY (SqT.of (ah.upd SK _ _ c3)) (SqT.of ae) ?_;have e4:ah H3 (upd H3 q0 (.tup [.int (if (b:Int)<a then b else a),.int (if (b:Int) > a then b else a)])):=ah.upd SK;generalize upd H3 q0 (.tup [.int (if (b:Int)<a then b else a),.int (if (b:Int) > a then b else a)])=H4 at e4 ⊢;have c4:=e4 _ _ c3;have W4:=W3.same e4;have gt:∀ d:aj,d.1<L.length->g d≠t:=λd hd z=>by have:=W3.row d hd;rw [z,t3] at this;cases this
    walk_at "";refine iW (λsN=>?_) (λhe=>?_)
    ·have ex:¬((u=a/\v=b)\/(u=b/\v=a)):=λz=>sN (by constructor<;>split<;>omega);walk_at "";refine dQ (SC rfl ?_);walk_at "";intro N6 Qh;have KP:ah H4 (upd H4 N6 (.tup [.int (u:Int),.int 1])):=ah.upd Qh;have Sw:upd H4 N6 (.tup [.int (u:Int),.int 1]) N6=some (.tup ((kd (u,true)).map kV)):=ae;generalize upd H4 N6 (.tup [.int (u:Int),.int 1])=Ax at KP Sw ⊢;have WE:=KP _ _ c4;refine ⟨wy,_,rfl,(W4.same KP).get Sw un,?_⟩;walk_at "";intro N5 Qg;have LD:ah Ax (upd Ax N5 (.tup [.int (v:Int),.int 0])):=ah.upd Qg;have Su:upd Ax N5 (.tup [.int (v:Int),.int 0]) N5=some (.tup ((kd (v,false)).map kV)):=ae;generalize upd Ax N5 (.tup [.int (v:Int),.int 0])=Bx at LD Su ⊢;have OL:=(W4.same KP).same LD;have Xw:=OL.len (d:=(u,true)) un;refine ⟨_,_,rfl,i8.t (k:=kd (v,false)) (OL.row _ un) Su (by rw [iV];exact aC (by omega)),?_⟩;obtain ⟨U2,Ri⟩:=OL.put un (p:=(v,false)) vn;have RE:=fQ (.dT (Tl (kR (ks (u,true)) λ_=>V.bl true) (kd (v,false)) (V.bl true))) (OL.row (u,true) un) (λxs z=>by cases z);have cX:=RE _ _ (LD _ _ WE);have tX:upd Bx (g (u,true)) (.dT (Tl (kR (ks (u,true)) λ_=>V.bl true) (kd (v,false)) (V.bl true))) t=some (.lst (ps.map V.ref)):=(ak (gt _ un).symm).trans (LD _ _ (KP _ _ (e4 _ _ t3)));have oX:ah H (upd Bx (g (u,true)) (.dT (Tl (kR (ks (u,true)) λ_=>V.bl true) (kd (v,false)) (V.bl true)))):=λb o hb=>by
      rw [ak (λz=>by rw [z,CK _ un] at hb;cases hb)];exact LD _ _ (KP _ _ (e4 _ _ (e3 _ _ hb)))
     have RF:∀ c xs,H2 c=some (.tup xs)->upd Bx (g (u,true)) (.dT (Tl (kR (ks (u,true)) λ_=>V.bl true) (kd (v,false)) (V.bl true))) c=some (.tup xs):=λc xs h=>RE _ _ (LD _ _ (KP _ _ (e4 _ _ (vD c xs h))));generalize upd Bx (g (u,true)) (.dT (Tl (kR (ks (u,true)) λ_=>V.bl true) (kd (v,false)) (V.bl true)))=HX at Ri cX tX oX RF ⊢;walk_at "";refine dQ (SC rfl ?_);walk_at "";intro N4 Qf;have KO:ah HX (upd HX N4 (.tup [.int (v:Int),.int 1])):=ah.upd Qf;have Sv:upd HX N4 (.tup [.int (v:Int),.int 1]) N4=some (.tup ((kd (v,true)).map kV)):=ae;generalize upd HX N4 (.tup [.int (v:Int),.int 1])=Ay at KO Sv ⊢;have X2:=KO _ _ cX;refine ⟨wy,_,rfl,(Ri.same KO).get Sv vn,?_⟩;walk_at "";intro N3 Qe;have Nt:ah Ay (upd Ay N3 (.tup [.int (u:Int),.int 0])):=ah.upd Qe;have Ss:upd Ay N3 (.tup [.int (u:Int),.int 0]) N3=some (.tup ((kd (u,false)).map kV)):=ae;generalize upd Ay N3 (.tup [.int (u:Int),.int 0])=By at Nt Ss ⊢;have OK:=(Ri.same KO).same Nt;have Xv:=OK.len (d:=(v,true)) vn;refine ⟨_,_,rfl,i8.t (k:=kd (u,false)) (OK.row _ vn) Ss (by rw [iV];exact aC (by omega)),?_⟩;obtain ⟨U1,WL⟩:=OK.put vn (p:=(u,false)) un;have TQ:=fQ (.dT (Tl (kR (U2 (v,true)) λ_=>V.bl true) (kd (u,false)) (V.bl true))) (OK.row (v,true) vn) (λxs z=>by cases z);refine ⟨U1,_,rfl,λb o hb=>?_,(ak (gt _ vn).symm).trans (Nt _ _ (KO _ _ tX)),λc xs h=>TQ _ _ (Nt _ _ (KO _ _ (RF c xs h))),WL.congr λd e _=>K9 hT ex d e⟩;rw [ak (λz=>by rw [z,CK _ vn] at hb;cases hb)];exact Nt _ _ (KO _ _ (oX _ _ hb))
    ·have ex:(u=a/\v=b)\/(u=b/\v=a):=by obtain ⟨h1,h2⟩:=he;split at h1<;>split at h2<;>omega
     exact ⟨ks,_,rfl,e3.trans e4,e4 _ _ t3,λc xs h=>e4 _ _ (vD c xs h),W4.congr λd e _=>Ht hT ex d e⟩
   ·rintro σ H3 ⟨ks,v5,rfl,e3,t3,vD,W3⟩;rw [Pd,PR.len pr] at W3;walk_at "";exact q wy _ g ks H3 e3 Om CK (W3.congr λd e hd=>K8 im d e hd)
theorem dY:aQ ["ways", "start", "ahead", "waiting", "door", "beyond"] ["ways", "start"] (aG iD):=by walk_at "n"
theorem qX (D:Def K mg "doors_from" iD ["ways", "start"]) (T:Txt K mg Z):dA P w K mg base (cQ P w) "doors_from" 1 ["ways", "start"] vX:=by
 refine D.dP dY (λvs H Q E h=>?_) (λf dW A o s H vs Q E hr h=>?_)
 ·obtain ⟨wy,sp,n,N,kvs,g,ks,st,rfl,_⟩:=h;rfl
 ·obtain ⟨wy,sp,n,N,kvs,g,ks,st,rfl,W,GO,hn,yg,q⟩:=h;refine ⟨_,(ai (aH (i:=2) dY.nd rfl (.inl rfl) (wJ (lB hr) (pv 1) DX))
   (ai (aH (i:=3) dY.nd rfl (.inl rfl) (c9 (aa (pv 1) af)))
   (ai (fv Yy (aM pI (aA aL (by rfl) T.len aV (aa (pv 3) af)) az (aW _)) (ai (aH (i:=4) dY.nd rfl (.inl rfl) (gs YM PySem.F.slot_list_pop PySem.F.type_list_pop Ej (pv 3) (aa az af)))
   (ao (uo (bG Yy rfl (pD (cZ (bB hr) (pv 0) (pv 4) (λ_ _=>rfl))) (aF (i:=5) dY.nd rfl (.inl rfl))
   (ao (cR (eU (eG (bB hr) (pv 5) (pv 2))) (ai (eD (bB hr) (pv 2) (pv 5) (pv 4) rfl)
   (ao (dw (gs YM Y3 Y4 df (pv 3) (aa (pv 5) af))))) bq)))))))
   (ao (aS (pv 2)))))),?_⟩
  dsimp only [dS];walk_at "";refine Am λt ht=>?_;walk_at "";have TV:t≠sp:=λz=>by rw [z,yg] at ht;cases ht
  refine ⟨ae,sp,kd st,.dO,rfl,by rw [ak (YU TV)];exact yg,?_⟩;have e0:ah H (upd (upd H t (.dT [])) t (.dT [(kd st,V.dO)])):=ah.fresh (ah.upd ht) ht;have a0:vz (upd (upd H t (.dT [])) t (.dT [(kd st,V.dO)])) t [(st,none)] (λ_=>V.dO):=⟨ae,λd o hd=>by
   have:=X9.mp hd;injection this with h1 h2;subst h2;rfl⟩
  generalize upd (upd H t (.dT [])) t (.dT [(kd st,V.dO)])=H0 at e0 a0 ⊢;walk_at "";refine ⟨by rw [Yz];simp,λwq hw=>?_⟩;have wf:H wq=none:=e0.free hw;have w0:upd H0 wq (.lst [V.ref sp]) wq=some (.lst (([sp]:XL).map V.ref)):=ae;have a1:vz (upd H0 wq (.lst [V.ref sp])) t [(st,none)] (λ_=>V.dO):=a0.keep (ak (aP a0.top hw)) λc xs e=>ah.upd hw _ _ e;have d0:DR (upd H0 wq (.lst [V.ref sp])) [sp] [st]:=.cons (ah.upd hw _ _ (e0 _ _ yg)) .nil;have e1:ah H (upd H0 wq (.lst [V.ref sp])):=e0.trans (ah.upd hw);have wt:wq≠t:=(aP a0.top hw).symm;generalize upd H0 wq (.lst [V.ref sp])=H1 at w0 a1 d0 e1 ⊢;walk_at "";refine gG (λσ H1=>∃ (eW:List (aj×Option aj)) (r:aj->V) (ws:List aj) (cs:XL) (v4 v5:Option V),σ=[some (.ref wy),some (.ref sp),some (.ref t),some (.ref wq),v4,v5]/\ah H H1/\vz H1 t eW r/\H1 wq=some (.lst (cs.map V.ref))/\DR H1 cs ws/\Bf n N st eW ws/\cs.length<=eW.length)
   (λ_ H1=>match H1 t,H1 wq with|some (.dT kvs),some (.lst xs)=>2*(2*n-kvs.length)+xs.length|_,_=>0) ⟨[(st,none)],_,[st],[sp],none,none,rfl,e1,a1,w0,d0,Bf.start GO,X7 _⟩ ?_
  clear e0 a0 hw w0 a1 d0 e1 H0 H1;rintro σ H1 ⟨eW,r,ws,cs,v4,v5,rfl,e1,a1,w1,d1,bf,cf⟩;walk_at "";refine ⟨_,_,rfl,.inl ⟨_,aN.of w1,rfl⟩,?_⟩;rw [Pd];walk_at "";refine if2 (λxi=>?_) (λxi=>?_)
  ·refine w_turn ?_;rw [a1.top,w1];dsimp only;rw [iV,Pd,Pd];cases d1 with
   | nil=>simp at xi
   | @cons c x cs ws hc d1=>
   have hx:x.1<n:=bf.rg x (bf.sub x (.head _));have hlen:=bf.len;walk_at "";refine ⟨.inl ⟨rfl,_,aN.of w1⟩,?_⟩;refine ⟨wq,_,0,0,.ref c,rfl,rfl,w1,by decide,by decide,by simp [seqIndex?],rfl,?_⟩;have e2:ah H (upd H1 wq (.lst ((cs.map V.ref)))):=ah.fresh e1 wf;have HH:=fQ (.lst (cs.map V.ref)) w1 (λxs z=>by cases z);have a2:vz (upd H1 wq (.lst (cs.map V.ref))) t eW r:=a1.keep (ak wt.symm) HH;have w2:upd H1 wq (.lst (cs.map V.ref)) wq=some (.lst (cs.map V.ref)):=ae;have d2:DR (upd H1 wq (.lst (cs.map V.ref))) cs ws:=d1.mono HH;have c2:=HH _ _ hc;have er:(List.map V.ref (c::cs)).eraseIdx 0=cs.map V.ref:=rfl;rw [er];generalize upd H1 wq (.lst (cs.map V.ref))=H2 at e2 a2 w2 d2 c2 ⊢;walk_at "";have gx:=e2 _ _ (W.row x hx);refine Dz ?_;refine cJ ?_;refine wz ?_;refine dQ ?_;refine ⟨_,rfl,_,rfl,wy,_,rfl,(W.same e2).get c2 hx,?_⟩;refine ⟨g x,_,rfl,gx,λo=>?_⟩;have gt:g x≠t:=λz=>by have:=W.row x hx;rw [z,ht] at this;cases this
   have gw:g x≠wq:=λz=>by have:=W.row x hx;rw [z,wf] at this;cases this
   have vD:=fQ (.fN o (.dT (kR (ks x) λ_=>V.bl true))) gx (λxs z=>by cases z);have k3:∀ b u,b≠g x->H b=some u->upd H2 (g x) (.fN o (.dT (kR (ks x) λ_=>V.bl true))) b=some u:=λb u nb hb=>by rw [ak nb];exact e2 _ _ hb
   have a3:=a2.keep (H':=upd H2 (g x) (.fN o (.dT (kR (ks x) λ_=>V.bl true)))) (ak gt.symm) vD;have w3:upd H2 (g x) (.fN o (.dT (kR (ks x) λ_=>V.bl true))) wq=some (.lst (cs.map V.ref)):=by rw [ak gw.symm];exact w2
   have d3:=d2.mono vD;have c3:=vD _ _ c2;have g3:upd H2 (g x) (.fN o (.dT (kR (ks x) λ_=>V.bl true))) (g x)=some (.fN o (.dT (kR (ks x) λ_=>V.bl true))):=ae;generalize upd H2 (g x) (.fN o (.dT (kR (ks x) λ_=>V.bl true)))=H3 at k3 a3 w3 d3 c3 g3 ⊢;clear e2 a2 w2 d2 c2 gx vD H2;refine Ce (λk σ H3=>∃ (lq:List (aj×Option aj)) (r':aj->V) (rP:List aj) (qO:XL) (v5:Option V),σ=[some (.ref wy),some (.ref sp),some (.ref t),some (.ref wq),some (.ref c),v5]/\(∀ b u,b≠g x->H b=some u->H3 b=some u)/\H3 (g x)=some (.fN o (.dT (kR (ks x) λ_=>V.bl true)))/\H3 c=some (.tup ((kd x).map kV))/\vz H3 t lq r'/\H3 wq=some (.lst (qO.map V.ref))/\DR H3 qO rP/\Bi n N st lq rP x (ks x) k/\2*(2*n-lq.length)+qO.length<2*(2*n-eW.length)+(c::cs).length/\qO.length<=lq.length)
    ⟨eW,r,ws,cs,v5,rfl,k3,g3,c3,a3,w3,d3,bf.pop _,by simp,zbi cf⟩ (by rintro k σ H3 _ ⟨_,_,_,_,_,_,_,z,_⟩;exact z) ?_ ?_
   ·clear k3 a3 w3 d3 c3 g3 H3;rintro k key v b σ H3 hk hb ⟨lq,r',rP,qO,v5,rfl,k3,g3,c3,a3,w3,d3,bi,ms,Q3⟩;obtain ⟨e,he,rfl,_⟩:=MF hk;have hN:N x e:=(W.mem x e hx).mp (Yb he);have en:e.1<n:=W.rg x e hx hN;walk_at "";refine ⟨t,_,rfl,cP.t (k:=kd e) a3.top hb,?_⟩;rw [qh];walk_at "";refine iW (λKq=>?_) (λMN=>?_)
    ·have ba:=bi.add he Kq hN en;have lb:=ba.len;rw [Yr,YX] at lb;have lw:qO.length<=1000:=by
      have:=bi.len;omega
     walk_at "";refine ⟨t,_,rfl,i8.t (k:=kd e) a3.top hb (by rw [iV,Pd];exact aC (by omega)),?_⟩;have CW:=fQ (.dT (Tl (kR (lq.map Prod.fst) r') (kd e) (.ref c))) a3.top (λxs z=>by cases z);have a4:=a3.add (H':=upd H3 t (.dT (Tl (kR (lq.map Prod.fst) r') (kd e) (.ref c)))) Kq (CW _ _ c3) ae CW;have w4:upd H3 t (.dT (Tl (kR (lq.map Prod.fst) r') (kd e) (.ref c))) wq=some (.lst (qO.map V.ref)):=by rw [ak wt];exact w3
     have d4:=d3.mono CW;have c4:=CW _ _ c3;have b4:=CW _ _ hb;have g4:upd H3 t (.dT (Tl (kR (lq.map Prod.fst) r') (kd e) (.ref c))) (g x)=_:=(ak gt).trans g3;have k4:∀ b u,b≠g x->H b=some u->upd H3 t (.dT (Tl (kR (lq.map Prod.fst) r') (kd e) (.ref c))) b=some u:=λb u nb hb=>by
      rw [ak (λz=>by rw [z,ht] at hb;cases hb)];exact k3 b u nb hb
     generalize upd H3 t (.dT (Tl (kR (lq.map Prod.fst) r') (kd e) (.ref c)))=H4 at a4 w4 d4 c4 b4 g4 k4 ⊢;walk_at "";refine ⟨.inl ⟨rfl,_,aN.of w4⟩,?_⟩;walk_at "";refine dI w4 (by rw [Pd];exact aC ‹_›) ?_;have I0:=fQ (.lst (qO.map V.ref++[V.ref b])) w4 (λxs z=>by cases z);refine ⟨lq++[(e,some x)],_,rP++[e],qO++[b],_,rfl,λb u nb hb=>?_,(ak gw).trans g4,I0 _ _ c4,a4.keep (ak wt.symm) I0,by rw [Yl];exact ae,(d4.mono I0).add (I0 _ _ b4),ba,?_,by simp only [Yr,YV,zac];omega⟩
     ·rw [ak (λz=>by rw [z,wf] at hb;cases hb)];exact k4 b u nb hb
     ·rw [Yr,Yr,YX];simp only [YV,zac] at ms ⊢;omega
    ·walk_at "";exact ⟨lq,r',rP,qO,_,rfl,k3,g3,c3,a3,w3,d3,bi.skip he MN,ms,Q3⟩
   ·clear k3 a3 w3 d3 c3 g3 H3;rintro σ H3 ⟨lq,r',rP,qO,v5,rfl,k3,g3,c3,a3,w3,d3,bi,ms,Q3⟩;rw [iV] at bi;have CW:=fQ (.dT (kR (ks x) λ_=>V.bl true)) g3 (λxs z=>by cases z);have a4:=a3.keep (H':=upd H3 (g x) (.dT (kR (ks x) λ_=>V.bl true))) (ak gt.symm) CW;have w4:upd H3 (g x) (.dT (kR (ks x) λ_=>V.bl true)) wq=some (.lst (qO.map V.ref)):=(ak gw.symm).trans w3;refine ⟨g x,o,_,g3,λo' u' z=>?_,⟨lq,r',rP,qO,_,_,rfl,λb u hb=>?_,a4,w4,d3.mono CW,bi.done λe he=>(W.mem x e hx).mpr he,Q3⟩,?_⟩
    ·have z:H (g x)=_:=z;rw [W.row x hx] at z;cases z
    ·by_cases nb:b=g x
     ·rw [nb,ae,<-W.row x hx,<-nb];exact hb
     ·rw [ak nb];exact k3 b u nb hb
    ·rw [a4.top,w4];dsimp only;rw [iV,Pd,Pd];exact ms
  ·have QE:cs=[]:=by
    cases cs with
    | nil=>rfl
    | cons c cs=>simp at xi
   subst QE;cases d1
   walk_at "";exact q t eW r H1 e1 ht a1 bf
theorem lG:aQ ["ways", "ahead", "goal", "door", "last"] ["ways", "ahead", "goal"] (aG ud):=by walk_at "n"
theorem D8 (D:Def K mg "go_to" ud ["ways", "ahead", "goal"]) (T:Txt K mg Z):dA P w K mg base (cQ P w) "go_to" 1 ["ways", "ahead", "goal"] zX:=by
 refine D.dP lG (λvs H Q E h=>?_) (λfa dW A o s H vs Q E hr h=>?_)
 ·obtain ⟨wy,t,gp,n,N,a,b,f,i,kvs,g,ks,eW,r,rfl,_⟩:=h;rfl
 ·obtain ⟨wy,t,gp,n,TT,a,b,f,i,kvs,g,ks,eW,r,rfl,W,Ah,off,VL,fn,hb,F,N,hn,q⟩:=h;refine ⟨_,(ai (aH (i:=3) lG.nd rfl (.inl rfl) (pv 2))
   (ao (fv Yy (eU (Gs (cZ (bB hr) (pv 1) (pv 3) (λ_ _=>rfl)))) (ai (aH (i:=4) lG.nd rfl (.inl rfl) (cZ (bB hr) (pv 1) (pv 3) (λ_ _=>rfl)))
   (ai (eD (bB hr) (cZ (bB hr) (pv 0) (pv 3) (λ_ _=>rfl)) (pv 4) eQ rfl)
   (ai (cR (PW.pt (pw_or (aM ie (aR fL (pv 4) az (λ_ _=>rfl)) (aR fL (pv 3) az (λ_ _=>rfl)) (aW _)) (pw_or1 (aM ie (aR fL (pv 4) az (λ_ _=>rfl)) (cg rfl T.g_IN) (aW _))))) (ao (dw (DY (bB hr) (cZ (bB hr) (pv 0) (pv 4) (λ_ _=>rfl)) (pv 3) ⟨rfl,rfl,rfl,rfl⟩))) bq)
   (ao (aH (i:=3) lG.nd rfl (.inl rfl) (pv 4))))))))),?_⟩
  dsimp only [dS];walk_at "";have XN:(b,false)∈eW.map Prod.fst:=by obtain ⟨o,h⟩:=hb;exact Yc.mpr ⟨_,h,rfl⟩
  refine gG (λσ H1=>∃ (x:aj) (c:Addr) (f':Fw.Flow) (ja:aj->List aj) (v4:Option V),σ=[some (.ref wy),some (.ref t),some (.ref gp),some (.ref c),v4]/\(∀ c o,(∀ d:aj,d.1<n->c≠g d)->H c=some o->H1 c=some o)/\H1 c=some (.tup ((kd x).map kV))/\ef H1 wy n (Res TT f') kvs g ja/\vz H1 t eW r/\Go n TT a b f eW x f')
   (λσ H1=>G8 eW (σ.getD 3 none) H1) ⟨(b,false),gp,f,ks,none,rfl,λc o _ h=>h,VL,W,Ah,Go.start F hb⟩ ?_
  rintro σ H1 ⟨x,c,f',ja,v4,rfl,k1,c1,W1,A1,G1⟩;obtain ⟨o,ho⟩:=G1.xk;have xk:x∈eW.map Prod.fst:=Yc.mpr ⟨_,ho,rfl⟩;have xn:x.1<n:=fn.rg x xk;have av:=A1.val x o ho;walk_at "";refine dQ ?_;refine ⟨_,rfl,_,rfl,t,_,rfl,A1.get c1 xk,?_⟩;cases o with
  | none=>
   have av:r x=V.dO:=av;rw [av];walk_at "";refine iW (λh=>absurd rfl h) (λ_=>?_);exact q f' ja H1 k1 W1 (G1.done F fn ho)
  | some p=>
   obtain ⟨cp,ev,hp⟩:=av;obtain ⟨O8,_,op,Vu⟩:=fn.up ho;have pk:p∈eW.map Prod.fst:=Yc.mpr ⟨_,Vu,rfl⟩;have pn:p.1<n:=fn.rg p pk;have r0:=G1.open F N fn ho;have G2:=G1.step F N fn ho;rw [ev];walk_at "";refine iW (λ_=>?_) (λh=>by cases h);refine w_turn ?_;walk_at "";refine dQ ?_;refine ⟨_,rfl,_,rfl,t,_,rfl,A1.get c1 xk,?_⟩;rw [ev];walk_at "";refine dQ ?_;refine ⟨_,rfl,_,rfl,wy,_,rfl,W1.get c1 xn,?_⟩;walk_at "";refine ⟨g x,_,rfl,i8.t (k:=kd p) (W1.row x xn) hp (by rw [iV];have:=W1.len xn;exact aC (by omega)),?_⟩;obtain ⟨lx,ex,nx,mx⟩:∃ lx:List aj,Tl (kR (ja x) λ_=>V.bl true) (kd p) (V.bl true)=kR lx (λ_=>V.bl true)/\lx.Nodup/\∀ e,e∈lx↔e∈ja x\/e=p:=by
    by_cases h:p∈ja x
    ·exact ⟨ja x,qc h,W1.nd x xn,λe=>⟨.inl,λz=>z.elim id λz=>z▸h⟩⟩
    ·refine ⟨ja x++[p],qf h,?_,λe=>by simp⟩;refine YD.mpr ⟨W1.nd x xn,by simp,λd hd d' B7 z=>h ?_⟩;rw [<-X9.mp B7,<-z];exact hd
   rw [ex];have HH:=fQ (.dT (kR lx λ_=>V.bl true)) (W1.row x xn) (λxs z=>by cases z);have c2:=HH _ _ c1;have p2:=HH _ _ hp;have g2:upd H1 (g x) (.dT (kR lx λ_=>V.bl true)) (g x)=some (.dT (kR lx λ_=>V.bl true)):=ae;have o2:∀ b,b≠g x->upd H1 (g x) (.dT (kR lx λ_=>V.bl true)) b=H1 b:=λb nb=>ak nb;have a2:=A1.keep (H':=upd H1 (g x) (.dT (kR lx λ_=>V.bl true))) (ak (off x xn).symm) HH;have px:p≠x:=λz=>by rw [z] at r0;exact r0.HQ rfl
   have Td:g p≠g x:=λz=>px (W1.inj _ _ pn xn z);have Nj:upd H1 (g x) (.dT (kR lx λ_=>V.bl true)) (g p)=some (.dT (kR (ja p) λ_=>V.bl true)):=(ak Td).trans (W1.row p pn);have t2:upd H1 (g x) (.dT (kR lx λ_=>V.bl true)) wy=some (.dT kvs):=(ak (W1.off x xn).symm).trans W1.top;generalize upd H1 (g x) (.dT (kR lx λ_=>V.bl true))=H2 at HH c2 p2 g2 o2 a2 Nj t2 ⊢;have pd:∃ s:Int,(kd p).map kV=[.int (p.1:Int),.int s]/\(s=0↔p.2=false):=by
    obtain ⟨u,s⟩:=p;cases s
    ·exact ⟨0,rfl,by simp⟩
    ·exact ⟨1,rfl,by simp⟩
   have xd:∃ s:Int,(kd x).map kV=[.int (x.1:Int),.int s]:=by
    obtain ⟨u,s⟩:=x;cases s
    ·exact ⟨0,rfl⟩
    ·exact ⟨1,rfl⟩
   obtain ⟨sp,ep,XT⟩:=pd;obtain ⟨sx,XR⟩:=xd;have pop:p.1=x.1\/p.2=false->∀ R:VK,(∀ (v:V) (H':Hp) (uR:aj->List aj),(∀ c o,(∀ d:aj,d.1<n->c≠g d)->H c=some o->H' c=some o)->H' cp=some (.tup ((kd p).map kV))->ef H' wy n (Res TT (f'.push p x)) kvs g uR->vz H' t eW r->R v H')->C6 (zP (fI 0) (fI 4)) (fI 3) [some (.ref wy),some (.ref t),some (.ref gp),some (.ref c),some (.ref cp)] H2 R:=by
    intro cond R hR;have xp:x∈ja p:=(W1.mem p x pn).mpr r0;obtain ⟨j,hj⟩:=YB.mp xp;refine dQ ?_;have dg:=cP.t (k:=kd p) t2 p2;rw [W1.val p pn] at dg;refine ⟨_,rfl,_,rfl,wy,_,rfl,dg,g p,rfl,.inr ⟨_,.inl Nj⟩,_,rfl,_,j,kd x,.bl true,c,Nj,rfl,c2,MG hj,?_⟩;rw [GI];have vD:=fQ (.dT (kR ((ja p).eraseIdx j) λ_=>V.bl true)) Nj (λxs z=>by cases z);refine hR _ _ _ (λc o hc ho=>?_) (vD _ _ p2) (W1.push pn xn N.sym N.CH G1.jg r0 lx ((ja p).eraseIdx j) nx mx ((W1.nd p pn).sublist (eraseIdx_sublist _ _)) (λe=>?_) ((ak Td.symm).trans g2) ae (λb n1 n2=>(ak n2).trans (o2 b n1))) (a2.keep (ak (off p pn).symm) vD)
    ·rw [ak (hc p pn),o2 c (hc x xn)];exact k1 c o hc ho
    ·rw [El (W1.nd p pn) hj];exact ⟨λz=>⟨z.1,λy=>absurd y z.2⟩,λz=>⟨z.1,λy=>z.2 y cond⟩⟩
   have keep:¬(p.1=x.1\/p.2=false)->∃ (uR:aj->List aj),(∀ c o,(∀ d:aj,d.1<n->c≠g d)->H c=some o->H2 c=some o)/\H2 cp=some (.tup ((kd p).map kV))/\ef H2 wy n (Res TT (f'.push p x)) kvs g uR/\vz H2 t eW r:=by
    intro cond;refine ⟨_,λc o hc ho=>?_,p2,W1.push pn xn N.sym N.CH G1.jg r0 lx (ja p) nx mx (W1.nd p pn) (λe=>⟨λz=>⟨z,λ_=>cond⟩,λz=>z.1⟩) g2 Nj (λb n1 _=>o2 b n1),a2⟩;rw [o2 c (hc x xn)];exact k1 c o hc ho
   walk_at "";refine ⟨rfl,_,rfl,if2 (λh1=>?_) (λh1=>?_)⟩
   ·have h1:p.1=x.1:=by injection h1 with h1;omega
    rw [Ya rfl];refine pop (.inl h1) _ λv H' uR k3 c3 W3 A3=>?_;walk_at "";refine ⟨⟨p,cp,_,uR,_,rfl,k3,c3,W3,A3,G2⟩,?_⟩;show G8 eW (some (V.ref cp)) _<G8 eW (some (V.ref c)) H1;rw [mY c3,mY c1];exact O8
   ·have h1:¬p.1=x.1:=λz=>h1 (by rw [z]);walk_at "";refine ⟨rfl,_,rfl,?_⟩;refine if2 (λh2=>?_) (λh2=>?_)
    ·have h2:p.2=false:=by
      obtain ⟨u,s⟩:=p;cases s
      ·rfl
      ·injection h2 with h2;simp at h2
     refine pop (.inr h2) _ λv H' uR k3 c3 W3 A3=>?_;walk_at "";refine ⟨⟨p,cp,_,uR,_,rfl,k3,c3,W3,A3,G2⟩,?_⟩;show G8 eW (some (V.ref cp)) _<G8 eW (some (V.ref c)) H1;rw [mY c3,mY c1];exact O8
    ·have h2:¬p.2=false:=λz=>h2 (by
      obtain ⟨u,s⟩:=p;cases s
      ·rfl
      ·cases z)
     obtain ⟨uR,k3,c3,W3,A3⟩:=keep (λz=>z.elim h1 h2);walk_at "";refine ⟨⟨p,cp,_,uR,_,rfl,k3,c3,W3,A3,G2⟩,?_⟩;show G8 eW (some (V.ref cp)) _<G8 eW (some (V.ref c)) H1;rw [mY c3,mY c1];exact O8
theorem yy:aQ ["orders", "ways", "place"] ["orders", "ways", "place"] (aG mJ):=by walk_at "n"
theorem yP (D:Def K mg "gone_on" mJ ["orders", "ways", "place"]) (T:Txt K mg Z):dA P w K mg base (cQ P w) "gone_on" 1 ["orders", "ways", "place"] mG:=by
 refine D.dP yy (λvs H Q E h=>?_) (λfa dW A o s H vs Q E hr h=>?_)
 ·obtain ⟨p,wy,as,L,TT,f,kvs,g,ks,x,l,rfl,_⟩:=h;rfl
 ·obtain ⟨p,wy,as,L,TT,f,kvs,g,ks,i,r,rfl,gr,im,hn,W,qo,q⟩:=h;refine ⟨_,(ao (aS (bV (tg:=["neighbour"]) (fr:=[("place",2),("ways",1)]) (by walk_at "blk_ok") rfl (bL (aR aK (pv 0) (pv 2) (λ_ _=>rfl))) (λ_ _ _ _ _=>(aF (i:=0) (show [("neighbour":Str),("place":Str),("ways":Str)].Nodup by decide +kernel) rfl (.inl rfl))) (λ_ _ _ _ _=>(c5 (eU (uy (bB hr) (bN (aa (pv 1) (aa (cg rfl T.g_OUT) af))) (cZ (bB hr) (pv 2) (bN (aa (pv 0) (aa (cg rfl T.g_IN) af))) (λ_ _=>rfl)))))) (λ_ _ _ _ _=>(pv 0))))),?_⟩
  try dsimp only [dS]
  have hi:i<L.length:=(X3.mp qo).1;obtain ⟨b,r',ha,Ot,bK⟩:=gr.at (i:=i) hi;rw [qo] at Ot;injection Ot with Ot;subst Ot;have rl:=lK im qo;walk_at "";refine bR ?_;refine ⟨_,rfl,_,rfl,bg (aN.of gr.top) (gr.ix ha) ⟨b,rfl,⟨_,aN.of bK⟩,λacc a9=>?_⟩⟩;refine cF (K:=K) (a:=b) (xs:=r.map V.int) (λj σ' ys H3=>∃ w:Option V,σ'=[w,some (.int (i:Int)),some (.ref wy)]/\ys=((r.take j).filter λv=>f.F i v.toNat).map V.int/\ah H H3/\H3 acc=some (.lst ys))
   ⟨none,rfl,rfl,ah.upd a9,ae⟩ (by rintro j σ' ys H3 _ ⟨_,_,_,e,_⟩;exact aN.of (e _ _ bK)) ?_ ?_
  ·rintro j x σ' ys H3 hx hj ⟨w,rfl,rfl,e3,a3⟩;obtain ⟨y,hy,rfl⟩:∃ y,r[j]?=some y/\x=V.int y:=by
    rw [Yj] at hx;cases e:r[j]? with
    | none=>rw [e] at hx;cases hx
    | some z=>rw [e] at hx;exact ⟨z,rfl,(Yf hx).symm⟩
   have yr:=im.rg i r qo y (Yb hy);obtain ⟨yn,rfl⟩:=Ys yr.1;have jl:=hj;rw [Pd] at jl;have fl:((r.take j).filter λv=>f.F i v.toNat).length<=j:=Y2 (Zy _ _) (by rw [YW];omega);walk_at "";intro q1 GP;have OS:((yn,false):aj).1<L.length:=by have:=yr.2.1;show yn<_;omega
   have e4:ah H3 (upd H3 q1 (.tup [.int i,.int 1])):=ah.upd GP;have k4:upd H3 q1 (.tup [.int i,.int 1]) q1=some (.tup ((kd (i,true)).map kV)):=ae;generalize upd H3 q1 (.tup [.int i,.int 1])=H4 at e4 k4 ⊢;refine dQ (SC rfl ?_);walk_at "";intro q2 MW;have e5:ah H4 (upd H4 q2 (.tup [.int (yn:Int),.int 0])):=ah.upd MW;have k5:upd H4 q2 (.tup [.int (yn:Int),.int 0]) q2=some (.tup ((kd (yn,false)).map kV)):=ae;generalize upd H4 q2 (.tup [.int (yn:Int),.int 0])=H5 at e5 k5 ⊢;have W5:=W.same ((e3.trans e4).trans e5);have eH:=(e3.trans e4).trans e5;have a5:=e5 _ _ (e4 _ _ a3);refine ⟨wy,_,rfl,W5.get k5 OS,?_⟩;refine ⟨_,_,rfl,cP.t (k:=kd (i,true)) (W5.row _ OS) (e5 _ _ k4),?_⟩;rw [qh];have key:((i,true):aj)∈ks (yn,false)↔f.F i ((yn:Int)).toNat=true:=by
    rw [W.mem _ _ OS,dU,Yu];exact ⟨λz=>z.resolve_left λy=>yr.2.2 (by rw [y.1]),.inr⟩
   refine ⟨_,rfl,if2 (λhk=>?_) (λhk=>?_)⟩
   ·walk_at "";refine ⟨a5,by rw [Pd];exact aC (by omega),bQ hj ⟨_,rfl,?_,ah.fresh eH a9,ae⟩⟩;rw [eI hy,Ya (key.mp hk),Yl]
    rfl
   ·refine bQ hj ⟨_,rfl,?_,eH,a5⟩;rw [eI hy,X6 (λz=>hk (key.mpr z)),ZY]
  ·rintro σ' ys H3 ⟨w,rfl,rfl,e3,a3⟩;rw [Pd,Y6] at a3;walk_at "";exact q acc H3 e3 a9 a3
theorem kM:aQ ["orders", "ways", "start", "goal", "road"] ["orders", "ways", "start", "goal"] (aG mH):=by walk_at "n"
theorem yO (D:Def K mg "road_by" mH ["orders", "ways", "start", "goal"]) (T:Txt K mg Z) (mW:dA P w K mg base (cQ P w) "gone_on" 1 ["orders", "ways", "place"] mG):dA P w K mg base (cQ P w) "road_by" 2 ["orders", "ways", "start", "goal"] rY:=by
 refine D.dP kM (λvs H Q E h=>?_) (λfa dW A o s H vs Q E hr h=>?_)
 ·obtain ⟨p,wy,ra,as,L,TT,f,kvs,g,ks,a,b,c,i,rfl,_⟩:=h;rfl
 ·obtain ⟨p,wy,ra,as,L,TT,f,kvs,g,ks,a,b,c,i,rfl,gr,im,hn,W,F,N,tl,Iw,V2,q⟩:=h;refine ⟨_,(ai (aH (i:=4) kM.nd rfl (.inl rfl) (pv 2))
   (ai (fv Yy (aM pH (aR aK (pv 4) (wH oD az) (λ_ _=>rfl)) (pv 3) (aW _)) (ao (aH (i:=4) kM.nd rfl (.inl rfl) (aO eV (pv 4) (aI mW hr bp (aa (pv 0) (aa (pv 1) (aa (aR aK (pv 4) (wH oD az) (λ_ _=>rfl)) af))))))))
   (ao (aS (pv 4))))),?_⟩
  try dsimp only [dS]
  walk_at "";refine gG (λσ H1=>∃ (rd:List Nat) (rb:Addr),σ=[some (.ref p),some (.ref wy),some (.ref ra),some (.int (b:Int)),some (.ref rb)]/\ah H H1/\H1 rb=some (.lst ((rd.map λx:Nat=>(x:Int)).map V.int))/\Fw.Rd f a b rd)
   (λσ H1=>100-lenOf (σ.getD 4 none) H1) ⟨[a,c],ra,rfl,λb o h=>h,Iw,Fw.Rd.start F N V2⟩ ?_
  rintro σ H1 ⟨rd,rb,rfl,e1,r1,R⟩;have l2:=R.len;have lf:=R.IH F N;obtain ⟨x,hx⟩:∃ x,rd[rd.length-1]?=some x:=⟨_,X4 (by omega)⟩;have TF:mq ((rd.map λx:Nat=>(x:Int)).map V.int) (-1)=some (V.int (x:Int)):=by
   have e:(rd.map λx:Nat=>(x:Int))[rd.length-1]?=some (x:Int):=by rw [Yj,hx];rfl
   exact Fc (n:=rd.length-1) (by rw [Pd];omega) e
  walk_at "";refine bg (aN.of r1) TF ?_;walk_at "";have xn:x<L.length:=R.rg F N x (Yb hx);refine iW (λsN=>?_) (λhe=>?_)
  ·have xb:x≠b:=λz=>sN (by rw [z]);obtain ⟨u,hu⟩:=R.last hx;obtain ⟨y,hy⟩:=F.next N xb hu
   have xa:x≠a:=λz=>by rw [z,F.Ee N] at hu;cases hu
   obtain ⟨l,hl,Vb⟩:=tl _ _ (F.jg _ _ hy);have gy:gn f l x=[(y:Int)]:=by
    refine qy (im.nd x l hl) Vb (by simpa using hy) λz hz hq=>?_;have zr:=im.rg x l hl z hz;obtain ⟨zn,rfl⟩:=Ys zr.1;have:=F.Ij N xa hy (by simpa using hq);rw [this]
   have R2:=R.step F N hx xb hy;have UX:=R2.IH F N;rw [Yr,YX] at UX;refine w_turn ?_;walk_at "";refine bg (aN.of r1) TF ?_;walk_at "";refine ⟨p,wy,as,L,TT,f,kvs,g,ks,x,l,rfl,gr.same e1,im,hn,W.same e1,hl,λt H' e' ht MQ=>?_⟩;rw [gy] at MQ;walk_at "";refine ⟨rb,t,_,_,rfl,rfl,e' _ _ r1,MQ,by rw [Pd,Pd,Pd];exact ZJ (aC (by simp;omega)),λpz hz=>?_⟩;walk_at "";refine ⟨⟨rd++[y],pz,rfl,(e1.trans e').trans (ah.upd hz),by rw [ae,Yl,Yl];rfl,R2⟩,?_⟩;show 100-lenOf (some (.ref pz)) _<100-lenOf (some (.ref rb)) H1;rw [fE ae,fE r1];simp only [Yr,Pd,YV,zac];omega
  ·have he:x=b:=by omega
   subst he;walk_at "";exact q rb rd H1 e1 r1 R hx
theorem hV:aQ ["orders", "one", "other", "found", "ways", "number", "ahead", "places"] ["orders", "one", "other"] (aG tZ):=by walk_at "n"
theorem D6 (D:Def K mg "roads" tZ ["orders", "one", "other"]) (T:Txt K mg Z) (xA:dA P w K mg base (cQ P w) "open_ways" 2 ["orders", "one", "other"] zU) (uW:dA P w K mg base (cQ P w) "doors_from" 1 ["ways", "start"] vX) (GZ:dA P w K mg base (cQ P w) "go_to" 1 ["ways", "ahead", "goal"] zX) (mW:dA P w K mg base (cQ P w) "gone_on" 1 ["orders", "ways", "place"] mG) (Ca:dA P w K mg base (cQ P w) "road_by" 2 ["orders", "ways", "start", "goal"] rY):dA P w K mg base (cQ P w) "roads" 3 ["orders", "one", "other"] vQ:=by
 refine D.dP hV (λvs H Q E h=>?_) (λfa dW A o s H vs Q E hr h=>?_)
 ·obtain ⟨p,as,L,a,b,l,rfl,_⟩:=h;rfl
 ·obtain ⟨p,as,L,a,b,l,rfl,gr,im,hn,hl,hb,AF,qr,qp⟩:=h;refine ⟨_,(ai (aH (i:=3) hV.nd rfl (by walk_at "L") (c9 af))
   (ai (cR (aM j7 (pv 2) (aR aK (pv 0) (pv 1) (λ_ _=>rfl)) (by with_unfolding_all rfl)) (ao (dw (gs YM Y3 Y4 df (pv 3) (aa (c9 (aa (pv 1) (aa (pv 2) af))) af)))) bq)
   (ai (aH (i:=4) hV.nd rfl (by walk_at "L") (aI xA hr bp (aa (pv 0) (aa (pv 1) (aa (pv 2) af)))))
   (ai (bG Yy rfl (sC rfl T.range (aa (aA aL (by rfl) T.len aV (aa (pv 3) af)) (aa az af))) (aF (i:=5) hV.nd rfl (by walk_at "L"))
   (ai (aH (i:=6) hV.nd rfl (by walk_at "L") (aI uW hr bp (aa (pv 4) (aa (bN (aa (pv 1) (aa (cg rfl T.g_OUT) af))) af))))
   (ai (cR (eU (eG (bB hr) (bN (aa (pv 2) (aa (cg rfl T.g_IN) af))) (pv 6))) (ai (iL (i:=7) hV.nd rfl (by walk_at "L") (tg:=["place"]) (fr:=[("ahead",6)]) (by walk_at "blk_ok") rfl (bh rfl T.range (aa (aA aL (by rfl) T.len aV (aa (pv 0) af)) af)) (λ_ _ _ _ _=>(aF (i:=0) (show [("place":Str),("ahead":Str)].Nodup by decide +kernel) rfl (by walk_at "L"))) (λ_ _ _ _ _=>(c5 (PW.pt (pw_and (eU (uy (bB hr) (bN (aa (pv 0) (aa (cg rfl T.g_IN) af))) (pv 1))) (pw_and1 (eU (eG (bB hr) (bN (aa (pv 0) (aa (cg rfl T.g_OUT) af))) (pv 1)))))))) (λ_ _ _ _ _=>(pv 0)))
   (ao (aS (bN (aa yL (aa (pv 7) af)))))) bq)
   (ao (dw (aI GZ hr bp (aa (pv 4) (aa (pv 6) (aa (bN (aa (pv 2) (aa (cg rfl T.g_IN) af))) af)))))))))
   (ai (dw (gs YM PySem.F.slot_list_extend PySem.F.type_list_extend sH (pv 3) (aa (bV (tg:=["first"]) (fr:=[("orders",0),("ways",4),("other",2),("one",1)]) (by walk_at "blk_ok") rfl (bL (aI mW hr bp (aa (pv 0) (aa (pv 4) (aa (pv 1) af))))) (λ_ _ _ _ _=>(aF (i:=0) (show [("first":Str),("orders":Str),("ways":Str),("other":Str),("one":Str)].Nodup by decide +kernel) rfl (by walk_at "L"))) (λ_ _ _ _ _=>c8) (λ_ _ _ _ _=>(aI Ca hr bp (aa (pv 1) (aa (pv 2) (aa (c9 (aa (pv 4) (aa (pv 0) af))) (aa (pv 3) af))))))) af)))
   (ao (aS (bN (aa yL (aa (pv 3) af)))))))))),?_⟩
  dsimp only [dS];have ha:a<L.length:=(X3.mp hl).1;obtain ⟨ra,l',V3,Ks,bK⟩:=gr.at (i:=a) ha;rw [hl] at Ks;injection Ks with Ks;subst Ks;have N:=Tw.Sg im ha hb AF;walk_at "";refine ⟨YK _,λfo Ly=>?_⟩;refine SL ?_
  try dsimp only
  refine jD (λσ' H'=>∃ (fs:List V),σ'=[some (.ref p),some (.int (a:Int)),some (.int (b:Int)),some (.ref fo),none,none,none,none]/\ah H H'/\H' fo=some (.lst fs)/\fs.length=if (b:Int)∈l then 1 else 0) ?_ ?_
  ·rintro σ' H1 ⟨fs,rfl,e1,f1,lf⟩;walk_at "";refine ⟨p,as,L,a,b,rfl,gr.same e1,im,hn,ha,hb,AF,λwy kvs g ks H2 e2 Om hg W2=>?_⟩;have gF:∀ d:aj,d.1<L.length->H (g d)=none:=λd hd=>e1.free (hg d hd);have Wd:∀ d:aj,d.1<L.length->g d≠fo:=λd hd z=>by have:=hg d hd;rw [z,f1] at this;cases this
   have f2:=e2 _ _ f1;have e2:=e1.trans e2;have XM:∀ d:aj,d.1<L.length->g d≠wy:=W2.off;walk_at "";refine cJ ?_;refine ⟨_,rfl,_,_,rfl,.inl ⟨_,aN.of f2,rfl⟩,(fs.length:Int),3,rfl,⟨Tk _,by rw [lf];split<;>omega,Tk _,Tk _⟩,?_⟩;have three:((3:Int)-(fs.length:Int)).toNat=if (b:Int)∈l then 2 else 3:=by rw [lf];split<;>rfl
   rw [three];refine bZ (λi σ H3=>∃ (f:Fw.Flow) (ks:aj->List aj) (v5 v6 v7:Option V),σ=[some (.ref p),some (.int (a:Int)),some (.int (b:Int)),some (.ref fo),some (.ref wy),v5,v6,v7]/\ah H H3/\H3 fo=some (.lst fs)/\ef H3 wy L.length (Res (Tw L a b) f) kvs g ks/\Fl L.length (Tw L a b) a b (i:Int) f)
    ⟨f0,ks,none,none,none,rfl,e2,f2,W2,Nr⟩ ?_ ?_
   ·rintro i σ H3 hi ⟨f,ks,v5,v6,v7,rfl,e3,f3,W3,F3⟩;walk_at "";intro q1 GP;have e4:ah H3 (upd H3 q1 (.tup [.int (a:Int),.int 1])):=ah.upd GP;have k4:upd H3 q1 (.tup [.int (a:Int),.int 1]) q1=some (.tup ((kd (a,true)).map kV)):=ae;generalize upd H3 q1 (.tup [.int (a:Int),.int 1])=H4 at e4 k4 ⊢;walk_at "";refine ⟨wy,q1,L.length,_,kvs,g,ks,(a,true),rfl,W3.same e4,ha,hn,k4,λt eW r H5 e5 ht A5 B5=>?_⟩;have OW:∀ d:aj,d.1<L.length->g d≠t:=λd hd z=>by have:=(W3.same e4).row d hd;rw [z,ht] at this;cases this
    walk_at "";intro q2 MW;have e6:ah H5 (upd H5 q2 (.tup [.int (b:Int),.int 0])):=ah.upd MW;have k6:upd H5 q2 (.tup [.int (b:Int),.int 0]) q2=some (.tup ((kd (b,false)).map kV)):=ae;generalize upd H5 q2 (.tup [.int (b:Int),.int 0])=H6 at e6 k6 ⊢;have A6:=A5.keep (H':=H6) ((e6 _ _ A5.top).trans A5.top.symm) λc xs h=>e6 _ _ h;have W6:=W3.same ((e4.trans e5).trans e6);have f6:=e6 _ _ (e5 _ _ (e4 _ _ f3));have e6:=((e3.trans e4).trans e5).trans e6;walk_at "";refine ⟨t,_,rfl,cP.t (k:=kd (b,false)) A6.top k6,?_⟩;rw [qh];walk_at "";refine iW (λSO=>?_) (λVI=>?_)
    ·walk_at "";refine bR ?_;refine ⟨_,rfl,_,_,rfl,.inl ⟨_,aN.of (e6 _ _ gr.top),rfl⟩,(L.length:Int),by rw [Pd,gr.len],Tk _,by omega,?_⟩;rw [Yu];intro acc a9;refine dz (λj σ' ys H7=>∃ v:Option V,σ'=[v,some (.ref t)]/\ys=(((List.range j).filter λp=>decide ((p,false)∈eW.map Prod.fst)&&!decide ((p,true)∈eW.map Prod.fst)).map λx:Nat=>(x:Int)).map V.int/\ah H6 H7/\H7 acc=some (.lst ys)) ⟨none,rfl,rfl,ah.upd a9,ae⟩ ?_ ?_
     ·rintro j σ' ys H7 hj ⟨v,rfl,rfl,e7,a7⟩;simp only [Zj];have lj:=BG (λp=>decide ((p,false)∈eW.map Prod.fst)&&!decide ((p,true)∈eW.map Prod.fst)) j;walk_at "";intro q3 Qi;have e8:ah H7 (upd H7 q3 (.tup [.int (j:Int),.int 0])):=ah.upd Qi;have k8:upd H7 q3 (.tup [.int (j:Int),.int 0]) q3=some (.tup ((kd (j,false)).map kV)):=ae;generalize upd H7 q3 (.tup [.int (j:Int),.int 0])=H8 at e8 k8 ⊢;walk_at "";refine ⟨t,_,rfl,cP.t (k:=kd (j,false)) (e8 _ _ (e7 _ _ A6.top)) k8,?_⟩;rw [qh];refine ⟨_,rfl,if2 (λh1=>?_) (λh1=>?_)⟩
      ·walk_at "";intro q4 Vs;have e9:ah H8 (upd H8 q4 (.tup [.int (j:Int),.int 1])):=ah.upd Vs;have k9:upd H8 q4 (.tup [.int (j:Int),.int 1]) q4=some (.tup ((kd (j,true)).map kV)):=ae;generalize upd H8 q4 (.tup [.int (j:Int),.int 1])=H9 at e9 k9 ⊢;walk_at "";refine ⟨t,_,rfl,cP.t (k:=kd (j,true)) (e9 _ _ (e8 _ _ (e7 _ _ A6.top))) k9,?_⟩;rw [qh];refine ⟨_,rfl,iW (λh2=>?_) (λh2=>?_)⟩
       ·walk_at "";refine ⟨e9 _ _ (e8 _ _ a7),by rw [Pd,Pd];exact aC (by omega),bQ hj ⟨_,rfl,?_,ah.fresh ((e7.trans e8).trans e9) a9,ae⟩⟩;rw [kO,Ya (by simp only [YC h1,Yw h2];rfl),Yl,Yl]
        rfl
       ·refine bQ hj ⟨_,rfl,?_,(e7.trans e8).trans e9,e9 _ _ (e8 _ _ a7)⟩;rw [kO,X6 (by simp only [YC h1,YC h2];decide),ZY]
      ·refine bQ hj ⟨_,rfl,?_,e7.trans e8,e8 _ _ a7⟩;rw [kO,X6 (by simp only [Yw h1];simp),ZY]
     ·rintro σ' ys H7 ⟨v,rfl,rfl,e7,a7⟩;walk_at "";intro tt MO;walk_at "";refine qp acc _ tt f i (λd=>decide (d∈eW.map Prod.fst)) _ ((e6.trans e7).trans (ah.upd MO)) ae (ah.upd MO _ _ a7) hi F3 (YC ?_) (Yw SO) (Yw ?_) (λd e hd hN=>?_) rfl
      ·exact Yc.mpr ⟨_,Yb B5.st,rfl⟩
      ·intro z;obtain ⟨⟨d,o⟩,h1,h2⟩:=Yc.mp z;dsimp only at h2;subst h2;cases o with
       | none=>have:=B5.root h1;injection this with this;exact AF this.symm
       | some r0=>
        obtain ⟨_,hN,o',qo⟩:=B5.up h1;obtain ⟨r',s'⟩:=r0;cases s' with
        | true=>exact hN.elim
        | false=>
         rcases dU.mp hN with y|y
         ·rw [y.1] at qo;exact SO (Yc.mpr ⟨_,qo,rfl⟩)
         ·rw [F3.JR N] at y;cases y
      ·exact YC (B5.BC d (ZX hd) (by simp) e hN)
    ·walk_at "";intro q5 Vr;have e7:ah H6 (upd H6 q5 (.tup [.int (b:Int),.int 0])):=ah.upd Vr;have k7:upd H6 q5 (.tup [.int (b:Int),.int 0]) q5=some (.tup ((kd (b,false)).map kV)):=ae;generalize upd H6 q5 (.tup [.int (b:Int),.int 0])=H7 at e7 k7 ⊢;have A7:=A6.keep (H':=H7) ((e7 _ _ A6.top).trans A6.top.symm) λc xs h=>e7 _ _ h;have VW:∃ o,((b,false),o)∈eW:=by obtain ⟨⟨d,o⟩,h1,h2⟩:=Yc.mp VI;exact ⟨o,by rw [<-h2];exact h1⟩
     walk_at "";refine ⟨wy,t,q5,L.length,Tw L a b,a,b,f,(i:Int),kvs,g,ks,eW,r,rfl,W6.same e7,A7,OW,k7,B5.toFan,VW,F3,N,hn,λf' ja H8 k8 W8 F8=>?_⟩;walk_at "";refine ⟨f',ja,_,_,_,rfl,λc o hc=>k8 c o (λd hd z=>by rw [z,gF d hd] at hc;cases hc) (e7 _ _ (e6 _ _ hc)),k8 fo _ (λd hd z=>Wd d hd z.symm) (e7 _ _ f6),W8,F8⟩
   ·rintro σ H3 ⟨f,ks,v5,v6,v7,rfl,e3,f3,W3,F3⟩;walk_at "";refine ⟨.inl ⟨rfl,_,aN.of f3⟩,?_⟩;walk_at "";refine bR ?_;refine Al ?_;walk_at "";refine ⟨p,wy,as,L,Tw L a b,f,kvs,g,ks,a,l,rfl,gr.same e3,im,hn,W3,hl,λt H4 e4 ht MQ=>?_⟩;refine ⟨t,rfl,⟨_,aN.of MQ⟩,λacc a9=>?_⟩;have lg:(gn f l a).length<=l.length:=Zy _ _;have ll:=lK im hl;refine cF (K:=K) (a:=t) (xs:=(gn f l a).map V.int) (λj σ' ys H5=>∃ v:Option V,σ'=[v,some (.ref p),some (.ref wy),some (.int (b:Int)),some (.int (a:Int))]/\ys.length=j/\ah H4 H5/\H5 acc=some (.lst ys))
     ⟨none,rfl,rfl,ah.upd a9,ae⟩ (by rintro j σ' ys H5 _ ⟨_,_,_,e,_⟩;exact aN.of (e _ _ MQ)) ?_ ?_
    ·rintro j x σ' ys H5 hx hj ⟨v,rfl,lj,e5,a5⟩;obtain ⟨y,hy,rfl⟩:∃ y,(gn f l a)[j]?=some y/\x=V.int y:=by
      rw [Yj] at hx;cases e:(gn f l a)[j]? with
      | none=>rw [e] at hx;cases hx
      | some z=>rw [e] at hx;exact ⟨z,rfl,(Yf hx).symm⟩
     have ym:=Zb.mp (Yb hy);obtain ⟨c,rfl⟩:=Ys (im.rg a l hl y ym.1).1;have fc:f.F a c=true:=by simpa using ym.2
     walk_at "";intro rl EE;have e6:ah H5 (upd H5 rl (.lst [.int (a:Int),.int (c:Int)])):=ah.upd EE;have k6:upd H5 rl (.lst [.int (a:Int),.int (c:Int)]) rl=some (.lst [.int (a:Int),.int (c:Int)]):=ae;generalize upd H5 rl (.lst [.int (a:Int),.int (c:Int)])=H6 at e6 k6 ⊢;have Nu:=(e4.trans e5).trans e6;walk_at "";refine ⟨p,wy,rl,as,L,Tw L a b,f,kvs,g,ks,a,b,c,_,rfl,gr.same (e3.trans Nu),im,hn,W3.same Nu,F3,N,λp q h=>h.1,k6,fc,λt7 rd H7 e7 h7 R7 _=>?_⟩;rw [Pd] at hj;refine ⟨e7 _ _ (e6 _ _ a5),by rw [lj];exact aC (by omega),bQ (by rw [Pd];exact hj) ⟨_,rfl,by rw [Yr,lj];rfl,ah.fresh ((e5.trans e6).trans e7) a9,ae⟩⟩
    ·rintro σ' ys H5 ⟨v,rfl,lj,e5,a5⟩;rw [Pd] at lj;have f5:=e5 _ _ (e4 _ _ f3);walk_at "";refine wA f5 a5 (by
                  have:fs.length<=1:=by rw [lf];split<;>omega
                  exact ZJ (aC (by omega))) ?_
     have e6:ah H (upd H5 fo (.lst (fs++ys))):=ah.fresh ((e3.trans e4).trans e5) Ly;have k6:upd H5 fo (.lst (fs++ys)) fo=some (.lst (fs++ys)):=ae;generalize upd H5 fo (.lst (fs++ys))=H6 at e6 k6 ⊢;walk_at "";intro tt MO;refine qr fo (fs++ys) tt f _ (e6.trans (ah.upd MO)) ae (ah.upd MO _ _ k6) ?_;have F3:=F3;split at F3
     ·rename_i h;rw [Ya h];exact F3
     ·rename_i h;rw [X6 h];exact F3
  ·intro TT hT;walk_at "";refine bg (aN.of (ah.upd Ly _ _ gr.top)) (gr.ix V3) ?_;refine BI (ns:=l) (aN.of (ah.upd Ly _ _ bK)) ?_;rw [X6 (by decide)];walk_at "";refine if2 (λOx=>?_) (λOx=>?_)
   ·walk_at "";refine ⟨.inl ⟨rfl,_,aN.of ae⟩,?_⟩;walk_at "";intro lb SR;walk_at "";refine dI (xs:=[]) ((ak (aP ae SR)).trans ae) (by rw [Yz];simp) ?_;refine hT _ _ ⟨[V.ref lb],rfl,ah.fresh ((ah.upd Ly).trans (ah.upd SR)) Ly,ae,?_⟩;rw [Ya Ox];rfl
   ·walk_at "";refine hT _ _ ⟨[],rfl,ah.upd Ly,ae,?_⟩;rw [X6 Ox];rfl
theorem f9:aQ ["orders", "off", "place", "order"] ["orders", "off"] (aG gP):=by walk_at "n"
theorem pK (D:Def K mg "few_without" gP ["orders", "off"]) (T:Txt K mg Z):dA P w K mg base (cQ P w) "few_without" 1 ["orders", "off"] Df:=by
 refine D.dP f9 (λvs H Q E h=>?_) (λf dW A o s H vs Q E hr h=>?_)
 ·obtain ⟨p,d,as,L,os,rfl,_⟩:=h;rfl
 ·obtain ⟨p,d,as,L,os,rfl,g,hd,im,hn,⟨y0,y1,y2,y3,y4⟩,q⟩:=h;refine ⟨_,(ai (bG Yy rfl (oo T.enumerate (aa (pv 0) af)) (mQ (n:=2) rfl (cK (aF (i:=2) f9.nd rfl (.inl rfl)) (cK (aF (i:=3) f9.nd rfl (.inl rfl)) iM)))
   (ao (cR (PW.pt (pw_and (eU (eG (bB hr) (pv 2) (pv 1))) (pw_and1 (aM Mn (aA aL (by rfl) T.len aV (aa (bV (tg:=["neighbour"]) (fr:=[("off",1)]) (by walk_at "blk_ok") rfl (bL (pv 3)) (λ_ _ _ _ _=>(aF (i:=0) (show [("neighbour":Str),("off":Str)].Nodup by decide +kernel) rfl (.inl rfl))) (λ_ _ _ _ _=>(c5 (eU (eG (bB hr) (pv 0) (pv 1))))) (λ_ _ _ _ _=>(pv 0))) af)) az (aW _))))) (ao (aS (pv 2))) bq)))
   (ao (aS DX))),?_⟩
  try dsimp only [dS]
  walk_at "";refine cJ ?_;refine ⟨_,rfl,p,rfl,⟨_,aN.of g.top⟩,l8 (K:=K) (a:=p) (xs:=as.map V.ref) (λi σ H1=>∃ v2 v3:Option V,σ=[some (.ref p),some (.ref d),v2,v3]/\ah H H1/\∀ z:Int,0<=z->z<i->z∉os->5<((tx L z).filter λz=>!decide (z∈os)).length)
   ⟨none,none,rfl,λ_ _ z=>z,λz z0 z1=>by omega⟩ (by rintro i σ H1 _ ⟨_,_,_,e1,_⟩;exact aN.of (e1 _ _ g.top)) ?_ ?_⟩
  ·rintro i x pr σ H1 hx ⟨v2,v3,rfl,e1,no⟩ AS;have hi:i<L.length:=by
    have:=(X3.mp hx).1;rw [Pd,g.len] at this;exact this
   obtain ⟨b,r,ha,hr,bK⟩:=g.at hi;obtain rfl:x=V.ref b:=by
    rw [Yj,ha] at hx;exact (Yf hx).symm
   have er:=bE hr;have rl:=lK im hr;have e2:ah H1 (upd H1 pr (.tup [.int i,.ref b])):=ah.upd AS;have qA:=e1.trans e2;refine iK (SqT.of ae) rfl ?_;generalize upd H1 pr (.tup [.int i,.ref b])=H2 at e2 qA ⊢;walk_at "";refine ⟨d,_,rfl,cP.k (k:=.inl (i:Int)) (qA _ _ hd),?_⟩;rw [gY];walk_at "";refine iW (λhm=>?_) (λhm=>?_)
   ·walk_at "";refine bR ?_;refine ⟨_,rfl,b,rfl,⟨_,aN.of (qA _ _ bK)⟩,λacc a9=>?_⟩;refine cF (K:=K) (a:=b) (xs:=r.map V.int) (λj σ' ys H3=>∃ v:Option V,σ'=[v,some (.ref d)]/\ys=(((r.take j).filter λz=>!decide (z∈os))).map V.int/\ah H2 H3/\H3 acc=some (.lst ys))
     ⟨none,rfl,rfl,ah.upd a9,ae⟩ (by rintro j σ' ys H3 _ ⟨_,_,_,e,_⟩;exact aN.of (e _ _ (qA _ _ bK))) ?_ ?_
    ·rintro j x σ' ys H3 hx hj ⟨v,rfl,rfl,e3,a3⟩;obtain ⟨y,hy,rfl⟩:∃ y,r[j]?=some y/\x=V.int y:=by
      rw [Yj] at hx;cases e:r[j]? with
      | none=>rw [e] at hx;cases hx
      | some z=>rw [e] at hx;exact ⟨z,rfl,(Yf hx).symm⟩
     have jl:=hj;rw [Pd] at jl;have fl:((r.take j).filter λz=>!decide (z∈os)).length<=j:=Y2 (Zy _ _) (by rw [YW];omega);walk_at "";refine ⟨d,_,rfl,cP.k (k:=.inl y) (e3 _ _ (qA _ _ hd)),?_⟩;rw [gY];walk_at "";refine iW (λhk=>?_) (λhk=>?_)
     ·walk_at "";refine ⟨a3,by rw [Pd];exact aC (by omega),bQ hj ⟨_,rfl,?_,ah.fresh e3 a9,ae⟩⟩;rw [eI hy,Ya (by simp [hk]),Yl]
      rfl
     ·refine bQ hj ⟨_,rfl,?_,e3,a3⟩;rw [eI hy,X6 (by simp [hk]),ZY]
    ·rintro σ' ys H3 ⟨v,rfl,rfl,e3,a3⟩;rw [Pd,Y6] at a3;walk_at "";refine ⟨_,_,rfl,.inl ⟨_,aN.of a3,rfl⟩,?_⟩;rw [Pd];walk_at "";refine if2 (λh5=>?_) (λh5=>?_)
     ·walk_at "";exact q (i:Int) (Tk _) (by omega) hm (by rw [er];omega) no _ (qA.trans e3)
     ·refine ⟨_,_,rfl,qA.trans e3,λz z0 z1 zm=>?_⟩;by_cases e:z=(i:Int)
      ·subst e;rw [er];omega
      ·exact no z z0 (by omega) zm
   ·walk_at "";refine ⟨_,_,rfl,qA,λz z0 z1 zm=>?_⟩;by_cases e:z=(i:Int)
    ·subst e;exact absurd hm zm
    ·exact no z z0 (by omega) zm
  ·rintro σ H1 ⟨v2,v3,rfl,e1,no⟩;rw [Pd,g.len] at no;have:=no y0 y1 y2 y3;omega
theorem Jl:aQ ["orders"] ["orders"] (aG Dm):=by walk_at "n"
theorem JO (D:Def K mg "few" Dm ["orders"]) (T:Txt K mg Z) (gU:dA P w K mg base (cQ P w) "few_without" 1 ["orders", "off"] Df):dA P w K mg base (cQ P w) "few" 2 ["orders"] Dg:=by
 refine D.dP Jl (λvs H Q E h=>?_) (λf dW A o s H vs Q E hr h=>?_)
 ·obtain ⟨p,as,L,rfl,_⟩:=h;rfl
 ·obtain ⟨p,as,L,rfl,g,pl,hn,h0,q⟩:=h;refine ⟨_,(ao (aS (aI gU hr bp (aa (pv 0) (aa pF af))))),?_⟩
  try dsimp only [dS]
  walk_at "";intro d hd;have e0:ah H (upd H d (.dK [])):=ah.upd hd;have d0:upd H d (.dK []) d=some (.dK (([]:UV).map λx=>((Sum.inl x:Key),V.bl true))):=ae;generalize upd H d (.dK [])=H0 at e0 d0 ⊢;walk_at "";refine ⟨p,d,as,L,[],rfl,g.same e0,d0,pl.map,hn,?_,λy y0 y1 _ y3 y4 H1 e1=>?_⟩
  ·exact pl.Nq [] (x:=0) (Tk _) (by omega) (by simp)
  ·rw [xI] at y3;exact q y y0 y1 y3 (λz z0 z1=>by have:=y4 z z0 z1 (by simp);rw [xI] at this;exact this) _ (e0.trans e1)
theorem lF:aQ ["orders", "off"] ["orders"] (aG ju):=by walk_at "n"
theorem uB (D:Def K mg "taken_off" ju ["orders"]) (T:Txt K mg Z) (gU:dA P w K mg base (cQ P w) "few_without" 1 ["orders", "off"] Df):dA P w K mg base (cQ P w) "taken_off" 2 ["orders"] vO:=by
 refine D.dP lF (λvs H Q E h=>?_) (λf dW A o s H vs Q E hr h=>?_)
 ·obtain ⟨p,as,L,rfl,_⟩:=h;rfl
 ·obtain ⟨p,as,L,rfl,g,pl,hn,q⟩:=h;refine ⟨_,(ai (aH (i:=1) lF.nd rfl (.inl rfl) pF)
   (ai (fv Yy (aM h9 (aA Cq (by rfl) T.len aV (aa (pv 1) af)) (aA aL (by rfl) T.len aV (aa (pv 0) af)) (aW _)) (ao (eD (bB hr) (pv 1) (aI gU hr bp (aa (pv 0) (aa (pv 1) af))) eQ rfl)))
   (ao (aS (sE (zC rfl) (by rfl) T.list Bj (aa (pv 1) af)))))),?_⟩
  try dsimp only [dS]
  walk_at "";intro d hd;have e0:ah H (upd H d (.dK [])):=ah.upd hd;have d0:upd H d (.dK []) d=some (.dK (([]:UV).map λx=>((Sum.inl x:Key),V.bl true))):=ae;generalize upd H d (.dK [])=H0 at e0 d0 ⊢;walk_at "";refine gG (λσ H1=>∃ os:UV,σ=[some (.ref p),some (.ref d)]/\ah H H1/\H1 d=some (.dK (os.map λx=>((Sum.inl x:Key),V.bl true)))/\Off L os)
   (λ_ H1=>match H1 d with|some (.dK kvs)=>L.length-kvs.length|_=>0) ⟨[],rfl,e0,d0,Off.nil⟩ ?_
  rintro σ H1 ⟨os,rfl,e1,d1,off⟩;have ol:=off.len;walk_at "";refine ⟨d,_,rfl,d1,?_⟩;rw [Pd];walk_at "";refine ⟨_,_,rfl,.inl ⟨_,aN.of (e1 _ _ g.top),rfl⟩,?_⟩;rw [Pd,g.len];walk_at "";refine if2 (λeK=>?_) (λeK=>?_)
  ·refine w_turn ?_;rw [d1];dsimp only;rw [Pd];obtain ⟨x,x0,x1,xo⟩:=off.more (by omega);walk_at "";refine ⟨p,d,as,L,os,rfl,g.same e1,d1,pl.map,hn,pl.Nq os x0 x1 xo,λy y0 y1 y2 y3 _ H2 e2=>?_⟩;walk_at "";refine ⟨d,_,rfl,i8.k (k:=.inl y) (e2 _ _ d1) (by rw [Pd];exact aC (by omega)),?_⟩;rw [wB y2];refine ⟨⟨os++[y],rfl,ah.fresh (e1.trans e2) hd,ae,off.add y0 y1 y2 y3⟩,?_⟩;rw [ae];dsimp only;rw [Pd,Yr,YX];omega
  ·walk_at "";refine ⟨d,_,rfl,d1,λt ht=>?_⟩;refine q t os _ (e1.trans (ah.upd ht)) ?_ off (by omega);rw [ae,zaE]
   rfl
theorem lH:aQ ["orders", "found", "place", "taken"] ["orders", "found", "place"] (aG jx):=by walk_at "n"
theorem uE (D:Def K mg "free_hues" jx ["orders", "found", "place"]) (T:Txt K mg Z):dA P w K mg base (cQ P w) "free_hues" 1 ["orders", "found", "place"] zY:=by
 refine D.dP lH (λvs H Q E h=>?_) (λf0 dW A o s H vs Q E hr h=>?_)
 ·obtain ⟨p,d,as,L,ks,f,v,rfl,_⟩:=h;rfl
 ·obtain ⟨p,d,as,L,ks,f,v,rfl,g,hd,im,hn,v0,v1,q⟩:=h;refine ⟨_,(ai (aH (i:=3) lH.nd rfl (by walk_at "L") (bV (tg:=["neighbour"]) (fr:=[("found",1)]) (by walk_at "blk_ok") rfl (bL (aR aK (pv 0) (pv 2) (λ_ _=>rfl))) (λ_ _ _ _ _=>(aF (i:=0) (show [("neighbour":Str),("found":Str)].Nodup by decide +kernel) rfl (by walk_at "L"))) (λ_ _ _ _ _=>(c5 (eU (uy (bB hr) (pv 0) (pv 1))))) (λ_ _ _ _ _=>(cZ (bB hr) (pv 1) (pv 0) (λ_ _=>rfl)))))
   (ao (aS (bV (tg:=["hue"]) (fr:=[("taken",3)]) (by walk_at "blk_ok") rfl (bh rfl T.range (aa az af)) (λ_ _ _ _ _=>(aF (i:=0) (show [("hue":Str),("taken":Str)].Nodup by decide +kernel) rfl (by walk_at "L"))) (λ_ _ _ _ _=>(c5 (aM (kE (K:=K) rfl) (pv 0) (pv 1) (by with_unfolding_all rfl)))) (λ_ _ _ _ _=>(pv 0)))))),?_⟩
  try dsimp only [dS]
  obtain ⟨i,rfl⟩:=Ys v0;obtain ⟨b,r,ha,qo,bK⟩:=g.at (i:=i) (by omega);have er:=bE qo;have rl:=lK im qo;walk_at "";refine bR ?_;refine ⟨_,rfl,_,rfl,bg (aN.of g.top) (g.ix ha) ⟨b,rfl,⟨_,aN.of bK⟩,λacc a9=>?_⟩⟩;refine cF (K:=K) (a:=b) (xs:=r.map V.int) (λj σ' ys H3=>∃ w:Option V,σ'=[w,some (.ref d)]/\ys=(((r.take j).filter λz=>decide (z∈ks)).map f).map V.int/\ah H H3/\H3 acc=some (.lst ys))
   ⟨none,rfl,rfl,ah.upd a9,ae⟩ (by rintro j σ' ys H3 _ ⟨_,_,_,e,_⟩;exact aN.of (e _ _ bK)) ?_ ?_
  ·rintro j x σ' ys H3 hx hj ⟨w,rfl,rfl,e3,a3⟩;obtain ⟨y,hy,rfl⟩:∃ y,r[j]?=some y/\x=V.int y:=by
    rw [Yj] at hx;cases e:r[j]? with
    | none=>rw [e] at hx;cases hx
    | some z=>rw [e] at hx;exact ⟨z,rfl,(Yf hx).symm⟩
   have jl:=hj;rw [Pd] at jl;have fl:((r.take j).filter λz=>decide (z∈ks)).length<=j:=Y2 (Zy _ _) (by rw [YW];omega);walk_at "";refine ⟨d,_,rfl,cP.k (k:=.inl y) (e3 _ _ hd),?_⟩;rw [zL];walk_at "";refine if2 (λhk=>?_) (λhk=>?_)
   ·walk_at "";refine dQ (SC rfl (SC rfl ⟨d,V.int (f y),rfl,?_,?_⟩))
    ·have:=cP.k (k:=.inl y) (e3 _ _ hd);rw [jk hk] at this;exact this
    refine ⟨a3,by rw [Pd,Pd];exact aC (by omega),bQ hj ⟨_,rfl,?_,ah.fresh e3 a9,ae⟩⟩;rw [eI hy,Ya (by simp [hk]),Yl,Yl]
    rfl
   ·refine bQ hj ⟨_,rfl,?_,e3,a3⟩;rw [eI hy,X6 (by simp [hk]),ZY]
  ·rintro σ' ys H3 ⟨w,rfl,rfl,e3,a3⟩;rw [Pd,Y6] at a3;have nr:(r.filter λz=>decide (z∈ks))=near L ks (i:Int):=by unfold near;rw [er]
   rw [nr] at a3;generalize (near L ks (i:Int)).map f=ts at a3 q;walk_at "";refine bR ?_;refine ⟨5,rfl,by decide,by decide,λLG B9=>?_⟩;refine dz (lo:=0) (n:=5) (λk σ' ys H4=>∃ w:Option V,σ'=[w,some (.ref acc)]/\ys=((bX k).filter λh=>!decide (h∈ts)).map V.int/\ah H3 H4/\H4 LG=some (.lst ys)) ⟨none,rfl,rfl,ah.upd B9,ae⟩ ?_ ?_
   ·rintro k σ' ys H4 hk ⟨w,rfl,rfl,e4,a4⟩;simp only [Zj];have fl:((bX k).filter λh=>!decide (h∈ts)).length<=k:=Y2 (Zy _ _) (by rw [b7];omega);walk_at "";refine BI (x:=(k:Int)) (aN.of (e4 _ _ a3)) ?_;rw [Ya rfl];walk_at "";refine iW (λhm=>?_) (λhm=>?_)
    ·walk_at "";refine ⟨a4,by rw [Pd];exact aC (by omega),bQ hk ⟨_,rfl,?_,ah.fresh e4 B9,ae⟩⟩;rw [gZ,Zx,Yl];simp [hm]
    ·refine bQ hk ⟨_,rfl,?_,e4,a4⟩;rw [gZ,Zx,Yl];simp [hm]
   ·rintro σ' ys H4 ⟨w,rfl,rfl,e4,a4⟩;exact q LG _ (e3.trans e4) a4
theorem nv:aQ ["orders", "found", "start", "pair", "shut"] ["orders", "found", "start", "pair"] (aG kN):=by walk_at "n"
theorem wM (D:Def K mg "two_hued" kN ["orders", "found", "start", "pair"]) (T:Txt K mg Z) (Cb:dA P w K mg base (cQ P w) "come_to" 1 ["orders", "start", "shut"] zZ):dA P w K mg base (cQ P w) "two_hued" 2 ["orders", "found", "start", "pair"] De:=by
 refine D.dP nv (λvs H Q E h=>?_) (λf0 dW A o s H vs Q E hr h=>?_)
 ·obtain ⟨p,d,pr,as,L,ks,f,one,a,b,rfl,_⟩:=h;rfl
 ·obtain ⟨p,d,pr,as,L,ks,f,one,a,b,rfl,g,hd,AS,im,hn,o0,o1,q⟩:=h;refine ⟨_,(ai (iL (i:=4) nv.nd rfl (.inl rfl) (tg:=["place"]) (fr:=[("pair",3),("found",1)]) (by walk_at "blk_ok") rfl (bh rfl T.range (aa (aA aL (by rfl) T.len aV (aa (pv 0) af)) af)) (λ_ _ _ _ _=>(aF (i:=0) (show [("place":Str),("pair":Str),("found":Str)].Nodup by decide +kernel) rfl (.inl rfl))) (λ_ _ _ _ _=>(c5 (aM (kE (K:=K) rfl) (DZ (bB hr) (pv 2) (pv 0) ⟨rfl,rfl,rfl,rfl⟩) (pv 1) (by with_unfolding_all rfl)))) (λ_ _ _ _ _=>(pv 0)))
   (ao (aS (aI Cb hr bp (aa (pv 0) (aa (pv 2) (aa (pv 4) af))))))),?_⟩
  try dsimp only [dS]
  walk_at "";refine bR ?_;refine ⟨_,rfl,_,_,rfl,.inl ⟨_,aN.of g.top,rfl⟩,(L.length:Int),by rw [Pd,g.len],Tk _,by omega,?_⟩;rw [Yu];intro acc a9;refine dz (λi σ' ys H1=>∃ w:Option V,σ'=[w,some (.ref pr),some (.ref d)]/\ys=((bX i).filter λx=>!decide (x∈ks/\(f x=a\/f x=b))).map V.int/\ah H H1/\H1 acc=some (.lst ys)) ⟨none,rfl,rfl,ah.upd a9,ae⟩ ?_ ?_
  ·rintro i σ' ys H1 hi ⟨w,rfl,rfl,e1,a1⟩;simp only [Zj];have fl:((bX i).filter λx=>!decide (x∈ks/\(f x=a\/f x=b))).length<=i:=Y2 (Zy _ _) (by rw [b7];omega);walk_at "";refine ⟨d,rfl,MH (e1 _ _ hd),?_⟩;walk_at "";refine ⟨_,cP.k (k:=.inl (i:Int)) (e1 _ _ hd),?_⟩;rw [CS];walk_at "";refine Mb (SqT.of (e1 _ _ AS)) ?_;have ec:((if (i:Int)∈ks then some (f (i:Int)) else none)=some a\/(if (i:Int)∈ks then some (f (i:Int)) else none)=some b)↔((i:Int)∈ks/\(f (i:Int)=a\/f (i:Int)=b)):=by
    by_cases hk:(i:Int)∈ks
    ·rw [Ya hk];simp [hk]
    ·rw [X6 hk];simp [hk]
   rw [decide_eq_decide.mpr ec];walk_at "";refine iW (λhm=>?_) (λhm=>?_)
   ·walk_at "";refine ⟨a1,by rw [Pd];exact aC (by omega),bQ hi ⟨_,rfl,?_,ah.fresh e1 a9,ae⟩⟩;rw [gZ,Zx,Yl,zaU (by rw [Yw hm];rfl)]
    rfl
   ·refine bQ hi ⟨_,rfl,?_,e1,a1⟩;rw [gZ,Zx,zaV (by rw [YC hm];simp),filter_nil,ZY]
  ·rintro σ' ys H1 ⟨w,rfl,rfl,e1,a1⟩;walk_at "";refine ⟨p,as,L,wd L ks f a b,one,acc,rfl,g.same e1,a1,hn,im,o0,o1,λt G H2 e2 tf t2 nd al=>?_⟩;exact q t G H2 (e1.trans e2) (e1.free tf) t2 nd al
theorem fZ:aQ ["orders", "found", "place", "near", "one", "other", "pair", "group", "member"] ["orders", "found", "place"] (aG uf):=by walk_at "n"
theorem D9 (D:Def K mg "freed" uf ["orders", "found", "place"]) (T:Txt K mg Z) (ze:dA P w K mg base (cQ P w) "two_hued" 2 ["orders", "found", "start", "pair"] De):dA P w K mg base (cQ P w) "freed" 3 ["orders", "found", "place"] vW:=by
 refine D.dP fZ (λvs H Q E h=>?_) (λf0 dW A o s H vs Q E hr h=>?_)
 ·obtain ⟨p,d,as,L,ks,f,v,rfl,_⟩:=h;rfl
 ·obtain ⟨p,d,as,L,ks,f,v,rfl,g,hd,pl,hn,xh,v0,v1,vk,h5,nf,q⟩:=h;refine ⟨_,(ai (iL (i:=3) fZ.nd rfl (.inl rfl) (tg:=["neighbour"]) (fr:=[("found",1)]) (by walk_at "blk_ok") rfl (bL (aR aK (pv 0) (pv 2) (λ_ _=>rfl))) (λ_ _ _ _ _=>(aF (i:=0) (show [("neighbour":Str),("found":Str)].Nodup by decide +kernel) rfl (.inl rfl))) (λ_ _ _ _ _=>(c5 (eU (uy (bB hr) (pv 0) (pv 1))))) (λ_ _ _ _ _=>(pv 0)))
   (ao (bG Yy rfl (bL (pv 3)) (aF (i:=4) fZ.nd rfl (.inl rfl))
   (ao (bG Yy rfl (bL (pv 3)) (aF (i:=5) fZ.nd rfl (.inl rfl))
   (ai (aH (i:=6) fZ.nd rfl (.inl rfl) (bN (aa (cZ (bB hr) (pv 1) (pv 4) (λ_ _=>rfl)) (aa (cZ (bB hr) (pv 1) (pv 5) (λ_ _=>rfl)) af))))
   (ai (aH (i:=7) fZ.nd rfl (.inl rfl) (aI ze hr bp (aa (pv 0) (aa (pv 1) (aa (pv 4) (aa (pv 6) af))))))
   (ao (cR (eU (eG (bB hr) (pv 5) (pv 7))) (ai (bG Yy rfl (Gn (pv 7)) (aF (i:=8) fZ.nd rfl (.inl rfl))
   (ao (eD (bB hr) (pv 1) (pv 8) (aO jF (aO cz (aR fL (pv 6) az (λ_ _=>rfl)) (aR fL (pv 6) az (λ_ _=>rfl))) (cZ (bB hr) (pv 1) (pv 8) (λ_ _=>rfl))) rfl)))
   (ao (Gh))) bq))))))))),?_⟩
  try dsimp only [dS]
  have im:=pl.map;obtain ⟨i,rfl⟩:=Ys v0;obtain ⟨b,r,ha,qo,bK⟩:=g.at (i:=i) (by omega);have er:=bE qo;have rl:=lK im qo;walk_at "";refine bR ?_;refine ⟨_,rfl,_,rfl,bg (aN.of g.top) (g.ix ha) ⟨b,rfl,⟨_,aN.of bK⟩,λacc a9=>?_⟩⟩;refine cF (K:=K) (a:=b) (xs:=r.map V.int) (λj σ' ys H3=>∃ w:Option V,σ'=[w,some (.ref d)]/\ys=((r.take j).filter λz=>decide (z∈ks)).map V.int/\ah H H3/\H3 acc=some (.lst ys))
   ⟨none,rfl,rfl,ah.upd a9,ae⟩ (by rintro j σ' ys H3 _ ⟨_,_,_,e,_⟩;exact aN.of (e _ _ bK)) ?_ ?_
  ·rintro j x σ' ys H3 hx hj ⟨w,rfl,rfl,e3,a3⟩;obtain ⟨y,hy,rfl⟩:∃ y,r[j]?=some y/\x=V.int y:=by
    rw [Yj] at hx;cases e:r[j]? with
    | none=>rw [e] at hx;cases hx
    | some z=>rw [e] at hx;exact ⟨z,rfl,(Yf hx).symm⟩
   have jl:=hj;rw [Pd] at jl;have fl:((r.take j).filter λz=>decide (z∈ks)).length<=j:=Y2 (Zy _ _) (by rw [YW];omega);walk_at "";refine ⟨d,_,rfl,cP.k (k:=.inl y) (e3 _ _ hd),?_⟩;rw [zL];walk_at "";refine if2 (λhk=>?_) (λhk=>?_)
   ·walk_at "";refine ⟨a3,by rw [Pd];exact aC (by omega),bQ hj ⟨_,rfl,?_,ah.fresh e3 a9,ae⟩⟩;rw [eI hy,Ya (by simp [hk]),Yl]
    rfl
   ·refine bQ hj ⟨_,rfl,?_,e3,a3⟩;rw [eI hy,X6 (by simp [hk]),ZY]
  ·rintro σ' ys H3 ⟨w,rfl,rfl,e3,a3⟩;rw [Pd,Y6] at a3;have nr:(r.filter λz=>decide (z∈ks))=near L ks (i:Int):=by unfold near;rw [er]
   rw [nr] at a3;have qN:∀ x∈near L ks (i:Int),x∈ks:=λx hx=>(jI.mp hx).2;walk_at "";refine cJ ?_;refine ⟨_,rfl,acc,rfl,⟨_,aN.of a3⟩,fF (K:=K) (a:=acc) (xs:=(near L ks (i:Int)).map V.int) (λm σ H4=>∃ v4 v5 v6 v7 v8:Option V,σ=[some (.ref p),some (.ref d),some (.int (i:Int)),some (.ref acc),v4,v5,v6,v7,v8]/\ah H3 H4/\∀ x∈(near L ks (i:Int)).take m,∀ y∈near L ks (i:Int),Cy L ks f x y y)
    ⟨none,none,none,none,none,rfl,λ_ _ z=>z,λx hx=>by simp at hx⟩ (by rintro m σ H4 _ ⟨_,_,_,_,_,_,e,_⟩;exact aN.of (e _ _ a3)) ?_ ?_⟩
   ·rintro m x σ H4 hx ⟨v4,v5,v6,v7,v8,rfl,e4,link⟩;obtain ⟨one,MX,rfl⟩:∃ y,(near L ks (i:Int))[m]?=some y/\x=V.int y:=by
     rw [Yj] at hx;cases e:(near L ks (i:Int))[m]? with
     | none=>rw [e] at hx;cases hx
     | some z=>rw [e] at hx;exact ⟨z,rfl,(Yf hx).symm⟩
    have m1:=Yb MX;have k1:=qN one m1;walk_at "";refine cJ ?_;refine ⟨_,rfl,acc,rfl,⟨_,aN.of (e4 _ _ a3)⟩,fF (K:=K) (a:=acc) (xs:=(near L ks (i:Int)).map V.int) (λm2 σ H5=>∃ v5 v6 v7 v8:Option V,σ=[some (.ref p),some (.ref d),some (.int (i:Int)),some (.ref acc),some (.int one),v5,v6,v7,v8]/\ah H3 H5/\∀ y∈(near L ks (i:Int)).take m2,Cy L ks f one y y)
     ⟨_,_,_,_,rfl,e4,λx hx=>by simp at hx⟩ (by rintro m σ H4 _ ⟨_,_,_,_,_,e,_⟩;exact aN.of (e _ _ a3)) ?_ ?_⟩
    ·rintro m2 x σ H5 hx ⟨w5,w6,w7,w8,rfl,e5,link2⟩;obtain ⟨other,EF,rfl⟩:∃ y,(near L ks (i:Int))[m2]?=some y/\x=V.int y:=by
      rw [Yj] at hx;cases e:(near L ks (i:Int))[m2]? with
      | none=>rw [e] at hx;cases hx
      | some z=>rw [e] at hx;exact ⟨z,rfl,(Yf hx).symm⟩
     have Sq:=Yb EF;have k2:=qN other Sq;have Nv:=e3.trans e5;have d5:=Nv _ _ hd;walk_at "";refine dQ (SC rfl (SC rfl ⟨d,V.int (f one),rfl,?_,?_⟩))
     ·have:=cP.k (k:=.inl one) d5;rw [jk k1] at this;exact this
     walk_at "";refine dQ (SC rfl (SC rfl ⟨d,V.int (f other),rfl,?_,?_⟩))
     ·have:=cP.k (k:=.inl other) d5;rw [jk k2] at this;exact this
     walk_at "";refine λpr AS=>?_;have e6:ah H5 (upd H5 pr (.tup [.int (f one),.int (f other)])):=ah.upd AS;have p6:upd H5 pr (.tup [.int (f one),.int (f other)]) pr=some (.tup [.int (f one),.int (f other)]):=ae;generalize upd H5 pr (.tup [.int (f one),.int (f other)])=H6 at e6 p6 ⊢;have OE:=Nv.trans e6;have ro:=xh.rg one k1;walk_at "";refine ⟨p,d,pr,as,L,ks,f,one,f one,f other,rfl,g.same OE,OE _ _ hd,p6,im,hn,ro.1,ro.2,λt G H7 e7 tf t7 Wc OD=>?_⟩;have Tr:=OE.trans e7;have tH:H t=none:=OE.free tf;have td:t≠d:=λz=>by rw [z,hd] at tH;cases tH
     have tp:t≠pr:=λz=>by rw [z,p6] at tf;cases tf
     walk_at "";refine ⟨t,_,rfl,cP.k (k:=.inl other) t7,?_⟩;rw [gY];walk_at "";refine iW (λVx=>?_) (λPX=>?_)
     ·have pd:pr≠d:=λz=>by rw [z,d5] at AS;cases AS
      walk_at "";refine cJ ?_;refine F9 (SC rfl ⟨t,_,rfl,t7,λo=>?_⟩);refine ES (d:=t) (o:=o) (kvs:=G.map λx=>((Sum.inl x:Key),V.bl true)) (λn σ H8=>∃ v8:Option V,σ=[some (.ref p),some (.ref d),some (.int (i:Int)),some (.ref acc),some (.int one),some (.int other),some (.ref pr),some (.ref t),v8]/\(∀ b u,b≠d->H b=some u->H8 b=some u)/\H8 t=some (.fN o (.dK (G.map λx=>((Sum.inl x:Key),V.bl true))))/\H8 pr=some (.tup [.int (f one),.int (f other)])/\H8 d=some (.dK (kF ks (hJ f (f one) (f other) (G.take n)))))
       ⟨_,rfl,λb u _ hb=>?_,ae,?_,?_⟩ (by rintro n σ H8 _ ⟨_,_,_,z,_⟩;exact z) ?_ ?_
      ·rw [ak (λz=>by rw [z,tH] at hb;cases hb)];exact Tr _ _ hb
      ·rw [ak (YU tp)];exact e7 _ _ p6
      ·rw [ak (YU td),Tr _ _ hd];rw [show kF ks (hJ f (f one) (f other) (G.take 0))=kF ks f from Ez λx _=>X6 (by simp)]
      ·rintro n k u σ H8 hk ⟨w8,rfl,QL,t8,p8,d8⟩;obtain ⟨y,hy,rfl⟩:∃ y,G[n]?=some y/\k=Sum.inl y:=by
        rw [Yj] at hk;cases e:G[n]? with
        | none=>rw [e] at hk;cases hk
        | some z=>rw [e] at hk;exact ⟨z,rfl,(Yt Prod.fst (Yf hk)).symm⟩
       have yG:=Yb hy;have yk:=Cy.in (other:=other) im xh k1 ((OD y).mp yG);have yn:y∉G.take n:=yR Wc hy;have tv:hJ f (f one) (f other) (G.take n) y=f y:=X6 yn;have XB:SqT K H8 pr [.int (f one),.int (f other)]:=SqT.of p8;have UY:ks.length<=60:=Y2 (cD xh.nd xh.rg) hn;walk_at "";refine dQ (SC rfl (SC rfl ⟨d,V.int (f y),rfl,?_,?_⟩))
       ·have:=cP.k (k:=.inl y) d8;rw [jk yk.1,tv] at this;exact this
       walk_at "";refine ⟨d,_,rfl,i8.k (k:=.inl y) d8 (by rw [Ey];exact aC (by omega)),?_⟩;rw [DP yk.1];refine ⟨_,rfl,λb u hb hh=>by rw [ak hb];exact QL b u hb hh,by rw [ak td];exact t8,by rw [ak pd];exact p8,?_⟩;rw [ae,Ez λx hx=>?_];by_cases e:x=y
       ·subst e;rw [show nZ (hJ f (f one) (f other) (G.take n)) x (f one+f other-f x) x=f one+f other-f x from Ya rfl];exact (Ya (by rw [zay,hy];simp)).symm
       ·rw [show nZ (hJ f (f one) (f other) (G.take n)) y (f one+f other-f y) x=hJ f (f one) (f other) (G.take n) x from X6 e];unfold hJ;have:x∈G.take (n+1)↔x∈G.take n:=by rw [zay,hy];simp [e]
        by_cases z:x∈G.take n
        ·rw [Ya z,Ya (this.mpr z)]
        ·rw [X6 z,X6 λw=>z (this.mp w)]
      ·rintro σ H8 ⟨w8,rfl,QL,t8,p8,d8⟩;rw [Pd,Y6] at d8;walk_at "";exact q _ (f one) H8 QL d8 (xh.turn im k1 k2 OD) (xh.freed im h5 nf m1 Sq OD Vx)
     ·walk_at "";refine ⟨_,_,_,_,rfl,(e5.trans e6).trans e7,λy hy=>?_⟩;rw [zay,EF] at hy;rcases Ye.mp hy with z|z
      ·exact link2 y z
      ·have:y=other:=by simpa using z
       rw [this];exact (OD other).mp PX
    ·rintro σ H5 ⟨w5,w6,w7,w8,rfl,e5,link2⟩;rw [Pd,Y6] at link2;refine ⟨_,_,_,_,_,rfl,e5,λx hx=>?_⟩;rw [zay,MX] at hx;rcases Ye.mp hx with z|z
     ·exact link x z
     ·have:x=one:=by simpa using z
      rw [this];exact link2
   ·rintro σ H4 ⟨v4,v5,v6,v7,v8,rfl,e4,link⟩;rw [Pd,Y6] at link;exact (pl.ME xh v0 v1 vk h5 nf link).elim
theorem tW:aQ ["orders", "found", "place"] ["orders"] (aG yA):=by walk_at "n"
theorem Gw (D:Def K mg "hues" yA ["orders"]) (T:Txt K mg Z) (xw:dA P w K mg base (cQ P w) "taken_off" 2 ["orders"] vO) (nG:dA P w K mg base (cQ P w) "free_hues" 1 ["orders", "found", "place"] zY) (G0:dA P w K mg base (cQ P w) "freed" 3 ["orders", "found", "place"] vW):dA P w K mg base (cQ P w) "hues" 4 ["orders"] zW:=by
 refine D.dP tW (λvs H Q E h=>?_) (λf0 dW A o s H vs Q E hr h=>?_)
 ·obtain ⟨p,as,L,rfl,_⟩:=h;rfl
 ·obtain ⟨p,as,L,rfl,g,pl,hn,q⟩:=h;refine ⟨_,(ai (aH (i:=1) tW.nd rfl (by walk_at "L") pF)
   (ai (bG Yy rfl (JE T.reversed (aI xw hr bp (aa (pv 0) af))) (aF (i:=2) tW.nd rfl (by walk_at "L"))
   (ai (cR (aM ie (aA aL (by rfl) T.len aV (aa (aI nG hr bp (aa (pv 0) (aa (pv 1) (aa (pv 2) af)))) af)) az (aW _)) (ao (dw (aI G0 hr bp (aa (pv 0) (aa (pv 1) (aa (pv 2) af)))))) bq)
   (ao (eD (bB hr) (pv 1) (pv 2) (aR aK (aI nG hr bp (aa (pv 0) (aa (pv 1) (aa (pv 2) af)))) az (λ_ _=>rfl)) rfl))))
   (ao (aS (bV (tg:=["place"]) (fr:=[("found",1)]) (by walk_at "blk_ok") rfl (bh rfl T.range (aa (aA aL (by rfl) T.len aV (aa (pv 0) af)) af)) (λ_ _ _ _ _=>(aF (i:=0) (show [("place":Str),("found":Str)].Nodup by decide +kernel) rfl (by walk_at "L"))) (λ_ _ _ _ _=>c8) (λ_ _ _ _ _=>(cZ (bB hr) (pv 1) (pv 0) (λ_ _=>rfl)))))))),?_⟩
  try dsimp only [dS]
  have im:=pl.map;walk_at "";intro d hd;have e0:ah H (upd H d (.dK [])):=ah.upd hd;have d0:upd H d (.dK []) d=some (.dK (kF [] λ_=>0)):=ae;generalize upd H d (.dK [])=H0 at e0 d0 ⊢;walk_at "";refine cJ ?_;refine ⟨_,rfl,p,as,L,rfl,g.same e0,pl,hn,λt os H1 e1 t1 off ol=>?_⟩;have Wq:=e0.trans e1;refine ⟨t,_,rfl,aN.of t1,G4 (K:=K) (a:=t) (xs:=os.map V.int) (λi σ H2=>∃ (f:Int->Int) (v2:Option V),σ=[some (.ref p),some (.ref d),v2]/\ah H H2/\H2 t=some (.lst (os.map V.int))/\H2 d=some (.dK (kF (os.reverse.take i) f))/\zG L (os.reverse.take i) f)
   ⟨λ_=>0,none,rfl,Wq,t1,by rw [take_zero];exact e1 _ _ d0,⟨by simp,by simp,by simp,by simp⟩⟩ (by rintro i σ H2 _ ⟨_,_,_,_,z,_⟩;exact aN.of z) ?_ ?_⟩
  ·rintro i x σ H2 hx ⟨f,v2,rfl,e2,t2,d2,xh⟩;obtain ⟨v,hv,rfl⟩:∃ y,os.reverse[i]?=some y/\x=V.int y:=by
    rw [<-map_reverse,Yj] at hx;cases e:os.reverse[i]? with
    | none=>rw [e] at hx;cases hx
    | some z=>rw [e] at hx;exact ⟨z,rfl,(Yf hx).symm⟩
   obtain ⟨vk,⟨v0,v1⟩,h5⟩:=off.near im ol hv;have il:i<L.length:=by
    have:=(X3.mp hv).1;rw [length_reverse] at this;omega
   have ek:os.reverse.take (i+1)=os.reverse.take i++[v]:=by rw [zay,hv];rfl
   have kl:(os.reverse.take i).length<=i:=by rw [YW];omega
   rw [ek];generalize os.reverse.take i=ks at d2 xh vk h5 kl;have td:t≠d:=λz=>by rw [z,d2] at t2;cases t2
   refine SL ?_
   try dsimp only
   refine jD (λσ' H'=>∃ (f':Int->Int) (c:Int),σ'=[some (.ref p),some (.ref d),some (.int v)]/\(∀ b o,b≠d->H2 b=some o->H' b=some o)/\H' d=some (.dK (kF ks f'))/\zG L ks f'/\c∈eR ((near L ks v).map f')) ?_ ?_
   ·rintro σ' H3 ⟨f',c,rfl,FD,d3,P6,hc⟩;have e3:ah H H3:=λb o hb=>FD b o (λz=>by rw [z,hd] at hb;cases hb) (e2 _ _ hb);have t3:=FD t _ td t2;walk_at "";refine ⟨p,d,as,L,ks,f',v,rfl,g.same e3,d3,im,hn,v0,v1,λu H4 e4 u4=>?_⟩;obtain ⟨h0,hs,eh⟩:∃ h0 hs,eR ((near L ks v).map f')=h0::hs:=by
     cases z:eR ((near L ks v).map f') with
     | nil=>rw [z] at hc;cases hc
     | cons a l=>exact ⟨a,l,rfl⟩
    have hm:h0∈eR ((near L ks v).map f'):=by rw [eh];exact Yg
    rw [eh] at u4;walk_at "";refine bg (aN.of u4) (show mq ((h0::hs).map V.int) ((0:Nat):Int)=some (V.int h0) from fg (by simp)) ?_;walk_at "";refine ⟨d,_,rfl,i8.k (k:=.inl v) (e4 _ _ d3) (by rw [Ey];exact aC (by omega)),?_⟩;rw [DS vk];exact ⟨nZ f' v h0,_,rfl,ah.fresh (e3.trans e4) hd,by rw [ak td];exact e4 _ _ t3,ae,P6.add im v0 v1 vk hm⟩
   ·intro T1 hT;walk_at "";refine ⟨p,d,as,L,ks,f,v,rfl,g.same e2,d2,im,hn,v0,v1,λu H3 e3 u3=>?_⟩;walk_at "";refine ⟨_,_,rfl,.inl ⟨_,aN.of u3,rfl⟩,?_⟩;rw [Pd];walk_at "";refine if2 (λh0=>?_) (λh0=>?_)
    ·have nf:eR ((near L ks v).map f)=[]:=List.length_eq_zero_iff.mp (by omega);walk_at "";refine ⟨p,d,as,L,ks,f,v,rfl,g.same (e2.trans e3),e3 _ _ d2,pl,hn,xh,v0,v1,vk,h5,nf,λf' c H4 KI d4 P5 hc=>?_⟩;exact hT _ _ ⟨f',c,rfl,λb o hb hh=>KI b o hb (e3 _ _ hh),d4,P5,hc⟩
    ·obtain ⟨c,hc⟩:∃ c,c∈eR ((near L ks v).map f):=by
      cases z:eR ((near L ks v).map f) with
      | nil=>rw [z] at h0;exact absurd rfl h0
      | cons a l=>exact ⟨a,Yg⟩
     exact hT _ _ ⟨f,c,rfl,λb o _ hh=>e3 _ _ hh,e3 _ _ d2,xh,hc⟩
  ·rintro σ H2 ⟨f,v2,rfl,e2,t2,d2,xh⟩;rw [Pd,zai (by rw [length_reverse];omega)] at d2 xh;have Og:oA L.length os.reverse:=⟨by rw [length_reverse];exact ol,xh.nd,xh.rg⟩;walk_at "";refine bR ?_;refine ⟨_,rfl,_,_,rfl,.inl ⟨_,aN.of (e2 _ _ g.top),rfl⟩,(L.length:Int),by rw [Pd,g.len],Tk _,by omega,?_⟩;rw [Yu];intro acc a9;refine dz (λi σ' ys H3=>∃ w:Option V,σ'=[w,some (.ref d)]/\ys=((bX i).map f).map V.int/\ah H2 H3/\H3 acc=some (.lst ys)) ⟨none,rfl,rfl,ah.upd a9,ae⟩ ?_ ?_
   ·rintro i σ' ys H3 hi ⟨w,rfl,rfl,e3,a3⟩;simp only [Zj];have U6:(i:Int)∈os.reverse:=Og.all (Tk _) (by omega);walk_at "";refine dQ (SC rfl (SC rfl ⟨d,V.int (f (i:Int)),rfl,?_,?_⟩))
    ·have:=cP.k (k:=.inl (i:Int)) (e3 _ _ d2);rw [jk U6] at this;exact this
    refine ⟨a3,by rw [Pd,Pd,b7];exact aC (by omega),bQ hi ⟨_,rfl,?_,ah.fresh e3 a9,ae⟩⟩;rw [gZ,Yl,Yl]
    rfl
   ·rintro σ' ys H3 ⟨w,rfl,rfl,e3,a3⟩;refine q acc f H3 (e2.trans e3) (e2.free a9) a3 (λx x0 x1=>xh.hu x (Og.all x0 x1)) λx x0 x1 y hy=>?_;have yb:=cI im x0 x1 hy;exact xh.ap x (Og.all x0 x1) y hy (Og.all yb.1 yb.2.1)
theorem qR:aQ ["_law_found"] ["_law_found"] (aG iF):=by walk_at "n"
theorem qY (D:Def K mg "_law_whole" iF ["_law_found"]) (T:Txt K mg Z):dA P w K mg base (cQ P w) "_law_whole" 1 ["_law_found"] oH:=by
 refine D.dP qR (λvs H Q E h=>?_) (λf dW A o s H vs Q E hr h=>?_)
 ·obtain ⟨n,rfl,_⟩:=h;rfl
 ·obtain ⟨n,rfl,q⟩:=h;refine ⟨_,(ao (aS (JJ (aA ni (by rfl) T.isinstance gW (aa (pv 0) (aa (ux (v:=.ty "int") rfl T.int K3 rfl) af))) (JG (JH (aA ni (by rfl) T.isinstance gW (aa (pv 0) (aa (ux (v:=.ty "bool") rfl T.bool Hh rfl) af)))))))),?_⟩
  try dsimp only [dS]
  walk_at "";refine yF (.int n) (.ty _) GH ?_;walk_at "";refine yF (.int n) (.ty _) J1 ?_;walk_at "";exact q
theorem lJ:aQ ["_law_orders_here", "_law_found", "_law_place"] ["_law_orders_here", "_law_found"] (aG jA):=by walk_at "n"
theorem uH (D:Def K mg "_law_hues" jA ["_law_orders_here", "_law_found"]) (T:Txt K mg Z) (iX:dA P w K mg base (cQ P w) "_law_whole" 1 ["_law_found"] oH):dA P w K mg base (cQ P w) "_law_hues" 2 ["_law_orders_here", "_law_found"] vT:=by
 refine D.dP lJ (λvs H Q E h=>?_) (λf0 dW A o s H vs Q E hr h=>?_)
 ·obtain ⟨p,t,as,L,f,rfl,_⟩:=h;rfl
 ·obtain ⟨p,t,as,L,f,rfl,g,im,hn,ht,hf,ap,q⟩:=h;refine ⟨_,(ai (cR (PW.pt (pw_or (um (uk (aA ni (by rfl) T.isinstance gW (aa (pv 1) (aa (ux (v:=.ty "list") rfl T.list Bj rfl) af))))) (pw_or1 (aM pH (aA aL (by rfl) T.len aV (aa (pv 1) af)) (aA aL (by rfl) T.len aV (aa (pv 0) af)) (aW _))))) (ao (aS eQ)) bq)
   (ai (bG Yy rfl (bh rfl T.range (aa (aA aL (by rfl) T.len aV (aa (pv 0) af)) af)) (aF (i:=2) lJ.nd rfl (.inl rfl))
   (ai (cR (PW.pt (pw_or (um (uk (aI iX hr bp (aa (aR aK (pv 1) (pv 2) (λ_ _=>rfl)) af)))) (pw_or (aM h9 (aR aK (pv 1) (pv 2) (λ_ _=>rfl)) az (aW _)) (pw_or1 (aM pI (aR aK (pv 1) (pv 2) (λ_ _=>rfl)) az (aW _)))))) (ao (aS eQ)) bq)
   (ao (cR (aM j7 (aR aK (pv 1) (pv 2) (λ_ _=>rfl)) (bV (tg:=["_law_other"]) (fr:=[("_law_found",1)]) (by walk_at "blk_ok") rfl (bL (aR aK (pv 0) (pv 2) (λ_ _=>rfl))) (λ_ _ _ _ _=>(aF (i:=0) (show [("_law_other":Str),("_law_found":Str)].Nodup by decide +kernel) rfl (.inl rfl))) (λ_ _ _ _ _=>c8) (λ_ _ _ _ _=>(aR (lZ (K:=K) rfl) (pv 1) (pv 0) (λ_ _=>rfl)))) (by with_unfolding_all rfl)) (ao (aS eQ)) bq))))
   (ao (aS eQ)))),?_⟩
  try dsimp only [dS]
  have ix:∀ {H1:Hp} {x:Int},ah H H1->0<=x->x<L.length->∃ hx:aN K H1 t (((bX L.length).map f).map V.int),mq (((bX L.length).map f).map V.int) x=some (V.int (f x)):=λ{H1 x} e x0 x1=>by
   obtain ⟨k,rfl⟩:=Ys x0;refine ⟨aN.of (e _ _ ht),fg ?_⟩;rw [Yj,Yj,zM (by omega)]
   rfl
  walk_at "";refine yF (.lst ht) (.ty _) JZ ?_;walk_at "";refine ⟨_,_,rfl,.inl ⟨_,aN.of ht,rfl⟩,?_⟩;rw [Pd,Pd,b7];walk_at "";refine ⟨_,_,rfl,.inl ⟨_,aN.of g.top,rfl⟩,?_⟩;rw [Pd,g.len];walk_at "";rw [X6 (by simp)];walk_at "";refine cJ ?_;refine ⟨_,rfl,_,_,rfl,.inl ⟨_,aN.of g.top,rfl⟩,(L.length:Int),by rw [Pd,g.len],Tk _,by omega,?_⟩;rw [Yu];refine bZ (λi σ H1=>∃ v2:Option V,σ=[some (.ref p),some (.ref t),v2]/\ah H H1) ⟨none,rfl,λ_ _ z=>z⟩ ?_ ?_
  ·rintro i σ H1 hi ⟨v2,rfl,e1⟩;simp only [Zj];obtain ⟨b,r,ha,qo,bK⟩:=g.at hi;have er:=bE qo;obtain ⟨sq,at_⟩:=ix (x:=(i:Int)) e1 (Tk _) (by omega);have hu:=hf (i:Int) (Tk _) (by omega);walk_at "";refine bg sq at_ ?_;walk_at "";refine ⟨_,rfl,?_⟩;walk_at "";refine bg sq at_ ?_;walk_at "";rw [X6 (by simp;omega)];walk_at "";refine bg sq at_ ?_;walk_at "";rw [X6 (by simp;omega)];walk_at "";refine bg sq at_ ?_;refine bR ?_;refine ST (SC rfl (SC rfl (bg (aN.of (e1 _ _ g.top)) (g.ix ha) ⟨b,rfl,⟨_,aN.of (e1 _ _ bK)⟩,λacc a9=>?_⟩)));refine cF (K:=K) (a:=b) (xs:=r.map V.int) (λj σ' ys H2=>∃ v:Option V,σ'=[v,some (.ref t)]/\ys=((r.take j).map f).map V.int/\ah H1 H2/\H2 acc=some (.lst ys))
    ⟨none,rfl,rfl,ah.upd a9,ae⟩ (by rintro j σ' ys H2 _ ⟨_,_,_,e,_⟩;exact aN.of (e _ _ (e1 _ _ bK))) ?_ ?_
   ·rintro j x σ' ys H2 hx hj ⟨v,rfl,rfl,e2,h2⟩;rw [Pd] at hj;obtain rfl:x=V.int r[j]:=by
     rw [Yj,X4 hj] at hx;exact (Yf hx).symm
    have ym:r[j]∈r:=Zu _;have yb:=im.rg _ _ qo r[j] ym;obtain ⟨T4,at2⟩:=ix (x:=r[j]) (e1.trans e2) yb.1 yb.2.1;have Jt:=cD (im.nd _ _ qo) (n:=L.length) λy hy=>⟨(im.rg _ _ qo y hy).1,(im.rg _ _ qo y hy).2.1⟩;refine SL (kP (GN (ST (SC rfl (SC rfl (bg T4 at2 ?_))))));refine ⟨h2,by rw [Pd,Pd,YW];exact aC (by omega),bQ (by rw [Pd];exact hj) ⟨_,rfl,?_,ah.fresh e2 a9,ae⟩⟩;rw [take_snoc (X4 hj),Yl,Yl]
    rfl
   ·rintro σ' ys H2 ⟨v,rfl,rfl,e2,h2⟩;rw [Pd,Y6] at h2;refine BI (ns:=r.map f) (aN.of h2) ?_;have no:f (i:Int)∉r.map f:=λz=>by
     obtain ⟨y,hy,e⟩:=Yc.mp z;exact ap (i:Int) (Tk _) (by omega) y (by rw [er];exact hy) e
    rw [X6 Yo,Yw no];walk_at "";exact ⟨_,rfl,e1.trans e2⟩
  ·rintro σ H1 ⟨v2,rfl,e1⟩;walk_at "";exact q _ e1
theorem gN:aQ ["_law_number", "_law_base_here", "_law_place", "_law_k"] ["_law_number", "_law_base_here", "_law_place"] (aG iI):=by walk_at "n"
theorem rj (D:Def K mg "_law_digit" iI ["_law_number", "_law_base_here", "_law_place"]) (T:Txt K mg Z):dA P w K mg base (cQ P w) "_law_digit" 1 ["_law_number", "_law_base_here", "_law_place"] lD:=by
 refine D.dP gN (λvs H Q E h=>?_) (λf dW A o s H vs Q E hr h=>?_)
 ·obtain ⟨n,b,p,rfl,_⟩:=h;rfl
 ·obtain ⟨n,b,p,rfl,n0,n1,b2,b9,p0,p9,q⟩:=h;refine ⟨_,(ai (bG Yy rfl (bh rfl T.range (aa (pv 2) af)) (aF (i:=3) gN.nd rfl (.inl rfl))
   (ao (aH (i:=0) gN.nd rfl (.inl rfl) (aO kW (pv 0) (pv 1)))))
   (ao (aS (aO cN (pv 0) (pv 1))))),?_⟩
  walk_at "";refine cJ ?_;refine ⟨_,rfl,p,rfl,by omega,by omega,?_⟩;refine bZ (λk σ H1=>∃ (m:Int) (v:Option V),σ=[some (.int m),some (.int b),some (.int p),v]/\0<=m/\m<10 ^ 61/\H1=H) ⟨n,none,rfl,n0,n1,rfl⟩ ?_ ?_
  ·rintro k σ H1 hk ⟨m,v,rfl,m0,m1,rfl⟩;have hc:Rr m b:=vb (Ty ‹_›) (by omega);walk_at "";refine ⟨_,_,rfl,Int.ediv_nonneg m0 (by omega),?_,rfl⟩;exact zbS (Int.ediv_le_self _ m0) m1
  ·rintro σ H1 ⟨m,v,rfl,m0,m1,rfl⟩;have hb:(0:Int)<b:=Ty ‹_›
   walk_at "";exact q _ (Zc _ (by omega)) (YZ _ hb)
theorem cA:aQ ["_law_script", "_law_many", "_law_found", "_law_k", "_law_cell", "_law_at"] ["_law_script", "_law_many"] (aG gj):=by walk_at "n"
theorem nR (D:Def K mg "_law_numbers" gj ["_law_script", "_law_many"]) (T:Txt K mg Z):dA P w K mg base (cQ P w) "_law_numbers" 1 ["_law_script", "_law_many"] (oJ K):=by
 refine D.dP cA (λvs H Q E h=>?_) (λf dW A o s H vs Q E hr h=>?_)
 ·obtain ⟨a,ns,m,rfl,_⟩:=h;rfl
 ·obtain ⟨a,ns,m,rfl,hS,zd,m0,m9,q⟩:=h;refine ⟨_,(ai (iL (i:=2) cA.nd rfl (.inl rfl) (tg:=["_law_k"]) (fr:=[]) (by walk_at "blk_ok") rfl (bh rfl T.range (aa (pv 1) af)) (λ_ _ _ _ _=>(aF (i:=0) (show [("_law_k":Str)].Nodup by decide +kernel) rfl (.inl rfl))) (λ_ _ _ _ _=>c8) (λ_ _ _ _ _=>az))
   (ai (bG Yy rfl (bh rfl T.range (aa (aA (sX rfl) (by rfl) T.max vf (aa (pv 1) (aa (aA (nh rfl) (by rfl) T.min iZ (aa (aA aL (by rfl) T.len aV (aa (pv 0) af)) (aa az af))) af))) af)) (aF (i:=3) cA.nd rfl (.inl rfl))
   (ai (aH (i:=4) cA.nd rfl (.inl rfl) az)
   (ai (cR (aM pI (aA aL (by rfl) T.len aV (aa (pv 0) af)) az (aW _)) (ao (aH (i:=4) cA.nd rfl (.inl rfl) (aO cN (aR aK (pv 0) (aO cN (pv 3) (aA (nh rfl) (by rfl) T.min iZ (aa (aA aL (by rfl) T.len aV (aa (pv 0) af)) (aa az af)))) (λ_ _=>rfl)) (wI (v:=1000000000000000000000000000000000000000000000000000000000007) cz (AA (v:=1000000000000000000000000000000000000000000000000000000000000) D2 az az ⟨by decide,by decide,by decide⟩ (by decide +kernel)) az (by decide +kernel))))) bq)
   (ai (aH (i:=5) cA.nd rfl (.inl rfl) (aO cN (pv 3) (pv 1)))
   (ao (uq (aO cN (aO cz (aO cz (aO uA (aR aK (pv 2) (pv 5) (λ_ _=>rfl)) az) (pv 4)) (aO uA (pv 3) (pv 3))) (wI (v:=1000000000000000000000000000000000000000000000000000000000007) cz (AA (v:=1000000000000000000000000000000000000000000000000000000000000) D2 az az ⟨by decide,by decide,by decide⟩ (by decide +kernel)) az (by decide +kernel))) (yK (pv 2) (pv 5) set_list)))))))
   (ao (aS (pv 2))))),?_⟩
  dsimp only [dS];walk_at "";refine bR ?_;refine ⟨_,rfl,(m:Int),rfl,Tk _,by omega,?_⟩;rw [Yu];intro t ht;refine dz (λi σ' ys H1=>∃ v:Option V,σ'=[v]/\ys=(List.replicate i (0:Int)).map V.int/\ah H H1/\H1 t=some (.lst ys)) ⟨none,rfl,rfl,ah.upd ht,ae⟩ ?_ ?_
  ·rintro i σ' ys H1 hi ⟨v,rfl,rfl,e1,h1⟩;walk_at "";refine ⟨h1,by rw [Pd,length_replicate];exact aC (by omega),bQ hi ⟨_,rfl,?_,ah.fresh e1 ht,ae⟩⟩;rw [replicate_succ',Yl]
   rfl
  ·rintro σ' ys H1 ⟨v,rfl,rfl,e1,h1⟩;walk_at "";refine cJ ?_;refine aJ (jd (aJ (SC rfl (aJ (jd (aJ (jd (aJ (SC rfl (bc ?_))))))))));refine ⟨_,_,rfl,.inl ⟨_,e1.seq hS,rfl⟩,?_⟩;refine aJ (r_c (bc ⟨_,_,rfl,?_⟩));refine bc ⟨_,_,rfl,?_⟩;refine bc ?_;rw [Pd];obtain ⟨cnt,QC,Tb⟩:∃ c:Nat,(if (if (63:Int)<(ns.length:Int) then (63:Int) else (ns.length:Int)) > (m:Int) then (if (63:Int)<(ns.length:Int) then (63:Int) else (ns.length:Int)) else (m:Int))=(c:Int)/\c<=63:=by
    refine ⟨(if (if (63:Int)<(ns.length:Int) then (63:Int) else (ns.length:Int)) > (m:Int) then (if (63:Int)<(ns.length:Int) then (63:Int) else (ns.length:Int)) else (m:Int)).toNat,?_,?_⟩<;>split<;>split<;>omega
   rw [QC];refine ⟨(cnt:Int),rfl,Tk _,by omega,?_⟩;rw [Yu];refine bZ (λk σ H2=>∃ (fs:UV) (v3 v4 v5:Option V),σ=[some (.ref a),some (.int (m:Int)),some (.ref t),v3,v4,v5]/\ah H H2/\H2 t=some (.lst (fs.map V.int))/\fs.length=m/\∀ x∈fs,0<=x/\x<10 ^ 60+7)
    ⟨List.replicate m 0,none,none,none,rfl,e1,h1,length_replicate,λx hx=>by rw [eq_of_mem_replicate hx];decide⟩ ?_ ?_
   ·clear h1 e1;rintro k σ H2 hk ⟨fs,v3,v4,v5,rfl,e2,h2,lf,rf⟩;simp only [Zj];have key:∀ (c:Int),0<=c->c<10 ^ 60+7->True:=λ_ _ _=>trivial;refine SL ?_;refine SZ (TW (r_c (SL ?_)));dsimp only;refine jD (λσ' H'=>∃ c:Int,σ'=[some (.ref a),some (.int (m:Int)),some (.ref t),some (.int (k:Int)),some (.int c),v5]/\0<=c/\c<10 ^ 60+7/\H'=H2) ?_ ?_
    ·rintro σ' H' ⟨c,rfl,c0,c1,rfl⟩;have mp:(0:Int)<(m:Int):=by omega
     walk_at "";have a0:=Zc (k:Int) (show (m:Int)≠0 by omega);have a1:=YZ (k:Int) mp;obtain ⟨i,hi⟩:=Ys a0;rw [hi] at a1 ⊢;have il:i<fs.length:=by omega
     have rx:=rf fs[i] (Zu _);refine bg (aN.of h2) (show mq (fs.map V.int) ((i:Nat):Int)=some (.int fs[i]) from fg (by rw [Yj,X4 il];rfl)) ?_;have XF:IntMulOk fs[i] 48271:=mulR (by decide) (by decide);have Fz:IntMulOk (k:Int) (k:Int):=mulL (Tk _) (by omega);walk_at "";refine yH (SC rfl (SC rfl ⟨t,fs.map V.int,(i:Int),i,rfl,rfl,h2,?_,?_⟩))
     ·rw [Pd,yZ (Tk _) (by omega),Yu]
     ·rw [<-map_set];refine ⟨_,_,_,_,rfl,ah.fresh e2 ht,ae,by rw [zaG];exact lf,λx hx=>?_⟩;rcases mem_or_eq_of_mem_set hx with z|z
      ·exact rf x z
      ·rw [z];exact ⟨Zc _ (by decide),YZ _ (by decide)⟩
    ·intro RR key;walk_at "";refine ⟨_,_,rfl,.inl ⟨_,e2.seq hS,rfl⟩,?_⟩;rw [Pd];walk_at "";refine if2 (λhl=>?_) (λhl=>?_)
     ·walk_at "";refine ⟨_,_,rfl,.inl ⟨_,e2.seq hS,rfl⟩,?_⟩;rw [Pd];walk_at "";refine ⟨_,_,rfl,?_⟩;have lp:(0:Int)<(if (63:Int)<(ns.length:Int) then (63:Int) else (ns.length:Int)):=by split<;>omega
      walk_at "";have b0:=Zc (k:Int) (Int.ne_of_gt lp);have b1:=YZ (k:Int) lp;have b2:(k:Int)%(if (63:Int)<(ns.length:Int) then (63:Int) else (ns.length:Int))<(ns.length:Int):=by split at b1<;>split<;>omega
      generalize (k:Int)%(if (63:Int)<(ns.length:Int) then (63:Int) else (ns.length:Int))=ix at b0 b1 b2 ⊢;obtain ⟨j,rfl⟩:=Ys b0;refine bg (e2.seq hS) (show mq (ns.map V.int) ((j:Nat):Int)=some (.int (ns[j]'(by omega))) from fg (by rw [Yj,X4 (by omega)];rfl)) ?_;walk_at "";exact key _ _ ⟨_,rfl,Zc _ (by decide),YZ _ (by decide),rfl⟩
     ·walk_at "";exact key _ _ ⟨_,rfl,by decide,by decide,rfl⟩
   ·rintro σ H2 ⟨fs,v3,v4,v5,rfl,e2,h2,lf,rf⟩;walk_at "";exact q t fs H2 e2 ht h2 lf rf
theorem iC:aQ ["_law_number", "_law_k", "_law_rings_here"] ["_law_number"] (aG jB):=by walk_at "n"
theorem uI (D:Def K mg "_law_base" jB ["_law_number"]) (T:Txt K mg Z):dA P w K mg base (cQ P w) "_law_base" 1 ["_law_number"] Aa:=by
 refine D.dP iC (λvs H Q E h=>?_) (λf dW A o s H vs Q E hr h=>?_)
 ·obtain ⟨n,rfl,_⟩:=h;rfl
 ·obtain ⟨n,rfl,n0,n1,q⟩:=h;have m0:=Zc n (show (3:Int)≠0 by decide);have m1:=YZ n (show (0:Int)<3 by decide);obtain ⟨kk,Qs,k3⟩:∃ kk:Nat,3+n%3=(kk:Int)/\(kk=3\/kk=4\/kk=5):=⟨(3+n%3).toNat,by omega,by omega⟩;have kp:(0:Int)<(kk:Int):=by omega
  refine ⟨_,(ai (aH (i:=1) iC.nd rfl (by walk_at "L") (aO cz az (aO cN (pv 0) az)))
   (ai (cR (PW.pt (pw_and (aM ie (aO cN (aO kW (pv 0) az) az) az (aW _)) (pw_and1 (aM h9 (pv 1) az (aW _))))) (ai (iL (i:=2) iC.nd rfl (by walk_at "L") (tg:=["_law_i"]) (fr:=[("_law_k",1)]) (by walk_at "blk_ok") rfl (bh rfl T.range (aa (pv 1) af)) (λ_ _ _ _ _=>(aF (i:=0) (show [("_law_i":Str),("_law_k":Str)].Nodup by decide +kernel) rfl (by walk_at "L"))) (λ_ _ _ _ _=>c8) (λ_ _ _ _ _=>(c9 (aa (pv 0) (aa (aO cN (aO cz (pv 0) az) (pv 1)) (aa (aO cz (pv 1) (aO cN (aO cz (pv 0) az) (pv 1))) (aa (aO cz (pv 1) (pv 0)) af)))))))
   (ao (aS (aO eV (pv 2) (c9 (aa (qV rfl T.range T.list (aa (pv 1) (aa (aO uA az (pv 1)) af))) (aa (nE rfl T.range T.reversed T.list (pv 1)) af))))))) bq)
   (ao (aS (aO eV (bV (tg:=["_law_i"]) (fr:=[("_law_k",1)]) (by walk_at "blk_ok") rfl (bh rfl T.range (aa (pv 1) af)) (λ_ _ _ _ _=>(aF (i:=0) (show [("_law_i":Str),("_law_k":Str)].Nodup by decide +kernel) rfl (by walk_at "L"))) (λ_ _ _ _ _=>c8) (λ_ _ _ _ _=>(c9 (aa (pv 0) (aa (aO cN (aO cz (pv 0) az) (pv 1)) (aa (pv 1) af)))))) (c9 (aa (nE rfl T.range T.reversed T.list (pv 1)) af))))))),?_⟩
  walk_at "";rw [Qs];have R4:∀ (σ:St) (H0:Hp),σ=[some (.int n),some (.int (kk:Int)),none]->ah H H0->Je (C4 Mj (rV (Io (kz (fI 1) yt)) (jQ 0) rS (FQ (kz (fI 0) (kz (C4 (rI (λx j=>0<j) λi j=>V.int (i%j)) (C4 (Ft λi j=>V.int (i+j)) (fI 0) (tC (V.int 1))) (fI 1)) (kz (fI 1) yt)))) 1 [1]) (FQ (kz (mF (fI 1)) yt))) { nx:=λ_ H'=>Q .dO H',rt:=Q } σ H0:=by
   rintro σ H0 rfl e0;refine nD (ST (bR ?_));refine ⟨_,rfl,(kk:Int),rfl,Tk _,by omega,?_⟩;rw [Yu];intro acc a9;refine wj (rest:=[some (.int (kk:Int))]) (λi=>[(i:Int),((i:Int)+1)%(kk:Int),(kk:Int)]) (λi H' Q' hi e' q'=>?_) a9 (by omega) λcs H1 e1 g1 CF CK=>?_
   ·walk_at "";exact λc hc=>q' c _ (ah.upd hc) hc ae
   ·refine su (aJ (oZ (SC rfl ⟨kk,rfl,by omega,λd hd=>?_⟩)));have e2:ah H1 (upd H1 d (.lst ((down kk).map V.int))):=ah.upd hd;have d2:upd H1 d (.lst ((down kk).map V.int)) d=some (.lst ((down kk).map V.int)):=ae;generalize upd H1 d (.lst ((down kk).map V.int))=H2 at e2 d2 ⊢;refine bc ⟨by rw [Yz];simp,λu hu=>?_⟩;have g3:=aX.one d2 hu;have e3:ah H2 (upd H2 u (.lst [.ref d])):=ah.upd hu;generalize upd H2 u (.lst [.ref d])=H3 at g3 e3 ⊢;have KH:=(g1.same e2).same e3;refine ⟨acc,u,_,_,rfl,rfl,KH.top,g3.top,by rw [Pd,Pd,KH.len,g3.len,Yz];simp;omega,λt ht=>?_⟩;have g4:=KH.Cm g3 ht;refine q t _ _ (kk+1) _ (e0.trans (((e1.trans e2).trans e3).trans (ah.upd ht))) g4 (by omega) ?_;rcases k3 with rfl|rfl|rfl
    ·have:=Ph.vE;exact ⟨_,this.1,this.2,rfl⟩
    ·have:=Pg.vE;exact ⟨_,this.1,this.2,rfl⟩
    ·have:=Pf.vE;exact ⟨_,this.1,this.2,rfl⟩
  have h3:(0:Int)<3:=by decide
  walk_at "";by_cases y:n / 3%3=1
  ·rw [YC y];walk_at "";by_cases z:(kk:Int)<5
   ·rw [YC z];walk_at "";refine bR ?_;refine ⟨_,rfl,(kk:Int),rfl,Tk _,by omega,?_⟩;rw [Yu];intro acc a9;refine wj (rest:=[some (.int (kk:Int))]) (λi=>[(i:Int),((i:Int)+1)%(kk:Int),(kk:Int)+((i:Int)+1)%(kk:Int),(kk:Int)+(i:Int)]) (λi H' Q' hi e' q'=>?_) a9 (by omega) λcs H1 e1 g1 CF CK=>?_
    ·walk_at "";exact ⟨by rw [Yz];simp,λc hc=>q' c _ (ah.upd hc) hc ae⟩
    ·have hm:IntMulOk 2 (kk:Int):=mulL (by decide) (by decide);refine SL ?_;refine nD (ST (SC rfl (su (aJ (yE (aJ (SC rfl (aJ (ST (r_c (SC rfl (DB hm (bc ⟨(kk:Int),kk,by rw [show (2:Int)*(kk:Int)=(kk:Int)+(kk:Int) by omega],by omega,Tk _,by omega,λc hc=>?_⟩)))))))))))));have e2:ah H1 (upd H1 c (.lst (((List.range kk).map λi:Nat=>(kk:Int)+(i:Int)).map V.int))):=ah.upd hc;have c2:upd H1 c (.lst (((List.range kk).map λi:Nat=>(kk:Int)+(i:Int)).map V.int)) c=some (.lst (((List.range kk).map λi:Nat=>(kk:Int)+(i:Int)).map V.int)):=ae;generalize upd H1 c (.lst (((List.range kk).map λi:Nat=>(kk:Int)+(i:Int)).map V.int))=H2 at e2 c2 ⊢;refine aJ (oZ (SC rfl ⟨kk,rfl,by omega,λd hd=>?_⟩));have e3:ah H2 (upd H2 d (.lst ((down kk).map V.int))):=ah.upd hd;have d3:upd H2 d (.lst ((down kk).map V.int)) d=some (.lst ((down kk).map V.int)):=ae;generalize upd H2 d (.lst ((down kk).map V.int))=H3 at e3 d3 ⊢;refine bc ⟨by rw [Yz];simp,λu hu=>?_⟩;have g4:=aX.two (e3 _ _ c2) d3 hu;have e4:ah H3 (upd H3 u (.lst [.ref c,.ref d])):=ah.upd hu;generalize upd H3 u (.lst [.ref c,.ref d])=H4 at g4 e4 ⊢;have KH:=((g1.same e2).same e3).same e4;refine ⟨acc,u,_,_,rfl,rfl,KH.top,g4.top,by rw [Pd,Pd,KH.len,g4.len,Yz];simp;omega,λt ht=>?_⟩;have g5:=KH.Cm g4 ht;refine q t _ _ (2*kk) _ ((((e1.trans e2).trans e3).trans e4).trans (ah.upd ht)) g5 (by omega) ?_;rcases k3 with rfl|rfl|rfl
     ·have:=Pk.vE;exact ⟨_,this.1,this.2,rfl⟩
     ·have:=Pj.vE;exact ⟨_,this.1,this.2,rfl⟩
     ·omega
   ·rw [Yw z];walk_at "";exact R4 _ _ rfl (λ_ _ e=>e)
  ·rw [Yw y];walk_at "";exact R4 _ _ rfl (λ_ _ e=>e)
theorem oR:aQ ["_law_rings_here"] ["_law_rings_here"] (aG gQ):=by walk_at "n"
theorem pL (D:Def K mg "_law_places" gQ ["_law_rings_here"]) (T:Txt K mg Z):dA P w K mg base (cQ P w) "_law_places" 1 ["_law_rings_here"] hU:=by
 refine D.dP oR (λvs H Q E h=>?_) (λf dW A o s H vs Q E hr h=>?_)
 ·obtain ⟨p,as,R,n,rfl,_⟩:=h;rfl
 ·obtain ⟨p,as,R,n,rfl,gp,tr,hn,q⟩:=h;have many:=tr.many;refine ⟨_,(ao (aS (aO cz az (aA (sW rfl) (by rfl) T.max vf (aa (bV (tg:=["_law_ring"]) (fr:=[]) (by walk_at "blk_ok") rfl (bL (pv 0)) (λ_ _ _ _ _=>(aF (i:=0) (show [("_law_ring":Str)].Nodup by decide +kernel) rfl (.inl rfl))) (λ_ _ _ _ _=>c8) (λ_ _ _ _ _=>(aA (zB (K:=K) rfl rfl) (by rfl) T.max vf (aa (pv 0) af)))) af))))),?_⟩;dsimp only [dS];refine nD (ST (r_c (jd (aJ (bR ?_)))));refine ⟨_,rfl,p,rfl,⟨_,aN.of gp.top⟩,λacc a9=>?_⟩;refine cF (K:=K) (a:=p) (xs:=as.map V.ref) (λi σ' ys H1=>∃ (ms:UV) (v:Option V),σ'=[v]/\ys=ms.map V.int/\ah H H1/\H1 acc=some (.lst ys)/\ms.length=i/\∀ (j:Nat) (m:Int) (r:UV),ms[j]?=some m->R[j]?=some r->m∈r/\∀ x∈r,x<=m)
   ⟨[],none,rfl,rfl,ah.upd a9,ae,rfl,λj m r h=>by simp at h⟩ (by rintro i σ' ys H1 _ ⟨_,_,_,_,e,_⟩;exact aN.of (e _ _ gp.top)) ?_ ?_
  ·rintro i x σ' ys H1 hx hi ⟨ms,v,rfl,rfl,e1,h1,rfl,ok⟩;rw [Pd,gp.len] at hi;obtain ⟨b,l,ha,hl,bK⟩:=gp.at (i:=ms.length) hi;obtain rfl:x=V.ref b:=by
    rw [Yj,ha] at hx;exact (Yf hx).symm
   have lr:=tr.ring (Yb hl);walk_at "";refine ⟨b,l,rfl,aN.of (e1 _ _ bK),λz=>by rw [z] at lr;simp at lr,λm hm hle=>?_⟩;refine ⟨h1,by rw [Pd];exact aC (by omega),bQ (by rw [Pd,gp.len];exact hi) ⟨ms++[m],_,rfl,by simp,ah.fresh e1 a9,by rw [ae],by simp,λj m' r h2 h3=>?_⟩⟩;rw [getElem?_append] at h2;by_cases z:j<ms.length
   ·rw [Ya z] at h2;exact ok j m' r h2 h3
   ·rw [X6 z] at h2;have jl:=(X3.mp h2).1;have:j=ms.length:=by simp at jl;omega
    subst this;rw [hl] at h3;cases h3
    simp at h2;subst h2;exact ⟨hm,hle⟩
  ·rintro σ' ys H1 ⟨ms,v,rfl,rfl,e1,h1,ml,ok⟩;rw [Pd,gp.len] at ml;refine bc ⟨acc,ms,rfl,aN.of h1,λz=>by rw [z] at ml;simp at ml;omega,λM hM hle=>?_⟩;refine hW ?_;have e:1+M=(n:Int):=by
    obtain ⟨j,hj⟩:=YB.mp hM;have jl:=(X3.mp hj).1;obtain ⟨m1,_⟩:=ok j M R[j] hj (X4 (by omega));have up:=((tr.ring (Zu (by omega))).2.2.2 M m1).2;have four:=tr.four;obtain ⟨r,hr,hx⟩:=tr.on (x:=(n:Int)-1) (by omega) (by omega);obtain ⟨i,hi⟩:=YB.mp hr;have il:=(X3.mp hi).1;have mi:ms[i]?=some (ms[i]'(by omega)):=X4 (by omega);have lo:=(ok i _ r mi hi).2 _ hx;have:=hle _ (Yb mi);omega
   rw [e];exact q _ e1
theorem IP (h:j<cs.length):cy (nI cs) j=((cs.getD j 0:Nat):Int):=by
 refine sT ?_;unfold nI;rw [Yj,X4 h,Yn,X4 h]
 rfl
theorem iO (cs:List Nat):(nI cs).length=cs.length:=by unfold nI;rw [Pd]
theorem bo:aQ ["_law_rings_here", "_law_number", "_law_fresh", "_law_at", "_law_ring", "_law_chosen", "_law_found", "_law_k", "_law_here", "_law_there"] ["_law_rings_here", "_law_number", "_law_fresh"] (aG gg):=by walk_at "n"
theorem nQ (D:Def K mg "_law_stacked" gg ["_law_rings_here", "_law_number", "_law_fresh"]) (T:Txt K mg Z) (eM:dA P w K mg base (cQ P w) "_law_digit" 1 ["_law_number", "_law_base_here", "_law_place"] lD):dA P w K mg base (cQ P w) "_law_stacked" 2 ["_law_rings_here", "_law_number", "_law_fresh"] oI:=by
 refine D.dP bo (λvs H Q E h=>?_) (λf dW A o s H vs Q E hr h=>?_)
 ·obtain ⟨p,as,R,n,k,rfl,_⟩:=h;rfl
 ·obtain ⟨p,as,R,n,num,rfl,gp,tr,hn,k0,k1,q⟩:=h;have many:=tr.many;have rp:(0:Int)<(R.length:Int):=by omega
  refine ⟨_,(ai (aH (i:=3) bo.nd rfl (by walk_at "L") (aO cN (pv 1) (aA aL (by rfl) T.len aV (aa (pv 0) af))))
   (ai (aH (i:=4) bo.nd rfl (by walk_at "L") (aR aK (pv 0) (pv 3) (λ_ _=>rfl)))
   (ai (iL (i:=5) bo.nd rfl (by walk_at "L") (tg:=["_law_k"]) (fr:=[("_law_number",1)]) (by walk_at "blk_ok") rfl (bh rfl T.range (aa (aA aL (by rfl) T.len aV (aa (pv 4) af)) af)) (λ_ _ _ _ _=>(aF (i:=0) (show [("_law_k":Str),("_law_number":Str)].Nodup by decide +kernel) rfl (by walk_at "L"))) (λ_ _ _ _ _=>(c5 (aM ie (aI eM hr bp (aa (aO kW (pv 1) az) (aa az (aa (pv 0) af)))) az (aW _)))) (λ_ _ _ _ _=>(pv 0)))
   (ai (cR (aM h9 (aA aL (by rfl) T.len aV (aa (pv 5) af)) az (aW _)) (ao (aH (i:=5) bo.nd rfl (by walk_at "L") (lQ rfl T.range T.list (aA aL (by rfl) T.len aV (aa (pv 4) af))))) bq)
   (ai (aH (i:=6) bo.nd rfl (by walk_at "L") (c9 af))
   (ai (bG Yy rfl (bh rfl T.range (aa (aA aL (by rfl) T.len aV (aa (pv 5) af)) af)) (aF (i:=7) bo.nd rfl (by walk_at "L"))
   (ai (aH (i:=8) bo.nd rfl (by walk_at "L") (aR aK (pv 5) (aO jF (pv 7) az) (λ_ _=>rfl)))
   (ai (aH (i:=9) bo.nd rfl (by walk_at "L") (aR aK (pv 5) (pv 7) (λ_ _=>rfl)))
   (ai (cR (aM h9 (pv 9) (pv 8) (aW _)) (ao (aH (i:=9) bo.nd rfl (by walk_at "L") (aO cz (pv 9) (aA aL (by rfl) T.len aV (aa (pv 4) af))))) bq)
   (ao (dw (gs YM Y3 Y4 df (pv 6) (aa (aO eV (bV (tg:=["_law_j"]) (fr:=[("_law_ring",4)]) (by walk_at "blk_ok") rfl (sC rfl T.range (aa (pv 8) (aa (aO cz (pv 9) az) af))) (λ_ _ _ _ _=>(aF (i:=0) (show [("_law_j":Str),("_law_ring":Str)].Nodup by decide +kernel) rfl (by walk_at "L"))) (λ_ _ _ _ _=>c8) (λ_ _ _ _ _=>(aR (lZ (K:=K) rfl) (pv 1) (aO cN (pv 0) (aA (kg (K:=K) rfl) (by rfl) T.len aV (aa (pv 1) af))) (λ_ _=>rfl)))) (c9 (aa (pv 2) af))) af))))))))
   (ao (aS (aO eV (aO eV (bT dr (pv 0) cY (cW (pv 3))) (pv 6)) (bT dr (pv 0) (cW (aO cz (pv 3) az)) cY)))))))))),?_⟩
  dsimp only [dS];walk_at "";refine ⟨_,_,rfl,.inl ⟨_,aN.of gp.top,rfl⟩,?_⟩;rw [Pd,gp.len];walk_at "";have a0:=Zc num (show (R.length:Int)≠0 by omega);have a1:=YZ num rp;obtain ⟨at',LA⟩:=Ys a0;rw [LA] at a1 ⊢;obtain ⟨rb,r,CI,EE,bK⟩:=gp.at (i:=at') (by omega);refine bg (aN.of gp.top) (gp.ix CI) ?_;obtain ⟨r3,rn,N2,O4⟩:=tr.ring (Yb EE);have r0:0<r.length:=by omega
  have Dq:(0:Int)<(r.length:Int):=by omega
  refine SL ?_;refine jD (λσ' H'=>∃ (ch:Addr) (cs:List Nat),σ'=[some (.ref p),some (.int num),some (.int (n:Int)),some (.int (at':Int)),some (.ref rb),some (.ref ch),none,none,none,none]/\ah H H'/\H' ch=some (.lst ((nI cs).map V.int))/\cs.Pairwise (·<·)/\∀ c∈cs,c<r.length) ?_ ?_
  ·rintro σ' H1 ⟨ch,cs,rfl,e1,xj,inc,lt⟩;refine jD (λσ' H'=>∃ (ch:Addr) (cs:List Nat),σ'=[some (.ref p),some (.int num),some (.int (n:Int)),some (.int (at':Int)),some (.ref rb),some (.ref ch),none,none,none,none]/\ah H H'/\H' ch=some (.lst ((nI cs).map V.int))/\cs.Pairwise (·<·)/\(∀ c∈cs,c<r.length)/\3<=cs.length) ?_ ?_
   ·clear xj inc lt e1;rintro σ' H1 ⟨ch,cs,rfl,e1,xj,inc,lt,c3⟩;have cl:cs.length<=r.length:=by
     have:=cD (l:=nI cs) (n:=r.length) (by unfold nI;exact Zi _ (λa b h=>by omega) inc) λy hy=>by
      obtain ⟨c,hc,rfl⟩:=Yc.mp hy;have:=lt c hc;omega
     rwa [iO] at this
    walk_at "";refine ⟨YK _,λfd EK=>?_⟩;have e2:ah H1 (upd H1 fd (.lst [])):=ah.upd EK;have g2:aX (upd H1 fd (.lst [])) fd [] []:=⟨ae,rfl,λi a l h=>by simp at h⟩;generalize upd H1 fd (.lst [])=H2 at e2 g2 ⊢;have XQ:=e1.free EK;walk_at "";refine cJ ?_;refine aJ (jd (aJ (SC rfl (bc ⟨_,_,rfl,.inl ⟨_,aN.of (e2 _ _ xj),rfl⟩,?_⟩))));rw [Pd,iO];refine bc ⟨(cs.length:Int),rfl,by omega,by omega,?_⟩;rw [Yu];refine bZ (λk σ H3=>∃ (bs:XL) (v7 v8 v9:Option V),σ=[some (.ref p),some (.int num),some (.int (n:Int)),some (.int (at':Int)),some (.ref rb),some (.ref ch),some (.ref fd),v7,v8,v9]/\ah H1 H3/\aX H3 fd bs ((List.range k).map (fq r cs n))/\fd∉bs)
     ⟨[],none,none,none,rfl,e2,g2,by simp⟩ ?_ ?_
    ·rintro k σ H3 hk ⟨bs,v7,v8,v9,rfl,e3,g3,Eg⟩;simp only [Zj];have A:=Fg inc lt (r:=r) (by omega) hk;have Tz:=e3 _ _ xj;have RW:=e3 _ _ (e1 _ _ bK);refine SL ?_;refine SZ (TW (ST (SC rfl (ST (SC rfl (r_c (hW ?_)))))));have jm:(k+(cs.length-1))%cs.length<cs.length:=Y5 _ (by omega);refine bg (aN.of Tz) (fO (j:=(k+(cs.length-1))%cs.length) (by rw [iO];omega) (by rw [iO];omega) ?_) ?_
     ·rw [iO];by_cases z:k=0
      ·subst z;rw [ZL,YQ (by omega)];right;omega
      ·rw [show k+(cs.length-1)=k-1+cs.length by omega,Yq,YQ (by omega)];left;omega
     rw [IP jm];refine SL ?_;refine SZ (TW (ST (SC rfl (SC rfl (bg (aN.of Tz) (fO (j:=k) (by rw [iO];omega) (by rw [iO];omega) (.inl rfl)) ?_)))));rw [IP hk];refine SL ?_;dsimp only;have eH:cs.getD ((k+(cs.length-1))%cs.length) 0=kj cs k:=rfl;rw [eH];refine jD (λσ' H'=>σ'=[some (.ref p),some (.int num),some (.int (n:Int)),some (.int (at':Int)),some (.ref rb),some (.ref ch),some (.ref fd),some (.int (k:Int)),some (.int (kj cs k:Int)),some (.int (ki r cs k:Int))]/\H'=H3) ?_ ?_
     ·rintro σ' H' ⟨rfl,rfl⟩;have lt':=A.lt;have le:=A.le;have top:=A.top;generalize hh:kj cs k=vt at A lt' le top ⊢;generalize ht:ki r cs k=Lf at A lt' le ⊢;walk_at "";refine ⟨.inl ⟨rfl,_,aN.of g3.top⟩,?_⟩;walk_at "";refine bR ?_;refine aJ (SC rfl (aJ (ST (SC rfl (r_c (hW (bc ⟨(vt:Int),(Lf:Int)+1,rfl,⟨by omega,by omega,by omega,by omega⟩,λacc a9=>?_⟩)))))));rw [show ((Lf:Int)+1-(vt:Int)).toNat=Lf-vt+1 by omega];refine dz (lo:=(vt:Int)) (λi σ' ys H4=>∃ v:Option V,σ'=[v,some (.ref rb)]/\ys=(bU r vt i).map V.int/\ah H' H4/\H4 acc=some (.lst ys)) ⟨none,rfl,rfl,ah.upd a9,ae⟩ ?_ ?_
      ·rintro i σ' ys H4 hi ⟨v,rfl,rfl,e4,h4⟩;have RV:=e4 _ _ RW;walk_at "";refine ⟨_,_,rfl,.inl ⟨_,aN.of RV,rfl⟩,?_⟩;rw [Pd];walk_at "";have c0:=Zc ((vt:Int)+(i:Int)) (show (r.length:Int)≠0 by omega);have c1:=YZ ((vt:Int)+(i:Int)) Dq;have ce:((vt+i)%r.length:Nat)=((vt:Int)+(i:Int))%(r.length:Int):=by rw [Int.natCast_emod,Int.natCast_add]
       rw [<-ce] at c0 c1 ⊢;refine bg (aN.of RV) (fO (j:=(vt+i)%r.length) (by omega) (by omega) (.inl rfl)) ?_;rw [show cy r ((vt+i)%r.length)=cy r (vt+i) from bD (Zv _ _)];refine ⟨h4,by rw [Pd,aZ];exact aC (by omega),bQ hi ⟨_,rfl,?_,ah.fresh e4 a9,ae⟩⟩;rw [oC,Yl]
       rfl
      ·rintro σ' ys H4 ⟨v,rfl,rfl,e4,h4⟩;walk_at "";refine ⟨by rw [Yz];simp,λu hu=>?_⟩;have e5:ah H4 (upd H4 u (.lst [.int (n:Int)])):=ah.upd hu;have u5:upd H4 u (.lst [.int (n:Int)]) u=some (.lst [.int (n:Int)]):=ae;generalize upd H4 u (.lst [.int (n:Int)])=H5 at e5 u5 ⊢;refine ⟨acc,u,_,_,rfl,rfl,e5 _ _ h4,u5,by rw [Pd,aZ,Yz];simp;omega,λx hx=>?_⟩;have e6:ah H5 (upd H5 x (.lst ((bU r vt (Lf-vt+1)).map V.int++[.int (n:Int)]))):=ah.upd hx;have x6:upd H5 x (.lst ((bU r vt (Lf-vt+1)).map V.int++[.int (n:Int)])) x=some (.lst ((fq r cs n k).map V.int)):=by
        unfold fq;rw [hh,ht,Yl];exact ae
       generalize upd H5 x (.lst ((bU r vt (Lf-vt+1)).map V.int++[.int (n:Int)]))=H6 at e6 x6 ⊢;have Nu:=(e4.trans e5).trans e6;have g6:=g3.same Nu;have RA:x≠fd:=λz=>by
        have:=(e4.trans e5) _ _ g3.top;rw [z,this] at hx;cases hx
       have bl:=g6.len;rw [Pd,zaw] at bl;refine bc (dI g6.top (by rw [Pd];exact aC (by omega)) ?_);have g7:=g6.snoc Eg RA x6;refine ⟨bs++[x],_,_,_,rfl,?_,?_,?_⟩
       ·refine λb o hb=>?_;rw [ak (λz=>by rw [z,EK] at hb;cases hb)];exact Nu _ _ (e3 _ _ hb)
       ·rw [Z9,Yl];exact g7
       ·intro z;rcases Ye.mp z with z|z
        ·exact Eg z
        ·exact RA (X9.mp z).symm
     ·intro RR key;walk_at "";by_cases z:((cs.getD k 0:Nat):Int)<(kj cs k:Int)
      ·rw [YC z];walk_at "";refine ⟨_,_,rfl,.inl ⟨_,aN.of RW,rfl⟩,?_⟩;rw [Pd];walk_at "";refine key _ _ ⟨?_,rfl⟩;have:ki r cs k=cs.getD k 0+r.length:=by unfold ki;rw [Ya (by omega)]
       rw [this,Int.natCast_add]
       rfl
      ·rw [Yw z];walk_at "";refine key _ _ ⟨?_,rfl⟩;have:ki r cs k=cs.getD k 0:=by unfold ki;rw [X6 (by omega)]
       rw [this]
       rfl
    ·rintro σ H3 ⟨bs,v7,v8,v9,rfl,e3,g3,Eg⟩;have yo:=(gp.same e1).same e3;refine nD (ST (ST (eC (SC rfl ⟨_,rfl,(at':Int),rfl,p,_,rfl,aN.of yo.top,λx hx=>?_⟩))));rw [m7 (by rw [Pd,yo.len];omega),<-map_take];have g4:=yo.taken at' hx;have e4:ah H3 (upd H3 x (.lst ((as.take at').map V.ref))):=ah.upd hx;generalize upd H3 x (.lst ((as.take at').map V.ref))=H4 at g4 e4 ⊢;have Tg:=g3.same e4;have bl:=g3.len;rw [Pd,zaw] at bl;refine SC rfl ⟨x,fd,_,_,rfl,rfl,g4.top,Tg.top,by rw [Pd,Pd,g4.len,bl,YW,Yz];omega,λy hy=>?_⟩;have g5:=g4.Cm Tg hy;have e5:ah H4 (upd H4 y (.lst ((as.take at').map V.ref++bs.map V.ref))):=ah.upd hy;generalize upd H4 y (.lst ((as.take at').map V.ref++bs.map V.ref))=H5 at g5 e5 ⊢;have Ni:=(yo.same e4).same e5;refine eC (SC rfl (ST (SC rfl (r_c (hW ⟨(at':Int)+1,rfl,p,_,rfl,aN.of Ni.top,λz hz=>?_⟩)))));rw [show (at':Int)+1=((at'+1:Nat):Int) by omega,sU (by rw [Pd,Ni.len];omega),<-map_drop];have g6:=Ni.dropped (at'+1) hz;have e6:ah H5 (upd H5 z (.lst ((as.drop (at'+1)).map V.ref))):=ah.upd hz;generalize upd H5 z (.lst ((as.drop (at'+1)).map V.ref))=H6 at g6 e6 ⊢;have Te:=g5.same e6;refine ⟨y,z,_,_,rfl,rfl,by have:=Te.top;rw [Yl] at this;exact this,g6.top,by rw [Yr,Pd,Pd,Pd,g4.len,bl,g6.len,YW,Zs,Yz];omega,λt ht=>?_⟩;have g7:=Te.Cm g6 ht;rw [Yl] at g7;obtain ⟨L,tg,ld,rfl⟩:=tr;obtain ⟨M,tM,lM,rM⟩:=tg.stack ld EE inc lt c3;refine q t _ _ _ ((((((e1.trans e3).trans e4).trans e5).trans e6).trans (ah.upd ht))) g7 ⟨M,tM,?_,by rw [lM]⟩;exact rM
   ·intro RR key;walk_at "";refine ⟨_,_,rfl,.inl ⟨_,aN.of xj,rfl⟩,?_⟩;rw [Pd,iO];walk_at "";refine if2 (λz=>?_) (λz=>?_)
    ·walk_at "";refine sv (jd (aJ (SC rfl (bc ⟨_,_,rfl,.inl ⟨_,aN.of (e1 _ _ bK),rfl⟩,?_⟩))));rw [Pd];refine ⟨r.length,rfl,by omega,λc hc=>?_⟩;walk_at "";refine key _ _ ⟨c,List.range r.length,rfl,e1.trans (ah.upd hc),?_,pairwise_lt_range,λx hx=>YO.mp hx,by rw [zaw];exact r3⟩;exact ae
    ·walk_at "";exact key _ _ ⟨ch,cs,rfl,e1,xj,inc,lt,by omega⟩
  ·intro RR key;walk_at "";refine bR ?_;refine aJ (jd (aJ (SC rfl (bc ⟨_,_,rfl,.inl ⟨_,aN.of bK,rfl⟩,?_⟩))));rw [Pd];refine bc ⟨(r.length:Int),rfl,by omega,by omega,?_⟩;rw [Yu];intro acc a9;refine dz (λi σ' ys H1=>∃ (cs:List Nat) (v:Option V),σ'=[v,some (.int num)]/\ys=(nI cs).map V.int/\ah H H1/\H1 acc=some (.lst ys)/\cs.Pairwise (·<·)/\(∀ c∈cs,c<i)/\cs.length<=i) ⟨[],none,rfl,rfl,ah.upd a9,ae,.nil,by simp,X7 _⟩ ?_ ?_
   ·rintro i σ' ys H1 hi ⟨cs,v,rfl,rfl,e1,h1,inc,lt,cl⟩;simp only [Zj];walk_at "";refine ⟨num / 97,2,(i:Int),rfl,Int.ediv_nonneg k0 (by decide),zbS (Int.ediv_le_self _ k0) k1,by decide,by decide,by omega,by omega,λd d0 d1=>?_⟩;walk_at "";refine if2 (λz=>?_) (λz=>?_)
    ·walk_at "";refine ⟨h1,by rw [Pd,iO];exact aC (by omega),bQ hi ⟨cs++[i],_,rfl,?_,ah.fresh e1 a9,ae,?_,?_,by rw [Yr];simp;omega⟩⟩
     ·unfold nI;rw [Yl,Yl]
      rfl
     ·exact List.pairwise_append.mpr ⟨inc,pairwise_singleton _ _,λa ha b hb=>by rw [X9.mp hb];exact lt a ha⟩
     ·intro c hc;rcases Ye.mp hc with y|y
      ·have:=lt c y;omega
      ·rw [X9.mp y];omega
    ·exact bQ hi ⟨cs,_,rfl,rfl,e1,h1,inc,λc hc=>by have:=lt c hc;omega,by omega⟩
   ·rintro σ' ys H1 ⟨cs,v,rfl,rfl,e1,h1,inc,lt,cl⟩;walk_at "";exact key _ _ ⟨acc,cs,rfl,e1,h1,inc,lt⟩
theorem cG:aQ ["_law_rings_here", "_law_number", "_law_at", "_law_ring", "_law_k", "_law_turned", "_law_j", "_law_other", "_law_i"] ["_law_rings_here", "_law_number"] (aG jy):=by walk_at "n"
theorem uF (D:Def K mg "_law_tied" jy ["_law_rings_here", "_law_number"]) (T:Txt K mg Z):dA P w K mg base (cQ P w) "_law_tied" 1 ["_law_rings_here", "_law_number"] vS:=by
 refine D.dP cG (λvs H Q E h=>?_) (λf dW A o s H vs Q E hr h=>?_)
 ·obtain ⟨p,as,R,n,k,rfl,_⟩:=h;rfl
 ·obtain ⟨p,as,R,n,num,rfl,gp,tr,hn,k0,k1,q⟩:=h;have many:=tr.many;have rp:(0:Int)<(R.length:Int):=by omega
  refine ⟨_,(ai (aH (i:=2) cG.nd rfl (.inl rfl) (aO cN (pv 1) (aA aL (by rfl) T.len aV (aa (pv 0) af))))
   (ai (aH (i:=3) cG.nd rfl (.inl rfl) (aR aK (pv 0) (pv 2) (λ_ _=>rfl)))
   (ai (cR (aM h9 (aA aL (by rfl) T.len aV (aa (pv 3) af)) az (aW _)) (ao (aS (pv 0))) bq)
   (ai (aH (i:=4) cG.nd rfl (.inl rfl) (aO cN (aO kW (pv 1) az) (aA aL (by rfl) T.len aV (aa (pv 3) af))))
   (ai (aH (i:=5) cG.nd rfl (.inl rfl) (aO eV (bT dr (pv 3) (cW (pv 4)) cY) (bT dr (pv 3) cY (cW (pv 4)))))
   (ai (aH (i:=6) cG.nd rfl (.inl rfl) (aO cz az (aO cN (aO kW (pv 1) az) (aO jF (aA aL (by rfl) T.len aV (aa (pv 3) af)) az))))
   (ai (bG Yy rfl (bL (pv 0)) (aF (i:=7) cG.nd rfl (.inl rfl))
   (ao (bG Yy rfl (bh rfl T.range (aa (aA aL (by rfl) T.len aV (aa (pv 7) af)) af)) (aF (i:=8) cG.nd rfl (.inl rfl))
   (ao (cR (PW.pt (pw_and (aM ie (aR aK (pv 5) az (λ_ _=>rfl)) (aR aK (pv 7) (aO jF (pv 8) az) (λ_ _=>rfl)) (aW _)) (pw_and1 (aM ie (aR aK (pv 5) (pv 6) (λ_ _=>rfl)) (aR aK (pv 7) (pv 8) (λ_ _=>rfl)) (aW _))))) (ao (aS (pv 0))) bq)))))
   (ao (aS (aO eV (aO eV (bT dr (pv 0) cY (cW (pv 2))) (c9 (aa (bT dr (pv 5) cY (cW (aO cz (pv 6) az))) (aa (aO eV (bT dr (pv 5) (cW (pv 6)) cY) (bT dr (pv 5) cY (cW az))) af)))) (bT dr (pv 0) (cW (aO cz (pv 2) az)) cY))))))))))),?_⟩
  dsimp only [dS];walk_at "";refine ⟨_,_,rfl,.inl ⟨_,aN.of gp.top,rfl⟩,?_⟩;rw [Pd,gp.len];walk_at "";have a0:=Zc num (show (R.length:Int)≠0 by omega);have a1:=YZ num rp;obtain ⟨at',LA⟩:=Ys a0;rw [LA] at a1 ⊢;obtain ⟨rb,r,CI,EE,bK⟩:=gp.at (i:=at') (by omega);refine bg (aN.of gp.top) (gp.ix CI) ?_;obtain ⟨r3,rn,N2,O4⟩:=tr.ring (Yb EE);have r0:0<r.length:=by omega
  have Dq:(0:Int)<(r.length:Int):=by omega
  walk_at "";refine ⟨_,_,rfl,.inl ⟨_,aN.of bK,rfl⟩,?_⟩;rw [Pd];walk_at "";refine if2 (λz=>?_) (λz=>?_)
  ·walk_at "";exact q p as R H (λ_ _ e=>e) gp tr
  ·have r4:4<=r.length:=by omega
   walk_at "";refine ⟨_,_,rfl,.inl ⟨_,aN.of bK,rfl⟩,?_⟩;rw [Pd];walk_at "";have b0:=Zc (num / 97) (show (r.length:Int)≠0 by omega);have b1:=YZ (num / 97) Dq;obtain ⟨kk,Qs⟩:=Ys b0;rw [Qs] at b1 ⊢;refine eC (SC rfl ⟨_,rfl,(kk:Int),rfl,rb,_,rfl,aN.of bK,λx hx=>?_⟩);rw [jS (by omega)];have e1:ah H (upd H x (.lst ((r.drop kk).map V.int))):=ah.upd hx;have x1:upd H x (.lst ((r.drop kk).map V.int)) x=some (.lst ((r.drop kk).map V.int)):=ae;generalize upd H x (.lst ((r.drop kk).map V.int))=H1 at e1 x1 ⊢;refine eC (SC rfl ⟨_,rfl,(kk:Int),rfl,rb,_,rfl,aN.of (e1 _ _ bK),λy hy=>?_⟩);rw [iu (by omega)];have e2:ah H1 (upd H1 y (.lst ((r.take kk).map V.int))):=ah.upd hy;have y2:upd H1 y (.lst ((r.take kk).map V.int)) y=some (.lst ((r.take kk).map V.int)):=ae;generalize upd H1 y (.lst ((r.take kk).map V.int))=H2 at e2 y2 ⊢;refine ⟨x,y,_,_,rfl,rfl,e2 _ _ x1,y2,by rw [Pd,Pd,Zs,YW,Yz];omega,λtu SH=>?_⟩;have e3:ah H2 (upd H2 tu (.lst ((r.drop kk).map V.int++(r.take kk).map V.int))):=ah.upd SH;have vD:upd H2 tu (.lst ((r.drop kk).map V.int++(r.take kk).map V.int)) tu=some (.lst ((bU r kk r.length).map V.int)):=by
    rw [<-tI (by omega)];unfold cU;rw [Yl];exact ae
   generalize upd H2 tu (.lst ((r.drop kk).map V.int++(r.take kk).map V.int))=H3 at e3 vD ⊢;have OF:=(e1.trans e2).trans e3;clear x1 y2 e1 e2 e3 hx hy SH;walk_at "";refine ⟨_,_,rfl,.inl ⟨_,aN.of (OF _ _ bK),rfl⟩,?_⟩;rw [Pd];have jp:(0:Int)<(r.length:Int)-3:=by omega
   walk_at "";have c0:=Zc (num / 997) (show (r.length:Int)-3≠0 by omega);have c1:=YZ (num / 997) jp;obtain ⟨jj,VF,j2,j3⟩:∃ jj:Nat,2+num / 997%((r.length:Int)-3)=(jj:Int)/\2<=jj/\jj+2<=r.length:=⟨(2+num / 997%((r.length:Int)-3)).toNat,by omega,by omega,by omega⟩;rw [VF];have yo:=gp.same OF;walk_at "";refine cJ ?_;have wl:=aZ r kk r.length;have t0:mq ((bU r kk r.length).map V.int) 0=some (V.int (cy r kk)):=by
    have:=fO (r:=bU r kk r.length) (i:=0) (j:=0) (by omega) (by omega) (.inl rfl);rw [this,ka ‹_›];rfl
   have tj:mq ((bU r kk r.length).map V.int) (jj:Int)=some (V.int (cy r (kk+jj))):=by
    have:=fO (r:=bU r kk r.length) (i:=(jj:Int)) (j:=jj) (by omega) (by omega) (.inl rfl);rw [this,ka (ZJ ‹_›)]
   refine ⟨_,rfl,p,rfl,⟨_,aN.of yo.top⟩,fF (K:=K) (a:=p) (xs:=as.map V.ref) (λm σ H4=>∃ v7 v8:Option V,σ=[some (.ref p),some (.int num),some (.int (at':Int)),some (.ref rb),some (.int (kk:Int)),some (.ref tu),some (.int (jj:Int)),v7,v8]/\H4=H3/\∀ (m':Nat) (o:UV),m'<m->R[m']?=some o->∀ i,dj o i≠(cy r kk,cy r (kk+jj)))
    ⟨none,none,rfl,rfl,λm' o h=>by omega⟩ (by rintro m σ H4 _ ⟨_,_,_,h,_⟩;rw [h];exact aN.of yo.top) ?_ ?_⟩
   ·rintro m xv σ H4 hx ⟨v7,v8,rfl,rfl,ok⟩;have ml:m<R.length:=by
     have:=(X3.mp hx).1;rw [Pd,gp.len] at this;exact this
    obtain ⟨b,o,ha,hl,Qd⟩:=yo.at (i:=m) ml;obtain rfl:xv=V.ref b:=by
     rw [Yj,ha] at hx;exact (Yf hx).symm
    obtain ⟨o3,on,Xk,Xj⟩:=tr.ring (Yb hl);refine SL ?_;refine cJ ?_;refine aJ (jd (aJ (SC rfl (bc ⟨_,_,rfl,.inl ⟨_,aN.of Qd,rfl⟩,?_⟩))));rw [Pd];refine bc ⟨(o.length:Int),rfl,Tk _,by omega,?_⟩;rw [Yu];refine bZ (λi σ H5=>∃ v8:Option V,σ=[some (.ref p),some (.int num),some (.int (at':Int)),some (.ref rb),some (.int (kk:Int)),some (.ref tu),some (.int (jj:Int)),some (.ref b),v8]/\H5=H4/\∀ i',i'<i->dj o (i'+(o.length-1))≠(cy r kk,cy r (kk+jj)))
     ⟨v8,rfl,rfl,λi' h=>by omega⟩ ?_ ?_
    ·rintro i σ H5 hi ⟨v8,rfl,rfl,Oa⟩;simp only [Zj];walk_at "";refine bg (aN.of vD) t0 ?_;walk_at "";refine bg (aN.of Qd) (fO (j:=(i+(o.length-1))%o.length) (by omega) (by omega) ?_) ?_
     ·by_cases z:i=0
      ·subst z;rw [ZL,YQ (by omega)];right;omega
      ·rw [show i+(o.length-1)=i-1+o.length by omega,Yq,YQ (by omega)];left;omega
     rw [show cy o ((i+(o.length-1))%o.length)=cy o (i+(o.length-1)) from bD (Zv _ _)];have ei:cy o (i+(o.length-1)+1)=cy o i:=bD (by rw [show i+(o.length-1)+1=i+o.length by omega,Yq]);walk_at "";by_cases w1:cy r kk=cy o (i+(o.length-1))
     ·rw [YC w1];walk_at "";refine bg (aN.of vD) tj ?_;walk_at "";refine bg (aN.of Qd) (fO (j:=i) (by omega) (by omega) (.inl rfl)) ?_;walk_at "";refine if2 (λw2=>?_) (λw2=>?_)
      ·walk_at "";exact q p as R H5 OF yo tr
      ·walk_at "";refine ⟨_,rfl,rfl,λi' h=>?_⟩;by_cases y:i'=i
       ·subst y;intro e;have:=Yt Prod.snd e;rw [show (dj o (i'+(o.length-1))).2=cy o (i'+(o.length-1)+1) from rfl,ei] at this;exact w2 this.symm
       ·exact Oa i' (by omega)
     ·rw [Yw w1];walk_at "";refine ⟨_,rfl,rfl,λi' h=>?_⟩;by_cases y:i'=i
      ·subst y;intro e;exact w1 (Yt Prod.fst e).symm
      ·exact Oa i' (by omega)
    ·rintro σ H5 ⟨WU,rfl,rfl,Oa⟩;refine ⟨_,_,rfl,rfl,λm' o' h h2 i=>?_⟩;by_cases y:m'=m
     ·subst y;rw [hl] at h2;cases h2
      have:=Oa ((i+1)%o.length) (Y5 _ (by omega));rwa [show dj o ((i+1)%o.length+(o.length-1))=dj o i from bI (by rw [zaP,show i+1+(o.length-1)=i+o.length by omega,Yq])] at this
     ·exact ok m' o' (by omega) h2 i
   ·rintro σ H4 ⟨v7,v8,rfl,rfl,ok⟩;rw [Pd,gp.len] at ok;refine nD (ST (ST (eC (SC rfl ⟨_,rfl,(at':Int),rfl,p,_,rfl,aN.of yo.top,λx hx=>?_⟩))));rw [m7 (by rw [Pd,yo.len];omega),<-map_take];have g4:=yo.taken at' hx;have e4:ah H4 (upd H4 x (.lst ((as.take at').map V.ref))):=ah.upd hx;generalize upd H4 x (.lst ((as.take at').map V.ref))=H5 at g4 e4 ⊢;have CW:=e4 _ _ vD;refine su (aJ (eC (SC rfl (ST (SC rfl (r_c (hW ⟨(jj:Int)+1,rfl,tu,_,rfl,aN.of CW,λu hu=>?_⟩)))))));rw [show (jj:Int)+1=((jj+1:Nat):Int) by omega,iu (by rw [aZ];exact ZJ ‹_›),vB (ZJ ‹_›)];have e5:ah H5 (upd H5 u (.lst ((bU r kk (jj+1)).map V.int))):=ah.upd hu;have u5:upd H5 u (.lst ((bU r kk (jj+1)).map V.int)) u=some (.lst ((bU r kk (jj+1)).map V.int)):=ae;generalize upd H5 u (.lst ((bU r kk (jj+1)).map V.int))=H6 at e5 u5 ⊢;have I0:=e5 _ _ CW;refine aJ (ST (eC (SC rfl ⟨_,rfl,(jj:Int),rfl,tu,_,rfl,aN.of I0,λv hv=>?_⟩)));rw [jS (by rw [aZ];omega),CQ (by omega)];have e6:ah H6 (upd H6 v (.lst ((bU r (kk+jj) (r.length-jj)).map V.int))):=ah.upd hv;have v6:upd H6 v (.lst ((bU r (kk+jj) (r.length-jj)).map V.int)) v=some (.lst ((bU r (kk+jj) (r.length-jj)).map V.int)):=ae;generalize upd H6 v (.lst ((bU r (kk+jj) (r.length-jj)).map V.int))=H7 at e6 v6 ⊢;have TU:=e6 _ _ I0;refine eC (SC rfl ⟨1,rfl,tu,_,rfl,aN.of TU,λc hc=>?_⟩);rw [show ng ((bU r kk r.length).map V.int) none (some (1:Int))=((bU r kk r.length).take 1).map V.int from iu (k:=1) (by rw [aZ];assumption),vB ‹_›];have e7:ah H7 (upd H7 c (.lst ((bU r kk 1).map V.int))):=ah.upd hc;have c7:upd H7 c (.lst ((bU r kk 1).map V.int)) c=some (.lst ((bU r kk 1).map V.int)):=ae;generalize upd H7 c (.lst ((bU r kk 1).map V.int))=H8 at e7 c7 ⊢;refine ⟨v,c,_,_,rfl,rfl,e7 _ _ v6,c7,by rw [Pd,Pd,aZ,aZ,Yz];omega,λd hd=>?_⟩;have ew:bU r (kk+jj) (r.length-jj)++bU r kk 1=bU r (kk+jj) (r.length-jj+1):=by
     rw [show bU r (kk+jj) (r.length-jj+1)=bU r (kk+jj) (r.length-jj)++[cy r (kk+jj+(r.length-jj))] from oC]
     congr 1
     show [cy r (kk+0)]=_;rw [bD (show (kk+jj+(r.length-jj))%r.length=kk%r.length by rw [show kk+jj+(r.length-jj)=kk+r.length by omega,Yq])]
     rfl
    have e8:ah H8 (upd H8 d (.lst ((bU r (kk+jj) (r.length-jj)).map V.int++(bU r kk 1).map V.int))):=ah.upd hd;have d8:upd H8 d (.lst ((bU r (kk+jj) (r.length-jj)).map V.int++(bU r kk 1).map V.int)) d=some (.lst ((bU r (kk+jj) (r.length-jj+1)).map V.int)):=by
     rw [<-ew,Yl];exact ae
    generalize upd H8 d (.lst ((bU r (kk+jj) (r.length-jj)).map V.int++(bU r kk 1).map V.int))=H9 at e8 d8 ⊢;refine bc ⟨by rw [Yz];simp,λw hw=>?_⟩;have QU:=(e6.trans e7).trans e8;have g9:=aX.two (QU _ _ u5) d8 hw;have e9:ah H9 (upd H9 w (.lst [.ref u,.ref d])):=ah.upd hw;generalize upd H9 w (.lst [.ref u,.ref d])=vw at g9 e9 ⊢;have Nn:=((g4.same e5).same QU).same e9;refine ⟨x,w,_,_,rfl,rfl,Nn.top,g9.top,by rw [Pd,Pd,g4.len,g9.len,YW,Yz];simp;omega,λy hy=>?_⟩;have Np:=Nn.Cm g9 hy;have sR:ah vw (upd vw y (.lst ((as.take at').map V.ref++[u,d].map V.ref))):=ah.upd hy;generalize upd vw y (.lst ((as.take at').map V.ref++[u,d].map V.ref))=Fs at Np sR ⊢;have EW:=(((e4.trans e5).trans QU).trans e9).trans sR;have KD:=yo.same EW;refine eC (SC rfl (ST (SC rfl (r_c (hW ⟨(at':Int)+1,rfl,p,_,rfl,aN.of KD.top,λz hz=>?_⟩)))));rw [show (at':Int)+1=((at'+1:Nat):Int) by omega,sU (by rw [Pd,KD.len];omega),<-map_drop];have LB:=KD.dropped (at'+1) hz;have IJ:ah Fs (upd Fs z (.lst ((as.drop (at'+1)).map V.ref))):=ah.upd hz;generalize upd Fs z (.lst ((as.drop (at'+1)).map V.ref))=OQ at LB IJ ⊢;have IF:=Np.same IJ;refine ⟨y,z,_,_,rfl,rfl,by have:=IF.top;rw [Yl] at this;exact this,LB.top,by rw [Yr,Pd,Pd,Pd,g4.len,LB.len,YW,Zs,Yz];simp;omega,λt ht=>?_⟩;have Th:=IF.Cm LB ht;rw [Yl] at Th;obtain ⟨L,tg,ld,rfl⟩:=tr;have Pz:cy r (kk+jj)∉tx L (cy r kk):=λz=>by
     have gr:=(ld.good r (Yb EE)).dt kk;have:Dt L (cy r kk,cy r (kk+jj)):=⟨gr.lo,gr.hi,z⟩;obtain ⟨o,ho,B7⟩:=YF.mp (ld.all _ this);obtain ⟨m',Lw⟩:=YB.mp ho;obtain ⟨i,ei⟩:=(bu (by have:=(ld.good o ho).two;exact ZJ ‹_›)).mp B7;exact ok m' o (X3.mp Lw).1 Lw i ei.symm
    obtain ⟨M,tM,lM,rM⟩:=tg.jg ld EE j2 j3 Pz;exact q t _ _ _ ((OF.trans EW).trans (IJ.trans (ah.upd ht))) Th ⟨M,tM,rM,lM⟩
theorem dC:aQ ["_law_rings_here", "_law_found", "_law_number", "_law_ring", "_law_k"] ["_law_rings_here"] (aG gm):=by walk_at "n"
theorem nT (D:Def K mg "_law_corners" gm ["_law_rings_here"]) (T:Txt K mg Z):dA P w K mg base (cQ P w) "_law_corners" 1 ["_law_rings_here"] jr:=by
 refine D.dP dC (λvs H Q E h=>?_) (λf dW A o s H vs Q E hr h=>?_)
 ·obtain ⟨p,as,L,R,rfl,_⟩:=h;rfl
 ·obtain ⟨p,as,L,R,rfl,gp,tg,ld,hn,q⟩:=h;have im:=tg.map;have nd:(R.flatMap λr=>sh (r.length-1) r).Nodup:=(gA R).nodup_iff.mpr ld.nd;have kl:(R.flatMap λr=>sh (r.length-1) r).length<=5000:=by
   have e:=((gA (s:=λr=>r.length-1) R).length_eq);have d:=ld.dec.len im;rw [show ((R.map (sh 0)).flatten)=R.flatMap (sh 0) from rfl] at d;rw [e,d];have:=qC im (X7 L.length);have:L.length*(L.length-1)<=60*60:=zbj hn (by omega);omega
  refine ⟨_,(ai (aH (i:=1) dC.nd rfl (.inl rfl) lT)
   (ai (bG Yy rfl (oo T.enumerate (aa (pv 0) af)) (mQ (n:=2) rfl (cK (aF (i:=2) dC.nd rfl (.inl rfl)) (cK (aF (i:=3) dC.nd rfl (.inl rfl)) iM)))
   (ao (bG Yy rfl (bh rfl T.range (aa (aA aL (by rfl) T.len aV (aa (pv 3) af)) af)) (aF (i:=4) dC.nd rfl (.inl rfl))
   (ao (eD (bB hr) (pv 1) (bN (aa (aR aK (pv 3) (aO jF (pv 4) az) (λ_ _=>rfl)) (aa (aR aK (pv 3) (pv 4) (λ_ _=>rfl)) af))) (bN (aa (aR aK (pv 3) (aO jF (pv 4) az) (λ_ _=>rfl)) (aa (pv 2) af))) rfl)))))
   (ao (aS (pv 1))))),?_⟩
  dsimp only [dS];walk_at "";intro gd EJ;have e0:ah H (upd H gd (.dT [])):=ah.upd EJ;have g0:upd H gd (.dT []) gd=some (.dT (kC [])):=ae;generalize upd H gd (.dT [])=H0 at e0 g0 ⊢;walk_at "";refine cJ ?_;refine ⟨_,rfl,p,rfl,⟨_,aN.of (e0 _ _ gp.top)⟩,l8 (K:=K) (a:=p) (xs:=as.map V.ref) (λi σ H1=>∃ (ks:List (aw×Addr)) (v2 v3 v4:Option V),σ=[some (.ref p),some (.ref gd),v2,v3,v4]/\ah H H1/\H1 gd=some (.dT (kC ks))/\ks.map (·.1)=(R.take i).flatMap (λr=>sh (r.length-1) r)/\∀ d a,(d,a)∈ks->∃ c:Int,H1 a=some (.tup [.int c,.int (lo R d)])/\Dt L (c,d.1)/\nx L (c,d.1)=d)
   ⟨[],none,none,none,rfl,e0,g0,rfl,λd a h=>by cases h⟩ (by rintro i σ H1 _ ⟨_,_,_,_,_,e1,_⟩;exact aN.of (e1 _ _ gp.top)) ?_ ?_⟩
  ·rintro i x pr σ H1 hx ⟨ks,v2,v3,v4,rfl,e1,g1,kk,kv⟩ AS;have hi:i<R.length:=by
    have:=(X3.mp hx).1;rw [Pd,gp.len] at this;exact this
   obtain ⟨b,r,ha,Qc,bK⟩:=gp.at hi;obtain rfl:x=V.ref b:=by
    rw [Yj,ha] at hx;exact (Yf hx).symm
   have rm:=Yb Qc;have g:=ld.good r rm;have r3:=tg.three ld rm;have r0:0<r.length:=by omega
   have fk:(R.take (i+1)).flatMap (λr=>sh (r.length-1) r)=(R.take i).flatMap (λr=>sh (r.length-1) r)++sh (r.length-1) r:=by
    rw [take_snoc Qc,ZT,flatMap_singleton]
   have kn:((R.take i).flatMap (λr=>sh (r.length-1) r)++sh (r.length-1) r).Nodup:=by rw [<-fk];exact (sP _ _ _).nodup nd
   have Xz:((R.take i).flatMap (λr=>sh (r.length-1) r)).length+r.length<=5000:=by
    have:=(sP (λr=>sh (r.length-1) r) R (i+1)).length_le;rw [fk,Yr,dG] at this;omega
   have e2:ah H1 (upd H1 pr (.tup [.int i,.ref b])):=ah.upd AS;have g2:=e2 _ _ g1;have qA:=e1.trans e2;refine iK (SqT.of ae) rfl ?_;generalize upd H1 pr (.tup [.int i,.ref b])=H2 at e2 g2 qA ⊢;walk_at "";refine cJ ?_;refine aJ (jd (aJ (SC rfl (bc ⟨_,_,rfl,.inl ⟨_,aN.of (qA _ _ bK),rfl⟩,?_⟩))));rw [Pd];refine bc ⟨(r.length:Int),rfl,Tk _,by omega,?_⟩;rw [Yu];refine bZ (λk σ H8=>∃ (ks:List (aw×Addr)) (v4:Option V),σ=[some (.ref p),some (.ref gd),some (.int (i:Int)),some (.ref b),v4]/\ah H H8/\H8 gd=some (.dT (kC ks))/\ks.map (·.1)=(R.take i).flatMap (λr=>sh (r.length-1) r)++(sh (r.length-1) r).take k/\∀ d a,(d,a)∈ks->∃ c:Int,H8 a=some (.tup [.int c,.int (lo R d)])/\Dt L (c,d.1)/\nx L (c,d.1)=d)
    ⟨ks,_,rfl,qA,g2,by rw [take_zero,ZY];exact kk,λd a h=>let ⟨c,h1,h2⟩:=kv d a h;⟨c,e2 _ _ h1,h2⟩⟩ ?_ ?_
   ·clear kk kv g1 g2 e2 qA;rintro k σ H8 hk ⟨ks,w4,rfl,e8,g8,kk,kv⟩;simp only [Zj];have Iu:=e8 _ _ bK;have ed:(sh (r.length-1) r)[k]?=some (dj r (k+(r.length-1))):=se hk;have es:dj r (k+(r.length-1))=(cy r (k+(r.length-1)),cy r k):=by
     unfold dj;rw [bD (show (k+(r.length-1)+1)%r.length=k%r.length by rw [show k+(r.length-1)+1=k+r.length by omega,Yq])]
    have new:dj r (k+(r.length-1))∉ks.map (·.1):=by
     rw [kk];exact iN kn ed
    refine SL ?_;refine DH (oW (aJ (ST (SC rfl (ST (SC rfl (r_c (hW (bg (aN.of Iu) (fO (j:=(k+(r.length-2))%r.length) (by omega) (by omega) ?_) ?_)))))))))
    ·by_cases z:k<2
     ·rw [YQ (by omega)];right;omega
     ·rw [show k+(r.length-2)=k-2+r.length by omega,Yq,YQ (by omega)];left;omega
    rw [show cy r ((k+(r.length-2))%r.length)=cy r (k+(r.length-2)) from bD (Zv _ _)];refine aJ (SC rfl (bc ⟨Jj,λta Vk=>?_⟩));have e9:ah H8 (upd H8 ta (.tup [.int (cy r (k+(r.length-2))),.int (i:Int)])):=ah.upd Vk;have t9:upd H8 ta (.tup [.int (cy r (k+(r.length-2))),.int (i:Int)]) ta=some (.tup [.int (cy r (k+(r.length-2))),.int (i:Int)]):=ae;generalize upd H8 ta (.tup [.int (cy r (k+(r.length-2))),.int (i:Int)])=H9 at e9 t9 ⊢;have Ir:=e9 _ _ Iu;refine SC rfl (oW (aJ (ST (SC rfl (ST (SC rfl (r_c (hW (bg (aN.of Ir) (fO (j:=(k+(r.length-1))%r.length) (by omega) (by omega) ?_) ?_)))))))))
    ·by_cases z:k<1
     ·rw [YQ (by omega)];right;omega
     ·rw [show k+(r.length-1)=k-1+r.length by omega,Yq,YQ (by omega)];left;omega
    rw [show cy r ((k+(r.length-1))%r.length)=cy r (k+(r.length-1)) from bD (Zv _ _)];refine aJ (ST (SC rfl (SC rfl (bg (aN.of Ir) (fO (j:=k) (by omega) (by omega) (.inl rfl)) (bc ⟨Jj,λtk Oo=>?_⟩)))));have sR:ah H9 (upd H9 tk (.tup [.int (cy r (k+(r.length-1))),.int (cy r k)])):=ah.upd Oo;have O1:upd H9 tk (.tup [.int (cy r (k+(r.length-1))),.int (cy r k)]) tk=some (.tup ((gT (dj r (k+(r.length-1)))).map kV)):=by rw [es];exact ae
    generalize upd H9 tk (.tup [.int (cy r (k+(r.length-1))),.int (cy r k)])=vw at sR O1 ⊢;have G7:=e9.trans sR;have UZ:ks.length<=5000:=by
     have e:=Yt List.length kk;rw [Pd,Yr,YW,dG] at e;omega
    refine ⟨gd,_,rfl,i8.t (k:=gT (dj r (k+(r.length-1)))) (G7 _ _ g8) O1 (by rw [qi,Yz];omega),?_⟩;rw [Mk new];have ag:∀ {a:Addr} {xs:List V},vw a=some (.tup xs)->a≠gd:=λh z=>by rw [z,G7 _ _ g8] at h;cases h
    refine ⟨ks++[(dj r (k+(r.length-1)),ta)],_,rfl,ah.fresh (e8.trans G7) EJ,ae,?_,λd a h=>?_⟩
    ·rw [Yl,kk,take_snoc ed,zab]
     rfl
    ·rcases Ye.mp h with h|h
     ·obtain ⟨c,h1,h2⟩:=kv d a h;have Cd:=G7 _ _ h1;exact ⟨c,by rw [ak (ag Cd)];exact Cd,h2⟩
     ·have h:=X9.mp h;cases h
      have RJ:=sR _ _ t9;refine ⟨cy r (k+(r.length-2)),by rw [ak (ag RJ),jL ld Qc];exact RJ,?_,?_⟩
      ·have:=g.dt (k+(r.length-2));rw [show dj r (k+(r.length-2))=(cy r (k+(r.length-2)),cy r (k+(r.length-2)+1)) from rfl,show k+(r.length-2)+1=k+(r.length-1) by omega] at this;rw [es];exact this
      ·have:=g.st (k+(r.length-2));rw [show dj r (k+(r.length-2))=(cy r (k+(r.length-2)),cy r (k+(r.length-2)+1)) from rfl,show k+(r.length-2)+1=k+(r.length-1) by omega] at this;rw [es] at this ⊢;exact this
   ·rintro σ H8 ⟨ks,w4,rfl,e8,g8,kk,kv⟩;rw [show (sh (r.length-1) r).take r.length=sh (r.length-1) r from zai (by rw [dG];exact X7 _),<-fk] at kk;exact ⟨ks,_,_,_,rfl,e8,g8,kk,kv⟩
  ·rintro σ H1 ⟨ks,v2,v3,v4,rfl,e1,g1,kk,kv⟩;rw [Pd,gp.len,Y6] at kk;walk_at "";refine q gd ks H1 e1 EJ ⟨g1,by rw [kk];exact nd,λd=>?_,kv⟩;rw [kk];constructor
   ·intro h;have h:=(gA R).mem_iff.mp h;obtain ⟨r,yh,hd⟩:=YF.mp h;obtain ⟨j,rfl⟩:=(bu (by have:=(ld.good r yh).two;exact ZJ ‹_›)).mp hd;exact (ld.good r yh).dt j
   ·exact λh=>(gA R).mem_iff.mpr (ld.all d h)
theorem aT:aQ ["_law_rings_here", "_law_corners_here", "_law_found", "_law_place", "_law_first", "_law_other", "_law_ring", "_law_number"] ["_law_rings_here"] (aG dH):=by walk_at "n"
theorem je (D:Def K mg "_law_turned_inside" dH ["_law_rings_here"]) (T:Txt K mg Z) (bW:dA P w K mg base (cQ P w) "_law_places" 1 ["_law_rings_here"] hU) (gz:dA P w K mg base (cQ P w) "_law_corners" 1 ["_law_rings_here"] jr):dA P w K mg base (cQ P w) "_law_turned_inside" 2 ["_law_rings_here"] rX:=by
 refine D.dP aT (λvs H Q E h=>?_) (λf dW A o s H vs Q E hr h=>?_)
 ·obtain ⟨p,as,R,n,rfl,_⟩:=h;rfl
 ·obtain ⟨p,as,R,n,rfl,gp,tr,hn,q⟩:=h;obtain ⟨L,tg,ld,rfl⟩:=id tr;have im:=tg.map;refine ⟨_,(ai (aH (i:=1) aT.nd rfl (by walk_at "L") (aI gz hr bp (aa (pv 0) af)))
   (ai (aH (i:=2) aT.nd rfl (by walk_at "L") (c9 af))
   (ai (bG Yy rfl (bh rfl T.range (aa (aI bW hr bp (aa (pv 0) af)) af)) (aF (i:=3) aT.nd rfl (by walk_at "L"))
   (ai (uo (aH (i:=4) aT.nd rfl (by walk_at "L") (aA (iA rfl) (by rfl) T.min iZ (aa (bV (tg:=["_law_one", "_law_other"]) (fr:=[("_law_place",3)]) (by walk_at "blk_ok") rfl (pD (pv 1)) (λ_ _ _ _ _=>(Az (K:=K) rfl (n:=2) rfl (cK (aF (i:=0) (show [("_law_one":Str),("_law_other":Str),("_law_place":Str)].Nodup by decide +kernel) rfl (by walk_at "L")) (cK (aF (i:=1) (show [("_law_one":Str),("_law_other":Str),("_law_place":Str)].Nodup by decide +kernel) rfl (by walk_at "L")) iM)))) (λ_ _ _ _ _=>(c5 (aM ie (pv 0) (pv 2) (aW _)))) (λ_ _ _ _ _=>(pv 1))) af))))
   (ai (aH (i:=5) aT.nd rfl (by walk_at "L") (pv 4))
   (ai (aH (i:=6) aT.nd rfl (by walk_at "L") (c9 af))
   (ai (fv Yy (PW.pt (pw_or (aM (JL hr.units) (pv 6) (c9 af) (aW _)) (pw_or1 (aM pH (pv 5) (pv 4) (aW _))))) (ai (uq (cZ (bB hr) (pv 1) (bN (aa (pv 3) (aa (pv 5) af))) (λ_ _=>rfl)) (mQ (n:=2) rfl (cK (aF (i:=5) aT.nd rfl (by walk_at "L")) (cK (aF (i:=7) aT.nd rfl (by walk_at "L")) iM))))
   (ao (dw (gs YM Y3 Y4 df (pv 6) (aa (pv 7) af))))))
   (ao (dw (gs YM Y3 Y4 df (pv 2) (aa (pv 6) af)))))))))
   (ao (aS (pv 2)))))),?_⟩
  dsimp only [dS];walk_at "";refine ⟨p,as,L,R,rfl,gp,tg,ld,hn,λgd ks H1 e1 EJ K1=>?_⟩;walk_at "";refine ⟨YK _,λfd EK=>?_⟩;have e2:ah H1 (upd H1 fd (.lst [])):=ah.upd EK;have g2:aX (upd H1 fd (.lst [])) fd [] []:=⟨ae,rfl,λi a l h=>by simp at h⟩;generalize upd H1 fd (.lst [])=H2 at e2 g2 ⊢;walk_at "";refine cJ ?_;refine aJ (mP (aJ (SC rfl (bc ?_))));refine ⟨p,as,R,L.length,rfl,(gp.same e1).same e2,tr,hn,λH3 e3=>?_⟩;refine bc ⟨(L.length:Int),rfl,Tk _,by omega,?_⟩;rw [Yu];refine bZ (λk σ H4=>∃ (bs:XL) (M:UF) (v4 v5 v6 v7 v8:Option V),σ=[some (.ref p),some (.ref gd),some (.ref fd),v4,v5,v6,v7,v8]/\ah H1 H4/\aX H4 fd bs M/\fd∉bs/\M.length=k/\∀ (b:Nat) (q:UV),M[b]?=some q->dD q (rd L R (b:Int)))
   ⟨[],[],none,none,none,none,none,rfl,e2.trans e3,g2.same e3,by simp,rfl,λi l h=>by simp at h⟩ ?_ ?_
  ·rintro k σ H4 hk ⟨bs,M,v4,v5,v6,v7,v8,rfl,e4,g4,Eg,rfl,y9⟩;simp only [Zj];refine SL ?_;have p0:(0:Int)<=(M.length:Int):=Tk _
   have p1:(M.length:Int)<(L.length:Int):=by omega
   have rD:=tg.rD p0 p1;have NG:=K1.same e4;have GR:L[M.length]?=some (tx L (M.length:Int)):=by have:=aE p0 p1;rwa [Yu] at this
   have nd:=im.nd _ _ GR;have rl:=cD nd (n:=L.length) λy hy=>⟨(im.rg _ _ GR y hy).1,(im.rg _ _ GR y hy).2.1⟩;have PL:ks.length<=5000:=by
    have e:(ks.map (·.1)).length=(eJ L L.length).length:=len_eq K1.nd (bJ im (X7 _)) λd=>(K1.mem d).trans ⟨λh=>h.all,λh=>Dt.of h⟩;rw [Pd] at e;have:=qC im (X7 L.length);have:L.length*(L.length-1)<=60*60:=zbj hn (by omega);omega
   refine SZ (xH NG EJ rfl rfl p0 p1 (λz=>by rw [z] at rD;simp at rD) PL λm H5 hm hle e5=>?_);obtain ⟨i0,Lx,KN⟩:=cE hm;have tt:=CU ld im p0 p1 Lx;have OI:=NG.same e5;have r0:0<(tx L (M.length:Int)).length:=by omega
   walk_at "";refine ⟨YK _,λoa Iz=>?_⟩;have e6:ah H5 (upd H5 oa (.lst [])):=ah.upd Iz;have o6:upd H5 oa (.lst []) oa=some (.lst ((fm L R (M.length:Int) i0 0).map V.int)):=ae;generalize upd H5 oa (.lst [])=H6 at e6 o6 ⊢;walk_at "";refine gG (λσ H7=>∃ (t:Nat) (v8:Option V),t<=(tx L (M.length:Int)).length/\σ=[some (.ref p),some (.ref gd),some (.ref fd),some (.int (M.length:Int)),some (.int m),some (.int (cy (tx L (M.length:Int)) (i0+t))),some (.ref oa),v8]/\ah H5 H7/\H7 oa=some (.lst ((fm L R (M.length:Int) i0 t).map V.int)))
    (λσ H7=>100-lenOf (some (.ref oa)) H7) ⟨0,_,YK _,by rw [<-KN];rfl,e6,o6⟩ ?_
   rintro σ H7 ⟨t,w8,ht,rfl,e7,o7⟩;have tl:∀ t,(fm L R (M.length:Int) i0 t).length=t:=λt=>by unfold fm;simp
   refine Jw ?_;refine oY (ST (SC rfl (su (bc ⟨YK _,λz hz=>?_⟩))));have e8:ah H7 (upd H7 z (.lst [])):=ah.upd hz;have z8:upd H7 z (.lst []) z=some (.lst (([]:UV).map V.int)):=ae;generalize upd H7 z (.lst [])=H8 at e8 z8 ⊢;refine ⟨nK (fm L R (M.length:Int) i0 t),nK [],Ai (e8 _ _ o7),Ai z8,shaped_ints _,shaped_ints _,?_⟩;rw [X6 (by decide),G6];refine ⟨_,rfl,?_⟩;by_cases t0:t=0
   ·rw [YC (show fm L R (M.length:Int) i0 t=[] by rw [t0];rfl)];walk_at "";refine w_turn ?_;refine SZ (TW (dQ (SC rfl (oW (aJ (SC rfl (aJ (SC rfl (bc ⟨Jj,λkb M4=>?_⟩)))))))));have e9:ah H8 (upd H8 kb (.tup [.int (M.length:Int),.int (cy (tx L (M.length:Int)) (i0+t))])):=ah.upd M4;have k9:upd H8 kb (.tup [.int (M.length:Int),.int (cy (tx L (M.length:Int)) (i0+t))]) kb=some (.tup ((gT ((M.length:Int),cy (tx L (M.length:Int)) (i0+t))).map kV)):=ae;generalize upd H8 kb (.tup [.int (M.length:Int),.int (cy (tx L (M.length:Int)) (i0+t))])=H9 at e9 k9 ⊢;have NF:=((OI.same e7).same e8).same e9;have dt:Dt L ((M.length:Int),cy (tx L (M.length:Int)) (i0+t)):=⟨p0,p1,dR r0⟩;obtain ⟨a,c,hv,ha,yi,vv⟩:=NF.get dt;have ec:=behind im p0 p1 (j:=i0+t) yi vv;subst ec;refine ⟨gd,.ref a,rfl,by rw [<-hv];exact cP.t NF.top k9,?_⟩;refine iK (SqT.of ha) rfl (gH (SL (gH (SL (o5 ?_)))));have o9:=e9 _ _ (e8 _ _ o7);refine pf (DK (SC rfl ?_));refine ⟨.inl ⟨rfl,_,aN.of o9⟩,?_⟩;refine aJ (SC rfl (bc (dI o9 (by rw [Pd,tl];exact aC (by omega)) ?_)));have Ik:upd H9 oa (.lst ((fm L R (M.length:Int) i0 t).map V.int++[.int (lo R ((M.length:Int),cy (tx L (M.length:Int)) (i0+t)))])) oa=some (.lst ((fm L R (M.length:Int) i0 (t+1)).map V.int)):=by
     rw [ae];unfold fm;rw [Z9,Yl,Yl]
     rfl
    refine ⟨⟨t+1,_,by omega,rfl,ah.fresh ((e7.trans e8).trans e9) Iz,Ik⟩,?_⟩;rw [fE Ik,fE o7];simp only [Pd,tl];omega
   ·rw [Yw (show ¬fm L R (M.length:Int) i0 t=[] from λw=>t0 (by rw [<-tl t,w];rfl))];walk_at "";refine iW (λsN=>?_) (λhe=>?_)
    ·have WV:t<(tx L (M.length:Int)).length:=by
      refine Yd λw=>sN ?_;rw [show i0+t=i0+(tx L (M.length:Int)).length by omega,bD (Yq _ _),KN]
     refine w_turn ?_;refine SZ (TW (dQ (SC rfl (oW (aJ (SC rfl (aJ (SC rfl (bc ⟨Jj,λkb M4=>?_⟩)))))))));have e9:ah H8 (upd H8 kb (.tup [.int (M.length:Int),.int (cy (tx L (M.length:Int)) (i0+t))])):=ah.upd M4;have k9:upd H8 kb (.tup [.int (M.length:Int),.int (cy (tx L (M.length:Int)) (i0+t))]) kb=some (.tup ((gT ((M.length:Int),cy (tx L (M.length:Int)) (i0+t))).map kV)):=ae;generalize upd H8 kb (.tup [.int (M.length:Int),.int (cy (tx L (M.length:Int)) (i0+t))])=H9 at e9 k9 ⊢;have NF:=((OI.same e7).same e8).same e9;have dt:Dt L ((M.length:Int),cy (tx L (M.length:Int)) (i0+t)):=⟨p0,p1,dR r0⟩;obtain ⟨a,c,hv,ha,yi,vv⟩:=NF.get dt;have ec:=behind im p0 p1 (j:=i0+t) yi vv;subst ec;refine ⟨gd,.ref a,rfl,by rw [<-hv];exact cP.t NF.top k9,?_⟩;refine iK (SqT.of ha) rfl (gH (SL (gH (SL (o5 ?_)))));have o9:=e9 _ _ (e8 _ _ o7);refine pf (DK (SC rfl ?_));refine ⟨.inl ⟨rfl,_,aN.of o9⟩,?_⟩;refine aJ (SC rfl (bc (dI o9 (by rw [Pd,tl];exact aC (by omega)) ?_)));have Ik:upd H9 oa (.lst ((fm L R (M.length:Int) i0 t).map V.int++[.int (lo R ((M.length:Int),cy (tx L (M.length:Int)) (i0+t)))])) oa=some (.lst ((fm L R (M.length:Int) i0 (t+1)).map V.int)):=by
      rw [ae];unfold fm;rw [Z9,Yl,Yl]
      rfl
     refine ⟨⟨t+1,_,‹_›,rfl,ah.fresh ((e7.trans e8).trans e9) Iz,Ik⟩,?_⟩;rw [fE Ik,fE o7];simp only [Pd,tl];omega
    ·have te:t=(tx L (M.length:Int)).length:=by
      refine Yd λw=>?_;exact cO nd (i:=i0) (j:=i0+t) (by omega) (by omega) (KN.trans he.symm)
     rw [te] at o7;walk_at "";have II:=(e5.trans e7).trans e8;have g8:=g4.same II;refine ⟨.inl ⟨rfl,_,aN.of g8.top⟩,?_⟩;have Sa:oa≠fd:=λw=>by
      have:=e5 _ _ g4.top;rw [w,this] at Iz;cases Iz
     have bl:=g4.len;refine aJ (SC rfl (bc (dI g8.top (by rw [Pd];exact aC (by omega)) ?_)));have g9:=g8.snoc Eg Sa (e8 _ _ o7);refine ⟨bs++[oa],M++[fm L R (M.length:Int) i0 (tx L (M.length:Int)).length],_,_,_,_,_,rfl,?_,g9,?_,by rw [Yr];rfl,λb q h1=>?_⟩
     ·refine λb o hb=>?_;rw [ak (λw=>by rw [w,EK] at hb;cases hb)];exact II _ _ (e4 _ _ hb)
     ·intro w;rcases Ye.mp w with w|w
      ·exact Eg w
      ·exact Sa (X9.mp w).symm
     ·rw [getElem?_append] at h1;by_cases w:b<M.length
      ·rw [Ya w] at h1;exact y9 b q h1
      ·rw [X6 w] at h1;have il:=(X3.mp h1).1;have:b=M.length:=by simp at il;omega
       subst this;simp at h1;subst h1;exact tt
  ·rintro σ H4 ⟨bs,M,v4,v5,v6,v7,v8,rfl,e4,g4,Eg,ml,y9⟩;walk_at "";exact q fd bs M H4 (e1.trans e4) g4 (tg.turned ld ml y9)
theorem dE:aQ ["_law_head", "_law_rings_here", "_law_k"] ["_law_head"] (aG iG):=by walk_at "n"
theorem qZ (D:Def K mg "_law_rings" iG ["_law_head"]) (T:Txt K mg Z) (xF:dA P w K mg base (cQ P w) "_law_base" 1 ["_law_number"] Aa) (qv:dA P w K mg base (cQ P w) "_law_stacked" 2 ["_law_rings_here", "_law_number", "_law_fresh"] oI) (xC:dA P w K mg base (cQ P w) "_law_tied" 1 ["_law_rings_here", "_law_number"] vS) (bW:dA P w K mg base (cQ P w) "_law_places" 1 ["_law_rings_here"] hU) (jP:dA P w K mg base (cQ P w) "_law_turned_inside" 2 ["_law_rings_here"] rX):dA P w K mg base (cQ P w) "_law_rings" 3 ["_law_head"] r8:=by
 refine D.dP dE (λvs H Q E h=>?_) (λf dW A o s H vs Q E hr h=>?_)
 ·obtain ⟨h,fs,rfl,_⟩:=h;rfl
 ·obtain ⟨hd,fs,rfl,hh,fl,fr,q⟩:=h;have at':∀ (i:Nat) (H':Hp),i<6->ah H H'->∃ x:Int,mq (fs.map V.int) (i:Int)=some (.int x)/\aN K H' hd (fs.map V.int)/\0<=x/\x<10 ^ 61:=λi H' hi e=>by
   have il:i<fs.length:=by omega
   have:=fr fs[i] (Zu il);exact ⟨fs[i],fg (by rw [Yj,X4 il];rfl),aN.of (e _ _ hh),this.1,by omega⟩
  have d3:∀ {x:Int},0<=x->x<10 ^ 61->0<=x / 3/\x / 3<10 ^ 61:=λh0 h1=>⟨Int.ediv_nonneg h0 (by decide),zbS (Int.ediv_le_self _ h0) h1⟩;refine ⟨_,(ai (aH (i:=1) dE.nd rfl (.inl rfl) (aI xF hr bp (aa (aR aK (pv 0) az (λ_ _=>rfl)) af)))
   (ai (bG Yy rfl (bh rfl T.range (aa (aO cN (aR aK (pv 0) az (λ_ _=>rfl)) az) af)) (aF (i:=2) dE.nd rfl (.inl rfl))
   (ao (cR (aM ie (aO cN (aR aK (pv 0) (aO cz az (pv 2)) (λ_ _=>rfl)) az) az (aW _)) (ao (aH (i:=1) dE.nd rfl (.inl rfl) (aI xC hr bp (aa (pv 1) (aa (aO kW (aR aK (pv 0) (aO cz az (pv 2)) (λ_ _=>rfl)) az) af))))) (ao (cR (aM h9 (aI bW hr bp (aa (pv 1) af)) az (aW _)) (ao (aH (i:=1) dE.nd rfl (.inl rfl) (aI qv hr bp (aa (pv 1) (aa (aO kW (aR aK (pv 0) (aO cz az (pv 2)) (λ_ _=>rfl)) az) (aa (aI bW hr bp (aa (pv 1) af)) af)))))) bq)))))
   (ai (cR (PW.pt (pw_and (aM ie (aO cN (aR aK (pv 0) az (λ_ _=>rfl)) az) az (aW _)) (pw_and1 (aM h9 (aA aL (by rfl) T.len aV (aa (pv 1) af)) az (aW _))))) (ao (aH (i:=1) dE.nd rfl (.inl rfl) (aI jP hr bp (aa (pv 1) af)))) bq)
   (ao (aS (pv 1)))))),?_⟩
  dsimp only [dS];walk_at "";obtain ⟨x0,a0,s0,b0,c0⟩:=at' 0 H (TD _) (λ_ _ e=>e);refine bg s0 a0 ?_;walk_at "";refine ⟨x0,rfl,b0,c0,λt bs R m H1 e1 g1 m8 OV=>?_⟩;refine SL ?_;refine SZ (cJ ?_);obtain ⟨x1,a1,s1,b1,c1⟩:=at' 1 H1 (by omega) e1;refine aJ (ST (ST (SC rfl (r_c (bg s1 a1 (r_c (DB (by decide) (bc ?_))))))));have z0:=Zc x1 (show (4:Int)≠0 by decide);have z1:=YZ x1 (show (0:Int)<4 by decide);refine ⟨x1%4,rfl,by omega,by omega,?_⟩;refine bZ (λk σ H2=>∃ (t:Addr) (bs:XL) (R:UF) (n:Nat) (v:Option V),σ=[some (.ref hd),some (.ref t),v]/\ah H H2/\aX H2 t bs R/\n<=8/\TR R n) ⟨t,bs,R,m,none,rfl,e1,g1,m8,OV⟩ ?_ ?_
  ·clear g1 OV m8 e1 s1 a1;rintro k σ H2 hk ⟨t,bs,R,n,v,rfl,e2,g2,n8,CY⟩;simp only [Zj];obtain ⟨x,a,s',xb,xc⟩:=at' (2+k) H2 (by omega) e2;rw [show ((2+k:Nat):Int)=2+(k:Int) by omega] at a;walk_at "";refine bg s' a ?_;walk_at "";refine if2 (λz=>?_) (λz=>?_)
   ·walk_at "";refine bg s' a ?_;walk_at "";refine ⟨t,bs,R,n,x / 3,rfl,g2,CY,by omega,(d3 xb xc).1,(d3 xb xc).2,λt' NJ R' H3 e3 g3 LO=>?_⟩;walk_at "";exact ⟨t',NJ,R',n,_,rfl,e2.trans e3,g3,n8,LO⟩
   ·walk_at "";refine ⟨t,bs,R,n,rfl,g2,CY,by omega,λH3 e3=>?_⟩;walk_at "";refine if2 (λy=>?_) (λy=>?_)
    ·obtain ⟨_,_,s3,_,_⟩:=at' (2+k) H3 (by omega) (e2.trans e3);walk_at "";refine bg s3 a ?_;walk_at "";refine ⟨t,bs,R,n,rfl,g2.same e3,CY,by omega,λH4 e4=>?_⟩;walk_at "";refine ⟨t,bs,R,n,x / 3,rfl,(g2.same e3).same e4,CY,by omega,(d3 xb xc).1,(d3 xb xc).2,λt' NJ R' H5 e5 g5 TX=>?_⟩;walk_at "";exact ⟨t',NJ,R',n+1,_,rfl,((e2.trans e3).trans e4).trans e5,g5,by omega,TX⟩
    ·walk_at "";exact ⟨t,bs,R,n,_,rfl,e2.trans e3,g2.same e3,n8,CY⟩
  ·clear g1 OV m8 e1 s1 a1;rintro σ H2 ⟨t,bs,R,n,v,rfl,e2,g2,n8,CY⟩;dsimp only;obtain ⟨x,a,s',xb,xc⟩:=at' 5 H2 (ZG _) e2;walk_at "";refine bg s' a ?_;walk_at "";by_cases z:x%3=1
   ·rw [YC z];walk_at "";refine ⟨_,_,rfl,.inl ⟨_,aN.of g2.top,rfl⟩,?_⟩;rw [Pd,g2.len];walk_at "";refine if2 (λy=>?_) (λy=>?_)
    ·walk_at "";refine ⟨t,bs,R,n,rfl,g2,CY,by omega,λt' NJ R' H3 e3 g3 LO=>?_⟩;walk_at "";exact q t' NJ R' R.length H3 (e2.trans e3) g3 (by omega) LO
    ·walk_at "";exact q t bs R n H2 e2 g2 n8 CY
   ·rw [Yw z];walk_at "";exact q t bs R n H2 e2 g2 n8 CY
theorem b8:aQ ["_law_rings_here", "_law_number", "_law_corners_here", "_law_found", "_law_place", "_law_first", "_law_order", "_law_turn"] ["_law_rings_here", "_law_number"] (aG gR):=by walk_at "n"
theorem pO (D:Def K mg "_law_orders" gR ["_law_rings_here", "_law_number"]) (T:Txt K mg Z) (eM:dA P w K mg base (cQ P w) "_law_digit" 1 ["_law_number", "_law_base_here", "_law_place"] lD) (bW:dA P w K mg base (cQ P w) "_law_places" 1 ["_law_rings_here"] hU) (gz:dA P w K mg base (cQ P w) "_law_corners" 1 ["_law_rings_here"] jr):dA P w K mg base (cQ P w) "_law_orders" 2 ["_law_rings_here", "_law_number"] oK:=by
 refine D.dP b8 (λvs H Q E h=>?_) (λf dW A o s H vs Q E hr h=>?_)
 ·obtain ⟨p,as,R,n,k,rfl,_⟩:=h;rfl
 ·obtain ⟨p,as,R,n,num,rfl,gp,tr,hn,k0,k1,q⟩:=h;obtain ⟨L,tg,ld,rfl⟩:=id tr;have im:=tg.map;refine ⟨_,(ai (aH (i:=2) b8.nd rfl (by walk_at "L") (aI gz hr bp (aa (pv 0) af)))
   (ai (aH (i:=3) b8.nd rfl (by walk_at "L") (c9 af))
   (ai (bG Yy rfl (bh rfl T.range (aa (aI bW hr bp (aa (pv 0) af)) af)) (aF (i:=4) b8.nd rfl (by walk_at "L"))
   (ai (uo (aH (i:=5) b8.nd rfl (by walk_at "L") (aA (iA rfl) (by rfl) T.min iZ (aa (bV (tg:=["_law_one", "_law_other"]) (fr:=[("_law_place",4)]) (by walk_at "blk_ok") rfl (pD (pv 2)) (λ_ _ _ _ _=>(Az (K:=K) rfl (n:=2) rfl (cK (aF (i:=0) (show [("_law_one":Str),("_law_other":Str),("_law_place":Str)].Nodup by decide +kernel) rfl (by walk_at "L")) (cK (aF (i:=1) (show [("_law_one":Str),("_law_other":Str),("_law_place":Str)].Nodup by decide +kernel) rfl (by walk_at "L")) iM)))) (λ_ _ _ _ _=>(c5 (aM ie (pv 0) (pv 2) (aW _)))) (λ_ _ _ _ _=>(pv 1))) af))))
   (ai (aH (i:=6) b8.nd rfl (by walk_at "L") (c9 (aa (pv 5) af)))
   (ai (fv Yy (aM pH (aR fL (cZ (bB hr) (pv 2) (bN (aa (pv 4) (aa (aR aK (pv 6) (wH oD az) (λ_ _=>rfl)) af))) (λ_ _=>rfl)) az (λ_ _=>rfl)) (pv 5) (aW _)) (ao (dw (gs YM Y3 Y4 df (pv 6) (aa (aR fL (cZ (bB hr) (pv 2) (bN (aa (pv 4) (aa (aR aK (pv 6) (wH oD az) (λ_ _=>rfl)) af))) (λ_ _=>rfl)) az (λ_ _=>rfl)) af)))))
   (ai (aH (i:=7) b8.nd rfl (by walk_at "L") (aO cN (aI eM hr bp (aa (pv 1) (aa az (aa (pv 4) af)))) (aA aL (by rfl) T.len aV (aa (pv 6) af))))
   (ao (dw (gs YM Y3 Y4 df (pv 3) (aa (aO eV (bT dr (pv 6) (cW (pv 7)) cY) (bT dr (pv 6) cY (cW (pv 7)))) af)))))))))
   (ao (aS (pv 3)))))),?_⟩
  dsimp only [dS];walk_at "";refine ⟨p,as,L,R,rfl,gp,tg,ld,hn,λgd ks H1 e1 EJ K1=>?_⟩;walk_at "";refine ⟨YK _,λfd EK=>?_⟩;have e2:ah H1 (upd H1 fd (.lst [])):=ah.upd EK;have g2:aX (upd H1 fd (.lst [])) fd [] []:=⟨ae,rfl,λi a l h=>by simp at h⟩;generalize upd H1 fd (.lst [])=H2 at e2 g2 ⊢;walk_at "";refine cJ ?_;refine aJ (mP (aJ (SC rfl (bc ?_))));refine ⟨p,as,R,L.length,rfl,(gp.same e1).same e2,tr,hn,λH3 e3=>?_⟩;refine bc ⟨(L.length:Int),rfl,by omega,by omega,?_⟩;rw [Yu];refine bZ (λk σ H4=>∃ (bs:XL) (M:UF) (v4 v5 v6 v7:Option V),σ=[some (.ref p),some (.int num),some (.ref gd),some (.ref fd),v4,v5,v6,v7]/\ah H1 H4/\aX H4 fd bs M/\fd∉bs/\M.length=k/\(∀ (i:Nat) (l m:UV),M[i]?=some l->L[i]?=some m->dD l m)/\(fd::bs).Nodup/\∀ b∈fd::bs,H b=none)
   ⟨[],[],none,none,none,none,rfl,e2.trans e3,g2.same e3,by simp,rfl,(λi l m h=>by simp at h),by simp,λb hb=>by rw [X9.mp hb];exact e1.free EK⟩ ?_ ?_
  ·rintro k σ H4 hk ⟨bs,M,v4,v5,v6,v7,rfl,e4,g4,Eg,rfl,y9,PB,QK⟩;simp only [Zj];refine SL ?_;have p0:(0:Int)<=(M.length:Int):=by omega
   have p1:(M.length:Int)<(L.length:Int):=by omega
   have rD:=tg.rD p0 p1;have NG:=K1.same e4;have GR:L[M.length]?=some (tx L (M.length:Int)):=by have:=aE p0 p1;rwa [Yu] at this
   have nd:=im.nd _ _ GR;have rl:=cD nd (n:=L.length) λy hy=>⟨(im.rg _ _ GR y hy).1,(im.rg _ _ GR y hy).2.1⟩;have PL:ks.length<=5000:=by
    have e:(ks.map (·.1)).length=(eJ L L.length).length:=len_eq K1.nd (bJ im (X7 _)) λd=>(K1.mem d).trans ⟨λh=>h.all,λh=>Dt.of h⟩;rw [Pd] at e;have:=qC im (X7 L.length);have:L.length*(L.length-1)<=60*60:=zbj hn (by omega);omega
   refine SZ (xH NG EJ rfl rfl p0 p1 (λz=>by rw [z] at rD;simp at rD) PL λm H5 hm hle e5=>?_);generalize bK:tx L (M.length:Int)=row at rD nd rl hm hle GR;obtain ⟨i0,Lx,KN⟩:=cE hm;have OI:=NG.same e5;have r0:0<row.length:=by omega
   walk_at "";refine ⟨by rw [Yz];simp,λoa Iz=>?_⟩;have e6:ah H5 (upd H5 oa (.lst [.int m])):=ah.upd Iz;have o6:upd H5 oa (.lst [.int m]) oa=some (.lst ((bU row i0 (0+1)).map V.int)):=by
    rw [ae,<-KN];rfl
   generalize upd H5 oa (.lst [.int m])=H6 at e6 o6 ⊢
   -- LL mE OH tell behind mE last one
   have tell:∀ (t:Nat) (H7:Hp) (Qk:VK),ah H5 H7->H7 oa=some (.lst ((bU row i0 (t+1)).map V.int))->(∀ H8,ah H7 H8->Qk (.int (cy row (i0+t+1))) H8)->C4 (Jz K) (zP (fI 2) (Jc (kz (fI 4) (kz (C4 (Gd K) (fI 6) (O0 (rU λi=>V.int (-i)) (tC (V.int 1)))) yt)))) (tC (V.int 0)) [some (.ref p),some (.int num),some (.ref gd),some (.ref fd),some (.int (M.length:Int)),some (.int m),some (.ref oa),v7] H7 Qk:=λt H7 Qk e7 o7 qk=>by
    refine ST (dQ (SC rfl (oW (aJ (SC rfl (aJ (ST (SC rfl (F4 (r_c (F7 ?_)))))))))));refine bg (aN.of o7) (show mq ((bU row i0 (t+1)).map V.int) (-1)=some (.int (cy row (i0+t))) from Fc (n:=t) (aZ _ _ _) (mw (by omega))) ?_;refine bc ⟨Jj,λkb M4=>?_⟩;have e8:ah H7 (upd H7 kb (.tup [.int (M.length:Int),.int (cy row (i0+t))])):=ah.upd M4;have k8:upd H7 kb (.tup [.int (M.length:Int),.int (cy row (i0+t))]) kb=some (.tup ((gT ((M.length:Int),cy row (i0+t))).map kV)):=ae;generalize upd H7 kb (.tup [.int (M.length:Int),.int (cy row (i0+t))])=H8 at e8 k8 ⊢;have TB:=(OI.same e7).same e8;have dt:Dt L ((M.length:Int),cy row (i0+t)):=⟨p0,p1,by rw [bK];exact dR r0⟩;obtain ⟨a,c,hv,ha,yi,vv⟩:=TB.get dt;have ec:c=cy row (i0+t+1):=by
     have:=behind im p0 p1 (j:=i0+t) yi (by rw [bK];exact vv);rwa [bK] at this
    refine ⟨gd,.ref a,rfl,by rw [<-hv];exact cP.t TB.top k8,r_c (DF (SqT.of ha) rfl ?_)⟩;rw [ec];exact qk H8 e8
   walk_at "";refine gG (λσ H7=>∃ t:Nat,t<row.length/\σ=[some (.ref p),some (.int num),some (.ref gd),some (.ref fd),some (.int (M.length:Int)),some (.int m),some (.ref oa),v7]/\ah H5 H7/\H7 oa=some (.lst ((bU row i0 (t+1)).map V.int)))
    (λσ H7=>100-lenOf (some (.ref oa)) H7) ⟨0,r0,rfl,e6,o6⟩ ?_
   rintro σ H7 ⟨t,ht,rfl,e7,o7⟩;refine oY (ST (tell t H7 _ e7 o7 λH8 e8=>?_));walk_at "";have o8:=e8 _ _ o7;refine iW (λsN=>?_) (λhe=>?_)
   ·have tl:t+1<row.length:=by
     refine Yd λz=>sN ?_;rw [show i0+t+1=i0+row.length by omega,bD (Yq _ _),KN]
    refine w_turn ?_;refine pf (DK (SC rfl ⟨.inl ⟨rfl,_,aN.of o8⟩,?_⟩));refine aJ (tell t H8 _ (e7.trans e8) o8 λH9 e9=>?_);have o9:=e9 _ _ o8;refine bc (dI o9 (by rw [Pd,aZ];exact aC (by omega)) ?_);have Ik:upd H9 oa (.lst ((bU row i0 (t+1)).map V.int++[.int (cy row (i0+t+1))])) oa=some (.lst ((bU row i0 (t+1+1)).map V.int)):=by
     rw [ae,oC (m:=t+1),Yl];rfl
    refine ⟨⟨t+1,tl,rfl,ah.fresh ((e7.trans e8).trans e9) Iz,Ik⟩,?_⟩;rw [fE Ik,fE o7];simp only [Pd,aZ];omega
   ·have tl:t+1=row.length:=by
     refine Yd λz=>?_;exact cO nd (i:=i0) (j:=i0+t+1) (by omega) (by omega) (KN.trans he.symm)
    rw [tl,<-tI (by omega)] at o8;have Xd:(cU row i0).length=row.length:=cV (by omega);have Dq:(0:Int)<((cU row i0).length:Int):=by omega
    walk_at "";refine ⟨num,7,(M.length:Int),rfl,k0,k1,by decide,by decide,p0,by omega,λd d0 d1=>?_⟩;walk_at "";refine ⟨_,_,rfl,.inl ⟨_,aN.of o8,rfl⟩,?_⟩;rw [Pd];walk_at "";have t0:=Zc d (show ((cU row i0).length:Int)≠0 by omega);have t1:=YZ d Dq;obtain ⟨tn,Vj⟩:=Ys t0;rw [Vj] at t1 ⊢;have II:=(e5.trans e7).trans e8;have g8:=g4.same II;refine ⟨.inl ⟨rfl,_,aN.of g8.top⟩,?_⟩;refine aJ (ST (eC (SC rfl ⟨_,rfl,(tn:Int),rfl,oa,_,rfl,aN.of o8,λx hx=>?_⟩)));rw [jS (by omega)];have e9:ah H8 (upd H8 x (.lst (((cU row i0).drop tn).map V.int))):=ah.upd hx;have x9:upd H8 x (.lst (((cU row i0).drop tn).map V.int)) x=some (.lst (((cU row i0).drop tn).map V.int)):=ae;generalize upd H8 x (.lst (((cU row i0).drop tn).map V.int))=H9 at e9 x9 ⊢;refine eC (SC rfl ⟨_,rfl,(tn:Int),rfl,oa,_,rfl,aN.of (e9 _ _ o8),λy hy=>?_⟩);rw [iu (by omega)];have sR:ah H9 (upd H9 y (.lst (((cU row i0).take tn).map V.int))):=ah.upd hy;have Rz:upd H9 y (.lst (((cU row i0).take tn).map V.int)) y=some (.lst (((cU row i0).take tn).map V.int)):=ae;generalize upd H9 y (.lst (((cU row i0).take tn).map V.int))=vw at sR Rz ⊢;refine ⟨x,y,_,_,rfl,rfl,sR _ _ x9,Rz,by rw [Pd,Pd,Zs,YW,Yz];omega,λc hc=>?_⟩;have IK:ah vw (upd vw c (.lst (((cU row i0).drop tn).map V.int++((cU row i0).take tn).map V.int))):=ah.upd hc;have TC:upd vw c (.lst (((cU row i0).drop tn).map V.int++((cU row i0).take tn).map V.int)) c=some (.lst ((cU (cU row i0) tn).map V.int)):=by
     rw [ae];unfold cU;rw [Yl]
    generalize upd vw c (.lst (((cU row i0).drop tn).map V.int++((cU row i0).take tn).map V.int))=Fs at IK TC ⊢;have EW:=II.trans ((e9.trans sR).trans IK);have Np:=g4.same EW;have Q2:c≠fd:=λz=>by
     have:=(II.trans (e9.trans sR)) _ _ g4.top;rw [z,this] at hc;cases hc
    have bl:=g4.len;refine bc (dI Np.top (by rw [Pd];exact aC (by omega)) ?_);have LB:=Np.snoc Eg Q2 TC;refine ⟨bs++[c],M++[cU (cU row i0) tn],_,_,_,_,rfl,?_,LB,?_,by rw [Yr];rfl,(λi l m' h1 h2=>?_),?_,λb hb=>?_⟩
    ·refine λb o hb=>?_;rw [ak (λz=>by rw [z,EK] at hb;cases hb)];exact EW _ _ (e4 _ _ hb)
    ·intro z;rcases Ye.mp z with z|z
     ·exact Eg z
     ·exact Q2 (X9.mp z).symm
    ·rw [getElem?_append] at h1;by_cases z:i<M.length
     ·rw [Ya z] at h1;exact y9 i l m' h1 h2
     ·rw [X6 z] at h1;have il:=(X3.mp h1).1;have:i=M.length:=by simp at il;omega
      subst this;rw [GR] at h2;cases h2
      simp at h1;subst h1;exact dD.trans (.inr ⟨tn,by omega,rfl⟩) (.inr ⟨i0,Lx,rfl⟩)
    ·obtain ⟨n1,n2⟩:=Yp.mp PB;have nc:c∉bs:=λz=>by
      have:=(g4.same (II.trans (e9.trans sR))).gJ hc;exact this (X8 _ z)
     refine Yp.mpr ⟨λz=>?_,lE.mpr ⟨nc,n2⟩⟩;rcases Ye.mp z with z|z
     ·exact n1 z
     ·exact Q2 (X9.mp z).symm
    ·rcases Yk.mp hb with z|z
     ·rw [z];exact e1.free EK
     ·rcases Ye.mp z with z|z
      ·exact QK b (X8 _ z)
      ·rw [X9.mp z];exact (e1.trans (e4.trans (II.trans (e9.trans sR)))).free hc
  ·rintro σ H4 ⟨bs,M,v4,v5,v6,v7,rfl,e4,g4,Eg,ml,y9,PB,QK⟩;walk_at "";have rm:ck M L:=⟨ml,y9⟩;exact q fd bs M H4 (e1.trans e4) g4 PB QK ⟨rm.bS tg.bS,rm.mj im tg.mj,rm.zN tg.zN,by rw [ml];exact tg.four⟩ ml
theorem dZ:aQ ["_law_rings_here", "_law_number", "_law_names", "_law_k", "_law_j", "_law_kept"] ["_law_rings_here", "_law_number"] (aG iH):=by walk_at "n"
theorem rh (D:Def K mg "_law_named" iH ["_law_rings_here", "_law_number"]) (T:Txt K mg Z) (eM:dA P w K mg base (cQ P w) "_law_digit" 1 ["_law_number", "_law_base_here", "_law_place"] lD) (bW:dA P w K mg base (cQ P w) "_law_places" 1 ["_law_rings_here"] hU):dA P w K mg base (cQ P w) "_law_named" 2 ["_law_rings_here", "_law_number"] vR:=by
 refine D.dP dZ (λvs H Q E h=>?_) (λf dW A o s H vs Q E hr h=>?_)
 ·obtain ⟨p,as,R,n,k,rfl,_⟩:=h;rfl
 ·obtain ⟨p,as,R,n,num,rfl,gp,tr,hn,k0,k1,q⟩:=h;have four:=tr.four;refine ⟨_,(ai (aH (i:=2) dZ.nd rfl (by walk_at "L") (lQ rfl T.range T.list (aI bW hr bp (aa (pv 0) af))))
   (ai (bG Yy rfl (BM rfl T.range (aa (aO jF (aA aL (by rfl) T.len aV (aa (pv 2) af)) az) (aa az (aa (wH oD az) af)))) (aF (i:=3) dZ.nd rfl (by walk_at "L"))
   (ai (aH (i:=4) dZ.nd rfl (by walk_at "L") (aO cN (aI eM hr bp (aa (pv 1) (aa az (aa (pv 3) af)))) (aO cz (pv 3) az)))
   (ai (aH (i:=5) dZ.nd rfl (by walk_at "L") (aR aK (pv 2) (pv 3) (λ_ _=>rfl)))
   (ai (uq (aR aK (pv 2) (pv 4) (λ_ _=>rfl)) (yK (pv 2) (pv 3) set_list))
   (ao (uq (pv 5) (yK (pv 2) (pv 4) set_list)))))))
   (ao (aS (bV (tg:=["_law_ring"]) (fr:=[("_law_names",2)]) (by walk_at "blk_ok") rfl (bL (pv 0)) (λ_ _ _ _ _=>(aF (i:=0) (show [("_law_ring":Str),("_law_names":Str)].Nodup by decide +kernel) rfl (by walk_at "L"))) (λ_ _ _ _ _=>c8) (by intro _ _ _ _ _;exact bV (tg:=["_law_place"]) (fr:=[("_law_names",1)]) (by walk_at "blk_ok") rfl (by exact (DW (K:=K) rfl (pv 0))) (by exact (λ_ _ _ _ _=>(aF (i:=0) (show [("_law_place":Str),("_law_names":Str)].Nodup by decide +kernel) rfl (by walk_at "L")))) (by exact (λ_ _ _ _ _=>c8)) (by exact (λ_ _ _ _ _=>(aR (lZ (K:=K) rfl) (pv 1) (pv 0) (λ_ _=>rfl)))))))))),?_⟩
  dsimp only [dS];refine SZ (TW (sv (mP (aJ (SC rfl (bc ⟨p,as,R,n,rfl,gp,tr,hn,λH1 e1=>⟨n,rfl,by omega,λna SQ=>?_⟩⟩))))));have e2:ah H1 (upd H1 na (.lst ((bX n).map V.int))):=ah.upd SQ;have n2:upd H1 na (.lst ((bX n).map V.int)) na=some (.lst ((bX n).map V.int)):=ae;generalize upd H1 na (.lst ((bX n).map V.int))=H2 at e2 n2 ⊢;have Sl:=e1.free SQ;have qA:=e1.trans e2;refine SL ?_;dsimp only;refine SZ (cJ ?_);refine aJ (ST (jd (aJ (SC rfl (bc ⟨_,_,rfl,.inl ⟨_,aN.of n2,rfl⟩,?_⟩)))));rw [Pd,b7];refine r_c (hW (aJ (r_c (aJ (F4 (r_c (F7 (bc ⟨(n:Int)-1,0,rfl,⟨by omega,by omega,by omega,by omega⟩,?_⟩))))))));refine zh (λt σ H3=>∃ (l:UV) (v3 v4 v5:Option V),σ=[some (.ref p),some (.int num),some (.ref na),v3,v4,v5]/\ah H H3/\H3 na=some (.lst (l.map V.int))/\oA n l)
   ⟨bX n,none,none,none,rfl,qA,n2,⟨b7 n,fb n,λx hx=>bM.mp hx⟩⟩ ?_ ?_
  ·rintro t σ H3 ht ⟨l,v3,v4,v5,rfl,e3,n3,nm⟩;obtain ⟨k,hk,kn⟩:∃ k:Nat,(n:Int)-1-(t:Int)=(k:Int)/\k<n:=⟨((n:Int)-1-(t:Int)).toNat,by omega,by omega⟩;rw [hk];have ll:=nm.len;have kp:(0:Int)<(k:Int)+1:=by omega
   refine SL ?_;dsimp only;refine SZ (TW (ST (mP (aJ (SC rfl (aJ (r_c (aJ (SC rfl (bc ⟨num,11,(k:Int),rfl,k0,k1,by decide,by decide,by omega,by omega,λd d0 d1=>?_⟩))))))))));refine ST (SC rfl (r_c (hW (DB kp (SL ?_)))));have j0:=Zc d (show (k:Int)+1≠0 by omega);have j1:=YZ d kp;obtain ⟨j,hj⟩:=Ys j0;rw [hj] at j1 ⊢;have jl:j<l.length:=by omega
   have kl:k<l.length:=by omega
   refine SZ (TW (ST (SC rfl (SC rfl (bg (aN.of n3) (show mq (l.map V.int) ((k:Nat):Int)=some (.int l[k]) from fg (by rw [Yj,X4 kl];rfl)) (SL ?_))))));refine SZ (TW (ST (SC rfl (SC rfl (bg (aN.of n3) (show mq (l.map V.int) ((j:Nat):Int)=some (.int l[j]) from fg (by rw [Yj,X4 jl];rfl)) ?_)))));refine yH (SC rfl (SC rfl ⟨na,l.map V.int,(k:Int),k,rfl,rfl,n3,by rw [Pd,yZ (by omega) (by omega),Yu],?_⟩));rw [<-map_set];have e4:ah H (upd H3 na (.lst ((l.set k l[j]).map V.int))):=ah.fresh e3 Sl;have n4:upd H3 na (.lst ((l.set k l[j]).map V.int)) na=some (.lst ((l.set k l[j]).map V.int)):=ae;generalize upd H3 na (.lst ((l.set k l[j]).map V.int))=H4 at e4 n4 ⊢;refine TW (SC rfl (yH (SC rfl (SC rfl ⟨na,(l.set k l[j]).map V.int,(j:Int),j,rfl,rfl,n4,by rw [Pd,zaG,yZ (by omega) (by omega),Yu],?_⟩))));rw [<-map_set];exact ⟨_,_,_,_,rfl,ah.fresh e4 Sl,ae,Ei nm jl kl⟩
  ·rintro σ H3 ⟨l,v3,v4,v5,rfl,e3,n3,nm⟩;have yo:=gp.same e3;dsimp only;refine nD (bR ?_);refine ⟨_,rfl,p,rfl,⟨_,aN.of yo.top⟩,λacc a9=>?_⟩;refine Dr (K:=K) (rest:=[some (.ref na)]) (List.map (fK l)) yo (λb r H' Q' yh e' hb q'=>?_) a9 (by have:=tr.many;omega) λcs H4 e4 g4 Mu KI=>?_
   ·have n':=e' _ _ n3;obtain ⟨r3,rn,N2,O4⟩:=tr.ring yh;refine bR ?_;refine ⟨_,rfl,b,rfl,⟨_,aN.of hb⟩,λc hc=>?_⟩;refine cF (K:=K) (a:=b) (xs:=r.map V.int) (λi σ' ys Hx=>∃ v:Option V,σ'=[v,some (.ref na)]/\ys=((r.take i).map (fK l)).map V.int/\ah H' Hx/\Hx c=some (.lst ys))
     ⟨none,rfl,rfl,ah.upd hc,ae⟩ (by rintro i σ' ys Hx _ ⟨_,_,_,e,_⟩;exact aN.of (e _ _ hb)) ?_ ?_
    ·rintro i x σ' ys Hx hx hi ⟨v,rfl,rfl,e5,h5⟩;rw [Pd] at hi;obtain rfl:x=V.int r[i]:=by
      rw [Yj,X4 hi] at hx;exact (Yf hx).symm
     have rg:=O4 r[i] (Zu _);have SG:(r[i]).toNat<l.length:=by rw [nm.len];omega
     refine SL (kP (GN (ST (SC rfl (SC rfl (bg (aN.of (e5 _ _ n')) (show mq (l.map V.int) r[i]=some (.int (fK l r[i])) from ?_) ?_))))))
     ·have:=fg (xs:=l.map V.int) (j:=(r[i]).toNat) (v:=V.int (fK l r[i])) (by rw [Yj,oq rg.1 (by rw [nm.len];exact rg.2)];rfl);rwa [Z1 rg.1] at this
     ·refine ⟨h5,by rw [Pd,Pd,YW];exact aC (by omega),bQ (by rw [Pd];exact hi) ⟨_,rfl,?_,ah.fresh e5 hc,ae⟩⟩;rw [take_snoc (X4 hi),Yl,Yl]
      rfl
    ·rintro σ' ys Hx ⟨v,rfl,rfl,e5,h5⟩;rw [Pd,Y6] at h5;exact q' c Hx e5 hc h5
   ·exact q acc cs _ H4 (e3.trans e4) g4 (tr.named nm)
theorem lI:aQ ["_law_orders_here", "_law_ring", "_law_other", "_law_both"] ["_law_orders_here", "_law_ring", "_law_other"] (aG jz):=by walk_at "n"
theorem uG (D:Def K mg "_law_meet" jz ["_law_orders_here", "_law_ring", "_law_other"]) (T:Txt K mg Z):dA P w K mg base (cQ P w) "_law_meet" 1 ["_law_orders_here", "_law_ring", "_law_other"] zV:=by
 refine D.dP lI (λvs H Q E h=>?_) (λf dW A o s H vs Q E hr h=>?_)
 ·obtain ⟨p,ra,sa,as,L,r,s,rfl,_⟩:=h;rfl
 ·obtain ⟨p,ra,sa,as,L,r,sl,rfl,gp,Iw,Oq,Xh,two,rg,jg,q⟩:=h;refine ⟨_,(ai (iL (i:=3) lI.nd rfl (.inl rfl) (tg:=["_law_place"]) (fr:=[("_law_other",2)]) (by walk_at "blk_ok") rfl (bL (pv 1)) (λ_ _ _ _ _=>(aF (i:=0) (show [("_law_place":Str),("_law_other":Str)].Nodup by decide +kernel) rfl (.inl rfl))) (λ_ _ _ _ _=>(c5 (aM (yN (K:=K) rfl) (pv 0) (pv 1) (by with_unfolding_all rfl)))) (λ_ _ _ _ _=>(pv 0)))
   (ai (cR (aM ie (aA aL (by rfl) T.len aV (aa (pv 3) af)) az (aW _)) (ao (aS (uw j7 (aR aK (pv 3) az (λ_ _=>rfl)) (aR aK (pv 0) (aR aK (pv 3) az (λ_ _=>rfl)) (λ_ _=>rfl)) (by with_unfolding_all rfl)))) bq)
   (ao (aS (uw h9 (aA aL (by rfl) T.len aV (aa (pv 3) af)) az (aW _)))))),?_⟩
  dsimp only [dS];walk_at "";refine bR ?_;refine ⟨_,rfl,ra,rfl,⟨_,aN.of Iw⟩,λacc a9=>?_⟩;refine cF (K:=K) (a:=ra) (xs:=r.map V.int) (λj σ' ys H2=>∃ v:Option V,σ'=[v,some (.ref sa)]/\ys=((r.take j).filter λx=>decide (x∈sl)).map V.int/\ah H H2/\H2 acc=some (.lst ys))
   ⟨none,rfl,rfl,ah.upd a9,ae⟩ (by rintro j σ' ys H2 _ ⟨_,_,_,e,_⟩;exact aN.of (e _ _ Iw)) ?_ ?_
  ·rintro j x σ' ys H2 hx hj ⟨v,rfl,rfl,e2,h2⟩;rw [Pd] at hj;obtain rfl:x=V.int r[j]:=by
    rw [Yj,X4 hj] at hx;exact (Yf hx).symm
   have fl:((r.take j).filter λx=>decide (x∈sl)).length<=60:=Y2 (Zy _ _) (by rw [YW];omega);walk_at "";refine BI (ns:=sl) (aN.of (e2 _ _ Oq)) ?_;refine ⟨_,rfl,?_⟩;by_cases z:r[j]∈sl
   ·rw [X6 Yo,YC z];refine GN (SC rfl ⟨h2,by rw [Pd];exact aC (by omega),bQ (by rw [Pd];exact hj) ⟨_,rfl,?_,ah.fresh e2 a9,ae⟩⟩);rw [take_snoc (X4 hj),Zx,Yl,Z5,Ya (YC z)]
    rfl
   ·rw [X6 Yo,Yw z];refine Ol (bQ (by rw [Pd];exact hj) ⟨_,rfl,?_,e2,h2⟩);rw [take_snoc (X4 hj),Zx,Yl,Z5,X6 (by simpa using z)];simp
  ·rintro σ' ys H2 ⟨v,rfl,rfl,e2,h2⟩;rw [Pd,Y6] at h2;have mem:∀ x∈(r.filter λx=>decide (x∈sl)),x∈r:=λx hx=>(Zb.mp hx).1;generalize (r.filter λx=>decide (x∈sl))=l at h2 two jg mem;walk_at "";refine ⟨_,_,rfl,.inl ⟨_,aN.of h2,rfl⟩,?_⟩;rw [Pd];walk_at "";refine if2 (λz=>?_) (λz=>?_)
   ·obtain ⟨a,b,rfl⟩:∃ a b,l=[a,b]:=by
     match l,z with
     | [a,b],_=>exact ⟨a,b,rfl⟩
     | [],z=>simp at z
     | [_],z=>simp at z
     | _::_::_::_,z=>simp at z;omega
    have ma:=rg a (mem a (by simp));obtain ⟨n,rfl⟩:=Ys ma.1;obtain ⟨c,row,hc,bK,hH⟩:=gp.at (i:=n) (by omega);have er:=bE bK;have sq:aN K H2 acc [.int ((n:Nat):Int),.int b]:=aN.of h2;walk_at "";refine bg (aN.of (e2 _ _ gp.top)) (gp.ix hc) ?_;refine BI (ns:=row) (aN.of (e2 _ _ hH)) ?_;rw [X6 Yo,YC (by rw [<-er];exact jg _ _ rfl)];exact q _ e2
   ·walk_at "";refine ⟨_,_,rfl,.inl ⟨_,aN.of h2,rfl⟩,?_⟩;rw [Pd];walk_at "";rw [YC (by omega)];exact q _ e2
theorem gM:aQ ["_law_script", "_law_head", "_law_orders_here", "_law_rings_here", "_law_k", "_law_other", "_law_least", "_law_first", "_law_at", "_law_place"] ["_law_script"] (aG oT):=by walk_at "n"
theorem JN (F:Ld K "law" "law" oT fa fd) (T:Txt K mg Z) (GY:dA P w K mg base (cQ P w) "lands" 3 ["orders"] vV) (GX:dA P w K mg base (cQ P w) "roads" 3 ["orders", "one", "other"] vQ) (Nf:dA P w K mg base (cQ P w) "few" 2 ["orders"] Dg) (KC:dA P w K mg base (cQ P w) "hues" 4 ["orders"] zW)
  (iX:dA P w K mg base (cQ P w) "_law_whole" 1 ["_law_found"] oH) (qw:dA P w K mg base (cQ P w) "_law_numbers" 1 ["_law_script", "_law_many"] (oJ K)) (uX:dA P w K mg base (cQ P w) "_law_rings" 3 ["_law_head"] r8) (rA:dA P w K mg base (cQ P w) "_law_orders" 2 ["_law_rings_here", "_law_number"] oK) (uY:dA P w K mg base (cQ P w) "_law_named" 2 ["_law_rings_here", "_law_number"] vR) (xD:dA P w K mg base (cQ P w) "_law_meet" 1 ["_law_orders_here", "_law_ring", "_law_other"] zV) (xE:dA P w K mg base (cQ P w) "_law_hues" 2 ["_law_orders_here", "_law_found"] vT):rO P w K mg base (cQ P w) 12 fa fd ["_law_script"] (tP K):=by
 refine F.okN gM (λvs H Q E h=>?_) (λdW A o s H vs Q E hr h=>?_)
 ·obtain ⟨a,ns,rfl,_⟩:=h;rfl
 ·obtain ⟨a,ns,rfl,hS,hlen,kq⟩:=h;refine ⟨_,(ai (aH (i:=1) gM.nd rfl (.inl rfl) (aI qw hr bp (aa (pv 0) (aa az af))))
   (ai (aH (i:=2) gM.nd rfl (.inl rfl) (aI rA hr bp (aa (aI uY hr bp (aa (aI uX hr bp (aa (pv 1) af)) (aa (aR aK (pv 1) az (λ_ _=>rfl)) af))) (aa (aR aK (pv 1) az (λ_ _=>rfl)) af))))
   (ai (aH (i:=3) gM.nd rfl (.inl rfl) (aI GY hr bp (aa (pv 2) af)))
   (ai (bG Yy rfl (bh rfl T.range (aa (aA aL (by rfl) T.len aV (aa (pv 3) af)) af)) (aF (i:=4) gM.nd rfl (.inl rfl))
   (ai (cR (PW.pt (pw_or (aM h9 (aA aL (by rfl) T.len aV (aa (aR aK (pv 3) (pv 4) (λ_ _=>rfl)) af)) az (aW _)) (pw_or1 (aM h9 (aA Cp (by rfl) T.len aV (aa (sE (Cn rfl) (by rfl) T.set K2 (aa (aR aK (pv 3) (pv 4) (λ_ _=>rfl)) af)) af)) (aA aL (by rfl) T.len aV (aa (aR aK (pv 3) (pv 4) (λ_ _=>rfl)) af)) (aW _))))) (ao (aS eQ)) bq)
   (ao (bG Yy rfl (bL (bT dr (pv 3) cY (cW (pv 4)))) (aF (i:=5) gM.nd rfl (.inl rfl))
   (ao (cR (um (uk (aI xD hr bp (aa (pv 2) (aa (aR aK (pv 3) (pv 4) (λ_ _=>rfl)) (aa (pv 5) af)))))) (ao (aS eQ)) bq))))))
   (ai (aH (i:=6) gM.nd rfl (.inl rfl) (aA (iA rfl) (by rfl) T.min iZ (aa (bV (tg:=["_law_order"]) (fr:=[]) (by walk_at "blk_ok") rfl (bL (pv 2)) (λ_ _ _ _ _=>(aF (i:=0) (show [("_law_order":Str)].Nodup by decide +kernel) rfl (.inl rfl))) (λ_ _ _ _ _=>c8) (λ_ _ _ _ _=>(aA (kg (K:=K) rfl) (by rfl) T.len aV (aa (pv 0) af)))) af)))
   (ai (cR (PW.pt (pw_or (aM h9 (pv 6) az (aW _)) (pw_or1 (PW.pt (pw_and (aM pI (pv 6) az (aW _)) (pw_and1 (aM pI (aA (iA rfl) (by rfl) T.min iZ (aa (bV (tg:=["_law_ring"]) (fr:=[]) (by walk_at "blk_ok") rfl (bL (pv 3)) (λ_ _ _ _ _=>(aF (i:=0) (show [("_law_ring":Str)].Nodup by decide +kernel) rfl (.inl rfl))) (λ_ _ _ _ _=>c8) (λ_ _ _ _ _=>(aA (kg (K:=K) rfl) (by rfl) T.len aV (aa (pv 0) af)))) af)) az (aW _)))))))) (ao (aS eQ)) bq)
   (ai (aH (i:=7) gM.nd rfl (.inl rfl) (aI Nf hr bp (aa (pv 2) af)))
   (ai (cR (PW.pt (pw_or (um (uk (aI iX hr bp (aa (pv 7) af)))) (pw_or1 (aM pH (gs YM PySem.F.slot_list_index PySem.F.type_list_index BS (bV (tg:=["_law_order"]) (fr:=[]) (by walk_at "blk_ok") rfl (bL (pv 2)) (λ_ _ _ _ _=>(aF (i:=0) (show [("_law_order":Str)].Nodup by decide +kernel) rfl (.inl rfl))) (λ_ _ _ _ _=>c8) (λ_ _ _ _ _=>(uw pI (aA (kg (K:=K) rfl) (by rfl) T.len aV (aa (pv 0) af)) az (aW _)))) (aa eQ af)) (pv 7) (aW _))))) (ao (aS eQ)) bq)
   (ai (aH (i:=8) gM.nd rfl (.inl rfl) (aO cN (aR aK (pv 1) az (λ_ _=>rfl)) (aA aL (by rfl) T.len aV (aa (pv 2) af))))
   (ai (bG Yy rfl (bh rfl T.range (aa (aA aL (by rfl) T.len aV (aa (pv 2) af)) af)) (aF (i:=9) gM.nd rfl (.inl rfl))
   (ao (cR (PW.pt (pw_and (aM pH (pv 9) (pv 8) (aW _)) (pw_and1 (aM pH (aR fL (aI GX hr bp (aa (pv 2) (aa (pv 9) (aa (pv 8) af)))) az (λ_ _=>rfl)) yL (aW _))))) (ao (aS eQ)) bq)))
   (ao (aS (aI xE hr bp (aa (pv 2) (aa (aI KC hr bp (aa (pv 2) af)) af))))))))))))))),?_⟩
  dsimp only [dS];walk_at "";refine ⟨a,ns,10,rfl,hS,hlen,by decide,by decide,λhd fs H1 e1 XJ h1 fl fr=>?_⟩;have at':∀ (i:Nat) (H':Hp),i<10->ah H1 H'->∃ x:Int,mq (fs.map V.int) (i:Int)=some (.int x)/\aN K H' hd (fs.map V.int)/\0<=x/\x<10 ^ 61:=λi H' hi e=>by
   have il:i<fs.length:=by omega
   have:=fr fs[i] (Zu il);exact ⟨fs[i],fg (by rw [Yj,X4 il];rfl),aN.of (e _ _ h1),this.1,by omega⟩
  walk_at "";refine ⟨hd,fs,rfl,h1,by omega,fr,λt2 b2 R2 n H2 e2 g2 n8 CY=>?_⟩;obtain ⟨x6,a6,s6,p6,q6⟩:=at' 6 H2 (by decide) e2;walk_at "";refine bg s6 a6 ?_;walk_at "";refine ⟨t2,b2,R2,n,x6,rfl,g2,CY,by omega,p6,q6,λt3 b3 R3 H3 e3 g3 LO=>?_⟩;obtain ⟨x7,a7,s7,p7,q7⟩:=at' 7 H3 (by decide) (e2.trans e3);walk_at "";refine bg s7 a7 ?_;walk_at "";refine ⟨t3,b3,R3,n,x7,rfl,g3,LO,by omega,p7,q7,λp as L H4 e4 g4 Mu KI tg ln=>?_⟩;have Wo:=(e2.trans e3).trans e4;have im:=tg.map;have four:=tg.four;have dl:(eJ L L.length).length<128:=by
   have:=qC im (X7 L.length);have:L.length*(L.length-1)<=8*7:=zbj (by omega) (by omega);omega
  walk_at "";refine ⟨p,as,L,rfl,g4,im,by omega,dl,λt bs R H5 e5 g5 Xo Ti la=>?_⟩;have ld:=la.O9;have many:=tg.many ld;have mU:=tg.mU ld;have Tf:=g4.same e5;walk_at "";refine cJ ?_;refine aJ (jd (aJ (SC rfl (bc ⟨_,_,rfl,.inl ⟨_,aN.of g5.top,rfl⟩,?_⟩))));rw [Pd,g5.len];refine bc ⟨(R.length:Int),rfl,by omega,by omega,?_⟩;rw [Yu];refine bZ (λk σ H6=>∃ v4 v5:Option V,σ=[some (.ref a),some (.ref hd),some (.ref p),some (.ref t),v4,v5,none,none,none,none]/\ah H5 H6) ⟨none,none,rfl,λ_ _ e=>e⟩ ?_ ?_
  ·rintro k σ H6 hk ⟨v4,v5,rfl,e6⟩;simp only [Zj];have g6:=g5.same e6;obtain ⟨rb,r,CI,EE,bK⟩:=g6.at hk;have rm:=Yb EE;have r3:=tg.three ld rm;have rs:=tg.small ld rm;have N2:=tg.mj.rings ld r rm;walk_at "";refine bg (aN.of g6.top) (g6.ix CI) ?_;walk_at "";refine ⟨_,_,rfl,.inl ⟨_,aN.of bK,rfl⟩,?_⟩;rw [Pd];walk_at "";rw [Yw (by omega)];walk_at "";refine bg (aN.of g6.top) (g6.ix CI) ?_;walk_at "";refine ⟨rb,r,rfl,aN.of bK,by omega,λps S Vt=>?_⟩;have e7:ah H6 (upd H6 ps (.set S (zz r).length)):=ah.upd Vt;walk_at "";refine ⟨ps,S,_,rfl,ae,?_⟩;generalize upd H6 ps (.set S (zz r).length)=H7 at e7 ⊢;have g7:=g6.same e7;walk_at "";refine bg (aN.of g7.top) (g7.ix CI) ?_;walk_at "";refine ⟨_,_,rfl,.inl ⟨_,aN.of (e7 _ _ bK),rfl⟩,?_⟩;rw [Pd,(E4 r).mpr N2];walk_at "";rw [Yw (Int.lt_irrefl _)];walk_at "";refine cJ (Al (eC (SC rfl ⟨_,rfl,(k:Int),rfl,t,_,rfl,aN.of g7.top,λx hx=>?_⟩)));rw [m7 (by rw [Pd,g7.len];omega),<-map_take];have g8:=g7.taken k hx;have e8:ah H7 (upd H7 x (.lst ((bs.take k).map V.ref))):=ah.upd hx;generalize upd H7 x (.lst ((bs.take k).map V.ref))=H8 at g8 e8 ⊢;refine ⟨x,rfl,⟨_,aN.of g8.top⟩,fF (K:=K) (a:=x) (xs:=(bs.take k).map V.ref) (λj σ H9=>∃ v5:Option V,σ=[some (.ref a),some (.ref hd),some (.ref p),some (.ref t),some (.int (k:Int)),v5,none,none,none,none]/\ah H8 H9)
    ⟨v5,rfl,λ_ _ e=>e⟩ (by rintro j σ H9 _ ⟨_,_,e⟩;exact aN.of (e _ _ g8.top)) ?_ ?_⟩
   ·rintro j xv σ H9 P1 ⟨w5,rfl,e9⟩;have jl:j<(R.take k).length:=by
     have:=(X3.mp P1).1;rw [Pd,g8.len] at this;exact this
    obtain ⟨sb,sr,Lu,Qa,Vn⟩:=(g8.same e9).at jl;obtain rfl:xv=V.ref sb:=by
     rw [Yj,Lu] at P1;exact (Yf P1).symm
    rw [YW] at jl;have Vp:R[j]?=some sr:=by
     rw [getElem?_take] at Qa;rw [Ya (by omega)] at Qa;exact Qa
    have g9:=((g7.same e8).same e9);have tm:=tg.two_meet ld EE Vp (by omega);walk_at "";refine bg (aN.of g9.top) (g9.ix CI) ?_;walk_at "";refine ⟨p,rb,sb,as,L,r,sr,rfl,(((Tf.same e6).same e7).same e8).same e9,e9 _ _ (e8 _ _ (e7 _ _ bK)),Vn,by omega,tm.1,uh ld rm,tm.2,λvw sR=>?_⟩;walk_at "";exact ⟨_,rfl,e9.trans sR⟩
   ·rintro σ H9 ⟨w5,rfl,e9⟩;exact ⟨_,_,rfl,((e6.trans e7).trans e8).trans e9⟩
  ·rintro σ H6 ⟨v4,v5,rfl,e6⟩;have g6:=g5.same e6;have Pp:=Tf.same e6;walk_at "";refine bR ?_;refine ⟨_,rfl,p,rfl,⟨_,aN.of Pp.top⟩,λacc a9=>?_⟩;refine mX (K:=K) (λl=>V.int (l.length:Int)) Pp (λb l H' Q' hl hb q'=>?_) a9 (by omega) λH7 e7 h7=>?_
   ·refine jd (aJ (SC rfl (bc ⟨_,_,rfl,.inl ⟨_,aN.of hb,rfl⟩,?_⟩)));rw [Pd];exact q'
   have rD:∀ l∈L,3<=l.length/\∃ x:Int,0<=x/\x<L.length/\tx L x=l:=λl hl=>by
    obtain ⟨i,hi⟩:=YB.mp hl;have il:=(X3.mp hi).1;have:=tg.rD (x:=(i:Int)) (by omega) (by omega);rw [bE hi] at this;exact ⟨this,(i:Int),by omega,by omega,bE hi⟩
   refine bc ⟨acc,L.map λl=>(l.length:Int),rfl,by rw [zaE];exact aN.of h7,λz=>by rw [map_eq_nil_iff] at z;rw [z] at four;simp at four,λle hle Qo=>?_⟩;obtain ⟨l0,Qr,Wm⟩:=Yc.mp hle;have Xu:3<=le:=by rw [<-Wm];have:=(rD l0 Qr).1;omega
   have g7:=g6.same e7;have Us:=Pp.same e7;refine SL ?_;refine jD (λσ' H'=>σ'=[some (.ref a),some (.ref hd),some (.ref p),some (.ref t),v4,v5,some (.int le),none,none,none]/\ah H7 H') ?_ ?_
   ·rintro σ' H8 ⟨rfl,e8⟩;have p8:=Us.same e8;walk_at "";refine ⟨p,as,L,rfl,p8,tg.bS.Pn,by omega,by omega,λy y0 y1 y5 OT H9 e9=>?_⟩;have p9:=p8.same e9;refine SL ?_;refine jD (λσ' H'=>σ'=[some (.ref a),some (.ref hd),some (.ref p),some (.ref t),v4,v5,some (.int le),some (.int y),none,none]/\ah H9 H') ?_ ?_
    ·rintro σ' vw ⟨rfl,sR⟩;have Ll:=p9.same sR;have QV:ah H1 vw:=(Wo.trans (e5.trans e6)).trans (((e7.trans e8).trans e9).trans sR);obtain ⟨x8,a8,s8,Xi,q8⟩:=at' 8 vw (by decide) QV;have lp:(0:Int)<(L.length:Int):=by omega
     walk_at "";refine bg s8 a8 ?_;walk_at "";refine ⟨_,_,rfl,.inl ⟨_,aN.of Ll.top,rfl⟩,?_⟩;rw [Pd,Ll.len];walk_at "";have w0:=Zc x8 (show (L.length:Int)≠0 by omega);have w1:=YZ x8 lp;obtain ⟨wn,Ve⟩:=Ys w0;rw [Ve] at w1 ⊢;walk_at "";refine cJ ?_;refine aJ (jd (aJ (SC rfl (bc ⟨_,_,rfl,.inl ⟨_,aN.of Ll.top,rfl⟩,?_⟩))));rw [Pd,Ll.len];refine bc ⟨(L.length:Int),rfl,by omega,by omega,?_⟩;rw [Yu];refine bZ (λk σ Fs=>∃ v9:Option V,σ=[some (.ref a),some (.ref hd),some (.ref p),some (.ref t),v4,v5,some (.int le),some (.int y),some (.int (wn:Int)),v9]/\ah vw Fs) ⟨none,rfl,λ_ _ e=>e⟩ ?_ ?_
     ·rintro k σ Fs hk ⟨v9,rfl,IK⟩;simp only [Zj];have N8:=Ll.same IK;walk_at "";by_cases z:(k:Int)=(wn:Int)
      ·rw [YC z];walk_at "";exact ⟨_,rfl,IK⟩
      ·rw [Yw z];walk_at "";refine ⟨p,as,L,k,wn,L[k],rfl,N8,im,by omega,X4 hk,by omega,by omega,λx ys tt f OQ IJ RK TL TH=>?_,λx S tt f i D OQ IJ RK TL hi TH da db E5 cl QI=>?_⟩
       ·have st:SqT K OQ tt [.str "roads",.ref x]:=SqT.of RK;walk_at "";refine ⟨rfl,_,rfl,iW (λh=>absurd rfl h) (λ_=>?_)⟩;walk_at "";exact ⟨_,rfl,IK.trans IJ⟩
       ·exfalso;have pg:=uz im (X4 hk) (by omega) (by omega) hi TH da db E5 cl QI;obtain ⟨S',IE,Iy⟩:=pg.1 (by omega);rw [tg.zN.yJ im (oP _ S' IE)] at Iy;cases Iy
     ·rintro σ Fs ⟨v9,rfl,IK⟩;have N8:=Ll.same IK;walk_at "";refine ⟨p,as,L,rfl,N8,tg.bS.Pn,by omega,λht f OQ IJ XI V9 VP VO=>?_⟩;walk_at "";refine ⟨p,ht,as,L,f,rfl,N8.same IJ,im,by omega,V9,VP,VO,λX3 X0=>?_⟩;exact kq _
    ·intro RR key;walk_at "";refine ⟨y,rfl,?_⟩;walk_at "";refine bR ?_;refine ⟨_,rfl,p,rfl,⟨_,aN.of p9.top⟩,λLG B9=>?_⟩;refine mX (K:=K) (λl=>V.bl (decide (5<(l.length:Int)))) p9 (λb l H' Q' hl hb q'=>?_) B9 (by omega) λvw sR Tc=>?_
     ·refine ST (jd (aJ (SC rfl (bc ⟨_,_,rfl,.inl ⟨_,aN.of hb,rfl⟩,?_⟩))));rw [Pd];exact r_c (hW q')
     refine ⟨.inl ⟨rfl,_,aN.of Tc⟩,?_⟩;obtain ⟨yn,rfl⟩:=Ys y0;have yl:yn<L.length:=by omega
     have eY:tx L (yn:Int)=L[yn]:=bE (X4 yl);have bY:(L.map λl=>decide (5<(l.length:Int)))[yn]?=some false:=by
      rw [Yj,X4 yl];rw [eY] at y5;show some (decide (5<(L[yn].length:Int)))=_;rw [Yw (by omega)]
     have ix:(L.map λl=>decide (5<(l.length:Int))).idxOf false=yn:=by
      have ml:=Zh (Yb bY);have gI:=zal ml;rcases ZA ((L.map λl=>decide (5<(l.length:Int))).idxOf false) yn with z|z|z
      ·exfalso;rw [Pd] at ml;rw [zat] at gI;have:=zbN gI;have m5:=OT (((L.map λl=>decide (5<(l.length:Int))).idxOf false:Nat):Int) (by omega) (by omega);rw [bE (X4 ml)] at m5;omega
      ·exact z
      ·exfalso;have:=kY _ false yn (by rw [Pd];exact yl) z;exact this (by rw [X4 (by rw [Pd];exact yl)] at bY;exact Yf bY)
     refine aJ (r_c (bc ⟨LG,L.map λl=>decide (5<(l.length:Int)),false,rfl,rfl,by rw [zaE];exact Tc,Yb bY,?_⟩));rw [ix];walk_at "";rw [YC rfl];walk_at "";exact key _ _ ⟨rfl,sR⟩
   ·intro RR key;walk_at "";rw [Yw (by omega)];walk_at "";by_cases z:3<le
    ·rw [YC z];walk_at "";refine bR ?_;refine ⟨_,rfl,t,rfl,⟨_,aN.of g7.top⟩,λLG B9=>?_⟩;refine mX (K:=K) (λl=>V.int (l.length:Int)) g7 (λb l H' Q' hl hb q'=>?_) B9 (by omega) λH8 e8 h8=>?_
     ·refine jd (aJ (SC rfl (bc ⟨_,_,rfl,.inl ⟨_,aN.of hb,rfl⟩,?_⟩)));rw [Pd];exact q'
     refine bc ⟨LG,R.map λl=>(l.length:Int),rfl,by rw [zaE];exact aN.of h8,λw=>by rw [map_eq_nil_iff] at w;rw [w] at mU;simp at mU,λm hm Qn=>?_⟩;obtain ⟨r,yh,r3⟩:=tg.least ld λx x0 x1=>by
      have xl:x.toNat<L.length:=by omega
      have ex:=aE x0 x1;have:=Qo ((tx L x).length:Int) (Yc.mpr ⟨_,Yb ex,rfl⟩);omega
     have m3:=Qn (r.length:Int) (Yc.mpr ⟨r,yh,rfl⟩);walk_at "";rw [Yw (by omega)];walk_at "";exact key _ _ ⟨rfl,e8⟩
    ·rw [Yw z];walk_at "";exact key _ _ ⟨rfl,λ_ _ e=>e⟩
end Hn
namespace Hn
open PySem L2 Fr Gm Fw
theorem yb1 {u:List Value} (h:u.length=1) (f:∀ a,bindArgs F ⟨[a],[]⟩=pure (p.zip [a])):bindArgs F ⟨u,[]⟩=pure (List.zip p u):=match u,h with|[_],_=>f _
theorem yb2 {u:List Value} (h:u.length=2) (f:∀ a b,bindArgs F ⟨[a,b],[]⟩=pure (p.zip [a,b])):bindArgs F ⟨u,[]⟩=pure (List.zip p u):=match u,h with|[_,_],_=>f _ _
theorem yb3 {u:List Value} (h:u.length=3) (f:∀ a b c,bindArgs F ⟨[a,b,c],[]⟩=pure (p.zip [a,b,c])):bindArgs F ⟨u,[]⟩=pure (List.zip p u):=match u,h with|[_,_,_],_=>f _ _ _
theorem yb4 {u:List Value} (h:u.length=4) (f:∀ a b c d,bindArgs F ⟨[a,b,c,d],[]⟩=pure (p.zip [a,b,c,d])):bindArgs F ⟨u,[]⟩=pure (List.zip p u):=match u,h with|[_,_,_,_],_=>f _ _ _ _
theorem all_mk {l:PySem.W.OpenLaw} {h:Heap} {mg:WP} (X:K.In h) (G:h.Ns mainGlobals mg) (VN:mg "law"=some (.ref fa))
  (d0:DefIn K "ties" yz)
  (d1:DefIn K "come_to" mK)
  (d2:DefIn K "onward" oS)
  (d3:DefIn K "ring_from" jv)
  (d4:DefIn K "least_begun" gO)
  (d5:DefIn K "steps" tY)
  (d6:DefIn K "lands" uc)
  (d7:DefIn K "open_ways" jw)
  (d8:DefIn K "doors_from" iD)
  (d9:DefIn K "go_to" ud)
  (d10:DefIn K "gone_on" mJ)
  (d11:DefIn K "road_by" mH)
  (d12:DefIn K "roads" tZ)
  (d13:DefIn K "few_without" gP)
  (d14:DefIn K "few" Dm)
  (d15:DefIn K "taken_off" ju)
  (d16:DefIn K "free_hues" jx)
  (d17:DefIn K "two_hued" kN)
  (d18:DefIn K "freed" uf)
  (d19:DefIn K "hues" yA)
  (d20:DefIn K "_law_whole" iF)
  (d21:DefIn K "_law_numbers" gj)
  (d22:DefIn K "_law_digit" iI)
  (d23:DefIn K "_law_base" jB)
  (d24:DefIn K "_law_stacked" gg)
  (d25:DefIn K "_law_tied" jy)
  (d26:DefIn K "_law_places" gQ)
  (d27:DefIn K "_law_corners" gm)
  (d28:DefIn K "_law_turned_inside" dH)
  (d29:DefIn K "_law_rings" iG)
  (d30:DefIn K "_law_orders" gR)
  (d31:DefIn K "_law_named" iH)
  (d32:DefIn K "_law_meet" jz)
  (d33:DefIn K "_law_hues" jA)
  (d34:DefIn K "law" oT)
  (z0:PySem.W.nsIn K mainGlobals "len"=some none)
  (z1:PySem.W.nsIn K mainGlobals "isinstance"=some none)
  (z2:PySem.W.nsIn K mainGlobals "int"=some none)
  (z3:PySem.W.nsIn K mainGlobals "bool"=some none)
  (z4:PySem.W.nsIn K mainGlobals "enumerate"=some none)
  (z5:PySem.W.nsIn K mainGlobals "range"=some none)
  (z6:PySem.W.nsIn K mainGlobals "min"=some none)
  (z7:PySem.W.nsIn K mainGlobals "max"=some none)
  (z8:PySem.W.nsIn K mainGlobals "list"=some none)
  (z9:PySem.W.nsIn K mainGlobals "reversed"=some none)
  (z10:PySem.W.nsIn K mainGlobals "sorted"=some none)
  (z11:PySem.W.nsIn K mainGlobals "set"=some none)
  (z12:PySem.W.nsIn K mainGlobals "zip"=some none)
  {LP:Tok} (g_IN:PySem.W.nsIn K mainGlobals "IN"=some (some (.int 0 LP)))
  {Ja:Tok} (g_OUT:PySem.W.nsIn K mainGlobals "OUT"=some (some (.int 1 Ja)))
  : ∃ fd:FuncData,(∀ (s:Shared) (v:Value),BindsTo s fd ⟨[v],[]⟩ [("_law_script",v)])/\∀ base:Heap,K.In base->base.Ns mainGlobals mg->rO l.prog w K mg base (cQ l.prog w) 12 fa fd ["_law_script"] (tP K):=by
 obtain ⟨fn,Xl,ann,Xa,Xm,U3,Wr,Um,WD,Wx,an,ln,cn,kn⟩:=d34.ex;have e:=VN.symm.trans (PySem.W.mg_of X G an);cases e
 have T:Txt K mg ⟨⟩:=⟨Y7 X G z0,Y7 X G z1,Y7 X G z2,Y7 X G z3,Y7 X G z4,Y7 X G z5,Y7 X G z6,Y7 X G z7,Y7 X G z8,Y7 X G z9,Y7 X G z10,Y7 X G z11,Y7 X G z12,⟨_,PySem.W.mg_of X G g_IN⟩,⟨_,PySem.W.mg_of X G g_OUT⟩⟩;refine ⟨PySem.W.fnOf "law" "law" (fW oT) (eN oT) (aG oT) .none U3 Wr Um ann WD Wx,λs v=>.of_eq rfl,λbase hK hG=>?_⟩;have La:=Gv (P:=l.prog) (w:=w) (base:=base)  (d0.j9 X G λ_ _ _ _ _ _ _ hl=>yb1 hl λ_=>rfl) T;have Cw:=yQ (P:=l.prog) (w:=w) (base:=base)  (d1.j9 X G λ_ _ _ _ _ _ _ hl=>yb3 hl λ_ _ _=>rfl) T;have Fq:=BN (P:=l.prog) (w:=w) (base:=base)  (d2.j9 X G λ_ _ _ _ _ _ _ hl=>yb3 hl λ_ _ _=>rfl) T;have xZ:=uC (P:=l.prog) (w:=w) (base:=base)  (d3.j9 X G λ_ _ _ _ _ _ _ hl=>yb3 hl λ_ _ _=>rfl) T Fq;have rL:=pJ (P:=l.prog) (w:=w) (base:=base)  (d4.j9 X G λ_ _ _ _ _ _ _ hl=>yb1 hl λ_=>rfl) T;have Hv:=D5 (P:=l.prog) (w:=w) (base:=base)  (d5.j9 X G λ_ _ _ _ _ _ _ hl=>yb1 hl λ_=>rfl) T;have Hz:=D7 (P:=l.prog) (w:=w) (base:=base)  (d6.j9 X G λ_ _ _ _ _ _ _ hl=>yb1 hl λ_=>rfl) T xZ rL Hv;have x4:=uD (P:=l.prog) (w:=w) (base:=base)  (d7.j9 X G λ_ _ _ _ _ _ _ hl=>yb3 hl λ_ _ _=>rfl) T La;have vg:=qX (P:=l.prog) (w:=w) (base:=base)  (d8.j9 X G λ_ _ _ _ _ _ _ hl=>yb2 hl λ_ _=>rfl) T;have HA:=D8 (P:=l.prog) (w:=w) (base:=base)  (d9.j9 X G λ_ _ _ _ _ _ _ hl=>yb3 hl λ_ _ _=>rfl) T;have tF:=yP (P:=l.prog) (w:=w) (base:=base)  (d10.j9 X G λ_ _ _ _ _ _ _ hl=>yb3 hl λ_ _ _=>rfl) T;have Cv:=yO (P:=l.prog) (w:=w) (base:=base)  (d11.j9 X G λ_ _ _ _ _ _ _ hl=>yb4 hl λ_ _ _ _=>rfl) T tF;have Hw:=D6 (P:=l.prog) (w:=w) (base:=base)  (d12.j9 X G λ_ _ _ _ _ _ _ hl=>yb3 hl λ_ _ _=>rfl) T x4 vg HA tF Cv;have kK:=pK (P:=l.prog) (w:=w) (base:=base)  (d13.j9 X G λ_ _ _ _ _ _ _ hl=>yb2 hl λ_ _=>rfl) T;have NU:=JO (P:=l.prog) (w:=w) (base:=base)  (d14.j9 X G λ_ _ _ _ _ _ _ hl=>yb1 hl λ_=>rfl) T kK;have xY:=uB (P:=l.prog) (w:=w) (base:=base)  (d15.j9 X G λ_ _ _ _ _ _ _ hl=>yb1 hl λ_=>rfl) T kK;have x5:=uE (P:=l.prog) (w:=w) (base:=base)  (d16.j9 X G λ_ _ _ _ _ _ _ hl=>yb3 hl λ_ _ _=>rfl) T;have zI:=wM (P:=l.prog) (w:=w) (base:=base)  (d17.j9 X G λ_ _ _ _ _ _ _ hl=>yb4 hl λ_ _ _ _=>rfl) T Cw;have HB:=D9 (P:=l.prog) (w:=w) (base:=base)  (d18.j9 X G λ_ _ _ _ _ _ _ hl=>yb3 hl λ_ _ _=>rfl) T zI;have Lb:=Gw (P:=l.prog) (w:=w) (base:=base)  (d19.j9 X G λ_ _ _ _ _ _ _ hl=>yb1 hl λ_=>rfl) T xY x5 HB;have mh:=qY (P:=l.prog) (w:=w) (base:=base)  (d20.j9 X G λ_ _ _ _ _ _ _ hl=>yb1 hl λ_=>rfl) T;have qL:=nR (P:=l.prog) (w:=w) (base:=base)  (d21.j9 X G λ_ _ _ _ _ _ _ hl=>yb2 hl λ_ _=>rfl) T;have i7:=rj (P:=l.prog) (w:=w) (base:=base)  (d22.j9 X G λ_ _ _ _ _ _ _ hl=>yb3 hl λ_ _ _=>rfl) T;have yf:=uI (P:=l.prog) (w:=w) (base:=base)  (d23.j9 X G λ_ _ _ _ _ _ _ hl=>yb1 hl λ_=>rfl) T;have qK:=nQ (P:=l.prog) (w:=w) (base:=base)  (d24.j9 X G λ_ _ _ _ _ _ _ hl=>yb3 hl λ_ _ _=>rfl) T i7;have yc:=uF (P:=l.prog) (w:=w) (base:=base)  (d25.j9 X G λ_ _ _ _ _ _ _ hl=>yb2 hl λ_ _=>rfl) T;have fh:=pL (P:=l.prog) (w:=w) (base:=base)  (d26.j9 X G λ_ _ _ _ _ _ _ hl=>yb1 hl λ_=>rfl) T;have jX:=nT (P:=l.prog) (w:=w) (base:=base)  (d27.j9 X G λ_ _ _ _ _ _ _ hl=>yb1 hl λ_=>rfl) T;have jW:=je (P:=l.prog) (w:=w) (base:=base)  (d28.j9 X G λ_ _ _ _ _ _ _ hl=>yb1 hl λ_=>rfl) T fh jX;have vh:=qZ (P:=l.prog) (w:=w) (base:=base)  (d29.j9 X G λ_ _ _ _ _ _ _ hl=>yb1 hl λ_=>rfl) T yf qK yc fh jW;have rN:=pO (P:=l.prog) (w:=w) (base:=base)  (d30.j9 X G λ_ _ _ _ _ _ _ hl=>yb2 hl λ_ _=>rfl) T i7 fh jX;have vi:=rh (P:=l.prog) (w:=w) (base:=base)  (d31.j9 X G λ_ _ _ _ _ _ _ hl=>yb2 hl λ_ _=>rfl) T i7 fh;have yd:=uG (P:=l.prog) (w:=w) (base:=base)  (d32.j9 X G λ_ _ _ _ _ _ _ hl=>yb3 hl λ_ _ _=>rfl) T;have ye:=uH (P:=l.prog) (w:=w) (base:=base)  (d33.j9 X G λ_ _ _ _ _ _ _ hl=>yb2 hl λ_ _=>rfl) T mh;exact JN (zf (st:=oT) ln cn kn) T Hz Hw NU Lb mh qL vh rN vi yd ye
theorem walk {l:PySem.W.OpenLaw} {XP:(Str->Option Value)->Heap->Prop} {d:DefRec} {K:Params->ZB} (hn:l.most=some 63) (M8:d.params.defaults=[])
  (hY:∀ (w:World) (h:Heap),YP w h->(K w.params).In h)
  (F:∀ (w:World) (mg:WP) (fa:Addr) (h:Heap),(K w.params).In h->h.Ns mainGlobals mg->mg d.name=some (.ref fa)->
   ∃ fd:FuncData,(∀ (s:Shared) (u:Value),BindsTo s fd ⟨[u],[]⟩ [("_law_script",u)])/\∀ base:Heap,(K w.params).In base->base.Ns mainGlobals mg->rO l.prog w (K w.params) mg base (cQ l.prog w) 12 fa fd ["_law_script"] (tP (K w.params))) :
  PySem.W.WalkO q loose XP YP l.row.toRowW d [] (λf vs=>PySem.call f vs):=
 L2.FK (n:=63) (k:=12) (x:= "_law_script") (CX:=λw=>cQ l.prog w) (sp:=λw=>tP (K w.params)) hn (by decide) M8 ⟨rfl,by decide,by decide⟩ hY F (λ_ _ a ns hl _ hS=>⟨a,ns,rfl,hS,hl,λ_=>rfl⟩) λ_ _ _ _ _ z=>Cj z
end Hn
namespace PySem.W.Fast
def tw13540505893803378129:=trivial
def tw15983351546680308524:=trivial
def tw6190520764272588523:=trivial
def tw1545986081558186830:=trivial
def tw7976387683839392898:=trivial
def tw16211997353682160891:=trivial
def tw4570706099472498758:=trivial
def tw6583721854390165224:=trivial
def tw12527513985834768216:=trivial
def tw7511470129574675664:=trivial
def tw8641378820671793977:=trivial
def tw910036215418432731:=trivial
def tw139635969398847391:=trivial
def tw7875962149522317660:=trivial
def tw13749347111465334067:=trivial
def tw12520434053863430846:=trivial
def tw12931318156684703425:=trivial
def tw18197086575196383487:=trivial
def tw2183782848642504134:=trivial
def tw7312886789405846756:=trivial
def tw1435457360506599876:=trivial
def tw5533054721363079493:=trivial
def tw12699326662891217308:=trivial
def tw2093977432737587472:=trivial
def tw8006067738449889:=trivial
def tw3782568493538529524:=trivial
def tw5958780423897310454:=trivial
def tw14511927672857002933:=trivial
def tw10275674242758406971:=trivial
def tw4588461629150476730:=trivial
def tw15920686418413654005:=trivial
def tw5668905180265456797:=trivial
def tw1274757045734227086:=trivial
def tw13501800467077579368:=trivial
def tw16129935344997852327:=trivial
def tw9054830687217289650:=trivial
def tw7451134181034666184:=trivial
def tw460839359586744386:=trivial
def tw17611361534270723626:=trivial
def tw4280140095562715746:=trivial
def tw11289292732342156895:=trivial
def tw1121954896817792457:=trivial
def tw2811420167652572893:=trivial
def tw16010147923506239222:=trivial
def tw8169620708063491149:=trivial
def tw4032752817051873023:=trivial
def tw4186131404110900352:=trivial
def tw5394858745194109363:=trivial
def tw1049861068810669746:=trivial
def tw6052934114100693560:=trivial
def tw14175156156880096978:=trivial
def tw9340450523471280477:=trivial
def tw7595767201343080206:=trivial
def tw3333933958312750405:=trivial
def tw17107459756327416041:=trivial
def tw103196917840935284:=trivial
def tw8755291547200256452:=trivial
def tw8925601297661694788:=trivial
def tw14466413483639670510:=trivial
def tw16770455802385367877:=trivial
def tw12517301290846014717:=trivial
def tw14634351456333912515:=trivial
def tw9252085370426964523:=trivial
def tw10024587244640757364:=trivial
def tw1825922682742053968:=trivial
def tw352010901802063424:=trivial
def tw13938814904301640045:=trivial
def tw4334163889302632668:=trivial
def tw9736763820833656610:=trivial
def tw5494871614603135796:=trivial
def tw13201226772798597148:=trivial
def tw10868523707619975699:=trivial
def tw5450041264696588979:=trivial
def tw13593136450728103210:=trivial
def tw12074786689725242986:=trivial
def tw11707928081263534777:=trivial
def tw4034444685143583503:=trivial
def tw13459845832168615359:=trivial
def tw15504443833830721127:=trivial
def tw519564673918392099:=trivial
def tw11507496733005978717:=trivial
def tw17199744930894751228:=trivial
def tw16686936512267362696:=trivial
def tw11927209745723937610:=trivial
def tw11418654302572724925:=trivial
def tw3140003035102054809:=trivial
def tw9178863871822957077:=trivial
def tw11030160066084348241:=trivial
def tw13835841143350452382:=trivial
def tw7236157648755257314:=trivial
def tw4904943706066671566:=trivial
def tw12224932475742865373:=trivial
def tw17823386219874310209:=trivial
def tw650920070877374634:=trivial
def tw2251127820851380514:=trivial
end PySem.W.Fast
local macro_rules | `(tactic| walk_at "d")=>`(tactic| (refine' L2.DefIn.mk0 ?a ?l ?c ?k;(case' a=>k_is);(case' l=>k_is);(case' c=>k_is);(case' k=>k_is)))
open PySem PySem.W PyProof.Rows
set_option maxRecDepth 100000 in
set_option maxHeartbeats 0 in
theorem PySem.Challenge.cw_standup_k93_whole_lands_of_tight_maps_holds : PySem.Challenge.rw_standup_k93_whole_lands_of_tight_maps.Holds := by
 w_on;o_law;k_head;(case hw=>w_witness2)
 k_fill
 refine Hn.walk (l:=PySem.Challenge.rw_standup_k93_whole_lands_of_tight_maps) rfl rfl (λw h Y=>PySem.W.kIn_of Y) ?F
 case F=>
  intro w mg fa h KX G MZ
  refine' Hn.all_mk KX G MZ ?d0 ?d1 ?d2 ?d3 ?d4 ?d5 ?d6 ?d7 ?d8 ?d9 ?d10 ?d11 ?d12 ?d13 ?d14 ?d15 ?d16 ?d17 ?d18 ?d19 ?d20 ?d21 ?d22 ?d23 ?d24 ?d25 ?d26 ?d27 ?d28 ?d29 ?d30 ?d31 ?d32 ?d33 ?d34 ?z0 ?z1 ?z2 ?z3 ?z4 ?z5 ?z6 ?z7 ?z8 ?z9 ?z10 ?z11 ?z12 ?g_IN ?g_OUT
  (case d0=>walk_at "d")
  (case d1=>walk_at "d")
  (case d2=>walk_at "d")
  (case d3=>walk_at "d")
  (case d4=>walk_at "d")
  (case d5=>walk_at "d")
  (case d6=>walk_at "d")
  (case d7=>walk_at "d")
  (case d8=>walk_at "d")
  (case d9=>walk_at "d")
  (case d10=>walk_at "d")
  (case d11=>walk_at "d")
  (case d12=>walk_at "d")
  (case d13=>walk_at "d")
  (case d14=>walk_at "d")
  (case d15=>walk_at "d")
  (case d16=>walk_at "d")
  (case d17=>walk_at "d")
  (case d18=>walk_at "d")
  (case d19=>walk_at "d")
  (case d20=>walk_at "d")
  (case d21=>walk_at "d")
  (case d22=>walk_at "d")
  (case d23=>walk_at "d")
  (case d24=>walk_at "d")
  (case d25=>walk_at "d")
  (case d26=>walk_at "d")
  (case d27=>walk_at "d")
  (case d28=>walk_at "d")
  (case d29=>walk_at "d")
  (case d30=>walk_at "d")
  (case d31=>walk_at "d")
  (case d32=>walk_at "d")
  (case d33=>walk_at "d")
  (case d34=>walk_at "d")
  (case z0=>k_is)
  (case z1=>k_is)
  (case z2=>k_is)
  (case z3=>k_is)
  (case z4=>k_is)
  (case z5=>k_is)
  (case z6=>k_is)
  (case z7=>k_is)
  (case z8=>k_is)
  (case z9=>k_is)
  (case z10=>k_is)
  (case z11=>k_is)
  (case z12=>k_is)
  (case g_IN=>k_is)
  (case g_OUT=>k_is)
