import PyProof.Rows.All
import Wide.All
import OpenK.AllK
import Wide.FinOn
import Lean
import PyProof.EqAt
import PyProof.EqKinds
import PyProof.TupleCall
import PyProof.Rows.Catch
import KE.KRevIter
import KE.KDictList
import KE.KIntText
import KE.KStateDown
import PyProof.Rows.TupDisplay
import PyProof.Rows.SetFrom
import PyProof.Walks
import KE.KSortKey
import KE.KLam
import PyProof.InstStoreFacts
import PyProof.ExcInit
import PyProof.AttrMissHeap
import KE.KDictOf
import KE.KSortTup
import PyProof.TupleIter
import PyProof.Rows.SumAny
import PyProof.TupleKey
import PySem.Challenge.RW_standup_k81_whole_lands_of_solids
open List
set_option Elab.async false
set_option linter.all false
set_option maxRecDepth 100000
set_option maxHeartbeats 4000000
def rd:=@PySem.wpAny_bind
def ZJ:=@List.getElem?_eq_getElem
def ZK:=@List.length_map
def ZL:=@List.getElem?_eq_some_iff
def ZM:=@PySem.Heap.lt_size
def ZN:=@PySem.Heap.get?_push_of_some
def ZO:=@Option.some.inj
def ZP:=@List.getD_eq_getElem?_getD
def ZQ:=@Nat.le_refl
def ZR:=@PySem.wpAny_pure
def ZS:=@List.getElem?_map
def ZT:=@List.mem_singleton
def ZU:=@if_neg
def ZV:=@List.length_append
def ZW:=@if_pos
def ZX:=@List.mem_of_getElem?
def ZY:=@Nat.lt_of_lt_of_le
def ZZ:=@List.mem_append
def Z0:=@List.getElem?_append_left
def Z1:=@Nat.ne_of_lt
def Z2:=@List.getElem?_append_right
def Z3:=@PySem.Heap.get?_push_size
def Z4:=@List.getElem_mem
def Z5:=@List.mem_cons_of_mem
def Z6:=@List.map_append
def Z7:=@Nat.zero_le
def Z8:=@List.size_toArray
def Z9:=@List.length_take
def zaa:=@Array.length_toList
def zab:=@Nat.lt_trichotomy
def zac:=@List.mem_cons_self
def zad:=@decide_eq_true
def zae:=@Bool.false_ne_true
def zaf:=@Int.mul_eq_zero
def zag:=@Nat.le_trans
def zah:=@decide_eq_false
def zai:=@PySem.PassesOwn.never
def zaj:=@List.mem_range
def zak:=@List.length_singleton
def zal:=@Nat.mod_eq_of_lt
def zam:=@Nat.lt_irrefl
def zan:=@Array.getD_eq_getD_getElem?
def zao:=@PySem.wpAny_mono
def zap:=@Int.mul_nonpos_of_nonneg_of_nonpos
def zaq:=@PySem.W.mg_none_of
def zar:=@Int.mul_pos
def zas:=@List.mem_cons
def zat:=@List.not_mem_nil
def zau:=@PySem.wpAny_holding
def zav:=@Int.le_of_lt
def zaw:=@PySem.F.plainAttrs_list
def zax:=@Nat.ne_of_gt
def zay:=@PySem.sizeLine_eq
def zaz:=@Nat.le_add_right
def zaA:=@Nat.le_of_lt
def zaB:=@List.mem_map
def zaC:=@PySem.Around.under_plainId
def zaD:=@Ne.symm
def zaE:=@Int.toNat_natCast
def zaF:=@Bool.false_eq_true
def zaG:=@Int.mul_neg_of_pos_of_neg
def zaH:=@List.pairwise_iff_getElem
def zaI:=@PySem.Heap.size_push
def zaJ:=@PyProof.Rows.callWith_type1
def zaK:=@Nat.mod_lt
def zaL:=@List.mem_append_right
def zaM:=@PySem.Heap.get?_update_self
def zaN:=@List.length_range
def zaO:=@congrArg
def zaP:=@PySem.codeAny_builtin
def zaQ:=@PySem.Heap.get?_update_other
def zaR:=@of_decide_eq_true
def zaS:=@List.mem_iff_getElem
def zaT:=@PySem.wpAny_seqItems
def zaU:=@Option.isSome_iff_exists
def zaV:=@PySem.F.slot_list_append
def zaW:=@PySem.F.type_list_append
def zaX:=@List.map_cons
def zaY:=@PySem.wpAny_loadPart'
def zaZ:=@List.mem_cons
def zba:=@or_false
def zbb:=@Array.getElem?_eq_getElem
def zbc:=@Option.map_eq_some_iff
def zbd:=@Int.mul_nonpos_of_nonpos_of_nonneg
def zbe:=@Int.emod_lt_of_pos
def zbf:=@PySem.sizeLine_eq
def zbg:=@List.length_cons
def zbh:=@PySem.wpAny_field
def zbi:=@Int.mul_zero
def zbj:=@Int.zero_add
def zbk:=@decide_eq_true_iff
def zbl:=@Array.getElem?_eq_some_iff
def zbm:=@List.drop_eq_getElem_cons
def zbn:=@List.take_length
def zbo:=@PySem.W.kia_one
def zbp:=@List.nodup_cons
def zbq:=@Int.mul_pos_of_neg_of_neg
def zbr:=@List.append_nil
def zbs:=@PySem.wpAny_truthy_bool
def zbt:=@Nat.le_succ
def zbu:=@Nat.lt_succ_of_lt
def zbv:=@List.nodup_iff_pairwise_ne
def zbw:=@PySem.plainId_quiet
def zbx:=@Int.mul_ediv_cancel_left
def zby:=@Nat.mul_le_mul
def zbz:=@List.mem_append_left
def zbA:=@Int.emod_nonneg
def zbB:=@Int.lt_or_eq_of_le
def zbC:=@PySem.wpAny_call_entry
def zbD:=@PySem.wpAny_callSpecial?_slot
def zbE:=@Int.lt_or_le
def zbF:=@Int.natAbs_mul
def zbG:=@List.map_congr_left
def zbH:=@Int.eq_of_mul_eq_mul_right
def zbI:=@PySem.SeqAt.canLay_of_shaped
def zbJ:=@List.length_pos_iff
def zbK:=@PySem.Heap.SameBut.update
def zbL:=@Int.eq_of_mul_eq_mul_left
def zbM:=@List.mem_filterMap
def zbN:=@List.mem_flatMap
def zbO:=@Nat.lt_succ_self
def zbP:=@PySem.Heap.size_update
def zbQ:=@List.take_add_one
def zbR:=@PySem.W.mg_of
def zbS:=@Int.mul_nonneg
def zbT:=@Nat.add_mod_right
def zbU:=@List.take_of_length_le
def zbV:=@List.length_eq_zero_iff
def zbW:=@PySem.wpAny_execs_nil
def zbX:=@PySem.F.slot_zip_next
def zbY:=@List.pairwise_map
def zbZ:=@Nat.le_mul_of_pos_left
def zca:=@List.length_drop
def zcb:=@PySem.F.plain_min_loop
def zcc:=@PySem.wpAny_Call_Name_kw
def zcd:=@Nat.lt_of_le_of_lt
def zce:=@PySem.wpAny_setField_rec
def zcf:=@List.getElem_of_mem
def zcg:=@Array.size_push
def zch:=@if_false
def zci:=@Int.lt_trichotomy
def zcj:=@Nat.not_lt
abbrev Uf:=List (List Int)
abbrev Wp:=List Int
abbrev WF:=List (PySem.Addr×PySem.Obj)
abbrev WP:=PySem.Value->PySem.Shared->Prop
abbrev W1:=PySem.Str->Option PySem.Value
abbrev XL:=List PySem.Addr
abbrev XV:=List PySem.Value
abbrev ZB:=PySem.W.Frag
def zck:=@List.nodup_iff_pairwise_ne
def zcl:=@PySem.F.slot_tuple_iterator_next
def zcm:=@PySem.F.plain_extend_loop
def zcn:=@PySem.wpAny_passesOwn
def zco:=@PySem.wpAny_updateSeq
def zcp:=@PySem.Heap.get?_push_ne
def zcq:=@PySem.Paired.length
def zcr:=@Int.mul_fdiv_cancel_left
def zcs:=@PyProof.Rows.listUpdate_at
def zct:=@PySem.mem_of_lookup
def zcu:=@PySem.Heap.get?_update_ne
def zcv:=@PySem.wpAny_execs_cons
def zcw:=@Bool.and_eq_true
def zcx:=@Int.eq_ofNat_of_zero_le
def zcy:=@PySem.Around.in1_units
def zcz:=@PySem.tupleKind_room_in1
def zcA:=@Array.getElem?_eq_none
def zcB:=@Bool.eq_iff_iff
def zcC:=@Prod.ext
def zcD:=@Nat.two_pow_pos
def zcE:=@List.mem_iff_getElem?
def zcF:=@PySem.wpAny_newObj_type
def zcG:=@PySem.wpAny_pyIter_list
def zcH:=@List.Pairwise.imp
def zcI:=@Int.mul_lt_mul_of_pos_right
def zcJ:=@Array.getElem?_setIfInBounds_self_of_lt
def zcK:=@List.filterMap_cons
def zcL:=@Array.mem_toList_iff
def zcM:=@List.length_nil
def zcN:=@Int.fdiv_eq_ediv_of_nonneg
def zcO:=@List.lookup_cons
def zcP:=@List.range_succ
def zcQ:=@List.filter_cons
def zcR:=@PySem.codeAny_mono
def zcS:=@Nat.lt_trans
def zcT:=@Int.zero_mul
def zcU:=@Nat.zero_add
def zcV:=@PySem.wpAny_pyIter_zip
def zcW:=@beq_self_eq_true
def zcX:=@List.length_filter_le
def zcY:=@List.getElem?_take_of_lt
def zcZ:=@List.Pairwise.imp_of_mem
def zda:=@PySem.wpAny_attempt
def zdb:=@PySem.wpAny_newList
def zdc:=@Int.ofNat.inj
def zdd:=@List.filter_append
def zde:=@PySem.wpAny_specialOf
def zdf:=@Nat.not_lt_zero
def zdg:=@PySem.W.KasT.kasWp_bind
def zdh:=@PySem.wpAny_rule
def zdi:=@PySem.Calls.spliced_cons
def zdj:=@Int.mul_nonneg_of_nonpos_of_nonpos
def zdk:=@Nat.add_sub_cancel
def zdl:=@List.filter_cons_of_pos
def zdm:=@List.filter_cons_of_neg
def zdn:=@decide_eq_false_iff_not
def zdo:=@PyProof.Rows.seqEpoch_at
def zdp:=@PySem.wpAny_letGo
def zdr:=@Int.gcd_le_natAbs_right
def zds:=@PySem.Calls.spliced_nil
def zdt:=@List.flatMap_cons
def zdu:=@List.flatMap_append
def zdv:=@PySem.wpAny_newTuple
def zdw:=@Nat.le_succ_of_le
def zdx:=@bne_self_eq_false
def zdy:=@PySem.wpAny_typeOf
def zdz:=@PySem.wpAny_tryCatch
def zdA:=@List.append_assoc
def zdB:=@not_or
def zdC:=@PySem.F.args_zip_next_1
def zdD:=@PySem.wpAny_dictEntries
def zdE:=@Nat.sub_self
def zdF:=@PySem.wpAny_setState_of
def zdG:=@Nat.Coprime.dvd_of_dvd_mul_left
def zdH:=@Array.getElem?_setIfInBounds_ne
def zdI:=@Bool.beq_eq_decide_eq
def zdJ:=@List.perm_append_singleton
def zdK:=@PySem.builtinLookup_eq_fast
def zdM:=@List.getElem?_eq_none
def zdN:=@PySem.F.entry_zip_next
def zdO:=@List.take_append_drop
def zdP:=@Int.ediv_le_self
def zdQ:=@Bool.false_or
def zdR:=@List.map_map
def zdS:=@Int.dvd_trans
def zdT:=@Int.le_refl
def zdU:=@PySem.codeAny_call_builtin
def zdV:=@PySem.F.slot_list_lt
def zdW:=@Nat.mul_le_mul_right
def zdY:=@Rat.intCast_mul
def zdZ:=@Int.ediv_nonneg
def zea:=@List.mem_of_mem_take
def zeb:=@beq_eq_false_iff_ne
def zec:=@Array.getElem?_push
def zed:=@Nat.add_left_cancel
def zee:=@if_true
def zef:=@Int.sub_zero
def zeg:=@List.nodup_append
def zeh:=@List.mem_range
def zej:=@PySem.W.callWith_K
def zel:=@PySem.call_meets
def zem:=@List.find?_cons
def zeo:=@Array.forIn_toList
def zep:=@Array.size_extract
def zeq:=@Nat.one_lt_two_pow
def zer:=@Int.mul_neg
def zet:=@Array.toList_push
def zeu:=@Nat.le_of_succ_le
def zew:=@decide_eq_true_eq
def zey:=@Int.mul_assoc
def zez:=@Bool.not_true
namespace L2
open PySem PySem.Spec PyProof.Rows
abbrev Key:=Sum Int Str
def ot:Key->Value->Bool
 | .inl k,v=>Value.isInt k v
 | .inr x,v=>Value.isStrOf x v
def QP (w:World):Key->Int
 | .inl k=>hashInt k
 | .inr x=>hashStr w x
theorem bV:∀ {k:Key} {v:Value},ot k v=true->(∃ i t,k=Sum.inl i/\v=Value.int i t)\/(∃ x t,k=Sum.inr x/\v=Value.str x t)
 | .inl i,v,h=>by
  obtain ⟨t,e⟩:=Value.isInt_shape (k:=i) (v:=v) h;exact .inl ⟨i,t,rfl,e⟩
 | .inr x,v,h=>by
  obtain ⟨t,e⟩:=Value.isStrOf_shape (x:=x) (v:=v) h;exact .inr ⟨x,t,rfl,e⟩
theorem AG (i:Int) (t:Tok):ot (.inl i) (.int i t)=true:=by simp [ot,Value.isInt]
theorem AF (x:Str) (t:Tok):ot (.inr x) (.str x t)=true:=by simp [ot,Value.isStrOf]
theorem JI (a b:Int):decide ((Sum.inl a:Key)=Sum.inl b)=(a==b):=by
 by_cases e:a=b
 ·subst e;simp
 ·have h:¬(Sum.inl a:Key)=Sum.inl b:=λq=>e (Sum.inl.inj q);rw [zah h];exact (zeb.mpr e).symm
theorem JF (a b:Str):decide ((Sum.inr a:Key)=Sum.inr b)=decide (a=b):=by
 by_cases e:a=b
 ·subst e;simp
 ·have h:¬(Sum.inr a:Key)=Sum.inr b:=λq=>e (Sum.inr.inj q);rw [zah h,zah e]
theorem JH (a:Int) (b:Str):decide ((Sum.inl a:Key)=Sum.inr b)=false:=zah (λq=>nomatch q)
theorem JG (a:Str) (b:Int):decide ((Sum.inr a:Key)=Sum.inl b)=false:=zah (λq=>nomatch q)
def bj (prog:Program) (w:World):PySem.KeyKind prog w Key where
 is:=ot
 hash:=QP w
 inj:=λv a b ha hb=>by
  rcases bV ha with ⟨i,t,rfl,rfl⟩|⟨x,t,rfl,rfl⟩
  ·rcases bV hb with ⟨j,u,rfl,e⟩|⟨y,u,rfl,e⟩
   ·injection e with e1 _;rw [e1]
   ·exact nomatch e
  ·rcases bV hb with ⟨j,u,rfl,e⟩|⟨y,u,rfl,e⟩
   ·exact nomatch e
   ·injection e with e1 _;rw [e1]
 byValue:=λk v h=>by
  rcases bV h with ⟨i,t,rfl,rfl⟩|⟨x,t,rfl,rfl⟩<;>rfl
 pyHash:=λhv h=>by
  rcases bV hv with ⟨i,t,rfl,rfl⟩|⟨x,t,rfl,rfl⟩
  ·exact wpAny_pyHash_int h
  ·exact wpAny_pyHash_str h
 eqBool:=λhu hv h=>by
  rcases bV hu with ⟨i,t,rfl,rfl⟩|⟨x,t,rfl,rfl⟩
  ·rcases bV hv with ⟨j,u,rfl,rfl⟩|⟨y,u,rfl,rfl⟩
   ·rw [JI] at h;exact wpAny_eqBool_int h
   ·rw [JH] at h;exact SeqAt.EqAt.int_str i t y u _ _ _ _ h
  ·rcases bV hv with ⟨j,u,rfl,rfl⟩|⟨y,u,rfl,rfl⟩
   ·rw [JG] at h;exact SeqAt.EqAt.str_int x t j u _ _ _ _ h
   ·rw [JF] at h;exact wpAny_eqBool_str h
 «strs»:=λk x t v h=>by
  rcases bV h with ⟨i,u,rfl,e⟩|⟨y,u,rfl,e⟩
  ·exact nomatch e
  ·injection e with e1 _;subst e1;cases v<;>rfl
theorem xg (prog:Program) (w:World) (k:Key) (v:Value):(bj prog w).is k v=ot k v:=rfl
theorem vb (prog:Program) (w:World) (i:Int) (t:Tok):(bj prog w).is (.inl i) (.int i t)=true:=AG i t
theorem va (prog:Program) (w:World) (x:Str) (t:Tok):(bj prog w).is (.inr x) (.str x t)=true:=AF x t
inductive V where
 | gn|bl (b:Bool) | int (i:Int) | str (x:Str) | Bk (b:Array UInt8) | EB (b:UInt64) | ref (a:Addr) | ty (n:String)
 deriving DecidableEq
def RelV:V->Value->Prop
 | .gn,u=>u=Value.none
 | .bl b,u=>u=Value.bool b
 | .int i,u=>∃ t,u=Value.int i t
 | .str x,u=>∃ t,u=Value.str x t
 | .Bk b,u=>∃ t,u=Value.bytes b t
 | .EB b,u=>∃ t,u=Value.float b t
 | .ref a,u=>u=Value.ref a
 | .ty n,u=>u=Value.type n
abbrev Vals:List V->XV->Prop:=Paired RelV
theorem Vals.length (r:Vals xs us):xs.length=us.length:=zcq r
theorem Vals.get:∀ {xs:List V} {us:XV} {i:Nat} {x:V},Vals xs us->xs[i]?=some x->∃ u,us[i]?=some u/\RelV x u
 | _,_,_,_,.nil,e=>by simp at e
 | _,_,0,_,.cons r _,e=>by simp at e;subst e;exact ⟨_,rfl,r⟩
 | _,_,i+1,x,.cons _ t,e=>by
  obtain ⟨u,h1,h2⟩:=Vals.get (i:=i) (x:=x) t (by simpa using e);exact ⟨u,by simpa using h1,h2⟩
theorem Vals.set {x:V} {u:Value} (r:RelV x u):∀ {xs:List V} {us:XV} (i:Nat),Vals xs us->Vals (xs.set i x) (us.set i u)
 | _,_,_,.nil=>.nil
 | _,_,0,.cons _ t=>.cons r t
 | _,_,i+1,.cons q t=>.cons q (Vals.set r i t)
theorem Vals.append:∀ {xs ys:List V} {us ws:XV},Vals xs us->Vals ys ws->Vals (xs++ys) (us++ws)
 | _,_,_,_,.nil,s=>s
 | _,_,_,_,.cons r t,s=>.cons r (Vals.append t s)
theorem Vals.take:∀ {xs:List V} {us:XV} (n:Nat),Vals xs us->Vals (xs.take n) (us.take n)
 | _,_,0,_=>.nil
 | _,_,_+1,.nil=>.nil
 | _,_,n+1,.cons r t=>.cons r (Vals.take n t)
theorem Vals.drop:∀ {xs:List V} {us:XV} (n:Nat),Vals xs us->Vals (xs.drop n) (us.drop n)
 | _,_,0,r=>r
 | _,_,_+1,.nil=>.nil
 | _,_,n+1,.cons _ t=>Vals.drop n t
def o6:Option V->Option Value->Prop
 | some v,some u=>RelV v u
 | none,none=>True
 | _,_=>False
def KV {κ:Type}:List (κ×V)->List (κ×Value)->Prop:=Paired λ(p:κ×V) (q:κ×Value)=>p.1=q.1/\RelV p.2 q.2
def kV:Key->V
 | .inl i=>.int i
 | .inr x=>.str x
inductive HO where
 /-- a list -/
 | lst (xs:List V)
 /-- a tuple (never changes) -/
 | tup (xs:List V)
 /-- a dict LF keys are ints and texts;one LF keys are tuples of ints and texts (zY empty one is both) -/
 | dK (kvs:List (Key×V)) | dT (kvs:List (List Key×V))
 /-- a set of ints: aJ members,aJ size -/
 | set (S:Int->Bool) (n:Nat)
 /-- an instance of zY class at C,aJ dict at dx,aJ attributes -/
 | ins (C dx:Addr) (fs:List (Str×V))
 /-- zY dict of zY instance at x -/
 | own (x:Addr)
 /-- zY dict of an exception -/
 | xd (fs:List (Str×V))
 /-- a bound method,f of x -/
 | met (f x:Addr)
 /-- a range object lo,lo+1,.. below hi -/
 | K5 (lo hi:Int)
 /-- a LQ Vt is known to zY object (zY PY;a dict while a loop walks it): read,never written while it is so -/
 | iO (o:Obj) (u:HO)
 /-- a code object's table -/
 | uh (ps:Array Value)
 /-- any other LQ,by Pu is true of aJ one object (a def of one's own: YN a S n:=HO.ext λh=>..) -/
 | ext (φ:Heap->Prop)
abbrev Hp:=Addr->Option HO
def upd (H:Hp) (a:Addr) (o:HO):Hp:=λb=>if b=a then some o else H b
theorem ae:upd H a o a=some o:=by unfold upd;rw [ZW rfl]
theorem aq (h:b≠a):upd H a o b=H b:=by unfold upd;rw [ZU h]
theorem rQ:upd (upd H a o) a u=upd H a u:=by
 funext b;unfold upd;split<;>rfl
theorem CZ {H:Hp} {a b:Addr} {o u:HO} (h:H a=some o) (h':H b=some u) (d:o≠u):a≠b:=by
 intro e;subst e;rw [h] at h';exact d (ZO h')
theorem aU {H:Hp} {a b:Addr} {o:HO} (h:H a=some o) (h':H b=none):a≠b:=by
 intro e;subst e;rw [h] at h';cases h'
section
variable (P:Program) (w:World)
def aW (H:Hp) (h:Heap) (a:Addr):HO->Prop
 | .lst xs=>xs.length<=sizeLine/\∃ (aJ:XV) (n:Nat),Vals xs aJ/\h.get? a=some { cls:=.type "list",data:=.seq aJ.toArray n }
 | .tup xs=>xs.length<=sizeLine/\∃ aJ:XV,Vals xs aJ/\IsTup h a aJ.toArray
 | .dK kvs=>kvs.length<=sizeLine/\(a==sysModules)=false/\∃ vs,KV kvs vs/\h.DictOf (bj P w) a vs
 | .dT kvs=>kvs.length<=sizeLine/\(a==sysModules)=false/\∃ xs:List (List Key×Addr×Value),
   Paired (λ(p:List Key×V) (q:List Key×Addr×Value)=>p.1=q.1/\H q.2.1=some (.tup (p.1.map kV))/\RelV p.2 q.2.2) kvs xs/\
   ∃ o es ep,h.get? a=some o/\o.ExactDict/\o.data=.dict es ep/\es.toList=xs.map (entryOfKey (tupleKind (bj P w)))/\(xs.map (·.1)).Nodup
 | .set S n=>h.SetOf (intKind P w) a S n
 | .ins C dx fs=>H dx=some (.own a)/\fs.length<=1000/\dx≠a/\h.get? a=some (PySem.W.instObj C dx)/\
   ∃ mA,h.Ns1 dx mA/\(∀ f,o6 (fs.lookup f) (mA f))/\PySem.Within mA (fs.map (·.1))
 | .own _=>∃ o,h.get? a=some o
 | .xd fs=>∃ mA,h.Ns1 a mA/\∀ f,o6 (fs.lookup f) (mA f)
 | .K5 lo hi=>∃ t u v,h.get? a=some { cls:=.type "range",data:=.fields #[.int lo t,.int hi u,.int 1 v] }
 | .iO o u=>h.get? a=some o/\aW H h a u
 | .uh ps=>h.get? a=some { cls:=.none,data:=.fields ps }
 | .met f x=>h.get? a=some (PySem.W.methodObj (.ref f) (.ref x))
 | .ext φ=>φ h/\(∃ o,h.get? a=some o)/\∀ h1 h2:Heap,φ h1->(∀ o,h1.get? a=some o->h2.get? a=some o)->φ h2
def hX (H:Hp) (h:Heap):Prop:=∀ a o,H a=some o->aW P w H h a o
end
section
variable {P:Program} {w:World} {H H':Hp} {h h':Heap} {a:Addr} {o:HO}
theorem aW.lt (x:aW P w H h a o):a<h.objs.size:=by
 cases o with
 | lst xs=>obtain ⟨_,_,_,_,e⟩:=x;exact ZM e
 | tup xs=>obtain ⟨_,_,_,p⟩:=x;exact p.lt
 | dK kvs=>obtain ⟨_,_,_,_,o,_,_,e,_⟩:=x;exact ZM e
 | dT kvs=>obtain ⟨_,_,_,_,o,_,_,e,_⟩:=x;exact ZM e
 | set S n=>obtain ⟨o,_,_,_,e,_⟩:=x;exact ZM e
 | ins C dx fs=>obtain ⟨_,_,_,e,_⟩:=x;exact ZM e
 | own y=>obtain ⟨_,e⟩:=x;exact ZM e
 | xd fs=>obtain ⟨_,⟨_,_,_,e,_⟩,_⟩:=x;exact ZM e
 | K5 lo hi=>obtain ⟨_,_,_,e⟩:=x;exact ZM e
 | iO ob u=>obtain ⟨e,_⟩:=x;exact ZM e
 | uh ps=>exact ZM (show h.get? a=some _ from x)
 | met f y=>exact ZM (show h.get? a=some _ from x)
 | ext φ=>obtain ⟨_,⟨_,e⟩,_⟩:=x;exact ZM e
theorem Paired.vc {α β:Type} {F G:α->β->Prop}:∀ {l₁:List α} {l₂:List β},Paired F l₁ l₂->(∀ a b,F a b->G a b)->Paired G l₁ l₂
 | _,_,.nil,_=>.nil
 | _,_,.cons r t,f=>.cons (f _ _ r) (Paired.vc t f)
theorem aW.eB (x:aW P w H h a o) (k:∀ b u,(b=a\/H b=some (.own a))->h.get? b=some u->h'.get? b=some u)
  (ho:∀ b,H b=some (.own a)->H' b=some (.own a)) (ht:∀ b xs,H b=some (.tup xs)->H' b=some (.tup xs)):aW P w H' h' a o:=by
 induction o with
 | lst xs=>obtain ⟨z,aJ,n,r,e⟩:=x;exact ⟨z,aJ,n,r,k _ _ (.inl rfl) e⟩
 | tup xs=>obtain ⟨z,aJ,r,ob,e,c⟩:=x;exact ⟨z,aJ,r,ob,k _ _ (.inl rfl) e,c⟩
 | dK kvs=>obtain ⟨z,y,vs,r,ob,es,ep,e,c⟩:=x;exact ⟨z,y,vs,r,ob,es,ep,k _ _ (.inl rfl) e,c⟩
 | dT kvs=>
  obtain ⟨z,y,xs,r,ob,es,ep,e,c⟩:=x;exact ⟨z,y,xs,Paired.vc r λp q z=>⟨z.1,ht _ _ z.2.1,z.2.2⟩,ob,es,ep,k _ _ (.inl rfl) e,c⟩
 | set S n=>obtain ⟨ob,es,ep,t,e,c⟩:=x;exact ⟨ob,es,ep,t,k _ _ (.inl rfl) e,c⟩
 | ins C dx fs=>
  obtain ⟨d,z,ne,e,mA,⟨od,es,ep,e2,c⟩,r⟩:=x;exact ⟨ho _ d,z,ne,k _ _ (.inl rfl) e,mA,⟨od,es,ep,k _ _ (.inr d) e2,c⟩,r⟩
 | own y=>obtain ⟨ob,e⟩:=x;exact ⟨ob,k _ _ (.inl rfl) e⟩
 | xd fs=>obtain ⟨mA,⟨od,es,ep,e,c⟩,r⟩:=x;exact ⟨mA,⟨od,es,ep,k _ _ (.inl rfl) e,c⟩,r⟩
 | K5 lo hi=>obtain ⟨t,u,v,e⟩:=x;exact ⟨t,u,v,k _ _ (.inl rfl) e⟩
 | iO ob u ih=>obtain ⟨e,q⟩:=x;exact ⟨k _ _ (.inl rfl) e,ih q⟩
 | uh ps=>
  have e:h.get? a=some { cls:=.none,data:=.fields ps }:=x;show h'.get? a=some { cls:=.none,data:=.fields ps };exact k a _ (.inl rfl) e
 | met f y=>
  have e:h.get? a=some (PySem.W.methodObj (.ref f) (.ref y)):=x;show h'.get? a=some (PySem.W.methodObj (.ref f) (.ref y));exact k a _ (.inl rfl) e
 | ext φ=>obtain ⟨p,⟨o,e⟩,st⟩:=x;exact ⟨st _ _ p λo q=>k _ _ (.inl rfl) q,⟨o,k _ _ (.inl rfl) e⟩,st⟩
theorem hX.lt (x:hX P w H h) (e:H a=some o):a<h.objs.size:=(x a o e).lt
theorem hX.fresh (x:hX P w H h) (e:h.objs.size<=a):H a=none:=by
 cases q:H a with
 | none=>rfl
 | some u=>exact absurd (ZY (x.lt q) e) (zam _)
theorem hX.kept (x:hX P w H h) (k:∀ b u,h.get? b=some u->h'.get? b=some u):hX P w H h':=λa o e=>
 (x a o e).eB (λb u _ q=>k b u q) (λ_ q=>q) λ_ _ q=>q
theorem hX.laid (x:hX P w H h) (k:∀ b u,h.get? b=some u->h'.get? b=some u) (hp:h.objs.size<=a) (new:aW P w (upd H a o) h' a o):hX P w (upd H a o) h':=λb u e=>by
 have hn:=x.fresh hp;by_cases hb:b=a
 ·subst hb;rw [ae] at e;cases e;exact new
 ·rw [aq hb] at e;exact (x b u e).eB (λc v _ q=>k c v q) (λc q=>by rw [aq (aU q hn)];exact q) λc xs q=>by rw [aq (aU q hn)];exact q
end
def Rd (H:Hp) (a:Addr) (u:HO):Prop:=H a=some u\/∃ o,H a=some (.iO o u)
theorem Rd.ok (r:Rd H a u) (x:hX P w H h):aW P w H h a u:=by
 rcases r with r|⟨o,r⟩
 ·exact x a u r
 ·obtain ⟨_,q⟩:=x a _ r;exact q
def Od:Option HO->Prop
 | some (.lst _)=>True
 | some (.dK _)=>True
 | some (.dT _)=>True
 | some (.set _ _)=>True
 | some (.ins _ _ _)=>True
 | some (.ext _)=>True
 | _=>False
theorem hX.write (ok:hX P w H h) (mu:Od (H x)) (he:e=x\/H e=some (.own x)) (k:∀ b u,b≠e->h.get? b=some u->h'.get? b=some u) (Ey:∃ u,h'.get? e=some u)
  (new:aW P w (upd H x o') h' x o'):hX P w (upd H x o') h':=λb u q=>by
 have MA:∀ c y,H c=some (.own y)->c≠x:=λc y r z=>by subst z;rw [r] at mu;exact mu
 have Qw:∀ c xs,H c=some (.tup xs)->c≠x:=λc xs r z=>by subst z;rw [r] at mu;exact mu
 by_cases hb:b=x
 ·subst hb;rw [ae] at q;cases q;exact new
 ·rw [aq hb] at q;by_cases Ke:b=e
  ·have q':H b=some (.own x):=by
    rcases he with z|z
    ·exact absurd (Ke.trans z) hb
    ·rw [Ke];exact z
   rw [q] at q';cases q';obtain ⟨v,hv⟩:=Ey;exact ⟨v,by rw [Ke];exact hv⟩
  ·refine (ok b u q).eB (λc v hc r=>k c v ?_ r) (λc r=>by rw [aq (MA c b r)];exact r) λc xs r=>by rw [aq (Qw c xs r)];exact r
   rcases hc with rfl|hc
   ·exact Ke
   ·rintro rfl;rcases he with z|z
    ·exact MA c b hc z
    ·rw [hc] at z;cases z;exact hb rfl
structure Un (fs ex:XL) (H H':Hp) (h h':Heap):Prop where
 keep:∀ b o,h.get? b=some o->H b=none->b∉fs->b∉ex->h'.get? b=some o
 slot:∀ b o,h.get? b=some o->H b=none->b∈fs->b∉ex->∃ sl,h'.get? b=some { o with slots:=sl }
 free:∀ b o,h.get? b=some o->H b=none->b∉ex->H' b=none
 there:∀ b o,h.get? b=some o->b∉ex->∃ o',h'.get? b=some o'
 lS:∀ b xs,H b=some (.tup xs)->H' b=some (.tup xs)
 lg:∀ b o u,H b=some (.iO o u)->H' b=some (.iO o u)
 kC:∀ b ps,H b=some (.uh ps)->∃ more,H' b=some (.uh (ps++more))
section
variable {fs Yd ex Zu:XL} {H H1 H2:Hp} {h h1 h2 h':Heap} {a x e:Addr} {o:HO}
theorem Un.any (u:Un fs ex H H1 h h1) (q:h.get? b=some ob) (n:H b=none) (hx:b∉ex):∃ sl,h1.get? b=some { ob with slots:=sl }:=by
 by_cases hb:b∈fs
 ·exact u.slot b ob q n hb hx
 ·exact ⟨ob.slots,u.keep b ob q n hb hx⟩
theorem Un.kept (k:∀ b u,h.get? b=some u->h'.get? b=some u):Un fs ex H H h h':=
 ⟨λb ob q _ _ _=>k b ob q,λb ob q _ _ _=>⟨ob.slots,k b ob q⟩,λ_ _ _ n _=>n,λb ob q _=>⟨ob,k b ob q⟩,λ_ _ q=>q,λ_ _ _ q=>q,λ_ ps q=>⟨#[],by rw [q];simp⟩⟩
theorem Un.refl:Un fs ex H H h h:=Un.kept λ_ _ q=>q
theorem Un.laid (k:∀ b u,h.get? b=some u->h'.get? b=some u) (hp:h.objs.size<=a) (hn:H a=none):Un fs ex H (upd H a o) h h' where
 keep:=λb u q _ _ _=>k b u q
 slot:=λb u q _ _ _=>⟨u.slots,k b u q⟩
 free:=λb u q n _=>by rw [aq (Z1 (ZY (ZM q) hp))];exact n
 there:=λb u q _=>⟨u,k b u q⟩
 lS:=λb xs q=>by rw [aq (aU q hn)];exact q
 lg:=λb u xs q=>by rw [aq (aU q hn)];exact q
 kC:=λb ps q=>⟨#[],by rw [aq (aU q hn),q];simp⟩
theorem Un.write (mu:Od (H x)) (he:e=x\/H e=some (.own x)) (k:∀ b u,b≠e->h.get? b=some u->h'.get? b=some u) (Ey:∃ u,h'.get? e=some u):Un fs ex H (upd H x o) h h':=by
 have hx:∀ b,H b=none->b≠x:=λb n z=>by subst z;rw [n] at mu;exact mu
 have hb:∀ b,H b=none->b≠e:=λb n z=>by
  subst z;rcases he with r|r
  ·exact hx b n r
  ·rw [n] at r;cases r
 have hm:∀ b u,H b=some u->¬Od (some u)->b≠x:=λb u q nm z=>by subst z;rw [q] at mu;exact nm mu
 refine ⟨λb u q n _ _=>k b u (hb b n) q,λb u q n _ _=>⟨u.slots,k b u (hb b n) q⟩,λb u q n _=>by rw [aq (hx b n)];exact n,λb u q _=>?_,
  λb xs q=>by rw [aq (hm b _ q λz=>z)];exact q,λb u xs q=>by rw [aq (hm b _ q λz=>z)];exact q,λb ps q=>⟨#[],by rw [aq (hm b _ q λz=>z),q];simp⟩⟩
 by_cases Ke:b=e
 ·subst Ke;exact Ey
 ·exact ⟨u,k b u Ke q⟩
end
def Oo (h:Heap) (H:Hp):XL:=(List.range h.objs.size).filter λa=>(H a).isSome
def vB (h:Heap) (H:Hp):Heap:=PySem.W.hideAll h (Oo h H)
theorem AO (h:Heap) (H:Hp):(vB h H).objs.size=h.objs.size:=PySem.W.hideAll_size _ _
theorem oE (e:h.get? b=some o) (n:H b=none):(vB h H).get? b=some o:=
 PySem.W.hideAll_get _ e λhm=>by
  have q:(H b).isSome=true:=(List.mem_filter.mp hm).2;rw [n] at q;simp at q
theorem FJ (e:(vB h H).get? b=some o):h.get? b=some o/\H b=none:=by
 have e':h.get? b=some o:=PySem.W.of_hideAll (Oo h H) e;refine ⟨e',?_⟩;cases q:H b with
 | none=>rfl
 | some x=>
  have hm:b∈Oo h H:=List.mem_filter.mpr ⟨zaj.mpr (ZM e'),by simp [q]⟩;have z:(vB h H).get? b=none:=PySem.W.hideAll_none (Oo h H) hm;rw [z] at e;cases e
def GI (g h:Heap) (L:Addr):WF:=(List.range h.objs.size).filterMap λa=>if a=L\/(g.get? a).isSome=true then none else (h.get? a).map λo=>(a,o)
def rest (g h:Heap) (L d:Addr):WF:=(GI g h L).filter λp=>decide (p.1≠d)
structure Mod (K:ZB) (mg:W1) (base:Heap):Prop where
 La:K.In base
 glob:base.Ns mainGlobals mg
 blt:∃ mb,base.Ns builtinsNs mb/\∀ x:Str,x≠ "__name__"->mb x=bootBuiltins x
 nolimit:base.NoLimit
structure Cx where
 prog:Program
 w:World
 K:ZB
 mg:Str->Option Value
 base:Heap
 A:Around
 N:List Str
 s₀:Shared
 H₀:Hp
 env:Env
 outer:List Env
 stack:List Env
 ex:XL
 fn:Str->Bool
 calm:Bool
 pn:WF
 xe:Value->Shared->Prop
def hW (l:List Env):XL:=l.filterMap (·.frame)
abbrev Cx.fs (X:Cx):XL:=hW X.outer
def N7 (sc:Scope) (x:Str):Prop:=sc.names.lookup x=some .local\/sc.names.lookup x=some .cell\/sc.names.lookup x=some .free
def Loc (sc:Scope) (x:Str):Prop:=sc.names.lookup x=some .local\/sc.names.lookup x=some .cell
def Look (env:Env) (h:Heap) (m:W1) (x:Str) (u:Value):Prop:=
 (env.kindOf x=some .local/\m x=some u)\/((env.kindOf x=some .cell\/env.kindOf x=some .free)/\∃ c,env.cells.lookup x=some c/\h.IsCell c (some u))
structure Cx.Ok (X:Cx):Prop where
 mod:Mod X.K X.mg X.base
 kind:X.env.scope.kind=.function
 glob:X.env.globals=mainGlobals
 blt:X.env.builtins=builtinsNs
 above:X.s₀.heap.objs.size<=X.env.locals
 inj:∀ x y c,X.env.cells.lookup x=some c->X.env.cells.lookup y=some c->x=y
 has:∀ x,(X.env.kindOf x=some .cell\/X.env.kindOf x=some .free)->∃ c,X.env.cells.lookup x=some c
 Lm:∀ x c,X.fn x=true->X.env.cells.lookup x=some c->X.s₀.heap.objs.size<=c
 hd:X.calm=true->X.A.handled=none
 frames:X.A.frames=some X.stack
 ye:X.stack=X.outer\/(X.stack=X.env::X.outer/\X.env.frame=some X.env.locals)
 Se:∀ b∈X.ex,b≠X.env.locals/\∀ x c,X.env.cells.lookup x=some c->c≠b
 bs:∀ b o,X.base.get? b=some o->X.s₀.heap.get? b=some o/\X.H₀ b=none
 GF:X.base.objs.size<=X.s₀.heap.objs.size
 As:∀ b o,X.base.get? b=some o->b∉X.ex
 DN:∀ b∈X.ex,b∉X.fs
 k9:X.s₀.heap.FunFrames X.base X.outer
 Kj:∀ b∈X.fs,X.H₀ b=none
structure Inv (X:Cx) (pins:WF) (σ:List (Option V)) (H:Hp) (s:Shared):Prop where
 ok:X.Ok
 os:s.os=X.s₀.os
 bare:AllBare s.gens
 base:Un X.fs X.ex X.H₀ H X.s₀.heap s.heap
 loc:∃ m,s.heap.Ns X.env.locals m/\∀ (i:Nat) (x:Str) (v:V),X.N[i]?=some x->σ[i]?=some (some v)->N7 X.env.scope x->∃ u,RelV v u/\Look X.env s.heap m x u
 cell:∀ x c,X.env.cells.lookup x=some c->∃ v,s.heap.IsCell c v
 free:H X.env.locals=none
 dO:∀ x c,X.env.cells.lookup x=some c->H c=none
 pin:∀ p∈X.pn++pins,s.heap.get? p.1=some p.2/\H p.1=none/\p.1≠X.env.locals/\p.1∉X.fs/\∀ v,p.2.data≠.cell v
 aZ:hX X.prog X.w H s.heap
 len:σ.length=X.N.length
section
variable {X:Cx} {pins:WF} {σ:List (Option V)} {H H':Hp} {s:Shared} {h':Heap}
theorem Cx.Ok.Qz (ok:X.Ok) (e:X.base.get? b=some o):b∉X.fs:=λhb=>by
 have:=(ok.k9.mem hb).1;rw [e] at this;cases this
theorem Inv.bs (I:Inv X pins σ H s):∀ b o,X.base.get? b=some o->s.heap.get? b=some o/\H b=none:=λb o e=>
 ⟨I.base.keep b o (I.ok.bs b o e).1 (I.ok.bs b o e).2 (I.ok.Qz e) (I.ok.As b o e),I.base.free b o (I.ok.bs b o e).1 (I.ok.bs b o e).2 (I.ok.As b o e)⟩
theorem Inv.bk (I:Inv X pins σ H s):∀ b o,X.base.get? b=some o->s.heap.get? b=some o:=λb o e=>(I.bs b o e).1
theorem Inv.mod (I:Inv X pins σ H s):Mod X.K X.mg X.base:=I.ok.mod
theorem Inv.oB (I:Inv X pins σ H s):X.K.In s.heap:=I.ok.mod.La.keeps I.bk
theorem Inv.nolimit (I:Inv X pins σ H s):s.heap.NoLimit:=I.ok.mod.nolimit.keeps I.bk
theorem Inv.lt (I:Inv X pins σ H s):X.env.locals<s.heap.objs.size:=let ⟨_,hn,_⟩:=I.loc;hn.lt
theorem Inv.sz (I:Inv X pins σ H s):X.s₀.heap.objs.size<=s.heap.objs.size:=zag I.ok.above (zaA I.lt)
theorem Inv.CW (I:Inv X pins σ H s) {a:Addr} (h:s.heap.objs.size<=a):a∉X.fs:=λhb=>by
 obtain ⟨_,o,ho,_⟩:=I.ok.k9.mem hb;exact absurd (ZY (ZM ho) (zag I.sz h)) (zam _)
theorem Inv.GA (I:Inv X pins σ H s):∀ x c,X.env.cells.lookup x=some c->c≠X.env.locals:=λx c e z=>by
 obtain ⟨v,o,ho,hd⟩:=I.cell x c e;obtain ⟨m,⟨o',es,ep,AM,XF,_⟩,_⟩:=I.loc;rw [z,AM] at ho;cases ho;rw [XF] at hd;cases hd
theorem Inv.k9 (I:Inv X pins σ H s):s.heap.FunFrames X.base X.outer:=by
 have all:∀ (l:List Env),(∀ b∈hW l,b∈X.fs)->X.s₀.heap.FunFrames X.base l->s.heap.FunFrames X.base l:=by
  intro l
  induction l with
  | nil=>intro _ _;trivial
  | cons env r ih=>
   intro hs hl;obtain ⟨hk,⟨L,o,hf,hn,ho,hd⟩,hr⟩:=hl;have hL:L∈X.fs:=hs L (by unfold hW;rw [zcK,hf];exact zac);obtain ⟨sl,e⟩:=I.base.slot L o ho (I.ok.Kj L hL) hL λz=>I.ok.DN L z hL;exact ⟨hk,⟨L,_,hf,hn,e,hd⟩,ih (λb hb=>hs b (by unfold hW;rw [zcK,hf];exact Z5 _ hb)) hr⟩
 exact all X.outer (λ_ hb=>hb) I.ok.k9
theorem Inv.stack (I:Inv X pins σ H s):s.heap.FunFrames X.base X.stack:=by
 rcases I.ok.ye with e|⟨e,hf⟩
 ·rw [e];exact I.k9
 ·rw [e];obtain ⟨m,hn,_⟩:=I.loc;refine .cons (by rw [I.ok.kind];decide) hf hn ?_ I.k9;exact Heap.get?_none_of_le (zag I.ok.GF I.ok.above)
theorem Inv.js (I:Inv X pins σ H s):∀ b∈hW X.stack,b∈X.env.locals::X.fs:=λb hb=>by
 rcases I.ok.ye with e|⟨e,hf⟩
 ·rw [e] at hb;exact Z5 _ hb
 ·rw [e] at hb;unfold hW at hb;rw [zcK,hf] at hb;exact hb
theorem Inv.mC (I:Inv X pins σ H s):∀ b∈hW X.stack,H b=none:=λb hb=>by
 rcases zas.mp (I.js b hb) with e|hb
 ·rw [e];exact I.free
 ·obtain ⟨_,o,ho,_⟩:=I.ok.k9.mem hb;exact I.base.free b o ho (I.ok.Kj b hb) λz=>I.ok.DN b z hb
theorem Inv.step {g':Array GenState} {t':Nat} {d':Drawn} {ch:XL} (I:Inv X pins σ H s)
  (Ez:∀ b∈ch,(b∈X.ex\/X.s₀.heap.objs.size<=b)/\b≠X.env.locals/\(∀ x c,X.env.cells.lookup x=some c->c≠b)/\∀ p∈X.pn++pins,p.1≠b)
  (keep:∀ b o,b≠X.env.locals->b∉X.fs->b∉ch->s.heap.get? b=some o->H b=none->h'.get? b=some o)
  (slot:∀ b o,b≠X.env.locals->b∈X.fs->b∉ch->s.heap.get? b=some o->H b=none->∃ sl,h'.get? b=some { o with slots:=sl }) (free:∀ b o,b∉ch->s.heap.get? b=some o->H b=none->H' b=none)
  (there:∀ b o,b∉ch->s.heap.get? b=some o->∃ o',h'.get? b=some o')
  (lS:∀ b xs,H b=some (.tup xs)->H' b=some (.tup xs)) (lg:∀ b o u,H b=some (.iO o u)->H' b=some (.iO o u)) (kC:∀ b ps,H b=some (.uh ps)->∃ more,H' b=some (.uh (ps++more)))
  (ns:∀ m,s.heap.Ns X.env.locals m->h'.Ns X.env.locals m) (aZ:hX X.prog X.w H' h') (hg:AllBare g') :
  Inv X pins σ H' { s with heap:=h',gens:=g',drawn:=d',toks:=t' }:=by
 have TM:∀ b o,X.s₀.heap.get? b=some o->b≠X.env.locals:=λb o e=>Z1 (ZY (ZM e) I.ok.above);have OK:∀ b o,X.s₀.heap.get? b=some o->b∉X.ex->b∉ch:=λb o e hx hb=>by
  rcases (Ez b hb).1 with z|z
  ·exact hx z
  ·exact absurd (ZY (ZM e) z) (zam _)
 have cellK:∀ x c,X.env.cells.lookup x=some c->∀ v,s.heap.IsCell c v->h'.IsCell c v:=λx c e v ⟨o,ho,hd⟩=>by
  have yJ:c∉ch:=λz=>(Ez c z).2.2.1 x c e rfl;by_cases hc:c∈X.fs
  ·obtain ⟨sl,q⟩:=slot c o (I.GA x c e) hc yJ ho (I.dO x c e);exact ⟨_,q,hd⟩
  ·exact ⟨o,keep c o (I.GA x c e) hc yJ ho (I.dO x c e),hd⟩
 refine ⟨I.ok,I.os,hg,⟨λb o e n hb hx=>?_,λb o e n hb hx=>?_,λb o e n hx=>?_,λb o e hx=>?_,λb xs e=>lS b xs (I.base.lS b xs e),λb o xs e=>lg b o xs (I.base.lg b o xs e),λb ps e=>?_⟩,?_,λx c e=>?_,?_,λx c e=>?_,λp hp=>?_,aZ,I.len⟩
 ·exact keep b o (TM b o e) hb (OK b o e hx) (I.base.keep b o e n hb hx) (I.base.free b o e n hx)
 ·obtain ⟨sl,e1⟩:=I.base.slot b o e n hb hx;obtain ⟨L4,e2⟩:=slot b _ (TM b o e) hb (OK b o e hx) e1 (I.base.free b o e n hx);exact ⟨L4,e2⟩
 ·obtain ⟨o',e1⟩:=I.base.there b o e hx;exact free b o' (OK b o e hx) e1 (I.base.free b o e n hx)
 ·obtain ⟨o',e1⟩:=I.base.there b o e hx;exact there b o' (OK b o e hx) e1
 ·obtain ⟨m1,e1⟩:=I.base.kC b ps e;obtain ⟨m2,e2⟩:=kC b _ e1;exact ⟨m1++m2,by rw [e2,Array.append_assoc]⟩
 ·obtain ⟨m,hn,hl⟩:=I.loc;refine ⟨m,ns m hn,λi x v e1 e2 e3=>?_⟩;obtain ⟨u,r,l⟩:=hl i x v e1 e2 e3;refine ⟨u,r,?_⟩;rcases l with l|⟨k,c,e,z⟩
  ·exact .inl l
  ·exact .inr ⟨k,c,e,cellK x c e _ z⟩
 ·obtain ⟨v,z⟩:=I.cell x c e;exact ⟨v,cellK x c e v z⟩
 ·obtain ⟨m,⟨o,_,_,ho,_⟩,_⟩:=I.loc;exact free _ o (λz=>(Ez _ z).2.1 rfl) ho I.free
 ·obtain ⟨v,o,ho,hd⟩:=I.cell x c e;exact free c o (λz=>(Ez c z).2.2.1 x c e rfl) ho (I.dO x c e)
 ·obtain ⟨e,n,ne,nf,d⟩:=I.pin p hp;have yJ:p.1∉ch:=λz=>(Ez p.1 z).2.2.2 p hp rfl;exact ⟨keep p.1 p.2 ne nf yJ e n,free p.1 p.2 yJ e n,ne,nf,d⟩
theorem Inv.un (I:Inv X pins σ H s) (u:Un X.fs [] H H' s.heap h') (aZ:hX X.prog X.w H' h'):Inv X pins σ H' { s with heap:=h',toks:=t' }:=by
 obtain ⟨m,⟨o,es,ep,ho,r⟩,_⟩:=id I.loc;obtain ⟨sl,hL⟩:=u.any ho I.free (by simp);exact I.step (g':=s.gens) (d':=s.drawn) (ch:=[]) (λ_ z=>nomatch z) (λb o _ hb _ e n=>u.keep b o e n hb (by simp)) (λb o _ hb _ e n=>u.slot b o e n hb (by simp)) (λb o _ e n=>u.free b o e n (by simp)) (λb o _ e=>u.there b o e (by simp)) u.lS u.lg u.kC (λm' hm=>by
  obtain ⟨o',es',Sg,AM,r'⟩:=hm;rw [ho] at AM;cases AM;exact ⟨_,es',Sg,hL,r'⟩) aZ I.bare
theorem Inv.call (I:Inv X pins σ H s) (u:Un (hW X.stack) ch H H' s.heap h') (aZ:hX X.prog X.w H' h') (hg:AllBare g')
  (Ez:∀ b∈ch,(b∈X.ex\/X.s₀.heap.objs.size<=b)/\b≠X.env.locals/\(∀ x c,X.env.cells.lookup x=some c->c≠b)/\∀ p∈X.pn++pins,p.1≠b) :
  Inv X pins σ H' { s with heap:=h',gens:=g',drawn:=d',toks:=t' }:=by
 obtain ⟨m,⟨o,es,ep,ho,r⟩,_⟩:=id I.loc;obtain ⟨sl,hL⟩:=u.any ho I.free λz=>(Ez _ z).2.1 rfl;exact I.step (ch:=ch) Ez (λb o hL hb hc e n=>u.keep b o e n (λz=>(zas.mp (I.js b z)).elim hL hb) hc) (λb o _ _ hc e n=>u.any e n hc) (λb o hc e n=>u.free b o e n hc) (λb o hc e=>u.there b o e hc) u.lS u.lg u.kC (λm' hm=>by
  obtain ⟨o',es',Sg,AM,r'⟩:=hm;rw [ho] at AM;cases AM;exact ⟨_,es',Sg,hL,r'⟩) aZ hg
theorem Inv.turned (I:Inv X pins σ H s) (k:∀ b o,b≠it->s.heap.get? b=some o->h'.get? b=some o) (hn:H it=none) (hL:it≠X.env.locals)
  (h1:it∈X.ex\/X.s₀.heap.objs.size<=it) (h2:∀ x c,X.env.cells.lookup x=some c->c≠it) (h3:∀ p∈X.pn++pins,p.1≠it):Inv X pins σ H { s with heap:=h',toks:=t' }:=by
 have K7:∀ b u,H b=some u->b≠it:=λb u e z=>by rw [z,hn] at e;cases e
 refine I.step (g':=s.gens) (d':=s.drawn) (ch:=[it]) (λb hb=>?_) (λb o _ _ hc e _=>k b o (λz=>hc (by simp [z])) e) (λb o _ _ hc e _=>⟨o.slots,k b o (λz=>hc (by simp [z])) e⟩) (λ_ _ _ _ n=>n)
  (λb o hc e=>⟨o,k b o (λz=>hc (by simp [z])) e⟩) (λ_ _ e=>e) (λ_ _ _ e=>e) (λb ps e=>⟨#[],by rw [e];simp⟩) (λm hm=>?_) (λb u e=>?_) I.bare
 ·have e:b=it:=by simpa using hb
  subst e;exact ⟨h1,hL,h2,h3⟩
 ·obtain ⟨o,es,ep,ho,r⟩:=hm;exact ⟨o,es,ep,k _ o (zaD hL) ho,r⟩
 ·refine (I.aZ b u e).eB (λc v hc q=>k c v ?_ q) (λ_ q=>q) λ_ _ q=>q;rcases hc with z|z
  ·rw [z];exact K7 b u e
  ·exact K7 c _ z
theorem Inv.tok (I:Inv X pins σ H s) (t:Nat):Inv X pins σ H { s with toks:=t }:=I.un (h':=s.heap) (t':=t) Un.refl I.aZ
theorem Inv.kept (I:Inv X pins σ H s) (k:∀ b u,s.heap.get? b=some u->h'.get? b=some u):Inv X pins σ H { s with heap:=h',toks:=t' }:=I.un (Un.kept k) (I.aZ.kept k)
theorem Inv.laid {a:Addr} {o:HO} {t':Nat} (I:Inv X pins σ H s) (k:∀ b u,s.heap.get? b=some u->h'.get? b=some u) (hp:s.heap.objs.size<=a) (new:aW X.prog X.w (upd H a o) h' a o) :
  Inv X pins σ (upd H a o) { s with heap:=h',toks:=t' }:=I.un (Un.laid k hp (I.aZ.fresh hp)) (I.aZ.laid k hp new)
theorem Inv.write (I:Inv X pins σ H s) (mu:Od (H x)) (he:e=x\/H e=some (.own x)) (k:∀ b u,b≠e->s.heap.get? b=some u->h'.get? b=some u) (Ey:∃ u,h'.get? e=some u)
  (new:aW X.prog X.w (upd H x o) h' x o):Inv X pins σ (upd H x o) { s with heap:=h',toks:=t' }:=I.un (Un.write mu he k Ey) (I.aZ.write mu he k Ey new)
theorem Inv.dZ (I:Inv X pins σ H s) (h:∀ p∈Hv,s.heap.get? p.1=some p.2/\H p.1=none/\p.1≠X.env.locals/\p.1∉X.fs/\∀ v,p.2.data≠.cell v):Inv X Hv σ H s:=
 ⟨I.ok,I.os,I.bare,I.base,I.loc,I.cell,I.free,I.dO,λp hp=>(ZZ.mp hp).elim (λz=>I.pin p (zbz _ z)) (h p),I.aZ,I.len⟩
theorem nT {N:List Str} (hN:N.Nodup) {i j:Nat} {x:Str} (a:N[i]?=some x) (b:N[j]?=some x):i=j:=by
 obtain ⟨h1,e1⟩:=ZL.mp a;obtain ⟨h2,e2⟩:=ZL.mp b;exact (getElem_inj hN).mp (e1.trans e2.symm)
theorem qH (I:Inv X pins σ H s) (hN:X.N.Nodup) (hi:X.N[i]?=some x) (hx:Loc X.env.scope x) (r:RelV v u)
  (h:∀ s',Inv X pins (σ.set i (some v)) H s'->(∃ a,Heap.SameBut a s.heap s'.heap/\(a=X.env.locals\/X.env.cells.lookup x=some a))->Q () s') (hf:X.fn x=true\/X.env.scope.names.lookup x=some .local:=by first|exact .inl rfl|exact .inr rfl|assumption):wpAny M A (storeName X.env x u) Q E s:=by
 obtain ⟨m,hn,hl⟩:=id I.loc;have Kb:(X.env.scope.kind==.class || (X.env.scope.kind==.module&&X.env.locals != X.env.globals))=false:=by rw [I.ok.kind];rfl
 have hiσ:i<σ.length:=by rw [I.len];exact (ZL.mp hi).1
 have GA:=I.GA;have tracked:∀ {a:Addr} {h':Heap},(∃ o,s.heap.get? a=some o/\H a=none)->Heap.SameBut a s.heap h'->hX X.prog X.w H h':=λ{a h'} ha hs b ob e=>by
  obtain ⟨_,_,yY⟩:=ha;refine (I.aZ b ob e).eB (λc w' hc q=>(hs.2 c ?_).trans q) (λ_ q=>q) λ_ _ q=>q;rintro rfl;rcases hc with rfl|hc
  ·rw [yY] at e;cases e
  ·rw [yY] at hc;cases hc
 rcases hx with hk|hk
 ·refine wpAny_storeName_local hk hn (λh' Dr hs=>?_) Kb;obtain ⟨oL,_,_,Uh,_⟩:=id hn;refine h _ ⟨I.ok,I.os,I.bare,⟨λb o e n hb hx=>?_,λb o e n hb hx=>?_,I.base.free,λb o e hx=>?_,I.base.lS,I.base.lg,I.base.kC⟩,⟨_,Dr,λj y v' e1 e2 e3=>?_⟩,λy c e=>?_,I.free,I.dO,λp hp=>?_,tracked ⟨oL,Uh,I.free⟩ hs,by simpa using I.len⟩ ⟨_,hs,.inl rfl⟩
  ·exact (hs.2 b (Z1 (ZY (ZM e) I.ok.above))).trans (I.base.keep b o e n hb hx)
  ·obtain ⟨sl,e1⟩:=I.base.slot b o e n hb hx;exact ⟨sl,(hs.2 b (Z1 (ZY (ZM e) I.ok.above))).trans e1⟩
  ·obtain ⟨o',e1⟩:=I.base.there b o e hx;exact ⟨o',(hs.2 b (Z1 (ZY (ZM e) I.ok.above))).trans e1⟩
  ·by_cases hj:j=i
   ·subst hj;rw [hi] at e1;cases e1;rw [getElem?_set_self hiσ] at e2;cases e2
    exact ⟨u,r,.inl ⟨hk,by simp⟩⟩
   ·rw [getElem?_set_ne (zaD hj)] at e2;obtain ⟨u',r',q⟩:=hl j y v' e1 e2 e3;refine ⟨u',r',?_⟩;rcases q with ⟨k,e⟩|⟨k,c,e,z⟩
    ·refine .inl ⟨k,?_⟩;have:y≠x:=λe=>hj (nT hN e1 (e▸hi));simp [this,e]
    ·exact .inr ⟨k,c,e,z.sameBut hs (GA y c e)⟩
  ·obtain ⟨w',z⟩:=I.cell y c e;exact ⟨w',z.sameBut hs (GA y c e)⟩
  ·obtain ⟨e,n,ne,nf,d⟩:=I.pin p hp;exact ⟨(hs.2 p.1 ne).trans e,n,ne,nf,d⟩
 ·have RF:X.fn x=true:=by
   rcases hf with z|z
   ·exact z
   ·rw [z] at hk;cases hk
  obtain ⟨c,hc⟩:=I.ok.has x (.inl hk);obtain ⟨w',z⟩:=I.cell x c hc;refine wpAny_storeName_cell I.ok.kind hk hc z (λh' vD hs=>?_);obtain ⟨oc,Ue,Rj⟩:=id z;refine h { s with heap:=h' } ⟨I.ok,I.os,I.bare,⟨λb o e n hb hx=>?_,λb o e n hb hx=>?_,I.base.free,λb o e hx=>?_,I.base.lS,I.base.lg,I.base.kC⟩,⟨m,hn.sameBut hs (zaD (GA x c hc)),λj y v' e1 e2 e3=>?_⟩,λy c' e=>?_,I.free,I.dO,λp hp=>?_,tracked ⟨oc,Ue,I.dO x c hc⟩ hs,by simpa using I.len⟩ ⟨c,hs,.inr hc⟩
  ·exact (hs.2 b (Z1 (ZY (ZM e) (I.ok.Lm x c RF hc)))).trans (I.base.keep b o e n hb hx)
  ·obtain ⟨sl,e1⟩:=I.base.slot b o e n hb hx;exact ⟨sl,(hs.2 b (Z1 (ZY (ZM e) (I.ok.Lm x c RF hc)))).trans e1⟩
  ·obtain ⟨o',e1⟩:=I.base.there b o e hx;exact ⟨o',(hs.2 b (Z1 (ZY (ZM e) (I.ok.Lm x c RF hc)))).trans e1⟩
  ·by_cases hj:j=i
   ·subst hj;rw [hi] at e1;cases e1;rw [getElem?_set_self hiσ] at e2;cases e2
    exact ⟨u,r,.inr ⟨.inl hk,c,hc,vD⟩⟩
   ·rw [getElem?_set_ne (zaD hj)] at e2;obtain ⟨u',r',q⟩:=hl j y v' e1 e2 e3;refine ⟨u',r',?_⟩;rcases q with q|⟨k,c',e,z'⟩
    ·exact .inl q
    ·refine .inr ⟨k,c',e,z'.sameBut hs ?_⟩;rintro rfl;exact hj (nT hN e1 (I.ok.inj _ _ _ e hc▸hi))
  ·by_cases UE:c'=c
   ·subst UE;exact ⟨_,vD⟩
   ·obtain ⟨w2,z2⟩:=I.cell y c' e;exact ⟨w2,z2.sameBut hs UE⟩
  ·obtain ⟨e,n,ne,nf,d⟩:=I.pin p hp;refine ⟨(hs.2 p.1 ?_).trans e,n,ne,nf,d⟩;intro q;rw [q,Ue] at e;have q':oc=p.2:=ZO e;exact d w' (by rw [<-q'];exact Rj)
theorem ig (I:Inv X pins σ H s) (hN:X.N.Nodup) (hi:X.N[i]?=some x) (hx:Loc X.env.scope x) (r:RelV v u)
  (h:∀ s',Inv X pins (σ.set i (some v)) H s'->Q () s') (hf:X.fn x=true\/X.env.scope.names.lookup x=some .local:=by first|exact .inl rfl|exact .inr rfl|assumption):wpAny M A (storeName X.env x u) Q E s:=
 qH I hN hi hx r (λs' I' _=>h s' I') hf
theorem Inv.Ia (I:Inv X pins σ H s) (ho:s'.os=s.os) (u:Un (hW X.stack) ch H H' s.heap s'.heap) (aZ:hX X.prog X.w H' s'.heap) (hg:AllBare s'.gens)
  (Ez:∀ b∈ch,(b∈X.ex\/X.s₀.heap.objs.size<=b)/\b≠X.env.locals/\(∀ x c,X.env.cells.lookup x=some c->c≠b)/\∀ p∈X.pn++pins,p.1≠b):Inv X pins σ H' s':=by
 obtain ⟨h',g',d',t',o'⟩:=s';have e:o'=s.os:=ho;subst e;exact I.call (g':=g') (t':=t') (d':=d') u aZ hg Ez
end
abbrev XK:=Value->Option Addr->Hp->Prop
abbrev St:=List (Option V)
abbrev VK:=V->Hp->Prop
abbrev TE:=St->Hp->VK->Prop
abbrev TT:=St->Hp->(Bool->Hp->Prop)->Prop
abbrev TA:=St->Hp->(List V->Hp->Prop)->Prop
structure Ends where
 nx:St->Hp->Prop
 rt:VK
 bk:St->Hp->Prop:=λ_ _=>False
 ct:St->Hp->Prop:=λ_ _=>False
abbrev TS:=Ends->St->Hp->Prop
def EP (X:Cx) (pins:WF) (σ:St) (Q:VK) (u:Value) (s':Shared):Prop:=∃ v H',Inv X pins σ H' s'/\RelV v u/\Q v H'
def TP (X:Cx) (pins:WF) (σ:St) (Q:Bool->Hp->Prop) (b:Bool) (s':Shared):Prop:=∃ H',Inv X pins σ H' s'/\Q b H'
def AP (X:Cx) (pins:WF) (σ:St) (Q:List V->Hp->Prop) (us:XV) (s':Shared):Prop:=∃ vs H',Inv X pins σ H' s'/\Vals vs us/\Q vs H'
def SP (X:Cx) (pins:WF) (D:Ends) (f:Flow) (s':Shared):Prop:=
 match f with
 | .next=>∃ σ' H',Inv X pins σ' H' s'/\D.nx σ' H'
 | .brk=>∃ σ' H',Inv X pins σ' H' s'/\D.bk σ' H'
 | .cont=>∃ σ' H',Inv X pins σ' H' s'/\D.ct σ' H'
 | .ret u=>∃ v σ' H',Inv X pins σ' H' s'/\RelV v u/\D.rt v H'
def PE (X:Cx) (e:Expr) (t:TE):Prop:=
 ∀ (pins:WF) (s:Shared) (σ:St) (H:Hp) (Q:VK),Inv X pins σ H s->t σ H Q->wpAny (model X.prog X.w) X.A (eval e X.env) (EP X pins σ Q) X.xe s
def PT (X:Cx) (e:Expr) (t:TT):Prop:=
 ∀ (pins:WF) (s:Shared) (σ:St) (H:Hp) (Q:Bool->Hp->Prop),Inv X pins σ H s->t σ H Q->wpAny (model X.prog X.w) X.A (isTrue e X.env (eval e X.env)) (TP X pins σ Q) X.xe s
def PW (X:Cx) (e:Expr) (t:TT):Prop:=
 ∀ (whole:Sem Value) (pins:WF) (s:Shared) (σ:St) (H:Hp) (Q:Bool->Hp->Prop),Inv X pins σ H s->t σ H Q->wpAny (model X.prog X.w) X.A (isTrue e X.env whole) (TP X pins σ Q) X.xe s
theorem PW.pt (h:PW X e t):PT X e t:=h _
def PA (X:Cx) (es:List Expr) (t:TA):Prop:=
 ∀ (pos:Pos) (pins:WF) (s:Shared) (σ:St) (H:Hp) (Q:List V->Hp->Prop),Inv X pins σ H s->t σ H Q->wpAny (model X.prog X.w) X.A (spliced (backTo pos (starEach es X.env))) (AP X pins σ Q) X.xe s
def PS (X:Cx) (st:Stmt) (t:TS):Prop:=
 ∀ (pins:WF) (s:Shared) (σ:St) (H:Hp) (D:Ends),Inv X pins σ H s->t D σ H->wpAny (model X.prog X.w) X.A (exec st X.env) (SP X pins D) X.xe s
def tZ (X:Cx) (st:List Stmt) (t:TS):Prop:=
 ∀ (pins:WF) (s:Shared) (σ:St) (H:Hp) (D:Ends),Inv X pins σ H s->t D σ H->wpAny (model X.prog X.w) X.A (execs st X.env) (SP X pins D) X.xe s
theorem cA {α:Type} {t:Sem α} {Q Q' : α->Shared->Prop} {M:Model} {A:Around} {s:Shared} (h:wpAny M A t Q E s) (hQ:∀ a s,Q a s->Q' a s):wpAny M A t Q' E s:=zao h hQ λ_ _ x=>x
section
variable {X:Cx}
theorem bin {a b:Expr} {ta tb:TE} (ha:PE X a ta) (hb:PE X b tb) {pins:WF} {s:Shared} {σ:St} {H:Hp} {R:V->V->Hp->Prop} (I:Inv X pins σ H s) (h:ta σ H λx H1=>tb σ H1 λy H2=>R x y H2)
  {α:Type} {Q:α->Shared->Prop} {f:Value->Value->Sem α}
  (hf:∀ v u s2 x y H2,Inv X pins σ H2 s2->RelV x v->RelV y u->R x y H2->wpAny (model X.prog X.w) X.A (f v u) Q X.xe s2) :
  wpAny (model X.prog X.w) X.A (eval a X.env) (λv s₁=>wpAny (model X.prog X.w) X.A (eval b X.env) (λu s₂=>wpAny (model X.prog X.w) X.A (f v u) Q X.xe s₂) X.xe s₁) X.xe s:=by
 refine cA (ha pins s σ H _ I h) λv s1 ⟨x,H1,I1,r1,q1⟩=>?_;refine cA (hb pins s1 σ H1 _ I1 q1) λu s2 ⟨y,H2,I2,r2,q2⟩=>?_;exact hf v u s2 x y H2 I2 r1 r2 q2
def jG (i:Nat):TE:=λσ H Q=>∃ v,σ[i]?=some (some v)/\Q v H
def tC (v:V):TE:=λ_ H Q=>Q v H
theorem Jj {i:Nat} {x:Str} {pos:Pos} (hN:X.N[i]?=some x) (hv:N7 X.env.scope x) (hd:(x==("__debug__":Str))=false:=by decide) (pW:(x==("__classdict__":Str))=false:=by decide):PE X (.Name x pos) (jG i):=by
 intro pins s σ H Q I h;obtain ⟨v,e,h⟩:=h;obtain ⟨m,hn,hl⟩:=I.loc;obtain ⟨u,r,l⟩:=hl i x v hN e hv;have fin:EP X pins σ Q u s:=⟨v,H,I,r,h⟩;rcases l with ⟨hk,hm⟩|⟨hk,c,hc,HM⟩
 ·exact wpAny_Name (wpAny_loadName_local I.ok.kind hk hn hm fin) hd
 ·rcases hk with hk|hk
  ·exact wpAny_Name (wpAny_loadName_cell I.ok.kind hk hc HM fin) hd
  ·exact wpAny_Name (wpAny_loadName_free I.ok.kind hk hc HM fin pW) hd
theorem af {i j pos}:PE X (.Constant (.int i) j pos) (tC (.int i)):=λ_ _ _ H _ I h=>wpAny_Constant_int ⟨.int i,H,I.tok _,⟨_,rfl⟩,h⟩
theorem dv {b j pos}:PE X (.Constant (.bool b) j pos) (tC (.bl b)):=λ_ _ _ H _ I h=>Constant_bool ⟨.bl b,H,I,rfl,h⟩
theorem Jl {j pos}:PE X (.Constant .none j pos) (tC .gn):=λ_ _ _ H _ I h=>Constant_none ⟨.gn,H,I,rfl,h⟩
theorem CL {x j pos}:PE X (.Constant (.str x) j pos) (tC (.str x)):=λ_ _ _ H _ I h=>Calls.Constant_str ⟨.str x,H,I.tok _,⟨_,rfl⟩,h⟩
def Gl (X:Cx) (x:Str):Prop:=X.env.kindOf x=some .globalImplicit
theorem i5 {s:Shared} {σ:St} {x:Str} {pos:Pos} (I:Inv X pins σ H s) (hg:Gl X x) (hm:X.mg x=some u) (h:Q u s)
  (hd:(x==("__debug__":Str))=false:=by decide):wpAny (model X.prog X.w) X.A (eval (.Name x pos) X.env) Q E s:=
 Calls.Name_function_global I.ok.kind hg (Calls.loadGlobal_global (by rw [I.ok.glob];exact I.mod.glob.keeps I.bk) hm h) hd
theorem eN {E:WP} {pins:WF} {s:Shared} {σ:St} {H:Hp} {x:Str} {u:Value} {pos:Pos} {Q:WP} (I:Inv X pins σ H s) (hg:Gl X x) (hm:X.mg x=none) (hv:bootBuiltins x=some u) (h:Q u s)
  (hn:x≠ "__name__":=by decide) (hd:(x==("__debug__":Str))=false:=by decide):wpAny (model X.prog X.w) X.A (eval (.Name x pos) X.env) Q E s:=by
 obtain ⟨mb,h1,h2⟩:=I.mod.blt;exact Calls.Name_function_global I.ok.kind hg (Calls.loadGlobal_builtin (by rw [I.ok.glob];exact I.mod.glob.keeps I.bk) hm (by rw [I.ok.blt];exact h1.keeps I.bk) ((h2 x hn).trans hv) h) hd
theorem fP (hg:Gl X x) (hm:X.mg x=some u) (r:RelV v u) (hd:(x==("__debug__":Str))=false:=by decide):PE X (.Name x pos) (tC v):=
 λ_ _ _ H _ I h=>i5 I hg hm ⟨v,H,I,r,h⟩ hd
theorem jQ {x:Str} {pos:Pos} (hg:Gl X x) (hm:X.mg x=none) (hv:bootBuiltins x=some u) (r:RelV v u) (hn:x≠ "__name__":=by decide) (hd:(x==("__debug__":Str))=false:=by decide):PE X (.Name x pos) (tC v):=
 λ_ _ _ H _ I h=>eN I hg hm hv ⟨v,H,I,r,h⟩ hn hd
variable {a b:Expr} {ta tb:TE} {pos:Pos}
def PC (X:Cx) (op:CmpOp) (a b:Expr) (t:TE):Prop:=
 ∀ (pins:WF) (s:Shared) (σ:St) (H:Hp) (Q:VK),Inv X pins σ H s->t σ H Q->
  wpAny (model X.prog X.w) X.A (eval a X.env) (λv s₁=>wpAny (model X.prog X.w) X.A (eval b X.env) (λu s₂=>wpAny (model X.prog X.w) X.A (compareOp op v u) (EP X pins σ Q) X.xe s₂) X.xe s₁) X.xe s
theorem CY (b:Expr) (h:op≠.In) (h2:op≠.NotIn):behindInMarks op b=false:=by
 have e1:(op==CmpOp.In)=false:=by cases op<;>first|rfl|exact absurd rfl h
 have e2:(op==CmpOp.NotIn)=false:=by cases op<;>first|rfl|exact absurd rfl h2
 cases b<;>simp [behindInMarks,e1,e2]
def tB (t:TE):TT:=λσ H Q=>t σ H λx H1=>∃ c,x=.bl c/\Q c H1
theorem Jd (h:PC X op a b t) (h1:behindInMarks op b=false:=by first|exact CY _ (by decide) (by decide) | rfl):PT X (.Compare a [op] [b] pos) (tB t):=by
 intro pins s σ H Q I hw;refine wpAny_isTrue_Compare1 (cA (h pins s σ H _ I hw) λv s1 h1=>cA h1 λu s2 h2=>cA h2 λc s3 ⟨x,H1,I1,r1,q1⟩=>?_) h1;obtain ⟨d,rfl,q⟩:=q1;cases r1
 exact zbs ⟨H1,I1,q⟩
theorem dG (h:PE X e t) (he:∀ whole,isTrue e X.env whole=(do let v <-whole;standAt e.pos;holding [v] (truthy v)):=by intro _;rfl):PT X e (tB t):=by
 intro pins s σ H Q I hw;refine isTrue_plain (cA (h pins s σ H _ I hw) λv s1 ⟨x,H1,I1,r1,q1⟩=>?_) (he _);obtain ⟨d,rfl,q⟩:=q1;cases r1
 exact zbs ⟨H1,I1,q⟩
variable {tA Ow:TT} {rest:List Expr}
def L1 (t u:TT):TT:=λσ H Q=>t σ H λc H1=>if c=true then u σ H1 Q else Q false H1
def SY (t u:TT):TT:=λσ H Q=>t σ H λc H1=>if c=true then Q true H1 else u σ H1 Q
def LV (t:TT):TT:=λσ H Q=>t σ H λc H1=>Q (!c) H1
theorem pw_and1 (ha:PT X a tA):PW X (.BoolOp .And [a] pos) tA:=by
 intro wh pins s σ H Q I h;refine isTrue_and (cA (ha pins s σ H Q I h) λc s1 e=>?_);cases c with
 | true=>exact isTrue_and_nil e
 | false=>exact e
theorem pw_or1 (ha:PT X a tA):PW X (.BoolOp .Or [a] pos) tA:=by
 intro wh pins s σ H Q I h;refine isTrue_or (cA (ha pins s σ H Q I h) λc s1 e=>?_);cases c with
 | false=>exact isTrue_or_nil e
 | true=>exact e
theorem pw_and (ha:PT X a tA) (hb:PW X (.BoolOp .And (b::rest) pos) Ow):PW X (.BoolOp .And (a::b::rest) pos) (L1 tA Ow):=by
 intro wh pins s σ H Q I h;refine isTrue_and (cA (ha pins s σ H _ I h) λc s1 ⟨H1,I1,q1⟩=>?_);cases c with
 | true=>exact hb wh pins s1 σ H1 Q I1 q1
 | false=>exact ⟨H1,I1,q1⟩
theorem pw_or (ha:PT X a tA) (hb:PW X (.BoolOp .Or (b::rest) pos) Ow):PW X (.BoolOp .Or (a::b::rest) pos) (SY tA Ow):=by
 intro wh pins s σ H Q I h;refine isTrue_or (cA (ha pins s σ H _ I h) λc s1 ⟨H1,I1,q1⟩=>?_);cases c with
 | true=>exact ⟨H1,I1,q1⟩
 | false=>exact hb wh pins s1 σ H1 Q I1 q1
theorem gP (ha:PT X a tA):PT X (.UnaryOp .Not a pos) (LV tA):=by
 intro pins s σ H Q I h;exact isTrue_not (ha pins s σ H (λc H1=>Q (!c) H1) I h)
def Hj (ta tb:TE):TE:=λσ H Q=>ta σ H λx H1=>∃ c,x=.bl c/\if c=true then tb σ H1 Q else Q (.bl false) H1
def LU (ta tb:TE):TE:=λσ H Q=>ta σ H λx H1=>∃ c,x=.bl c/\if c=true then Q (.bl true) H1 else tb σ H1 Q
def Hb (ta:TE):TE:=λσ H Q=>ta σ H λx H1=>∃ c,x=.bl c/\Q (.bl (!c)) H1
theorem sC {op} (h:PE X a t):PE X (.BoolOp op [a] pos) t:=λpins s σ H Q I hw=>BoolOp_one (h pins s σ H Q I hw)
theorem w4 (ha:PE X a ta) (hb:PE X (.BoolOp .And (b::rest) pos) tb):PE X (.BoolOp .And (a::b::rest) pos) (Hj ta tb):=by
 intro pins s σ H Q I h;refine BoolOp_and (cA (ha pins s σ H _ I h) λv s1 ⟨x,H1,I1,r1,q1⟩=>?_);obtain ⟨c,rfl,q1⟩:=q1;cases r1
 refine zbs ?_;cases c with
 | true=>exact hb pins s1 σ H1 Q I1 q1
 | false=>exact ⟨.bl false,H1,I1,rfl,q1⟩
theorem Mu (ha:PE X a ta) (hb:PE X (.BoolOp .Or (b::rest) pos) tb):PE X (.BoolOp .Or (a::b::rest) pos) (LU ta tb):=by
 intro pins s σ H Q I h;refine BoolOp_or (cA (ha pins s σ H _ I h) λv s1 ⟨x,H1,I1,r1,q1⟩=>?_);obtain ⟨c,rfl,q1⟩:=q1;cases r1
 refine zbs ?_;cases c with
 | false=>exact hb pins s1 σ H1 Q I1 q1
 | true=>exact ⟨.bl true,H1,I1,rfl,q1⟩
theorem Jk (ha:PE X a ta):PE X (.UnaryOp .Not a pos) (Hb ta):=by
 intro pins s σ H Q I h;refine UnaryOp_ (cA (ha pins s σ H _ I h) λv s1 ⟨x,H1,I1,r1,q1⟩=>?_);obtain ⟨c,rfl,q1⟩:=q1;cases r1
 exact not_of (zbs ⟨.bl (!c),H1,I1,rfl,q1⟩)
end
def aH (K:ZB) (H:Hp) (a:Addr) (xs:List V):Prop:=
 Rd H a (.lst xs)\/
  ∃ (o:Obj) (aJ:Array Value) (n:Nat),K.lookup a=some o/\o.cls=.type "list"/\o.dict=none/\o.data=.seq aJ n/\aJ.size<=sizeLine/\Vals xs aJ.toList
def SqT (K:ZB) (H:Hp) (a:Addr) (xs:List V):Prop:=
 Rd H a (.tup xs)\/
  ∃ (o:Obj) (aJ:Array Value) (n:Nat),K.lookup a=some o/\o.cls=.type "tuple"/\o.data=.seq aJ n/\aJ.size<=sizeLine/\Vals xs aJ.toList
def Sq:Value->Option V
 | .none=>some .gn
 | .bool b=>some (.bl b)
 | .int i _=>some (.int i)
 | .str x _=>some (.str x)
 | .bytes b _=>some (.Bk b)
 | .float b _=>some (.EB b)
 | .ref a=>some (.ref a)
 | .type n=>some (.ty n)
 | _=>none
theorem RelV.abs (r:RelV x u):Sq u=some x:=by
 cases x with
 | gn=>cases r;rfl
 | bl _=>cases r;rfl
 | int _=>obtain ⟨t,rfl⟩:=r;rfl
 | str _=>obtain ⟨t,rfl⟩:=r;rfl
 | Bk _=>obtain ⟨t,rfl⟩:=r;rfl
 | EB _=>obtain ⟨t,rfl⟩:=r;rfl
 | ref _=>cases r;rfl
 | ty _=>cases r;rfl
theorem RelV.inj (r:RelV x u) (q:RelV y u):x=y:=ZO (r.abs.symm.trans q.abs)
theorem Vals.inj:∀ {xs ys:List V} {us:XV},Vals xs us->Vals ys us->xs=ys
 | _,_,_,.nil,.nil=>rfl
 | _,_,_,.cons r t,.cons r' t'=>by rw [r.inj r',Vals.inj t t']
section
variable {X:Cx} {pins:WF} {σ:St} {H:Hp} {s:Shared} {a:Addr} {xs ys:List V}
theorem aH.of {K:ZB} (h:H a=some (.lst xs)):aH K H a xs:=.inl (.inl h)
theorem SqT.of {K:ZB} (h:H a=some (.tup xs)):SqT K H a xs:=.inl (.inl h)
theorem Inv.list (I:Inv X pins σ H s) (h:aH X.K H a xs):∃ aJ:XV,Vals xs aJ/\PlainL s.heap a aJ.toArray/\xs.length<=sizeLine:=by
 rcases h with h|⟨o,aJ,n,hk,hc,hd,hs,hz,r⟩
 ·obtain ⟨z,aJ,n,r,e⟩:=h.ok I.aZ;exact ⟨aJ,r,⟨_,n,e,rfl,rfl,rfl⟩,z⟩
 ·refine ⟨aJ.toList,r,⟨o,n,I.oB a o hk,hc,hd,by simpa using hs⟩,?_⟩;have e:=r.length;simp only [zaa] at e;omega
theorem Inv.tuple (I:Inv X pins σ H s) (h:SqT X.K H a xs):∃ aJ:XV,Vals xs aJ/\IsTup s.heap a aJ.toArray/\xs.length<=sizeLine:=by
 rcases h with h|⟨o,aJ,n,hk,hc,hs,hz,r⟩
 ·obtain ⟨z,aJ,r,p⟩:=h.ok I.aZ;exact ⟨aJ,r,p,z⟩
 ·refine ⟨aJ.toList,r,⟨o,I.oB a o hk,hc,n,by simpa using hs⟩,?_⟩;have e:=r.length;simp only [zaa] at e;omega
theorem Inv.jW (I:Inv X pins σ H s) (h:aH X.K H a xs) (h':aH X.K H a ys):xs=ys:=by
 obtain ⟨aJ,r,⟨o,n,e,_,_,d⟩,_⟩:=I.list h;obtain ⟨its',r',⟨o',n',e',_,_,d'⟩,_⟩:=I.list h';rw [e] at e';cases e';rw [d] at d';injection d' with d1 _;have:aJ=its':=by simpa using zaO Array.toList d1
 subst this;exact r.inj r'
theorem Inv.ky (I:Inv X pins σ H s) (h:SqT X.K H a xs) (h':SqT X.K H a ys):xs=ys:=by
 obtain ⟨aJ,r,⟨o,e,_,n,d⟩,_⟩:=I.tuple h;obtain ⟨its',r',⟨o',e',_,n',d'⟩,_⟩:=I.tuple h';rw [e] at e';cases e';rw [d] at d';injection d' with d1 _;have:aJ=its':=by simpa using zaO Array.toList d1
 subst this;exact r.inj r'
end
abbrev Cx.lR (X:Cx) (E:WP):Cx:={ X with xe:=E }
abbrev Cx.Bw (X:Cx):Cx:=X.lR λ_ _=>False
theorem Cx.Ok.lR {X:Cx} (ok:X.Ok) (E:WP):(X.lR E).Ok:=
 ⟨ok.mod,ok.kind,ok.glob,ok.blt,ok.above,ok.inj,ok.has,ok.Lm,ok.hd,ok.frames,ok.ye,ok.Se,ok.bs,ok.GF,ok.As,ok.DN,ok.k9,ok.Kj⟩
theorem Cx.Ok.fT {X:Cx} {E:WP} (ok:(X.lR E).Ok):X.Ok:=
 ⟨ok.mod,ok.kind,ok.glob,ok.blt,ok.above,ok.inj,ok.has,ok.Lm,ok.hd,ok.frames,ok.ye,ok.Se,ok.bs,ok.GF,ok.As,ok.DN,ok.k9,ok.Kj⟩
section
variable {X:Cx} {pins:WF} {σ:St} {H:Hp} {s:Shared} {E:WP}
theorem Inv.lR (I:Inv X pins σ H s) (E:WP):Inv (X.lR E) pins σ H s:=⟨I.ok.lR E,I.os,I.bare,I.base,I.loc,I.cell,I.free,I.dO,I.pin,I.aZ,I.len⟩
theorem Inv.fT (I:Inv (X.lR E) pins σ H s):Inv X pins σ H s:=⟨I.ok.fT,I.os,I.bare,I.base,I.loc,I.cell,I.free,I.dO,I.pin,I.aZ,I.len⟩
theorem SP.fT (h:SP (X.lR E) pins D f s'):SP X pins D f s':=by
 cases f with
 | next=>obtain ⟨σ',H',I,q⟩:=h;exact ⟨σ',H',I.fT,q⟩
 | brk=>obtain ⟨σ',H',I,q⟩:=h;exact ⟨σ',H',I.fT,q⟩
 | cont=>obtain ⟨σ',H',I,q⟩:=h;exact ⟨σ',H',I.fT,q⟩
 | ret u=>obtain ⟨v,σ',H',I,r,q⟩:=h;exact ⟨v,σ',H',I.fT,r,q⟩
theorem tZ.Bw {st:List Stmt} {t:TS} (h:tZ X.Bw st t):tZ X st t:=λpins s σ H D I hw=>
 zao (h pins s σ H D (I.lR _) hw) (λ_ _ q=>q.fT) λ_ _ z=>False.elim z
end
section
variable {X:Cx} {st:Stmt} {rest:List Stmt} {t u:TS} {e:Expr} {te:TE} {pos:Pos}
def Hd:TS:=λD σ H=>D.nx σ H
def IE (t u:TS):TS:=λD σ H=>t { D with nx:=u D } σ H
theorem aX:tZ X [] Hd:=λ_ _ σ H _ I h=>zbW ⟨σ,H,I,h⟩
theorem ah (h1:PS X st t) (h2:tZ X rest u):tZ X (st::rest) (IE t u):=by
 intro pins s σ H D I h;refine zcv (cA (h1 pins s σ H { D with nx:=u D } I h) λf s1 q=>?_);cases f with
 | next=>
  obtain ⟨σ',H',I',q⟩:=q;exact h2 pins s1 σ' H' D I' q
 | ret v=>exact q
 | brk=>exact q
 | cont=>exact q
theorem ar (h1:PS X st t):tZ X [st] t:=by
 intro pins s σ H D I h;refine zcv (cA (h1 pins s σ H D I h) λf s1 q=>?_);cases f with
 | next=>exact zbW q
 | ret v=>exact q
 | brk=>exact q
 | cont=>exact q
theorem Inv.quiet {σ:St} {s:Shared} (I:Inv X pins σ H s):interactive X.env=false:=by simp [interactive,I.ok.kind]
def He (te:TE):TS:=λD σ H=>te σ H λ_ H1=>D.nx σ H1
theorem dY (he:PE X e te) (hs:swapsWith e none pos.line X.env=pure false:=by rfl):PS X (.Expr e pos) (He te):=by
 intro pins s σ H D I h;exact wpAny_Expr_any (cA (he pins s σ H _ I h) λv s1 ⟨x,H1,I1,r1,q1⟩=>⟨σ,H1,I1,q1⟩) I.quiet hs
def LR (te:TE):TS:=λD σ H=>te σ H D.rt
theorem aK (he:PE X e te):PS X (.Return (some e) pos) (LR te):=by
 intro pins s σ H D I h;exact wpAny_Return_some (cA (he pins s σ H _ I h) λv s1 ⟨x,H1,I1,r1,q1⟩=>⟨x,σ,H1,I1,r1,q1⟩)
def LY (c:TT) (t u:TS):TS:=λD σ H=>c σ H λb H1=>if b=true then t D σ H1 else u D σ H1
theorem bU (hc:PT X c tc) (ha:tZ X a t) (hb:tZ X b u):PS X (.If c a b pos) (LY tc t u):=by
 intro pins s σ H D I h;refine wpAny_If (cA (hc pins s σ H _ I h) λd s1 ⟨H1,I1,q1⟩=>?_);cases d with
 | true=>exact ha pins s1 σ H1 D I1 q1
 | false=>exact hb pins s1 σ H1 D I1 q1
end
abbrev TG:=V->St->Hp->(St->Hp->Prop)->Prop
abbrev EE:=List V->St->Hp->(St->Hp->Prop)->Prop
def PG (X:Cx) (target:Expr) (t:TG):Prop:=
 ∀ (pins:WF) (s:Shared) (σ:St) (H:Hp) (v:V) (u:Value) (Q:St->Hp->Prop),Inv X pins σ H s->RelV v u->t v σ H Q->
  wpAny (model X.prog X.w) X.A (assign target X.env u) (λ_ s'=>∃ σ' H',Inv X pins σ' H' s'/\Q σ' H') X.xe s
def Ob (X:Cx) (ts:List Expr) (t:EE):Prop:=
 ∀ (pins:WF) (s:Shared) (σ:St) (H:Hp) (vs:List V) (us:XV) (Q:St->Hp->Prop),Inv X pins σ H s->Vals vs us->t vs σ H Q->
  wpAny (model X.prog X.w) X.A (assignInOrder ((assignEach ts X.env).map (·.2)) us) (λ_ s'=>∃ σ' H',Inv X pins σ' H' s'/\Q σ' H') X.xe s
abbrev GP:=V->V->V->Hp->(Hp->Prop)->Prop
def Oa (X:Cx) (t:GP):Prop:=
 ∀ (pins:WF) (s:Shared) (σ:St) (H:Hp) (o i v:V) (ov iv u:Value) (Q:Hp->Prop),Inv X pins σ H s->RelV o ov->RelV i iv->RelV v u->t o i v H Q->
  wpAny (model X.prog X.w) X.A (setItem ov iv u) (λ_ s'=>∃ H',Inv X pins σ H' s'/\Q H') X.xe s
section
variable {X:Cx} {pos:Pos}
def oK (i:Nat):TG:=λv σ H Q=>Q (σ.set i (some v)) H
theorem aE (hN:X.N.Nodup) (hi:X.N[i]?=some x) (hx:Loc X.env.scope x) (hf:X.fn x=true\/X.env.scope.names.lookup x=some .local:=by first|exact .inl rfl|exact .inr rfl|assumption):PG X (.Name x pos) (oK i):=by
 intro pins s σ H v u Q I r h;exact wpAny_assign_Name (ig I hN hi hx r (λs' I'=>⟨_,H,I',h⟩) hf)
def Ny:EE:=λvs σ H Q=>vs=[]/\Q σ H
def HR (t:TG) (u:EE):EE:=λvs σ H Q=>∃ v r,vs=v::r/\t v σ H λσ' H'=>u r σ' H' Q
theorem fO:Ob X [] Ny:=by
 intro pins s σ H vs us Q I r h;obtain ⟨e,h⟩:=h;subst e;cases r
 exact assignInOrder_nil ⟨σ,H,I,h⟩
theorem bI (h1:PG X e t) (h2:Ob X es u)
  (hs:(assignEach (e::es) X.env).map (·.2)=assign e X.env::(assignEach es X.env).map (·.2):=by rfl):Ob X (e::es) (HR t u):=by
 intro pins s σ H vs us Q I r h;obtain ⟨v,vr,e1,h⟩:=h;subst e1;cases r with
 | cons r rr=>
  rw [hs];refine assignInOrder_cons (cA (h1 pins s σ H _ _ _ I r h) λ_ s1 ⟨σ1,H1,I1,q1⟩=>?_);exact h2 pins s1 σ1 H1 _ _ Q I1 rr q1
def Ki (K:ZB) (n:Nat) (t:EE):TG:=λv σ H Q=>∃ a xs,v=.ref a/\SqT K H a xs/\xs.length=n/\t xs σ H Q
theorem kN {k:Nat} {n:Nat} (hc:X.calm=true) (h:Ob X es t)
  (hn:(assignEach es X.env).length=n:=by rfl) (JQ:(assignEach es X.env).findIdx? (·.1)=none:=by rfl):PG X (.Tuple es k pos) (Ki X.K n t):=by
 intro pins s σ H v u Q I r hw;obtain ⟨a,xs,e1,hq,hl,hw⟩:=hw;subst e1;cases r
 obtain ⟨aJ,rv,ht,hz⟩:=I.tuple hq;refine assign_Tuple_tuple (I.ok.hd hc) ht (by simp [hn,<-hl,rv.length]) JQ λh' hx=>?_;have I1:Inv X pins σ H { s with heap:=h' }:=I.kept (t':=s.toks) λb o e=>hx b o (Z1 (ZM e)) e;exact h pins _ σ H xs _ Q I1 (by simpa using rv) hw
def Nw (to ti:TE) (t:GP):TG:=λv σ H Q=>to σ H λo H1=>ti σ H1 λi H2=>t o i v H2 λH3=>Q σ H3
theorem CK (ho:PE X o to) (hi:PE X i ti) (hs:Oa X t)
  (ha:∀ v,assign (.Subscript o i pos) X.env v=(do
   let ov <-holding [v] (eval o X.env);let iv <-holding [v,ov] (eval i X.env)
   standAt pos
   holding [v,ov,iv] (setItem ov iv v)
   release [v,ov,iv] []):=by intro _;rfl):PG X (.Subscript o i pos) (Nw to ti t):=by
 intro pins s σ H v u Q I r h;rw [ha];refine rd (zau (cA (ho pins s σ H _ I h) λov s1 ⟨x,H1,I1,r1,q1⟩=>?_));refine rd (zau (cA (hi pins s1 σ H1 _ I1 q1) λiv s2 ⟨y,H2,I2,r2,q2⟩=>?_));refine rd (wpAny_standAt (rd (zau (cA (hs pins s2 σ H2 x y v ov iv u _ I2 r1 r2 r q2) λ_ s3 ⟨H3,I3,q3⟩=>?_))));exact wpAny_release ⟨σ,H3,I3,q3⟩
def BX (te:TE) (g:TG):TS:=λD σ H=>te σ H λx H1=>g x σ H1 D.nx
theorem CG (he:PE X e te) (hg:PG X tg g) (hs:swapsWithSole [tg] e pos.line X.env=pure false:=by rfl) (hw:swappedStores [tg] e X.env=pure none:=by rfl)
  (h1:(assignEach [tg] X.env).map (·.2)=[assign tg X.env]:=by rfl):PS X (.Assign [tg] e pos) (BX te g):=by
 intro pins s σ H D I h;refine wpAny_Assign_stores (cA (he pins s σ H _ I h) λv s1 ⟨x,H1,I1,r1,q1⟩=>?_) hs hw;rw [h1];exact cA (hg pins s1 σ H1 x v _ I1 r1 q1) λ_ s2 q=>q
theorem aF (hN:X.N.Nodup) (hi:X.N[i]?=some x) (hx:Loc X.env.scope x) (he:PE X e te) (hs:swapsWith e (some (.Name x pos')) pos.line X.env=pure false:=by rfl) (hf:X.fn x=true\/X.env.scope.names.lookup x=some .local:=by first|exact .inl rfl|exact .inr rfl|assumption) :
  PS X (.Assign [.Name x pos'] e pos) (BX te (oK i)):=by
 intro pins s σ H D I h;refine wpAny_Assign_Name (cA (he pins s σ H _ I h) λv s1 ⟨y,H1,I1,r1,q1⟩=>?_) hs;exact ig I1 hN hi hx r1 (λs2 I2=>⟨_,H1,I2,q1⟩) hf
def LS (i j:Nat) (ta:TA):TS:=λD σ H=>ta σ H λvs H1=>∃ v w,vs=[v,w]/\D.nx ((σ.set i (some v)).set j (some w)) H1
theorem Je {kt k2 Eo} (hc:X.calm=true) (hN:X.N.Nodup) (hi:X.N[i]?=some x) (hj:X.N[j]?=some y) (yX:i≠j)
  (hx:X.env.scope.names.lookup x=some .local) (hy:X.env.scope.names.lookup y=some .local) (ha:PA X [a,b] ta)
  (hw:swappedStores [.Tuple [.Name x px,.Name y py] kt pt] (.Tuple [a,b] k2 Eo) X.env=pure (some [x,y]))
  (hs:swapsWithSole [.Tuple [.Name x px,.Name y py] kt pt] (.Tuple [a,b] k2 Eo) pos.line X.env=pure false:=by rfl) :
  PS X (.Assign [.Tuple [.Name x px,.Name y py] kt pt] (.Tuple [a,b] k2 Eo) pos) (LS i j ta):=by
 intro pins s σ H D I h;rw [exec_Assign_arm];refine rd (wpAny_standAt ?_);rw [hs];refine rd (ZR ?_);rw [ZU (by decide)];refine rd (Tuple_ (cA (ha _ pins s σ H _ I h) λus s1 ⟨vs,H1,I1,r1,q1⟩=>?_));obtain ⟨v,w,e1,q1⟩:=q1;subst e1;obtain ⟨u1,u2,rfl,rv,Ca⟩:∃ u1 u2,us=[u1,u2]/\RelV v u1/\RelV w u2:=by
  cases r1 with
  | cons p q=>
   cases q with
   | cons p' q'=>
    cases q'
    exact ⟨_,_,rfl,p,p'⟩
 refine zcF ?_ (by show 2<=sizeLine;decide);have I2:Inv X pins σ H1 { s1 with heap:=s1.heap.push { cls:=.type "tuple",data:=.seq [u1,u2].toArray } }:=I1.kept (t':=s1.toks) λb o e=>ZN _ e;rw [hw];refine rd (ZR ?_);show wpAny (model X.prog X.w) X.A (do rule "assign.swapped-stores";let items <-unpackItems (.ref s1.heap.objs.size) 2 none;assignInOrder [λv=>bindName X.env y v,λv=>bindName X.env x v] items.reverse;pure Flow.next) _ _ _;refine rd (zdh (rd (unpackItems_tuple (items:=#[u1,u2]) (I.ok.hd hc) (IsTup.new s1.heap _) λh' F7=>?_)));have I3:=I2.kept (h':=h') (t':=s1.toks) λb o e=>F7 b o (Z1 (ZM e)) e;show wpAny _ _ (assignInOrder [λv=>bindName X.env y v,λv=>bindName X.env x v] [u2,u1] >>= λ_=>pure Flow.next) _ _ _;refine rd (assignInOrder_cons (wpAny_bindName (ig I3 hN hj (.inl hy) Ca (λs2 I4=>?_) (.inr hy))));refine assignInOrder_cons (wpAny_bindName (ig I4 hN hi (.inl hx) rv (λs3 I5=>assignInOrder_nil (ZR ?_)) (.inr hx)));rw [set_comm _ _ (zaD yX)] at I5;exact ⟨_,H1,I5,q1⟩
end
def BS (c:TT) (tb:TS):TS:=λD σ H=>∃ W:Nat->St->Hp->Prop,(∃ m,W m σ H)/\∀ m σ H,W m σ H->
 c σ H λb H1=>if b=true then ∃ N:St->Hp->Prop,(∀ σ' H',N σ' H'->∃ m',m'<m/\W m' σ' H')/\tb { D with nx:=N,ct:=N,bk:=D.nx } σ H1 else D.nx σ H1
theorem jP (hp:PassesOwn (model X.prog X.w) X.A X.env X.xe) (hc:PT X c tc) (hb:tZ X body tb):PS X (.While c body [] pos) (BS tc tb):=by
 intro pins s σ H D I h;obtain ⟨W,⟨m0,w0⟩,turn⟩:=h;refine wpAny_While (codeAny_whileLoop (λn s'=>∃ σ' H',Inv X pins σ' H' s'/\W n σ' H') ?_ m0 ⟨σ,H,I,w0⟩);rintro n s1 ⟨σ1,H1,I1,w1⟩;refine zcn hp (cA (hc pins s1 σ1 H1 _ I1 (turn n σ1 H1 w1)) λb s2 ⟨H2,I2,q2⟩=>?_);cases b with
 | true=>
  obtain ⟨N,hN,q2⟩:=q2;rw [ZW rfl];refine zcn hp (cA (hb pins s2 σ1 H2 _ I2 q2) λf s3 q3=>?_);cases f with
  | next=>
   obtain ⟨σ3,H3,I3,n3⟩:=q3;obtain ⟨m',hm,w3⟩:=hN σ3 H3 n3;exact ⟨m',hm,σ3,H3,I3,w3⟩
  | cont=>
   obtain ⟨σ3,H3,I3,n3⟩:=q3;obtain ⟨m',hm,w3⟩:=hN σ3 H3 n3;exact ⟨m',hm,σ3,H3,I3,w3⟩
  | brk=>exact q3
  | ret v=>exact q3
 | false=>
  rw [ZU zae];exact zbW ⟨σ1,H2,I2,q2⟩
structure It where
 go:Nat->Hp->Prop
 wx:Nat->Hp->V->Hp->Prop
 stop:Nat->Hp->Prop
def jB (X:Cx) (pins:WF) (H:Hp) (b:Addr):Prop:=
 H b=none/\b≠X.env.locals/\b∉X.fs/\(b∈X.ex\/X.s₀.heap.objs.size<=b)/\(∀ x c,X.env.cells.lookup x=some c->c≠b)/\∀ p∈X.pn++pins,p.1≠b
theorem Inv.qg {X:Cx} {pins:WF} {σ:St} {H H':Hp} {s:Shared} {b:Addr} (I:Inv X pins σ H s) (hb:s.heap.objs.size<=b) (hn:H' b=none):jB X pins H' b:=by
 refine ⟨hn,zax (ZY I.lt hb),I.CW hb,.inr (zag I.sz hb),λx c e z=>?_,λp hp z=>?_⟩
 ·obtain ⟨v,q⟩:=I.cell x c e;exact absurd (ZY q.lt (by rw [z];exact hb)) (zam _)
 ·exact absurd (ZY (ZM (I.pin p hp).1) (by rw [z];exact hb)) (zam _)
structure Turn (P:Program) (w:World) (K:ZB) (tg:Expr) (J:It) (fp:XL) (it:Addr) (tn:Nat->Heap->Prop):Prop where
 mem:it∈fp
 obj:∀ i h,tn i h->∀ b∈fp,∃ o,h.get? b=some o/\∀ v,o.data≠.cell v
 keep:∀ i h h',tn i h->(∀ b∈fp,∀ o,h.get? b=some o->h'.get? b=some o)->tn i h'
 item:∀ (X:Cx),X.prog=P->X.w=w->X.K=K->X.calm=true->∀ (i:Nat) (pins:WF) (s:Shared) (σ:St) (H:Hp) (E:WP),Inv X pins σ H s->(∀ b∈fp,jB X pins H b)->tn i s.heap->J.go i H->
  wpAny (model P w) X.A (pyNext (.ref it)) (λr s1=>∃ u,r=some u/\
   wpAny (model P w) X.A (letOwnedTupleGo tg (.ref it) u) (λ_ s2=>∃ x H',Inv X pins σ H' s2/\RelV x u/\J.wx i H x H'/\tn (i+1) s2.heap/\∀ b∈fp,H' b=none) E s1) E s
 done:∀ (X:Cx),X.prog=P->X.w=w->X.K=K->X.calm=true->∀ (i:Nat) (pins:WF) (s:Shared) (σ:St) (H:Hp) (E:WP),Inv X pins σ H s->(∀ b∈fp,jB X pins H b)->tn i s.heap->J.stop i H->
  wpAny (model P w) X.A (pyNext (.ref it)) (λr s1=>r=none/\Inv X pins σ H s1) E s
 self:∀ (A:Around) (i:Nat) (s:Shared) (Q:WP) (E:WP),tn i s.heap->Q (.ref it) s->wpAny (model P w) A (pyIter (.ref it)) Q E s
abbrev TI:=St->Hp->(It->Hp->Prop)->Prop
def U8 (X:Cx) (pins:WF) (σ:St) (tg:Expr) (R:It->Hp->Prop) (QR:Value) (s2:Shared):Prop:=
 ∃ (it:Addr) (fp:XL) (tn:Nat->Heap->Prop) (J:It) (H':Hp),QR=.ref it/\Inv X pins σ H' s2/\Turn X.prog X.w X.K tg J fp it tn/\tn 0 s2.heap/\(∀ b∈fp,jB X pins H' b)/\R J H'
def PI (X:Cx) (tg iter:Expr) (wi:TI):Prop:=
 ∀ (pins:WF) (s:Shared) (σ:St) (H:Hp) (R:It->Hp->Prop),Inv X pins σ H s->wi σ H R->
  wpAny (model X.prog X.w) X.A (eval iter X.env) (λv s1=>wpAny (model X.prog X.w) X.A (pyIter v) (U8 X pins σ tg R) X.xe s1) X.xe s
theorem y4 (ho:s.heap.get? it=some o) (hc:o.cls=.type n) (hd:o.data=.fields vs)
  (hn:["enumerate", "zip", "dict_itemiterator", "dict_reverseitemiterator", "odict_iterator", "itertools.zip_longest", "itertools.pairwise"].contains n=false) (hQ:Q () s):wpAny M A (letOwnedTupleGo tg (.ref it) u) Q E s:=by
 unfold letOwnedTupleGo;cases tg<;>first
  | exact ZR hQ
  | (cases u<;>first
    | exact ZR hQ
    | (
       refine rd (wpAny_load ho ?_);rw [hc,hd];show wpAny M A (if (["enumerate", "zip", "dict_itemiterator", "dict_reverseitemiterator", "odict_iterator", "itertools.zip_longest", "itertools.pairwise"].contains n&&vs[0]?==some (rawInt _))=true then _ else _) Q E s;rw [ZU (by intro h;rw [hn,Bool.false_and] at h;cases h)];exact ZR hQ))
def GV (K:ZB) (a:Addr):It:=
 ⟨λi H=>∃ xs x,aH K H a xs/\xs[i]?=some x,λi H x H'=>H'=H/\∀ xs,aH K H a xs->xs[i]?=some x,λi H=>∃ xs,aH K H a xs/\xs.length<=i⟩
def GS (K:ZB) (a:Addr):It:=
 ⟨λi H=>∃ xs x,SqT K H a xs/\xs[i]?=some x,λi H x H'=>H'=H/\∀ xs,SqT K H a xs->xs[i]?=some x,λi H=>∃ xs,SqT K H a xs/\xs.length<=i⟩
def GU (lo:Int) (n:Nat):It:=⟨λi _=>i<n,λi H x H'=>H'=H/\x=.int (lo+i),λi _=>n<=i⟩
theorem zV {P:Program} {w:World} {K:ZB} {tg:Expr} (a it:Addr):Turn P w K tg (GV K a) [it] it (λi h=>h.IsListIter it a i) where
 mem:=by simp
 obj:=λi h st b hb=>by
  have e:b=it:=by simpa using hb
  subst e;obtain ⟨o,e,c,d⟩:=st;exact ⟨o,e,λv z=>by rw [d] at z;cases z⟩
 keep:=λi h h' st k=>st.at λo e=>k it (by simp) o e
 item:=by
  intro X hP hw hK hc i pins s σ H E I hf st hg;subst hP hw hK;obtain ⟨xs,x,hq,hx⟩:=hg;obtain ⟨aJ,rv,p,hz⟩:=I.list hq;obtain ⟨u,hu,ru⟩:=rv.get hx;obtain ⟨f0,f1,f2,f3,f4,f5⟩:=hf it (by simp);refine wpAny_pyNext_list_item st p.isList (x:=u) (by simpa using hu) λh' jH sb=>?_;have I1:Inv X pins σ H { s with heap:=h' }:=I.turned (t':=s.toks) (λb o hb e=>(sb.2 b hb).trans e) f0 f1 f3 f4 f5;obtain ⟨o,e,c,d⟩:=id jH;exact ⟨u,rfl,y4 (s:={ s with heap:=h' }) e c d (by decide) ⟨x,H,I1,ru,⟨rfl,λys hy=>by rw [I.jW hy hq];exact hx⟩,jH,λb hb=>(hf b hb).1⟩⟩
 done:=by
  intro X hP hw hK hc i pins s σ H E I hf st hg;subst hP hw hK;obtain ⟨xs,hq,hx⟩:=hg;obtain ⟨aJ,rv,p,hz⟩:=I.list hq;obtain ⟨f0,f1,f2,f3,f4,f5⟩:=hf it (by simp);have hl:=rv.length;exact wpAny_pyNext_list_end (I.ok.hd hc) st p.isList (by simp;omega) λh' eb=>⟨rfl,I.turned (t':=s.toks) (λb o hb e=>eb b o hb e) f0 f1 f3 f4 f5⟩
 self:=λ_ _ _ _ _ st h=>wpAny_pyIter_listiter st h
theorem wG {P:Program} {w:World} {K:ZB} {tg:Expr} (a it:Addr):Turn P w K tg (GS K a) [it] it (λi h=>h.IsTupleIter it a i) where
 mem:=by simp
 obj:=λi h st b hb=>by
  have e:b=it:=by simpa using hb
  subst e;obtain ⟨o,e,c,d⟩:=st;exact ⟨o,e,λv z=>by rw [d] at z;cases z⟩
 keep:=λi h h' st k=>st.at λo e=>k it (by simp) o e
 item:=by
  intro X hP hw hK hc i pins s σ H E I hf st hg;subst hP hw hK;obtain ⟨xs,x,hq,hx⟩:=hg;obtain ⟨aJ,rv,p,hz⟩:=I.tuple hq;obtain ⟨u,hu,ru⟩:=rv.get hx;obtain ⟨f0,f1,f2,f3,f4,f5⟩:=hf it (by simp);refine wpAny_pyNext_tuple_item st (show s.heap.IsTuple a aJ.toArray from p) (x:=u) (by simpa using hu) λh' jH sb=>?_;have I1:Inv X pins σ H { s with heap:=h' }:=I.turned (t':=s.toks) (λb o hb e=>(sb.2 b hb).trans e) f0 f1 f3 f4 f5;obtain ⟨o,e,c,d⟩:=id jH;exact ⟨u,rfl,y4 (s:={ s with heap:=h' }) e c d (by decide) ⟨x,H,I1,ru,⟨rfl,λys hy=>by rw [I.ky hy hq];exact hx⟩,jH,λb hb=>(hf b hb).1⟩⟩
 done:=by
  intro X hP hw hK hc i pins s σ H E I hf st hg;subst hP hw hK;obtain ⟨xs,hq,hx⟩:=hg;obtain ⟨aJ,rv,p,hz⟩:=I.tuple hq;obtain ⟨f0,f1,f2,f3,f4,f5⟩:=hf it (by simp);have hl:=rv.length;exact wpAny_pyNext_tuple_end (I.ok.hd hc) st (show s.heap.IsTuple a aJ.toArray from p) (by simp;omega) λh' eb=>⟨rfl,I.turned (t':=s.toks) (λb o hb e=>eb b o hb e) f0 f1 f3 f4 f5⟩
 self:=λ_ _ _ _ _ st h=>wpAny_pyIter_tupleiter st h
theorem wH {P:Program} {w:World} {K:ZB} {tg:Expr} (it:Addr) (lo:Int) (n:Nat):Turn P w K tg (GU lo n) [it] it (λi h=>IsRangeIter h it (lo+(i:Nat)*1) ((n:Int)-(i:Nat)) 1) where
 mem:=by simp
 obj:=λi h st b hb=>by
  have e:b=it:=by simpa using hb
  subst e;exact ⟨_,st,λv z=>by
   have z':Data.fields _=Data.cell v:=z;cases z'⟩
 keep:=λi h h' st k=>k it (by simp) _ st
 item:=by
  intro X hP hw hK hc i pins s σ H E I hf st hg;subst hP hw hK;obtain ⟨f0,f1,f2,f3,f4,f5⟩:=hf it (by simp);have W:=Walks.range (prog:=X.prog) (w:=X.w) (I.ok.hd hc) it lo 1 n;refine W.item i s _ _ hg st λv h' tk hv jH kk=>?_;obtain ⟨t,rfl⟩:=hv;have I1:Inv X pins σ H { s with heap:=h',toks:=tk }:=I.turned (λb o hb e=>kk b o (by simpa using hb) e) f0 f1 f3 f4 f5;refine ⟨_,rfl,y4 (s:={ s with heap:=h',toks:=tk }) (n:= "range_iterator") jH rfl rfl (by decide) ⟨.int (lo+i),H,I1,⟨t,?_⟩,⟨rfl,rfl⟩,jH,λb hb=>(hf b hb).1⟩⟩;rw [Int.mul_one]
 done:=by
  intro X hP hw hK hc i pins s σ H E I hf st hg;subst hP hw hK;obtain ⟨f0,f1,f2,f3,f4,f5⟩:=hf it (by simp);exact wpAny_pyNext_range_end (I.ok.hd hc) st (by have:n<=i:=hg;omega) λh' eb=>⟨rfl,I.turned (t':=s.toks) (λb o hb e=>eb b o hb e) f0 f1 f3 f4 f5⟩
 self:=λ_ _ _ _ _ st h=>wpAny_pyIter_rangeiter st h
def yU (K:ZB) (tl:TE):TI:=λσ H R=>tl σ H λx H1=>∃ a,x=.ref a/\(∃ xs,aH K H1 a xs)/\R (GV K a) H1
def JP (K:ZB) (tl:TE):TI:=λσ H R=>tl σ H λx H1=>∃ a,x=.ref a/\(∃ xs,SqT K H1 a xs)/\R (GS K a) H1
theorem bq (hl:PE X l tl):PI X tg l (yU X.K tl):=by
 intro pins s σ H R I h;refine cA (hl pins s σ H _ I h) λv s1 ⟨x,H1,I1,r1,q1⟩=>?_;obtain ⟨a,e,⟨xs,hq⟩,q⟩:=q1;subst e;cases r1
 obtain ⟨aJ,rv,p,hz⟩:=I1.list hq;refine zcG p.isList ?_;refine ⟨s1.heap.objs.size,[s1.heap.objs.size],_,_,H1,rfl,I1.kept (t':=s1.toks) λb o e=>ZN _ e,zV a _,⟨_,Z3 _ rfl,rfl,rfl⟩,λb hb=>?_,q⟩;have e:b=s1.heap.objs.size:=by simpa using hb
 subst e;exact I1.qg (ZQ _) (I1.aZ.fresh (ZQ _))
theorem kM (hl:PE X l tl):PI X tg l (JP X.K tl):=by
 intro pins s σ H R I h;refine cA (hl pins s σ H _ I h) λv s1 ⟨x,H1,I1,r1,q1⟩=>?_;obtain ⟨a,e,⟨xs,hq⟩,q⟩:=q1;subst e;cases r1
 obtain ⟨aJ,rv,p,hz⟩:=I1.tuple hq;refine wpAny_pyIter_tuple (show s1.heap.IsTuple a aJ.toArray from p) ?_;refine ⟨s1.heap.objs.size,[s1.heap.objs.size],_,_,H1,rfl,I1.kept (t':=s1.toks) λb o e=>ZN _ e,wG a _,⟨_,Z3 _ rfl,rfl,rfl⟩,λb hb=>?_,q⟩;have e:b=s1.heap.objs.size:=by simpa using hb
 subst e;exact I1.qg (ZQ _) (I1.aZ.fresh (ZQ _))
theorem Cn {σ:St} {s:Shared} {R:It->Hp->Prop} {lo hi:Int} {t u v:Tok} {tk:Nat} (I:Inv X pins σ H s) (h1 : -(2 ^ 62)<=lo) (h2:lo<2 ^ 62) (h3 : -(2 ^ 62)<=hi) (h4:hi<2 ^ 62)
  (q:R (GU lo (hi-lo).toNat) H):wpAny (model X.prog X.w) X.A (pyIter (.ref s.heap.objs.size)) (U8 X pins σ tg R) E { s with heap:=s.heap.push { cls:=.type "range",data:=.fields #[.int lo t,.int hi u,.int 1 v] },toks:=tk }:=by
 refine wpAny_pyIter_range (IsRange.new ..) (small_one h1 h2 h3 h4) ?_;have I1:Inv X pins σ H { s with heap:=s.heap.push { cls:=.type "range",data:=.fields #[.int lo t,.int hi u,.int 1 v] },toks:=tk }:=I.kept λb o e=>ZN _ e;refine ⟨(s.heap.push { cls:=.type "range",data:=.fields #[.int lo t,.int hi u,.int 1 v] }).objs.size,[(s.heap.push { cls:=.type "range",data:=.fields #[.int lo t,.int hi u,.int 1 v] }).objs.size],_,_,H,rfl,
  I1.kept (t':=tk) λb o e=>ZN _ e,wH _ lo (hi-lo).toNat,?_,λb hb=>?_,q⟩
 ·have e1:lo+((0:Nat):Int)*1=lo:=by simp
  have e2:(((hi-lo).toNat:Nat):Int)-((0:Nat):Int)=Builtin.Range.rangeSize lo hi 1:=by rw [rangeSize_one];split<;>omega
  show IsRangeIter _ _ (lo+((0:Nat):Int)*1) ((((hi-lo).toNat:Nat):Int)-((0:Nat):Int)) 1;rw [e1,e2];exact Z3 _ rfl
 ·have e:b=(s.heap.push { cls:=.type "range",data:=.fields #[.int lo t,.int hi u,.int 1 v] }).objs.size:=by simpa using hb
  subst e;exact I1.qg (ZQ _) (I1.aZ.fresh (ZQ _))
def HD (ta:TA):TI:=λσ H R=>ta σ H λvs H1=>∃ j:Int,vs=[.int j]/\-(2 ^ 62)<=j/\j<2 ^ 62/\R (GU 0 j.toNat) H1
theorem bg (hg:Gl X "range") (hm:X.mg "range"=none) (ha:PA X [a] ta) (hs:starEach [a] X.env=[(false,eval a X.env)]:=by rfl):PI X tg (.Call (.Name "range" p) [a] [] pos) (HD ta):=by
 intro pins s σ H R I h;refine Call_ (eN I hg hm boot_range (zaJ (cA (ha pos pins s σ H _ I h) λus s1 ⟨vs,H1,I1,r1,q1⟩=>?_) hs rfl));obtain ⟨j,e,q1,q2,q⟩:=q1;subst e;cases r1 with
 | cons r rr=>
  cases rr
  obtain ⟨t,rfl⟩:=r;exact call_range_1 (Cn I1 (by omega) (by omega) q1 q2 (by simpa using q))
def LZ (wi:TI) (g:TG) (tb:TS):TS:=λD σ H=>wi σ H λJ H1=>∃ W:Nat->Nat->St->Hp->Prop,(∃ m,W 0 m σ H1)/\∀ i m σ H,W i m σ H->
 (J.stop i H/\D.nx σ H)\/(J.go i H/\∃ N:St->Hp->Prop,(∀ σ' H',N σ' H'->∃ m',m'<m/\W (i+1) m' σ' H')/\∀ x H',J.wx i H x H'->g x σ H' λσ2 H2=>tb { D with nx:=N,ct:=N,bk:=D.nx } σ2 H2)
def nH (fp:XL) (h:Heap):WF:=fp.filterMap λb=>(h.get? b).map λo=>(b,o)
theorem gU (hb:b∈fp) (e:h.get? b=some o):(b,o)∈nH fp h:=zbM.mpr ⟨b,hb,by rw [e];rfl⟩
theorem Ar (hp:p∈nH fp h):p.1∈fp/\h.get? p.1=some p.2:=by
 obtain ⟨b,hb,e⟩:=zbM.mp hp;cases q:h.get? b with
 | none=>rw [q] at e;cases e
 | some o=>
  rw [q] at e;have e':(b,o)=p:=ZO e;subst e';exact ⟨hb,q⟩
theorem Inv.pinned {σ:St} {s:Shared} (I:Inv X pins σ H s) (hf:∀ b∈fp,jB X pins H b) (ho:∀ b∈fp,∃ o,s.heap.get? b=some o/\∀ v,o.data≠.cell v):Inv X (pins++nH fp s.heap) σ H s:=
 I.dZ λp hp=>(ZZ.mp hp).elim (λz=>I.pin p (zaL _ z)) λz=>by
  obtain ⟨hb,e⟩:=Ar z;obtain ⟨f0,f1,f2,_⟩:=hf p.1 hb;obtain ⟨o,e',d⟩:=ho p.1 hb;rw [e] at e';cases e';exact ⟨e,f0,f1,f2,d⟩
theorem Inv.jE {σ:St} {s:Shared} (I:Inv X (pins++pl) σ H s):Inv X pins σ H s:=I.dZ λp hp=>I.pin p (zaL _ (zbz _ hp))
theorem bN {iter:Expr} {body:List Stmt} {wi:TI} {g:TG} {tb:TS} {pos:Pos} (hp:PassesOwn (model X.prog X.w) X.A X.env X.xe) (hc:X.calm=true) (hi:PI X tg iter wi) (hg:PG X tg g) (hb:tZ X body tb)
  (hs:∀ x,foldedSetIterable iter X.env x=pure x:=by intro _;rfl):PS X (.For tg iter body [] pos) (LZ wi g tb):=by
 intro pins s σ H D I h;refine wpAny_For (cA (hi pins s σ H _ I h) λv s1 h1=>cA h1 λQR s2 h2=>?_) hs;obtain ⟨it,fp,tn,J,H2,e,I2,T,EU,f2,W,⟨m0,w0⟩,turn⟩:=h2;subst e
 -- Pu stays true of zY iterator's objects through zY loop
 have IG:∀ {H':Hp},(∀ b∈fp,H' b=none)->∀ b∈fp,jB X pins H' b:=λhn b hb=>⟨hn b hb,(f2 b hb).2⟩;refine codeAny_forLoop_any (λn s'=>∃ i σ' H',Inv X pins σ' H' s'/\tn i s'.heap/\(∀ b∈fp,H' b=none)/\W i n σ' H') ?_ m0 ⟨0,σ,H2,I2,EU,λb hb=>(f2 b hb).1,w0⟩;rintro n s3 ⟨i,σ3,H3,I3,S5,UT,w3⟩;rcases turn i n σ3 H3 w3 with ⟨stop,qn⟩|⟨go,N,hN,step⟩
 ·refine zcn hp (cA (T.done X rfl rfl rfl hc i pins s3 σ3 H3 X.xe I3 (IG UT) S5 stop) λr s4 ⟨hr,I4⟩=>?_);subst hr;exact zbW ⟨σ3,H3,I4,qn⟩
 ·refine zcn hp (cA (T.item X rfl rfl rfl hc i pins s3 σ3 H3 X.xe I3 (IG UT) S5 go) λr s4 ⟨u,hr,h4⟩=>?_);subst hr;refine zcn hp (cA h4 λ_ s5 ⟨x,H5,I5,r5,y5,PM,Ye⟩=>?_);have YT:=I5.pinned (IG Ye) (T.obj _ _ PM);refine zcn hp (cA (hg _ s5 σ3 H5 x u _ YT r5 (step x H5 y5)) λ_ s6 ⟨σ6,H6,I6,q6⟩=>?_);refine zcn hp (cA (hb _ s6 σ6 H6 _ I6 q6) λf s7 q7=>?_);have again:∀ {σ7:St} {H7:Hp},Inv X (pins++nH fp s5.heap) σ7 H7 s7->N σ7 H7->∃ m,m<n/\∃ i σ' H',Inv X pins σ' H' s7/\tn i s7.heap/\(∀ b∈fp,H' b=none)/\W i m σ' H':=λ{σ7 H7} I7 n7=>by
   obtain ⟨m',hm,w7⟩:=hN σ7 H7 n7;refine ⟨m',hm,i+1,σ7,H7,I7.jE,T.keep _ _ _ PM λb hb o e=>(I7.pin (b,o) (zaL _ (zaL _ (gU hb e)))).1,λb hb=>?_,w7⟩;obtain ⟨o,e,d⟩:=T.obj _ _ PM b hb;exact (I7.pin (b,o) (zaL _ (zaL _ (gU hb e)))).2.1
  cases f with
  | next=>obtain ⟨σ7,H7,I7,n7⟩:=q7;exact again I7 n7
  | cont=>obtain ⟨σ7,H7,I7,n7⟩:=q7;exact again I7 n7
  | brk=>obtain ⟨σ7,H7,I7,q7⟩:=q7;exact ⟨σ7,H7,I7.jE,q7⟩
  | ret v=>obtain ⟨x7,σ7,H7,I7,r7,q7⟩:=q7;exact ⟨x7,σ7,H7,I7.jE,r7,q7⟩
theorem dJ {K:ZB} {a:Addr} {xs:List V} {g:TG} {tb:TS} {D:Ends} {σ:St} {H:Hp} (Pv:Nat->St->Hp->Prop) (h0:Pv 0 σ H) (hl:∀ i σ H,i<=xs.length->Pv i σ H->aH K H a xs)
  (hs:∀ i x σ H,xs[i]?=some x->Pv i σ H->g x σ H λσ2 H2=>tb { D with nx:=Pv (i+1),ct:=Pv (i+1),bk:=D.nx } σ2 H2) (hd:∀ σ H,Pv xs.length σ H->D.nx σ H) :
  ∃ W:Nat->Nat->St->Hp->Prop,(∃ m,W 0 m σ H)/\∀ i m σ H,W i m σ H->
   ((GV K a).stop i H/\D.nx σ H)\/((GV K a).go i H/\∃ N:St->Hp->Prop,(∀ σ' H',N σ' H'->∃ m',m'<m/\W (i+1) m' σ' H')/\∀ x H',(GV K a).wx i H x H'->g x σ H' λσ2 H2=>tb { D with nx:=N,ct:=N,bk:=D.nx } σ2 H2):=by
 refine ⟨λi m σ H=>m=xs.length-i/\i<=xs.length/\Pv i σ H,⟨xs.length,by simp,Z7 _,h0⟩,?_⟩;rintro i m σ H ⟨rfl,hi,p⟩;have q:=hl i σ H hi p;by_cases dI:i<xs.length
 ·refine .inr ⟨⟨xs,xs[i],q,by simp [dI]⟩,Pv (i+1),λσ' H' p'=>⟨xs.length-(i+1),by omega,rfl,dI,p'⟩,λx H' y=>?_⟩;obtain ⟨e,y⟩:=y;subst e;exact hs i x σ _ (y xs q) p
 ·have e:i=xs.length:=by omega
  subst e;exact .inl ⟨⟨xs,q,ZQ _⟩,hd σ H p⟩
theorem zi {K:ZB} {a:Addr} {xs:List V} {g:TG} {tb:TS} {D:Ends} {σ:St} {H:Hp} (Pv:Nat->St->Hp->Prop) (h0:Pv 0 σ H) (hl:∀ i σ H,i<=xs.length->Pv i σ H->SqT K H a xs)
  (hs:∀ i x σ H,xs[i]?=some x->Pv i σ H->g x σ H λσ2 H2=>tb { D with nx:=Pv (i+1),ct:=Pv (i+1),bk:=D.nx } σ2 H2) (hd:∀ σ H,Pv xs.length σ H->D.nx σ H) :
  ∃ W:Nat->Nat->St->Hp->Prop,(∃ m,W 0 m σ H)/\∀ i m σ H,W i m σ H->
   ((GS K a).stop i H/\D.nx σ H)\/((GS K a).go i H/\∃ N:St->Hp->Prop,(∀ σ' H',N σ' H'->∃ m',m'<m/\W (i+1) m' σ' H')/\∀ x H',(GS K a).wx i H x H'->g x σ H' λσ2 H2=>tb { D with nx:=N,ct:=N,bk:=D.nx } σ2 H2):=by
 refine ⟨λi m σ H=>m=xs.length-i/\i<=xs.length/\Pv i σ H,⟨xs.length,by simp,Z7 _,h0⟩,?_⟩;rintro i m σ H ⟨rfl,hi,p⟩;have q:=hl i σ H hi p;by_cases dI:i<xs.length
 ·refine .inr ⟨⟨xs,xs[i],q,by simp [dI]⟩,Pv (i+1),λσ' H' p'=>⟨xs.length-(i+1),by omega,rfl,dI,p'⟩,λx H' y=>?_⟩;obtain ⟨e,y⟩:=y;subst e;exact hs i x σ _ (y xs q) p
 ·have e:i=xs.length:=by omega
  subst e;exact .inl ⟨⟨xs,q,ZQ _⟩,hd σ H p⟩
theorem cW {lo:Int} {n:Nat} {g:TG} {tb:TS} {D:Ends} {σ:St} (Pv:Nat->St->Hp->Prop) (h0:Pv 0 σ H)
  (hs:∀ i σ H,i<n->Pv i σ H->g (.int (lo+i)) σ H λσ2 H2=>tb { D with nx:=Pv (i+1),ct:=Pv (i+1),bk:=D.nx } σ2 H2) (hd:∀ σ H,Pv n σ H->D.nx σ H) :
  ∃ W:Nat->Nat->St->Hp->Prop,(∃ m,W 0 m σ H)/\∀ i m σ H,W i m σ H->
   ((GU lo n).stop i H/\D.nx σ H)\/((GU lo n).go i H/\∃ N:St->Hp->Prop,(∀ σ' H',N σ' H'->∃ m',m'<m/\W (i+1) m' σ' H')/\∀ x H',(GU lo n).wx i H x H'->g x σ H' λσ2 H2=>tb { D with nx:=N,ct:=N,bk:=D.nx } σ2 H2):=by
 refine ⟨λi m σ H=>m=n-i/\i<=n/\Pv i σ H,⟨n,by simp,Z7 _,h0⟩,?_⟩;rintro i m σ H ⟨rfl,hi,p⟩;by_cases dI:i<n
 ·refine .inr ⟨dI,Pv (i+1),λσ' H' p'=>⟨n-(i+1),by omega,rfl,dI,p'⟩,λx H' y=>?_⟩;obtain ⟨e,y⟩:=y;subst e y;exact hs i σ _ dI p
 ·have e:i=n:=by omega
  subst e;exact .inl ⟨ZQ _,hd σ H p⟩
abbrev R2:=V->V->Hp->VK->Prop
def me (X:Cx) (f:Value->Value->Sem Value) (r:R2):Prop:=
 ∀ (pins:WF) (s:Shared) (σ:St) (H:Hp) (x y:V) (v u:Value) (Q:VK),Inv X pins σ H s->RelV x v->RelV y u->r x y H Q->
  wpAny (model X.prog X.w) X.A (f v u) (EP X pins σ Q) X.xe s
def Su (X:Cx) (f:Value->Sem Value) (r:V->Hp->VK->Prop):Prop:=
 ∀ (pins:WF) (s:Shared) (σ:St) (H:Hp) (x:V) (v:Value) (Q:VK),Inv X pins σ H s->RelV x v->r x H Q->
  wpAny (model X.prog X.w) X.A (f v) (EP X pins σ Q) X.xe s
def cR (X:Cx) (f:Value) (r:List V->Hp->VK->Prop):Prop:=
 ∀ (pins:WF) (s:Shared) (σ:St) (H:Hp) (xs:List V) (us:XV) (Q:VK),Inv X pins σ H s->Vals xs us->r xs H Q->
  wpAny (model X.prog X.w) X.A (call f us) (EP X pins σ Q) X.xe s
def K3 (r:R2) (ta tb:TE):TE:=λσ H Q=>ta σ H λx H1=>tb σ H1 λy H2=>r x y H2 Q
def SX (r:V->Hp->VK->Prop) (ta:TE):TE:=λσ H Q=>ta σ H λx H1=>r x H1 Q
def rI (C:Int->Int->Prop) (g:Int->Int->V):R2:=λx y H Q=>∃ i j,x=.int i/\y=.int j/\C i j/\Q (g i j) H
def En (g:Int->Int->V):R2:=λx y H Q=>∃ i j,x=.int i/\y=.int j/\Q (g i j) H
def rU (g:Int->V):V->Hp->VK->Prop:=λx H Q=>∃ i,x=.int i/\Q (g i) H
theorem KL (ha:PE X a ta) (hb:PE X b tb) {pins:WF} {s:Shared} {σ:St} {H:Hp} {R:V->V->Hp->Prop} (I:Inv X pins σ H s)
  (h:ta σ H λx H1=>tb σ H1 λy H2=>R x y H2) {Q:WP} {f:Value->Value->Sem Value}
  (hf:∀ v u s2 x y H2,Inv X pins σ H2 s2->RelV x v->RelV y u->R x y H2->wpAny (model X.prog X.w) X.A (f v u) Q X.xe s2) :
  wpAny (model X.prog X.w) X.A (eval a X.env) (λv s₁=>wpAny (model X.prog X.w) X.A (eval b X.env) (λu s₂=>wpAny (model X.prog X.w) X.A (f v u) Q X.xe s₂) X.xe s₁) X.xe s:=by
 refine cA (ha pins s σ H _ I h) λv s1 ⟨x,H1,I1,r1,q1⟩=>?_;refine cA (hb pins s1 σ H1 _ I1 q1) λu s2 ⟨y,H2,I2,r2,q2⟩=>?_;exact hf v u s2 x y H2 I2 r1 r2 q2
theorem av (ho:me X (binaryOp op) r) (ha:PE X a ta) (hb:PE X b tb):PE X (.BinOp a op b pos) (K3 r ta tb):=by
 intro pins s σ H Q I h;exact wpAny_BinOp (KL ha hb I h λv u s2 x y H2 I2 rx ry q=>ho pins s2 σ H2 x y v u Q I2 rx ry q)
theorem Hw (ho:Su X (unaryOp op) r) (ha:PE X a ta):PE X (.UnaryOp op a pos) (SX r ta):=by
 intro pins s σ H Q I h;exact UnaryOp_ (cA (ha pins s σ H _ I h) λv s1 ⟨x,H1,I1,r1,q1⟩=>ho pins s1 σ H1 x v Q I1 r1 q1)
theorem OG {C:Int->Int->Prop} {g:Int->Int->Int}
  (rule:∀ (i j:Int) (t u:Tok) (s:Shared) (Q:WP) (E:WP),C i j->Q (.int (g i j) s.toks) { s with toks:=s.toks+1 }->wpAny (model X.prog X.w) X.A (f (.int i t) (.int j u)) Q E s) :
  me X f (rI C λi j=>.int (g i j)):=by
 intro pins s σ H x y v u Q I rx ry h;obtain ⟨i,j,rfl,rfl,hc,q⟩:=h;obtain ⟨t,rfl⟩:=rx;obtain ⟨t',rfl⟩:=ry;exact rule i j t t' s _ _ hc ⟨.int (g i j),H,I.tok _,⟨_,rfl⟩,q⟩
theorem My {g:Int->Int->Int}
  (rule:∀ (i j:Int) (t u:Tok) (s:Shared) (Q:WP) (E:WP),Q (.int (g i j) s.toks) { s with toks:=s.toks+1 }->wpAny (model X.prog X.w) X.A (f (.int i t) (.int j u)) Q E s) :
  me X f (En λi j=>.int (g i j)):=by
 intro pins s σ H x y v u Q I rx ry h;obtain ⟨i,j,rfl,rfl,q⟩:=h;obtain ⟨t,rfl⟩:=rx;obtain ⟨t',rfl⟩:=ry;exact rule i j t t' s _ _ ⟨.int (g i j),H,I.tok _,⟨_,rfl⟩,q⟩
theorem FD {g:Int->Int->Bool}
  (rule:∀ (i j:Int) (t u:Tok) (s:Shared) (Q:WP) (E:WP),Q (.bool (g i j)) s->wpAny (model X.prog X.w) X.A (f (.int i t) (.int j u)) Q E s) :
  me X f (En λi j=>.bl (g i j)):=by
 intro pins s σ H x y v u Q I rx ry h;obtain ⟨i,j,rfl,rfl,q⟩:=h;obtain ⟨t,rfl⟩:=rx;obtain ⟨t',rfl⟩:=ry;exact rule i j t t' s _ _ ⟨.bl (g i j),H,I,rfl,q⟩
def SH (i j:Int):Prop:=0<=j/\j<=1000000/\i.natAbs<2 ^ 64
theorem cx:me X (binaryOp .Add) (En λi j=>.int (i+j)):=My λ_ _ _ _ _ _ _ q=>add_int q
theorem bO:me X (binaryOp .Sub) (En λi j=>.int (i-j)):=My λ_ _ _ _ _ _ _ q=>sub_int q
theorem bo:me X (binaryOp .Mod) (rI (λ_ j=>0<j) λi j=>.int (i%j)):=OG λi j _ _ _ _ _ hc q=>by
 have h1:(0:Int)<j:=hc;exact mod_int' (by omega) (by rw [Int.fmod_eq_emod_of_nonneg i (by omega)];exact q)
theorem sF:me X (binaryOp .Pow) (rI SH λi j=>.int (i ^ j.toNat)):=OG λ_ _ _ _ _ _ _ hc q=>pow_int_small hc.1 hc.2.1 hc.2.2 q
theorem Vm {g:Int->Int}
  (rule:∀ (i:Int) (t:Tok) (s:Shared) (Q:WP) (E:WP),Q (.int (g i) s.toks) { s with toks:=s.toks+1 }->wpAny (model X.prog X.w) X.A (f (.int i t)) Q E s) :
  Su X f (rU λi=>.int (g i)):=by
 intro pins s σ H x v Q I rx h;obtain ⟨i,rfl,q⟩:=h;obtain ⟨t,rfl⟩:=rx;exact rule i t s _ _ ⟨.int (g i),H,I.tok _,⟨_,rfl⟩,q⟩
theorem BN:Su X (unaryOp .USub) (rU λi=>.int (-i)):=Vm λ_ _ _ _ _ q=>neg_int q
def L7:V->V->Bool
 | .gn,.gn=>true | .gn,.int _=>true | .int _,.gn=>true | .gn,.bl _=>true | .bl _,.gn=>true | .gn,.str _=>true | .str _,.gn=>true
 | .int _,.int _=>true | .bl _,.bl _=>true | .str _,.str _=>true | .Bk _,.Bk _=>true
 | .int _,.str _=>true | .str _,.int _=>true | .bl _,.str _=>true | .str _,.bl _=>true
 | _,_=>false
def Tj:R2:=λx y H Q=>L7 x y=true/\Q (.bl (decide (x=y))) H
def Ti:R2:=λx y H Q=>L7 x y=true/\Q (.bl (!decide (x=y))) H
theorem j8:decide (V.int i=V.int j)=(i==j):=by
 rw [zcB];simp
theorem D0:decide (V.bl i=V.bl j)=(i==j):=by
 rw [zcB];simp
theorem zA:decide (V.str i=V.str j)=(i==j):=by
 rw [zcB];simp
theorem zB:decide (V.Bk i=V.Bk j)=(i.toList==j.toList):=by
 rw [zcB];cases i
 cases j
 simp
theorem bc {σ:St} {s:Shared} {k k':Bool} (I:Inv X pins σ H s) (q:Q (.bl k) H) (e:k=k'):EP X pins σ Q (.bool k') s:=by
 subst e;exact ⟨.bl k,H,I,rfl,q⟩
theorem eQ:me X (compareOp .Eq) Tj:=by
 intro pins s σ H x y v u Q I rx ry h;obtain ⟨hs,q⟩:=h;cases x with
 | gn=>
  cases rx
  cases y with
  | gn=>cases ry;exact PySem.EqNone.eq_none_none (bc I q (by simp))
  | bl j=>cases ry;exact PySem.EqNone.eq_none_bool (bc I q (by simp))
  | int j=>obtain ⟨t',rfl⟩:=ry;exact PySem.EqNone.eq_none_int (bc I q (by simp))
  | str j=>obtain ⟨t',rfl⟩:=ry;exact PySem.EqNone.eq_none_str (bc I q (by simp))
  | _=>exact absurd (show false=true from hs) zae
 | bl i=>
  cases rx
  cases y with
  | gn=>cases ry;exact PySem.EqNone.eq_bool_none (bc I q (by simp))
  | bl j=>cases ry;exact eq_bool (bc I q D0)
  | str j=>obtain ⟨t',rfl⟩:=ry;exact PySem.EqMixed.eq_bool_str (bc I q (by simp))
  | _=>exact absurd (show false=true from hs) zae
 | int i=>
  obtain ⟨t,rfl⟩:=rx;cases y with
  | gn=>cases ry;exact PySem.EqNone.eq_int_none (bc I q (by simp))
  | int j=>obtain ⟨t',rfl⟩:=ry;exact eq_int (bc I q j8)
  | str j=>obtain ⟨t',rfl⟩:=ry;exact PySem.EqMixed.eq_int_str (bc I q (by simp))
  | _=>exact absurd (show false=true from hs) zae
 | str i=>
  obtain ⟨t,rfl⟩:=rx;cases y with
  | gn=>cases ry;exact PySem.EqNone.eq_str_none (bc I q (by simp))
  | bl j=>cases ry;exact PySem.EqMixed.eq_str_bool (bc I q (by simp))
  | int j=>obtain ⟨t',rfl⟩:=ry;exact PySem.EqMixed.eq_str_int (bc I q (by simp))
  | str j=>obtain ⟨t',rfl⟩:=ry;exact eq_str (bc I q zA)
  | _=>exact absurd (show false=true from hs) zae
 | Bk i=>
  obtain ⟨t,rfl⟩:=rx;cases y with
  | Bk j=>obtain ⟨t',rfl⟩:=ry;exact PySem.W.eq_bytes (bc I q zB)
  | _=>exact absurd (show false=true from hs) zae
 | _=>cases y<;>exact absurd (show false=true from hs) zae
theorem u9:me X (compareOp .NotEq) Ti:=by
 intro pins s σ H x y v u Q I rx ry h;obtain ⟨hs,q⟩:=h;cases x with
 | gn=>
  cases rx
  cases y with
  | gn=>cases ry;exact PySem.EqNone.ne_none_none (bc I q (by simp))
  | bl j=>cases ry;exact PySem.EqNone.ne_none_bool (bc I q (by simp))
  | int j=>obtain ⟨t',rfl⟩:=ry;exact PySem.EqNone.ne_none_int (bc I q (by simp))
  | str j=>obtain ⟨t',rfl⟩:=ry;exact PySem.EqNone.ne_none_str (bc I q (by simp))
  | _=>exact absurd (show false=true from hs) zae
 | bl i=>
  cases rx
  cases y with
  | gn=>cases ry;exact PySem.EqNone.ne_bool_none (bc I q (by simp))
  | bl j=>cases ry;exact ne_bool (bc I q (zaO not D0))
  | str j=>obtain ⟨t',rfl⟩:=ry;exact PySem.EqMixed.ne_bool_str (bc I q (by simp))
  | _=>exact absurd (show false=true from hs) zae
 | int i=>
  obtain ⟨t,rfl⟩:=rx;cases y with
  | gn=>cases ry;exact PySem.EqNone.ne_int_none (bc I q (by simp))
  | int j=>obtain ⟨t',rfl⟩:=ry;exact ne_int (bc I q (zaO not j8))
  | str j=>obtain ⟨t',rfl⟩:=ry;exact PySem.EqMixed.ne_int_str (bc I q (by simp))
  | _=>exact absurd (show false=true from hs) zae
 | str i=>
  obtain ⟨t,rfl⟩:=rx;cases y with
  | gn=>cases ry;exact PySem.EqNone.ne_str_none (bc I q (by simp))
  | bl j=>cases ry;exact PySem.EqMixed.ne_str_bool (bc I q (by simp))
  | int j=>obtain ⟨t',rfl⟩:=ry;exact PySem.EqMixed.ne_str_int (bc I q (by simp))
  | str j=>obtain ⟨t',rfl⟩:=ry;exact ne_str (bc I q (zaO not zA))
  | _=>exact absurd (show false=true from hs) zae
 | Bk i=>
  obtain ⟨t,rfl⟩:=rx;cases y with
  | Bk j=>obtain ⟨t',rfl⟩:=ry;exact PySem.W.ne_bytes (bc I q (zaO not zB))
  | _=>exact absurd (show false=true from hs) zae
 | _=>cases y<;>exact absurd (show false=true from hs) zae
theorem lH:me X (compareOp .Lt) (En λi j=>.bl (decide (i<j))):=FD λ_ _ _ _ _ _ _ q=>lt_int q
theorem Mv:me X (compareOp .LtE) (En λi j=>.bl (decide (i<=j))):=FD λ_ _ _ _ _ _ _ q=>le_int q
theorem qU:me X (compareOp .Gt) (En λi j=>.bl (decide (j<i))):=FD λ_ _ _ _ _ _ _ q=>gt_int q
theorem Mw:me X (compareOp .GtE) (En λi j=>.bl (decide (j<=i))):=FD λ_ _ _ _ _ _ _ q=>ge_int q
theorem aN (b:Expr) (h:op≠.In:=by decide) (h2:op≠.NotIn:=by decide):behindInMarks op b=false:=by
 have e1:(op==CmpOp.In)=false:=by cases op<;>first|rfl|exact absurd rfl h
 have e2:(op==CmpOp.NotIn)=false:=by cases op<;>first|rfl|exact absurd rfl h2
 cases b<;>simp [behindInMarks,e1,e2]
theorem eW (ho:me X (compareOp op) r) (ha:PE X a ta) (hb:PE X b tb) (hm:behindInMarks op b=false):PE X (.Compare a [op] [b] pos) (K3 r ta tb):=by
 intro pins s σ H Q I h;exact wpAny_Compare1 (KL ha hb I h λv u s2 x y H2 I2 rx ry q=>ho pins s2 σ H2 x y v u Q I2 rx ry q) hm
def G8 (t:TE):TT:=λσ H Q=>t σ H λx H'=>∃ k,x=.bl k/\Q k H'
theorem aM (ho:me X (compareOp op) r) (ha:PE X a ta) (hb:PE X b tb) (hm:behindInMarks op b=false):PT X (.Compare a [op] [b] pos) (G8 (K3 r ta tb)):=by
 intro pins s σ H Q I h;refine wpAny_isTrue_Compare1 (cA (ha pins s σ H _ I h) λv s1 ⟨x,H1,I1,r1,q1⟩=>cA (hb pins s1 σ H1 _ I1 q1) λu s2 ⟨y,H2,I2,r2,q2⟩=>
  cA (ho pins s2 σ H2 x y v u _ I2 r1 r2 q2) λc s3 ⟨z,H3,I3,r3,k,e,q3⟩=>?_) hm
 subst e;cases r3
 exact zbs ⟨H3,I3,q3⟩
theorem nY:(sizeLine:Nat)<2 ^ 63:=by rw [zbf];decide
theorem vals1 (r:Vals [x] us):∃ u,us=[u]/\RelV x u:=by
 cases r with
 | cons r1 r2=>cases r2;exact ⟨_,rfl,r1⟩
theorem vals2 (r:Vals [x,y] us):∃ u w',us=[u,w']/\RelV x u/\RelV y w':=by
 cases r with
 | cons r1 r2=>
  cases r2 with
  | cons r3 r4=>cases r4;exact ⟨_,_,rfl,r1,r3⟩
theorem gG:cR X (.builtin "abs") (λxs H Q=>∃ i,xs=[.int i]/\Q (.int (if i<0 then -i else i)) H):=by
 intro pins s σ H xs us Q I r h;obtain ⟨i,rfl,q⟩:=h;obtain ⟨u,rfl,t,rfl⟩:=vals1 r;exact call_abs_int λu tk=>⟨.int (if i<0 then -i else i),H,I.tok _,⟨_,rfl⟩,q⟩
theorem Bg (hc:X.calm=true):cR X (.builtin "max") (λxs H Q=>∃ i j,xs=[.int i,.int j]/\Q (.int (if j > i then j else i)) H):=by
 intro pins s σ H xs us Q I r h;obtain ⟨i,j,rfl,q⟩:=h;obtain ⟨u,w',rfl,⟨t,rfl⟩,⟨t',rfl⟩⟩:=vals2 r;refine max_two_ints (I.ok.hd hc) λh' tk k=>⟨_,H,I.kept k,?_,q⟩;by_cases hj:j > i
 ·rw [ZW hj,ZW hj];exact ⟨_,rfl⟩
 ·rw [ZU hj,ZU hj];exact ⟨_,rfl⟩
theorem rC (hc:X.calm=true):cR X (.builtin "min") (λxs H Q=>∃ i j,xs=[.int i,.int j]/\Q (.int (if j<i then j else i)) H):=by
 intro pins s σ H xs us Q I r h;obtain ⟨i,j,rfl,q⟩:=h;obtain ⟨u,w',rfl,⟨t,rfl⟩,⟨t',rfl⟩⟩:=vals2 r;refine min_two_ints (I.ok.hd hc) λh' tk k=>⟨_,H,I.kept k,?_,q⟩;by_cases hj:j<i
 ·rw [ZW hj,ZW hj];exact ⟨_,rfl⟩
 ·rw [ZU hj,ZU hj];exact ⟨_,rfl⟩
def Of (K:ZB) (x:V) (H:Hp) (n:Nat):Prop:=
 match x with
 | .str y=>y.length<=sizeLine/\n=y.length
 | .Bk y=>y.size<=sizeLine/\n=y.size
 | .ref p=>(∃ xs,aH K H p xs/\n=xs.length)\/∃ xs,SqT K H p xs/\n=xs.length
 | _=>False
theorem bJ:cR X (.builtin "len") (λxs H Q=>∃ x n,xs=[x]/\Of X.K x H n/\Q (.int n) H):=by
 intro pins s σ H xs us Q I r h;obtain ⟨x,n,rfl,e,q⟩:=h;obtain ⟨u,rfl,rx⟩:=vals1 r;have hl:=nY;have hs:sizeLine=16777216:=zbf;cases x with
 | str y=>
  obtain ⟨t,rfl⟩:=rx;obtain ⟨hy,e'⟩:y.length<=sizeLine/\n=y.length:=e;subst e';exact len_str (by omega) ⟨.int _,H,I.tok _,⟨_,rfl⟩,q⟩
 | Bk y=>
  obtain ⟨t,rfl⟩:=rx;obtain ⟨hy,e'⟩:y.size<=sizeLine/\n=y.size:=e;subst e';exact PySem.W.len_bytes (by omega) ⟨.int _,H,I.tok _,⟨_,rfl⟩,q⟩
 | ref p=>
  cases rx
  have e':(∃ xs,aH X.K H p xs/\n=xs.length)\/∃ xs,SqT X.K H p xs/\n=xs.length:=e;rcases e' with ⟨xs,hx,e'⟩|⟨xs,hx,e'⟩
  ·subst e';obtain ⟨aJ,r',pl,hz⟩:=I.list hx;have hlen:=r'.length;exact Calls.call_len_list pl.isList (by simp only [Z8];omega) ⟨.int xs.length,H,I.tok _,⟨_,by simp only [Z8];rw [hlen]⟩,q⟩
  ·subst e';obtain ⟨aJ,r',pl,hz⟩:=I.tuple hx;have hlen:=r'.length;exact len_tuple pl (by simp only [Z8];omega) ⟨.int xs.length,H,I.tok _,⟨_,by simp only [Z8];rw [hlen]⟩,q⟩
 | _=>exact (show False from e).elim
structure KU (h:Heap) (x dx C:Addr) (mA:W1):Prop where
 obj:h.get? x=some (PySem.W.instObj C dx)
 ns:h.Ns1 dx mA
 ne:dx≠x
theorem Ay {h:Heap} {mA:W1} (n:h.Ns1 dx mA):∃ od,h.get? dx=some od/\∀ name,PySem.W.lookIn name od=some (mA name):=by
 obtain ⟨o,es,ep,ho,hd,hk,_,hm⟩:=n;refine ⟨o,ho,λname=>?_⟩;have e:=hm name;unfold nsFind findBy at e;rw [<-Array.find?_toList] at e;unfold PySem.W.lookIn;rw [hd];dsimp only;split
 ·rename_i y q;rw [q] at e;exact zaO some e
 ·rename_i q;rw [q] at e;have a:es.toList.any (·.refKey)=false:=by
   rw [any_eq_false];intro y hy;obtain ⟨z,t,JW⟩:=hk y (zcL.mp hy);simp [DictEntry.refKey,JW]
  have a':¬es.toList.any (·.refKey)=true:=by rw [a];exact zae
  rw [ZU a'];exact zaO some e
theorem KU.look (I:KU h x dx C mA):∃ od,PySem.W.InstAt h x (PySem.W.instObj C dx) C (some od)/\∀ name,PySem.W.lookIn name od=some (mA name):=
 let ⟨od,ho,hl⟩:=Ay I.ns
 ⟨od,⟨I.obj,rfl,rfl,ho⟩,hl⟩
theorem o6.some_of (r:o6 (some v) o):∃ u,o=some u/\RelV v u:=by
 cases o with
 | none=>exact (show False from r).elim
 | some u=>exact ⟨u,rfl,r⟩
theorem F6 (aZ:hX P w H h) (e:H a=some (.ins C dx fs)):∃ mA,KU h a dx C mA/\(∀ f,o6 (fs.lookup f) (mA f))/\PySem.Within mA (fs.map (·.1))/\fs.length<=1000/\H dx=some (.own a):=by
 obtain ⟨d,z,ne,ob,mA,n,r,q⟩:=(show aW P w H h a (.ins C dx fs) from aZ a _ e);exact ⟨mA,⟨ob,n,ne⟩,r,q,z,d⟩
structure SG (K:ZB) (C:Addr):Prop where
 pg:PySem.W.plainGet K C Str.empty=true
 hd:PySem.W.hasDictIn K C=true
 po:PySem.W.plainOver K C=true
 sa:PySem.W.findIn K (.ref C) "__setattr__"=some (some (.builtin "object.__setattr__"))
theorem SG.get {K:ZB} {C:Addr} (c:SG K C) (f:Str):PySem.W.plainGet K C f=true:=c.pg
section
variable {X:Cx} {pins:WF} {σ:St} {H:Hp} {s:Shared} {A:Around} {E:WP} {Q:WP} {c:Value} {b:Bool}
inductive kd (K:ZB) (H:Hp):V->Value->Prop where
 | gn:kd K H .gn (.type "NoneType")
 | bl (x:Bool):kd K H (.bl x) (.type "bool")
 | int (i:Int):kd K H (.int i) (.type "int")
 | str (x:Str):kd K H (.str x) (.type "str")
 | EB (x:UInt64):kd K H (.EB x) (.type "float")
 | lst {a:Addr} {xs:List V} (e:H a=some (.lst xs)):kd K H (.ref a) (.type "list")
 | iO {a:Addr} {o:Obj} {xs:List V} (e:H a=some (.iO o (.lst xs))):kd K H (.ref a) (.type "list")
 | tup {a:Addr} {xs:List V} (e:H a=some (.tup xs)):kd K H (.ref a) (.type "tuple")
 | dK {a:Addr} {kvs:List (Key×V)} (e:H a=some (.dK kvs)):kd K H (.ref a) (.type "dict")
 | dT {a:Addr} {kvs:List (List Key×V)} (e:H a=some (.dT kvs)):kd K H (.ref a) (.type "dict")
 | ins {a C dx:Addr} {fs:List (Str×V)} (e:H a=some (.ins C dx fs)) (cl:SG K C) (ha:PySem.W.findIn K (.ref C) "__class__"=some (some (.builtin "object.__class__")))
   (hn:PySem.W.specialIn K (.builtin "object.__class__") "__get__"=some (some (.builtin "getset_descriptor.__get__"))) (OR:PySem.W.takesIn K (.builtin "object.__class__")=some true)
   (hm:PySem.W.mroIn K C (.type "object")=some true):kd K H (.ref a) (.ref C)
theorem AH (I:Inv X pins σ H s) (rx:RelV x u) (ty:kd X.K H x t) (e:PySem.W.kitOne X.K t c=some b) (h:∀ tk,Q (.bool b) { s with toks:=tk }) :
  wpAny (model X.prog X.w) A (call (.builtin "isinstance") [u,c]) Q E s:=by
 cases ty with
 | gn=>cases (show u=Value.none from rx);exact zbo PySem.W.kitx_none I.oB True.intro e (λz=>nomatch z) h
 | bl y=>cases (show u=Value.bool y from rx);exact zbo PySem.W.kitx_bool I.oB True.intro e (λz=>nomatch z) h
 | int i=>obtain ⟨t,q⟩:=(show ∃ t,u=Value.int i t from rx);cases q;exact zbo PySem.W.kitx_int I.oB True.intro e (λz=>nomatch z) h
 | str y=>obtain ⟨t,q⟩:=(show ∃ t,u=Value.str y t from rx);cases q;exact zbo PySem.W.kitx_str I.oB True.intro e (λz=>nomatch z) h
 | EB y=>obtain ⟨t,q⟩:=(show ∃ t,u=Value.float y t from rx);cases q;exact zbo PySem.W.kitx_float I.oB True.intro e (λz=>nomatch z) h
 | @lst a xs ea=>
  cases (show u=Value.ref a from rx)
  obtain ⟨_,_,n,_,h1⟩:=(show aW X.prog X.w H s.heap a (.lst xs) from I.aZ a _ ea);exact zbo PySem.W.kitx_list I.oB ⟨_,h1,rfl⟩ e (λz=>nomatch z) h
 | @iO a ob xs ea=>
  cases (show u=Value.ref a from rx)
  obtain ⟨_,_,_,n,_,h1⟩:=(show aW X.prog X.w H s.heap a (.iO ob (.lst xs)) from I.aZ a _ ea);exact zbo PySem.W.kitx_list I.oB ⟨_,h1,rfl⟩ e (λz=>nomatch z) h
 | @tup a xs ea=>
  cases (show u=Value.ref a from rx)
  obtain ⟨_,_,_,p⟩:=(show aW X.prog X.w H s.heap a (.tup xs) from I.aZ a _ ea);obtain ⟨o,h1,h2,_⟩:=p;exact zbo PySem.W.kitx_tuple I.oB ⟨o,h1,h2⟩ e (λz=>nomatch z) h
 | @dK a kvs ea=>
  cases (show u=Value.ref a from rx)
  obtain ⟨_,_,vs,_,p⟩:=(show aW X.prog X.w H s.heap a (.dK kvs) from I.aZ a _ ea);obtain ⟨o,es,ep,h1,h2,_⟩:=p;exact zbo PySem.W.kitx_dict I.oB ⟨o,h1,h2.1⟩ e (λz=>nomatch z) h
 | @dT a kvs ea=>
  cases (show u=Value.ref a from rx)
  obtain ⟨_,_,xs,_,o,es,ep,h1,h2,_⟩:=(show aW X.prog X.w H s.heap a (.dT kvs) from I.aZ a _ ea);exact zbo PySem.W.kitx_dict I.oB ⟨o,h1,h2.1⟩ e (λz=>nomatch z) h
 | @ins a C dx fs ea cl ha hn OR hm=>
  cases (show u=Value.ref a from rx)
  obtain ⟨mA,O,_⟩:=F6 I.aZ ea;obtain ⟨od,J,_⟩:=O.look;exact zbo (PySem.W.kitx_own (cl.get _) cl.hd ha hn OR hm) I.oB J e (λz=>nomatch z) h
end
structure df (k:Nat) (A:Around):Prop where
 hd:A.handled=none
 dp:A.depth+3*k+5<recursionLimit
 un:A.units+16*k+200<cLine
theorem df.mono (r:df k A) (h:j<=k):df j A:=⟨r.hd,by have:=r.dp;omega,by have:=r.un;omega⟩
theorem df.deeper (r:df (k+1) A) (env:Env):df k (A.deeper env):=
 ⟨r.hd,by have:=r.dp;show A.depth+1+3*k+5<_;omega,by have:=r.un;show A.units+3+16*k+200<_;omega⟩
theorem df.in1 (r:df (k+1) A):df k A.in1:=
 ⟨r.hd,by have:=r.dp;show A.depth+3*k+5<_;omega,by have:=r.un;show A.units+1+16*k+200<_;omega⟩
theorem df.depth (r:df k A):A.depth<recursionLimit:=by have:=r.dp;omega
theorem df.units (r:df k A):A.units+64<cLine:=by have:=r.un;omega
def zZ:TA:=λ_ H Q=>Q [] H
def mU (ta:TE) (tr:TA):TA:=λσ H Q=>ta σ H λx H1=>tr σ H1 λxs H2=>Q (x::xs) H2
theorem ag:PA X [] zZ:=λ_ _ _ _ H Q I h=>zds ⟨[],H,I,.nil,h⟩
theorem aa (ha:PE X e te) (hr:PA X es t) (hs:starEach (e::es) X.env=(false,eval e X.env)::starEach es X.env:=by rfl):PA X (e::es) (mU te t):=by
 intro pos pins s σ H Q I h;rw [hs];show wpAny _ _ (spliced ((false,eval e X.env)::backTo pos (starEach es X.env))) _ _ s;refine zdi (cA (ha pins s σ H _ I h) λu s1 ⟨x,H1,I1,r1,q1⟩=>?_);exact cA (hr pos pins s1 σ H1 _ I1 q1) λus s2 ⟨xs,H2,I2,r2,q2⟩=>⟨x::xs,H2,I2,.cons r1 r2,q2⟩
def ID (t:TA):TE:=λσ H Q=>t σ H λxs H1=>xs.length<=sizeLine/\∀ p,H1 p=none->Q (.ref p) (upd H1 p (.tup xs))
def LW (t:TA):TE:=λσ H Q=>t σ H λxs H1=>xs.length<=sizeLine/\∀ p,H1 p=none->Q (.ref p) (upd H1 p (.lst xs))
theorem dq {x1} (h:PA X es t):PE X (.Tuple es x1 pos) (ID t):=by
 intro pins s σ H Q I hq;refine wpAny_Tuple_spliced (cA (h pos pins s σ H _ I hq) λus s1 ⟨xs,H1,I1,r,z,q⟩=>⟨by rw [<-r.length];exact z,?_⟩);have hf:H1 s1.heap.objs.size=none:=I1.aZ.fresh (ZQ _);refine ⟨.ref s1.heap.objs.size,upd H1 s1.heap.objs.size (.tup xs),I1.laid (t':=s1.toks) (λb u e=>ZN _ e) (ZQ _) ?_,rfl,q _ hf⟩;exact ⟨z,us,r,⟨_,Z3 _ rfl,rfl,_,rfl⟩⟩
theorem cu (h:PA X es t):PE X (.List es pos) (LW t):=by
 intro pins s σ H Q I hq;refine wpAny_List_spliced (cA (h pos pins s σ H _ I hq) λus s1 ⟨xs,H1,I1,r,z,q⟩=>⟨by rw [<-r.length];exact z,?_⟩);have hf:H1 s1.heap.objs.size=none:=I1.aZ.fresh (ZQ _);refine ⟨.ref s1.heap.objs.size,upd H1 s1.heap.objs.size (.lst xs),I1.laid (t':=s1.toks) (λb u e=>ZN _ e) (ZQ _) ?_,rfl,q _ hf⟩;exact ⟨z,us,0,r,Z3 _ rfl⟩
abbrev Sp:=List V->Hp->VK->XK->Prop
abbrev xU:=List Env->Hp->Shared->XK->Value->Shared->Prop
structure KZ (P:Program) (w:World) (K:ZB) (mg:W1) (base:Heap) (A:Around) (outer:List Env) (s:Shared) (H:Hp):Prop where
 frames:A.frames=some outer
 mod:Mod K mg base
 bs:∀ b o,base.get? b=some o->s.heap.get? b=some o/\H b=none
 GF:base.objs.size<=s.heap.objs.size
 k9:s.heap.FunFrames base outer
 Kj:∀ b∈hW outer,H b=none
 aZ:hX P w H s.heap
 bare:AllBare s.gens
def CE (outer:List Env) (P:Program) (w:World) (H:Hp) (s:Shared) (Q:VK) (u:Value) (s':Shared):Prop:=
 ∃ v H',s'.os=s.os/\AllBare s'.gens/\Un (hW outer) [] H H' s.heap s'.heap/\hX P w H' s'.heap/\RelV v u/\Q v H'
def CR (CX:xU) (outer:List Env) (P:Program) (w:World) (H:Hp) (s:Shared) (Q:VK) (E:XK) (r:Result) (s':Shared):Prop:=
 match r with
 | .ok (.ret u)=>CE outer P w H s Q u s'
 | .ok _=>False
 | .error e=>CX outer H s E e s'
structure qA (P:Program) (w:World) (K:ZB) (mg:W1) (base:Heap) (CX:xU) (k:Nat) (f:Addr) (fd:FuncData) (ps:List Str) (sp:Sp):Prop where
 len:∀ vs H Q E,sp vs H Q E->vs.length=ps.length
 run:∀ (A:Around) (outer:List Env) (s:Shared) (H:Hp) (args:Args) (us:XV) (vs:List V) (Q:VK) (E:XK),df k A->KZ P w K mg base A outer s H->BindsTo s fd args (ps.zip us)->Vals vs us->sp vs H Q E->
  codeAny (model P w) A (.call (.ref f) args) (CR CX outer P w H s Q E) s
section
variable {X:Cx} {pins:WF} {σ:St} {H:Hp} {s s':Shared}
theorem Inv.NM (I:Inv X pins σ H s):KZ X.prog X.w X.K X.mg X.base X.A X.stack s H:=
 ⟨I.ok.frames,I.ok.mod,I.bs,zag I.ok.GF I.sz,I.stack,I.mC,I.aZ,I.bare⟩
theorem Inv.after (I:Inv X pins σ H s) (h:CE X.stack X.prog X.w H s Q u s'):EP X pins σ Q u s':=by
 obtain ⟨v,H',os,bare,un,aZ,r,q⟩:=h;obtain ⟨hh,g,d,t,Qp⟩:=s';obtain rfl:Qp=s.os:=os;exact ⟨v,H',I.call (h':=hh) (g':=g) (d':=d) (t':=t) (ch:=[]) un aZ bare (λb z=>absurd z (by simp)),r,q⟩
end
def ya (sp:Sp) (HW:List V) (E:XK) (t:TA):TE:=λσ H Q=>t σ H λvs H1=>sp (vs++HW) H1 Q E
def Binds (K:ZB) (fd:FuncData) (ps:List Str) (ds:XV):Prop:=
 ∀ (s:Shared) (us:XV),K.In s.heap->(us++ds).length=ps.length->BindsTo s fd ⟨us,[]⟩ (ps.zip (us++ds))
theorem Binds.all {K:ZB} {fd:FuncData} {ps:List Str} (h:∀ us:XV,us.length=ps.length->bindArgs fd ⟨us,[]⟩=pure (ps.zip us)):Binds K fd ps []:=λs us _ hl=>by
 rw [zbr] at hl ⊢;exact .of_eq (h us hl)
def Passes (CX:xU) (X:Cx) (E:XK):Prop:=∀ (pins:WF) (σ:St) (H:Hp) (s:Shared) (e:Value) (s':Shared),Inv X pins σ H s->CX X.stack H s E e s'->X.xe e s'
section
variable {X:Cx} {CX:xU} {k:Nat} {f C:Addr} {fd:FuncData} {ps:List Str} {sp:Sp} {HW:List V} {ds:XV} {E:XK} {x m:Str} {p pos apos:Pos} {e o:Expr} {es:List Expr} {ta:TE} {t:TA}
theorem IM {σ:St} {s:Shared} (F:qA X.prog X.w X.K X.mg X.base CX k f fd ps sp) (hr:df k X.A) (hb:Binds X.K fd ps ds) (hd:Vals HW ds) (hx:Passes CX X E)
  (I:Inv X pins σ H s) (r:Vals vs us) (h:sp (vs++HW) H Q E):wpAny (model X.prog X.w) X.A (call (.ref f) us) (EP X pins σ Q) X.xe s:=by
 have r2:Vals (vs++HW) (us++ds):=r.append hd;have hl:(us++ds).length=ps.length:=by rw [<-r2.length];exact F.len _ _ _ _ h
 refine wpAny_call (zcR (F.run X.A X.stack s H ⟨us,[]⟩ (us++ds) (vs++HW) Q E hr I.NM (hb s us I.oB hl) r2 h) λr s' hq=>?_);cases r with
 | error e=>exact hx pins σ H s e s' I hq
 | ok fl=>
  cases fl with
  | ret u=>exact I.after hq
  | next=>exact False.elim hq
  | brk=>exact False.elim hq
  | cont=>exact False.elim hq
theorem FA (F:qA X.prog X.w X.K X.mg X.base CX k f fd ps sp) (hr:df k X.A) (hg:Gl X x) (hm:X.mg x=some (.ref f)) (hk:PySem.W.keepIn X.K (.ref f)=true) (hb:Binds X.K fd ps ds) (hd:Vals HW ds) (hx:Passes CX X E)
  (ha:PA X (e::es) t) (vC:(x==("__debug__":Str))=false:=by decide) (he:starEach (e::es) X.env=(false,eval e X.env)::starEach es X.env:=by rfl) (lK:(backTo pos (starEach es X.env)).any (·.1)=false:=by rfl) :
  PE X (.Call (.Name x p) (e::es) [] pos) (ya sp HW E t):=by
 intro pins s σ H Q I h;refine zcc (i5 I hg hm ?_ vC);refine zej (h₀:=X.base) I.ok.mod.La hk (cA (ha pos pins s σ H _ I h) λus s1 ⟨vs,H1,I1,r,q⟩=>⟨I1.oB,?_⟩) he lK;exact IM F hr hb hd hx I1 r q
structure Mk (K:ZB) (C f:Addr):Prop where
 makes:PySem.W.makesIn K C=true
 init:PySem.W.findIn K (.ref C) "__init__"=some (some (.ref f))
 fn:PySem.W.isFn K (.ref f)=true
 kp:PySem.W.keepIn K (.ref C)=true
end
structure aI (N P:List Str) (sc:Scope):Prop where
 kind:sc.kind=.function
 co:sc.isCoroutine=false
 gen:sc.isGenerator=false
 nd:N.Nodup
 pre:N.take P.length=P
 par:∀ x∈P,sc.names.lookup x=some .local\/sc.names.lookup x=some .cell
 Js:∀ y∈sc.names,y.2≠.free
theorem rF {kindOf:Str->Option NameKind} {x:Str}:∀ {binds:List (Str×Value)} {m:W1},(∀ v,(x,v)∉binds)->bindL kindOf binds m x=m x
 | [],_,_=>rfl
 | (n,v)::r,m,h=>by
  unfold bindL;rw [rF λw hw=>h w (Z5 _ hw)];split
  ·have:x≠n:=by rintro rfl;exact h v zac
   simp [this]
  ·rfl
theorem rH {kindOf:Str->Option NameKind} {x:Str}:∀ {binds:List (Str×Value)} {m:W1},(∀ v,(x,v)∉binds)->bindC kindOf binds m x=m x
 | [],_,_=>rfl
 | (n,v)::r,m,h=>by
  unfold bindC;rw [rH λw hw=>h w (Z5 _ hw)];split
  ·rfl
  ·have:x≠n:=by rintro rfl;exact h v zac
   simp [this]
theorem rG {kindOf:Str->Option NameKind} {x:Str} {v:Value}:∀ {P:List Str} {vs:XV} {i:Nat} {m:W1},P.Nodup->P[i]?=some x->vs[i]?=some v->kindOf x=some .local->
  bindL kindOf (P.zip vs) m x=some v
 | [],_,_,_,_,h,_,_=>by simp at h
 | _::_,[],_,_,_,_,h,_=>by simp at h
 | p::P,w::vs,0,m,nd,h1,h2,hk=>by
  simp at h1 h2;subst h1;subst h2;show bindL kindOf ((p,w)::P.zip vs) m p=_;unfold bindL;rw [rF λv hv=>(zbp.mp nd).1 (of_mem_zip hv).1,ZW hk];simp
 | p::P,w::vs,i+1,m,nd,h1,h2,hk=>by
  show bindL kindOf ((p,w)::P.zip vs) m x=_;unfold bindL;exact rG (i:=i) (zbp.mp nd).2 (by simpa using h1) (by simpa using h2) hk
theorem rJ {kindOf:Str->Option NameKind} {x:Str} {v:Value}:∀ {P:List Str} {vs:XV} {i:Nat} {m:W1},P.Nodup->P[i]?=some x->vs[i]?=some v->kindOf x≠some .local->
  bindC kindOf (P.zip vs) m x=some v
 | [],_,_,_,_,h,_,_=>by simp at h
 | _::_,[],_,_,_,_,h,_=>by simp at h
 | p::P,w::vs,0,m,nd,h1,h2,hk=>by
  simp at h1 h2;subst h1;subst h2;show bindC kindOf ((p,w)::P.zip vs) m p=_;unfold bindC;rw [rH λv hv=>(zbp.mp nd).1 (of_mem_zip hv).1,ZU hk];simp
 | p::P,w::vs,i+1,m,nd,h1,h2,hk=>by
  show bindC kindOf ((p,w)::P.zip vs) m x=_;unfold bindC;exact rJ (i:=i) (zbp.mp nd).2 (by simpa using h1) (by simpa using h2) hk
def start (N:List Str) (vs:List V):St:=vs.map some++List.replicate (N.length-vs.length) none
def jy (CX:xU) (P:Program) (w:World) (K:ZB) (mg:W1) (base:Heap) (N:List Str) (qual:Str) (scope:Scope) (f:Addr) (cd:Value) (A:Around) (outer:List Env) (s:Shared) (H:Hp) (E:XK):Cx where
 prog:=P
 w:=w
 K:=K
 mg:=mg
 base:=base
 A:=A.deeper (envOfC qual scope s.heap.objs.size f cd)
 N:=N
 s₀:=s
 H₀:=H
 env:=envOfC qual scope s.heap.objs.size f cd
 outer:=outer
 stack:=envOfC qual scope s.heap.objs.size f cd::outer
 ex:=[]
 calm:=true
 fn:=λ_=>true
 pn:=[]
 xe:=λe s'=>wpAny (model P w) (A.deeper (envOfC qual scope s.heap.objs.size f cd)) (leaving (envOfC qual scope s.heap.objs.size f cd) e) (λ_ B9=>CX outer H s E e B9) (λe' B9=>CX outer H s E e' B9) s'
theorem vW {sc:Scope} {n:Nat} {x:Str} (h:sc.names.lookup x=some .cell):∃ c,(cellsFrom n sc.names []).lookup x=some c:=by
 have q:=PySem.W.cellsFrom_some sc.names n [] (.inl h);exact zaU.mp q
theorem AI {CX:xU} {P:Program} {w:World} {K:ZB} {mg:W1} {base:Heap} {N ps:List Str} {qual:Str} {scope:Scope} {f:Addr} {cd:Value} {A:Around} {outer:List Env} {s s1:Shared} {H:Hp} {E:XK} {us:XV} {vs:List V}
  (S:aI N ps scope) (hd:A.handled=none) (e0:KZ P w K mg base A outer s H) (hl:vs.length=ps.length) (r:Vals vs us)
  (x:InCallC s s.heap.objs.size (bindL (envOfC qual scope s.heap.objs.size f cd).kindOf (ps.zip us) λ_=>none) (cellsFrom (s.heap.objs.size+1) scope.names []) (bindC (envOfC qual scope s.heap.objs.size f cd).kindOf (ps.zip us) λ_=>none) s1) :
  Inv (jy CX P w K mg base N qual scope f cd A outer s H E) [] (start N vs) H s1:=by
 have lK:ps.length<=N.length:=by have:=zaO List.length S.pre;rw [Z9] at this;omega
 obtain ⟨h1,tk,rfl,hk⟩:=x.done;have QB:∀ b:Addr,b∉(jy CX P w K mg base N qual scope f cd A outer s H E).ex:=λb z=>absurd (show b∈([]:XL) from z) (by simp);refine ⟨⟨e0.mod,S.kind,rfl,rfl,ZQ _,λy z c h1 h2=>?_,λy hy=>?_,λy c _ h=>?_,λ_=>hd,Around.frames_deeper e0.frames,.inr ⟨rfl,rfl⟩,λb z=>absurd z (QB b),e0.bs,e0.GF,λb _ _=>QB b,λb z=>absurd z (QB b),e0.k9,e0.Kj⟩,
  rfl,e0.bare,Un.kept hk,⟨_,x.toInCall.ns,λi y v h1 h2 h3=>?_⟩,λy c h=>⟨_,x.cell y c h⟩,e0.aZ.fresh (ZQ _),λy c h=>?_,λp hp=>absurd (show p∈([]:WF) from hp) (by simp),e0.aZ.kept hk,?_⟩
 ·exact name_of_addr x.apart (zct h1) (zct h2)
 ·have hy:scope.names.lookup y=some .cell\/scope.names.lookup y=some .free:=hy;rcases hy with hy|hy
  ·exact vW hy
  ·exact absurd rfl (S.Js _ (zct hy))
 ·exact zaA (x.above y c (zct h))
 ·have hi:i<vs.length:=by
   unfold start at h2;by_cases hi:i<vs.length
   ·exact hi
   ·rw [Z2 (by simpa using hi)] at h2;rw [getElem?_replicate] at h2;split at h2<;>cases h2
  have ha:vs[i]?=some v:=by
   unfold start at h2;rw [Z0 (by simpa using hi),ZS] at h2;cases e:vs[i]? with
   | none=>rw [e] at h2;cases h2
   | some a=>rw [e] at h2;cases h2;rfl
  obtain ⟨u,hu,rv⟩:=r.get ha;have hp:ps[i]?=some y:=by
   rw [<-S.pre,zcY (by omega)];exact h1
  have TN:ps.Nodup:=by rw [<-S.pre];exact S.nd.sublist (take_sublist _ _)
  refine ⟨u,rv,?_⟩;rcases S.par y (ZX hp) with k|k
  ·exact .inl ⟨k,rG TN hp hu k⟩
  ·obtain ⟨c,e⟩:=vW (n:=s.heap.objs.size+1) k;refine .inr ⟨.inl k,c,e,?_⟩;have q:=x.cell y c e;rw [rJ TN hp hu (by show scope.names.lookup y≠_;rw [k];decide)] at q;exact q
 ·exact e0.aZ.fresh (zaA (x.above y c (zct h)))
 ·unfold start;show _=N.length;rw [ZV,ZK,length_replicate];omega
theorem zj {CX:xU} {P:Program} {w:World} {K:ZB} {mg:W1} {base:Heap} {k:Nat} {f:Addr} {name qual:Str} {params:Arguments} {body:List Stmt} {scope:Scope} {dV kV doc pm cz ct oc:Value} {an od:Option Addr}
  {Ao:Array (Option Value)} {N ps:List Str} {sp:Sp} (lk:K.lookup f=some ⟨oc,od,.func (PySem.W.fnOf name qual params body scope dV kV doc pm an cz ct),Ao⟩) (pW:PySem.W.codeIn K cz qual=true) (S:aI N ps scope)
  (len:∀ vs H Q E,sp vs H Q E->vs.length=ps.length)
  (gB:∀ (A:Around) (outer:List Env) (s:Shared) (H:Hp) (vs:List V) (Q:VK) (E:XK),df k (A.deeper (envOfC qual scope s.heap.objs.size f cz))->sp vs H Q E->
   ∃ t,tZ (jy CX P w K mg base N qual scope f cz A outer s H E) body t/\t { nx:=λ_ H'=>Q .gn H',rt:=Q } (start N vs) H) :
  qA P w K mg base CX (k+1) f (PySem.W.fnOf name qual params body scope dV kV doc pm an cz ct) ps sp:=by
 refine ⟨len,λA outer s H args us vs Q E hr e0 hb r wz=>?_⟩;have hl:=len _ _ _ _ wz;have KX:K.In s.heap:=e0.mod.La.keeps λb o e=>(e0.bs b o e).1;have lim:s.heap.NoLimit:=e0.mod.nolimit.keeps λb o e=>(e0.bs b o e).1;have Nd:∀ y∈ps.zip us,scope.names.lookup y.1=some .local\/(scope.names.lookup y.1=some .cell/\((cellsFrom (s.heap.objs.size+1) scope.names []).lookup y.1).isSome=true):=λ⟨n,v⟩ hy=>by
  rcases S.par n (of_mem_zip hy).1 with q|q
  ·exact .inl q
  ·exact .inr ⟨q,PySem.W.cellsFrom_some _ _ _ (.inl q)⟩
 refine codeAny_call_function hr.depth (KX _ _ lk) rfl S.co S.gen rfl (PySem.W.codeRec_of KX pW) (hb _ _ _ _ ?_);refine wpAny_newFunctionEnv_cells S.kind Nd λenv he s1 x=>?_;subst he;refine ⟨lim.keeps x.toInCall.keep,codeAny_func ?_⟩;obtain ⟨t,ht,hq⟩:=gB A outer s H vs Q E (hr.deeper _) wz;have I:Inv (jy CX P w K mg base N qual scope f cz A outer s H E) [] (start N vs) H s1:=AI S hr.hd e0 hl r x;refine zao (ht [] s1 (start N vs) H _ I hq) (λfl s' hs=>?_) λe s' hs=>hs;have fin:∀ {σ':St} {H':Hp} {v:V} {u:Value},Inv (jy CX P w K mg base N qual scope f cz A outer s H E) [] σ' H' s'->RelV v u->Q v H'->CE outer P w H s Q u s':=
  λ{σ' H' v u} J rv q=>⟨v,H',J.os,J.bare,J.base,J.aZ,rv,q⟩
 cases fl with
 | ret u=>
  obtain ⟨v,σ',H',J,rv,q⟩:=hs;exact fin J rv q
 | next=>
  obtain ⟨σ',H',J,q⟩:=hs;exact fin (v:=V.gn) (u:=Value.none) J rfl q
 | brk=>
  obtain ⟨_,_,_,q⟩:=hs;exact False.elim q
 | cont=>
  obtain ⟨_,_,_,q⟩:=hs;exact False.elim q
section
variable {X:Cx} {x:Str} {p pos:Pos} {e:Expr} {es:List Expr} {t:TA} {id T:String} {r:List V->Hp->VK->Prop}
def Ov (r:List V->Hp->VK->Prop) (t:TA):TE:=λσ H Q=>t σ H λvs H1=>r vs H1 Q
theorem aG (hc:cR X (.builtin id) r) (hg:Gl X x) (hm:X.mg x=none) (hv:bootBuiltins x=some (.builtin id)) (ha:PA X (e::es) t) (hn:x≠ "__name__":=by decide) (vC:(x==("__debug__":Str))=false:=by decide)
  (he:starEach (e::es) X.env=(false,eval e X.env)::starEach es X.env:=by rfl) (lK:(backTo pos (starEach es X.env)).any (·.1)=false:=by rfl):PE X (.Call (.Name x p) (e::es) [] pos) (Ov r t):=by
 intro pins s σ H Q I h;refine zcc (eN I hg hm hv ?_ hn vC);exact PyProof.Rows.callWith_builtin1 (cA (ha pos pins s σ H _ I h) λus s1 ⟨vs,H1,I1,r1,q1⟩=>hc pins s1 σ H1 vs us Q I1 r1 q1) he lK
theorem eY (hc:cR X (.type T) r) (hg:Gl X x) (hm:X.mg x=none) (hv:bootBuiltins x=some (.type T)) (ha:PA X (e::es) t) (hn:x≠ "__name__":=by decide) (vC:(x==("__debug__":Str))=false:=by decide)
  (he:starEach (e::es) X.env=(false,eval e X.env)::starEach es X.env:=by rfl) (lK:(backTo pos (starEach es X.env)).any (·.1)=false:=by rfl):PE X (.Call (.Name x p) (e::es) [] pos) (Ov r t):=by
 intro pins s σ H Q I h;refine zcc (eN I hg hm hv ?_ hn vC);exact zaJ (cA (ha pos pins s σ H _ I h) λus s1 ⟨vs,H1,I1,r1,q1⟩=>hc pins s1 σ H1 vs us Q I1 r1 q1) he lK
end
end L2
namespace HT
open PySem PyProof.Rows
def Vq:Wp->Wp->Bool
 | [],[]=>false
 | [],_::_=>true
 | _::_,[]=>false
 | x::xs,y::ys=>if x=y then Vq xs ys else decide (x<y)
theorem fB (x y:Int) (xs ys:Wp):Vq (x::xs) (y::ys)=if x=y then Vq xs ys else decide (x<y):=rfl
theorem pT:Vq [] []=false:=rfl
theorem nZ (y:Int) (ys:Wp):Vq [] (y::ys)=true:=rfl
theorem n6 (x:Int) (xs:Wp):Vq (x::xs) []=false:=rfl
theorem DW (A:Around) (s:Shared) (a:Int) (t:Tok) (c:Int) (u:Tok):∃ e,SeqAt.EqAt A s (.int a t) (.int c u) e/\(e=true↔a=c):=
 ⟨(a==c),SeqAt.EqAt.int_int a t c u,by simp⟩
theorem Cm (A:Around) (s:Shared) (a:Int) (t:Tok) (c:Int) (u:Tok) (prog:Program) (w:World) (E:WP) (Q:WP) (h:Q (.bool (decide (a<c))) s) :
  wpAny (model prog w) A (richCompare .Lt (.int a t) (.int c u)) Q E s:=
 (PyProof.Rows.lt_int h:wpAny (model prog w) A (compareOp .Lt (.int a t) (.int c u)) Q E s)
def ui (n d:Nat):Option Int->Nat
 | none=>d
 | some v=>if v<0 then (v+(n:Int)).toNat else min v.toNat n
end HT
namespace L2
open PySem PySem.Spec PyProof.Rows
abbrev TO:=St->Hp->(Option Int->Hp->Prop)->Prop
def PO (X:Cx) (e:Option Expr) (t:TO):Prop:=
 ∀ (pins:WF) (s:Shared) (σ:St) (H:Hp) (Q:Option Int->Hp->Prop),Inv X pins σ H s->t σ H Q->
  wpAny (model X.prog X.w) X.A (evalPart e X.env) (λu s'=>∃ o H',Inv X pins σ H' s'/\IsPart u o/\Q o H') X.xe s
def iX:TO:=λ_ H Q=>Q none H
def qF (t:TE):TO:=λσ H Q=>t σ H λx H1=>∃ i,x=.int i/\Q (some i) H1
theorem intsAre_of:∀ {us:XV},Vals (ns.map V.int) us->IntsAre us ns:=by
 induction ns with
 | nil=>intro us r;rw [map_nil] at r;cases r;exact .nil
 | cons n ns ih=>
  intro us r;rw [zaX] at r;cases r with
  | cons r1 r2=>
   obtain ⟨t,e⟩:=r1;subst e;exact .cons n t (ih r2)
section
variable {te:TE} {lo hi:Option Expr} {tl th:TO}
theorem eV:PO X none iX:=by
 intro pins s σ H Q I h;rw [evalPart_none];exact ZR ⟨none,H,I,.none,h⟩
theorem eU (h:PE X e te):PO X (some e) (qF te):=by
 intro pins s σ H Q I hw;rw [evalPart_some];refine cA (h pins s σ H _ I hw) λu s1 ⟨x,H1,I1,r1,q1⟩=>?_;obtain ⟨i,rfl,q⟩:=q1;obtain ⟨t,rfl⟩:=r1;exact ⟨some i,H1,I1,.int i t,q⟩
def SA (X:Cx) (r:V->Option Int->Option Int->Hp->VK->Prop):Prop:=
 ∀ (pins:WF) (s:Shared) (σ:St) (H:Hp) (x:V) (v vl vu:Value) (lo hi:Option Int) (sl:Addr) (Q:VK),Inv X pins σ H s->RelV x v->s.heap.IsSliceOf sl vl vu .none->IsPart vl lo->IsPart vu hi->r x lo hi H Q->
  ∃ T id,typeLookup (.type T) "__getitem__"=pure (some (.builtin id))/\s.TypeIs v T/\wpAny (model X.prog X.w) X.A (getItem v (.ref sl)) (EP X pins σ Q) X.xe s
def K2 (r:V->Option Int->Option Int->Hp->VK->Prop) (te:TE) (tl th:TO):TE:=λσ H Q=>te σ H λx H1=>tl σ H1 λl H2=>th σ H2 λu H3=>r x l u H3 Q
theorem dH (hr:SA X r) (he:PE X e te) (hl:PO X lo tl) (hu:PO X hi th):PE X (.Subscript e (.Slice lo hi none p2) pos) (K2 r te tl th):=by
 intro pins s σ H Q I h;refine Subscript_ (cA (he pins s σ H _ I h) λv s1 ⟨x,H1,I1,r1,q1⟩=>?_);refine wpAny_Slice (cA (hl pins s1 σ H1 _ I1 q1) λvl s2 ⟨l,H2,I2,pl,q2⟩=>cA (hu pins s2 σ H2 _ I2 q2) λvu s3 ⟨u,H3,I3,pu,q3⟩=>?_);rw [evalPart_none];refine ZR ?_;have I4:Inv X pins σ H3 { s3 with heap:=s3.heap.push { cls:=.type "slice",data:=.fields #[vl,vu,.none] } }:=I3.kept (t':=s3.toks) λb ob q=>ZN _ q;obtain ⟨T,id,hT,ht,hg⟩:=hr pins { s3 with heap:=s3.heap.push { cls:=.type "slice",data:=.fields #[vl,vu,.none] } } σ H3 x v vl vu l u s3.heap.objs.size Q I4 r1 (Heap.IsSliceOf.new ..) pl pu q3;show wpAny (model X.prog X.w) X.A (subscriptTail e (.Slice lo hi none p2) v (.ref s3.heap.objs.size)) (EP X pins σ Q) X.xe { s3 with heap:=s3.heap.push { cls:=.type "slice",data:=.fields #[vl,vu,.none] } };exact tail_any (ops:=[.ref s3.heap.objs.size,v]) ht hT hg (by with_unfolding_all rfl)
def qh (xs:List V) (lo hi:Option Int):List V:=(xs.drop (HT.ui xs.length 0 lo)).take (HT.ui xs.length xs.length hi-HT.ui xs.length 0 lo)
theorem vU (xs:List V) (lo hi:Option Int):(qh xs lo hi).length<=xs.length:=by
 unfold qh;rw [Z9,zca];omega
end
def Es (n:Nat) (i:Int):Option Nat:=if 0<=i then (if i<n then some i.toNat else none) else if -(n:Int)<=i then some (i+n).toNat else none
def ja {α:Type} (xs:List α) (i:Int):Option α:=(Es xs.length i).bind λj=>xs[j]?
theorem yS (h:Es n i=some j):seqIndex? i n=some j/\j<n/\-(n:Int)<=i/\i<n:=by
 unfold Es at h;by_cases h0:0<=i
 ·rw [ZW h0] at h;by_cases h1:i<n
  ·rw [ZW h1] at h;have e:i.toNat=j:=ZO h;exact ⟨by rw [seqIndex_of h0 h1,e],by omega,by omega,h1⟩
  ·rw [ZU h1] at h;cases h
 ·rw [ZU h0] at h;by_cases h1 : -(n:Int)<=i
  ·rw [ZW h1] at h;have e:(i+n).toNat=j:=ZO h;exact ⟨by rw [seqIndex_neg (by omega) h1,e],by omega,h1,by omega⟩
  ·rw [ZU h1] at h;cases h
theorem zM {α:Type} {xs:List α} {i:Int} {v:α} (h:ja xs i=some v):∃ j,seqIndex? i xs.length=some j/\xs[j]?=some v/\j<xs.length/\-(xs.length:Int)<=i/\i<xs.length:=by
 unfold ja at h;cases e:Es xs.length i with
 | none=>rw [e] at h;cases h
 | some j=>
  rw [e] at h;obtain ⟨h1,h2,h3,h4⟩:=yS e;exact ⟨j,h1,h,h2,h3,h4⟩
theorem eA {α:Type} {xs:List α} {j:Nat} {v:α} (h:xs[j]?=some v):ja xs (j:Int)=some v:=by
 have hj:j<xs.length:=(ZL.mp h).1;have e:Es xs.length (j:Int)=some j:=by
  unfold Es;rw [ZW (by omega),ZW (by omega)];simp
 unfold ja;rw [e];exact h
def GQ (b:Expr):Prop:=∀ o i,subscripted b false o i=operate [o,i] (getItem o i)
def KW (X:Cx) (r:R2):Prop:=
 ∀ (value slice:Expr) (pins:WF) (s:Shared) (σ:St) (H:Hp) (x y:V) (v u:Value) (Q:VK),Inv X pins σ H s->RelV x v->RelV y u->r x y H Q->
  subscripted slice false v u=operate [v,u] (getItem v u)->wpAny (model X.prog X.w) X.A (subscriptTail value slice v u) (EP X pins σ Q) X.xe s
def Oe (X:Cx) (id:String) (r:V->List V->Hp->VK->Prop):Prop:=
 ∀ (pins:WF) (s:Shared) (σ:St) (H:Hp) (x:V) (xs:List V) (v:Value) (us:XV) (Q:VK),Inv X pins σ H s->RelV x v->Vals xs us->r x xs H Q->
  wpAny (model X.prog X.w) X.A (call (.builtin id) (v::us)) (EP X pins σ Q) X.xe s
section
variable {X:Cx} {a b:Expr} {ta tb:TE} {pos:Pos}
theorem aB (hr:KW X r) (ha:PE X a ta) (hb:PE X b tb) (hs:GQ b):PE X (.Subscript a b pos) (K3 r ta tb):=by
 intro pins s σ H Q I h;exact Subscript_ (KL ha hb I h λv u s2 x y H2 I2 rx ry q=>hr a b pins s2 σ H2 x y v u Q I2 rx ry q (hs _ _))
def Fj (K:ZB):R2:=λx y H Q=>∃ p xs i v,x=.ref p/\y=.int i/\aH K H p xs/\ja xs i=some v/\Q v H
def Fi (K:ZB):R2:=λx y H Q=>∃ p xs i v,x=.ref p/\y=.int i/\SqT K H p xs/\ja xs i=some v/\Q v H
theorem au:KW X (Fj X.K):=by
 intro value slice pins s σ H x y v u Q I rx ry h hs;obtain ⟨p,xs,i,z,rfl,rfl,hq,he,q⟩:=h;cases rx
 obtain ⟨t,rfl⟩:=ry;obtain ⟨aJ,r,pl,hz⟩:=I.list hq;obtain ⟨j,h1,h2,h3,h4,h5⟩:=zM he;obtain ⟨w,ew,Ca⟩:=r.get h2;have hl:=r.length;have hn:=nY;have fin:EP X pins σ Q w s:=⟨z,H,I,Ca,q⟩;by_cases h0:0<=i
 ·have hj:i.toNat=j:=by
   rw [seqIndex_of h0 h5] at h1;exact ZO h1
  exact item_listR pl.isList h0 (by omega) (by rw [hj];simpa using ew) fin hs
 ·have hj:(i+(aJ.toArray.size:Int)).toNat=j:=by
   rw [seqIndex_neg (by omega) h4] at h1;rw [Z8,<-hl];exact ZO h1
  exact subscriptTail_builtinR (x:=w) pl.isList.typeIs slot_list_getitem.lookup
   (wpAny_getItem_list_neg (Q:=λr s'=>r=w/\EP X pins σ Q r s') pl.isList (by omega) (by rw [Z8]<;>omega) (by omega) (by rw [hj];simpa using ew) ⟨rfl,fin⟩) hs
theorem c5:KW X (Fi X.K):=by
 intro value slice pins s σ H x y v u Q I rx ry h hs;obtain ⟨p,xs,i,z,rfl,rfl,hq,he,q⟩:=h;cases rx
 obtain ⟨t,rfl⟩:=ry;obtain ⟨aJ,r,pl,hz⟩:=I.tuple hq;obtain ⟨j,h1,h2,h3,h4,h5⟩:=zM he;obtain ⟨w,ew,Ca⟩:=r.get h2;have hl:=r.length;have hn:=nY;have fin:EP X pins σ Q w s:=⟨z,H,I,Ca,q⟩;exact subscriptTail_builtinR (x:=w) pl.typeIs slot_tuple_getitem.lookup
  (getItem_tuple (j:=j) (Q:=λr s'=>r=w/\EP X pins σ Q r s') pl (by omega) (by omega) (by rw [Z8,<-hl];exact h1) (by simpa using ew) ⟨rfl,fin⟩) hs
theorem xh (aJ:XV) (n j:Nat) (u:Value):Obj.mapSeq (·.setIfInBounds j u) { cls:=.type "list",data:=.seq aJ.toArray n }={ cls:=.type "list",data:=.seq (aJ.set j u).toArray n }:=by
 simp [Obj.mapSeq]
theorem Inv.lst {pins:WF} {σ:St} {H:Hp} {s:Shared} {p:Addr} {xs:List V} (I:Inv X pins σ H s) (h:H p=some (.lst xs)) :
  ∃ (aJ:XV) (n:Nat),Vals xs aJ/\s.heap.get? p=some { cls:=.type "list",data:=.seq aJ.toArray n }/\xs.length<=sizeLine:=by
 obtain ⟨z,aJ,n,r,e⟩:=I.aZ p _ h;exact ⟨aJ,n,r,e,z⟩
theorem Inv.Jy {pins:WF} {σ:St} {H:Hp} {s:Shared} {p:Addr} {xs ys:List V} {aJ its':XV} {n n':Nat} {f:Obj->Obj} (I:Inv X pins σ H s) (h:H p=some (.lst xs))
  (ho:s.heap.get? p=some { cls:=.type "list",data:=.seq aJ.toArray n }) (hf:f { cls:=.type "list",data:=.seq aJ.toArray n }={ cls:=.type "list",data:=.seq its'.toArray n' }) (r:Vals ys its') (hz:ys.length<=sizeLine) (t:Nat) :
  Inv X pins σ (upd H p (.lst ys)) { s with heap:=s.heap.update p f,toks:=t }:=by
 have e:(s.heap.update p f).get? p=some { cls:=.type "list",data:=.seq its'.toArray n' }:=by
  rw [zaM f ho (by rw [hf]<;>rfl),hf]
 refine I.write (x:=p) (e:=p) (by rw [h];trivial) (.inl rfl) (λb u hb q=>(zaQ _ _ (zaD hb)).trans q) ⟨_,e⟩ ?_;exact ⟨hz,its',n',r,e⟩
def Mn:V->V->V->Hp->(Hp->Prop)->Prop:=λo i v H Q=>∃ p xs k j,o=.ref p/\i=.int k/\H p=some (.lst xs)/\Es xs.length k=some j/\Q (upd H p (.lst (xs.set j v)))
theorem set_list:Oa X Mn:=by
 intro pins s σ H o i v ov iv u Q I ro ri rv h;obtain ⟨p,xs,k,j,rfl,rfl,hp,hj,q⟩:=h;cases ro
 obtain ⟨t,rfl⟩:=ri;obtain ⟨aJ,n,r,ho,hz⟩:=I.lst hp;obtain ⟨h1,h2,h3,h4⟩:=yS hj;have hl:=r.length;have hn:=nY;have I':Inv X pins σ (upd H p (.lst (xs.set j v))) { s with heap:=s.heap.update p (Obj.mapSeq (·.setIfInBounds j u)) }:=
  I.Jy hp ho (xh aJ n j u) (r.set rv j) (by rw [length_set];exact hz) s.toks
 by_cases h0:0<=k
 ·have hk:k.toNat=j:=by
   rw [seqIndex_of h0 h4] at h1;exact ZO h1
  exact PySem.W.ki_setAt ho h0 (by omega) (by rw [Z8,<-hl];exact h4) (by rw [hk];exact ⟨_,I',q⟩)
 ·have hk:(k+(aJ.toArray.size:Int)).toNat=j:=by
   rw [seqIndex_neg (by omega) h3] at h1;rw [Z8,<-hl];exact ZO h1
  exact PySem.W.ki_setBack ho (by omega) (by rw [Z8,<-hl];exact h3) (by omega) (by rw [hk];exact ⟨_,I',q⟩)
theorem rZ (lo hi:Option Int) (n:Nat):(sliceBounds lo hi none n).1=((HT.ui n 0 lo:Nat):Int)/\(sliceBounds lo hi none n).2.1=((HT.ui n n hi:Nat):Int)/\(sliceBounds lo hi none n).2.2=1:=by
 refine ⟨?_,?_,rfl⟩
 ·cases lo with
  | none=>simp [sliceBounds,HT.ui]
  | some i=>
   simp only [sliceBounds,HT.ui,Option.getD_none,show (1:Int) > 0 by decide,zee];by_cases h:i<0
   ·simp only [h,zee]<;>omega
   ·simp only [h,zch]<;>omega
 ·cases hi with
  | none=>simp [sliceBounds,HT.ui]
  | some i=>
   simp only [sliceBounds,HT.ui,Option.getD_none,show (1:Int) > 0 by decide,zee];by_cases h:i<0
   ·simp only [h,zee]<;>omega
   ·simp only [h,zch]<;>omega
theorem pH (aJ:XV) (lo hi:Option Int):slicePick aJ.toArray lo hi none=((aJ.drop (HT.ui aJ.length 0 lo)).take (HT.ui aJ.length aJ.length hi-HT.ui aJ.length 0 lo)).toArray:=by
 obtain ⟨h1,h2,h3⟩:=rZ lo hi aJ.toArray.size;unfold slicePick;rw [h1,h2,h3];simp only [sliceRange_one,pick_run,Z8]<;>rfl
def wV (K:ZB):V->Option Int->Option Int->Hp->VK->Prop:=λx lo hi H Q=>∃ a xs,x=.ref a/\aH K H a xs/\∀ p,H p=none->Q (.ref p) (upd H p (.lst (qh xs lo hi)))
theorem iY:SA X (wV X.K):=by
 intro pins s σ H x v vl vu lo hi sl Q I rx hs pl pu h;obtain ⟨a,xs,rfl,hx,q⟩:=h;cases rx
 obtain ⟨aJ,r,ht,hz⟩:=I.list hx;have hlen:=r.length;refine ⟨"list",_,slot_list_getitem.lookup,ht.isList.typeIs,?_⟩;refine wpAny_getItem_list_slice ht.isList hs pl pu .none (by simp) ?_ (by rw [Z8]<;>omega);rw [pH,<-hlen];refine ⟨.ref s.heap.objs.size,_,I.laid (t':=s.toks) (o:=.lst (qh xs lo hi)) (λb ob q=>ZN _ q) (ZQ _) ?_,rfl,q _ (I.aZ.fresh (ZQ _))⟩;exact ⟨zag (vU xs lo hi) hz,_,0,(r.drop (HT.ui xs.length 0 lo)).take (HT.ui xs.length xs.length hi-HT.ui xs.length 0 lo),Z3 _ rfl⟩
theorem tU:cR X (.type "list") (λxs H Q=>∃ p ys,xs=[.ref p]/\(aH X.K H p ys\/SqT X.K H p ys)/\∀ l,H l=none->Q (.ref l) (upd H l (.lst ys))):=by
 intro pins s σ H xs us Q I r h;obtain ⟨p,ys,rfl,hq,q⟩:=h;obtain ⟨u,rfl,rx⟩:=vals1 r;cases rx
 have fin:∀ (aJ:XV),Vals ys aJ->ys.length<=sizeLine->∀ (h':Heap) (c':Nat),(∀ b o',s.heap.get? b=some o'->h'.get? b=some o')->
   h'.get? s.heap.objs.size=some { cls:=.type "list",dict:=none,data:=.seq aJ.toArray c',slots:=#[] }->EP X pins σ Q (.ref s.heap.objs.size) { s with heap:=h' }:=λaJ r' hz h' c' kp e=>
  ⟨.ref s.heap.objs.size,_,I.laid (t':=s.toks) kp (ZQ _) (show aW X.prog X.w _ h' _ (.lst ys) from ⟨hz,aJ,c',r',e⟩),rfl,q _ (I.aZ.fresh (ZQ _))⟩
 rcases hq with hq|hq
 ·obtain ⟨aJ,r',pl,hz⟩:=I.list hq;have hlen:=r'.length;obtain ⟨o,ho,hc,n,hd⟩:=pl.isList;exact call_list_seq p (.inl rfl) ho hc hd (λh' c' kp e=>fin aJ r' hz h' c' kp e) (by simp only [Z8]<;>omega)
 ·obtain ⟨aJ,r',pl,hz⟩:=I.tuple hq;have hlen:=r'.length;obtain ⟨o,ho,hc,n,hd⟩:=pl;exact call_list_seq p (.inr rfl) ho hc hd (λh' c' kp e=>fin aJ r' hz h' c' kp e) (by simp only [Z8]<;>omega)
theorem jm:cR X (.type "tuple") (λxs H Q=>∃ p ys,xs=[.ref p]/\((aH X.K H p ys/\∀ l,H l=none->Q (.ref l) (upd H l (.tup ys)))\/(SqT X.K H p ys/\Q (.ref p) H))):=by
 intro pins s σ H xs us Q I r h;obtain ⟨p,ys,rfl,h⟩:=h;obtain ⟨u,rfl,rx⟩:=vals1 r;cases rx
 rcases h with ⟨hq,q⟩|⟨hq,q⟩
 ·obtain ⟨aJ,r',pl,hz⟩:=I.list hq;have hlen:=r'.length;refine call_tuple_list pl.isList (λh' kp=>?_) (by simp only [Z8]<;>omega);have I1:Inv X pins σ H { s with heap:=h' }:=I.kept (t':=s.toks) kp;have I2:Inv X pins σ (upd H h'.objs.size (.tup ys)) { s with heap:=h'.push { cls:=.type "tuple",data:=.seq aJ.toArray } }:=
   I1.laid (t':=s.toks) (λb o e=>ZN _ e) (ZQ _) (show aW X.prog X.w _ _ _ (.tup ys) from ⟨hz,aJ,r',IsTup.new _ _⟩)
  exact ⟨.ref h'.objs.size,_,I2,rfl,q _ (I1.aZ.fresh (ZQ _))⟩
 ·obtain ⟨aJ,r',pl,hz⟩:=I.tuple hq;exact call_tuple_same pl ⟨.ref p,H,I,rfl,q⟩
def LK (K:ZB) (T:String) (x:V) (H:Hp):Prop:=match x with
 | .str _=>T = "str"
 | .int _=>T = "int"
 | .ref p=>(T = "list"/\∃ xs,aH K H p xs)\/(T = "tuple"/\∃ o,K.lookup p=some o/\o.cls=.type "tuple"/\o.dict=none)\/
   (T = "dict"/\((∃ kvs,H p=some (.dK kvs))\/∃ kvs,H p=some (.dT kvs)))\/(T = "set"/\∃ S n,H p=some (.set S n))
 | _=>False
theorem BO {σ:St} {s:Shared} {T:String} (I:Inv X pins σ H s) (r:RelV x v) (ty:LK X.K T x H) :
  s.TypeIs v T/\∀ a,v=.ref a->∃ ob,s.heap.get? a=some ob/\ob.dict=none:=by
 cases x with
 | str z=>
  obtain ⟨t,rfl⟩:=r;cases (show T = "str" from ty)
  exact ⟨typeIs_str s z t,λ_ e=>nomatch e⟩
 | int i=>
  obtain ⟨t,rfl⟩:=r;cases (show T = "int" from ty)
  exact ⟨typeIs_int s i t,λ_ e=>nomatch e⟩
 | ref p=>
  cases r
  rcases ty with ⟨rfl,xs,hq⟩|⟨rfl,o,hk,hc,hd⟩|⟨rfl,hk⟩|⟨rfl,S,n,hk⟩
  ·obtain ⟨aJ,_,pl,_⟩:=I.list hq;refine ⟨pl.isList.typeIs,λa e=>?_⟩;cases e
   obtain ⟨o,n,e,c,hd,_⟩:=pl;exact ⟨o,e,hd⟩
  ·refine ⟨⟨o,I.oB p o hk,hc⟩,λa e=>?_⟩;cases e
   exact ⟨o,I.oB _ o hk,hd⟩
  ·have z:∃ o,s.heap.get? p=some o/\o.ExactDict:=by
    rcases hk with ⟨kvs,hk⟩|⟨kvs,hk⟩
    ·obtain ⟨_,_,_,_,o,_,_,e,ex,_⟩:=I.aZ p _ hk;exact ⟨o,e,ex⟩
    ·obtain ⟨_,_,_,_,o,_,_,e,ex,_⟩:=I.aZ p _ hk;exact ⟨o,e,ex⟩
   obtain ⟨o,e,ex⟩:=z;refine ⟨⟨o,e,ex.1⟩,λa e2=>?_⟩;cases e2
   exact ⟨o,e,ex.2.1⟩
  ·obtain ⟨o,_,_,_,e,ex,_⟩:=I.aZ p _ hk;refine ⟨⟨o,e,ex.1⟩,λa e2=>?_⟩;cases e2
   exact ⟨o,e,ex.2.1⟩
 | _=>exact False.elim ty
def L0 (K:ZB) (T:String) (r:V->List V->Hp->VK->Prop) (to:TE):TE:=λσ H Q=>to σ H λx H1=>LK K T x H1/\r x [] H1 Q
def PL (K:ZB) (T:String) (r:V->List V->Hp->VK->Prop) (to:TE) (t:TA):TE:=λσ H Q=>to σ H λx H1=>LK K T x H1/\t σ H1 λxs H2=>r x xs H2 Q
variable {o e:Expr} {es:List Expr} {to:TE} {t:TA} {name:Str} {apos gF:Pos} {T id:String} {r:V->List V->Hp->VK->Prop}
theorem CN (pa:PlainAttrs T) (slot:Slot T name id) (MT:typeOf (.builtin id)=pure (.type "method_descriptor")) (hm:Oe X id r) (ho:PE X o to)
  (vF:attributeBase o name X.env (eval o X.env)=eval o X.env:=by rfl) (vA:(apos.endLine==gF.line)=true:=by rfl):PE X (.Call (.Attribute o name apos) [] [] gF) (L0 X.K T r to):=by
 intro pins s σ H Q I h;refine wpAny_Call_method0_late vF vA (cA (ho pins s σ H _ I h) λv s1 ⟨x,H1,I1,r1,ty,q1⟩=>?_);obtain ⟨h1,h2⟩:=BO I1 r1 ty;exact ⟨T,id,pa,slot,MT,h1,h2,Calls.callWith_builtin rfl (PySem.evalArgs_none (hm pins s1 σ H1 x [] v [] Q I1 r1 .nil q1))⟩
theorem jg (pa:PlainAttrs T) (slot:Slot T name id) (MT:typeOf (.builtin id)=pure (.type "method_descriptor")) (hm:Oe X id r) (ho:PE X o to) (ha:PA X (e::es) t)
  (vF:attributeBase o name X.env (eval o X.env)=eval o X.env:=by rfl)
  (JZ:((backTo gF (starEach (e::es) X.env)).all (λx=>!x.1)&&(backToKw gF (keywordEach [] X.env)).all (λx=>x.1.isSome)
  &&decide ((e::es).length+([]:List Keyword).length+(if ([]:List Keyword).isEmpty then 0 else 1)<30))=true:=by rfl)
  (vA:(apos.endLine==gF.line)=true:=by rfl) (hs:starEach (e::es) X.env=(false,eval e X.env)::starEach es X.env:=by rfl) (xB:(backTo gF (starEach es X.env)).any (·.1)=false:=by rfl) :
  PE X (.Call (.Attribute o name apos) (e::es) [] gF) (PL X.K T r to t):=by
 intro pins s σ H Q I h;refine wpAny_Call_method_late vF JZ vA rfl (cA (ho pins s σ H _ I h) λv s1 ⟨x,H1,I1,r1,ty,q1⟩=>?_);obtain ⟨h1,h2⟩:=BO I1 r1 ty;refine ⟨T,id,pa,slot,MT,h1,h2,?_⟩;have hA:=ha gF pins s1 σ H1 _ I1 q1;rw [hs] at hA ⊢;refine Calls.callWith_builtin (by show (false || (backTo gF (starEach es X.env)).any (·.1))=false;rw [xB]<;>rfl) (Calls.evalArgs_plain ?_);exact cA hA λus s2 ⟨vs,H2,I2,r2,q2⟩=>hm pins s2 σ H2 x vs v us Q I2 r1 r2 q2
/- xs.append(e),list.index on a module's tuple .. are Oe facts of 06m -/
end
def Pl (X:Cx) (id:String) (r:V->List V->Hp->VK->Prop):Prop:=
 ∀ (pins:WF) (s:Shared) (σ:St) (H:Hp) (x:V) (xs:List V) (v:Value) (us:XV) (Q:VK),Inv X pins σ H s->RelV x v->Vals xs us->r x xs H Q->
  wpAny (model X.prog X.w) X.A (call (.builtin id) (v::us)) (EP X pins σ Q) X.xe s
theorem Vals.one:∀ {x:V} {us:XV},Vals [x] us->∃ u,us=[u]/\RelV x u
 | _,_,.cons r .nil=>⟨_,rfl,r⟩
theorem Vals.zero:∀ {us:XV},Vals [] us->us=[]
 | _,.nil=>rfl
theorem Vals.dropLast (h:Vals xs us):Vals xs.dropLast us.dropLast:=by
 induction h with
 | nil=>exact .nil
 | cons r t ih=>
  cases t with
  | nil=>exact .nil
  | cons q t'=>exact .cons r ih
theorem xI {α:Type} (l:List α):l.eraseIdx (l.length-1)=l.dropLast:=by
 induction l with
 | nil=>rfl
 | cons a r ih=>
  cases r with
  | nil=>rfl
  | cons b r=>
   have e:(a::b::r).length-1=((b::r).length-1)+1:=by
    have h1:(a::b::r).length=r.length+2:=rfl;have h2:(b::r).length=r.length+1:=rfl;omega
   rw [e,eraseIdx_cons_succ,ih]
   all_goals rfl
section
variable {X:Cx} {pins:WF} {σ:St} {H:Hp} {s:Shared} {l b:Addr} {xs ys zs:List V}
theorem Inv.Jz {aJ its':XV} {n:Nat} {f:Array Value->Array Value} {t':Nat} (I:Inv X pins σ H s) (hH:H l=some (.lst xs))
  (e:s.heap.get? l=some { cls:=.type "list",data:=.seq aJ.toArray n }) (hf:f aJ.toArray=its'.toArray) (hv:Vals ys its') (hz:ys.length<=sizeLine) :
  Inv X pins σ (upd H l (.lst ys)) { s with heap:=s.heap.update l (Obj.mapSeq f),toks:=t' }:=by
 have q:=PySem.IsL.update e f;rw [hf] at q;refine I.write (x:=l) (e:=l) (by rw [hH];exact trivial) (.inl rfl) (λb' u hb hu=>(zaQ s.heap (Obj.mapSeq f) (zaD hb)).trans hu) ⟨_,q⟩ ?_;exact ⟨hz,its',_,hv,q⟩
theorem Inv.QJ (I:Inv X pins σ H s) (hv:Vals ys aJ) (hz:ys.length<=sizeLine) :
  Inv X pins σ (upd H s.heap.objs.size (.lst ys)) { s with heap:=s.heap.push { cls:=.type "list",data:=.seq aJ.toArray },toks:=t' }:=
 I.laid (λ_ _ q=>ZN _ q) (ZQ _) ⟨hz,aJ,0,hv,Z3 _ rfl⟩
theorem Inv.fresh (I:Inv X pins σ H s):H s.heap.objs.size=none:=I.aZ.fresh (ZQ _)
theorem Inv.vd (I:Inv X pins σ H s) (hH:H l=some (.lst xs)):xs.length<=sizeLine/\∃ (aJ:XV) (n:Nat),Vals xs aJ/\xs.length=aJ.length/\s.heap.get? l=some { cls:=.type "list",data:=.seq aJ.toArray n }:=by
 obtain ⟨z,aJ,n,r,e⟩:=I.aZ l _ hH;exact ⟨z,aJ,n,r,r.length,e⟩
end
def yy:V->List V->Hp->VK->Prop:=λx vs H Q=>∃ l xs y,x=.ref l/\vs=[y]/\H l=some (.lst xs)/\xs.length<sizeLine/\Q .gn (upd H l (.lst (xs++[y])))
theorem cT:Pl X "list.append" yy:=by
 intro pins s σ H x vs v us Q I rx rv h;obtain ⟨l,xs,y,rfl,rfl,hH,hz,q⟩:=h;cases rx
 obtain ⟨u,rfl,ru⟩:=rv.one;obtain ⟨z,aJ,n,r,hl,e⟩:=I.vd hH;refine zel F.slot_list_append ⟨_,e,rfl⟩ F.entry_list_append (F.args_list_append_2 _ _) (PySem.list_append l aJ.toArray n u (by rw [Z8];omega)) ⟨e,?_⟩;refine ⟨.gn,_,I.Jz (its':=aJ++[u]) hH e (by simp) (r.append (.cons ru .nil)) ?_,rfl,q⟩;rw [ZV,zak];omega
def Qd:V->List V->Hp->VK->Prop:=λx vs H Q=>∃ l xs y,x=.ref l/\vs=[]/\H l=some (.lst xs)/\xs[xs.length-1]?=some y/\Q y (upd H l (.lst xs.dropLast))
theorem Jw:Pl X "list.pop" Qd:=by
 intro pins s σ H x vs v us Q I rx rv h;obtain ⟨l,xs,y,rfl,rfl,hH,hy,q⟩:=h;cases rx
 have QZ:=rv.zero;subst QZ;obtain ⟨z,aJ,n,r,hl,e⟩:=I.vd hH;obtain ⟨u,hu,ru⟩:=r.get hy;have yV:aJ.toArray[aJ.toArray.size-1]?=some u:=by
  show aJ.toArray[aJ.length-1]?=some u;rw [<-Array.getElem?_toList,<-hl];exact hu
 refine zel F.slot_list_pop ⟨_,e,rfl⟩ F.entry_list_pop (F.args_list_pop_1 _) (MeetsSeq.list_pop_last l aJ.toArray n u yV (by rw [Z8];omega)) ⟨e,?_⟩;refine ⟨y,_,I.Jz (its':=aJ.dropLast) hH e ?_ r.dropLast ?_,ru,q⟩
 ·show aJ.toArray.eraseIdxIfInBounds (aJ.toArray.size-1)=aJ.dropLast.toArray;rw [Z8,eraseIdxIfInBounds_toArray,xI]
 ·rw [length_dropLast];omega
def Jb:V->List V->Hp->VK->Prop:=λx vs H Q=>∃ l xs,x=.ref l/\vs=[]/\H l=some (.lst xs)/\Q .gn (upd H l (.lst []))
theorem C1:Pl X "list.clear" Jb:=by
 intro pins s σ H x vs v us Q I rx rv h;obtain ⟨l,xs,rfl,rfl,hH,q⟩:=h;cases rx
 have QZ:=rv.zero;subst QZ;obtain ⟨z,aJ,n,r,hl,e⟩:=I.vd hH;refine zel F.slot_list_clear ⟨_,e,rfl⟩ F.entry_list_clear (F.args_list_clear_1 _) (AutoSeq1.list_clear_list_0 l aJ.toArray n (by rw [Z8];omega)) ⟨e,?_⟩;exact ⟨.gn,_,I.Jz (its':=[]) (ys:=[]) hH e rfl .nil (Z7 _),rfl,q⟩
def Qf:R2:=λx y H Q=>∃ l b xs zs,x=.ref l/\y=.ref b/\H l=some (.lst xs)/\H b=some (.lst zs)/\xs.length+zs.length<=sizeLine/\∀ p,H p=none->Q (.ref p) (upd H p (.lst (xs++zs)))
theorem sH:me X (binaryOp .Add) Qf:=by
 intro pins s σ H x y v u Q I rx ry h;obtain ⟨l,b,xs,zs,rfl,rfl,hH,hB,hz,q⟩:=h;cases rx
 cases ry
 obtain ⟨z,aJ,n,r,hl,e⟩:=I.vd hH;obtain ⟨z2,JM,n2,r2,oC,e2⟩:=I.vd hB;refine PySem.P.add_list e e2 ?_ (by rw [Z8,Z8];omega);have ea:aJ.toArray++JM.toArray=(aJ++JM).toArray:=by simp
 rw [ea];exact ⟨.ref _,_,I.QJ (t':=s.toks) (r.append r2) (by rw [ZV];omega),rfl,q _ I.fresh⟩
section
variable {κ:Type} [DecidableEq κ]
def ie (kvs:List (κ×V)) (k:κ):Option V:=(kvs.find? λkv=>decide (kv.1=k)).map (·.2)
def V5 (kvs:List (κ×V)) (k:κ) (v:V):List (κ×V):=
 if (kvs.any λkv=>decide (kv.1=k))=true then kvs.map (λkv=>if kv.1=k then (kv.1,v) else kv) else kvs++[(k,v)]
theorem hZ {p:κ×V} {k:κ} (e:p.1=k):ie (p::r) k=some p.2:=by simp [ie,zem,e]
theorem ic {p:κ×V} {k:κ} (e:¬p.1=k):ie (p::r) k=ie r k:=by simp [ie,zem,e]
theorem jD (k:κ):∀ kvs:List (κ×V),(kvs.any λkv=>decide (kv.1=k))=(ie kvs k).isSome
 | []=>rfl
 | p::r=>by
  rw [any_cons];by_cases e:p.1=k
  ·simp only [hZ e,zad e,Bool.true_or,Option.isSome_some]
  ·rw [ic e,zah e,zdQ];exact jD k r
theorem fQ (kvs:List (κ×V)) (k:κ) (v:V):(V5 kvs k v).length<=kvs.length+1:=by
 unfold V5;split
 ·rw [ZK];omega
 ·rw [ZV,zbg,zcM];omega
theorem uY {k:κ} (v:V) (h:ie kvs k=none):V5 kvs k v=kvs++[(k,v)]:=by
 unfold V5;rw [jD,h];exact ZU (by decide)
theorem o6.kY (r:o6 o u):o.isSome=u.isSome:=by
 cases o with
 | none=>cases u with
  | none=>rfl
  | some _=>exact (show False from r).elim
 | some _=>cases u with
  | none=>exact (show False from r).elim
  | some _=>rfl
theorem KV.val (r:KV kvs vs) (k:κ):o6 (ie kvs k) (valueAt vs k):=by
 unfold KV at r
 induction r with
 | nil=>exact True.intro
 | @cons p q ps qs h t ih=>
  obtain ⟨h1,h2⟩:=h;by_cases e:p.1=k
  ·have e':q.1=k:=h1.symm.trans e;have b:valueAt (q::qs) k=some q.2:=by simp [valueAt,zem,e']
   rw [hZ e,b];exact h2
  ·have e':¬q.1=k:=λz=>e (h1.trans z);have b:valueAt (q::qs) k=valueAt qs k:=by simp [valueAt,zem,e']
   rw [ic e,b];exact ih
theorem KV.any (r:KV kvs vs) (k:κ):(kvs.any λkv=>decide (kv.1=k))=vs.any λkv=>decide (kv.1=k):=by
 unfold KV at r
 induction r with
 | nil=>rfl
 | cons h t ih=>rw [any_cons,any_cons,ih,h.1]
theorem KV.IQ (r:KV kvs vs) (k:κ) (ry:RelV y u) :
  KV (kvs.map λkv=>if kv.1=k then (kv.1,y) else kv) (vs.map λkv=>if kv.1=k then (kv.1,u) else kv):=by
 unfold KV at r ⊢
 induction r with
 | nil=>exact .nil
 | @cons p q ps qs h t ih=>
  rw [zaX,zaX];refine .cons ?_ ih;obtain ⟨h1,h2⟩:=h;by_cases e:p.1=k
  ·rw [ZW e,ZW (h1.symm.trans e)];exact ⟨h1,ry⟩
  ·rw [ZU e,ZU (λz=>e (h1.trans z))];exact ⟨h1,h2⟩
theorem KV.put (r:KV kvs vs) (k:κ) (ry:RelV y u):KV (V5 kvs k y) (stored vs k u):=by
 unfold V5 stored;rw [r.any k];by_cases e:(vs.any λkv=>decide (kv.1=k))=true
 ·rw [ZW e,ZW e];exact r.IQ k ry
 ·rw [ZU e,ZU e];exact Paired.snoc r ⟨rfl,ry⟩
theorem KV.length {kvs:List (κ×V)} {vs:List (κ×Value)} (r:KV kvs vs):kvs.length=vs.length:=zcq r
end
theorem yR (r:RelV (kV k) u):(bj P w).is k u=true:=by
 cases k with
 | inl i=>obtain ⟨t,e⟩:=(show ∃ t,u=Value.int i t from r);subst e;exact vb P w i t
 | inr x=>obtain ⟨t,e⟩:=(show ∃ t,u=Value.str x t from r);subst e;exact va P w x t
theorem qX {P:Program} {w:World}:∀ {ks:List Key} {us:XV},Vals (ks.map kV) us->ItemsAre (bj P w) ks us
 | [],_,r=>by rw [map_nil] at r;cases r;exact .nil
 | k::ks,_,r=>by
  rw [zaX] at r;cases r with
  | cons h t=>exact .cons (yR h) (qX t)
abbrev KT (H:Hp):List (List Key×V)->List (List Key×Addr×Value)->Prop:=Paired λp q=>p.1=q.1/\H q.2.1=some (.tup (p.1.map kV))/\RelV p.2 q.2.2
theorem KT.val (r:KT H kvs xs) (k:List Key):o6 (ie kvs k) ((atKey xs k).map (·.2)):=by
 induction r with
 | nil=>exact True.intro
 | @cons p q ps qs h t ih=>
  obtain ⟨h1,_,h2⟩:=h;by_cases e:p.1=k
  ·have e':q.1=k:=h1.symm.trans e;have b:atKey (q::qs) k=some q.2:=by simp [atKey,zem,e']
   rw [hZ e,b];exact h2
  ·have e':¬q.1=k:=λz=>e (h1.trans z);have b:atKey (q::qs) k=atKey qs k:=by simp [atKey,zem,e']
   rw [ic e,b];exact ih
theorem KT.IQ (r:KT H kvs xs) (k:List Key) (ry:RelV y u) :
  KT H (kvs.map λkv=>if kv.1=k then (kv.1,y) else kv) (xs.map (putAt k u)):=by
 induction r with
 | nil=>exact .nil
 | @cons p q ps qs h t ih=>
  rw [zaX,zaX];refine .cons ?_ ih;obtain ⟨h1,h2,h3⟩:=h;unfold putAt;by_cases e:p.1=k
  ·rw [ZW e,ZW (h1.symm.trans e)];exact ⟨h1,h2,ry⟩
  ·rw [ZU e,ZU (λz=>e (h1.trans z))];exact ⟨h1,h2,h3⟩
theorem KT.put (r:KT H kvs xs) (k:List Key) (hb:H b=some (.tup (k.map kV))) (ry:RelV y u) :
  KT H (V5 kvs k y) (storedH xs k b u):=by
 have e:(kvs.any λkv=>decide (kv.1=k))=(atKey xs k).isSome:=by
  rw [jD,(r.val k).kY,Option.isSome_map]
 unfold V5 storedH;rw [e];by_cases q:(atKey xs k).isSome=true
 ·rw [ZW q,ZW q];exact r.IQ k ry
 ·rw [ZU q,ZU q];exact Paired.snoc r ⟨rfl,hb,ry⟩
theorem KT.keeps (r:KT H kvs xs) (ht:∀ b ys,H b=some (.tup ys)->H' b=some (.tup ys)):KT H' kvs xs:=
 Paired.vc r λ_ _ z=>⟨z.1,ht _ _ z.2.1,z.2.2⟩
theorem Hn (ok:hX P w H h) (e:Rd H a u):aW P w H h a u:=e.ok ok
theorem zv (ok:hX P w H h) (e:Rd H a (.dK kvs)):kvs.length<=sizeLine/\(a==sysModules)=false/\∃ vs,KV kvs vs/\h.DictOf (bj P w) a vs:=
 show aW P w H h a (.dK kvs) from Hn ok e
theorem HX (ok:hX P w H h) (e:H a=some (.dK kvs)):kvs.length<=sizeLine/\(a==sysModules)=false/\∃ vs,KV kvs vs/\h.DictOf (bj P w) a vs:=zv ok (.inl e)
theorem kW (ok:hX P w H h) (e:H a=some (.tup (ks.map kV))):(tupleKind (bj P w)).is h ks a:=by
 obtain ⟨_,aJ,r,o,h1,h2,n,h3⟩:=(show aW P w H h a (.tup (ks.map kV)) from ok a _ e);exact ⟨o,aJ.toArray,n,h1,h2,h3,by simpa using qX r⟩
theorem zu (ok:hX P w H h) (e:Rd H a (.dT kvs)):kvs.length<=sizeLine/\(a==sysModules)=false/\
  ∃ xs,KT H kvs xs/\h.DictOfH (tupleKind (bj P w)) a xs:=by
 obtain ⟨z,y,xs,r,o,es,ep,h1,h2,h3,h4,h5⟩:=(show aW P w H h a (.dT kvs) from Hn ok e);refine ⟨z,y,xs,r,o,es,ep,h1,h2,h3,h4,λx hx=>?_,h5⟩;have all:∀ {l:List (List Key×V)} {m:List (List Key×Addr×Value)},KT H l m->∀ x∈m,(tupleKind (bj P w)).is h x.1 x.2.1:=by
  intro l m q
  induction q with
  | nil=>intro x hx;exact nomatch hx
  | @cons p q ps qs hq t ih=>
   intro x hx;rcases zas.mp hx with e|hx
   ·subst e;exact kW ok (by rw [<-hq.1];exact hq.2.1)
   ·exact ih x hx
 exact all r x hx
theorem oO (ok:hX P w H h) (e:H a=some (.dT kvs)):kvs.length<=sizeLine/\(a==sysModules)=false/\
  ∃ xs,KT H kvs xs/\h.DictOfH (tupleKind (bj P w)) a xs:=zu ok (.inl e)
def pB (H:Hp) (a:Addr) (y:V) (r:Option V):Prop:=
 (∃ kvs k,Rd H a (.dK kvs)/\y=kV k/\r=ie kvs k)\/∃ kvs k b,Rd H a (.dT kvs)/\y=.ref b/\H b=some (.tup (k.map kV))/\r=ie kvs k
def Bu (H:Hp) (a:Addr) (y v:V) (H':Hp):Prop:=
 (∃ kvs k,H a=some (.dK kvs)/\y=kV k/\kvs.length<sizeLine/\H'=upd H a (.dK (V5 kvs k v)))\/
 ∃ kvs k b,H a=some (.dT kvs)/\y=.ref b/\H b=some (.tup (k.map kV))/\kvs.length<sizeLine/\H'=upd H a (.dT (V5 kvs k v))
theorem pB.t (e:H a=some (.dT kvs)) (eb:H b=some (.tup (k.map kV))):pB H a (.ref b) (ie kvs k):=.inr ⟨kvs,k,b,.inl e,rfl,eb,rfl⟩
theorem Bu.k {k:Key} (e:H a=some (.dK kvs)) (hl:kvs.length<sizeLine):Bu H a (kV k) v (upd H a (.dK (V5 kvs k v))):=.inl ⟨kvs,k,e,rfl,hl,rfl⟩
section
variable {X:Cx} {pins:WF} {σ:St} {H:Hp} {s:Shared} {a:Addr} {y v:V} {u r:Value} {o:Option V} {A:Around} {E:WP}
theorem Inv.big (I:Inv X pins σ H s):sysModules<s.heap.objs.size:=by
 have h:mainGlobals<s.heap.objs.size:=(I.mod.glob.keeps I.bk).lt;exact zcS (by decide) h
theorem A6 (hu:A.units+1<cLine) (I:Inv X pins σ H s) (g:pB H a y (some v)) (ry:RelV y u) (h:∀ w' s',Inv X pins σ H s'->RelV v w'->Q w' s') :
  wpAny (model X.prog X.w) A (getItem (.ref a) u) Q E s:=by
 rcases g with ⟨kvs,k,e,ey,l⟩|⟨kvs,k,b,e,ey,eb,l⟩
 ·subst ey;obtain ⟨z,hd,vs,rel,dd⟩:=zv I.aZ e;obtain ⟨w',hw,Ca⟩:=o6.some_of (v:=v) (o:=valueAt vs k) (by rw [l];exact rel.val k);exact wpAny_getItem_of (yR ry) dd.mapOf hw (h w' _ (I.tok _) Ca)
 ·subst ey;cases (show u=Value.ref b from ry)
  obtain ⟨z,hd,xs,rel,dd⟩:=zu I.aZ e;obtain ⟨w',hw,Ca⟩:=o6.some_of (v:=v) (o:=(atKey xs k).map (·.2)) (by rw [l];exact rel.val k);obtain ⟨p,hp,xC⟩:=zbc.mp hw;refine wpAny_getItem_heap (zcz hu) (kW I.aZ eb) dd hp ?_;rw [xC];exact h w' _ (I.tok _) Ca
theorem Gy (hu:A.units+1<cLine) (I:Inv X pins σ H s) (g:pB H a y o) (ry:RelV y u) (h:∀ s',Inv X pins σ H s'->Q (.bool (!o.isSome)) s') :
  wpAny (model X.prog X.w) A (compareOp .NotIn u (.ref a)) Q E s:=by
 rcases g with ⟨kvs,k,e,ey,l⟩|⟨kvs,k,b,e,ey,eb,l⟩
 ·subst ey;obtain ⟨z,hd,vs,rel,dd⟩:=zv I.aZ e;refine wpAny_notIn_of (yR ry) hd dd.mapOf ?_;rw [<-(rel.val k).kY,<-l];exact h _ (I.tok _)
 ·subst ey;cases (show u=Value.ref b from ry)
  obtain ⟨z,hd,xs,rel,dd⟩:=zu I.aZ e;refine wpAny_notIn_heap (zcz hu) (kW I.aZ eb) hd dd ?_;have q:=(rel.val k).kY;rw [Option.isSome_map] at q;rw [<-q,<-l];exact h _ (I.tok _)
theorem mQ (I:Inv X pins σ H s) (mu:Od (H a)) (hs:Heap.SameBut a s.heap h') (he:∃ q,h'.get? a=some q) (new:aW X.prog X.w (upd H a ob) h' a ob) :
  Inv X pins σ (upd H a ob) { s with heap:=h',toks:=t' }:=
 I.write (x:=a) (e:=a) mu (.inl rfl) (λb q hb z=>(hs.2 b hb).trans z) he new
theorem Kw (z:kvs.length<=sizeLine) (hd:(a==sysModules)=false) (rel:KV kvs vs) (dd:h'.DictOf (bj P w) a vs) :
  aW P w H' h' a (.dK kvs):=⟨z,hd,vs,rel,dd⟩
theorem A5 (hu:A.units+1<cLine) (I:Inv X pins σ H s) (g:Bu H a y v H') (ry:RelV y u) (rv:RelV v r) (h:∀ s',Inv X pins σ H' s'->Q () s') :
  wpAny (model X.prog X.w) A (setItem (.ref a) u r) Q E s:=by
 rcases g with ⟨kvs,k,e,ey,l,eH⟩|⟨kvs,k,b,e,ey,eb,l,eH⟩
 ·subst ey eH;obtain ⟨z,hd,vs,rel,dd⟩:=HX I.aZ e;have hz:vs.length<=sizeLine:=by rw [<-rel.length];exact z
  have hl:(V5 kvs k v).length<=sizeLine:=by have:=fQ kvs k v;omega
  refine wpAny_setItem_pairs (hsz:=hz) (yR ry) dd λh' Ll hs=>h _ ?_;have he:∃ q,h'.get? a=some q:=let ⟨q,_,_,hq,_⟩:=Ll;⟨q,hq⟩
  exact mQ I (by rw [e];exact True.intro) hs he (Kw hl hd (rel.put k rv) Ll)
 ·subst ey eH;cases (show u=Value.ref b from ry)
  obtain ⟨z,hd,xs,rel,dd⟩:=oO I.aZ e;have hz:xs.length<=sizeLine:=by rw [<-zcq rel];exact z
  have hl:(V5 kvs k v).length<=sizeLine:=by have:=fQ kvs k v;omega
  refine wpAny_setItem_heap (hsz:=hz) (zcz hu) (kW I.aZ eb) dd λh' Ll hs=>h _ ?_;obtain ⟨q,es,ep,hq,h2,h3,h4,_,h5⟩:=Ll;refine mQ I (by rw [e];exact True.intro) hs ⟨q,hq⟩ ⟨hl,hd,_,(rel.put k eb rv).keeps λc ys ec=>?_,q,es,ep,hq,h2,h3,h4,h5⟩;rw [aq (CZ ec e (λz=>nomatch z))];exact ec
end
def Oc (i:Expr):Prop:=∀ ov iv,subscripted i false ov iv=operate [ov,iv] (getItem ov iv)
theorem ET {A:Around} {s:Shared} {env:Env} {pos:Pos} {T id:String}
  (hl:typeLookup (.type T) "__getitem__"=pure (some (.builtin id))) (hs:Oc slice)
  (h:wpAny (model prog w) A (eval value env) (λo s₁=>wpAny (model prog w) A (eval slice env) (λi s₂=>s₂.TypeIs o T/\wpAny (model prog w) A (getItem o i) Q E s₂) E s₁) E s) :
  wpAny (model prog w) A (eval (.Subscript value slice pos) env) Q E s:=by
 refine Subscript_ (zao h (λo s₁ h₁=>zao h₁ (λi s₂ h₂=>?_) λ_ _ x=>x) λ_ _ x=>x);obtain ⟨hT,h₂⟩:=h₂;unfold subscriptTail;refine rd ?_;rw [getitemInPython_of_ne hT.not_modules];refine rd (zde hT hl ?_);have fin:wpAny (model prog w) A (subscripted slice false o i) (λr s₃=>wpAny (model prog w) A (letTemporaryGo value o r >>= λ_=>pure r) Q E s₃) E s₂:=by
  rw [hs o i];exact wpAny_operating (zao h₂ (λr s₃ h₃=>rd (wpAny_letTemporaryGo (ZR h₃))) λ_ _ x=>x)
 first
  | exact ZR (rd fin)
  | exact rd (ZR (rd fin))
  | exact rd fin
theorem vQ {σ:St} {s:Shared} {o:Option V} (I:Inv X pins σ H s) (g:pB H a y o):s.TypeIs (.ref a) "dict":=by
 rcases g with ⟨kvs,k,e,_,_⟩|⟨kvs,k,b,e,_,_,_⟩
 ·obtain ⟨_,_,vs,_,dd⟩:=zv I.aZ e;exact dd.typeIs
 ·obtain ⟨_,_,xs,_,dd⟩:=zu I.aZ e;exact dd.typeIs
def Hf (td ty:TE):TE:=λσ H Q=>td σ H λx H1=>ty σ H1 λy H2=>∃ a v,x=.ref a/\pB H2 a y (some v)/\Q v H2
def x9 (ty td:TE):TE:=λσ H Q=>ty σ H λy H1=>td σ H1 λx H2=>∃ a o,x=.ref a/\pB H2 a y o/\Q (.bl (!o.isSome)) H2
def Hl (td ty tv:TE):TS:=λD σ H=>tv σ H λv H1=>td σ H1 λx H2=>ty σ H2 λy H3=>∃ a H4,x=.ref a/\Bu H3 a y v H4/\D.nx σ H4
theorem sD (hu:X.A.units+1<cLine) (ho:PE X o td) (hi:PE X i ty) (hs:Oc i):PE X (.Subscript o i pos) (Hf td ty):=by
 intro pins s σ H Q I h;refine ET PySem.F.slot_dict_getitem.lookup hs (cA (ho pins s σ H _ I h) λu s1 ⟨x,H1,I1,rx,q1⟩=>cA (hi pins s1 σ H1 _ I1 q1) λiv s2 ⟨y,H2,I2,ry,a,v,ex,g,q2⟩=>?_);subst ex;obtain rfl:u=Value.ref a:=rx;exact ⟨vQ I2 g,A6 hu I2 g ry λw' s3 I3 Ca=>⟨v,H2,I3,Ca,q2⟩⟩
theorem Am (hu:X.A.units+1<cLine) (hi:PE X i ty) (ho:PE X o td):PC X .NotIn i o (x9 ty td):=by
 intro pins s σ H Q I h;refine cA (hi pins s σ H _ I h) λiv s1 ⟨y,H1,I1,ry,q1⟩=>cA (ho pins s1 σ H1 _ I1 q1) λu s2 ⟨x,H2,I2,rx,a,ov,ex,g,q2⟩=>?_;subst ex;obtain rfl:u=Value.ref a:=rx;exact Gy hu I2 g ry λs3 I3=>⟨.bl (!ov.isSome),H2,I3,rfl,q2⟩
theorem Fv (hu:X.A.units+1<cLine) (ho:PE X o td) (hi:PE X i ty) (hv:PE X value tv) (hs:swapsWith value (some (.Subscript o i pos')) pos.line X.env=pure false) :
  PS X (.Assign [.Subscript o i pos'] value pos) (Hl td ty tv):=by
 intro pins s σ H D I h;refine wpAny_Assign_Subscript (cA (hv pins s σ H _ I h) λr s1 ⟨v,H1,I1,rv,q1⟩=>cA (ho pins s1 σ H1 _ I1 q1) λu s2 ⟨x,H2,I2,rx,q2⟩=>cA (hi pins s2 σ H2 _ I2 q2) λiv s3 ⟨y,H3,I3,ry,a,H4,ex,g,q3⟩=>?_) hs;subst ex;obtain rfl:u=Value.ref a:=rx;exact A5 hu I3 g ry rv λs4 I4=>⟨σ,H4,I4,q3⟩
theorem DY (h:Heap) (hb:sysModules<h.objs.size):aW P w H (h.push { cls:=.type "dict",data:=.dict #[] }) h.objs.size (.dK []):=
 ⟨Z7 _,zeb.mpr (zaD (Z1 hb)),[],.nil,Heap.DictOf.new h⟩
def IF:TE:=λ_ H Q=>∀ p,H p=none->Q (.ref p) (upd H p (.dK []))
theorem CM:PE X (.Dict [] [] pos) IF:=λpins s σ H Q I h=>
 wpAny_Dict_empty ⟨.ref s.heap.objs.size,_,I.laid (a:=s.heap.objs.size) (o:=.dK []) (t':=s.toks) (λ_ _ q=>ZN _ q) (ZQ _) (DY s.heap I.big),rfl,h _ (I.aZ.fresh (ZQ _))⟩
end L2
namespace Ik
open PySem PySem.W PySem.Calls PyProof.Rows
theorem lY:∀ (ns:Wp) (vs:XV),WellAll P h vs (ns.map WData.int)->IntsAre vs ns:=by
 intro ns
 induction ns with
 | nil=>
  intro vs w;rw [map_nil] at w;cases w
  exact .nil
 | cons n ns ih=>
  intro vs w;rw [zaX] at w;cases w with
  | cons a b=>
   cases a
   exact .cons _ _ (ih _ b)
theorem Af {l:OpenLaw} {n:Nat} (hn:l.most=some n) {P:Params} {h:Heap}
  (AK:l.row.toRowW.claim.pre args=true) (Et:WellAll P h vals args) :
  ∃ a vs ns,vals=[Value.ref a]/\args=[WData.list (ns.map WData.int)]/\h.get? a=some { cls:=.type "list",data:=.seq vs.toArray }/\IntsAre vs ns/\ns.length<=n:=by
 have Q5:WShape.hasAll [] args [.list .int]=true:=(pre_splitW AK).1;have hc:l.pre.holds [] { args:=args }=true:=(pre_splitW AK).2;obtain ⟨d,r,rfl,h1,h2⟩:=hasAllW_cons Q5;obtain rfl:=hasAllW_nil h2;obtain ⟨xs,rfl,h3⟩:=hasW_list h1;obtain ⟨ns,rfl⟩:=items_int h3;have hlen:ns.length<=n:=by
  unfold OpenLaw.pre at hc;have h4:(WTm.not (.lt (.lit (.int (n:Int))) (.len (.arg 0)))).holds [] { args:=[.list (ns.map .int)] }=true:=by
   have h4:=(holds_andW hc).1;rw [hn] at h4;exact h4
  have h5:=condW_of h4 (w_not (w_lt w_lit (w_len_list (w_arg rfl))));rw [ZK] at h5;refine Nat.le_of_not_lt λq=>?_;have q':(n:Int)<((ns.length:Nat):Int):=by omega
  first
   | (rw [zad q'] at h5;exact absurd h5 (by decide))
   | (simp at h5;omega)
 cases Et with
 | cons w1 w2=>
  cases w2
  cases w1 with
  | list ho Kf=>exact ⟨_,_,ns,rfl,rfl,ho,lY ns _ Kf,hlen⟩
theorem Aj (l:OpenLaw) (args:List WData):l.row.toRowW.claim.post args (.bool true) args=true:=
 postW_of (r:=l.row.toRowW) (X:=(true==true))
  (show WShape.has [] (.bool true) .bool=true by first|rfl|decide|simp [WShape.has,WShape.arms,WShape.armsAll])
  (show (WTm.eq .res (.lit (.bool true))).value [] { args:=args,res:=some (.bool true),after:=args }=some (.bool (true==true)) from w_eq_bool (w_res rfl) w_lit) rfl
theorem wc {l:OpenLaw} {n:Nat} {XP:(Str->Option Value)->Heap->Prop} {d:DefRec}
  (hn:l.most=some n) (J4:d.params.defaults=[])
  (call:∀ (w:World) (s₀ s₁:Shared) (mg mb:W1) (fa:Addr) (o:Obj) (pm cd doc:Value) (a:Addr) (vs:XV) (ns:Wp),
   Ground q loose [] XP w s₀ mg mb s₁.heap->YP w s₁.heap->
   s₁.heap.get? fa=some o->o.data=.func (docDef d.name d.params d.body d.scope pm cd doc)->s₁.heap.CodeRec cd d.name->mg d.name=some (.ref fa)->
   s₁.heap.get? a=some { cls:=.type "list",data:=.seq vs.toArray }->IntsAre vs ns->ns.length<=n->s₁.gens=#[]->
   codeAny (model l.prog w) callerA (.call (.ref fa) ⟨[.ref a],[]⟩) (λr s'=>r=.ok (.ret (.bool true))/\OldK s₁.heap s'.heap/\s'.os=s₁.os/\AllBare s'.gens) s₁) :
  WalkO q loose XP YP l.row.toRowW d [] (λf vs=>PySem.call f vs):=by
 intro w s₀ s₁ mg mb G Y fa o pm cd doc dV kV ho hd pW hD Na hg args vals as AK Xn Zj Et Zl;obtain rfl:dV=.none:=Dflts.none hD J4;obtain rfl:kV=.none:=Dflts.noKw hD;obtain ⟨a,vs,ns,rfl,rfl,JT,hints,hlen⟩:=Af hn AK Et;refine enter_call (zcR (call w s₀ s₁ mg mb fa o pm cd doc a vs ns G Y ho (fd_plain hd) pW Na JT hints hlen hg) λr s' hq=>?_);obtain ⟨rfl,h2,h3,h4⟩:=hq;exact ⟨.inl ⟨.bool true,.bool true,[],rfl,λ_=>rfl,.bool true,Aj l _,λ_=>⟨List.Pairwise.nil,λ_ hm=>(nomatch hm)⟩⟩,h2,h3,h4⟩
def nU (h:Heap):Heap:={ h with objs:=#[] }
theorem gS (h:Heap) (b:Addr):(nU h).get? b=none:=by
 cases e:(nU h).get? b with
 | none=>rfl
 | some o=>exact absurd (ZM e) (zdf _)
theorem Kk (n:h.Ns L m):Fr (nU h) L h m:=
 ⟨n,λb o e=>(by rw [gS] at e;cases e),Z7 _⟩
end Ik
namespace L2
open PySem PySem.Spec PyProof.Rows
theorem kr:∀ {vs:XV} {ns:Wp},IntsAre vs ns->Vals (ns.map V.int) vs
 | _,_,.nil=>.nil
 | _,_,.cons n t h=>.cons ⟨t,rfl⟩ (kr h)
def fR (s:Stmt):Arguments:=match s with
 | .FunctionDef _ a _ _ _ _ _ _ _ _=>a
 | _=>{ posonlyargs:=[],args:=[],vararg:=none,kwonlyargs:=[],kw_defaults:=[],kwarg:=none,defaults:=[] }
def dk (s:Stmt):List Stmt:=match s with
 | .FunctionDef _ _ b _ _ _ _ _ _ _=>b
 | _=>[]
def aC (s:Stmt):Scope:=match s with
 | .FunctionDef _ _ _ _ _ _ sc _ _ _=>sc
 | _=>{ kind:=.function,names:=[],isGenerator:=false,isCoroutine:=false }
abbrev E0:XK:=λ_ _ _=>False
structure KY (K:ZB) (x qual:Str) (st:Stmt) (f:Addr) (fd:FuncData):Prop where
 ex:∃ (oc:Value) (od:Option Addr) (kV doc pm:Value) (an:Option Addr) (cz ct:Value) (Ao:Array (Option Value)),
  fd=PySem.W.fnOf x qual (fR st) (dk st) (aC st) .none kV doc pm an cz ct/\K.lookup f=some ⟨oc,od,.func fd,Ao⟩/\PySem.W.codeIn K cz qual=true
 kp:PySem.W.keepIn K (.ref f)=true
section
variable {P:Program} {w:World} {K:ZB} {mg:W1} {base:Heap}
theorem KY.binds {x qual:Str} {st:Stmt} {fd:FuncData} (F:KY K x qual st f fd)
  (h:∀ (kV doc pm:Value) (an:Option Addr) (cz ct:Value) (us:XV),us.length=ps.length->bindArgs (PySem.W.fnOf x qual (fR st) (dk st) (aC st) .none kV doc pm an cz ct) ⟨us,[]⟩=pure (ps.zip us)):Binds K fd ps []:=by
 obtain ⟨oc,od,kV,doc,pm,an,cz,ct,Ao,rfl,lk,pW⟩:=F.ex;exact .all (h kV doc pm an cz ct)
theorem xF {x qual:Str} {st:Stmt} {f:Addr} {oc:Value} {od an:Option Addr} {Ao:Array (Option Value)} {kV doc pm cz ct:Value} (l:K.lookup f=some ⟨oc,od,.func (PySem.W.fnOf x qual (fR st) (dk st) (aC st) .none kV doc pm an cz ct),Ao⟩)
  (c:PySem.W.codeIn K cz qual=true) (k:PySem.W.keepIn K (.ref f)=true):KY K x qual st f (PySem.W.fnOf x qual (fR st) (dk st) (aC st) .none kV doc pm an cz ct):=⟨⟨oc,od,kV,doc,pm,an,cz,ct,Ao,rfl,l,c⟩,k⟩
end
theorem vy (hr:df k A):A.units+1<cLine:=zcd (Nat.add_le_add_left (by decide:1<=64) _) hr.units
section
variable {X:Cx}
theorem pv (i:Nat) {x:Str} {pos:Pos} (hN:X.N[i]?=some x:=by rfl) (hv:N7 X.env.scope x:=by first|exact Or.inl rfl|exact Or.inr (Or.inl rfl) | exact Or.inr (Or.inr rfl)) (hd:(x==("__debug__":Str))=false:=by decide)
  (pW:(x==("__classdict__":Str))=false:=by decide):PE X (.Name x pos) (jG i):=Jj hN hv hd pW
end
theorem Dl {A B:Prop} (h:B):if false=true then A else B:=by
 rw [ZU zae];exact h
theorem F5 {A B:Prop} (h:A):if true=true then A else B:=by
 rw [ZW rfl];exact h
def ao (H H':Hp):Prop:=∀ b o,H b=some o->H' b=some o
theorem ao.refl (H:Hp):ao H H:=λ_ _ h=>h
theorem ao.trans (a:ao H H1) (b:ao H1 H2):ao H H2:=λc o h=>b c o (a c o h)
theorem ao.free (e:ao H H') (h:H' l=Option.none):H l=Option.none:=by
 cases q:H l with
 | none=>rfl
 | some o=>
  rw [e l o q] at h;cases h
theorem ao.seq {K:ZB} {H H':Hp} {a:Addr} {xs:List V} (e:ao H H') (h:aH K H a xs):aH K H' a xs:=by
 rcases h with (h|⟨o,h⟩) | h
 ·exact .inl (.inl (e _ _ h))
 ·exact .inl (.inr ⟨o,e _ _ h⟩)
 ·exact .inr h
section
variable {κ:Type} [DecidableEq κ]
theorem EL {k:κ} (h:ie kvs k=some v):k∈kvs.map (·.1):=by
 have q:(kvs.any λkv=>decide (kv.1=k))=true:=by
  rw [jD,h]
  all_goals rfl
 obtain ⟨p,hp,e⟩:=List.any_eq_true.mp q;exact zaB.mpr ⟨p,hp,zaR e⟩
end
end L2

namespace cK
structure V4 where
 x:Int
 y:Int
 z:Int
 w:Int
structure V3 where
 u:Int
 v:Int
 w:Int
def dot (a b:V4):Int:=a.x*b.x+a.y*b.y+a.z*b.z+a.w*b.w
def ki (a b:V3):Int:=a.u*b.u+a.v*b.v+a.w*b.w
def neg (a:V4):V4:=⟨-a.x,-a.y,-a.z,-a.w⟩
def tn (a b c:V3):Int:=a.u*(b.v*c.w-b.w*c.v)+a.v*(b.w*c.u-b.u*c.w)+a.w*(b.u*c.v-b.v*c.u)
def aL (p q r:V4):V4:=⟨tn ⟨p.y,p.z,p.w⟩ ⟨q.y,q.z,q.w⟩ ⟨r.y,r.z,r.w⟩,tn ⟨p.z,p.x,p.w⟩ ⟨q.z,q.x,q.w⟩ ⟨r.z,r.x,r.w⟩,
 tn ⟨p.x,p.y,p.w⟩ ⟨q.x,q.y,q.w⟩ ⟨r.x,r.y,r.w⟩,tn ⟨p.y,p.x,p.z⟩ ⟨q.y,q.x,q.z⟩ ⟨r.y,r.x,r.z⟩⟩
def cG (p q r s:V4):Int:=dot (aL p q r) s
theorem BL (a b c d:V4):cG b a c d=-cG a b c d:=by unfold cG dot aL tn;grind
theorem G4 (a b c d:V4):cG a c b d=-cG a b c d:=by unfold cG dot aL tn;grind
theorem xX (a b c d:V4):cG a b d c=-cG a b c d:=by unfold cG dot aL tn;grind
theorem G3 (a b c:V4):cG a b c a=0:=by unfold cG dot aL tn;grind
theorem uu (a b c:V4):cG a b c b=0:=by unfold cG dot aL tn;grind
theorem ur (a b c:V4):cG a b c c=0:=by unfold cG dot aL tn;grind
theorem i7 (a b:V4):dot (neg a) b=-dot a b:=by unfold dot neg;grind
theorem Sm (g:V4) (p q r:V4) (he:dot g e=0) (hf:dot g f=0):cG e f q r*dot g p-cG e f p r*dot g q+cG e f p q*dot g r=0:=by
 have k:cG e f q r*dot g p-cG e f p r*dot g q+cG e f p q*dot g r=cG p q r f*dot g e-cG p q r e*dot g f:=by
  unfold cG dot aL tn;grind
 rw [k,he,hf];simp
def sp (pl p:V4):V3:=if pl.x≠0 then (if pl.x<0 then ⟨p.z,p.y,p.w⟩ else ⟨p.y,p.z,p.w⟩) else if pl.y≠0 then (if pl.y<0 then ⟨p.x,p.z,p.w⟩ else ⟨p.z,p.x,p.w⟩)
 else (if pl.z<0 then ⟨p.y,p.x,p.w⟩ else ⟨p.x,p.y,p.w⟩)
def T (pl a b c:V4):Int:=tn (sp pl a) (sp pl b) (sp pl c)
theorem PD (a b c:V3):tn b a c=-tn a b c:=by unfold tn;grind
theorem PB (a b c:V3):tn a c b=-tn a b c:=by unfold tn;grind
theorem Ln (pl a b c:V4):T pl b a c=-T pl a b c:=PD _ _ _
theorem Sx (pl a b c:V4):T pl a c b=-T pl a b c:=PB _ _ _
theorem N8 (pl a b c:V4):T pl b c a=T pl a b c:=by rw [Sx,Ln];omega
theorem GO (pl a b:V4):T pl a a b=0:=by unfold T tn;grind
theorem Sv (pl a b:V4):T pl a b b=0:=by unfold T tn;grind
theorem N9 (pl a b:V4):T pl a b a=0:=by unfold T tn;grind
theorem Qk (g a b c d:V3):tn b c d*ki g a-tn a c d*ki g b+tn a b d*ki g c-tn a b c*ki g d=0:=by unfold tn ki;grind
theorem yB (ha:dot pl a=0) (hb:dot pl b=0) (hc:dot pl c=0):(aL a b c).x*pl.y=(aL a b c).y*pl.x:=by
 have k:(aL a b c).x*pl.y-(aL a b c).y*pl.x=(b.z*c.w-b.w*c.z)*dot pl a+(c.z*a.w-c.w*a.z)*dot pl b+(a.z*b.w-a.w*b.z)*dot pl c:=by unfold dot aL tn;grind
 rw [ha,hb,hc] at k;omega
theorem yA (ha:dot pl a=0) (hb:dot pl b=0) (hc:dot pl c=0):(aL a b c).x*pl.z=(aL a b c).z*pl.x:=by
 have k:(aL a b c).x*pl.z-(aL a b c).z*pl.x=-(b.y*c.w-b.w*c.y)*dot pl a-(c.y*a.w-c.w*a.y)*dot pl b-(a.y*b.w-a.w*b.y)*dot pl c:=by unfold dot aL tn;grind
 rw [ha,hb,hc] at k;omega
theorem yz (ha:dot pl a=0) (hb:dot pl b=0) (hc:dot pl c=0):(aL a b c).y*pl.z=(aL a b c).z*pl.y:=by
 have k:(aL a b c).y*pl.z-(aL a b c).z*pl.y=(b.x*c.w-b.w*c.x)*dot pl a+(c.x*a.w-c.w*a.x)*dot pl b+(a.x*b.w-a.w*b.x)*dot pl c:=by unfold dot aL tn;grind
 rw [ha,hb,hc] at k;omega
theorem Hu (ha:dot pl a=0) (hb:dot pl b=0) (hc:dot pl c=0):(aL a b c).x*pl.w=(aL a b c).w*pl.x:=by
 have k:(aL a b c).x*pl.w-(aL a b c).w*pl.x=(b.y*c.z-b.z*c.y)*dot pl a+(c.y*a.z-c.z*a.y)*dot pl b+(a.y*b.z-a.z*b.y)*dot pl c:=by unfold dot aL tn;grind
 rw [ha,hb,hc] at k;omega
theorem Ht (ha:dot pl a=0) (hb:dot pl b=0) (hc:dot pl c=0):(aL a b c).y*pl.w=(aL a b c).w*pl.y:=by
 have k:(aL a b c).y*pl.w-(aL a b c).w*pl.y=-(b.x*c.z-b.z*c.x)*dot pl a-(c.x*a.z-c.z*a.x)*dot pl b-(a.x*b.z-a.z*b.x)*dot pl c:=by unfold dot aL tn;grind
 rw [ha,hb,hc] at k;omega
theorem Hs (ha:dot pl a=0) (hb:dot pl b=0) (hc:dot pl c=0):(aL a b c).z*pl.w=(aL a b c).w*pl.z:=by
 have k:(aL a b c).z*pl.w-(aL a b c).w*pl.z=(b.x*c.y-b.y*c.x)*dot pl a+(c.x*a.y-c.y*a.x)*dot pl b+(a.x*b.y-a.y*b.x)*dot pl c:=by unfold dot aL tn;grind
 rw [ha,hb,hc] at k;omega
theorem B1 (h:pl.x<0) (p:V4):sp pl p=⟨p.z,p.y,p.w⟩:=by unfold sp;rw [ZW (by omega),ZW h]
theorem uG (h:0<pl.x) (p:V4):sp pl p=⟨p.y,p.z,p.w⟩:=by unfold sp;rw [ZW (by omega),ZU (by omega)]
theorem B0 (h0:pl.x=0) (h:pl.y<0) (p:V4):sp pl p=⟨p.x,p.z,p.w⟩:=by unfold sp;rw [ZU (by omega),ZW (by omega),ZW h]
theorem uF (h0:pl.x=0) (h:0<pl.y) (p:V4):sp pl p=⟨p.z,p.x,p.w⟩:=by unfold sp;rw [ZU (by omega),ZW (by omega),ZU (by omega)]
theorem BZ (h0:pl.x=0) (h1:pl.y=0) (h:pl.z<0) (p:V4):sp pl p=⟨p.y,p.x,p.w⟩:=by unfold sp;rw [ZU (by omega),ZU (by omega),ZW h]
theorem uE (h0:pl.x=0) (h1:pl.y=0) (h:0<pl.z) (p:V4):sp pl p=⟨p.x,p.y,p.w⟩:=by unfold sp;rw [ZU (by omega),ZU (by omega),ZU (by omega)]
def Nz (pl:V4):Prop:=pl.x≠0\/pl.y≠0\/pl.z≠0
theorem U5 (t pl s:V4) (e1:t.x*pl.y=t.y*pl.x) (e2:t.x*pl.z=t.z*pl.x) (e3:t.x*pl.w=t.w*pl.x):pl.x*dot t s=dot pl s*t.x:=by unfold dot;grind
theorem U4 (t pl s:V4) (e1:t.x*pl.y=t.y*pl.x) (e2:t.y*pl.z=t.z*pl.y) (e3:t.y*pl.w=t.w*pl.y):pl.y*dot t s=dot pl s*t.y:=by unfold dot;grind
theorem U3 (t pl s:V4) (e1:t.x*pl.z=t.z*pl.x) (e2:t.y*pl.z=t.z*pl.y) (e3:t.z*pl.w=t.w*pl.z):pl.z*dot t s=dot pl s*t.z:=by unfold dot;grind
theorem seen (h:Nz pl):∃ m:Int,0<m/\(∀ g:V4,∃ G:V3,∀ q,dot pl q=0->ki G (sp pl q)=m*dot g q)/\
  ∀ a b c,dot pl a=0->dot pl b=0->dot pl c=0->∀ s,m*cG a b c s=dot pl s*T pl a b c:=by
 by_cases hx:pl.x<0
 ·refine ⟨-pl.x,by omega,λg=>⟨⟨g.x*pl.z-g.z*pl.x,g.x*pl.y-g.y*pl.x,g.x*pl.w-g.w*pl.x⟩,λq hq=>?_⟩,λa b c ha hb hc s=>?_⟩
  ·rw [B1 hx];unfold dot ki at *;dsimp only;grind
  ·have e1:=yB ha hb hc;have e2:=yA ha hb hc;have e3:=Hu ha hb hc;have e:T pl a b c=-(aL a b c).x:=by unfold T;rw [B1 hx,B1 hx,B1 hx];unfold tn aL tn;dsimp only;grind
   have k:=U5 (aL a b c) pl s e1 e2 e3;rw [e];unfold cG;rw [Int.neg_mul,k,zer]
 by_cases F7:0<pl.x
 ·refine ⟨pl.x,by omega,λg=>⟨⟨-(g.x*pl.y-g.y*pl.x),-(g.x*pl.z-g.z*pl.x),-(g.x*pl.w-g.w*pl.x)⟩,λq hq=>?_⟩,λa b c ha hb hc s=>?_⟩
  ·rw [uG F7];unfold dot ki at *;dsimp only;grind
  ·have e1:=yB ha hb hc;have e2:=yA ha hb hc;have e3:=Hu ha hb hc;have e:T pl a b c=(aL a b c).x:=by unfold T;rw [uG F7,uG F7,uG F7];rfl
   have k:=U5 (aL a b c) pl s e1 e2 e3;rw [e];exact k
 have x0:pl.x=0:=by omega
 by_cases hy:pl.y<0
 ·refine ⟨-pl.y,by omega,λg=>⟨⟨g.y*pl.x-g.x*pl.y,g.y*pl.z-g.z*pl.y,g.y*pl.w-g.w*pl.y⟩,λq hq=>?_⟩,λa b c ha hb hc s=>?_⟩
  ·rw [B0 x0 hy];unfold dot ki at *;dsimp only;grind
  ·have e1:=yB ha hb hc;have e2:=yz ha hb hc;have e3:=Ht ha hb hc;have e:T pl a b c=-(aL a b c).y:=by unfold T;rw [B0 x0 hy,B0 x0 hy,B0 x0 hy];unfold tn aL tn;dsimp only;grind
   have k:=U4 (aL a b c) pl s e1 e2 e3;rw [e];unfold cG;rw [Int.neg_mul,k,zer]
 by_cases yV:0<pl.y
 ·refine ⟨pl.y,by omega,λg=>⟨⟨-(g.y*pl.z-g.z*pl.y),-(g.y*pl.x-g.x*pl.y),-(g.y*pl.w-g.w*pl.y)⟩,λq hq=>?_⟩,λa b c ha hb hc s=>?_⟩
  ·rw [uF x0 yV];unfold dot ki at *;dsimp only;grind
  ·have e1:=yB ha hb hc;have e2:=yz ha hb hc;have e3:=Ht ha hb hc;have e:T pl a b c=(aL a b c).y:=by unfold T;rw [uF x0 yV,uF x0 yV,uF x0 yV];rfl
   have k:=U4 (aL a b c) pl s e1 e2 e3;rw [e];exact k
 have y0:pl.y=0:=by omega
 have hz:pl.z≠0:=by rcases h with h|h|h<;>omega
 by_cases OP:pl.z<0
 ·refine ⟨-pl.z,by omega,λg=>⟨⟨g.z*pl.y-g.y*pl.z,g.z*pl.x-g.x*pl.z,g.z*pl.w-g.w*pl.z⟩,λq hq=>?_⟩,λa b c ha hb hc s=>?_⟩
  ·rw [BZ x0 y0 OP];unfold dot ki at *;dsimp only;grind
  ·have e1:=yA ha hb hc;have e2:=yz ha hb hc;have e3:=Hs ha hb hc;have e:T pl a b c=-(aL a b c).z:=by unfold T;rw [BZ x0 y0 OP,BZ x0 y0 OP,BZ x0 y0 OP];unfold tn aL tn;dsimp only;grind
   have k:=U3 (aL a b c) pl s e1 e2 e3;rw [e];unfold cG;rw [Int.neg_mul,k,zer]
 ·have OQ:0<pl.z:=by omega
  refine ⟨pl.z,by omega,λg=>⟨⟨-(g.z*pl.x-g.x*pl.z),-(g.z*pl.y-g.y*pl.z),-(g.z*pl.w-g.w*pl.z)⟩,λq hq=>?_⟩,λa b c ha hb hc s=>?_⟩
  ·rw [uE x0 y0 OQ];unfold dot ki at *;dsimp only;grind
  ·have e1:=yA ha hb hc;have e2:=yz ha hb hc;have e3:=Hs ha hb hc;have e:T pl a b c=(aL a b c).z:=by unfold T;rw [uE x0 y0 OQ,uE x0 y0 OQ,uE x0 y0 OQ];rfl
   have k:=U3 (aL a b c) pl s e1 e2 e3;rw [e];exact k
theorem Ep (h:Nz pl) (g:V4) (ha:dot pl a=0) (hb:dot pl b=0) (hc:dot pl c=0) (hd:dot pl d=0) :
  T pl b c d*dot g a-T pl a c d*dot g b+T pl a b d*dot g c-T pl a b c*dot g d=0:=by
 obtain ⟨m,m0,e,_⟩:=seen h;obtain ⟨G,hG⟩:=e g;have k:=Qk G (sp pl a) (sp pl b) (sp pl c) (sp pl d);rw [hG a ha,hG b hb,hG c hc,hG d hd] at k;have k2:m*(T pl b c d*dot g a-T pl a c d*dot g b+T pl a b d*dot g c-T pl a b c*dot g d)=0:=by
  unfold T;grind
 rcases zaf.mp k2 with z|z
 ·omega
 ·exact z
theorem g7 (h:Nz pl):∃ m:Int,0<m/\∀ a b c,dot pl a=0->dot pl b=0->dot pl c=0->∀ s,m*cG a b c s=dot pl s*T pl a b c:=by
 obtain ⟨m,m0,_,e⟩:=seen h;exact ⟨m,m0,e⟩
theorem vP (h:Nz pl):0<dot pl pl:=by
 have sq:∀ n:Int,0<=n*n:=λn=>by
  rcases Int.le_total 0 n with z|z
  ·exact zbS z z
  ·exact zdj z z
 have PQ:∀ n:Int,n≠0->0<n*n:=λn hn=>by
  have:=sq n;have:n*n≠0:=λz=>by rcases zaf.mp z with z|z<;>exact hn z
  omega
 unfold dot;have a:=sq pl.x;have b:=sq pl.y;have c:=sq pl.z;have d:=sq pl.w
 rcases h with z|z|z
 ·have:=PQ _ z;omega
 ·have:=PQ _ z;omega
 ·have:=PQ _ z;omega
def iH (a b:V4):Prop:=a.x*b.w<b.x*a.w\/(a.x*b.w=b.x*a.w/\(a.y*b.w<b.y*a.w\/(a.y*b.w=b.y*a.w/\a.z*b.w<b.z*a.w)))
structure bE (c:Nat->V4) (n:Nat):Prop where
 pos:∀ i,i<n->0<(c i).w
 lex:∀ i j,i<j->j<n->iH (c i) (c j)
def Zr (p:V4):Prop:=p.x=0/\p.y=0/\p.z=0/\p.w=0
theorem Zr.dot (h:Zr p) (s:V4):dot p s=0:=by
 obtain ⟨a,b,c,d⟩:=h;unfold cK.dot;rw [a,b,c,d];simp
theorem Zr.of (h:∀ s,cK.dot p s=0):Zr p:=by
 have a:=h ⟨1,0,0,0⟩;have b:=h ⟨0,1,0,0⟩;have c:=h ⟨0,0,1,0⟩;have d:=h ⟨0,0,0,1⟩
 unfold cK.dot at a b c d;simp at a b c d;exact ⟨a,b,c,d⟩
def BD (i j k:V4):Prop:=∃ s p q:Int,0<s/\0<p/\0<q/\∀ g,s*dot g j=p*dot g i+q*dot g k
theorem nW (wj:0<j.w) (hA:0<=A) (hD:0<=D) (hB:0<B)
  (ex:B*j.x=D*i.x+A*k.x) (ey:B*j.y=D*i.y+A*k.y) (ez:B*j.z=D*i.z+A*k.z) (ew:B*j.w=D*i.w+A*k.w)
  (QE:¬(j.x*i.w=i.x*j.w/\j.y*i.w=i.y*j.w/\j.z*i.w=i.z*j.w)) (Wm:¬(j.x*k.w=k.x*j.w/\j.y*k.w=k.y*j.w/\j.z*k.w=k.z*j.w)):BD i j k:=by
 refine ⟨B,D,A,hB,?_,?_,λg=>by unfold dot;grind⟩
 ·rcases zbB hD with z|z
  ·exact z
  ·exfalso;subst z;refine Wm ⟨?_,?_,?_⟩<;>apply zbL (Int.ne_of_gt hB)<;>grind
 ·rcases zbB hA with z|z
  ·exact z
  ·exfalso;subst z;refine QE ⟨?_,?_,?_⟩<;>apply zbL (Int.ne_of_gt hB)<;>grind
theorem C8 (h:iH a b):¬(a.x*b.w=b.x*a.w/\a.y*b.w=b.y*a.w/\a.z*b.w=b.z*a.w):=by
 unfold iH at h;omega
theorem mcA {a b c d e f g h l:Int} (H:tn ⟨a,b,c⟩ ⟨d,e,f⟩ ⟨g,h,l⟩=0):(g*c-a*l)*e=(g*f-d*l)*b+(d*c-a*f)*h:=by
 unfold tn at H;dsimp only at H;grind
theorem mcB {a b c d e f g h l:Int} (H:tn ⟨a,b,c⟩ ⟨d,e,f⟩ ⟨g,h,l⟩=0):(h*c-b*l)*d=(h*f-e*l)*a+(e*c-b*f)*g:=by
 unfold tn at H;dsimp only at H;grind
theorem mcI (a c d f g l:Int):(g*c-a*l)*d=(g*f-d*l)*a+(d*c-a*f)*g:=by grind
theorem mcW (a c d f g l:Int):(g*c-a*l)*f=(g*f-d*l)*c+(d*c-a*f)*l:=by grind
theorem xl1 {a b:V4} (h:iH a b):a.x*b.w<=b.x*a.w:=by
 rcases h with h|⟨h,_⟩
 ·exact Int.le_of_lt h
 ·exact Int.le_of_eq h
theorem xl2 {a b:V4} (h:iH a b) (e:b.x*a.w-a.x*b.w=0):a.y*b.w<=b.y*a.w:=by
 rcases h with h|⟨_,h|⟨h,_⟩⟩
 ·exact absurd (Int.eq_of_sub_eq_zero e).symm (Int.ne_of_lt h)
 ·exact Int.le_of_lt h
 ·exact Int.le_of_eq h
theorem xl3 {a b:V4} (h:iH a b) (e:b.x*a.w-a.x*b.w=0) (e':b.y*a.w-a.y*b.w=0):a.z*b.w<=b.z*a.w:=by
 rcases h with h|⟨_,h|⟨_,h⟩⟩
 ·exact absurd (Int.eq_of_sub_eq_zero e).symm (Int.ne_of_lt h)
 ·exact absurd (Int.eq_of_sub_eq_zero e').symm (Int.ne_of_lt h)
 ·exact Int.le_of_lt h
theorem Jx (wi:0<i.w) (wj:0<j.w) (wk:0<k.w) (yX:iH i j) (OZ:iH j k) (h:Zr (aL i j k)):BD i j k:=by
 have QE:=C8 yX;have QD:=C8 OZ;obtain ⟨hx,hy,hz,hw⟩:=h;have xs:=mcW i.x i.w j.x j.w k.x k.w;have ys:=mcW i.y i.w j.y j.w k.y k.w;have zs:=mcW i.z i.w j.z j.w k.z k.w
 have n1:¬(j.x*i.w=i.x*j.w/\j.y*i.w=i.y*j.w/\j.z*i.w=i.z*j.w):=λq=>QE ⟨q.1.symm,q.2.1.symm,q.2.2.symm⟩;have big:∀ {A B D:Int},0<=A->0<=D->B*j.w=D*i.w+A*k.w->(0<B)\/(A=0/\D=0):=λ{A B D} hA hD e=>by
  by_cases z:A=0/\D=0
  ·exact .inr z
  ·refine .inl ?_;have x:=zbS hD (zav wi);have y:=zbS hA (zav wk);have p:0<B*j.w:=by
    rcases zbB hA with q|q
    ·have:=zar q wk;omega
    ·rcases zbB hD with q' | q'
     ·have:=zar q' wi;omega
     ·exact absurd ⟨q.symm,q'.symm⟩ z
   exact Int.pos_of_mul_pos_left p wj
 have ax:0<=j.x*i.w-i.x*j.w:=Int.sub_nonneg_of_le (xl1 yX)
 have dx:0<=k.x*j.w-j.x*k.w:=Int.sub_nonneg_of_le (xl1 OZ)
 rcases big ax dx xs with B|⟨a0,d0⟩
 ·exact nW wj ax dx B (mcI _ _ _ _ _ _) (mcA hz) (mcB hy) xs n1 QD
 have ay:0<=j.y*i.w-i.y*j.w:=Int.sub_nonneg_of_le (xl2 yX a0)
 have dy:0<=k.y*j.w-j.y*k.w:=Int.sub_nonneg_of_le (xl2 OZ d0)
 rcases big ay dy ys with B|⟨b0,e0⟩
 ·exact nW wj ay dy B (mcB hz) (mcI _ _ _ _ _ _) (mcA hx) ys n1 QD
 have az:0<=j.z*i.w-i.z*j.w:=Int.sub_nonneg_of_le (xl3 yX a0 b0)
 have dz:0<=k.z*j.w-j.z*k.w:=Int.sub_nonneg_of_le (xl3 OZ d0 e0)
 rcases big az dz zs with B|⟨c0,f0⟩
 ·exact nW wj az dz B (mcA hy) (mcB hx) (mcI _ _ _ _ _ _) zs n1 QD
 ·exfalso;exact n1 ⟨Int.eq_of_sub_eq_zero a0,Int.eq_of_sub_eq_zero b0,Int.eq_of_sub_eq_zero c0⟩
theorem GG (n:Nat) (f h:Nat->Int):∃ M:Int,0<=M/\∀ q,q<n->f q<0->M*f q+h q<0:=by
 induction n with
 | zero=>exact ⟨0,zdT _,λq hq=>absurd hq (zdf _)⟩
 | succ n ih=>
  obtain ⟨M,M0,hM⟩:=ih;refine ⟨M+((h n).natAbs+1:Nat) ,by omega,λq hq fq=>?_⟩;by_cases z:q=n
  ·subst z;have a:M*f q<=0:=zap M0 (zav fq);have b:(((h q).natAbs+1:Nat):Int)*f q<=-(((h q).natAbs+1:Nat):Int):=by
    have:=Int.mul_le_mul_of_nonneg_left (show f q<=-1 by omega) (show (0:Int)<=(((h q).natAbs+1:Nat):Int) by omega);omega
   rw [Int.add_mul];omega
  ·have a:=hM q (by omega) fq;have b:(((h n).natAbs+1:Nat):Int)*f q<=0:=zap (by omega) (zav fq);rw [Int.add_mul];omega
def comb (M:Int) (a b:V4):V4:=⟨M*a.x+b.x,M*a.y+b.y,M*a.z+b.z,M*a.w+b.w⟩
theorem eF (M:Int) (a b q:V4):dot (comb M a b) q=M*dot a q+dot b q:=by unfold comb dot;grind
def bD (c:Nat->V4) (n i:Nat):Prop:=∃ g,dot g (c i)=0/\∀ q,q<n->q≠i->dot g (c q)<0
theorem bE.mid (C:bE c n) (yX:i<j) (OZ:j<k) (hk:k<n) (h:Zr (aL (c i) (c j) (c k))):BD (c i) (c j) (c k):=
 Jx (C.pos _ (by omega)) (C.pos _ (by omega)) (C.pos _ hk) (C.lex _ _ yX (by omega)) (C.lex _ _ OZ hk) h
theorem bD.gR (h:bD c n j) (hi:i<n) (hk:k<n) (ni:i≠j) (nk:k≠j):¬BD (c i) (c j) (c k):=by
 rintro ⟨s,p,q,s0,p0,q0,e⟩;obtain ⟨g,g0,g1⟩:=h;have:=e g;rw [g0] at this;have a:=zaG p0 (g1 i hi ni);have b:=zaG q0 (g1 k hk nk);simp at this;omega
theorem a8 (h:Zr (aL a b d)):Zr (aL b a d)/\Zr (aL a d b):=by
 constructor
 ·refine Zr.of λs=>?_;have:=BL a b d s;unfold cG at this;rw [this,h.dot];rfl
 ·refine Zr.of λs=>?_;have:=G4 a b d s;unfold cG at this;rw [this,h.dot];rfl
theorem bE.yH (C:bE c n) (hi:i<n) (hj:j<n) (hk:k<n) (ij:i≠j) (jk:j≠k) (ik:i≠k) (ci:bD c n i) (cj:bD c n j) (ck:bD c n k):¬Zr (aL (c i) (c j) (c k)):=by
 intro h;have key:∀ a b d:Nat,a<b->b<d->d<n->bD c n b->¬Zr (aL (c a) (c b) (c d)):=λa b d ab bd dn cb z=>cb.gR (by omega) dn (by omega) (by omega) (C.mid ab bd dn z);have h1:=a8 h;have h2:=a8 h1.1;have h3:=a8 h1.2;have h4:=a8 h2.2;rcases zab i j with a|a|a
 ·rcases zab j k with b|b|b
  ·exact key i j k a b hk cj h
  ·exact jk b
  ·rcases zab i k with d|d|d
   ·exact key i k j d b hj ck h1.2
   ·exact ik d
   ·exact key k i j d a hj ci h3.1
 ·exact ij a
 ·rcases zab i k with b|b|b
  ·exact key j i k a b hk ci h1.1
  ·exact ik b
  ·rcases zab j k with d|d|d
   ·exact key j k i d b hi ck h2.2
   ·exact jk d
   ·exact key k j i d a hi cj h4.1
theorem ly (h:Nz pl) (ha:dot pl a=0) (hb:dot pl b=0) (hd:dot pl d=0) (z:T pl a b d=0):Zr (aL a b d):=by
 obtain ⟨m,m0,e⟩:=g7 h;refine Zr.of λs=>?_;have:=e a b d ha hb hd s;rw [z,zbi] at this;rcases zaf.mp this with q|q
 ·omega
 ·exact q
theorem bE.zD (C:bE c n) (hn:0<n):bD c n 0:=by
 have w0:=C.pos 0 hn;let gx:V4:=⟨-(c 0).w,0,0,(c 0).x⟩;let gy:V4:=⟨0,-(c 0).w,0,(c 0).y⟩;let gz:V4:=⟨0,0,-(c 0).w,(c 0).z⟩;have ex:∀ q,dot gx q=(c 0).x*q.w-q.x*(c 0).w:=λq=>by simp only [gx,dot];grind
 have ey:∀ q,dot gy q=(c 0).y*q.w-q.y*(c 0).w:=λq=>by simp only [gy,dot];grind
 have ez:∀ q,dot gz q=(c 0).z*q.w-q.z*(c 0).w:=λq=>by simp only [gz,dot];grind
 obtain ⟨M,_,hM⟩:=GG n (λq=>dot gy (c q)) (λq=>dot gz (c q));obtain ⟨N,_,hN⟩:=GG n (λq=>dot gx (c q)) (λq=>dot (comb M gy gz) (c q));refine ⟨comb N gx (comb M gy gz),?_,λq hq q0=>?_⟩
 ·rw [eF,eF,ex,ey,ez];grind
 ·have l:=C.lex 0 q (by omega) hq;unfold iH at l;rw [eF];by_cases zx:dot gx (c q)<0
  ·exact hN q hq zx
  ·have x0:dot gx (c q)=0:=by rw [ex] at zx ⊢;omega
   rw [x0,zbi,zbj,eF];rw [ex] at x0;by_cases zy:dot gy (c q)<0
   ·exact hM q hq zy
   ·have y0:dot gy (c q)=0:=by rw [ey] at zy ⊢;omega
    rw [y0,zbi,zbj,ez];rw [ey] at y0;omega
def Ok (c:Nat->V4) (pl:V4) (i f q:Nat):Prop:=0<=T pl (c i) (c f) (c q)/\(T pl (c i) (c f) (c q)=0->((q:Int)-i).natAbs<=((f:Int)-i).natAbs)
def dU (c:Nat->V4) (pl:V4) (i f m:Nat):Bool:=decide (T pl (c i) (c f) (c m)<0) || (decide (T pl (c i) (c f) (c m)=0)&&decide (((f:Int)-i).natAbs<((m:Int)-i).natAbs))
theorem Aq (h:dU c pl i f m=false):Ok c pl i f m:=by
 unfold dU at h;rw [Bool.or_eq_false_iff,Bool.and_eq_false_iff,zdn,zdn,zdn] at h;refine ⟨by omega,λz=>?_⟩;rcases h.2 with q|q
 ·exact absurd z q
 ·omega
theorem FF (hz:Nz pl) (ci:bD c n i) (si:dot pl (c i)=0) (fn:f<n) (mn:m<n) (qn:q<n) (sf:dot pl (c f)=0) (sm:dot pl (c m)=0) (sq:dot pl (c q)=0)
  (h:dU c pl i f m=true) (o:Ok c pl i f q):Ok c pl i m q:=by
 unfold dU at h;rw [Bool.or_eq_true,zcw,zbk,zbk,zbk] at h;have im:m≠i:=by
  rintro rfl;rw [N9] at h;rcases h with h|h
  ·omega
  ·have:=h.2;simp at this
 by_cases hq:q=i
 ·subst hq;unfold Ok;rw [N9];exact ⟨zdT _,λ_=>by simp⟩
 by_cases hf:f=i
 ·subst hf;exfalso;have:=o.2 (GO _ _ _);simp at this;omega
 obtain ⟨g,g0,g1⟩:=ci;have gf:=g1 f fn hf;have gm:=g1 m mn im;have gq:=g1 q qn hq;have k:=Ep hz g si sf sm sq;rw [g0] at k;have e:T pl (c i) (c m) (c q)*dot g (c f)=T pl (c i) (c f) (c q)*dot g (c m)-T pl (c i) (c f) (c m)*dot g (c q):=by omega
 have o1:=o.1;have a1:T pl (c i) (c f) (c q)*dot g (c m)<=0:=zap o1 (zav gm);rcases h with h|⟨h,hl⟩
 ·have a2:0<T pl (c i) (c f) (c m)*dot g (c q):=zbq h gq;have a3:T pl (c i) (c m) (c q)*dot g (c f)<0:=by omega
  have a4:0<T pl (c i) (c m) (c q):=by
   rcases zci (T pl (c i) (c m) (c q)) 0 with z|z|z
   ·have:=zbq z gf;omega
   ·rw [z] at a3;simp at a3
   ·exact z
  exact ⟨by omega,λz=>by omega⟩
 ·rw [h] at e;simp at e;refine ⟨?_,λz=>?_⟩
  ·rcases zbE (T pl (c i) (c m) (c q)) 0 with z|z
   ·have:=zbq z gf;omega
   ·exact z
  ·rw [z] at e;simp at e;have:=zaf.mp e.symm;have t0:T pl (c i) (c f) (c q)=0:=by
    rcases this with z|z
    ·exact z
    ·omega
   have:=o.2 t0;omega
theorem FH (i m:Nat):Ok c pl i m m:=⟨by rw [Sv];exact zdT _,λ_=>ZQ _⟩
structure Nx (c:Nat->V4) (n:Nat) (pl:V4) (i f:Nat):Prop where
 lt:f<n
 on:dot pl (c f)=0
 ok:∀ q,q<n->dot pl (c q)=0->Ok c pl i f q
def Lo (c:Nat->V4) (n:Nat) (pl:V4):Prop:=∀ q,q<n->dot pl (c q)<=0
theorem C7 (C:bE c n) (hi:i<n) (hf:f<n) (hq:q<n) (fi:f≠i) (qi:q≠i) (qf:q≠f) (ci:bD c n i) (z:Zr (aL (c i) (c f) (c q))) (le:((q:Int)-i).natAbs<=((f:Int)-i).natAbs) :
  BD (c i) (c q) (c f)\/BD (c f) (c q) (c i):=by
 have h1:=a8 z;have h2:=a8 h1.1;have h3:=a8 h1.2;have h4:=a8 h2.2;rcases zab i q with a|a|a
 ·rcases zab i f with b|b|b
  ·exact .inl (C.mid a (by omega) hf h1.2)
  ·exact absurd b.symm fi
  ·exact absurd (C.mid b a hq h1.1) (ci.gR hf hq (by omega) (by omega))
 ·exact absurd a.symm qi
 ·rcases zab i f with b|b|b
  ·exact absurd (C.mid a b hf h3.1) (ci.gR hq hf (by omega) (by omega))
  ·exact absurd b.symm fi
  ·exact .inr (C.mid (show f<q by omega) a hi h2.2)
theorem Nx.oQ (C:bE c n) (hz:Nz pl) (S:Lo c n pl) (hi:i<n) (ci:bD c n i) (si:dot pl (c i)=0) (fi:f≠i) (N:Nx c n pl i f):bD c n f:=by
 obtain ⟨g,g0,g1⟩:=id ci;obtain ⟨m,m0,e⟩:=g7 hz;have hs:=vP hz;let ed:=aL (c i) (c f) pl;have ee:∀ q,dot pl q=0->m*dot ed q=-(dot pl pl*T pl (c i) (c f) q):=λq hq=>by
  have a:=e (c i) (c f) q si N.on hq pl;have b:=xX (c i) (c f) pl q;show m*cG (c i) (c f) pl q=_;rw [show cG (c i) (c f) pl q=-cG (c i) (c f) q pl by omega,zer,a]
 let hh:V4:=⟨-(g.x*(c f).w),-(g.y*(c f).w),-(g.z*(c f).w),dot g (c f)-g.w*(c f).w⟩;have eh:∀ q,dot hh q=dot g (c f)*q.w-dot g q*(c f).w:=λq=>by simp only [hh,dot];grind
 have gf:=g1 f N.lt fi;have Wd:∀ q,q<n->q≠f->dot pl (c q)=0->T pl (c i) (c f) (c q)=0->dot hh (c q)<0:=λq qn qf sq t0=>by
  have RB:dot hh (c i)<0:=by
   rw [eh,g0];have:=Int.mul_neg_of_neg_of_pos gf (C.pos i hi);omega
  have Uy:dot hh (c f)=0:=by rw [eh];grind
  by_cases qi:q=i
  ·rw [qi];exact RB
  have z:=ly hz si N.on sq t0;rcases C7 C hi N.lt qn fi qi qf ci z ((N.ok q qn sq).2 t0) with ⟨s,p,r,s0,p0,r0,k⟩|⟨s,p,r,s0,p0,r0,k⟩
  ·have k:=k hh;rw [Uy] at k;have:=zaG p0 RB;rcases zbE (dot hh (c q)) 0 with y|y
   ·exact y
   ·have:=zbS (zav s0) y;simp at k;omega
  ·have k:=k hh;rw [Uy] at k;have:=zaG r0 RB;rcases zbE (dot hh (c q)) 0 with y|y
   ·exact y
   ·have:=zbS (zav s0) y;simp at k;omega
 obtain ⟨M,M0,hM⟩:=GG n (λq=>dot ed (c q)) (λq=>dot hh (c q));obtain ⟨M',ZF,X3⟩:=GG n (λq=>dot pl (c q)) (λq=>dot (comb M ed hh) (c q));refine ⟨comb M' pl (comb M ed hh),?_,λq qn qf=>?_⟩
 ·rw [eF,eF,N.on,eh,show dot ed (c f)=cG (c i) (c f) pl (c f) from rfl,uu];grind
 ·rw [eF];by_cases z:dot pl (c q)<0
  ·exact X3 q qn z
  ·have sq:dot pl (c q)=0:=by have:=S q qn;omega
   rw [sq,zbi,zbj,eF];have o:=N.ok q qn sq;have e1:=ee (c q) sq;by_cases t0:T pl (c i) (c f) (c q)=0
   ·have h0:=Wd q qn qf sq t0;rw [t0,zbi,Int.neg_zero] at e1;have:dot ed (c q)=0:=by
     rcases zaf.mp e1 with y|y
     ·omega
     ·exact y
    rw [this];omega
   ·refine hM q qn ?_;have p:=zar hs (show 0<T pl (c i) (c f) (c q) by have:=o.1;omega);rcases zbE (dot ed (c q)) 0 with y|y
    ·exact y
    ·have:=zbS (zav m0) y;omega
theorem Nx.one (C:bE c n) (hz:Nz pl) (hi:i<n) (ci:bD c n i) (si:dot pl (c i)=0) (N:Nx c n pl i f) (N':Nx c n pl i f'):f=f':=by
 have a:=N.ok f' N'.lt N'.on;have b:=N'.ok f N.lt N.on;have e:=Sx pl (c i) (c f) (c f');have t0:T pl (c i) (c f) (c f')=0:=by have:=a.1;have:=b.1;omega
 have l1:=a.2 t0;have l2:=b.2 (by omega);by_cases q:f=f'
 ·exact q
 exfalso;by_cases fi:f=i
 ·subst fi;simp at l1;omega
 by_cases R4:f'=i
 ·subst R4;simp at l2;omega
 have z:=ly hz si N.on N'.on t0;have h1:=a8 z;have h3:=a8 h1.2;rcases Nat.lt_or_ge f i with y|y
 ·exact absurd (C.mid y (by omega) N'.lt h1.1) (ci.gR N.lt N'.lt fi R4)
 ·exact absurd (C.mid (show f'<i by omega) (by omega) N.lt h3.1) (ci.gR N'.lt N.lt R4 fi)
theorem Nx.inj (C:bE c n) (hz:Nz pl) (hi:i<n) (hj:j<n) (ci:bD c n i) (cj:bD c n j) (cf:bD c n f) (si:dot pl (c i)=0) (sj:dot pl (c j)=0) (fi:f≠i) (fj:f≠j) (N:Nx c n pl i f) (N':Nx c n pl j f):i=j:=by
 by_cases q:i=j
 ·exact q
 exfalso;have a:=(N.ok j hj sj).1;have b:=(N'.ok i hi si).1;have e1:=N8 pl (c i) (c j) (c f);have e2:=Sx pl (c i) (c f) (c j);have t0:T pl (c i) (c f) (c j)=0:=by omega
 exact C.yH hi N.lt hj (zaD fi) fj q ci cf cj (ly hz si N.on sj t0)
theorem BD.rev (h:BD a b d):BD d b a:=by
 obtain ⟨s,p,q,s0,p0,q0,e⟩:=h;exact ⟨s,q,p,s0,q0,p0,λg=>by have:=e g;omega⟩
theorem bE.B4 (C:bE c n) (hi:i<n) (hj:j<n) (hk:k<n) (ij:i≠j) (jk:j≠k) (ik:i≠k) (h:Zr (aL (c i) (c j) (c k))) :
  BD (c i) (c j) (c k)\/BD (c j) (c i) (c k)\/BD (c i) (c k) (c j):=by
 have h1:=a8 h;have h2:=a8 h1.1;have h3:=a8 h1.2;have h4:=a8 h2.2;rcases zab i j with a|a|a
 ·rcases zab j k with b|b|b
  ·exact .inl (C.mid a b hk h)
  ·exact absurd b jk
  ·rcases zab i k with d|d|d
   ·exact .inr (.inr (C.mid d b hj h1.2))
   ·exact absurd d ik
   ·exact .inr (.inl (C.mid d a hj h3.1).rev)
 ·exact absurd a ij
 ·rcases zab i k with b|b|b
  ·exact .inr (.inl (C.mid a b hk h1.1))
  ·exact absurd b ik
  ·rcases zab j k with d|d|d
   ·exact .inr (.inr (C.mid d b hi h2.2).rev)
   ·exact absurd d jk
   ·exact .inl (C.mid d a hi h4.1).rev
theorem bE.CV (C:bE c n) (hi:i<n) (hj:j<n) (hk:k<n) (ij:i≠j) (si:dot pl (c i)=0) (sj:dot pl (c j)=0) (sk:dot pl (c k)≠0):¬Zr (aL (c i) (c j) (c k)):=by
 intro z;have jk:j≠k:=by rintro rfl;exact sk sj
 have ik:i≠k:=by rintro rfl;exact sk si
 rcases C.B4 hi hj hk ij jk ik z with ⟨s,p,q,s0,p0,q0,e⟩|⟨s,p,q,s0,p0,q0,e⟩|⟨s,p,q,s0,p0,q0,e⟩
 ·have:=e pl;rw [si,sj] at this;have h:q*dot pl (c k)=0:=by omega
  rcases zaf.mp h with z|z
  ·omega
  ·exact sk z
 ·have:=e pl;rw [si,sj] at this;have h:q*dot pl (c k)=0:=by omega
  rcases zaf.mp h with z|z
  ·omega
  ·exact sk z
 ·have:=e pl;rw [si,sj] at this;have h:s*dot pl (c k)=0:=by omega
  rcases zaf.mp h with z|z
  ·omega
  ·exact sk z
theorem Hy (h:¬Zr r) (w:0<a.w) (e:dot r a=0):Nz r:=by
 unfold Nz;by_cases x:r.x=0
 ·by_cases y:r.y=0
  ·by_cases z:r.z=0
   ·exfalso;refine h ⟨x,y,z,?_⟩;unfold dot at e;rw [x,y,z] at e;have e2:r.w*a.w=0:=by simpa using e
    rcases zaf.mp e2 with q|q
    ·exact q
    ·omega
   ·exact .inr (.inr z)
  ·exact .inr (.inl y)
 ·exact .inl x
structure wg (c:Nat->V4) (n:Nat) (pl e f:V4):Prop where
 sup:Lo c n pl
 e0:dot pl e=0
 f0:dot pl f=0
 ed:∀ m,m<n->dot pl (c m)=0->∀ p,p<n->dot pl (c p)<0->cG e f (c p) (c m)<=0
def Sw (c:Nat->V4) (pl e f:V4) (j:Nat) (r:V4):Prop:=
 (r=neg pl/\∀ q,q<j->dot pl (c q)=0)\/∃ p,p<j/\dot pl (c p)<0/\r=aL e f (c p)/\∀ q,q<j->cG e f (c p) (c q)<=0
theorem Sw.start:Sw c pl e f 0 (neg pl):=.inl ⟨rfl,λq h=>absurd h (zdf _)⟩
theorem Sw.keep (N:wg c n pl e f) (hj:j<n) (h:Sw c pl e f j r) (z:¬0<dot r (c j)):Sw c pl e f (j+1) r:=by
 rcases h with ⟨rfl,h⟩|⟨p,pj,p0,rfl,h⟩
 ·refine .inl ⟨rfl,λq hq=>?_⟩;by_cases e:q=j
  ·subst e;rw [i7] at z;have:=N.sup q hj;omega
  ·exact h q (by omega)
 ·refine .inr ⟨p,by omega,p0,rfl,λq hq=>?_⟩;by_cases e:q=j
  ·subst e;unfold cG;omega
  ·exact h q (by omega)
theorem Sw.turn (N:wg c n pl e f) (hj:j<n) (h:Sw c pl e f j r) (z:0<dot r (c j)):Sw c pl e f (j+1) (aL e f (c j)):=by
 rcases h with ⟨rfl,h⟩|⟨p,pj,p0,rfl,h⟩
 ·rw [i7] at z;refine .inr ⟨j,by omega,by omega,rfl,λq hq=>?_⟩;by_cases y:q=j
  ·subst y;rw [ur];exact zdT _
  ·exact N.ed q (by omega) (h q (by omega)) j hj (by omega)
 ·have jn:dot pl (c j)<0:=by
   have:=N.sup j hj;rcases zbB this with y|y
   ·exact y
   ·exfalso;have:=N.ed j hj y p (by omega) p0;unfold cG at this;omega
  refine .inr ⟨j,by omega,jn,rfl,λq hq=>?_⟩;by_cases y:q=j
  ·subst y;rw [ur];exact zdT _
  ·have a:=Sm pl (c p) (c j) (c q) N.e0 N.f0;have h1:=h q (by omega);have h2:=N.sup q (by omega);have z':0<cG e f (c p) (c j):=z;have k1:=zdj h1 (zav jn);have k2:=zap (zav z') h2;rcases zbE 0 (cG e f (c j) (c q)) with y|y
   ·have:=zaG y p0;omega
   ·exact y
theorem Nx.HK (hz:Nz pl) (S:Lo c n pl) (si:dot pl (c i)=0) (N:Nx c n pl i f):wg c n pl (c f) (c i):=by
 refine ⟨S,N.on,si,λm mn sm p pn p0=>?_⟩;obtain ⟨k,k0,e⟩:=g7 hz;have a:=e (c i) (c f) (c m) si N.on sm (c p);have b:=(N.ok m mn sm).1;have d1:=BL (c i) (c f) (c p) (c m);have d2:=xX (c i) (c f) (c m) (c p);have d3:=zbd (zav p0) b;rw [<-a] at d3;rcases zbE 0 (cG (c f) (c i) (c p) (c m)) with y|y
 ·have:=zar k0 (show 0<cG (c i) (c f) (c m) (c p) by omega);omega
 ·exact y
structure Fc (c:Nat->V4) (n:Nat) (pl:V4):Prop where
 nz:Nz pl
 sup:Lo c n pl
 off:∃ q,q<n/\dot pl (c q)<0
 Pw:∃ i j k,i<n/\j<n/\k<n/\dot pl (c i)=0/\dot pl (c j)=0/\dot pl (c k)=0/\T pl (c i) (c j) (c k)≠0
theorem Sw.face (C:bE c n) (hi:i<n) (F:Fc c n pl) (ci:bD c n i) (si:dot pl (c i)=0) (fi:f≠i) (N:Nx c n pl i f) (h:Sw c pl (c f) (c i) n r) (cf:bD c n f) :
  Fc c n r/\dot r (c f)=0/\dot r (c i)=0/\Nx c n r f i:=by
 rcases h with ⟨rfl,h⟩|⟨p,pj,p0,rfl,h⟩
 ·obtain ⟨q,qn,q0⟩:=F.off;have:=h q qn;omega
 have r1:dot (aL (c f) (c i) (c p)) (c f)=0:=G3 _ _ _;have r2:dot (aL (c f) (c i) (c p)) (c i)=0:=uu _ _ _;have r3:dot (aL (c f) (c i) (c p)) (c p)=0:=ur _ _ _;have OH:=C.CV (k:=p) N.lt hi pj fi N.on si (by omega);have nz:=Hy OH (C.pos i hi) r2;have sup:Lo c n (aL (c f) (c i) (c p)):=h;generalize er:aL (c f) (c i) (c p)=r at *;obtain ⟨m,m0,e⟩:=g7 nz;have tp:0<T r (c f) (c i) (c p):=by
  have a:=e (c f) (c i) (c p) r1 r2 r3 r;have b:cG (c f) (c i) (c p) r=dot r r:=by unfold cG;rw [er]
  have d:=vP nz;rw [b] at a;have a':=zar m0 d;rw [a] at a';rcases zci (T r (c f) (c i) (c p)) 0 with y|y|y
  ·have:=zaG d y;omega
  ·rw [y] at a';simp at a'
  ·exact y
 have tq:∀ q,q<n->dot r (c q)=0->0<=T r (c f) (c i) (c q):=λq qn sq=>by
  have k:=Ep nz pl r1 r2 r3 sq;rw [N.on,si] at k;have h2:=F.sup q qn;have k1:=zap (zav tp) h2;rcases zbE (T r (c f) (c i) (c q)) 0 with y|y
  ·have:=zbq y p0;omega
  ·exact y
 have off:∃ q,q<n/\dot r (c q)<0:=by
  -- a point of zY old land off zY line
  obtain ⟨a,b,d,an,bn,dn,sa,sb,sd,t⟩:=F.Pw;have one:∃ q,q<n/\dot pl (c q)=0/\T pl (c f) (c i) (c q)≠0:=by
   by_cases y1:T pl (c f) (c i) (c a)=0
   ·by_cases y2:T pl (c f) (c i) (c b)=0
    ·by_cases y3:T pl (c f) (c i) (c d)=0
     ·exfalso
      -- all three on zY line
      obtain ⟨g,g0,g1⟩:=ci;have gf:=g1 f N.lt fi;have k1:=Ep F.nz g si N.on sa sb;have k2:=Ep F.nz g si N.on sa sd;have k3:=Ep F.nz g si N.on sb sd;have u1:=Ln pl (c f) (c i) (c a);have u2:=Ln pl (c f) (c i) (c b);have u3:=Ln pl (c f) (c i) (c d);rw [g0] at k1 k2 k3;have v1:T pl (c i) (c a) (c b)*dot g (c f)=0:=by
       rw [show T pl (c i) (c f) (c b)=0 by omega,show T pl (c i) (c f) (c a)=0 by omega] at k1;simp at k1;simpa using k1
      have v2:T pl (c i) (c a) (c d)*dot g (c f)=0:=by
       rw [show T pl (c i) (c f) (c d)=0 by omega,show T pl (c i) (c f) (c a)=0 by omega] at k2;simp at k2;simpa using k2
      have v3:T pl (c i) (c b) (c d)*dot g (c f)=0:=by
       rw [show T pl (c i) (c f) (c d)=0 by omega,show T pl (c i) (c f) (c b)=0 by omega] at k3;simp at k3;simpa using k3
      have w1:T pl (c i) (c a) (c b)=0:=by rcases zaf.mp v1 with z|z<;>omega
      have w2:T pl (c i) (c a) (c d)=0:=by rcases zaf.mp v2 with z|z<;>omega
      have w3:T pl (c i) (c b) (c d)=0:=by rcases zaf.mp v3 with z|z<;>omega
      have k4:=Ep F.nz ⟨0,0,0,1⟩ si sa sb sd;rw [w1,w2,w3] at k4;have wi:=C.pos i hi;have e4:dot ⟨0,0,0,1⟩ (c i)=(c i).w:=by unfold dot;simp
      rw [e4] at k4;rw [zcT,zcT,zcT,zef,Int.add_zero,zef] at k4;rcases zaf.mp k4 with z|z
      ·exact t z
      ·omega
     ·exact ⟨d,dn,sd,y3⟩
    ·exact ⟨b,bn,sb,y2⟩
   ·exact ⟨a,an,sa,y1⟩
  obtain ⟨q,qn,sq,tz⟩:=one;refine ⟨q,qn,?_⟩;have hs:=sup q qn;rcases zbB hs with y|y
  ·exact y
  ·exfalso;obtain ⟨m2,K9,e2⟩:=g7 F.nz;have a:=e2 (c f) (c i) (c q) N.on si sq (c p);have b:cG (c f) (c i) (c p) (c q)=0:=by unfold cG;rw [er];exact y
   have d1:=xX (c f) (c i) (c p) (c q);rw [show cG (c f) (c i) (c q) (c p)=0 by omega] at a;rw [zbi] at a;rcases zaf.mp a.symm with z|z
   ·omega
   ·exact tz z
 have F':Fc c n r:=⟨nz,sup,off,f,i,p,N.lt,hi,pj,r1,r2,r3,by omega⟩;refine ⟨F',r1,r2,hi,r2,λq qn sq=>⟨tq q qn sq,λt0=>?_⟩⟩;have cc:=ly nz r1 r2 sq t0;by_cases qf:q=f
 ·subst qf;simp
 by_cases qi:q=i
 ·subst qi;exact ZQ _
 -- on zY line of zY two Pf,between Vs
 have ng:¬((i:Int)-f).natAbs<((q:Int)-f).natAbs:=λlt=>by
  have h1:=a8 cc;have h2:=a8 h1.1;have h3:=a8 h1.2;have h4:=a8 h2.2;rcases zab i f with a|a|a
  ·rcases zab q i with b|b|b
   ·exact ci.gR qn N.lt qi fi (C.mid b a N.lt h4.1)
   ·exact qi b
   ·rcases zab q f with d|d|d
    ·omega
    ·exact qf d
    ·exact cf.gR hi qn (zaD fi) qf (C.mid a d qn h1.1)
  ·exact fi a.symm
  ·rcases zab q i with b|b|b
   ·rcases zab q f with d|d|d
    ·exact cf.gR qn hi qf (zaD fi) (C.mid d a hi h3.1)
    ·exact qf d
    ·omega
   ·exact qi b
   ·exact ci.gR N.lt qn fi qi (C.mid a b qn cc)
 omega
def we:V4:=⟨0,0,1,0⟩
def CH (c:Nat->V4):V4:=⟨-(c 0).w,0,0,(c 0).x⟩
theorem j7 (q:V4):dot (CH c) q=(c 0).x*q.w-q.x*(c 0).w:=by unfold dot CH;grind
theorem Du (C:bE c n) (hn:0<n):wg c n (CH c) we (c 0):=by
 have w0:=C.pos 0 hn;refine ⟨λq hq=>?_,?_,?_,λm mn sm p pn p0=>?_⟩
 ·rw [j7];by_cases z:q=0
  ·subst z;omega
  ·have l:=C.lex 0 q (by omega) hq;unfold iH at l;omega
 ·rw [j7];unfold we;simp
 ·rw [j7];omega
 ·rw [j7] at sm p0;by_cases z:m=0
  ·subst z;rw [uu];exact zdT _
  ·have l:=C.lex 0 m (by omega) mn;unfold iH at l;have yl:0<=(c m).y*(c 0).w-(c 0).y*(c m).w:=by omega
   have k:(c 0).w*cG we (c 0) (c p) (c m)=((c 0).x*(c p).w-(c p).x*(c 0).w)*((c m).y*(c 0).w-(c 0).y*(c m).w)
    -((c 0).w*(c p).y-(c 0).y*(c p).w)*((c 0).x*(c m).w-(c m).x*(c 0).w):=by
    unfold cG dot aL tn we;grind
   rw [sm,zbi,zef] at k;have k2:=zbd (zav p0) yl;rcases zbE 0 (cG we (c 0) (c p) (c m)) with y|y
   ·have:=zar w0 y;omega
   ·exact y
theorem G5 (C:bE c n) (hn:0<n) (h:Sw c (CH c) we (c 0) n r):Nz r/\Lo c n r/\dot r (c 0)=0/\((∀ q,q<n->dot r (c q)=0)\/∃ p,p<n/\p≠0/\dot r (c p)=0):=by
 have w0:=C.pos 0 hn;have N:=Du C hn;rcases h with ⟨rfl,h⟩|⟨p,pj,p0,rfl,h⟩
 ·refine ⟨.inl (by show -(-(c 0).w)≠0;omega),λq hq=>by rw [i7,h q hq];decide,by rw [i7,h 0 hn];rfl,.inl λq hq=>by rw [i7,h q hq];rfl⟩
 ·refine ⟨.inr (.inl ?_),h,uu _ _ _,.inr ⟨p,pj,?_,ur _ _ _⟩⟩
  ·rw [j7] at p0;have:(aL we (c 0) (c p)).y=(c 0).x*(c p).w-(c p).x*(c 0).w:=by unfold aL tn we;dsimp only;grind
   omega
  ·rintro rfl;rw [N.f0] at p0;omega
def gI (c:Nat->V4) (n:Nat):Prop:=∀ i j k q,i<n->j<n->k<n->q<n->cG (c i) (c j) (c k) (c q)=0
theorem zm (hz:Nz r) (h:∀ q,q<n->dot r (c q)=0):gI c n:=λi j k q hi hj hk hq=>by
 obtain ⟨m,m0,e⟩:=g7 hz;have a:=e (c i) (c j) (c k) (h i hi) (h j hj) (h k hk) (c q);rw [h q hq,zcT] at a;rcases zaf.mp a with z|z
 ·omega
 ·exact z
theorem DJ (C:bE c n) (hn:0<n) (hu:Sw c (CH c) we (c 0) n up) (N:Nx c n up 0 f) (h:Sw c up (c f) (c 0) n r) :
  (gI c n/\∀ q,q<n->dot r (c q)=0)\/(¬gI c n/\Fc c n r/\dot r (c 0)=0/\∃ q,q<n/\dot r (c q)≠0):=by
 obtain ⟨uz,us,u0,ua⟩:=G5 C hn hu;rcases h with ⟨rfl,h⟩|⟨p,pj,p0,rfl,h⟩
 ·exact .inl ⟨zm uz h,λq hq=>by rw [i7,h q hq];rfl⟩
 ·have f0:f≠0:=by
   rintro rfl;rcases ua with z|⟨x,xn,x0,sx⟩
   ·have:=z p pj;omega
   ·have:=(N.ok x xn sx).2 (GO _ _ _);simp at this;omega
  have r1:dot (aL (c f) (c 0) (c p)) (c f)=0:=G3 _ _ _;have r2:dot (aL (c f) (c 0) (c p)) (c 0)=0:=uu _ _ _;have r3:dot (aL (c f) (c 0) (c p)) (c p)=0:=ur _ _ _;have OH:=C.CV (k:=p) N.lt hn pj f0 N.on u0 (by omega);have nz:=Hy OH (C.pos 0 hn) r2;by_cases z:∀ q,q<n->dot (aL (c f) (c 0) (c p)) (c q)=0
  ·exact .inl ⟨zm nz z,z⟩
  ·refine .inr ?_;obtain ⟨q,hq⟩:=Classical.not_forall.mp z;obtain ⟨qn,q0⟩:q<n/\dot (aL (c f) (c 0) (c p)) (c q)≠0:=by
    by_cases y:q<n
    ·exact ⟨y,λe=>hq λ_=>e⟩
    ·exact absurd (λw=>absurd w y) hq
   refine ⟨λF=>q0 (F f 0 p q N.lt hn pj qn),⟨nz,h,⟨q,qn,?_⟩,f,0,p,N.lt,hn,pj,r1,r2,r3,λt=>OH (ly nz r1 r2 r3 t)⟩,r2,q,qn,q0⟩;have:=h q qn;unfold cG at this;omega
theorem FL (C:bE c n) (h:∃ q,q<n/\dot r (c q)≠0):¬∀ q,q<n->dot r (c q)=0:=λz=>by
 obtain ⟨q,a,b⟩:=h;exact b (z q a)
theorem Fc.ne (F:Fc c n pl) (N:Nx c n pl i f):f≠i:=by
 rintro rfl;obtain ⟨a,b,d,an,bn,dn,sa,sb,sd,t⟩:=F.Pw;have k:∀ q,q<n->dot pl (c q)=0->q=f:=λq hq sq=>by
  have:=(N.ok q hq sq).2 (GO _ _ _);simp at this;omega
 rw [k a an sa,k b bn sb,GO] at t;exact t rfl
theorem Fc.side (C:bE c n) (F:Fc c n pl) (hi:i<n) (hf:f<n) (ci:bD c n i) (si:dot pl (c i)=0) (sf:dot pl (c f)=0) (fi:f≠i):∃ q,q<n/\dot pl (c q)=0/\T pl (c i) (c f) (c q)≠0:=by
 obtain ⟨a,b,d,an,bn,dn,sa,sb,sd,t⟩:=F.Pw;by_cases y1:T pl (c i) (c f) (c a)=0
 ·by_cases y2:T pl (c i) (c f) (c b)=0
  ·by_cases y3:T pl (c i) (c f) (c d)=0
   ·exfalso;obtain ⟨g,g0,g1⟩:=ci;have gf:=g1 f hf fi;have k1:=Ep F.nz g si sf sa sb;have k2:=Ep F.nz g si sf sa sd;have k3:=Ep F.nz g si sf sb sd;rw [g0,y1,y2] at k1;rw [g0,y1,y3] at k2;rw [g0,y2,y3] at k3;have v1:T pl (c i) (c a) (c b)*dot g (c f)=0:=by simp at k1;simpa using k1
    have v2:T pl (c i) (c a) (c d)*dot g (c f)=0:=by simp at k2;simpa using k2
    have v3:T pl (c i) (c b) (c d)*dot g (c f)=0:=by simp at k3;simpa using k3
    have w1:T pl (c i) (c a) (c b)=0:=by rcases zaf.mp v1 with z|z<;>omega
    have w2:T pl (c i) (c a) (c d)=0:=by rcases zaf.mp v2 with z|z<;>omega
    have w3:T pl (c i) (c b) (c d)=0:=by rcases zaf.mp v3 with z|z<;>omega
    have k4:=Ep F.nz ⟨0,0,0,1⟩ si sa sb sd;rw [w1,w2,w3] at k4;have wi:=C.pos i hi;have e4:dot ⟨0,0,0,1⟩ (c i)=(c i).w:=by unfold dot;simp
    rw [e4] at k4;rw [zcT,zcT,zcT,zef,Int.add_zero,zef] at k4;rcases zaf.mp k4 with z|z
    ·exact t z
    ·omega
   ·exact ⟨d,dn,sd,y3⟩
  ·exact ⟨b,bn,sb,y2⟩
 ·exact ⟨a,an,sa,y1⟩
def at' (r:List Nat) (j:Nat):Nat:=r.getD j 0
structure Ch (c:Nat->V4) (n:Nat) (pl:V4) (first:Nat) (r:List Nat) (cur:Nat):Prop where
 pos:0<r.length
 fst:at' r 0=first
 nd:r.Nodup
 on:∀ i∈r,i<n/\dot pl (c i)=0/\bD c n i
 nx:∀ j,j+1<r.length->Nx c n pl (at' r j) (at' r (j+1))
 cur:Nx c n pl (at' r (r.length-1)) cur
structure Rg (c:Nat->V4) (n:Nat) (pl:V4) (r:List Nat):Prop where
 pos:0<r.length
 nd:r.Nodup
 on:∀ i∈r,i<n/\dot pl (c i)=0/\bD c n i
 nx:∀ j,j<r.length->Nx c n pl (at' r j) (at' r ((j+1)%r.length))
theorem getD_at {r:List Nat} {j:Nat} (h:j<r.length):r.getD j 0=r[j]:=by rw [ZP,ZJ h];rfl
theorem gp (h:j<r.length):at' r j∈r:=by
 unfold at';rw [getD_at h];exact Z4 h
theorem iQ (nd:r.Nodup) (hi:i<r.length) (hj:j<r.length) (h:at' r i=at' r j):i=j:=by
 unfold at' at h;rw [getD_at hi,getD_at hj] at h;exact (getElem_inj nd).mp h
theorem sP (h:x∈r):∃ j,j<r.length/\at' r j=x:=by
 obtain ⟨j,hj,e⟩:=zaS.mp h;exact ⟨j,hj,by unfold at';rw [getD_at hj];exact e⟩
theorem mR:at' (r++[x]) j=if j<r.length then at' r j else if j=r.length then x else 0:=by
 unfold at';by_cases z:j<r.length
 ·rw [ZW z,ZP,Z0 z,<-ZP]
 ·rw [ZU z,ZP,Z2 (by omega)];by_cases y:j=r.length
  ·subst y;simp
  ·rw [ZU y,zdM (by simp;omega)];rfl
theorem Ch.start {first cur:Nat} (hf:first<n) (sf:dot pl (c first)=0) (cf:bD c n first) (N:Nx c n pl first cur):Ch c n pl first [first] cur:=
 ⟨by simp,rfl,by simp,λi hi=>by rw [ZT.mp hi];exact ⟨hf,sf,cf⟩,λj hj=>by simp at hj,N⟩
theorem Ch.last {first cur:Nat} (h:Ch c n pl first r cur):at' r (r.length-1)∈r:=gp (by have:=h.pos;omega)
theorem Ch.oQ (C:bE c n) (F:Fc c n pl) {first cur:Nat} (h:Ch c n pl first r cur):cur<n/\dot pl (c cur)=0/\bD c n cur:=by
 have l:=h.on _ h.last;exact ⟨h.cur.lt,h.cur.on,h.cur.oQ C F.nz F.sup l.1 l.2.2 l.2.1 (F.ne h.cur)⟩
theorem Ch.new (C:bE c n) (F:Fc c n pl) {first cur:Nat} (h:Ch c n pl first r cur) (z:cur≠first):cur∉r:=λm=>by
 obtain ⟨j,hj,e⟩:=sP m;have p:=h.pos;have j0:j≠0:=by rintro rfl;rw [h.fst] at e;exact z e.symm
 have N1:=h.nx (j-1) (by omega);rw [show j-1+1=j by omega,e] at N1;have l:=h.on _ h.last;have l2:=h.on _ (gp (r:=r) (j:=j-1) (by omega));have cc:=(h.oQ C F).2.2;have:=Nx.inj C F.nz l2.1 l.1 l2.2.2 l.2.2 cc l2.2.1 l.2.1 (F.ne N1) (F.ne h.cur) N1 h.cur;have:=iQ h.nd (by omega) (by omega) this;omega
theorem Ch.step (C:bE c n) (F:Fc c n pl) {first cur NS:Nat} (h:Ch c n pl first r cur) (z:cur≠first) (N:Nx c n pl cur NS):Ch c n pl first (r++[cur]) NS:=by
 have nw:=h.new C F z;have p:=h.pos;refine ⟨by simp,?_,?_,λi hi=>?_,λj hj=>?_,?_⟩
 ·rw [mR,ZW p];exact h.fst
 ·rw [zeg];refine ⟨h.nd,by simp,λa ha b hb=>?_⟩;rw [ZT.mp hb];rintro rfl;exact nw ha
 ·rcases ZZ.mp hi with y|y
  ·exact h.on i y
  ·rw [ZT.mp y];exact h.oQ C F
 ·rw [ZV,zak] at hj;rw [mR,mR,ZW (by omega)];by_cases y:j+1<r.length
  ·rw [ZW y];exact h.nx j y
  ·rw [ZU y,ZW (by omega),show j=r.length-1 by omega];exact h.cur
 ·rw [ZV,zak,zdk,mR,ZU (by omega),ZW rfl];exact N
theorem Ch.done (h:Ch c n pl first r first):Rg c n pl r:=by
 refine ⟨h.pos,h.nd,h.on,λj hj=>?_⟩;by_cases y:j+1<r.length
 ·rw [zal y];exact h.nx j y
 ·have e:j+1=r.length:=by omega
  rw [e,Nat.mod_self,h.fst,show j=r.length-1 by omega];exact h.cur
theorem wN (C:bE c n) (F1:Fc c n p1) (F2:Fc c n p2) (ha:a<n) (ca:bD c n a) (s1:dot p1 (c a)=0) (s2:dot p2 (c a)=0) (N1:Nx c n p1 a b) (N2:Nx c n p2 a b) :
  ∃ u v:Int,0<u/\0<v/\∀ s,u*dot p1 s=v*dot p2 s:=by
 obtain ⟨x1,h1,o1,t1⟩:=F1.side C ha N1.lt ca s1 N1.on (F1.ne N1);obtain ⟨x2,h2,o2,t2⟩:=F2.side C ha N2.lt ca s2 N2.on (F2.ne N2);have Oy:0<T p1 (c a) (c b) (c x1):=by have:=(N1.ok x1 h1 o1).1;omega
 have Ox:0<T p2 (c a) (c b) (c x2):=by have:=(N2.ok x2 h2 o2).1;omega
 obtain ⟨m1,MG,e1⟩:=g7 F1.nz;obtain ⟨m2,K9,e2⟩:=g7 F2.nz;have k1:=e1 (c a) (c b) (c x1) s1 N1.on o1 (c x2);have k2:=e2 (c a) (c b) (c x2) s2 N2.on o2 (c x1);have YV:=xX (c a) (c b) (c x1) (c x2);have l1:=F1.sup x2 h2;have l2:=F2.sup x1 h1;have q1:=zbd l1 (zav Oy);have q2:=zbd l2 (zav Ox);have w0:cG (c a) (c b) (c x1) (c x2)=0:=by
  rcases zci (cG (c a) (c b) (c x1) (c x2)) 0 with z|z|z
  ·have:=zar K9 (show 0<cG (c a) (c b) (c x2) (c x1) by omega);omega
  ·exact z
  ·have:=zar MG z;omega
 rw [w0,zbi] at k1;have TJ:dot p1 (c x2)=0:=by
  rcases zaf.mp k1.symm with z|z
  ·exact z
  ·omega
 have t3:=(N1.ok x2 h2 TJ).1;have f1:=e1 (c a) (c b) (c x2) s1 N1.on TJ;have f2:=e2 (c a) (c b) (c x2) s2 N2.on o2;have Vx:0<T p1 (c a) (c b) (c x2):=by
  rcases zbB t3 with z|z
  ·exact z
  ·exfalso;obtain ⟨q,qn,q0⟩:=F2.off;have g1:=f1 (c q);have g2:=f2 (c q);rw [<-z,zbi] at g1;have:cG (c a) (c b) (c x2) (c q)=0:=by
    rcases zaf.mp g1 with y|y
    ·omega
    ·exact y
   rw [this,zbi] at g2;rcases zaf.mp g2.symm with y|y<;>omega
 refine ⟨m2*T p1 (c a) (c b) (c x2),m1*T p2 (c a) (c b) (c x2),zar K9 Vx,zar MG Ox,λs=>?_⟩;have g1:=f1 s;have g2:=f2 s;grind
theorem E1 (F1:Fc c n p1) (F2:Fc c n p2) (u0:0<u) (v0:0<v) (h:∀ s,u*dot p1 s=v*dot p2 s):(∀ s,dot p1 s=0↔dot p2 s=0)/\∀ i f,dot p1 (c i)=0->Nx c n p1 i f->Nx c n p2 i f:=by
 have z:∀ s,dot p1 s=0↔dot p2 s=0:=λs=>by
  have e:=h s;constructor
  ·intro y;rw [y,zbi] at e;rcases zaf.mp e.symm with x|x
   ·omega
   ·exact x
  ·intro y;rw [y,zbi] at e;rcases zaf.mp e with x|x
   ·omega
   ·exact x
 refine ⟨z,λi f si N=>⟨N.lt,(z _).mp N.on,λq qn sq=>?_⟩⟩;obtain ⟨m1,MG,e1⟩:=g7 F1.nz;obtain ⟨m2,K9,e2⟩:=g7 F2.nz;obtain ⟨y,yn,y0⟩:=F1.off;have Vc:dot p2 (c y)<0:=by
  have e:=h (c y);have a:=zaG u0 y0;rcases zbE (dot p2 (c y)) 0 with x|x
  ·exact x
  ·have:=zbS (zav v0) x;omega
 have S7:=(z _).mpr sq;have g1:=e1 (c i) (c f) (c q) si N.on S7 (c y);have g2:=e2 (c i) (c f) (c q) ((z _).mp si) ((z _).mp N.on) sq (c y);have o:=N.ok q qn S7;have a1:=zbd (zav y0) o.1;have vn:cG (c i) (c f) (c q) (c y)<=0:=by
  rcases zbE 0 (cG (c i) (c f) (c q) (c y)) with x|x
  ·have:=zar MG x;omega
  ·exact x
 refine ⟨?_,λt0=>o.2 ?_⟩
 ·rcases zbE (T p2 (c i) (c f) (c q)) 0 with x|x
  ·have:=zbq Vc x;have:=zap (zav K9) vn;omega
  ·exact x
 ·rw [t0,zbi] at g2;have v0:cG (c i) (c f) (c q) (c y)=0:=by
   rcases zaf.mp g2 with x|x
   ·omega
   ·exact x
  rw [v0,zbi] at g1;rcases zaf.mp g1.symm with x|x
  ·omega
  ·exact x
def fL (r:List Nat):List (Nat×Nat):=(List.range r.length).map λj=>(at' r j,at' r ((j+1)%r.length))
theorem gT:(x,y)∈fL r↔∃ j,j<r.length/\x=at' r j/\y=at' r ((j+1)%r.length):=by
 unfold fL;rw [mem_map];constructor
 ·rintro ⟨j,hj,e⟩;rw [zeh] at hj;cases e
  exact ⟨j,hj,rfl,rfl⟩
 ·rintro ⟨j,hj,rfl,rfl⟩;exact ⟨j,zaj.mpr hj,rfl⟩
theorem Rg.step (R:Rg c n pl r) (h:(x,y)∈fL r):x∈r/\y∈r/\Nx c n pl x y:=by
 obtain ⟨j,hj,rfl,rfl⟩:=gT.mp h;exact ⟨gp hj,gp (zaK _ R.pos),R.nx j hj⟩
theorem Rg.has (C:bE c n) (R:Rg c n pl r) (hz:Nz pl) (hx:x∈r) (N:Nx c n pl x y):(x,y)∈fL r:=by
 obtain ⟨j,hj,rfl⟩:=sP hx;have o:=R.on _ hx;exact gT.mpr ⟨j,hj,rfl,Nx.one C hz o.1 o.2.2 o.2.1 N (R.nx j hj)⟩
theorem Rg.all (R:Rg c n pl r) (P:Nat->Prop) (ha:a∈r) (pa:P a) (hs:∀ x y,(x,y)∈fL r->P x->P y):∀ x∈r,P x:=by
 obtain ⟨i,hi,rfl⟩:=sP ha;have k:∀ t,P (at' r ((i+t)%r.length)):=λt=>by
  induction t with
  | zero=>rw [Nat.add_zero,zal hi];exact pa
  | succ t ih=>
   refine hs _ _ (gT.mpr ⟨(i+t)%r.length,zaK _ R.pos,rfl,?_⟩) ih;rw [Nat.mod_add_mod];rfl
 intro x hx;obtain ⟨j,hj,rfl⟩:=sP hx;have:=k (r.length-i+j);rw [show i+(r.length-i+j)=j+r.length by omega,zbT,zal hj] at this;exact this
theorem Rg.OL (R:Rg c n pl r):(fL r).Nodup:=by
 unfold fL;rw [zbv,zbY];refine zcZ ?_ nodup_range;intro a b ha hb XX e;rw [zeh] at ha hb;exact XX (iQ R.nd ha hb (Prod.mk.inj e).1)
theorem Rg.share (C:bE c n) (F1:Fc c n p1) (F2:Fc c n p2) (R1:Rg c n p1 r1) (R2:Rg c n p2 r2) (h1:(a,b)∈fL r1) (h2:(a,b)∈fL r2):∀ w,w∈fL r1->w∈fL r2:=by
 obtain ⟨a1,b1,N1⟩:=R1.step h1;obtain ⟨a2,b2,N2⟩:=R2.step h2;have o1:=R1.on a a1;have o2:=R2.on a a2;obtain ⟨u,v,u0,v0,h⟩:=wN C F1 F2 o1.1 o1.2.2 o1.2.1 o2.2.1 N1 N2;obtain ⟨_,k⟩:=E1 (c:=c) F1 F2 u0 v0 h;have WL:∀ x∈r1,x∈r2:=R1.all (·∈r2) a1 a2 λx y sV hx=>by
  obtain ⟨x1,y1,N⟩:=R1.step sV;have:=R2.has C F2.nz hx (k x y (R1.on x x1).2.1 N);exact (R2.step this).2.1
 rintro ⟨x,y⟩ hw;obtain ⟨x1,y1,N⟩:=R1.step hw;exact R2.has C F2.nz (WL x x1) (k x y (R1.on x x1).2.1 N)
theorem Rg.three (C:bE c n) (F:Fc c n pl) (R:Rg c n pl r):3<=r.length:=by
 have p:=R.pos;have n0:=R.nx 0 p;have o:=R.on _ (gp p);have ne:=F.ne n0;by_cases z:r.length=1
 ·exfalso;rw [z] at ne;exact ne rfl
 by_cases y:r.length=2
 ·exfalso;have n1:=R.nx 1 (by omega);rw [y] at n0 n1 ne;simp at n0 n1 ne;obtain ⟨q,qn,sq,t⟩:=F.side C o.1 n0.lt o.2.2 o.2.1 n0.on ne;have a:=(n0.ok q qn sq).1;have b:=(n1.ok q qn sq).1;have e:=Ln pl (c (at' r 0)) (c (at' r 1)) (c q);omega
 omega
theorem Rg.turn (C:bE c n) (F:Fc c n pl) (R:Rg c n pl r) (h1:(x,y)∈fL r) (h2:(y,z)∈fL r):0<T pl (c x) (c y) (c z):=by
 obtain ⟨x1,y1,N1⟩:=R.step h1;obtain ⟨_,z1,N2⟩:=R.step h2;have ox:=R.on x x1;have oy:=R.on y y1;have oz:=R.on z z1;have a:=(N1.ok z oz.1 oz.2.1).1;rcases zbB a with q|q
 ·exact q
 ·exfalso;by_cases xz:x=z
  ·subst xz;obtain ⟨q,qn,sq,t⟩:=F.side C ox.1 N1.lt ox.2.2 ox.2.1 N1.on (F.ne N1);have a:=(N1.ok q qn sq).1;have b:=(N2.ok q qn sq).1;have e:=Ln pl (c x) (c y) (c q);omega
  ·exact C.yH ox.1 oy.1 oz.1 (zaD (F.ne N1)) (zaD (F.ne N2)) xz ox.2.2 oy.2.2 oz.2.2 (ly F.nz ox.2.1 oy.2.1 oz.2.1 q.symm)
def bL (F:List (List Nat×V4)):List (Nat×Nat):=F.flatMap λp=>fL p.1
structure Wr (c:Nat->V4) (n:Nat) (F:List (List Nat×V4)):Prop where
 fc:∀ p∈F,Fc c n p.2/\Rg c n p.2 p.1
 nd:(bL F).Nodup
theorem Wr.one (F:Fc c n p) (R:Rg c n p r):Wr c n [(r,p)]:=by
 refine ⟨λq hq=>?_,?_⟩
 ·rw [ZT.mp hq];exact ⟨F,R⟩
 ·unfold bL;simp only [zdt,flatMap_nil,zbr];exact R.OL
theorem Wr.add (C:bE c n) (W:Wr c n L) (F:Fc c n p) (R:Rg c n p r) (h1:w∈fL r) (h2:w∉bL L):Wr c n (L++[(r,p)]):=by
 refine ⟨λq hq=>?_,?_⟩
 ·rcases ZZ.mp hq with y|y
  ·exact W.fc q y
  ·rw [ZT.mp y];exact ⟨F,R⟩
 ·unfold bL;rw [zdu,zeg];refine ⟨W.nd,by simp only [zdt,flatMap_nil,zbr];exact R.OL,?_⟩;rintro ⟨a,b⟩ ha _ hb rfl;simp only [zdt,flatMap_nil,zbr] at hb;obtain ⟨q,qL,hq⟩:=zbN.mp ha;obtain ⟨Fq,Rq⟩:=W.fc q qL;exact h2 (zbN.mpr ⟨q,qL,R.share C F Fq Rq hb hq w h1⟩)
theorem iW (L:List (List Nat×V4)) (r:List Nat) (p:V4):bL (L++[(r,p)])=bL L++fL r:=by
 unfold bL;rw [zdu];simp
theorem dA (r:List Nat):(fL r).length=r.length:=by unfold fL;simp
end cK
namespace L2
open PySem PySem.Spec PyProof.Rows
def Sz (n:Nat) (x:Int):Prop:=x.natAbs<2 ^ n
theorem Sz.mono (h:Sz m x) (Xl:m<=n):Sz n x:=ZY h (Nat.pow_le_pow_right (by decide) Xl)
theorem Sz.le (h:Sz n y) (sV:x.natAbs<=y.natAbs):Sz n x:=zcd sV h
theorem Sz.mul (hx:Sz m x) (hy:Sz n y):Sz (m+n) (x*y):=by
 unfold Sz at *;rw [zbF,Nat.pow_add];exact Nat.mul_lt_mul'' hx hy
theorem Sz.add (hx:Sz n x) (hy:Sz n y):Sz (n+1) (x+y):=by
 unfold Sz at *;have:=Int.natAbs_add_le x y;rw [Nat.pow_succ];omega
theorem Sz.sub (hx:Sz n x) (hy:Sz n y):Sz (n+1) (x-y):=by
 unfold Sz at *;have:=Int.natAbs_sub_le x y;rw [Nat.pow_succ];omega
theorem Sz.neg (hx:Sz n x):Sz n (-x):=by unfold Sz at *;rw [Int.natAbs_neg];exact hx
theorem Sz.cO (hx:Sz m x) (hy:Sz n y) (hm:m+n<=134217728:=by decide):IntMulOk x y:=
 PySem.IntMulOk.of_le (PySem.intBits_le_iff.mpr hx) (PySem.intBits_le_iff.mpr hy) hm
theorem aR:me X (binaryOp .Mult) (rI IntMulOk λi j=>.int (i*j)):=OG λ_ _ _ _ _ _ _ hc q=>mul_int q hc
def SI (_ j:Int):Prop:=j≠0/\Sz 9000 j
theorem SI.np (h:SI i j):Builtin.divisionGoesByPylong i j=false:=by
 refine PyProof.noPylong_of_log2 ?_;have h0:j.natAbs≠0:=λe=>h.1 (Int.natAbs_eq_zero.mp e);exact (Nat.log2_lt h0).mpr h.2
def GZ (_ j:Int):Prop:=0<j/\Sz 9000 j
theorem bX:me X (binaryOp .FloorDiv) (rI GZ λi j=>.int (i / j)):=OG λi j _ _ _ _ _ hc q=>by
 have h1:(0:Int)<j:=hc.1;exact floordiv_int (by omega) (by rw [zcN i (by omega)];exact q) (.inl (SI.np ⟨by omega,hc.2⟩))
structure bK (P:Program) (w:World) (K:ZB) (mg:W1) (base:Heap) (CX:xU) (x:Str) (k:Nat) (ps:List Str) (sp:Sp):Prop where
 ex:∃ f fd,qA P w K mg base CX k f fd ps sp/\mg x=some (.ref f)/\PySem.W.keepIn K (.ref f)=true/\Binds K fd ps []
section
variable {X:Cx} {CX:xU} {k j:Nat} {ps:List Str} {sp:Sp} {E:XK} {x:Str} {p pos:Pos} {e:Expr} {es:List Expr} {t:TA}
theorem aA (h:bK X.prog X.w X.K X.mg X.base CX x k ps sp) (hr:df j X.A) (hx:Passes CX X E) (ha:PA X (e::es) t) (hk:k<=j:=by decide) (hg:Gl X x:=by rfl) (vC:(x==("__debug__":Str))=false:=by decide)
  (he:starEach (e::es) X.env=(false,eval e X.env)::starEach es X.env:=by rfl) (lK:(backTo pos (starEach es X.env)).any (·.1)=false:=by rfl) :
  PE X (.Call (.Name x p) (e::es) [] pos) (ya sp [] E t):=by
 obtain ⟨f,fd,F,hm,Eu,hb⟩:=h.ex;exact FA F (hr.mono hk) hg hm Eu hb .nil hx ha vC he lK
end
inductive ug:V->Value->Prop where
 | ty (n:String):ug (.ty n) (.type n)
 | ref (a:Addr):ug (.ref a) (.ref a)
def Hr (K:ZB):List V->Hp->VK->Prop:=λxs H Q=>∃ x c t u b,xs=[x,c]/\kd K H x t/\ug c u/\PySem.W.kitOne K t u=some b/\Q (.bl b) H
theorem i8:cR X (.builtin "isinstance") (Hr X.K):=by
 intro pins s σ H xs us Q I r h;obtain ⟨x,c,t,u,b,rfl,ty,rc,e,q⟩:=h;obtain ⟨u1,u2,rfl,r1,r2⟩:=vals2 r;have e2:u2=u:=by
  cases rc<;>(cases r2;rfl)
 subst e2;exact AH I r1 ty e λtk=>⟨.bl b,H,I.tok _,rfl,q⟩
section
variable {X:Cx} {pins:WF} {σ:St} {H:Hp} {s:Shared} {h':Heap}
theorem Inv.ku {t':Nat} {ch:XL} {a:Addr} {o:HO} (I:Inv X pins σ H s) (k:∀ b u,b∉ch->s.heap.get? b=some u->h'.get? b=some u) (hf:∀ b∈ch,jB X pins H b) (hp:s.heap.objs.size<=a)
  (new:aW X.prog X.w (upd H a o) h' a o):Inv X pins σ (upd H a o) { s with heap:=h',toks:=t' }:=by
 have hn:=I.aZ.fresh hp;have yJ:∀ b u,H b=some u->b∉ch:=λb u e z=>by rw [(hf b z).1] at e;cases e
 refine I.step (g':=s.gens) (d':=s.drawn) (ch:=ch) (λb hb=>?_) (λb o _ _ hc e _=>k b o hc e) (λb o _ _ hc e _=>⟨o.slots,k b o hc e⟩) (λb u _ e n=>?_) (λb o hc e=>⟨o,k b o hc e⟩)
  (λb xs e=>by rw [aq (aU e hn)];exact e) (λb u v e=>by rw [aq (aU e hn)];exact e) (λb ps e=>⟨#[],by rw [aq (aU e hn),e];simp⟩) (λm hm=>?_) (λb u e=>?_) I.bare
 ·obtain ⟨f0,f1,f2,f3,f4,f5⟩:=hf b hb;exact ⟨f3,f1,f4,f5⟩
 ·rw [aq (Z1 (ZY (ZM e) hp))];exact n
 ·obtain ⟨o,es,ep,ho,r⟩:=hm;exact ⟨o,es,ep,k _ o (λz=>(hf _ z).2.1 rfl) ho,r⟩
 ·by_cases hb:b=a
  ·subst hb;rw [ae] at e;cases e;exact new
  ·rw [aq hb] at e;refine (I.aZ b u e).eB (λc v hc q=>k c v ?_ q) (λc q=>by rw [aq (aU q hn)];exact q) λc xs q=>by rw [aq (aU q hn)];exact q
   rcases hc with z|z
   ·rw [z];exact yJ b u e
   ·exact yJ c _ z
theorem Inv.rR {t':Nat} {ch:XL} (I:Inv X pins σ H s) (k:∀ b u,b∉ch->s.heap.get? b=some u->h'.get? b=some u) (hf:∀ b∈ch,jB X pins H b):Inv X pins σ H { s with heap:=h',toks:=t' }:=by
 have yJ:∀ b u,H b=some u->b∉ch:=λb u e z=>by rw [(hf b z).1] at e;cases e
 refine I.step (g':=s.gens) (d':=s.drawn) (ch:=ch) (λb hb=>?_) (λb o _ _ hc e _=>k b o hc e) (λb o _ _ hc e _=>⟨o.slots,k b o hc e⟩) (λb u _ e n=>n) (λb o hc e=>⟨o,k b o hc e⟩)
  (λb xs e=>e) (λb u v e=>e) (λb ps e=>⟨#[],by rw [e];simp⟩) (λm hm=>?_) (λb u e=>?_) I.bare
 ·obtain ⟨f0,f1,f2,f3,f4,f5⟩:=hf b hb;exact ⟨f3,f1,f4,f5⟩
 ·obtain ⟨o,es,ep,ho,r⟩:=hm;exact ⟨o,es,ep,k _ o (λz=>(hf _ z).2.1 rfl) ho,r⟩
 ·refine (I.aZ b u e).eB (λc v hc q=>k c v ?_ q) (λc q=>q) λc xs q=>q;rcases hc with z|z
  ·rw [z];exact yJ b u e
  ·exact yJ c _ z
end
def Ic (K:ZB) (a:Addr):It:=
 ⟨λi H=>∃ xs x,aH K H a xs/\xs[i]?=some x,
  λi H x H'=>∃ p y,H p=none/\x=.ref p/\(∀ xs,aH K H a xs->xs[i]?=some y)/\H'=upd H p (.tup [.int i,y]),
  λi H=>∃ xs,aH K H a xs/\xs.length<=i⟩
theorem zW {P:Program} {w:World} {K:ZB} {elts:List Expr} {kx:Nat} {px:Pos} (a e it:Addr) (yW:e≠it) :
  Turn P w K (.Tuple elts kx px) (Ic K a) [e,it] e (λi h=>(∃ old,IsEnum h e it (i:Nat) old)/\h.IsListIter it a i) where
 mem:=by simp
 obj:=λi h st b hb=>by
  obtain ⟨⟨old,he⟩,hit⟩:=st;rcases zas.mp hb with rfl|hb
  ·exact ⟨_,he,λv z=>by cases z⟩
  ·obtain rfl:b=it:=by simpa using hb
   obtain ⟨o,e1,c,d⟩:=hit;exact ⟨o,e1,λv z=>by rw [d] at z;cases z⟩
 keep:=λi h h' st k=>by
  obtain ⟨⟨old,he⟩,hit⟩:=st;exact ⟨⟨old,k e (by simp) _ he⟩,hit.at λo q=>k it (by simp) o q⟩
 item:=by
  intro X hP hw hK hc i pins s σ H E I hf st hg;subst hP hw hK;obtain ⟨⟨old,he⟩,hit⟩:=st;obtain ⟨xs,x,hq,hx⟩:=hg;obtain ⟨aJ,rv,p,hz⟩:=I.list hq;obtain ⟨u,hu,ru⟩:=rv.get hx;have Ni:e<s.heap.objs.size:=ZM he;have RA:it<s.heap.objs.size:=by obtain ⟨_,q,_⟩:=id hit;exact ZM q
  refine wpAny_pyNext_enum_item he hit p.isList (x:=u) (by simpa using hu) yW λh' ho JX hT hsz hk=>⟨_,rfl,?_⟩;refine wpAny_letOwnedTupleGo_enum ho λh2 Dv sW=>?_;replace sW:Heap.SameBut e h' h2:=sW;have hn:H s.heap.objs.size=none:=I.aZ.fresh (ZQ _);have kk:∀ b o,b∉[e,it]->s.heap.get? b=some o->h2.get? b=some o:=λb o hb q=>(sW.2 b λz=>hb (by simp [z])).trans (hk b o (λz=>hb (by simp [z])) (λz=>hb (by simp [z])) q);have Nm:h2.get? s.heap.objs.size=some { cls:=.type "tuple",data:=.seq #[.int i s.toks,u] }:=(sW.2 _ (zax Ni)).trans hT;refine ⟨.ref s.heap.objs.size,upd H s.heap.objs.size (.tup [.int i,x]),Inv.ku (s:=s) (h':=h2) (t':=s.toks+1) I kk hf (ZQ _) ⟨by simp only [zbg,zcM];rw [zbf];decide,[.int i s.toks,u],.cons ⟨_,rfl⟩ (.cons ru .nil),⟨_,Nm,rfl,_,rfl⟩⟩,rfl,
   ⟨_,x,hn,rfl,λys hy=>by rw [I.jW hy hq];exact hx,rfl⟩,⟨⟨_,Dv⟩,JX.at λo q=>(sW.2 it (zaD yW)).trans q⟩,λb hb=>?_⟩
  rw [aq ?_]
  ·exact (hf b hb).1
  ·rcases zas.mp hb with rfl|hb
   ·exact Z1 Ni
   ·obtain rfl:b=it:=by simpa using hb
    exact Z1 RA
 done:=by
  intro X hP hw hK hc i pins s σ H E I hf st hg;subst hP hw hK;obtain ⟨⟨old,he⟩,hit⟩:=st;obtain ⟨xs,hq,hx⟩:=hg;obtain ⟨aJ,rv,p,hz⟩:=I.list hq;have hl:=rv.length;exact wpAny_pyNext_enum_end (I.ok.hd hc) he hit p.isList (by simp;omega) λh' eb=>⟨rfl,Inv.rR (t':=s.toks) (ch:=[e,it]) I (λb o hb q=>eb b o (λz=>hb (by simp [z])) q) hf⟩
 self:=λ_ _ _ _ _ st h=>by
  obtain ⟨⟨old,he⟩,hit⟩:=st;exact wpAny_pyIter_enum he h
def MO (K:ZB) (ta:TA):TI:=λσ H R=>ta σ H λvs H1=>∃ a,vs=[.ref a]/\(∃ xs,aH K H1 a xs)/\R (Ic K a) H1
theorem yF {X:Cx} {l:Expr} {ta:TA} {p pos:Pos} {elts:List Expr} {kx:Nat} {px:Pos} (hm:X.mg "enumerate"=none) (ha:PA X [l] ta) (hg:Gl X "enumerate":=by rfl) (hs:starEach [l] X.env=[(false,eval l X.env)]:=by rfl) :
  PI X (.Tuple elts kx px) (.Call (.Name "enumerate" p) [l] [] pos) (MO X.K ta):=by
 intro pins s σ H R I h;refine Call_ (eN I hg hm boot_enumerate (zaJ (cA (ha pos pins s σ H _ I h) λus s1 ⟨vs,H1,I1,r1,q1⟩=>?_) hs rfl));obtain ⟨a,rfl,⟨xs,hq⟩,q⟩:=q1;obtain ⟨u,rfl,ru⟩:=vals1 r1;cases ru
 obtain ⟨aJ,rv,pl,hz⟩:=I1.list hq;refine call_enumerate_list pl.isList λh' he hit hsz hk=>?_;refine wpAny_pyIter_enum he ?_;have I2:Inv X pins σ H1 { s1 with heap:=h' }:=I1.kept (t':=s1.toks) λb o e=>hk b o e;refine ⟨_,[s1.heap.objs.size+1,s1.heap.objs.size],_,_,H1,rfl,I2,zW a _ _ (Nat.succ_ne_self _),⟨⟨_,he⟩,hit⟩,λb hb=>?_,q⟩;rcases zas.mp hb with rfl|hb
 ·exact I1.qg (zbt _) (I1.aZ.fresh (zbt _))
 ·obtain rfl:b=s1.heap.objs.size:=by simpa using hb
  exact I1.qg (ZQ _) (I1.aZ.fresh (ZQ _))
theorem DD {K:ZB} {a:Addr} {xs:List V} {g:TG} {tb:TS} {D:Ends} {σ:St} {H:Hp} (Pv:Nat->St->Hp->Prop) (h0:Pv 0 σ H) (hl:∀ i σ H,i<=xs.length->Pv i σ H->aH K H a xs)
  (hs:∀ i x p σ H,xs[i]?=some x->Pv i σ H->H p=none->g (.ref p) σ (upd H p (.tup [.int i,x])) λσ2 H2=>tb { D with nx:=Pv (i+1),ct:=Pv (i+1),bk:=D.nx } σ2 H2) (hd:∀ σ H,Pv xs.length σ H->D.nx σ H) :
  ∃ W:Nat->Nat->St->Hp->Prop,(∃ m,W 0 m σ H)/\∀ i m σ H,W i m σ H->
   ((Ic K a).stop i H/\D.nx σ H)\/((Ic K a).go i H/\∃ N:St->Hp->Prop,(∀ σ' H',N σ' H'->∃ m',m'<m/\W (i+1) m' σ' H')/\∀ x H',(Ic K a).wx i H x H'->g x σ H' λσ2 H2=>tb { D with nx:=N,ct:=N,bk:=D.nx } σ2 H2):=by
 refine ⟨λi m σ H=>m=xs.length-i/\i<=xs.length/\Pv i σ H,⟨xs.length,by simp,Z7 _,h0⟩,?_⟩;rintro i m σ H ⟨rfl,hi,p⟩;have q:=hl i σ H hi p;by_cases dI:i<xs.length
 ·refine .inr ⟨⟨xs,xs[i],q,by simp [dI]⟩,Pv (i+1),λσ' H' p'=>⟨xs.length-(i+1),by omega,rfl,dI,p'⟩,λx H' y=>?_⟩;obtain ⟨r,y,hr,rfl,hy,rfl⟩:=y;exact hs i y r σ H (hy xs q) p hr
 ·have e:i=xs.length:=by omega
  subst e;exact .inl ⟨⟨xs,q,ZQ _⟩,hd σ H p⟩
theorem UV (h:σ[i]?=some (some v)) (q:Q v H):jG i σ H Q:=⟨v,h,q⟩
theorem r_c (q:Q v H):tC v σ H Q:=q
theorem TD (h:ta σ H λx H1=>tb σ H1 λy H2=>r x y H2 Q):K3 r ta tb σ H Q:=h
theorem P5 (h:ta σ H λx H1=>r x H1 Q):SX r ta σ H Q:=h
theorem Ma (q:Q (g i j) H):En g (.int i) (.int j) H Q:=⟨i,j,rfl,rfl,q⟩
theorem P8 (c:C i j) (q:Q (g i j) H):rI C g (.int i) (.int j) H Q:=⟨i,j,rfl,rfl,c,q⟩
theorem P7 (q:Q (g i) H):rU g (.int i) H Q:=⟨i,rfl,q⟩
theorem Mh (q:Q (.bl (decide (i=j))) H):Tj (.int i) (.int j) H Q:=⟨rfl,by rw [j8,zdI];exact q⟩
theorem Me (q:Q (.bl (!decide (i=j))) H):Ti (.int i) (.int j) H Q:=⟨rfl,by rw [j8,zdI];exact q⟩
theorem TW (h:t { D with nx:=u D } σ H):IE t u D σ H:=h
theorem IW (h:D.nx σ H):Hd D σ H:=h
theorem T0 (h:te σ H λx H1=>g x σ H1 D.nx):BX te g D σ H:=h
theorem UF (h:R (σ.set i (some v)) H):oK i v σ H R:=h
theorem Hq (h:te σ H D.rt):LR te D σ H:=h
theorem IY (h:te σ H λ_ H1=>D.nx σ H1):He te D σ H:=h
theorem Mg (h:c σ H λb H1=>if b=true then t D σ H1 else u D σ H1):LY c t u D σ H:=h
theorem IU (h:t σ H λx H'=>∃ k,x=.bl k/\R k H'):G8 t σ H R:=h
theorem VU (h:t σ H λx H'=>∃ k,x=.bl k/\R k H'):tB t σ H R:=h
theorem Qc {k:Bool} {R:Bool->Prop} (h:R k):∃ k',V.bl k=.bl k'/\R k':=⟨k,rfl,h⟩
theorem Md (h:t σ H λc H1=>R (!c) H1):LV t σ H R:=h
theorem Mj (h:t σ H λc H1=>if c=true then u σ H1 R else R false H1):L1 t u σ H R:=h
theorem P9 (h:t σ H λc H1=>if c=true then R true H1 else u σ H1 R):SY t u σ H R:=h
theorem I9 (h:ta σ H λx H1=>∃ c,x=.bl c/\if c=true then tb σ H1 Q else Q (.bl false) H1):Hj ta tb σ H Q:=h
theorem Mc (h:ta σ H λx H1=>∃ c,x=.bl c/\if c=true then Q (.bl true) H1 else tb σ H1 Q):LU ta tb σ H Q:=h
theorem IV (h:ta σ H λx H1=>∃ c,x=.bl c/\Q (.bl (!c)) H1):Hb ta σ H Q:=h
theorem a7 (h:R [] H):zZ σ H R:=h
theorem aO (h:ta σ H λx H1=>tr σ H1 λxs H2=>R (x::xs) H2):mU ta tr σ H R:=h
theorem iE (h:t σ H λvs H1=>sp (vs++[]) H1 Q E):ya sp [] E t σ H Q:=h
theorem nE (h:t σ H λvs H1=>r vs H1 Q):Ov r t σ H Q:=h
theorem Ho (h:t σ H λxs H1=>xs.length<=sizeLine/\∀ p,H1 p=none->Q (.ref p) (upd H1 p (.tup xs))):ID t σ H Q:=h
theorem Mf (h:t σ H λxs H1=>xs.length<=sizeLine/\∀ p,H1 p=none->Q (.ref p) (upd H1 p (.lst xs))):LW t σ H Q:=h
theorem Mb (h:ta σ H λvs H1=>∃ v w,vs=[v,w]/\D.nx ((σ.set i (some v)).set j (some w)) H1):LS i j ta D σ H:=h
theorem cH (h:wi σ H λJ H1=>∃ W:Nat->Nat->St->Hp->Prop,(∃ m,W 0 m σ H1)/\∀ i m σ H,W i m σ H->
 (J.stop i H/\D.nx σ H)\/(J.go i H/\∃ N:St->Hp->Prop,(∀ σ' H',N σ' H'->∃ m',m'<m/\W (i+1) m' σ' H')/\∀ x H',J.wx i H x H'->g x σ H' λσ2 H2=>tb { D with nx:=N,ct:=N,bk:=D.nx } σ2 H2)):LZ wi g tb D σ H:=h
theorem WO {A B:Prop} (h:A):if true=true then A else B:=F5 h
theorem WR {A B:Prop} (h:B):if false=true then A else B:=Dl h
theorem if2 {c A B:Prop} [Decidable c] (h1:c->A) (h2:¬c->B):if decide c=true then A else B:=by
 by_cases h:c
 ·rw [zad h];exact F5 (h1 h)
 ·rw [zah h];exact Dl (h2 h)
theorem vx {c A B:Prop} [Decidable c] (h1:¬c->A) (h2:c->B):if (!decide c)=true then A else B:=by
 by_cases h:c
 ·rw [zad h];exact Dl (h2 h)
 ·rw [zah h];exact F5 (h1 h)
theorem WN {b:Bool} {A B:Prop} (h1:b=true->A) (h2:b=false->B):if b=true then A else B:=by
 cases b
 ·exact Dl (h2 rfl)
 ·exact F5 (h1 rfl)
theorem lu:bootBuiltins "abs"=some (.builtin "abs"):=by decide +kernel
theorem cQ:bootBuiltins "len"=some (.builtin "len"):=by decide +kernel
theorem bY:bootBuiltins "isinstance"=some (.builtin "isinstance"):=by decide +kernel
theorem KI:bootBuiltins "int"=some (.type "int"):=by decide +kernel
theorem GD:bootBuiltins "bool"=some (.type "bool"):=by decide +kernel
theorem vY:bootBuiltins "tuple"=some (.type "tuple"):=by decide +kernel
theorem tV:bootBuiltins "list"=some (.type "list"):=by decide +kernel
theorem qk:bootBuiltins "ValueError"=some (.type "ValueError"):=by decide +kernel
structure Def (K:ZB) (mg:W1) (x:Str) (st:Stmt) (ps:List Str):Prop where
 ex:∃ f fd,KY K x x st f fd/\mg x=some (.ref f)/\Binds K fd ps []
theorem ao.upd (h:H p=none):ao H (upd H p o):=λb u e=>by rw [aq (aU e h)];exact e
section
variable {σ:St} {H:Hp} {Q:VK} {K:ZB}
theorem fN (h:SqT K H p xs) (hi:ja xs i=some v) (q:Q v H):Fi K (.ref p) (.int i) H Q:=⟨p,xs,i,v,rfl,rfl,h,hi,q⟩
theorem aT (h:aH K H p xs) (hi:ja xs i=some v) (q:Q v H):Fj K (.ref p) (.int i) H Q:=⟨p,xs,i,v,rfl,rfl,h,hi,q⟩
theorem sv (ty:kd K H x t) (hc:ug c u) (e:PySem.W.kitOne K t u=some b) (q:Q (.bl b) H):Hr K [x,c] H Q:=⟨x,c,t,u,b,rfl,ty,hc,e,q⟩
theorem kK (h:SqT K H a xs) (hl:xs.length=n) (q:t xs σ H R):Ki K n t (.ref a) σ H R:=⟨a,xs,rfl,h,hl,q⟩
theorem Fg (q:t v σ H λσ' H'=>u vs σ' H' R):HR t u (v::vs) σ H R:=⟨v,vs,rfl,q⟩
theorem IX (q:R σ H):Ny [] σ H R:=⟨rfl,q⟩
theorem F3:PySem.W.kitOne K (.type "int") (.type "int")=some true:=by simp [PySem.W.kitOne]
end
end L2
namespace Fr
structure YQ (a b t u:Int):Prop where
 pos:0<u
 co:Int.gcd t u=1
 eq:t*b=a*u
 ta:t.natAbs<=a.natAbs
 ub:u.natAbs<=b.natAbs
theorem k8 (a b:Int):((Int.gcd a b:Nat):Int) ∣ a:=Int.gcd_dvd_left _ _
theorem k7 (a b:Int):((Int.gcd a b:Nat):Int) ∣ b:=Int.gcd_dvd_right _ _
theorem i6 (a:Int) (hb:b≠0):0<Int.gcd a b:=Int.gcd_pos_of_ne_zero_right _ hb
theorem JB (hb:b≠0) (hd:d=if b<0 then -((Int.gcd a b:Nat):Int) else ((Int.gcd a b:Nat):Int)):YQ a b (a.fdiv d) (b.fdiv d):=by
 have g0:=i6 a hb;obtain ⟨x,hx⟩:=k8 a b;obtain ⟨y,hy⟩:=k7 a b;generalize hg:Int.gcd a b=g at *;have gz:(g:Int)≠0:=by omega
 have O4:Int.gcd x y=1:=by
  have h1:Int.gcd a b=g*Int.gcd x y:=by
   rw [hx,hy,Int.gcd_mul_left];simp
  rw [hg] at h1;exact Nat.eq_of_mul_eq_mul_left g0 (by omega)
 have T6:x.natAbs<=a.natAbs:=by
  rw [hx,zbF];simp;exact zbZ _ g0
 have T4:y.natAbs<=b.natAbs:=by
  rw [hy,zbF];simp;exact zbZ _ g0
 by_cases M9:b<0
 ·rw [ZW M9] at hd;have e1:a.fdiv d=-x:=by
   rw [hd,hx];have:(g:Int)*x=-(g:Int)*(-x):=by rw [Int.neg_mul_neg]
   rw [this];exact zcr _ (by omega)
  have e2:b.fdiv d=-y:=by
   rw [hd,hy];have:(g:Int)*y=-(g:Int)*(-y):=by rw [Int.neg_mul_neg]
   rw [this];exact zcr _ (by omega)
  have LA:y<0:=by
   rcases zci y 0 with h|h|h
   ·exact h
   ·rw [h] at hy;simp at hy;omega
   ·have:=zar (show (0:Int)<g by omega) h;omega
  refine ⟨by rw [e2];omega,by rw [e1,e2,Int.gcd_neg,Int.neg_gcd];exact O4,?_,by rw [e1,Int.natAbs_neg];exact T6,by rw [e2,Int.natAbs_neg];exact T4⟩;rw [e1,e2];have h1:x*b=a*y:=by
   calc x*b=x*(g*y):=by rw [<-hy]
    _=(g*x)*y:=by rw [Int.mul_left_comm,zey]
    _=a*y:=by rw [<-hx]
  rw [Int.neg_mul,zer,h1]
 ·rw [ZU M9] at hd;have e1:a.fdiv d=x:=by
   rw [hd,hx];exact zcr _ gz
  have e2:b.fdiv d=y:=by
   rw [hd,hy];exact zcr _ gz
  have LA:0<y:=by
   rcases zci y 0 with h|h|h
   ·have:=zaG (show (0:Int)<g by omega) h;omega
   ·rw [h] at hy;simp at hy;omega
   ·exact h
  refine ⟨by rw [e2];exact LA,by rw [e1,e2];exact O4,?_,by rw [e1];exact T6,by rw [e2];exact T4⟩;rw [e1,e2]
  calc x*b=x*(g*y):=by rw [<-hy]
   _=(g*x)*y:=by rw [Int.mul_left_comm,zey]
   _=a*y:=by rw [<-hx]
theorem vK (a b:Int) (ha:0<=a) (hb:0<b):Int.gcd b (a%b)=Int.gcd a b:=by
 obtain ⟨m,rfl⟩:=zcx ha;obtain ⟨n,rfl⟩:=zcx (zav hb);show Nat.gcd _ _=Nat.gcd _ _;simp only [Int.natAbs_natCast];rw [show ((m:Int)%(n:Int)).natAbs=m%n by rw [<-Int.natCast_emod];exact Int.natAbs_natCast _];rw [Nat.gcd_comm n (m%n),<-Nat.gcd_rec,Nat.gcd_comm]
theorem y8 (a b:Int):Int.gcd (if a<0 then -a else a) (if b<0 then -b else b)=Int.gcd a b:=by
 split<;>split<;>simp [Int.gcd_neg,Int.neg_gcd]
theorem y6 (a:Int) (ha:0<=a):((Int.gcd a 0:Nat):Int)=a:=by simp [Int.gcd];omega
end Fr
namespace L2
open PySem PySem.Spec PyProof.Rows
theorem mr (Pv:St->Hp->Prop) (μ:St->Hp->Nat) (h0:Pv σ H)
  (hs:∀ σ H,Pv σ H->c σ H λb H1=>if b=true then ∃ N:St->Hp->Prop,(∀ σ' H',N σ' H'->∃ m',m'<μ σ H/\(m'=μ σ' H'/\Pv σ' H'))/\tb { D with nx:=N,ct:=N,bk:=D.nx } σ H1 else D.nx σ H1):BS c tb D σ H:=
 ⟨λm σ H=>m=μ σ H/\Pv σ H,⟨_,rfl,h0⟩,by rintro m σ H ⟨rfl,p⟩;exact hs σ H p⟩
theorem w_turn {tb:TS} {bk:St->Hp->Prop} {σ:St} {Pv:St->Hp->Prop} {μ:St->Hp->Nat} {m:Nat} (h:tb { nx:=λσ' H'=>Pv σ' H'/\μ σ' H'<m,rt:=r,bk:=bk,ct:=λσ' H'=>Pv σ' H'/\μ σ' H'<m } σ H) :
  ∃ N:St->Hp->Prop,(∀ σ' H',N σ' H'->∃ m',m'<m/\(m'=μ σ' H'/\Pv σ' H'))/\tb { nx:=N,rt:=r,bk:=bk,ct:=N } σ H:=⟨_,λ_ _ p=>⟨_,p.2,rfl,p.1⟩,h⟩
theorem QT {A B:Prop} (h:B):if (!true)=true then A else B:=Dl h
theorem Oz:2<=sizeLine:=by rw [zbf];decide
theorem VH:3<=sizeLine:=by rw [zbf];decide
theorem cE {CX:xU} {P:Program} {w:World} {K:ZB} {mg:W1} {base:Heap} {N:List Str} {q:Str} {sc:Scope} {f:Addr} {cd:Value} {A:Around} {o:List Env} {s:Shared} {H:Hp} {E:XK}:(jy CX P w K mg base N q sc f cd A o s H E).K=K:=rfl
section
variable {K:ZB}
theorem JE:PySem.W.kitOne K (.type "int") (.type "bool")=some false:=by kernel_rfl
theorem Dg:PySem.W.kitOne K (.type "list") (.type "list")=some true:=by kernel_rfl
end
theorem mulL (h1 : -(2 ^ 64)<a) (h2:a<2 ^ 64):IntMulOk a b:=.of_left (intBits_le_64 h1 h2)
theorem mulR (h1 : -(2 ^ 64)<b) (h2:b<2 ^ 64):IntMulOk a b:=.of_right (intBits_le_64 h1 h2)
theorem Sz.VM (h1 : -(2 ^ 64)<x) (h2:x<2 ^ 64) (hn:64<=n):Sz n x:=Sz.mono (m:=64) (by unfold Sz;omega) hn
theorem tR (h1:0<j) (h2:j<2 ^ 64):GZ i j:=⟨h1,Sz.VM (by omega) h2 (by decide)⟩
theorem mG (ho:me X (binaryOp op) (rI C g)) (ha:PE X a (tC (.int i))) (hb:PE X b (tC (.int j))) (c:C i j) (e:g i j=.int v):PE X (.BinOp a op b pos) (tC (.int v)):=
 λpins s σ H Q I h=>av ho ha hb pins s σ H Q I ⟨i,j,rfl,rfl,c,by rw [e];exact h⟩
theorem u6 (ho:me X (binaryOp op) (En g)) (ha:PE X a (tC (.int i))) (hb:PE X b (tC (.int j))) (e:g i j=.int v):PE X (.BinOp a op b pos) (tC (.int v)):=
 λpins s σ H Q I h=>av ho ha hb pins s σ H Q I ⟨i,j,rfl,rfl,by rw [e];exact h⟩
end L2
namespace L2
open PySem PySem.Spec PySem.W PySem.Calls PyProof.Rows Builtin Builtin.ObjectAttr Builtin.Getset_descriptor
def ExcAt (C:Addr) (a:Addr) (h:Heap):Prop:=∃ ob,h.get? a=some ob/\ob.cls=.ref C/\PySem.W.notCls ob=true
def Gp (C a:Addr):HO:=.ext (ExcAt C a)
theorem ExcAt.eB (x:ExcAt C a h) (k:∀ o,h.get? a=some o->h'.get? a=some o):ExcAt C a h':=let ⟨o,e,r⟩:=x;⟨o,k o e,r⟩
theorem Gk (x:ExcAt C a h):aW P w H h a (Gp C a):=
 ⟨x,let ⟨o,e,_⟩:=x;⟨o,e⟩,λ_ _ y k=>y.eB k⟩
theorem Gn (hk:hX P w H h) (e:H a=some (Gp C a)):ExcAt C a h:=(hk a _ e).1
theorem ExcAt.ty (x:ExcAt C a h):Looks M h (typeOf (.ref a)) (.ref C):=by
 obtain ⟨o,e,c,_⟩:=x;exact c▸(Looks.ld e).andThen .now
def wt (C:Addr) (D:Option Addr) (a:Addr) (h:Heap):Prop:=∃ ob,h.get? a=some ob/\ob.cls=.ref C/\PySem.W.notCls ob=true/\ob.dict=D
def A1 (C:Addr) (D:Option Addr) (a:Addr):HO:=.ext (wt C D a)
theorem wt.eB (x:wt C D a h) (k:∀ o,h.get? a=some o->h'.get? a=some o):wt C D a h':=let ⟨o,e,r⟩:=x;⟨o,k o e,r⟩
theorem Gq (x:wt C D a h):aW P w H h a (A1 C D a):=
 ⟨x,let ⟨o,e,_⟩:=x;⟨o,e⟩,λ_ _ y k=>y.eB k⟩
theorem Gr (hk:hX P w H h) (e:H a=some (A1 C D a)):wt C D a h:=(hk a _ e).1
theorem wt.at (x:wt C D a h):ExcAt C a h:=let ⟨o,h1,h2,h3,_⟩:=x;⟨o,h1,h2,h3⟩
def DO (C:Addr) (D:Option Addr) (a:Addr):HO:=match D with|none=>Gp C a|some d=>A1 C (some d) a
structure kh (K:Frag) (D:Addr):Prop where
 Xx:findIn K (.ref D) "__getattribute__"=some (some (.builtin "BaseException.__getattribute__"))
 ji:findIn K (.ref D) "__getattr__"=some none
 Ru:mroIn K D (.type "BaseException")=some true
 cl:(clsIn K D).isSome=true
 ha:findIn K (.ref D) "__class__"=some (some (.builtin "object.__class__"))
 hn:specialIn K (.builtin "object.__class__") "__get__"=some (some (.builtin "getset_descriptor.__get__"))
 OR:takesIn K (.builtin "object.__class__")=some true
 hm:mroIn K D (.type "object")=some true
section
variable {prog:Program} {w:World} {A:Around} {E:WP} {s:Shared} {K:Frag} {x D:Addr}
theorem Gs (X:K.In h) (c:kh K D):Looks M h (find (.ref x) (.ref D) "__class__") (.bind (.builtin "getset_descriptor.__get__") (.builtin "object.__class__")):=by
 have l1:=looks_findIn (M:=M) X c.ha;have l2:Looks M h (getOf (some (.builtin "object.__class__"))) (some (.builtin "getset_descriptor.__get__")):=looks_specialIn X c.hn;have l3:=looks_takesIn (M:=M) X c.OR;refine l1.andThen (l2.andThen ?_);have l4:Looks M h (dataDescriptor? (some (.builtin "object.__class__")) (some (.builtin "getset_descriptor.__get__"))) (some (.builtin "getset_descriptor.__get__",.builtin "object.__class__")):=l3.andThen .now;exact l4.andThen (Looks.tag .now)
theorem Ko (X:K.In s.heap) (I:ExcAt D x s.heap) (c:kh K D) (h:R (.ok (.ret (.ref D))) s) :
  codeAny (model prog w) A (.call (.builtin "getset_descriptor.__get__") ⟨[.builtin "object.__class__",.ref x,tp],[]⟩) R s:=by
 obtain ⟨oo,e,cc,nc⟩:=I;obtain ⟨Qr,od,Wg,Ao⟩:=oo;have I':ExcAt D x s.heap:=⟨_,e,cc,nc⟩;obtain ⟨hh,g,dr,t,os⟩:=s;have k0:=I'.ty (M:=model prog w);have k1:=looks_mroIn (M:=model prog w) X c.hm;refine zdU KF.slot_gs.plain KF.entry_gs (KF.slot_gs.check _ _ _ _ _ _ _ _ KF.type_class (KF.args_gs _ _ _) ?_);unfold Builtin.«getset_descriptor.__get__» descrGet;rw [dga_obj];refine rd (ZR ?_);unfold descrGetter descrCheckInstance descrNameAndClass isInstance;simp only [KF.owner_class]
 repeat lk
 refine ⟨Code.quiet_builtin _ (by decide +kernel),zaP KF.entry_class ?_⟩;unfold Builtin.«object.__class__» shownTypeOf
 repeat lk
 exact h
theorem DR (X:K.In s.heap) (I:ExcAt D x s.heap) (Ru:mroIn K D (.type "BaseException")=some true) (hq:Q () s):wpAny M A (checkBuiltinCall "BaseException.__getattribute__" ⟨[.ref x,Hz],[]⟩) Q E s:=by
 obtain ⟨hh,g,d,t,os⟩:=s;have k0:=I.ty (M:=M);have k1:=looks_mroIn (M:=M) X Ru;have hk:builtinKind "BaseException.__getattribute__"=some .slot:=by decide +kernel
 have hs:splitId "BaseException.__getattribute__"=some ("BaseException", "__getattribute__"):=by decide +kernel
 have ha:=F.args_bexc_ga (.ref x) Hz;simp only [checkBuiltinCall,hk,hs];refine rd ?_;unfold isInstance
 repeat (first|lk|wp_step)
 exact hq
theorem DP (X:K.In s.heap) (I:ExcAt D x s.heap) (c:kh K D) (hq:Q (.done (.ret (.ref D))) s) :
  wpAny (model prog w) A (Builtin.«object.__getattribute__» ⟨[.ref x,.str "__class__" tk],[]⟩) Q E s:=by
 have I':=I;have X':=X;obtain ⟨hh,g,d,t,os⟩:=s;have k0:=I.ty (M:=model prog w);have k2:=Gs (x:=x) (M:=model prog w) X c
 repeat (any_goals (first|assumption|with_reducible refine Looks.at (by assumption) ?_|wp_step))
 refine Ko (s:=⟨hh,g,d,t,os⟩) X' I' c ?_
 repeat (any_goals (first|assumption|wp_step))
theorem Gu (X:K.In s.heap) (I:ExcAt D x s.heap) (c:kh K D) (hq:R (.ok (.ret (.ref D))) s) :
  codeAny (model prog w) A (.call (.builtin "BaseException.__getattribute__") ⟨[.ref x,.str "__class__" tk],[]⟩) R s:=
 zdU F.attr_ValueError.ga.plain F.entry_bexc_ga (DR X I c.Ru (DP X I c hq))
theorem DQ (X:K.In s.heap) (I:ExcAt D x s.heap) (c:kh K D) (h:Q (some (.ref D)) { s with toks:=s.toks+1 }):wpAny (model prog w) A (getAttr? (.ref x) "__class__") Q E s:=by
 have I':=I;have X':=X;obtain ⟨hh,g,d,t,os⟩:=s;have k0:=I.ty (M:=model prog w);have k1:=looks_findIn (M:=model prog w) X c.Xx;have k3:=looks_findIn (M:=model prog w) X c.ji;have f3:=F.attr_ValueError.ga.bind (.ref x);have WW:(Value.builtin "BaseException.__getattribute__"==Value.builtin "object.__getattribute__")=false:=by decide +kernel
 have Zg:(onTheHeap (Value.ref D)&&Value.builtin "BaseException.__getattribute__"==Value.builtin "object.__getattribute__")=false:=by rw [WW];rfl
 have Zh:(false&&onTheHeap (Value.builtin "BaseException.__getattribute__"))=false:=rfl;unfold getAttr? getAttrBy?;refine rd (wpAny_mkText (rd (zda ?_)))
 repeat (any_goals (first|assumption|with_reducible refine Looks.at (by assumption) ?_|wp_step))
 refine Gu (s:=⟨hh,g,d,t+1,os⟩) X' I' c ?_
 repeat (any_goals (first|assumption|wp_step))
theorem vv (c:kh K D):KitX K (.ref x) (.ref D) (ExcAt D x) where
 ty:=λ_ _ _ I=>I.ty
 it:=λ_ _ X _=>by
  obtain ⟨YH,Kc⟩:=zaU.mp c.cl;unfold clsIn at Kc;split at Kc
  ·rename_i c' d' YI L4 ho;intro A' Q' E' s' k q;unfold isType loadHead;exact rd (wpAny_loadPart (k _ _ (X _ _ ho)) (ZR q))
  ·cases Kc
 ne:=λh tp dd aJ n sl X vz=>by
  obtain ⟨YH,Kc⟩:=zaU.mp c.cl;refine Bool.eq_false_iff.mpr λq=>?_;have e:D=tp:=Value.ref.inj (beq_iff_eq.mp q);subst e;unfold clsIn at Kc;split at Kc
  ·rename_i c' d' YI L4 ho;have z:=(X _ _ ho).symm.trans vz;cases z
  ·cases Kc
 ca:=λX I k=>DQ X I c k
end
end L2
namespace Kd
open PySem
def Kp {α:Type}:Sem α->Prop
 | .pure _=>True
 | .raise _=>True
 | .unsupported _=>True
 | .finish _=>True
 | .rule _ k=>Kp (k ())
 | .at _ k=>Kp (k ())
 | .load _ _ k=>∀ o,Kp (k o)
 | .update _ _ f k=>(∀ o,(f o).dict=o.dict)/\Kp (k ())
 | .alloc _ k=>∀ a,Kp (k a)
 | .loadIfAlive _ k=>∀ o,Kp (k o)
 | .point _ k=>Kp (k ())
 | .register _ _=>True
 | .fresh k=>∀ t,Kp (k t)
 | .ask k=>∀ x,Kp (k x)
 | .choose _ _ k=>∀ x,Kp (k x)
 | .os _ _ k=>∀ x,Kp (k x)
 | .call ..=>False
 | .handled _ k=>∀ x,Kp (k x)
 | .newGen _ k=>∀ x,Kp (k x)
 | .genState _ k=>∀ x,Kp (k x)
 | .resume ..=>False
 | .yield ..=>True
 | .stack k=>∀ x,Kp (k x)
 | .fork ..=>True
 | .thread k=>∀ x,Kp (k x)
 | .await ..=>True
def Dc (e:Addr) (D:Option Addr) (h:Heap):Prop:=∃ o,h.objs[e]?=some o/\o.dict=D
theorem Dc.upd (x:Dc e D h) (hf:∀ o,(f o).dict=o.dict):Dc e D (h.update a f):=by
 obtain ⟨o,h1,h2⟩:=x;cases h with
 | mk objs l=>
  unfold Heap.update;by_cases q:a=e
  ·exact ⟨f o,by simp only [Array.getElem?_modify,ZW q];simp only at h1;rw [h1];rfl,by rw [hf,h2]⟩
  ·exact ⟨o,by simp only [Array.getElem?_modify,ZU q];exact h1,h2⟩
theorem Dc.push (x:Dc e D h) (o:Obj):Dc e D (h.push o):=by
 obtain ⟨o',h1,h2⟩:=x;cases h with
 | mk objs l=>
  unfold Heap.push;have lt:e<objs.size:=(zbl.mp h1).1;exact ⟨o',by simp only [zec,ZU (Z1 lt)];exact h1,h2⟩
theorem Dc.of (h1:h.get? e=some o) (h2:o.dict=D):Dc e D h:=⟨o,(Heap.get?_some_iff.mp h1).1,h2⟩
theorem Dc.at (x:Dc e D h) (h1:h.get? e=some o):o.dict=D:=by
 obtain ⟨o',h2,h3⟩:=x;have h4:=(Heap.get?_some_iff.mp h1).1;rw [h2] at h4;cases h4
 exact h3
theorem MJ:∀ {t:Sem α} {Q:α->Pos->Shared->Prop} {E:Value->Pos->Shared->Prop} {p:Pos} {s:Shared},Kp t->Dc e D s.heap->Sem.wp M Γ t Q E p s->
  Sem.wp M Γ t (λa p s'=>Q a p s'/\Dc e D s'.heap) (λv p s'=>E v p s'/\Dc e D s'.heap) p s:=by
 intro t
 induction t with
 | pure a=>intro Q E p s _ d h;exact ⟨h,d⟩
 | raise v=>intro Q E p s _ d h;exact ⟨h,d⟩
 | unsupported _=>intro Q E p s _ d h;exact h
 | finish _=>intro Q E p s _ d h;exact h
 | rule _ k ih=>intro Q E p s kk d h;exact ih () kk d h
 | «at» _ k ih=>intro Q E p s kk d h;exact ih () kk d h
 | load a _ k ih=>intro Q E p s kk d h;obtain ⟨o,ho,h⟩:=h;exact ⟨o,ho,ih o (kk o) d h⟩
 | update a _ f k ih=>intro Q E p s kk d h;exact ⟨h.1,ih () kk.2 (d.upd kk.1) h.2⟩
 | alloc o k ih=>intro Q E p s kk d h;exact ih _ (kk _) (d.push o) h
 | loadIfAlive a k ih=>intro Q E p s kk d h;exact ih _ (kk _) d h
 | point _ k ih=>intro Q E p s kk d h;exact ih () kk d h
 | register _ _ _=>intro Q E p s _ d h;exact h
 | fresh k ih=>intro Q E p s kk d h;exact ih _ (kk _) d h
 | ask k ih=>intro Q E p s kk d h;exact ih _ (kk _) d h
 | choose _ _ k ih=>intro Q E p s kk d h;exact ⟨h.1,ih _ (kk _) d h.2⟩
 | os _ _ k ih=>intro Q E p s kk d h;exact ih _ (kk _) d h
 | call=>intro Q E p s kk d h;exact kk.elim
 | handled _ k ih=>intro Q E p s kk d h;exact ih _ (kk _) d h
 | newGen _ k ih=>intro Q E p s kk d h;exact ih _ (kk _) d h
 | genState _ k ih=>intro Q E p s kk d h;obtain ⟨st,hs,h⟩:=h;exact ⟨st,hs,ih _ (kk _) d h⟩
 | resume=>intro Q E p s kk d h;exact kk.elim
 | yield=>intro Q E p s _ d h;exact h
 | stack k ih=>intro Q E p s kk d h;exact ih _ (kk _) d h
 | fork=>intro Q E p s _ d h;exact h
 | thread k ih=>intro Q E p s kk d h;exact ih _ (kk _) d h
 | await=>intro Q E p s _ d h;exact h
theorem oq {α:Type} {M:Model} {A:Around} {D:Option Addr} {t:Sem α} {Q:α->Shared->Prop} {s:Shared} (k:Kp t) (d:Dc e D s.heap) (h:wpAny M A t Q E s) :
  wpAny M A t (λa s'=>Q a s'/\Dc e D s'.heap) (λv s'=>E v s'/\Dc e D s'.heap) s:=λΓ p hΓ=>MJ k d (h Γ p hΓ)
theorem Kp.bind {α β:Type} {f:α->Sem β} (hf:∀ a,Kp (f a)):∀ {m:Sem α},Kp m->Kp (m >>= f):=by
 intro m;show Kp m->Kp (Sem.bind m f)
 induction m with
 | pure a=>intro _;exact hf a
 | raise v=>intro _;trivial
 | unsupported _=>intro _;trivial
 | finish _=>intro _;trivial
 | rule _ k ih=>intro kk;exact ih () kk
 | «at» _ k ih=>intro kk;exact ih () kk
 | load a _ k ih=>intro kk o;exact ih o (kk o)
 | update a _ f k ih=>intro kk;exact ⟨kk.1,ih () kk.2⟩
 | alloc o k ih=>intro kk a;exact ih a (kk a)
 | loadIfAlive a k ih=>intro kk o;exact ih o (kk o)
 | point _ k ih=>intro kk;exact ih () kk
 | register _ _ _=>intro _;trivial
 | fresh k ih=>intro kk x;exact ih x (kk x)
 | ask k ih=>intro kk x;exact ih x (kk x)
 | choose _ _ k ih=>intro kk x;exact ih x (kk x)
 | os _ _ k ih=>intro kk x;exact ih x (kk x)
 | call=>intro kk;exact kk.elim
 | handled _ k ih=>intro kk x;exact ih x (kk x)
 | newGen _ k ih=>intro kk x;exact ih x (kk x)
 | genState _ k ih=>intro kk x;exact ih x (kk x)
 | resume=>intro kk;exact kk.elim
 | yield=>intro _;trivial
 | stack k ih=>intro kk x;exact ih x (kk x)
 | fork=>intro _;trivial
 | thread k ih=>intro kk x;exact ih x (kk x)
 | await=>intro _;trivial
theorem sS (a:Addr):Kp (load a):=λ_=>trivial
theorem vt (v:Value):Kp (fieldsOf v):=by
 unfold fieldsOf;split
 ·refine Kp.bind (λo=>?_) (sS _);split
  ·trivial
  ·trivial
 ·trivial
theorem jX (v:Value) (i:Nat):Kp (field v i):=by
 unfold field;refine Kp.bind (λo=>?_) (vt v);split
 ·trivial
 ·trivial
theorem iJ (v:Value) (i:Nat) (x:Value):Kp (setField v i x):=by
 unfold setField;split
 ·unfold updateField;refine Kp.bind (λo=>?_) (sS _);split
  ·split
   ·exact ⟨λo=>by cases o with|mk c d dt sl=>cases dt<;>rfl,trivial⟩
   ·trivial
  ·trivial
 ·trivial
theorem gV (v:Value) (f:Option Addr):Kp (setFlight v f):=by
 unfold setFlight;refine Kp.bind (λo=>?_) (jX v 1);split
 ·exact iJ ..
 ·trivial
theorem sR (ty:String) (vs:XV):Kp (newFields ty vs):=by
 unfold newFields newObj;dsimp only;have h:Kp (newObjAsIs (.type ty) (.fields vs.toArray)):=by
  unfold newObjAsIs;exact λa=>trivial
 split
 ·exact trivial
 ·exact h
theorem De:Kp stack:=λ_=>trivial
theorem FY:Kp frameEnvs:=λ_=>trivial
theorem Df (f:Addr) (b:Bool):Kp (entryPlaceOf f b):=by
 unfold entryPlaceOf;refine Kp.bind (λo=>?_) De;dsimp only;split
 ·trivial
 ·trivial
theorem AE (env:Env) (outer:List Env):Kp (behindIsImport env outer):=by
 unfold behindIsImport;split
 ·trivial
 ·split
  ·trivial
  ·refine Kp.bind (λx=>?_) (jX _ _);trivial
theorem FZ (env:Env) (b:Bool) (l:List Env):Kp (keptBack env b l):=by
 unfold keptBack;split
 ·split
  ·trivial
  ·exact λ_=>trivial
 ·trivial
theorem vq:∀ l:List Env,Kp (readyFrames l)
 | []=>trivial
 | env::outer=>by
  unfold readyFrames;split
  ·refine Kp.bind (λo=>?_) (sS _);split
   ·trivial
   ·refine Kp.bind (λi=>Kp.bind (λb=>Kp.bind (λ_=>vq outer) ?_) (FZ ..)) (AE ..);exact ⟨λo=>rfl,trivial⟩
  ·trivial
theorem xw (env:Env):Kp (frameOf env):=by
 unfold frameOf;refine Kp.bind (λl=>Kp.bind (λo=>?_) ?_) FY
 ·split
  ·trivial
  ·trivial
 ·unfold frameObject;split
  ·trivial
  ·refine Kp.bind (λx=>?_) (vq _);trivial
theorem yP (v:Value) (env:Env):Kp (noteFrame v env):=by
 unfold noteFrame;split
 ·refine Kp.bind (λo=>?_) (jX v 1);have fin:∀ f,Kp (do setField v 1 (<-EntryCells.newEntry o (<-frameOf env) .none (rawInt f) .none (<-entryPlaceOf f (o != .none)))):=λf=>by
   refine Kp.bind (λx=>?_) (xw env);refine Kp.bind (m:=entryPlaceOf f (o != .none)) (λy=>?_) (Df _ _);unfold EntryCells.newEntry;refine Kp.bind (λz=>?_) (sR _ _);exact iJ ..
  split
  ·refine Kp.bind (λh=>?_) (jX _ _);split
   ·trivial
   ·exact Kp.bind (λ_=>fin _) (iJ ..)
  ·exact fin _
 ·trivial
theorem oh (env:Env) (v:Value):Kp (leaving env v):=by
 unfold leaving;exact Kp.bind (λ_=>gV ..) (yP ..)
end Kd
namespace L2
open PySem PySem.Spec PySem.W PySem.Calls PyProof.Rows
theorem aW.there (x:aW P w H h a o):∃ ob,h.get? a=some ob:=by
 induction o with
 | lst xs=>obtain ⟨_,_,_,_,e⟩:=x;exact ⟨_,e⟩
 | tup xs=>obtain ⟨_,_,_,ob,e,_⟩:=x;exact ⟨ob,e⟩
 | dK kvs=>obtain ⟨_,_,_,_,o,_,_,e,_⟩:=x;exact ⟨o,e⟩
 | dT kvs=>obtain ⟨_,_,_,_,o,_,_,e,_⟩:=x;exact ⟨o,e⟩
 | set S n=>obtain ⟨ob,_,_,_,e,_⟩:=x;exact ⟨ob,e⟩
 | ins C dx fs=>obtain ⟨_,_,_,e,_⟩:=x;exact ⟨_,e⟩
 | own y=>exact x
 | xd fs=>obtain ⟨_,⟨od,_,_,e,_⟩,_⟩:=x;exact ⟨od,e⟩
 | K5 lo hi=>obtain ⟨_,_,_,e⟩:=x;exact ⟨_,e⟩
 | iO ob u ih=>obtain ⟨e,_⟩:=x;exact ⟨ob,e⟩
 | uh ps=>exact ⟨_,x⟩
 | met f y=>exact ⟨_,x⟩
 | ext φ=>obtain ⟨_,e,_⟩:=x;exact e
def wu (B:Heap) (fr:XL) (h:Heap):Prop:=∀ b o,h.get? b=some o->b∉fr->∃ o',B.get? b=some o'
section
variable {X:Cx} {pins:WF} {σ:St} {H:Hp} {s:Shared} {B h':Heap}
theorem Inv.zk (I:Inv X pins σ H s) (hex:X.ex=[]) (b1:B.StaysIn s.heap) (b2:B.StaysIn h') (c0:wu B (hW X.stack) X.s₀.heap) (ct:∀ b o,H b=some o->∃ ob,B.get? b=some ob)
  (cp:∀ p∈X.pn++pins,∃ ob,B.get? p.1=some ob) (up:s.heap.UpToSlots h'):Inv X pins σ H { s with heap:=h',toks:=t' }:=by
 have OO:∀ {b o ob},s.heap.get? b=some o->B.get? b=some ob->h'.get? b=some o:=λ{b o ob} e q=>by
  have:=b1 b ob q;rw [e] at this;cases this;exact b2 b _ q
 have nL:∀ b o,X.s₀.heap.get? b=some o->b∉X.fs->b∉hW X.stack:=λb o e hb z=>by
  rcases zas.mp (I.js b z) with q|q
  ·exact absurd (ZY (ZM e) I.ok.above) (by rw [q];exact zam _)
  ·exact hb q
 have TL:∀ b:Addr,b∉X.ex:=λb z=>by rw [hex] at z;cases z
 have fr:∀ b∈X.fs,∃ o,s.heap.get? b=some o/\∀ vs,o.data≠.fields vs:=λb hb=>(I.k9.mem hb).2;have cellK:∀ {c v},s.heap.IsCell c v->h'.IsCell c v:=λ{c v} ⟨o,ho,hd⟩=>by
  obtain ⟨sl,e⟩:=up c o ho λvs z=>by rw [hd] at z;cases z
  exact ⟨_,e,hd⟩
 refine ⟨I.ok,I.os,I.bare,⟨λb o e n hb _=>?_,λb o e n hb _=>?_,I.base.free,λb o e _=>?_,I.base.lS,I.base.lg,I.base.kC⟩,?_,λx c e=>?_,I.free,I.dO,λp hp=>?_,λb u e=>?_,I.len⟩
 ·obtain ⟨ob,q⟩:=c0 b o e (nL b o e hb);exact OO (I.base.keep b o e n hb (TL b)) q
 ·obtain ⟨sl,q⟩:=I.base.slot b o e n hb (TL b);obtain ⟨o2,q2,nf⟩:=fr b hb;obtain ⟨Oz,q3⟩:=up b o2 q2 nf;rw [q] at q2;cases q2;exact ⟨Oz,q3⟩
 ·by_cases hb:b∈X.fs
  ·obtain ⟨o2,q2,nf⟩:=fr b hb;obtain ⟨Oz,q3⟩:=up b o2 q2 nf;exact ⟨_,q3⟩
  ·obtain ⟨ob,q⟩:=c0 b o e (nL b o e hb);exact ⟨ob,b2 b ob q⟩
 ·obtain ⟨m,hn,hl⟩:=I.loc;refine ⟨m,up.ns hn,λi x v e1 e2 e3=>?_⟩;obtain ⟨u,r,l⟩:=hl i x v e1 e2 e3;refine ⟨u,r,?_⟩;rcases l with l|⟨k,c,e,z⟩
  ·exact .inl l
  ·exact .inr ⟨k,c,e,cellK z⟩
 ·obtain ⟨v,z⟩:=I.cell x c e;exact ⟨v,cellK z⟩
 ·obtain ⟨e,n,ne,nf,d⟩:=I.pin p hp;obtain ⟨ob,q⟩:=cp p hp;exact ⟨OO e q,n,ne,nf,d⟩
 ·refine (I.aZ b u e).eB (λc v hc q=>?_) (λ_ q=>q) λ_ _ q=>q;rcases hc with z|z
  ·subst z;obtain ⟨ob,q2⟩:=ct c u e;exact OO q q2
  ·obtain ⟨ob,q2⟩:=ct c _ z;exact OO q q2
end
structure Em (P:Program) (w:World) (outer:List Env) (H:Hp) (s:Shared) (a:Addr) (cls:Value) (D:Option Addr) (H':Hp) (s':Shared):Prop where
 os:s'.os=s.os
 bare:AllBare s'.gens
 un:Un (hW outer) [] H H' s.heap s'.heap
 aZ:hX P w H' s'.heap
 AX:∃ B a0,Heap.FlyingW B outer a cls a0 s'.heap/\wu B (hW outer) s.heap/\∀ b o,H' b=some o->∃ ob,B.get? b=some ob
 new:H' a=none
 fresh:s.heap.get? a=none
 U2:Kd.Dc a D s'.heap
def br (P:Program) (w:World):xU:=λouter H s E e s'=>∃ a cls D H',e=.ref a/\Em P w outer H s a cls D H' s'/\E cls D H'
theorem xl (jY:A.frames=some (env::outer)) (hf:env.frame=some L) (yZ:Heap.FlyingW base (env::outer) e cls a0 s.heap) (dc:Kd.Dc e D s.heap)
  (hQ:∀ h',Heap.FlyingW base outer e cls a0 h'->s.heap.UpToSlots h'->Kd.Dc e D h'->Q () { s with heap:=h' }):wpAny M A (leaving env (.ref e)) Q E s:=
 zao (Kd.oq (Kd.oh _ _) dc (wpAny_leaves_onW (Q:=λ_ s'=>∃ h',s'={ s with heap:=h' }/\Heap.FlyingW base outer e cls a0 h'/\s.heap.UpToSlots h') jY hf yZ λh' f u=>⟨h',rfl,f,u⟩))
  (by rintro _ s' ⟨⟨h',q,f,u⟩,d⟩;subst q;exact hQ h' f u d) λ_ _ z=>z.1
theorem Ax (jY:A.frames=some (env::outer)) (hf:env.frame=some L) (yZ:Heap.FlyingW base (env::outer) e cls a0 s.heap) (dc:Kd.Dc e D s.heap)
  (hQ:∀ h',Heap.HeldW base (env::outer) e cls a0 L h'->s.heap.UpToSlots h'->Kd.Dc e D h'->Q () { s with heap:=h' }):wpAny M A (noteFrame (.ref e) env) Q E s:=
 zao (Kd.oq (Kd.yP _ _) dc (wpAny_looks_onW (Q:=λ_ s'=>∃ h',s'={ s with heap:=h' }/\Heap.HeldW base (env::outer) e cls a0 L h'/\s.heap.UpToSlots h') jY hf yZ λh' f u=>⟨h',rfl,f,u⟩))
  (by rintro _ s' ⟨⟨h',q,f,u⟩,d⟩;subst q;exact hQ h' f u d) λ_ _ z=>z.1
theorem JD (hh:Heap.HeldW base l e cls a0 L s.heap) (dc:Kd.Dc e D s.heap)
  (hQ:∀ h',Heap.FlyingW base l e cls a0 h'->s.heap.UpToSlots h'->Kd.Dc e D h'->Q () { s with heap:=h' }):wpAny M A (setFlight (.ref e) none) Q E s:=
 zao (Kd.oq (Kd.gV _ _) dc (wpAny_landsW (Q:=λ_ s'=>∃ h',s'={ s with heap:=h' }/\Heap.FlyingW base l e cls a0 h'/\s.heap.UpToSlots h') hh λh' f u=>⟨h',rfl,f,u⟩))
  (by rintro _ s' ⟨⟨h',q,f,u⟩,d⟩;subst q;exact hQ h' f u d) λ_ _ z=>z.1
theorem KP (hh:Heap.FlyingW base l e cls a0 s.heap) (dc:Kd.Dc e D s.heap)
  (hQ:∀ h',Heap.FlyingW base l e cls a0 h'->s.heap.UpToSlots h'->Kd.Dc e D h'->Q () { s with heap:=h' }):wpAny M A (setFlight (.ref e) none) Q E s:=
 zao (Kd.oq (Kd.gV _ _) dc (lands_againW (Q:=λ_ s'=>∃ h',s'={ s with heap:=h' }/\Heap.FlyingW base l e cls a0 h'/\s.heap.UpToSlots h') hh λh' f u=>⟨h',rfl,f,u⟩))
  (by rintro _ s' ⟨⟨h',q,f,u⟩,d⟩;subst q;exact hQ h' f u d) λ_ _ z=>z.1
theorem pU (jY:A.frames=some (env::outer)) (hl:s.heap.FunFrames base (env::outer)) (hf:env.frame=some L) (he:s.heap.get? e=some oe) (Nf:base.StaysIn s.heap) (O3:base.get? e=none)
  (hd:oe.data=.fields vs) (h1:vs[1]?=some .none) (h0:vs[0]?=some a0) (hQ:∀ h',Heap.FlyingW base outer e oe.cls a0 h'->s.heap.UpToSlots h'->Kd.Dc e oe.dict h'->Q () { s with heap:=h' }):wpAny M A (leaving env (.ref e)) Q E s:=
 zao (Kd.oq (Kd.oh _ _) (Kd.Dc.of he rfl) (wpAny_leaving_firstW (Q:=λ_ s'=>∃ h',s'={ s with heap:=h' }/\Heap.LeftW base (env::outer) e oe.cls a0 s.heap h') jY hl hf he Nf O3 hd h1 h0 λh' l=>⟨h',rfl,l⟩))
  (by rintro _ s' ⟨⟨h',q,k1,⟨_,_,k2⟩,k3,k4⟩,d⟩;subst q;exact hQ h' ⟨k1,O3,k2,k3⟩ k4 d) λ_ _ z=>z.1
section
variable {X:Cx} {pins:WF} {σ:St} {H:Hp} {s:Shared}
structure Body (X:Cx):Prop where
 ex:X.ex=[]
 pn:X.pn=[]
 ye:X.stack=X.env::X.outer
 fr:X.env.frame=some X.env.locals
theorem zK {CX:xU} {P:Program} {w:World} {K:Frag} {mg:W1} {base:Heap} {N:List Str} {qual:Str} {scope:Scope} {f:Addr} {cd:Value} {A:Around} {outer:List Env} {s:Shared} {H:Hp} {E:XK} :
  Body (jy CX P w K mg base N qual scope f cd A outer s H E):=⟨rfl,rfl,rfl,rfl⟩
theorem Inv.none_of (I:Inv X pins σ H s) (e:s.heap.get? a=none):H a=none:=by
 cases q:H a with
 | none=>rfl
 | some o=>
  obtain ⟨ob,z⟩:=(I.aZ a o q).there;rw [e] at z;cases z
theorem Inv.xG (I:Inv X pins σ H s) (hex:X.ex=[]) (e:s.heap.get? a=none):X.s₀.heap.get? a=none:=by
 cases q:X.s₀.heap.get? a with
 | none=>rfl
 | some o=>
  obtain ⟨o',z⟩:=I.base.there a o q (by rw [hex];simp);rw [e] at z;cases z
theorem leave_new (I:Inv X pins σ H s) (hb:Body X) (kp:∀ b o,s.heap.get? b=some o->h'.get? b=some o) (nw:s.heap.get? e=none)
  (he:h'.get? e=some oe) (hd:oe.data=.fields vs) (h1:vs[1]?=some .none) (h0:vs[0]?=some a0) (q:E oe.cls oe.dict H) :
  wpAny (model X.prog X.w) X.A (leaving X.env (.ref e)) (λ_ B9=>br X.prog X.w X.outer X.H₀ X.s₀ E (.ref e) B9) E' { s with heap:=h' }:=by
 have Ew:∀ env∈X.stack,∀ b,env.frame=some b->b∈X.stack.filterMap (·.frame):=λenv he b hb=>zbM.mpr ⟨env,he,hb⟩;have Nf:(hideAll s.heap (hW X.stack)).StaysIn s.heap:=λb o q=>of_hideAll _ q;have jY:X.A.frames=some (X.env::X.outer):=by rw [<-hb.ye];exact I.ok.frames
 have hl:s.heap.FunFrames (hideAll s.heap (hW X.stack)) (X.env::X.outer):=by rw [<-hb.ye];exact funFrames_hide I.stack Ew
 have cv:∀ {b o},s.heap.get? b=some o->b∉hW X.stack->(hideAll s.heap (hW X.stack)).get? b=some o:=λe n=>hideAll_get _ e n;have O3:(hideAll s.heap (hW X.stack)).get? e=none:=by
  cases hq:(hideAll s.heap (hW X.stack)).get? e with
  | none=>rfl
  | some o'=>have:=Nf e o' hq;rw [nw] at this;cases this
 refine pU (base:=hideAll s.heap (hW X.stack)) (s:={ s with heap:=h' }) jY (hl.of_keeps λb o hb _=>⟨o,kp b o hb,rfl⟩) hb.fr he (λb o hq=>kp b o (Nf b o hq)) O3 hd h1 h0 λh2 AX up dc=>?_;have Vl:s.heap.UpToSlots h2:=(Heap.UpToSlots.of_keeps kp).trans up;have c0:wu (hideAll s.heap (hW X.stack)) (hW X.stack) X.s₀.heap:=λb o e n=>by
  obtain ⟨o',z⟩:=I.base.there b o e (by rw [hb.ex];simp);exact ⟨o',cv z n⟩
 have ct:∀ b o,H b=some o->∃ ob,(hideAll s.heap (hW X.stack)).get? b=some ob:=λb o e=>by
  obtain ⟨ob,z⟩:=(I.aZ b o e).there;exact ⟨ob,cv z λm=>by rw [I.mC b m] at e;cases e⟩
 have J:Inv X [] σ H { s with heap:=h2,toks:=s.toks }:=Inv.zk (I.dZ λp hp=>by cases hp) hb.ex Nf AX.1 c0 ct (λp hp=>by rw [hb.pn] at hp;cases hp) Vl;refine ⟨e,oe.cls,oe.dict,H,rfl,⟨J.os,J.bare,?_,J.aZ,⟨_,_,AX,?_,ct⟩,I.none_of nw,I.xG hb.ex nw,dc⟩,q⟩
 ·have:=J.base;rw [hb.ex] at this;exact this
 ·intro b o e' n;refine c0 b o e' λm=>?_;rw [hb.ye] at m;unfold hW at m;rw [zcK,hb.fr] at m;rcases zas.mp m with z|z
  ·exact absurd (ZY (ZM e') I.ok.above) (by rw [z];exact zam _)
  ·exact n z
theorem xo (I:Inv X pins σ H s) (hb:Body X) (hx:Heap.MadeExcOf s.heap h' e cls vs) (q:E cls none H) :
  wpAny (model X.prog X.w) X.A (leaving X.env (.ref e)) (λ_ B9=>br X.prog X.w X.outer X.H₀ X.s₀ E (.ref e) B9) E' { s with heap:=h' }:=by
 obtain ⟨t,he,Zi,ht⟩:=hx.there;exact leave_new I hb hx.keeps hx.new he rfl rfl rfl q
theorem Em.inv (I:Inv X pins σ H s) (F:Em X.prog X.w X.stack H s a cls D H' s'):Inv X pins σ H' s':=
 I.Ia (ch:=[]) F.os F.un F.aZ F.bare λb z=>by cases z
theorem xm (I:Inv X pins σ H s) (hb:Body X) (F:Em X.prog X.w X.stack H s a cls D H' s') (q:E cls D H') :
  wpAny (model X.prog X.w) X.A (leaving X.env (.ref a)) (λ_ B9=>br X.prog X.w X.outer X.H₀ X.s₀ E (.ref a) B9) E' s':=by
 obtain ⟨B,a0,AX,Pe,ct⟩:=F.AX;have jY:X.A.frames=some (X.env::X.outer):=by rw [<-hb.ye];exact I.ok.frames
 have I':=F.inv I;have ND:=AX;rw [hb.ye] at ND;refine xl jY hb.fr ND F.U2 λh2 NC up dc=>?_;have c0:wu B (hW X.stack) X.s₀.heap:=λb o e n=>by
  obtain ⟨o',z⟩:=I.base.there b o e (by rw [hb.ex];simp);exact Pe b o' z n
 have J:Inv X [] σ H' { s' with heap:=h2,toks:=s'.toks }:=Inv.zk (I'.dZ λp hp=>by cases hp) hb.ex AX.1 NC.1 c0 ct (λp hp=>by rw [hb.pn] at hp;cases hp) up;refine ⟨a,cls,D,H',rfl,⟨J.os,J.bare,?_,J.aZ,⟨_,_,NC,?_,ct⟩,F.new,I.xG hb.ex F.fresh,dc⟩,q⟩
 ·have:=J.base;rw [hb.ex] at this;exact this
 ·intro b o e' n;refine c0 b o e' λm=>?_;rw [hb.ye] at m;unfold hW at m;rw [zcK,hb.fr] at m;rcases zas.mp m with z|z
  ·exact absurd (ZY (ZM e') I.ok.above) (by rw [z];exact zam _)
  ·exact n z
end
theorem u7 {P:Program} {w:World} {K:Frag} {mg:W1} {base:Heap} {N:List Str} {qual:Str} {scope:Scope} {f:Addr} {cd:Value} {A:Around} {outer:List Env} {s:Shared} {H:Hp} {E:XK} :
  Passes (br P w) (jy (br P w) P w K mg base N qual scope f cd A outer s H E) E:=by
 rintro pins σ H1 s1 e s' I ⟨a,cls,D,H',rfl,F,q⟩;exact xm I zK F q
theorem aQ:Passes (br P w) X E0:=by
 rintro pins σ H1 s1 e s' I ⟨a,cls,D,H',rfl,F,q⟩;exact q.elim
theorem Gj {K:Frag} {h:Heap} {C:Addr} {NV:XV} {newId:String} (X:K.In h) (q:excIn K C NV newId=true) :
  ∃ bm N nm qn bs hdct sn sub ab col dd k0 k1 k2 k3 k5 mN,h.get? C=some (excClassObj nm qn C N bs bm hdct sn sub ab col dd k0 k1 k2 k3 k5 newId)/\h.Ns N mN/\mN "__init__"=none/\OwnTail h NV bm:=by
 unfold excIn at q;split at q
 ·rename_i dd cd sl ho;split at q
  ·rename_i C' bm k0 k1 k2 k3 n k5 hm hs;simp only [zcw,beq_iff_eq,Bool.not_eq_true'] at q;obtain ⟨⟨⟨⟨⟨q1,q2⟩,Nk⟩,ht⟩,aZ⟩,OW⟩:=q;subst q1 q2;obtain ⟨nm,bs,mro,ns,qn,hd,sn,sub,ab,col,del⟩:=cd;dsimp only at hm Nk aZ OW;subst hm Nk;obtain ⟨l⟩:=sl;have hl:l=[k0,k1,k2,k3,some (.builtin n),k5]:=hs;subst hl;exact ⟨bm,ns,nm,qn,bs,hd,sn,sub,ab,col,dd,k0,k1,k2,k3,k5,_,X _ _ ho,.of_isNs (isNs_of_in X aZ),nsMap_none_of_in X aZ OW,tail_of_in X ht⟩
  ·cases q
 ·cases q
def BW (Ex:XK) (C:Addr) (ta:TA):TS:=λ_ σ H=>ta σ H λvs H1=>vs.length<=sizeLine/\Ex (.ref C) none H1
theorem u4 {x:Str} {Bn newId JO:String} {np gF pos:Pos} {ta:TA} {Ex:XK} (FB:ExcBaseFacts Bn newId JO NV) (hq:excIn X.K C NV newId=true) (hm:X.mg x=some (.ref C))
  (hc:X.calm=true) (ha:PA X (e::es) ta)
  (hx:∀ pins s σ H h' a vs,Inv X pins σ H s->Heap.MadeExcOf s.heap h' a (.ref C) vs->Ex (.ref C) none H->X.xe (.ref a) { s with heap:=h' }) (hg:Gl X x:=by rfl) (vC:(x==("__debug__":Str))=false:=by decide)
  (he:starEach (e::es) X.env=(false,eval e X.env)::starEach es X.env:=by rfl) (lK:(backTo gF (starEach es X.env)).any (·.1)=false:=by rfl) :
  PS X (.Raise (some (.Call (.Name x np) (e::es) [] gF)) none pos) (BW Ex C ta):=by
 intro pins s σ H D I h;obtain ⟨tl,N,nm,q,bs,hdct,sn,sub,ab,col,dd,k0,k1,k2,k3,k5,mN,hC,hN,OW,T⟩:=Gj I.ok.mod.La hq;refine wpAny_Raise_call_subT (C:=C) (nm:=nm) (q:=q) (N:=N) (bs:=bs) (bm:=tl) (hdct:=hdct) (sn:=sn) (sub:=sub) (ab:=ab) (col:=col) (dd:=dd) (k0:=k0) (k1:=k1) (k2:=k2) (k3:=k3) (k5:=k5)
  FB (mN:=mN) (T.hasType FB.hasBase) (I.ok.hd hc) (by rw [he];show (false || (backTo gF (starEach es X.env)).any (·.1))=false;rw [lK];rfl) OW (i5 I hg hm ⟨rfl,?_⟩ vC)
 have h2:=ha gF pins s σ H _ I h;rw [he] at h2 ⊢;refine Calls.evalArgs_plain (zao h2 (λus s2 z=>?_) λ_ _ y=>y);obtain ⟨vs,H1,I1,r1,hl,qx⟩:=z;exact ⟨rfl,by rw [<-r1.length];exact hl,I1.bk _ _ hC,hN.keeps I1.bk,T.keeps I1.bk,λh' a mk=>hx pins s2 σ H1 h' a us I1 mk qx⟩
theorem Co {P:Program} {w:World} {K:Frag} {mg:W1} {base:Heap} {N:List Str} {qual:Str} {scope:Scope} {f:Addr} {cd:Value} {A:Around} {outer:List Env} {s0:Shared} {H0:Hp} {E:XK} {C:Addr} :
  ∀ pins s σ H h' a vs,Inv (jy (br P w) P w K mg base N qual scope f cd A outer s0 H0 E) pins σ H s->Heap.MadeExcOf s.heap h' a (.ref C) vs->E (.ref C) none H->
   (jy (br P w) P w K mg base N qual scope f cd A outer s0 H0 E).xe (.ref a) { s with heap:=h' }:=λpins s σ H h' a vs I mk q=>xo I zK mk q
section
variable {X:Cx} {pins:WF} {σ:St} {H:Hp} {s:Shared}
theorem Inv.LM (I:Inv X pins σ H s) (hn:H a=none) (new:aW X.prog X.w (upd H a o) s.heap a o) (fr:X.s₀.heap.get? a=none) (nL:a≠X.env.locals) (nc:∀ x c,X.env.cells.lookup x=some c->c≠a) (np:∀ p∈X.pn++pins,p.1≠a) :
  Inv X pins σ (upd H a o) s:=by
 refine ⟨I.ok,I.os,I.bare,⟨I.base.keep,I.base.slot,λb u e n hx=>?_,I.base.there,λb xs e=>?_,λb u v e=>?_,λb ps e=>?_⟩,I.loc,I.cell,?_,λx c e=>?_,λp hp=>?_,λb u e=>?_,I.len⟩
 ·have hb:b≠a:=λz=>by rw [z,fr] at e;cases e
  rw [aq hb];exact I.base.free b u e n hx
 ·have z:=I.base.lS b xs e;rw [aq (aU z hn)];exact z
 ·have z:=I.base.lg b u v e;rw [aq (aU z hn)];exact z
 ·obtain ⟨m,z⟩:=I.base.kC b ps e;exact ⟨m,by rw [aq (aU z hn)];exact z⟩
 ·rw [aq (zaD nL)];exact I.free
 ·rw [aq (nc x c e)];exact I.dO x c e
 ·obtain ⟨e,n,r⟩:=I.pin p hp;exact ⟨e,by rw [aq (np p hp)];exact n,r⟩
 ·by_cases hb:b=a
  ·subst hb;rw [ae] at e;cases e;exact new
  ·rw [aq hb] at e;exact (I.aZ b u e).eB (λc v _ q=>q) (λc q=>by rw [aq (aU q hn)];exact q) λc xs q=>by rw [aq (aU q hn)];exact q
theorem mL (I:Inv X pins σ H s) (hN:X.N.Nodup) (hi:X.N[i]?=some x) (hk:X.env.scope.names.lookup x=some .local)
  (h:∀ s',Inv X pins (σ.set i none) H s'->Q () s'):wpAny M A (do bindName X.env x .none;unbindBehindTheSuite X.env x pos) Q E s:=by
 obtain ⟨m,hn,hl⟩:=id I.loc;have Kb:(X.env.scope.kind==.class || (X.env.scope.kind==.module&&X.env.locals != X.env.globals))=false:=by rw [I.ok.kind];rfl
 have hiσ:i<σ.length:=by rw [I.len];exact (ZL.mp hi).1
 refine wpAny_nameGoes_keeps hk hn Kb λh' v Dr hs=>h _ ?_;obtain ⟨oL,_,_,Uh,_⟩:=id hn;have lt:∀ b o,X.s₀.heap.get? b=some o->b≠X.env.locals:=λb o e=>Z1 (ZY (ZM e) I.ok.above);refine ⟨I.ok,I.os,I.bare,⟨λb o e n hb hx=>(hs.2 b (lt b o e)).trans (I.base.keep b o e n hb hx),λb o e n hb hx=>?_,I.base.free,λb o e hx=>?_,I.base.lS,I.base.lg,I.base.kC⟩,⟨_,Dr,λj y v' e1 e2 e3=>?_⟩,λy c e=>?_,I.free,I.dO,λp hp=>?_,λb u e=>?_,by simpa using I.len⟩
 ·obtain ⟨sl,e1⟩:=I.base.slot b o e n hb hx;exact ⟨sl,(hs.2 b (lt b o e)).trans e1⟩
 ·obtain ⟨o',e1⟩:=I.base.there b o e hx;exact ⟨o',(hs.2 b (lt b o e)).trans e1⟩
 ·by_cases hj:j=i
  ·subst hj;rw [getElem?_set_self hiσ] at e2;cases e2
  ·rw [getElem?_set_ne (zaD hj)] at e2;obtain ⟨u',r',q⟩:=hl j y v' e1 e2 e3;refine ⟨u',r',?_⟩;rcases q with ⟨k,e⟩|⟨k,c,e,z⟩
   ·refine .inl ⟨k,?_⟩;have:y≠x:=λe=>hj (nT hN e1 (e▸hi));simp [this,e]
   ·exact .inr ⟨k,c,e,z.sameBut hs (I.GA y c e)⟩
 ·obtain ⟨w',z⟩:=I.cell y c e;exact ⟨w',z.sameBut hs (I.GA y c e)⟩
 ·obtain ⟨e,n,ne,nf,d⟩:=I.pin p hp;exact ⟨(hs.2 p.1 ne).trans e,n,ne,nf,d⟩
 ·refine (I.aZ b u e).eB (λc w' hc q=>(hs.2 c ?_).trans q) (λ_ q=>q) λ_ _ q=>q;rintro rfl;rcases hc with rfl|hc
  ·rw [I.free] at e;cases e
  ·rw [I.free] at hc;cases hc
def Cx.marked (X:Cx) (a:Addr):Cx:={ X with A:=X.A.mark (some (.ref a)),calm:=false,xe:=λ_ _=>False }
theorem Inv.mark (I:Inv X pins σ H s):Inv (X.marked a) pins σ H s:=
 ⟨⟨I.ok.mod,I.ok.kind,I.ok.glob,I.ok.blt,I.ok.above,I.ok.inj,I.ok.has,I.ok.Lm,(λz=>absurd (show false=true from z) zae),I.ok.frames,I.ok.ye,I.ok.Se,I.ok.bs,I.ok.GF,I.ok.As,I.ok.DN,I.ok.k9,I.ok.Kj⟩,I.os,I.bare,I.base,I.loc,I.cell,I.free,I.dO,I.pin,I.aZ,I.len⟩
theorem Inv.unmark (J:X.Ok) (I:Inv (X.marked a) pins σ H s):Inv X pins σ H s:=⟨J,I.os,I.bare,I.base,I.loc,I.cell,I.free,I.dO,I.pin,I.aZ,I.len⟩
end
def EX (X:Cx) (pins:WF) (σ:St) (Ex:XK) (e:Value) (s':Shared):Prop:=
 ∃ a cls D H' s0 H0,e=.ref a/\Inv X pins σ H0 s0/\Em X.prog X.w X.stack H0 s0 a cls D H' s'/\Ex cls D H'
section
variable {X:Cx} {k j:Nat} {ps:List Str} {sp:Sp} {x:Str} {p pos:Pos} {e:Expr} {es:List Expr} {t:TA}
theorem NU (h:bK X.prog X.w X.K X.mg X.base (br X.prog X.w) x k ps sp) (hr:df j X.A) (ha:PA X.Bw (e::es) t) (hk:k<=j:=by decide) (hg:Gl X x:=by rfl) (vC:(x==("__debug__":Str))=false:=by decide)
  (he:starEach (e::es) X.env=(false,eval e X.env)::starEach es X.env:=by rfl) (lK:(backTo pos (starEach es X.env)).any (·.1)=false:=by rfl)
  {pins:WF} {s:Shared} {σ:St} {H:Hp} {Q:VK} {Ex:XK} (I:Inv X pins σ H s) (hw:t σ H λvs H1=>sp (vs++[]) H1 Q Ex) :
  wpAny (model X.prog X.w) X.A (eval (.Call (.Name x p) (e::es) [] pos) X.env) (EP X pins σ Q) (EX X pins σ Ex) s:=by
 obtain ⟨f,fd,F,hm,Eu,hb⟩:=h.ex;refine zcc (i5 I hg hm ?_ vC);refine zej (h₀:=X.base) I.ok.mod.La Eu (zao (ha pos pins s σ H _ (I.lR _) hw) (λus s1 ⟨vs,H1,I1,r,q⟩=>⟨I1.oB,?_⟩) λ_ _ z=>False.elim z) he lK;have I1:=I1.fT;dsimp only at q;rw [zbr] at q;have hl:us.length=ps.length:=by rw [<-r.length];exact F.len _ _ _ _ q
 have Lf:=hb s1 us I1.oB (by rw [zbr];exact hl);rw [zbr] at Lf;refine wpAny_call (zcR (F.run X.A X.stack s1 H1 ⟨us,[]⟩ us vs Q Ex (hr.mono hk) I1.NM Lf r q) λrr s' hq=>?_);cases rr with
 | error ev=>
  obtain ⟨a,cls,D,H',rfl,fl,qe⟩:=hq;exact ⟨a,cls,D,H',s1,H1,rfl,I1,fl,qe⟩
 | ok fl=>
  cases fl with
  | ret u=>exact I1.after hq
  | next=>exact False.elim hq
  | brk=>exact False.elim hq
  | cont=>exact False.elim hq
end
def O7 (K:Frag) (M:Addr) (jn:Nat) (ts:TS) (D:Ends) (σ:St):XK:=λcls dx H'=>∃ C,cls=.ref C/\exmOne K (.ref C) (.ref M)=some true/\
 ∀ a,H' a=none->ts { nx:=λσ' H2=>D.nx (σ'.set jn none) H2,rt:=D.rt,bk:=λσ' H2=>D.bk (σ'.set jn none) H2,ct:=λσ' H2=>D.ct (σ'.set jn none) H2 } (σ.set jn (some (.ref a))) (upd H' a (DO C dx a))
theorem D4 {X:Cx} {x n:Str} {M:Addr} {jn:Nat} {b₀:Stmt} {uD:List Stmt} {ts:TS} {np pos:Pos} (hb:Body X) (hm:X.mg x=some (.ref M)) (hN:X.N.Nodup) (hj:X.N[jn]?=some n) (hl:X.env.scope.names.lookup n=some .local)
  (hs:∀ a,tZ (X.marked a) (b₀::uD) ts) (hg:Gl X x:=by rfl) (vC:(x==("__debug__":Str))=false:=by decide)
  {pins:WF} {σ:St} {D:Ends} {e:Value} {s':Shared} (h:EX X pins σ (O7 X.K M jn ts D σ) e s') :
  wpAny (model X.prog X.w) X.A (noteFrame e X.env) (λ_ s2=>wpAny (model X.prog X.w) X.A (setFlight e none) (λ_ s3=>
   wpAny (model X.prog X.w) X.A (handleBy e X.env [.ExceptHandler (some (.Name x np)) (some n) (b₀::uD) pos]) (SP X pins D) X.xe s3) X.xe s2) X.xe s':=by
 obtain ⟨a,cls,dx,H',s0,H0,rfl,I0,F,C,rfl,hx,q⟩:=h;obtain ⟨B,a0,AX,Pe,ct⟩:=F.AX;have I':=F.inv I0;have jY:X.A.frames=some (X.env::X.outer):=by rw [<-hb.ye];exact I0.ok.frames
 have c0:wu B (hW X.stack) X.s₀.heap:=λb o e n=>by
  obtain ⟨o',z⟩:=I0.base.there b o e (by rw [hb.ex];simp);exact Pe b o' z n
 have Wj:∀ p∈X.pn++pins,p.1≠a:=λp hp z=>by
  have:=(I0.pin p hp).1;rw [z,F.fresh] at this;cases this
 have cp:∀ p∈X.pn++pins,∃ ob,B.get? p.1=some ob:=λp hp=>by
  obtain ⟨e,nn,ne,nf,d⟩:=I0.pin p hp;refine Pe _ _ e λz=>?_;rcases zas.mp (I0.js _ z) with r|r
  ·exact ne r
  ·exact nf r
 rw [hb.ye] at AX;refine Ax jY hb.fr AX F.U2 λh4 Nj SQ YD=>?_;refine JD (s:={ s' with heap:=h4 }) Nj YD λh5 Kl SO YC=>?_;have J5:Inv X pins σ H' { s' with heap:=h5,toks:=s'.toks }:=Inv.zk I' hb.ex AX.1 Kl.1 c0 ct cp (SQ.trans SO);obtain ⟨ob,M4,Rk⟩:=Kl.there;have ty:Looks (model X.prog X.w) h5 (typeOf (.ref a)) (.ref C):=Rk▸(Looks.ld M4).andThen .now;refine wpAny_handleBy_cons (codeAny_handlers_test (i5 (X:=X.marked a) J5.mark hg hm ?_ vC)) (by intro z;cases z);refine (exm_one J5.oB ty hx).at ?_;refine codeAny_handlers_suite_as ?_;refine KP (s:={ s' with heap:=h5 }) Kl YC λh6 NB Vk YB=>?_;have J6:Inv X pins σ H' { s' with heap:=h6,toks:=s'.toks }:=Inv.zk I' hb.ex AX.1 NB.1 c0 ct cp ((SQ.trans SO).trans Vk);obtain ⟨oe,ws,M3,M1,F8,Xc⟩:=NB.first
 have ex:ExcAt C a h6:=⟨oe,M3,M1,by unfold notCls;rw [F8]⟩;have nL:a≠X.env.locals:=λz=>by
  obtain ⟨m,⟨o,es,ep,ho,hd,_⟩,_⟩:=J6.loc;have AM:h6.get? X.env.locals=some o:=ho;rw [<-z,M3] at AM;cases AM;rw [F8] at hd;cases hd
 have nc:∀ y c,X.env.cells.lookup y=some c->c≠a:=λy c e z=>by
  obtain ⟨v,o,ho,hd⟩:=J6.cell y c e;have AM:h6.get? c=some o:=ho;rw [z,M3] at AM;cases AM;rw [F8] at hd;cases hd
 have Yq:∀ {H2:Hp},aW X.prog X.w H2 h6 a (DO C dx a):=by
  intro H2;unfold DO;split
  ·exact Gk ex
  ·exact Gq ⟨oe,M3,M1,by unfold notCls;rw [F8],YB.at M3⟩
 have J7:Inv X pins σ (upd H' a (DO C dx a)) { s' with heap:=h6,toks:=s'.toks }:=Inv.LM J6 F.new Yq (I0.xG hb.ex F.fresh) nL nc Wj;refine ig (X:=X.marked a) (v:=.ref a) J7.mark hN hj (.inl hl) rfl (λs8 J8=>?_) (.inr hl);refine zao (hs a pins s8 _ _ _ J8 (q a F.new)) (λf s9 z=>?_) λ_ _ z=>False.elim z;cases f with
 | next=>
  obtain ⟨σ',H2,J9,r⟩:=z;exact mL (J9.unmark J7.ok) hN hj hl λL8 GR=>⟨_,H2,GR,r⟩
 | brk=>
  obtain ⟨σ',H2,J9,r⟩:=z;exact mL (J9.unmark J7.ok) hN hj hl λL8 GR=>⟨_,H2,GR,r⟩
 | cont=>
  obtain ⟨σ',H2,J9,r⟩:=z;exact mL (J9.unmark J7.ok) hN hj hl λL8 GR=>⟨_,H2,GR,r⟩
 | ret u=>
  obtain ⟨v,σ',H2,J9,rv,r⟩:=z;exact mL (J9.unmark J7.ok) hN hj hl λL8 GR=>⟨v,_,H2,GR,rv,r⟩
section
variable {P:Program} {w:World} {K:ZB} {mg:W1} {base:Heap}
theorem Def.c6 {x:Str} {st:Stmt} {k:Nat} {sp:Sp} (D:Def K mg x st ps) (S:aI N ps (aC st)) (len:∀ vs H Q E,sp vs H Q E->vs.length=ps.length)
  (gB:∀ (f:Addr) (cz:Value) (A:Around) (outer:List Env) (s:Shared) (H:Hp) (vs:List V) (Q:VK) (E:XK),df k (A.deeper (envOfC x (aC st) s.heap.objs.size f cz))->sp vs H Q E->
   ∃ t,tZ (jy (br P w) P w K mg base N x (aC st) f cz A outer s H E).Bw (dk st) t/\t { nx:=λ_ H'=>Q .gn H',rt:=Q } (start N vs) H):bK P w K mg base (br P w) x (k+1) ps sp:=by
 obtain ⟨f,fd,F,hm,hb⟩:=D.ex;have kp:=F.kp;obtain ⟨oc,od,kV,doc,pm,an,cz,ct,Ao,rfl,lk,pW⟩:=F.ex;refine ⟨⟨f,_,zj lk pW S len λA o s H vs Q E hr wz=>?_,hm,kp,hb⟩⟩;obtain ⟨t,h,q⟩:=gB f cz A o s H vs Q E hr wz;exact ⟨t,h.Bw,q⟩
theorem Def.AS {x:Str} {st:Stmt} {k:Nat} {sp:Sp} (D:Def K mg x st ps) (S:aI N ps (aC st)) (len:∀ vs H Q E,sp vs H Q E->vs.length=ps.length)
  (gB:∀ (f:Addr) (cz:Value) (A:Around) (outer:List Env) (s:Shared) (H:Hp) (vs:List V) (Q:VK) (E:XK),df k (A.deeper (envOfC x (aC st) s.heap.objs.size f cz))->sp vs H Q E->
   ∃ t,tZ (jy (br P w) P w K mg base N x (aC st) f cz A outer s H E) (dk st) t/\t { nx:=λ_ H'=>Q .gn H',rt:=Q } (start N vs) H):bK P w K mg base (br P w) x (k+1) ps sp:=by
 obtain ⟨f,fd,F,hm,hb⟩:=D.ex;have kp:=F.kp;obtain ⟨oc,od,kV,doc,pm,an,cz,ct,Ao,rfl,lk,pW⟩:=F.ex;exact ⟨⟨f,_,zj lk pW S len λA o s H vs Q E hr wz=>gB f cz A o s H vs Q E hr wz,hm,kp,hb⟩⟩
theorem KY.okN {x:Str} {st:Stmt} {fd:FuncData} {k:Nat} {sp:Sp} (F:KY K x x st f fd) (S:aI N ps (aC st)) (len:∀ vs H Q E,sp vs H Q E->vs.length=ps.length)
  (gB:∀ (cz:Value) (A:Around) (outer:List Env) (s:Shared) (H:Hp) (vs:List V) (Q:VK) (E:XK),df k (A.deeper (envOfC x (aC st) s.heap.objs.size f cz))->sp vs H Q E->
   ∃ t,tZ (jy (br P w) P w K mg base N x (aC st) f cz A outer s H E).Bw (dk st) t/\t { nx:=λ_ H'=>Q .gn H',rt:=Q } (start N vs) H):qA P w K mg base (br P w) (k+1) f fd ps sp:=by
 obtain ⟨oc,od,kV,doc,pm,an,cz,ct,Ao,rfl,lk,pW⟩:=F.ex;refine zj lk pW S len λA o s H vs Q E hr wz=>?_;obtain ⟨t,h,q⟩:=gB cz A o s H vs Q E hr wz;exact ⟨t,h.Bw,q⟩
end
theorem A8 (h:br P w o H s (λ_ _ _=>False) e s'):False:=by
 obtain ⟨_,_,_,_,_,_,z⟩:=h;exact z
theorem Ea {CX:xU} {P:Program} {w:World} {K:Frag} {mg:W1} {base:Heap} {N:List Str} {qual:Str} {scope:Scope} {f:Addr} {cd:Value} {A:Around} {outer:List Env} {s:Shared} {H:Hp} {E:XK} :
  Body (jy CX P w K mg base N qual scope f cd A outer s H E).Bw:=⟨rfl,rfl,rfl,rfl⟩
inductive GN (K:Frag) (H:Hp):V->Value->Prop where
 | gn:GN K H .gn (.type "NoneType")
 | exc {a C:Addr} (e:H a=some (Gp C a)) (c:kh K C):GN K H (.ref a) (.ref C)
 | A1 {a C:Addr} {D:Option Addr} (e:H a=some (A1 C D a)) (c:kh K C):GN K H (.ref a) (.ref C)
theorem GN.TX {σ:St} {s:Shared} (y:GN X.K H x t) (I:Inv X pins σ H s) (r:RelV x u):∃ Hh,KitX X.K u t Hh/\Hh s.heap/\u≠.builtin "__main__.__loader__#opaque":=by
 cases y with
 | gn=>cases (show u=Value.none from r);exact ⟨_,kitx_none,trivial,λz=>nomatch z⟩
 | exc e c=>cases (show u=Value.ref _ from r);exact ⟨_,vv c,Gn I.aZ e,λz=>nomatch z⟩
 | A1 e c=>cases (show u=Value.ref _ from r);exact ⟨_,vv c,(Gr I.aZ e).at,λz=>nomatch z⟩
def Cz (K:Frag):List V->Hp->VK->Prop:=λxs H Q=>∃ x c t u b,xs=[x,c]/\GN K H x t/\ug c u/\kitOne K t u=some b/\Q (.bl b) H
theorem oV:cR X (.builtin "isinstance") (Cz X.K):=by
 intro pins s σ H xs us Q I r h;obtain ⟨x,c,t,u,b,rfl,ty,rc,e,q⟩:=h;obtain ⟨u1,u2,rfl,r1,r2⟩:=vals2 r;have e2:u2=u:=by
  cases rc<;>(cases r2;rfl)
 subst e2;obtain ⟨Hh,Z,p,ne⟩:=ty.TX I r1;exact kia_one Z I.oB p e ne λtk=>⟨.bl b,H,I.tok _,rfl,q⟩
def CA (K:Frag):List V->Hp->VK->Prop:=λxs H Q=>∃ x tp cs t us b,xs=[x,.ref tp]/\GN K H x t/\H tp=some (.tup cs)/\Paired ug cs us/\kitAny K t us=some b/\Q (.bl b) H
theorem vV:∀ {cs:List V} {us ws:XV},Paired ug cs us->Vals cs ws->ws=us
 | _,_,_,.nil,.nil=>rfl
 | _,_,_,.cons r t,.cons q z=>by
  have e:=vV t z;subst e;cases r<;>(cases q;rfl)
theorem xN:cR X (.builtin "isinstance") (CA X.K):=by
 intro pins s σ H xs us Q I r h;obtain ⟨x,tp,cs,t,ws,b,rfl,ty,vz,pc,e,q⟩:=h;obtain ⟨u1,u2,rfl,r1,r2⟩:=vals2 r;cases (show u2=Value.ref tp from r2)
 obtain ⟨Hh,Z,p,ne⟩:=ty.TX I r1;obtain ⟨_,aJ,rv,ob,M4,hc,n,hd⟩:=(show aW X.prog X.w H s.heap tp (.tup cs) from I.aZ tp _ vz);have ei:=vV pc rv;subst ei;obtain ⟨oc,od,Wg,Ao⟩:=ob;dsimp only at hc hd;subst hc hd;exact kia_tup Z I.oB p M4 e ne λtk=>⟨.bl b,H,I.tok _,rfl,q⟩
section
variable {H:Hp} {Q:VK} {K:Frag}
theorem yw (ty:GN K H x t) (hc:ug c u) (e:kitOne K t u=some b) (q:Q (.bl b) H):Cz K [x,c] H Q:=⟨x,c,t,u,b,rfl,ty,hc,e,q⟩
theorem Fe (ty:GN K H x t) (h:H tp=some (.tup cs)) (hc:Paired ug cs us) (e:kitAny K t us=some b) (q:Q (.bl b) H):CA K [x,.ref tp] H Q:=⟨x,tp,cs,t,us,b,rfl,ty,h,hc,e,q⟩
theorem Fd (h:ta σ H λvs H1=>vs.length<=sizeLine/\Ex (.ref C) none H1):BW Ex C ta D σ H:=h
end
def AllIn (cells:List (Str×Addr)):List (Str×Addr)->Prop
 | []=>True
 | p::r=>cells.lookup p.1=some p.2/\AllIn cells r
theorem AllIn.get {cells:List (Str×Addr)}:∀ {cl:List (Str×Addr)},AllIn cells cl->∀ {x c},cl.lookup x=some c->cells.lookup x=some c
 | [],_,x,c,e=>by cases e
 | (n,d)::r,h,x,c,e=>by
  rw [zcO] at e;cases q:x==n with
  | true=>
   rw [q] at e;cases e;have z:x=n:=by simpa using q
   subst z;exact h.1
  | false=>rw [q] at e;exact AllIn.get h.2 e
def Eg (X:Cx) (ifs:List Expr) (t:TT):Prop:=
 ∀ (pins:WF) (s:Shared) (σ:St) (H:Hp) (Q:Bool->Hp->Prop),Inv X pins σ H s->t σ H Q->
  wpAny (model X.prog X.w) X.A (forIn ifs true λc r=>if r=true then do let ok <-isTrue c X.env (eval c X.env);pure (ForInStep.yield ok) else pure (ForInStep.yield r)) (TP X pins σ Q) X.xe s
def x8:TT:=λ_ H Q=>Q true H
theorem a9:Eg X [] x8:=λ_ _ _ H _ I h=>wpAny_tests_nil ⟨H,I,h⟩
theorem gw (h:PT X c t):Eg X [c] t:=λpins s σ H Q I hw=>wpAny_tests_one (h pins s σ H Q I hw)
theorem A9 {elt target iter:Expr} {ifs:List Expr} {scope:Scope} {pos:Pos} {it acc:Value} {env:Env} (I:Nat->Shared->Prop)
  (turn:∀ n s,I n s->wpAny (model prog w) A (pyNext it) (λr s₁=>match r with
   | none=>R (.ok .next) s₁
   | some v=>wpAny (model prog w) A (letOwnedTupleGo target it v) (λ_ s1=>wpAny (model prog w) A (assign target env v) (λ_ s₂=>
     wpAny (model prog w) A (forIn ifs true λc r=>if r=true then do let ok <-isTrue c env (eval c env);pure (ForInStep.yield ok) else pure (ForInStep.yield r)) (λok s₃=>
      if ok=true then wpAny (model prog w) A (eval elt env) (λx s₄=>wpAny (model prog w) A (call (.builtin "list.append") [acc,x]) (λ_ s₅=>∃ m,m<n/\I m s₅) (λ_ _=>False) s₄) (λ_ _=>False) s₃
      else ∃ m,m<n/\I m s₃) (λ_ _=>False) s₂) (λ_ _=>False) s1) (λ_ _=>False) s₁) (λ_ _=>False) s)
  (n:Nat) (h:I n s):codeAny (model prog w) A (.compLoop (.ListComp elt [⟨target,iter,ifs,0⟩] scope pos) 0 it acc env) R s:=by
 refine codeAny_loop rfl I (λn s hI=>?_) n h;show wpAny _ A ((compTurn (.ListComp elt [⟨target,iter,ifs,0⟩] scope pos) 0 it acc env).onRaise (λx=>do noteFrame x env;theTreesLotGoes x)) _ _ s;refine wpAny_noted ?_;rw [compTurn_list];refine rd (wpAny_standAt (rd (zao (turn n s hI) (λr s₁ h₁=>?_) λ_ _ z=>False.elim z)));cases r with
 | none=>exact ZR h₁
 | some v=>
  refine rd (zao h₁ (λ_ s1 h1=>rd (zao h1 (λ_ s₂ h₂=>rd (zao h₂ (λok s₃ h₃=>?_) λ_ _ z=>False.elim z)) λ_ _ z=>False.elim z)) λ_ _ z=>False.elim z);cases ok with
  | false=>exact ZR ⟨rfl,h₃⟩
  | true=>
   exact rd (rd (zao h₃ (λx s₄ h₄=>rd (zao h₄ (λ_ s₅ h₅=>ZR (ZR ⟨rfl,h₅⟩)) λ_ _ z=>False.elim z)) λ_ _ z=>False.elim z))
def Cx.block (X:Cx) (scope:Scope) (cl:List (Str×Addr)) (C:Addr) (N:List Str) (fp:XL) (pins:WF) (s:Shared) (H:Hp):Cx:=
 { X with N:=N,s₀:=s,H₀:=H,env:=compEnvC scope cl C X.env,outer:=X.stack,ex:=fp,fn:=λ_=>false,pn:=X.pn++pins,xe:=λ_ _=>False }
def i9 (n:Nat) (fr:List Nat) (σ:St):St:=List.replicate n none++fr.map λi=>(σ[i]?).join
structure mS (X:Cx) (scope:Scope) (cl:List (Str×Addr)) (tg:List Str) (fr:List (Str×Nat)):Prop where
 kind:scope.kind=.function
 Jt:∀ y∈scope.names,y.2≠.cell
 names:∀ y∈scope.names,y.2=.local->scope.names.lookup y.1=some .local
 xM:closureFor scope X.env=pure cl
 zN:AllIn X.env.cells cl
 has:((relabel scope X.env).names.all λp=>!(p.2==.cell || p.2==.free) || (cl.lookup p.1).isSome)=true
 RZ:∀ p∈fr,X.N[p.2]?=some p.1/\N7 X.env.scope p.1/\(cl.lookup p.1).isSome=true/\((relabel scope X.env).names.lookup p.1==some .cell || (relabel scope X.env).names.lookup p.1==some .free)=true
 R0:∀ p∈fr,(X.env.kindOf p.1==some .local)=false
section
variable {X:Cx} {pins:WF} {σ:St} {H:Hp} {s:Shared} {scope:Scope} {cl:List (Str×Addr)} {tg:List Str} {fr:List (Str×Nat)}
theorem lookup_mem {κ α:Type} [BEq κ] [LawfulBEq κ]:∀ {l:List (κ×α)} {x:κ} {v:α},l.lookup x=some v->(x,v)∈l
 | [],_,_,e=>by cases e
 | (k,u)::r,x,v,e=>by
  rw [zcO] at e;cases q:x==k with
  | true=>
   rw [q] at e;cases e;have z:x=k:=by simpa using q
   subst z;exact zac
  | false=>rw [q] at e;exact Z5 _ (lookup_mem e)
theorem vZ {C:Addr} {fp:XL} {h':Heap} {t':Nat} {m:W1} (B:mS X scope cl tg fr) (I:Inv X pins σ H s) (hf:∀ b∈fp,jB X pins H b/\b<s.heap.objs.size) (hC:s.heap.objs.size<=C) (hn:h'.Ns C m) (k:∀ b o,s.heap.get? b=some o->h'.get? b=some o)
  {H2:Hp} (hu:Un (hW X.stack) fp H H2 s.heap h') (aZ:hX X.prog X.w H2 h') (yY:H2 C=none) :
  Inv (X.block scope cl C (tg++fr.map (·.1)) fp pins s H) [] (i9 tg.length (fr.map (·.2)) σ) H2 { s with heap:=h',toks:=t' }:=by
 have cells:∀ {x c},cl.lookup x=some c->X.env.cells.lookup x=some c:=λe=>B.zN.get e;have cC:∀ x c,X.env.cells.lookup x=some c->c≠C:=λx c e z=>by
  obtain ⟨v,o,ho,_⟩:=I.cell x c e;exact absurd (ZY (ZM ho) hC) (by rw [z];exact zam _)
 have cellK:∀ {c v},s.heap.IsCell c v->h'.IsCell c v:=λ{c v} ⟨o,e,d⟩=>⟨o,k c o e,d⟩;have HZ:∀ x c,X.env.cells.lookup x=some c->c∉fp/\H2 c=none:=λx c e=>by
  have nf:c∉fp:=λz=>(hf c z).1.2.2.2.2.1 x c e rfl;obtain ⟨v,o,ho,_⟩:=I.cell x c e;exact ⟨nf,hu.free c o ho (I.dO x c e) nf⟩
 have Ql:∀ p∈X.pn++pins,p.1∉fp/\H2 p.1=none:=λp hp=>by
  have nf:p.1∉fp:=λz=>(hf p.1 z).1.2.2.2.2.2 p hp rfl;obtain ⟨e,n,_⟩:=I.pin p hp;exact ⟨nf,hu.free p.1 _ e n nf⟩
 have VC:∀ b∈hW X.stack,b<s.heap.objs.size:=λb hb=>by
  obtain ⟨_,o,ho,_⟩:=I.stack.mem hb;exact ZM ho
 refine ⟨⟨I.ok.mod,B.kind,I.ok.glob,I.ok.blt,hC,λx y c h1 h2=>I.ok.inj x y c (cells h1) (cells h2),λx hx=>?_,λx c z=>absurd (show false=true from z) zae,I.ok.hd,I.ok.frames,.inl rfl,λb hb=>?_,λb o e=>⟨?_,?_⟩,?_,λb o e z=>?_,λb hb z=>?_,I.stack,I.mC⟩,
  rfl,I.bare,hu,⟨m,hn,λi x v h1 h2 h3=>?_⟩,λx c e=>?_,yY,λx c e=>(HZ x c (cells e)).2,λp hp=>?_,aZ,?_⟩
 ·have e:(relabel scope X.env).names.lookup x=some .cell\/(relabel scope X.env).names.lookup x=some .free:=hx;have mem:∃ kk,(x,kk)∈(relabel scope X.env).names/\(kk==NameKind.cell || kk==NameKind.free)=true:=by
   rcases e with e|e
   ·exact ⟨_,lookup_mem e,rfl⟩
   ·exact ⟨_,lookup_mem e,rfl⟩
  obtain ⟨kk,mm,hk⟩:=mem;have z:=List.all_eq_true.mp B.has _ mm;simp only [hk,zez,zdQ] at z;exact zaU.mp z
 ·exact ⟨λz=>absurd (ZY (hf b hb).2 hC) (by rw [z];exact zam _),λx c e z=>(HZ x c (cells e)).1 (z▸hb)⟩
 ·exact (I.bs b o e).1
 ·exact (I.bs b o e).2
 ·exact zag I.ok.GF I.sz
 ·rcases (hf b z).1.2.2.2.1 with q|q
  ·exact I.ok.As b o e q
  ·exact absurd (ZY (ZM (I.ok.bs b o e).1) q) (zam _)
 ·have z':b∈hW X.stack:=z;rcases zas.mp (I.js b z') with q|q
  ·exact (hf b hb).1.2.1 q
  ·exact (hf b hb).1.2.2.1 q
 ·have hi:tg.length<=i:=by
   refine Nat.le_of_not_lt λz=>?_;unfold i9 at h2;rw [Z0 (by simpa using z),getElem?_replicate,ZW z] at h2;cases h2
  have tG:(fr.map (·.1))[i-tg.length]?=some x:=by
   have z:(tg++fr.map (·.1))[i]?=some x:=h1;rw [Z2 hi] at z;exact z
  have mK:((fr.map (·.2)).map λi=>(σ[i]?).join)[i-tg.length]?=some (some v):=by
   unfold i9 at h2;rw [Z2 (by simpa using hi)] at h2;simpa using h2
  rw [ZS] at tG;rw [ZS,ZS] at mK;cases q:fr[i-tg.length]? with
  | none=>rw [q] at tG;cases tG
  | some p=>
   rw [q] at tG mK;have ex:p.1=x:=ZO tG;have ev:(σ[p.2]?).join=some v:=ZO mK;subst ex;obtain ⟨f1,f2,f3,f4⟩:=B.RZ p (ZX q);have eσ:σ[p.2]?=some (some v):=by
    cases z:σ[p.2]? with
    | none=>rw [z] at ev;cases ev
    | some w'=>rw [z] at ev;exact zaO some ev
   obtain ⟨m0,Xh,Nc⟩:=I.loc;obtain ⟨u,r,l⟩:=Nc p.2 p.1 v f1 eσ f2;refine ⟨u,r,?_⟩;obtain ⟨c,hc⟩:=zaU.mp f3;have hk:=B.R0 p (ZX q);rcases l with ⟨kl,_⟩|⟨_,c',vD,z⟩
   ·rw [kl] at hk;cases hk
   ·have e':=cells hc;rw [vD] at e';cases e'
    exact .inr ⟨(Bool.or_eq_true_iff.mp f4).imp eq_of_beq eq_of_beq,c,hc,cellK z⟩
 ·obtain ⟨v,z⟩:=I.cell x c (cells e);exact ⟨v,cellK z⟩
 ·rw [zbr] at hp;obtain ⟨e,n,ne,nf,d⟩:=I.pin p hp;refine ⟨k _ _ e,(Ql p hp).2,λz=>absurd (ZY (ZM e) hC) (by rw [z];exact zam _),λz=>?_,d⟩;rcases zas.mp (I.js _ z) with q|q
  ·exact ne q
  ·exact nf q
 ·unfold i9;show _=(tg++fr.map (·.1)).length;simp
end
def qG (wi:TI) (g:TG) (tt:TT) (te:TE) (n:Nat) (fr:List Nat):TE:=λσ H Q=>wi σ H λJ H1=>∀ acc,H1 acc=none->∃ W:Nat->Nat->St->List V->Hp->Prop,(∃ m,W 0 m (i9 n fr σ) [] (upd H1 acc (.lst [])))/\
 ∀ i m σ' ys H2,W i m σ' ys H2->((J.stop i H2/\Q (.ref acc) H2)\/(J.go i H2/\∀ x H3,J.wx i H2 x H3->g x σ' H3 λσ2 H4=>tt σ2 H4 λb H5=>
  if b=true then te σ2 H5 λy H6=>H6 acc=some (.lst ys)/\ys.length<sizeLine/\∃ m',m'<m/\W (i+1) m' σ2 (ys++[y]) (upd H6 acc (.lst (ys++[y]))) else ∃ m',m'<m/\W (i+1) m' σ2 ys H5))
section
variable {X:Cx} {scope:Scope} {cl:List (Str×Addr)} {tg:List Str} {fr:List (Str×Nat)} {elt target iter:Expr} {ifs:List Expr} {wi:TI} {g:TG} {tt:TT} {te:TE} {pos:Pos}
theorem rq (B:mS X scope cl tg fr) (hc:X.calm=true) (hi:PI X target iter wi)
  (hg:∀ C fp pins s H,PG (X.block scope cl C (tg++fr.map (·.1)) fp pins s H) target g) (ht:∀ C fp pins s H,Eg (X.block scope cl C (tg++fr.map (·.1)) fp pins s H) ifs tt) (he:∀ C fp pins s H,PE (X.block scope cl C (tg++fr.map (·.1)) fp pins s H) elt te)
  {pins:WF} {σ:St} {H:Hp} {s:Shared} {Q:VK} (I:Inv X pins σ H s) (hw:qG wi g tt te tg.length (fr.map (·.2)) σ H Q) {RR:Value->Addr->Result->Shared->Prop}
  (X1:∀ D C s1 H5 m,Inv X pins σ H5 s1->s1.heap.Ns C m->H5 C=none->C≠X.env.locals->X.s₀.heap.objs.size<=C->(∀ x c,X.env.cells.lookup x=some c->c≠C)->(∀ p∈X.pn++pins,p.1≠C)->Q (.ref D) H5->RR (.ref D) C (.ok .next) s1) :
  wpAny (model X.prog X.w) X.A (eval iter X.env) (λxv s1=>wpAny (model X.prog X.w) X.A (pyIter xv) (λit s2=>wpAny (model X.prog X.w) X.A (newList []) (λacc s3=>
   wpAny (model X.prog X.w) X.A (newFunctionEnv scope X.env.globals cl [] X.env.qual none .none (some X.env)) (λNT s4=>
    codeAny (model X.prog X.w) X.A (.compStart (.ListComp elt [⟨target,iter,ifs,0⟩] scope pos) 0 it acc { NT with scope:=relabel scope X.env }) (RR acc NT.locals) s4) X.xe s3) X.xe s2) X.xe s1) X.xe s:=by
 refine zao (hi pins s σ H _ I hw) (λxv s1 h1=>zao h1 (λQR s2 h2=>?_) λ_ _ z=>z) λ_ _ z=>z;obtain ⟨it,fp,tn,J,H1,rfl,I2,T,PF,f2,QX⟩:=h2;have EB:∀ b∈fp,b<s2.heap.objs.size:=λb hb=>by
  obtain ⟨o,e,_⟩:=T.obj _ _ PF b hb;exact ZM e
 refine zcF (wpAny_newFunctionEnv B.Jt (by intro y hy;simp at hy) (λh3 lZ OS=>?_) B.kind);dsimp only at lZ OS ⊢;generalize hP:s2.heap.push { cls:=.type "list",dict:=none,data:=.seq ([]:XV).toArray }=hp at lZ OS ⊢;have hC:hp.objs.size=s2.heap.objs.size+1:=by rw [<-hP,zaI]
 have dI:s2.heap.objs.size<hp.objs.size:=by rw [hC];exact zbO _
 have k3:∀ b o,s2.heap.get? b=some o->h3.get? b=some o:=λb o e=>by
  have l:=ZM e;refine OS.extBut b o (Z1 (zcS l dI)) (ZN _ (hP▸ZN _ e))
 have hD:H1 s2.heap.objs.size=none:=I2.aZ.fresh (ZQ _);have aY:h3.get? s2.heap.objs.size=some { cls:=.type "list",dict:=none,data:=.seq ([]:XV).toArray }:=OS.extBut _ _ (Z1 dI) (ZN _ (hP▸Z3 _ rfl));obtain ⟨W,⟨m0,w0⟩,turn⟩:=QX _ hD;have Vn:Un (hW X.stack) fp H1 (upd H1 s2.heap.objs.size (.lst [])) s2.heap h3:=Un.laid k3 (ZQ _) hD;have Wf:hX X.prog X.w (upd H1 s2.heap.objs.size (.lst [])) h3:=I2.aZ.laid k3 (ZQ _) ⟨Z7 _,[],0,.nil,aY⟩;have fC:upd H1 s2.heap.objs.size (.lst []) hp.objs.size=none:=by rw [aq (zax dI)];exact I2.aZ.fresh (zaA dI)
 have Wv:=I2.lt;have nL:hp.objs.size≠X.env.locals:=zax (zcS Wv dI);have VO:X.s₀.heap.objs.size<=hp.objs.size:=zag I2.sz (zaA dI);have cC:∀ x c,X.env.cells.lookup x=some c->c≠hp.objs.size:=λx c e z=>by
  obtain ⟨v,o,ho,_⟩:=I2.cell x c e;exact absurd (zcS (ZM ho) dI) (by rw [z];exact zam _)
 have pC:∀ p∈X.pn++pins,p.1≠hp.objs.size:=λp JS z=>by
  exact absurd (zcS (ZM (I2.pin p JS).1) dI) (by rw [z];exact zam _)
 have J0:=vZ (t':=s2.toks+([]:List (Str×Value)).length) B I2 (λb hb=>⟨f2 b hb,EB b hb⟩) (zaA dI) lZ k3 Vn Wf fC;have R3:∀ {H':Hp} {pl:WF},(∀ b∈fp,H' b=none)->(∀ p∈pl,p.1∉fp)->∀ b∈fp,jB (X.block scope cl hp.objs.size (tg++fr.map (·.1)) fp pins s2 H1) pl H' b:=λhn lK b hb=>by
  obtain ⟨g0,g1,g2,g3,g4,g5⟩:=f2 b hb;refine ⟨hn b hb,λz=>?_,λz=>?_,.inl hb,λx c e=>g4 x c (B.zN.get e),λp JS z=>?_⟩
  ·have z':b=hp.objs.size:=z;exact absurd (zcS (EB b hb) dI) (by rw [z'];exact zam _)
  ·rcases zas.mp (I2.js b z) with q|q
   ·exact g1 q
   ·exact g2 q
  ·rcases ZZ.mp JS with q|q
   ·exact g5 p q z
   ·exact lK p q (z▸hb)
 have loop:∀ s3:Shared,s3={ s2 with heap:=h3,toks:=s2.toks+([]:List (Str×Value)).length }->
   codeAny (model X.prog X.w) X.A (.compLoop (.ListComp elt [⟨target,iter,ifs,0⟩] scope pos) 0 (.ref it) (.ref s2.heap.objs.size) (compEnvC scope cl hp.objs.size X.env)) (RR (.ref s2.heap.objs.size) hp.objs.size) s3:=by
  rintro s3 rfl;refine A9 (λn s'=>∃ i σ' ys H5,Inv (X.block scope cl hp.objs.size (tg++fr.map (·.1)) fp pins s2 H1) [] σ' H5 s'/\tn i s'.heap/\(∀ b∈fp,H5 b=none)/\W i n σ' ys H5) ?_ m0
   ⟨0,_,[],_,J0,T.keep _ _ _ PF λb hb o e=>k3 b o e,λb hb=>?_,w0⟩
  ·rintro n s' ⟨i,σ',ys,H5,J5,t5,f5,w5⟩;rcases turn i n σ' ys H5 w5 with ⟨stop,q⟩|⟨go,step⟩
   ·refine zao (T.done (X.block scope cl hp.objs.size (tg++fr.map (·.1)) fp pins s2 H1) rfl rfl rfl hc i [] s' σ' H5 (λ_ _=>False) J5 (R3 f5 (by simp)) t5 stop) (λr s6 ⟨hr,J6⟩=>?_) λ_ _ z=>z;subst hr;obtain ⟨m6,Xf,_⟩:=J6.loc;exact X1 _ _ _ H5 m6 (I2.Ia (ch:=fp) J6.os J6.base J6.aZ J6.bare λb hb=>by obtain ⟨g0,g1,g2,g3,g4,g5⟩:=f2 b hb;exact ⟨g3,g1,g4,g5⟩) Xf J6.free nL VO cC pC q
   ·refine zao (T.item (X.block scope cl hp.objs.size (tg++fr.map (·.1)) fp pins s2 H1) rfl rfl rfl hc i [] s' σ' H5 (λ_ _=>False) J5 (R3 f5 (by simp)) t5 go) (λr s6 ⟨u,hr,h6⟩=>?_) λ_ _ z=>z;subst hr;refine zao h6 (λ_ s7 ⟨x,H7,J7,r7,y7,t7,f7⟩=>?_) λ_ _ z=>z;have YR:=J7.pinned (R3 f7 (by simp)) (T.obj _ _ t7);have again:∀ {σ8:St} {H8:Hp} {s8:Shared} {Ip:List V},Inv (X.block scope cl hp.objs.size (tg++fr.map (·.1)) fp pins s2 H1) ([]++nH fp s7.heap) σ8 H8 s8->(∃ m',m'<n/\W (i+1) m' σ8 Ip H8)->
      ∃ m',m'<n/\∃ i σ' ys H5,Inv (X.block scope cl hp.objs.size (tg++fr.map (·.1)) fp pins s2 H1) [] σ' H5 s8/\tn i s8.heap/\(∀ b∈fp,H5 b=none)/\W i m' σ' ys H5:=λ{σ8 H8 s8 Ip} J8 ⟨m',hm,w8⟩=>by
     refine ⟨m',hm,i+1,σ8,Ip,H8,J8.jE,T.keep _ _ _ t7 λb hb o e=>(J8.pin (b,o) (zaL _ (zaL _ (gU hb e)))).1,λb hb=>?_,w8⟩;obtain ⟨o,e,d⟩:=T.obj _ _ t7 b hb;exact (J8.pin (b,o) (zaL _ (zaL _ (gU hb e)))).2.1
    refine zao (hg _ _ _ _ _ _ s7 σ' H7 x u _ YR r7 (step x H7 y7)) (λ_ s8 ⟨σ8,H8,J8,q8⟩=>?_) λ_ _ z=>z;refine zao (ht _ _ _ _ _ _ s8 σ8 H8 _ J8 q8) (λb s9 ⟨H9,J9,q9⟩=>?_) λ_ _ z=>z;cases b with
    | false=>
     rw [ZU zae] at q9 ⊢;exact again J9 q9
    | true=>
     rw [ZW rfl] at q9 ⊢;refine zao (he _ _ _ _ _ _ s9 σ8 H9 _ J9 q9) (λy L8 ⟨v,EF,GR,VV,RN,Rw,VY⟩=>?_) λ_ _ z=>z;refine zao (cT (X:=X.block scope cl hp.objs.size (tg++fr.map (·.1)) fp pins s2 H1) _ L8 σ8 EF (.ref s2.heap.objs.size) [v] (.ref s2.heap.objs.size) [y] (λ_ mq=>∃ m',m'<n/\W (i+1) m' σ8 (ys++[v]) mq) GR rfl (.cons VV .nil) ⟨_,ys,v,rfl,rfl,RN,Rw,VY⟩) (λ_ YY ⟨_,mq,YS,_,VX⟩=>?_) λ_ _ z=>z;exact again YS VX
  ·have l:=EB b hb;rw [aq (Z1 l)];exact (f2 b hb).1
 exact codeAny_compStart_list (loop _ rfl) (T.self X.A 0 _ _ _ (T.keep _ _ _ PF λb hb o e=>k3 b o e) (loop _ rfl))
theorem bH (B:mS X scope cl tg fr) (hc:X.calm=true) (hi:PI X target iter wi)
  (hg:∀ C fp pins s H,PG (X.block scope cl C (tg++fr.map (·.1)) fp pins s H) target g) (ht:∀ C fp pins s H,Eg (X.block scope cl C (tg++fr.map (·.1)) fp pins s H) ifs tt) (he:∀ C fp pins s H,PE (X.block scope cl C (tg++fr.map (·.1)) fp pins s H) elt te)
  (hs:∀ x,foldedSetIterable iter X.env x=pure x:=by intro _;rfl):PE X (.ListComp elt [⟨target,iter,ifs,0⟩] scope pos) (qG wi g tt te tg.length (fr.map (·.2))):=by
 intro pins s σ H Q I hw;rw [eval_ListComp];refine wpAny_comprehension_free (use:=none) rfl hs B.xM B.kind B.names (rq B hc hi hg ht he I hw (RR:=λacc C=>compPost (model X.prog X.w) X.A X.xe none (EP X pins σ Q) acc C) λD C s1 H5 m J hn f0 f1 f2 f3 f4 q=>?_);refine ⟨m,hn,λh' sb=>⟨.ref D,H5,?_,rfl,q⟩⟩;exact J.turned (t':=s1.toks) (λb o hb e=>(sb.2 b hb).trans e) f0 f1 (.inr f2) f3 f4
theorem gQ {i:Nat} {y:Str} {py L3:Pos} (hN:X.N.Nodup) (hy:X.N[i]?=some y) (hl:Loc X.env.scope y) (B:mS X scope cl tg fr) (hc:X.calm=true) (hi:PI X target iter wi)
  (hg:∀ C fp pins s H,PG (X.block scope cl C (tg++fr.map (·.1)) fp pins s H) target g) (ht:∀ C fp pins s H,Eg (X.block scope cl C (tg++fr.map (·.1)) fp pins s H) ifs tt) (he:∀ C fp pins s H,PE (X.block scope cl C (tg++fr.map (·.1)) fp pins s H) elt te)
  (hs:∀ x,foldedSetIterable iter X.env x=pure x:=by intro _;rfl) (Q1:swapsWith (.ListComp elt [⟨target,iter,ifs,0⟩] scope pos) (some (.Name y py)) L3.line X.env=pure true:=by rfl)
  (hf:X.fn y=true\/X.env.scope.names.lookup y=some .local:=by first|exact .inl rfl|exact .inr rfl|assumption) :
  PS X (.Assign [.Name y py] (.ListComp elt [⟨target,iter,ifs,0⟩] scope pos) L3) (BX (qG wi g tt te tg.length (fr.map (·.2))) (oK i)):=by
 intro pins s σ H D I hw;rw [exec_Assign_Name_used _ _ _ _ Q1];refine rd (wpAny_standAt (rd ?_));show wpAny _ _ (do let _ <-comprehension (.ListComp elt [⟨target,iter,ifs,0⟩] scope pos) scope X.env _ (newList []) false (eval iter X.env) (some (assign (.Name y py) X.env))) _ _ s;refine rd (zao (wpAny_comprehension_free (use:=some (assign (.Name y py) X.env)) (Q:=λ_ s'=>SP X pins D .next s') rfl hs B.xM B.kind B.names
  (rq B hc hi hg ht he I hw (RR:=λacc C=>compPost (model X.prog X.w) X.A X.xe (some (assign (.Name y py) X.env)) (λ_ s'=>SP X pins D .next s') acc C) λR C s1 H5 m J hn f0 f1 f2 f3 f4 q=>?_)) (λ_ s' hq=>ZR (ZR hq)) λ_ _ z=>z)
 show wpAny _ _ (assign (.Name y py) X.env (.ref R)) _ _ _;refine wpAny_assign_Name (qH (v:=.ref R) J hN hy hl rfl (λs2 J2 ⟨a,sb,ha⟩=>?_) hf);have na:C≠a:=by
  rcases ha with z|z
  ·rw [z];exact f1
  ·exact zaD (f3 y a z)
 refine ⟨m,hn.sameBut sb na,λh' PZ=>⟨_,H5,?_,q⟩⟩;exact J2.turned (t':=s2.toks) (λb o hb e=>(PZ.2 b hb).trans e) f0 f1 (.inr f2) f3 f4
end
mutual
inductive jc (H:Hp):V->PyData->Prop where
 | int (i:Int):jc H (.int i) (.int i)
 | lst {a:Addr} {vs:List V} {ds:List PyData}:H a=some (.lst vs)->bZ H vs ds->jc H (.ref a) (.list ds)
 | tup {a:Addr} {vs:List V} {ds:List PyData}:H a=some (.tup vs)->bZ H vs ds->jc H (.ref a) (.tuple ds)
inductive bZ (H:Hp):List V->List PyData->Prop where
 | nil:bZ H [] []
 | cons {v:V} {vs:List V} {d:PyData} {ds:List PyData}:jc H v d->bZ H vs ds->bZ H (v::vs) (d::ds)
end
section
variable {X:Cx} {pins:WF} {σ:St} {H:Hp} {s:Shared}
mutual
theorem jc.reads (I:Inv X pins σ H s):∀ {v:V} {d:PyData} {u:Value},jc H v d->RelV v u->∃ as,Reads s.heap u d as
 | _,_,u,.int i,r=>by
  obtain ⟨t,rfl⟩:=r;exact ⟨_,.int i t⟩
 | _,_,u,.lst (a:=a) (vs:=vs) e h,r=>by
  cases (show u=Value.ref a from r)
  obtain ⟨_,aJ,n,rv,g⟩:=(show aW X.prog X.w H s.heap a (.lst vs) from I.aZ a _ e);obtain ⟨as,ra⟩:=bZ.reads I h rv;exact ⟨_,.list g rfl rfl (by simpa using ra)⟩
 | _,_,u,.tup (a:=a) (vs:=vs) e h,r=>by
  cases (show u=Value.ref a from r)
  obtain ⟨_,aJ,rv,o,g,hc,n,hd⟩:=(show aW X.prog X.w H s.heap a (.tup vs) from I.aZ a _ e);obtain ⟨as,ra⟩:=bZ.reads I h rv;exact ⟨_,.tuple g hc hd (by simpa using ra)⟩
theorem bZ.reads (I:Inv X pins σ H s):∀ {vs:List V} {ds:List PyData} {us:XV},bZ H vs ds->Vals vs us->∃ as,ReadsAll s.heap us ds as
 | _,_,_,.nil,.nil=>⟨_,.nil⟩
 | _,_,_,.cons h t,.cons r q=>by
  obtain ⟨as,ra⟩:=jc.reads I h r;obtain ⟨bs,rb⟩:=bZ.reads I t q;exact ⟨_,.cons ra rb⟩
end
end
def Ms (neg:Bool):R2:=λx y H Q=>∃ da db,jc H x da/\jc H y db/\SeqAt.shaped da=true/\SeqAt.shaped db=true/\Q (.bl (if neg then !PyData.eqv da db else PyData.eqv da db)) H
theorem kO (hu:X.A.units+64<cLine):me X (compareOp .Eq) (Ms false):=by
 intro pins s σ H x y v u Q I rx ry h;obtain ⟨da,db,ra,rb,ha,hb,q⟩:=h;obtain ⟨as,r1⟩:=jc.reads I ra rx;obtain ⟨bs,r2⟩:=jc.reads I rb ry;exact SeqAt.compareEq_shaped r1 r2 ha hb hu (bc I q rfl)
theorem sG (hu:X.A.units+64<cLine):me X (compareOp .NotEq) (Ms true):=by
 intro pins s σ H x y v u Q I rx ry h;obtain ⟨da,db,ra,rb,ha,hb,q⟩:=h;obtain ⟨as,r1⟩:=jc.reads I ra rx;obtain ⟨bs,r2⟩:=jc.reads I rb ry;exact SeqAt.compareNe_shaped r1 r2 ha hb hu (bc I q rfl)
def cg (l:Wp):PyData:=.list (l.map .int)
def jj (L:Uf):PyData:=.list (L.map cg)
def eR (p:Int×Int):PyData:=.tuple [.int p.1,.int p.2]
def tQ (L:List (Int×Int)):PyData:=.list (L.map eR)
theorem lay_ints:∀ l:Wp,PyData.canLayAll0 (l.map .int)=true/\PyData.depthAll (l.map .int)=0
 | []=>⟨by simp [PyData.canLayAll0],by simp [PyData.depthAll]⟩
 | i::l=>by
  obtain ⟨h1,h2⟩:=lay_ints l;simp [PyData.canLayAll0,PyData.depthAll,PyData.canLay0,PyData.depth,h1,h2]
theorem vo:∀ L:Uf,PyData.canLayAll0 (L.map cg)=true/\PyData.depthAll (L.map cg)<=1
 | []=>⟨by simp [PyData.canLayAll0],by simp [PyData.depthAll]⟩
 | l::L=>by
  obtain ⟨h1,h2⟩:=vo L;obtain ⟨h3,h4⟩:=lay_ints l;simp [PyData.canLayAll0,PyData.depthAll,PyData.canLay0,PyData.depth,cg,h1,h3,h4];omega
theorem kU:∀ L:List (Int×Int),PyData.canLayAll0 (L.map eR)=true/\PyData.depthAll (L.map eR)<=1
 | []=>⟨by simp [PyData.canLayAll0],by simp [PyData.depthAll]⟩
 | p::L=>by
  obtain ⟨h1,h2⟩:=kU L;simp [PyData.canLayAll0,PyData.depthAll,PyData.canLay0,PyData.depth,eR,h1];omega
theorem fM (L:Uf):SeqAt.shaped (jj L)=true:=by
 obtain ⟨h1,h2⟩:=vo L;unfold SeqAt.shaped jj;simp [PyData.canLay0,PyData.depth,h1];omega
theorem j5:∀ l m:Wp,PyData.eqvAll (l.map .int) (m.map .int)=decide (l=m)
 | [],[]=>by simp [PyData.eqvAll]
 | [],_::_=>by simp [PyData.eqvAll]
 | _::_,[]=>by simp [PyData.eqvAll]
 | i::l,j::m=>by
  simp only [zaX,PyData.eqvAll,PyData.eqv,j5 l m];by_cases h1:i=j<;>by_cases h2:l=m<;>simp [h1,h2]
theorem rj:∀ L M:Uf,PyData.eqvAll (L.map cg) (M.map cg)=decide (L=M)
 | [],[]=>by simp [PyData.eqvAll]
 | [],_::_=>by simp [PyData.eqvAll]
 | _::_,[]=>by simp [PyData.eqvAll]
 | i::l,j::m=>by
  rw [zaX,zaX,PyData.eqvAll,rj l m];have e:PyData.eqv (cg i) (cg j)=decide (i=j):=by unfold cg;rw [PyData.eqv];exact j5 i j
  rw [e];by_cases h1:i=j<;>by_cases h2:l=m<;>simp [h1,h2]
theorem vO (L M:Uf):PyData.eqv (jj L) (jj M)=decide (L=M):=by
 unfold jj;rw [PyData.eqv];exact rj L M
theorem tM:∀ L M:List (Int×Int),PyData.eqvAll (L.map eR) (M.map eR)=decide (L=M)
 | [],[]=>by simp [PyData.eqvAll]
 | [],_::_=>by simp [PyData.eqvAll]
 | _::_,[]=>by simp [PyData.eqvAll]
 | (a,b)::l,(c,d)::m=>by
  rw [zaX,zaX,PyData.eqvAll,tM l m];have e:PyData.eqv (eR (a,b)) (eR (c,d))=(decide (a=c)&&decide (b=d)):=by
   unfold eR;simp only [PyData.eqv,PyData.eqvAll,Bool.and_true];by_cases h1:a=c<;>by_cases h2:b=d<;>simp [h1,h2]
  rw [e];by_cases h1:a=c<;>by_cases h2:b=d<;>by_cases h3:l=m<;>simp [h1,h2,h3]
theorem A2 (L M:List (Int×Int)):PyData.eqv (tQ L) (tQ M)=decide (L=M):=by
 unfold tQ;rw [PyData.eqv];exact tM L M
theorem lq:bootBuiltins "min"=some (.builtin "min"):=by decide +kernel
theorem rD:bootBuiltins "sorted"=some (.builtin "sorted"):=by decide +kernel
theorem bR {α:Type} {p:α->Prop}:∀ x∈([]:List α),p x:=λ_ h=>by cases h
theorem aS {α:Type} {p:α->Prop} {a:α} {l:List α} (h:p a) (t:∀ x∈l,p x):∀ x∈a::l,p x:=List.forall_mem_cons.mpr ⟨h,t⟩
section
variable {σ:St} {H:Hp} {Q:VK} {D:Ends} {K:Frag}
theorem Qb (h:to σ H λx H1=>LK K T x H1/\t σ H1 λxs H2=>r x xs H2 Q):PL K T r to t σ H Q:=h
theorem Mi (h:to σ H λx H1=>LK K T x H1/\r x [] H1 Q):L0 K T r to σ H Q:=h
theorem Cp (h:R true H):x8 σ H R:=h
theorem eC (h:H l=some (.lst xs)) (hl:xs.length<sizeLine) (q:Q .gn (upd H l (.lst (xs++[y])))):yy (.ref l) [y] H Q:=⟨l,xs,y,rfl,rfl,h,hl,q⟩
theorem bW (hi:i<n) (h:A):∃ m',m'<n-i/\(m'=n-(i+1)/\i+1<=n/\A):=⟨_,by omega,rfl,hi,h⟩
theorem fI {R:Hp->Prop} {acc:Addr} {lo:Int} {n:Nat} {g:TG} {tt:TT} {te:TE} (Pv:Nat->St->List V->Hp->Prop) (h0:Pv 0 σ [] H)
  (hs:∀ i σ ys H,i<n->Pv i σ ys H->g (.int (lo+i)) σ H λσ2 H4=>tt σ2 H4 λb H5=>if b=true then te σ2 H5 λy H6=>H6 acc=some (.lst ys)/\ys.length<sizeLine/\∃ m',m'<n-i/\(m'=n-(i+1)/\i+1<=n/\Pv (i+1) σ2 (ys++[y]) (upd H6 acc (.lst (ys++[y])))) else ∃ m',m'<n-i/\(m'=n-(i+1)/\i+1<=n/\Pv (i+1) σ2 ys H5))
  (hd:∀ σ ys H,Pv n σ ys H->R H) :
  ∃ W:Nat->Nat->St->List V->Hp->Prop,(∃ m,W 0 m σ [] H)/\∀ i m σ' ys H2,W i m σ' ys H2->(((GU lo n).stop i H2/\R H2)\/((GU lo n).go i H2/\∀ x H3,(GU lo n).wx i H2 x H3->g x σ' H3 λσ2 H4=>tt σ2 H4 λb H5=>
   if b=true then te σ2 H5 λy H6=>H6 acc=some (.lst ys)/\ys.length<sizeLine/\∃ m',m'<m/\W (i+1) m' σ2 (ys++[y]) (upd H6 acc (.lst (ys++[y]))) else ∃ m',m'<m/\W (i+1) m' σ2 ys H5)):=by
 refine ⟨λi m σ ys H=>m=n-i/\i<=n/\Pv i σ ys H,⟨n,by simp,Z7 _,h0⟩,?_⟩;rintro i m σ ys H ⟨rfl,hi,p⟩;by_cases dI:i<n
 ·refine .inr ⟨dI,λx H' y=>?_⟩;obtain ⟨e,y⟩:=y;subst e y;exact hs i σ ys _ dI p
 ·have e:i=n:=by omega
  subst e;exact .inl ⟨ZQ _,hd σ ys H p⟩
theorem bT {R:Hp->Prop} {acc a:Addr} {xs:List V} {g:TG} {tt:TT} {te:TE} (Pv:Nat->St->List V->Hp->Prop) (h0:Pv 0 σ [] H) (hl:∀ i σ ys H,i<=xs.length->Pv i σ ys H->aH K H a xs)
  (hs:∀ i x σ ys H,xs[i]?=some x->i<xs.length->Pv i σ ys H->g x σ H λσ2 H4=>tt σ2 H4 λb H5=>if b=true then te σ2 H5 λy H6=>H6 acc=some (.lst ys)/\ys.length<sizeLine/\∃ m',m'<xs.length-i/\(m'=xs.length-(i+1)/\i+1<=xs.length/\Pv (i+1) σ2 (ys++[y]) (upd H6 acc (.lst (ys++[y])))) else ∃ m',m'<xs.length-i/\(m'=xs.length-(i+1)/\i+1<=xs.length/\Pv (i+1) σ2 ys H5))
  (hd:∀ σ ys H,Pv xs.length σ ys H->R H) :
  ∃ W:Nat->Nat->St->List V->Hp->Prop,(∃ m,W 0 m σ [] H)/\∀ i m σ' ys H2,W i m σ' ys H2->(((GV K a).stop i H2/\R H2)\/((GV K a).go i H2/\∀ x H3,(GV K a).wx i H2 x H3->g x σ' H3 λσ2 H4=>tt σ2 H4 λb H5=>
   if b=true then te σ2 H5 λy H6=>H6 acc=some (.lst ys)/\ys.length<sizeLine/\∃ m',m'<m/\W (i+1) m' σ2 (ys++[y]) (upd H6 acc (.lst (ys++[y]))) else ∃ m',m'<m/\W (i+1) m' σ2 ys H5)):=by
 refine ⟨λi m σ ys H=>m=xs.length-i/\i<=xs.length/\Pv i σ ys H,⟨xs.length,by simp,Z7 _,h0⟩,?_⟩;rintro i m σ ys H ⟨rfl,hi,p⟩;have q:=hl i σ ys H hi p;by_cases dI:i<xs.length
 ·refine .inr ⟨⟨xs,xs[i],q,by simp [dI]⟩,λx H' y=>?_⟩;obtain ⟨e,y⟩:=y;subst e;exact hs i x σ ys _ (y xs q) dI p
 ·have e:i=xs.length:=by omega
  subst e;exact .inl ⟨⟨xs,q,ZQ _⟩,hd σ ys H p⟩
theorem bQ (h:wi σ H λJ H1=>∀ acc,H1 acc=none->∃ W:Nat->Nat->St->List V->Hp->Prop,(∃ m,W 0 m (i9 n fr σ) [] (upd H1 acc (.lst [])))/\
 ∀ i m σ' ys H2,W i m σ' ys H2->((J.stop i H2/\Q (.ref acc) H2)\/(J.go i H2/\∀ x H3,J.wx i H2 x H3->g x σ' H3 λσ2 H4=>tt σ2 H4 λb H5=>
  if b=true then te σ2 H5 λy H6=>H6 acc=some (.lst ys)/\ys.length<sizeLine/\∃ m',m'<m/\W (i+1) m' σ2 (ys++[y]) (upd H6 acc (.lst (ys++[y]))) else ∃ m',m'<m/\W (i+1) m' σ2 ys H5))):qG wi g tt te n fr σ H Q:=h
end
end L2
namespace Gm
open PySem L2
def put (l:Wp) (k:Nat) (x:Int):Wp:=l.take k++x::l.drop k
structure cX (H:Hp) (p:Addr) (as:XL) (L:Uf):Prop where
 top:H p=some (.lst (as.map V.ref))
 len:as.length=L.length
 row:∀ (i:Nat) (a:Addr) (l:Wp),as[i]?=some a->L[i]?=some l->H a=some (.lst (l.map V.int))
theorem cX.at (g:cX H p as L) (hi:i<L.length):∃ a l,as[i]?=some a/\L[i]?=some l/\H a=some (.lst (l.map V.int)):=by
 have h2:i<as.length:=by rw [g.len];exact hi
 exact ⟨as[i],L[i],by simp [h2],by simp [hi],g.row i _ _ (by simp [h2]) (by simp [hi])⟩
theorem cX.same (g:cX H p as L) (e:ao H H'):cX H' p as L:=⟨e _ _ g.top,g.len,λi a l h1 h2=>e _ _ (g.row i a l h1 h2)⟩
theorem cX.ix (g:cX H p as L) {i:Nat} (hi:as[i]?=some a):ja (as.map V.ref) (i:Int)=some (V.ref a):=eA (by rw [ZS,hi];rfl)
theorem iC {H:Hp}:∀ l:Wp,bZ H (l.map V.int) (l.map PyData.int)
 | []=>.nil
 | i::l=>.cons (.int i) (iC l)
theorem jO (h:H a=some (.lst (l.map V.int))):jc H (.ref a) (cg l):=.lst h (iC l)
theorem uV:∀ {as:XL} {L:Uf},as.length=L.length->(∀ (i:Nat) (a:Addr) (l:Wp),as[i]?=some a->L[i]?=some l->H a=some (.lst (l.map V.int)))->bZ H (as.map V.ref) (L.map cg)
 | [],[],_,_=>.nil
 | [],_::_,h,_=>by simp at h
 | _::_,[],h,_=>by simp at h
 | a::as,l::L,h,r=>.cons (jO (r 0 a l rfl rfl)) (uV (by simpa using h) λi b m h1 h2=>r (i+1) b m (by simpa using h1) (by simpa using h2))
theorem cX.su (g:cX H p as L):jc H (.ref p) (jj L):=.lst g.top (uV g.len g.row)
theorem ao.fresh (e:ao H H') (h:H a=none):ao H (upd H' a o):=λb u q=>by rw [aq (λz=>by rw [z,h] at q;cases q)];exact e b u q
theorem jx {α:Type} [BEq α] [LawfulBEq α]:∀ {l r:List α},l.Nodup->(∀ x∈l,x∈r)->l.length<=r.length
 | [],_,_,_=>Z7 _
 | x::l,r,n,h=>by
  have hx:x∈r:=h x zac;have n2:=zbp.mp n;have ih:=jx (r:=r.erase x) n2.2 λy hy=>by
   have ne:y≠x:=λz=>n2.1 (z▸hy);exact (mem_erase_of_ne ne).mpr (h y (Z5 _ hy))
  rw [length_erase_of_mem hx] at ih;have:=length_pos_of_mem hx;rw [zbg];omega
theorem aD (h:n<=1000):n<sizeLine:=by rw [zay];omega
abbrev PR (H:Hp):XL->List (Int×Int)->Prop:=Paired λa x=>H a=some (.tup [.int x.1,.int x.2])
theorem PR.lst {H:Hp} {t:Addr} {xs zs:List V} {ps:XL} {T:List (Int×Int)} (h:PR H ps T) (ht:H t=some (.lst xs)):PR (upd H t (.lst zs)) ps T:=
 Paired.vc h λa x e=>by
  rw [aq (λz=>by rw [z,ht] at e;cases e)];exact e
theorem PR.same (h:PR H ps T) (e:ao H H'):PR H' ps T:=Paired.vc h λa x q=>e _ _ q
theorem PR.app {H:Hp}:∀ {ps qs:XL} {T U:List (Int×Int)},PR H ps T->PR H qs U->PR H (ps++qs) (T++U)
 | _,_,_,_,.nil,h=>h
 | _,_,_,_,.cons r t,h=>.cons r (PR.app t h)
theorem PR.su {H:Hp}:∀ {ps:XL} {T:List (Int×Int)},PR H ps T->bZ H (ps.map V.ref) (T.map eR)
 | _,_,.nil=>.nil
 | _,_,.cons r t=>.cons (.tup r (.cons (.int _) (.cons (.int _) .nil))) (PR.su t)
theorem PR.len (h:PR H ps T):ps.length=T.length:=zcq h
theorem shaped_ints (l:Wp):SeqAt.shaped (cg l)=true:=by
 obtain ⟨h1,h2⟩:=lay_ints l;unfold SeqAt.shaped cg;simp [PyData.canLay0,PyData.depth,h1,h2]
theorem tK (l m:Wp):PyData.eqv (cg l) (cg m)=decide (l=m):=by unfold cg;rw [PyData.eqv];exact j5 l m
end Gm
namespace L2
open PySem PySem.Spec PySem.W PySem.Calls PyProof.Rows
section
variable {X:Cx} {K:Frag}
theorem fG (h:X.K=K):KW X (Fj K):=h▸au
theorem cU (h:X.K=K):KW X (Fi K):=h▸c5
theorem Bi (h:X.K=K):cR X (.builtin "len") (λxs H Q=>∃ x n,xs=[x]/\Of K x H n/\Q (.int n) H):=by subst h;exact bJ
end
end L2
namespace L2
open PySem PySem.Spec PySem.W PySem.Calls PyProof.Rows HT
section
open PySem.SeqAt
open PySem.AutoSeq1 (wpAny_loadPart')
open PySem.MeetsSeq PySem.MeetsSeq2 PySem.MeetsSeq3
theorem yT (h:IntsAre vs ns) (hi:i<ns.length):∃ t,vs[i]?=some (.int ns[i] t):=by
 induction h generalizing i with
 | nil=>simp at hi
 | cons a t r ih=>
  cases i with
  | zero=>exact ⟨t,rfl⟩
  | succ i=>
   obtain ⟨u,hu⟩:=ih (i:=i) (by simpa using hi);exact ⟨u,by simpa using hu⟩
theorem FT (l b:Addr) (us vs:Array Value) (n1 n2:Nat) (d1 d2:Option Addr) (s1 s2:Array (Option Value)) (ns ms:Wp) (hi:IntsAre us.toList ns) (hj:IntsAre vs.toList ms) (k:Nat) :
  ∀ i:Nat,us.size-i=k->i<=ns.length->i<=ms.length->Meets (Builtin.«list.__eq__.loop» ⟨[.ref l,.ref b,rawInt i,rawInt 0],[]⟩)
   (λA R s=>s.heap.get? l=some { cls:=.type "list",dict:=d1,data:=.seq us n1,slots:=s1 }/\
    s.heap.get? b=some { cls:=.type "list",dict:=d2,data:=.seq vs n2,slots:=s2 }/\R (.ok (.ret (.bool (Vq (ns.drop i) (ms.drop i))))) s):=by
 have z1:us.size=ns.length:=by rw [<-hi.length];simp
 have z2:vs.size=ms.length:=by rw [<-hj.length];simp
 have stop:∀ i,i<=ns.length->i<=ms.length->¬(i<ns.length/\i<ms.length)->Vq (ns.drop i) (ms.drop i)=decide (us.size<vs.size):=λi h1 h2 h3=>by
  by_cases q:i<ns.length
  ·have q2:ms.drop i=[]:=drop_eq_nil_of_le (by omega);rw [q2,zbm q,n6];exact (zah (by omega)).symm
  ·have q2:ns.drop i=[]:=drop_eq_nil_of_le (by omega);rw [q2];by_cases q3:i<ms.length
   ·rw [zbm q3,nZ];exact (zad (by omega)).symm
   ·rw [drop_eq_nil_of_le (by omega),pT];exact (zah (by omega)).symm
 have ends:∀ i,i<=ns.length->i<=ms.length->¬(i<ns.length/\i<ms.length)->Meets (Builtin.«list.__eq__.loop» ⟨[.ref l,.ref b,rawInt i,rawInt 0],[]⟩)
   (λA R s=>s.heap.get? l=some { cls:=.type "list",dict:=d1,data:=.seq us n1,slots:=s1 }/\
    s.heap.get? b=some { cls:=.type "list",dict:=d2,data:=.seq vs n2,slots:=s2 }/\R (.ok (.ret (.bool (Vq (ns.drop i) (ms.drop i))))) s):=by
  intro i h1 h2 h3 prog w A R s h;have e:=stop i h1 h2 h3;obtain ⟨hp,g,d,tk,os⟩:=s;obtain ⟨hl,hb,h⟩:=h;rw [e] at h
  wp_walk using zaY hb,zaY hl
  by_cases q:i<us.size
  ·have x1:us[((i:Nat):Int).toNat]?=some us[i]:=by simp [q]
   have x2:vs[((i:Nat):Int).toNat]?=none:=by simp;omega
   rw [x1,x2]
   wp_walk using zaY hb,zaY hl
   exact h
  ·have x1:us[((i:Nat):Int).toNat]?=none:=by simp;omega
   rw [x1]
   wp_walk using zaY hb,zaY hl
   exact h
 induction k with
 | zero=>exact λi hk h1 h2=>ends i h1 h2 (by omega)
 | succ k ih=>
  intro i hk h1 h2;by_cases HN:i<ms.length
  ·have UJ:i<ns.length:=by omega
   intro prog w A R s h;obtain ⟨hp,g,d,tk,os⟩:=s;obtain ⟨hl,hb,h⟩:=h;obtain ⟨t1,e1⟩:=yT hi UJ;obtain ⟨t2,e2⟩:=yT hj HN;have x1:us[((i:Nat):Int).toNat]?=some (.int ns[i] t1):=by simpa using e1
   have x2:vs[((i:Nat):Int).toNat]?=some (.int ms[i] t2):=by simpa using e2
   rw [zbm UJ,zbm HN,fB] at h
   wp_walk using zaY hb,zaY hl
   rw [x1,x2];obtain ⟨e,he,Ng⟩:=DW A.in1 ⟨hp,g,d,tk,os⟩ ns[i] t1 ms[i] t2;refine rd (he prog w _ _ ?_);have XI:((i:Int)+1)=((i+1:Nat):Int):=by omega
   cases e with
   | true=>
    rw [ZW (Ng.mp rfl)] at h
    wp_walk
    rw [XI];refine ⟨zbw plain_eq_loop _,zaP entry_eq_loop ?_⟩;rw [zaC plain_eq_loop _];exact ih (i+1) (by omega) (by omega) (by omega) prog w A R _ ⟨hl,hb,h⟩
   | false=>
    rw [ZU (λq=>absurd (Ng.mpr q) zae)] at h
    wp_walk using zaY hb,zaY hl
    rw [x1,x2];have W6:=Cm A.in1 ⟨hp,g,d,tk,os⟩ ns[i] t1 ms[i] t2 prog w
    wp_walk using W6
    exact h
  ·exact ends i h1 h2 (by omega)
theorem jV (l b:Addr) (us vs:Array Value) (n1 n2:Nat) (d1 d2:Option Addr) (s1 s2:Array (Option Value)) (ns ms:Wp) (hi:IntsAre us.toList ns) (hj:IntsAre vs.toList ms) :
  Meets (Builtin.«list.__lt__» ⟨[.ref l,.ref b],[]⟩)
   (λA R s=>s.heap.get? l=some { cls:=.type "list",dict:=d1,data:=.seq us n1,slots:=s1 }/\
    s.heap.get? b=some { cls:=.type "list",dict:=d2,data:=.seq vs n2,slots:=s2 }/\R (.ok (.ret (.bool (Vq ns ms)))) s):=by
 intro prog w A R s h;obtain ⟨hp,g,d,tk,os⟩:=s;obtain ⟨hl,hb,h⟩:=h;have f3:=AutoSeq1.sub_list_list
 wp_walk using zaY hb,zaY hl
 refine ⟨zbw plain_eq_loop _,zaP entry_eq_loop ?_⟩;rw [zaC plain_eq_loop _];exact FT l b us vs n1 n2 d1 d2 s1 s2 ns ms hi hj _ 0 rfl (Z7 _) (Z7 _) prog w A R _ ⟨hl,hb,h⟩
end
theorem C4 (hl:s.heap.IsList l us) (hb:s.heap.IsList b vs) (hi:IntsAre us.toList ns) (hj:IntsAre vs.toList ms) (hu:A.units<cLine) (h:Q (.bool (Vq ns ms)) s) :
  wpAny (model prog w) A (compareOp .Lt (.ref l) (.ref b)) Q E s:=by
 obtain ⟨⟨c1,d1,a1,z1⟩,h1,k1,n1,q1⟩:=id hl;obtain ⟨⟨c2,d2,a2,z2⟩,h2,k2,n2,q2⟩:=id hb;dsimp only at k1 q1 k2 q2;subst k1 q1 k2 q2;exact richCompare_meets_room (op:=.Lt) ⟨_,h1,rfl⟩ ⟨_,h2,rfl⟩ zdV PySem.F.entry_list_lt (PySem.F.args_list_lt_2 _ _) (jV l b us vs n1 n2 d1 d2 z1 z2 ns ms hi hj)
  ⟨h1,h2,show Value.bool (Vq ns ms)≠Value.notImplemented/\Q (.bool (Vq ns ms)) s from ⟨nofun,h⟩⟩ hu
theorem lJ (hl:s.heap.IsList l us) (hb:s.heap.IsList b vs) (hi:IntsAre us.toList ns) (hj:IntsAre vs.toList ms) (hu:A.units<cLine) (h:Q (Vq ns ms) s) :
  wpAny (model prog w) A (oneLt' true (.ref l) (.ref b)) Q E s:=by
 obtain ⟨⟨c1,d1,a1,z1⟩,h1,k1,n1,q1⟩:=id hl;obtain ⟨⟨c2,d2,a2,z2⟩,h2,k2,n2,q2⟩:=id hb;dsimp only at k1 q1 k2 q2;subst k1 q1 k2 q2;rw [oneLt'_eq];simp only [zee];refine rd (wpAny_cRoomFor hu ?_);refine rd (wpAny_callSpecialIfBound?_slot ⟨_,h1,rfl⟩ zdV (zel zdV ⟨_,h1,rfl⟩ PySem.F.entry_list_lt (PySem.F.args_list_lt_2 _ _) (jV l b us vs n1 n2 d1 d2 z1 z2 ns ms hi hj) ⟨h1,h2,?_⟩));exact zbs h
theorem sQ:∀ a:Wp,Vq a a=false
 | []=>rfl
 | x::a=>by rw [fB,ZW rfl];exact sQ a
theorem lex_trans:∀ {a b c:Wp},Vq a b=true->Vq b c=true->Vq a c=true
 | [],[],_,h,_=>by cases h
 | [],_::_,[],_,h=>by cases h
 | [],_::_,_::_,_,_=>rfl
 | _::_,[],_,h,_=>by cases h
 | _::_,_::_,[],_,h=>by cases h
 | x::a,y::b,z::c,h1,h2=>by
  rw [fB] at h1 h2 ⊢;by_cases e1:x=y
  ·subst e1;by_cases e2:x=z
   ·subst e2;rw [ZW rfl] at h1 h2 ⊢;exact lex_trans h1 h2
   ·rw [ZU e2] at h2 ⊢;exact h2
  ·rw [ZU e1] at h1;have g1:x<y:=zaR h1;by_cases e2:y=z
   ·subst e2;rw [ZU e1];exact h1
   ·rw [ZU e2] at h2;have g2:y<z:=zaR h2;rw [ZU (by omega)];exact zad (by omega)
theorem mH:∀ {a b:Wp},Vq a b=false->Vq b a=false->a=b
 | [],[],_,_=>rfl
 | [],_::_,h,_=>by cases h
 | _::_,[],_,h=>by cases h
 | x::a,y::b,h1,h2=>by
  rw [fB] at h1 h2;by_cases e:x=y
  ·subst e;rw [ZW rfl] at h1 h2;rw [mH h1 h2]
  ·rw [ZU e] at h1;rw [ZU (λz=>e z.symm)] at h2;have g1:=of_decide_eq_false h1;have g2:=of_decide_eq_false h2;omega
theorem C9 {a b:Wp} (h:Vq a b=true):Vq b a=false:=by
 cases q:Vq b a with
 | false=>rfl
 | true=>have:=lex_trans h q;rw [sQ] at this;cases this
def Le (a b:Wp):Prop:=Vq b a=false
theorem Le.refl (a:Wp):Le a a:=sQ a
theorem Le.trans (h1:Le a b) (h2:Le b c):Le a c:=by
 unfold Le at *;cases q:Vq c a with
 | false=>rfl
 | true=>
  by_cases e:Vq a b=true
  ·have:=lex_trans q e;rw [h2] at this;cases this
  ·have e2:a=b:=mH (by simpa using e) h1;subst e2;rw [h2] at q;cases q
theorem Le.of_lt {a b:Wp} (h:Vq a b=true):Le a b:=C9 h
theorem Le.KO (h1:Le a b) (h2:Le b a):a=b:=mH h2 h1
end L2
namespace L2
open PySem PySem.Spec PySem.W PySem.Calls PyProof.Rows
def qB (cmp:Nat->Nat->(Bool->Shared->Prop)->Shared->Prop) (n:Nat) (f:Nat->Wp) (s:Shared):Prop:=∀ i j C,i<n->j<n->C (HT.Vq (f i) (f j)) s->cmp i j C s
structure Arr (n:Nat) (p:Array Nat):Prop where
 size:p.size=n
 perm:p.Perm (List.toArray (List.range n))
def kf (f:Nat->Wp) (p:Array Nat) (i:Nat):Wp:=f (p.getD i 0)
theorem Arr.lt (h:Arr n p) (hi:i<n):p.getD i 0<n:=by
 have e:p.getD i 0=p[i]'(by rw [h.size];exact hi):=by simp [Array.getD,h.size,hi]
 have m:p[i]'(by rw [h.size];exact hi)∈p:=Array.getElem_mem _;have:=(h.perm.mem_iff).mp m;rw [e];simpa using this
theorem kf_at (h:p[i]?=q[j]?):kf f p i=kf f q j:=by
 unfold kf;rw [zan,zan,h]
theorem Arr.rev (h:Arr n p) (i j:Nat):Arr n (kas_rev p i j):=⟨by unfold kas_rev;rw [mirror_size];exact h.size,(mirror_perm _ _ _ _).trans h.perm⟩
theorem Arr.YJ (h:Arr n p) (i j:Nat):Arr n (bubble p i j):=⟨by rw [bubble_size];exact h.size,(bubble_perm _ _ _).trans h.perm⟩
theorem sT (h:Arr n p) (hj:j<=n) (k:Nat):kf f (kas_rev p i j) k=if i<=k/\k<j then kf f p (i+j-1-k) else kf f p k:=by
 have e:=getElem?_mirror_all (xs:=p) (i:=i) (j:=j) (by rw [h.size];exact hj) k;by_cases q:i<=k/\k<j
 ·rw [ZW q] at e ⊢;exact kf_at e
 ·rw [ZU q] at e ⊢;exact kf_at e
def Up (f:Nat->Wp) (p:Array Nat) (m:Nat):Prop:=∀ i,i+1<m->Le (kf f p i) (kf f p (i+1))
def Dn (f:Nat->Wp) (p:Array Nat) (m:Nat):Prop:=∀ i,i+1<m->Le (kf f p (i+1)) (kf f p i)
theorem Up.le (h:Up f p m) (yX:i<=j) (hj:j<m):Le (kf f p i) (kf f p j):=by
 induction j with
 | zero=>
      obtain rfl:i=0:=by omega
      exact Le.refl _
 | succ j ih=>
  by_cases e:i=j+1
  ·rw [e];exact Le.refl _
  ·exact (ih (by omega) (by omega)).trans (h j hj)
theorem Dn.le (h:Dn f p m) (yX:i<=j) (hj:j<m):Le (kf f p j) (kf f p i):=by
 induction j with
 | zero=>
      obtain rfl:i=0:=by omega
      exact Le.refl _
 | succ j ih=>
  by_cases e:i=j+1
  ·rw [e];exact Le.refl _
  ·exact (h j hj).trans (ih (by omega) (by omega))
theorem xS (hc:qB cmp n f s) {p:Array Nat} (hp:Arr n p) {Q:Nat->Shared->Prop}:∀ (fu m:Nat),1<=m->m+fu<=n->Up f p m->(∀ m',m<=m'->m'<=m+fu->Up f p m'->(m'=m+fu\/HT.Vq (kf f p m') (kf f p (m'-1))=true)->Q m' s)->(kas_asc p fu m).kasWp cmp Q s
 | 0,m,_,_,u,k=>k m (ZQ _) (ZQ _) u (.inl rfl)
 | fu+1,m,h1,h2,u,k=>by
  refine hc _ _ _ (hp.lt (by omega)) (hp.lt (by omega)) ?_;show (if _ then _ else _:KasT Nat).kasWp cmp Q s;cases q:HT.Vq (f (p.getD m 0)) (f (p.getD (m-1) 0)) with
  | true=>rw [ZW rfl];exact k m (ZQ _) (by omega) u (.inr q)
  | false=>
   rw [ZU (by decide)];refine xS hc hp fu (m+1) (by omega) (by omega) (λi hi=>?_) λm' a1 a2 a3 a4=>k m' (by omega) (by omega) a3 (a4.imp (λz=>by omega) id);by_cases e:i+1=m
   ·have:i=m-1:=by omega
    rw [e,this];exact q
   ·exact u i (by omega)
def Flt (f:Nat->Wp) (p:Array Nat) (m q:Nat):Prop:=∀ i,m-(q+1)<=i->i<m->kf f p i=kf f p (m-1)
theorem nA (hp:Arr n p) (hm:m<=n) (hq:q+1<=m) (h:Flt f p m q) (k:Nat):kf f (kas_rev p (m-(q+1)) m) k=kf f p k:=by
 rw [sT hp hm];by_cases e:m-(q+1)<=k/\k<m
 ·rw [ZW e,h _ (by omega) (by omega),<-h k e.1 e.2]
 ·rw [ZU e]
theorem mO (hc:qB cmp n f s) {Q:Array Nat×Nat×Nat->Shared->Prop}:∀ (fu:Nat) (p:Array Nat) (m q:Nat),Arr n p->1<=m->m+fu<=n->q+1<=m->Dn f p m->Flt f p m q->
  (∀ p' m' q',Arr n p'->1<=m'->m'<=m+fu->q'+1<=m'->Dn f p' m'->Flt f p' m' q'->Q (p',m',q') s)->(kas_desc fu p m q).kasWp cmp Q s
 | 0,p,m,q,hp,h1,_,hq,d,fl,k=>k p m q hp h1 (ZQ _) hq d fl
 | fu+1,p,m,q,hp,h1,h2,hq,d,fl,k=>by
  refine hc _ _ _ (hp.lt (by omega)) (hp.lt (by omega)) ?_;show (if _ then _ else _:KasT _).kasWp cmp Q s;cases c:HT.Vq (f (p.getD m 0)) (f (p.getD (m-1) 0)) with
  | true=>
   rw [ZW rfl];have d2:∀ p',(∀ j,kf f p' j=kf f p j)->Dn f p' (m+1):=λp' e i hi=>by
    rw [e,e];by_cases z:i+1=m
    ·have:i=m-1:=by omega
     rw [z,this];exact Le.of_lt c
    ·exact d i (by omega)
   have f2:∀ p',Flt f p' (m+1) 0:=λp' i a b=>by
    have:i=m:=by omega
    rw [this];rfl
   by_cases z:q > 0
   ·rw [ZW z];refine mO hc fu _ (m+1) 0 (hp.rev _ _) (by omega) (by omega) (by omega) (d2 _ λj=>nA hp (by omega) hq fl j) (f2 _) λp' m' q' a1 a2 a3 a4 a5 a6=>k p' m' q' a1 a2 (by omega) a4 a5 a6
   ·rw [ZU z];refine mO hc fu _ (m+1) 0 hp (by omega) (by omega) (by omega) (d2 _ λ_=>rfl) (f2 _) λp' m' q' a1 a2 a3 a4 a5 a6=>k p' m' q' a1 a2 (by omega) a4 a5 a6
  | false=>
   rw [ZU (by decide)];refine hc _ _ _ (hp.lt (by omega)) (hp.lt (by omega)) ?_;show (if _ then _ else _:KasT _).kasWp cmp Q s;cases c2:HT.Vq (f (p.getD (m-1) 0)) (f (p.getD m 0)) with
   | true=>rw [ZW rfl];exact k p m q hp h1 (by omega) hq d fl
   | false=>
    rw [ZU (by decide)];have e:kf f p m=kf f p (m-1):=mH c c2;refine mO hc fu p (m+1) (q+1) hp (by omega) (by omega) (by omega) (λi hi=>?_) (λi a b=>?_) λp' m' q' a1 a2 a3 a4 a5 a6=>k p' m' q' a1 a2 (by omega) a4 a5 a6
    ·by_cases z:i+1=m
     ·have:i=m-1:=by omega
      rw [z,this,e];exact Le.refl _
     ·exact d i (by omega)
    ·show kf f p i=kf f p (m+1-1);rw [zdk];by_cases z:i=m
     ·rw [z]
     ·rw [fl i (by omega) (by omega),e]
theorem uy (hc:qB cmp n f s) (hp:Arr n p) (h1:1<=m) (h2:m<=n) (d:Dn f p m) (k:∀ m' p',Arr n p'->m'<=n->1<=m'->Up f p' m'->Q (m',p') s):(kas_tail3 m n p).kasWp cmp Q s:=by
 unfold kas_tail3;rw [zdg];refine xS hc (hp.rev 0 m) (n-m) m h1 (by omega) (λi hi=>?_) λm' a1 a2 a3 _=>k m' _ (hp.rev 0 m) (by omega) (by omega) a3;rw [sT hp h2,sT hp h2,ZW (by omega),ZW (by omega)];exact d.le (by omega) (by omega)
theorem lM (hc:qB cmp n f s) (hp:Arr n p) (h2:m+1<=n) (h1:1<=m) (d:Dn f p (m+1)) (k:∀ m' p',Arr n p'->m'<=n->1<=m'->Up f p' m'->Q (m',p') s):(kas_descPart m n p).kasWp cmp Q s:=by
 unfold kas_descPart;rw [zdg];refine mO hc (n-(m+1)) p (m+1) 0 hp (by omega) (by omega) (by omega) d (λi a b=>?_) λp' m' q' a1 a2 a3 a4 a5 a6=>?_
 ·have:i=m:=by omega
  rw [this];rfl
 ·dsimp only;by_cases z:q' > 0
  ·rw [ZW z];refine uy hc (a1.rev _ _) a2 (by omega) (λi hi=>?_) k;rw [nA a1 (by omega) a4 a6,nA a1 (by omega) a4 a6];exact a5 i hi
  ·rw [ZU z];exact uy hc a1 a2 (by omega) a5 k
theorem D3 (hc:qB cmp n f s) (hp:Arr n p) (h1:1<=n) (k:∀ m' p',Arr n p'->m'<=n->1<=m'->Up f p' m'->Q (m',p') s):(kas_count n p).kasWp cmp Q s:=by
 unfold kas_count;rw [zdg];refine xS hc hp (n-1) 1 (ZQ _) (by omega) (λi hi=>by omega) λm a1 a2 a3 a4=>?_;by_cases z:m=n
 ·rw [ZW (by simpa using z)];exact k m p hp (by omega) a1 a3
 ·rw [ZU (by simpa using z)];have st:HT.Vq (kf f p m) (kf f p (m-1))=true:=a4.resolve_left (by omega);by_cases y:m > 1
  ·rw [ZW y];refine hc _ _ _ (hp.lt (by omega)) (hp.lt (by omega)) ?_;show (if _ then _ else _:KasT _).kasWp cmp Q s;cases c:HT.Vq (f (p.getD 0 0)) (f (p.getD (m-1) 0)) with
   | true=>rw [ZW rfl];exact k m p hp (by omega) a1 a3
   | false=>
    rw [ZU (by decide)];have al:∀ i,i<m->kf f p i=kf f p (m-1):=λi hi=>Le.KO (a3.le (by omega) (by omega)) (Le.trans (show Le (kf f p (m-1)) (kf f p 0) from c) (a3.le (Z7 _) hi));have rv:∀ j,kf f (kas_rev p 0 m) j=kf f p j:=λj=>by
     rw [sT hp (by omega)];by_cases e:0<=j/\j<m
     ·rw [ZW e,al _ (by omega),<-al j e.2]
     ·rw [ZU e]
    refine lM hc (hp.rev 0 m) (by omega) a1 (λi hi=>?_) k;rw [rv,rv];by_cases e:i+1=m
    ·have:i=m-1:=by omega
     rw [e,this];exact Le.of_lt st
    ·rw [al i (by omega),al (i+1) (by omega)];exact Le.refl _
  ·rw [ZU y];refine lM hc hp (by omega) a1 (λi hi=>?_) k;have:i+1=m:=by omega
   have e2:i=m-1:=by omega
   rw [this,e2];exact Le.of_lt st
theorem nG (hc:qB cmp n f s) {p:Array Nat} (hp:Arr n p) {k:Nat} (hk:k<n) (u:Up f p k) {Q:Nat->Shared->Prop}:∀ (fu l r:Nat),r-l<=fu->l<=r->r<=k->(∀ i,i<l->Le (kf f p i) (kf f p k))->(∀ i,r<=i->i<k->Le (kf f p k) (kf f p i))->
  (∀ l',l'<=k->(∀ i,i<l'->Le (kf f p i) (kf f p k))->(∀ i,l'<=i->i<k->Le (kf f p k) (kf f p i))->Q l' s)->(kas_place p k fu l r).kasWp cmp Q s
 | 0,l,r,h1,h2,h3,h4,h5,q=>q l (by omega) h4 λi a b=>h5 i (by omega) b
 | fu+1,l,r,h1,h2,h3,h4,h5,q=>by
  unfold kas_place;by_cases z:l>=r
  ·rw [ZW z];exact q l (by omega) h4 λi a b=>h5 i (by omega) b
  ·rw [ZU z];refine hc _ _ _ (hp.lt hk) (hp.lt (by omega)) ?_;show (if _ then _ else _:KasT _).kasWp cmp Q s;cases c:HT.Vq (f (p.getD k 0)) (f (p.getD ((l+r) / 2) 0)) with
   | true=>
    rw [ZW rfl];exact nG hc hp hk u fu l ((l+r) / 2) (by omega) (by omega) (by omega) h4 (λi a b=>Le.trans (Le.of_lt c) (u.le a b)) q
   | false=>
    rw [ZU (by decide)];exact nG hc hp hk u fu ((l+r) / 2+1) r (by omega) (by omega) h3 (λi a=>Le.trans (u.le (by omega) (by omega)) (show Le (kf f p ((l+r) / 2)) (kf f p k) from c)) h5 q
theorem Eb (hc:qB cmp n f s) {Q:Array Nat->Shared->Prop}:∀ (fu:Nat) (p:Array Nat) (k:Nat),Arr n p->k+fu=n->Up f p k->(∀ p',Arr n p'->Up f p' n->Q p' s)->(kas_bin fu p k).kasWp cmp Q s
 | 0,p,k,hp,h1,u,q=>q p hp (by rw [<-h1];exact u)
 | fu+1,p,k,hp,h1,u,q=>by
  unfold kas_bin
  rw [zdg];refine nG hc hp (by omega) u k 0 k (by omega) (Z7 _) (ZQ _) (λi h=>by omega) (λi a b=>by omega) λl hl lo hi=>?_;have ek:∀ j,kf f (bubble p k (k-l)) j=if j=l then kf f p k else if l<j/\j<=k then kf f p (j-1) else kf f p j:=λj=>by
   have e:=getElem?_bubble (xs:=p) (src:=k) (by rw [hp.size];omega) (k-l) (by omega) j;have el:k-(k-l)=l:=by omega
   rw [el] at e;by_cases a:j=l
   ·rw [ZW a] at e ⊢;exact kf_at e
   ·rw [ZU a] at e ⊢;by_cases b:l<j/\j<=k
    ·rw [ZW b] at e ⊢;exact kf_at e
    ·rw [ZU b] at e ⊢;exact kf_at e
  refine Eb hc fu _ (k+1) (hp.YJ _ _) (by omega) (λi uk=>?_) q;rw [ek,ek];by_cases a:i+1<l
  ·rw [ZU (by omega),ZU (by omega),ZU (by omega),ZU (by omega)];exact u i (by omega)
  ·by_cases b:i+1=l
   ·rw [ZU (by omega),ZU (by omega),ZW b];exact lo i (by omega)
   ·by_cases c:i=l
    ·rw [ZW c,ZU (by omega),ZW (by omega)];show Le (kf f p k) (kf f p (i+1-1));rw [zdk];exact hi i (by omega) (by omega)
    ·rw [ZU c,ZW (by omega),ZU (by omega),ZW (by omega)];have:i+1-1=(i-1)+1:=by omega
     rw [this];exact u (i-1) (by omega)
theorem yk (hc:qB cmp n f s) (h1:1<=n) (q:∀ p,Arr n p->Up f p n->Q p s):(kas_sort n).kasWp cmp Q s:=by
 unfold kas_sort;rw [zdg];refine D3 hc (p:=List.toArray (List.range n)) ⟨by simp,Array.Perm.refl _⟩ h1 λm p hp a1 a2 u=>?_;dsimp only;by_cases z:m<n
 ·rw [ZW z];have e:max m 1=m:=by omega
  rw [e];exact Eb hc (n-m) p m hp (by omega) u q
 ·rw [ZU z];have e:m=n:=by omega
  exact q p hp (e▸u)
theorem NY (n:Nat):Arr n (List.toArray (List.range n)):=⟨by simp,Array.Perm.refl _⟩
def gr (h:Heap) (vs:XV) (f:Nat->Wp):Prop:=∀ i,i<vs.length->∃ b us,vs[i]?=some (.ref b)/\h.IsList b us/\IntsAre us.toList (f i)
theorem gr.keep (r:gr h vs f) (k:∀ (i:Nat) (b:Addr),vs[i]?=some (.ref b)->∀ o,h.get? b=some o->h'.get? b=some o):gr h' vs f:=λi hi=>by
 obtain ⟨b,us,e,l,q⟩:=r i hi;exact ⟨b,us,e,l.at λo z=>k i b e o z,q⟩
def cI (vs:XV) (p:Array Nat):Array Value:=List.toArray (p.toList.map λi=>vs.getD i Value.none)
theorem i4 (vs:XV):cI vs (List.toArray (List.range vs.length))=vs.toArray:=by
 unfold cI
 congr 1
 apply ext_getElem?;intro i;rw [ZS];by_cases h:i<vs.length
 ·simp [h]
 ·simp [h]
theorem rO:∀ l:XV,(l.zip l).map (λx=>x.snd)=l
 | []=>rfl
 | x::l=>by rw [zip_cons_cons,zaX,rO l]
def jw (h:Heap) (a:Addr) (vs:XV):Heap:=((h.update a (Obj.mapSeq λ_=>#[])).push (seqObj "tuple" vs.toArray 0)).push (seqObj "list" #[] 0)
theorem yK (hb:b≠a) (e:h.get? b=some o):(jw h a vs).get? b=some o:=by
 have l:=ZM e;unfold jw;rw [zcp,zcp,zcu _ _ _ _ hb]
 ·exact e
 ·rw [zbP];exact Z1 l
 ·rw [size_push',zbP];exact Z1 (zbu l)
theorem GH (hr:gr s.heap vs f) (hu:A.units<cLine):qB (kas_cmp prog w A oneType' (pairsOf vs)) vs.length f s:=by
 intro i j C hi hj c;obtain ⟨b1,u1,e1,l1,q1⟩:=hr i hi;obtain ⟨b2,u2,e2,l2,q2⟩:=hr j hj;rw [<-kas_ask_eq];unfold kas_ask;have g1:vs.getD i Value.none=.ref b1:=by rw [ZP,e1];rfl
 have g2:vs.getD j Value.none=.ref b2:=by rw [ZP,e2];rfl
 rw [g1,g2,keyLt'_oneType];exact lJ l1 l2 q1 q2 hu c
theorem EV (ho:s.heap.get? a=some (seqObj "list" vs.toArray n)) (vJ:vs.length<64) (hu:A.units<cLine) (hr:gr s.heap vs f) (yW:∀ (i:Nat) (b:Addr),vs[i]?=some (.ref b)->b≠a)
  (k:∀ p:Array Nat,Arr vs.length p->Up f p vs.length->P (.done (.ret .none)) { s with heap:=sortedHeap s.heap a vs (cI vs p) }) :
  wpAny (model prog w) A (Builtin.«list.sort» ⟨[.ref a],[]⟩) P E s:=by
 have xt:vs.length<=sizeLine:=by rw [zbf];omega
 obtain ⟨ep,M6⟩:∃ ep,(s.heap.update a (Obj.mapSeq λ_=>#[])).get? a=some (seqObj "list" #[] ep):=⟨_,get?_update_seq ho (λ_=>#[])⟩;have F9:(jw s.heap a vs).get? a=some (seqObj "list" #[] ep):=ZN _ (ZN _ M6);have r3:gr (jw s.heap a vs) vs f:=hr.keep λi b e o z=>yK (yW i b e) z;rw [list_sort_plain];refine rd (listItems_at ho rfl (rd (zcs ho rfl (rd (zdo M6 rfl (rd (zdv (rd (zdb (zau ?_) (Z7 _))) xt)))) (by rw [Z8];exact xt) (Z7 _))));show wpAny (model prog w) A _ P E { s with heap:=jw s.heap a vs };dsimp only;by_cases h2:vs.toArray.size<2
 ·rw [ZW h2,ZW h2];refine rd (ZR ?_);rw [StateT.run_pure];refine rd (ZR (rd (zdo F9 rfl ?_)));have eo:(arrOf (SortSt.mk' general' (vs.toArray.zip vs.toArray) #[] 7 none)).map (·.2)=cI vs (List.toArray (List.range vs.length)):=by
   rw [i4];show (vs.toArray.zip vs.toArray).map (·.2)=vs.toArray;apply Array.ext';simp;exact rO vs
  dsimp only;rw [eo];refine rd (zcs F9 rfl ?_ (Z7 _) (by rw [i4,Z8];exact zdw xt));simp only [zdx,zaF,zch];refine ZR (k _ (NY _) λi hi=>?_);rw [Z8] at h2;omega
 ·rw [ZU h2,ZU h2];have mK:2<=vs.length:=by rw [Z8] at h2;omega
  refine rd (kas_kind (T:=.type "list") mK (λv hv=>?_) rfl rfl ?_)
  ·obtain ⟨i,hi,rfl⟩:=zaS.mp hv;obtain ⟨b,us,e,l,q⟩:=r3 i hi;rw [ZJ hi] at e;rw [ZO e];obtain ⟨o,z1,z2,z3⟩:=l;intro A' Q' E' s' kk qq;exact zdy (T:= "list") ⟨o,kk _ _ z1,z2⟩ qq
  ·have Sf:SortSt.mk' oneType' (vs.toArray.zip vs.toArray) #[] 7 none=kas_st oneType' (pairsOf vs) (List.toArray (List.range vs.length)):=by
    have e:=kas_range (pairsOf vs);rw [pairsOf_size] at e;unfold kas_st;rw [e]
    rfl
   have run:=kas_runs (prog:=prog) (w:=w) (A:=A) (κ:=oneType') (it:=pairsOf vs) (E:=E) (Q:=λ_ jH s'=>s'={ s with heap:=jw s.heap a vs }/\∃ p:Array Nat,Arr vs.length p/\Up f p vs.length/\arrOf jH=p.map (kas_item (pairsOf vs))/\failedOf jH=none)
    (G:=λp s'=>s'={ s with heap:=jw s.heap a vs }/\Arr vs.length p/\Up f p vs.length) mK vJ (λp' jH s' a1 a2 a3 a4=>⟨a4.1,p',a4.2.1,a4.2.2,a2,a3⟩) (yk (GH (s:={ s with heap:=jw s.heap a vs }) r3 hu) (by omega) λp h1 h3=>⟨rfl,h1,h3⟩)
   rw [<-Sf] at run;refine rd (zao run ?_ λ_ _ e=>e);rintro ⟨⟨⟩,jH⟩ s' ⟨rfl,p,hp,AJ,RK,hf⟩;dsimp only;have eo:(arrOf jH).map (·.2)=cI vs p:=by
    unfold cI;apply Array.toList_inj.mp;rw [RK,Array.map_map,Array.toList_map];refine zbG λi _=>?_;rw [Function.comp_apply,kas_item_eq]
   rw [eo];have zo:(cI vs p).size=vs.length:=by unfold cI;rw [Z8,ZK,zaa,hp.size]
   refine rd (zdo F9 rfl (rd (zcs F9 rfl ?_ (Z7 _) (by rw [zo];exact zdw xt))));rw [hf];simp only [zdx,zaF,zch];exact ZR (k p hp AJ)
theorem Ac (hl:s.heap.IsList l vs.toArray) (vJ:vs.length<64) (hu:A.in1.in1.units<cLine) (hr:gr s.heap vs f)
  (k:∀ p:Array Nat,Arr vs.length p->Up f p vs.length->Q (.ref (s.heap.objs.size+1)) { s with heap:=sortedAll s.heap vs (cI vs p) }) :
  wpAny (model prog w) A (call (.builtin "sorted") [.ref l]) Q E s:=by
 have xt:vs.length<=sizeLine:=by rw [zbf];omega
 refine Calls.call_function_entry kind_sorted plain_sorted entry_sorted (args_sorted1 _) ?_;unfold Builtin.«sorted»;refine rd (m:=checkCount "sorted" 1 1 _) (ZR (rd (collect_list hl (rd (zdb ?_ xt)) xt)));generalize hh:(s.heap.push (seqObj "list" #[] 0)).update s.heap.objs.size (Obj.mapSeq (·++vs.toArray))=h1;have z1:h1.objs.size=s.heap.objs.size+1:=by rw [<-hh,zbP,size_push']
 have o1:(h1.push (seqObj "list" vs.toArray 0)).get? (s.heap.objs.size+1)=some (seqObj "list" vs.toArray 0):=by rw [<-z1];exact Z3 _ rfl
 have old:∀ b o,s.heap.get? b=some o->(h1.push (seqObj "list" vs.toArray 0)).get? b=some o:=λb o q=>by
  have lt:=ZM q;rw [zcp _ _ _ (by rw [z1];exact Z1 (zbu lt)),<-hh,zcu _ _ _ _ (Z1 lt),zcp _ _ _ (Z1 lt)];exact q
 show wpAny _ _ _ _ _ { s with heap:=h1.push (seqObj "list" vs.toArray 0) };rw [z1];refine rd (zau (zbC slot_list_sort ⟨_,o1,rfl⟩ entry_list_sort (EV (f:=f) o1 vJ hu (hr.keep λi b e o z=>old b o z) (λi b e=>?_) λp hp AJ=>⟨_,rfl,?_⟩) (args_list_sort _)))
 ·obtain ⟨hi,_⟩:=ZL.mp e;obtain ⟨b',us,e',⟨o,z,_⟩,_⟩:=hr i hi;rw [e] at e';cases e'
  exact Z1 (zbu (ZM z))
 ·refine ZR ⟨_,rfl,?_⟩;have:=k p hp AJ;unfold sortedAll at this;rw [hh] at this;exact this
section
variable {A:Around} {R:Result->Shared->Prop} {n:Nat} {P:Nat->Value->Prop} {St:Nat->Heap->Prop} {Kp:Heap->Prop} {bt:Nat->Nat->Bool}
def Ij (prog:Program) (w:World) (A:Around) (P:Nat->Value->Prop) (Kp:Heap->Prop) (bt:Nat->Nat->Bool):Prop:=
 ∀ (i j:Nat) (x y:Value) (t:Shared) (Q E:WP),P i x->P j y->Kp t.heap->Q (.bool (bt i j)) t->wpAny (model prog w) A (richCompare .Lt x y) Q E t
theorem xp (W:Walks prog w A.in1 I fp wr n P St) (hc:Ij prog w A.in1 P Kp bt) (nf:S∉fp) (eB:∀ h h',Kp h->(∀ b o,b∉wr->b≠S->h.get? b=some o->h'.get? b=some o)->Kp h') :
  ∀ (k j:Nat) (t:Shared) (x:Value) (c:Nat),n-(j+1)=k->j+1<=n->St (j+1) t.heap->Kp t.heap->P (argBest bt j) x->t.heap.get? S=some { cls:=.type "list",dict:=none,data:=.seq #[x,x] c,slots:=#[] }->
  (∀ v h' tk,P (argBest bt (n-1)) v->(∀ b o,b∉wr->b≠S->t.heap.get? b=some o->h'.get? b=some o)->R (.ok (.ret v)) { t with heap:=h',toks:=tk })->codeAny (model prog w) A (.builtin "min.loop" ⟨[.ref I,.none,.ref S],[]⟩) R t:=by
 have nw:S∉wr:=λz=>nf (W.sub _ z);have nm:(toString "min"++toString ".loop" : String) = "min.loop":=by decide
 intro k
 induction k with
 | zero=>
  intro j t x c hk hj st kp px hS hR;have jn:j+1=n:=by omega
  refine zaP F.entry_min_loop ?_;rw [zaC zcb _];show wpAny _ A.in1 (seqItems? (.ref S) >>= _) _ _ t;refine rd (zaT hS rfl ?_);show wpAny _ A.in1 (tryCatch (pyNext (.ref I)) _ >>= _) _ _ t;refine rd (zdz (W.done t _ _ (jn▸st) λh' tk kk=>?_));have tF:=kk S _ nw hS;show wpAny _ A.in1 (updateSeq S (λ_=>#[]) >>= _) _ _ _;refine rd (zco tF rfl (rd (zdp (ZR (hR x _ tk (by rw [<-jn];exact px) λb o b1 b2 e=>?_)))));rw [zaQ _ _ (zaD b2)];exact kk b o b1 e
 | succ k ih=>
  intro j t x c hk hj st kp px hS hR;have lt:j+1<n:=by omega
  refine zaP F.entry_min_loop ?_;rw [zaC zcb _];show wpAny _ A.in1 (seqItems? (.ref S) >>= _) _ _ t;refine rd (zaT hS rfl ?_);show wpAny _ A.in1 (tryCatch (pyNext (.ref I)) _ >>= _) _ _ t;refine rd (zdz (W.item (j+1) t _ _ lt st λv h' tk pv EU kk=>?_));have tF:=kk S _ nw hS;have MK:Kp h':=eB _ _ kp λb o b1 _ e=>kk b o b1 e;show wpAny _ A.in1 (tryCatch (holding [v,v] (richCompare .Lt v x >>= _)) _ >>= _) _ _ _;refine rd (zdz (zau (rd (hc (j+1) (argBest bt j) v x _ _ _ pv px MK (rd (zau (zbs (rd (zdp (ZR ?_))))))))));cases hb:bt (j+1) (argBest bt j) with
  | true=>
   simp only [zee];refine rd (zco tF rfl (rd (zdp ?_)));rw [nm];have up:∀ b o,b≠S->h'.get? b=some o->(h'.update S (Obj.mapSeq λ_=>#[v,v])).get? b=some o:=λb o b2 e=>by rw [zaQ _ _ (zaD b2)];exact e
   refine ZR ⟨zbw zcb _,ih (j+1) _ v _ (by omega) lt (W.frame _ _ _ EU λb bf o e=>up b o (λz=>nf (z▸bf)) e) (eB _ _ MK λb o _ b2 e=>up b o b2 e) (by simp only [argBest,hb,zee];exact pv) (zaM _ tF rfl) λv2 h2 LO p2 k2=>?_⟩;exact hR v2 h2 LO p2 λb o b1 b2 e=>k2 b o b1 b2 (up b o b2 (kk b o b1 e))
  | false=>
   simp only [zaF,zch];refine rd (zdp ?_);rw [nm];exact ZR ⟨zbw zcb _,ih (j+1) _ x c (by omega) lt EU MK (by simp only [argBest,hb,zaF,zch];exact px) tF λv2 h2 LO p2 k2=>hR v2 h2 LO p2 λb o b1 b2 e=>k2 b o b1 b2 (kk b o b1 e)⟩
theorem vg (W:Walks prog w A.in1 I fp wr n P St) (hc:Ij prog w A.in1 P Kp bt) (nf:S∉fp) (eB:∀ h h',Kp h->(∀ b o,b∉wr->b≠S->h.get? b=some o->h'.get? b=some o)->Kp h') (n0:0<n) (st:St 0 t.heap) (kp:Kp t.heap) (hS:t.heap.get? S=some { cls:=.type "list",dict:=none,data:=.seq #[] c,slots:=#[] })
  (hR:∀ v h' tk,P (argBest bt (n-1)) v->(∀ b o,b∉wr->b≠S->t.heap.get? b=some o->h'.get? b=some o)->R (.ok (.ret v)) { t with heap:=h',toks:=tk }):codeAny (model prog w) A (.builtin "min.loop" ⟨[.ref I,.none,.ref S],[]⟩) R t:=by
 have nw:S∉wr:=λz=>nf (W.sub _ z);have nm:(toString "min"++toString ".loop" : String) = "min.loop":=by decide
 refine zaP F.entry_min_loop ?_;rw [zaC zcb _];show wpAny _ A.in1 (seqItems? (.ref S) >>= _) _ _ t;refine rd (zaT hS rfl ?_);show wpAny _ A.in1 (tryCatch (pyNext (.ref I)) _ >>= _) _ _ t;refine rd (zdz (W.item 0 t _ _ n0 st λv h' tk pv EU kk=>?_));have tF:=kk S _ nw hS;show wpAny _ A.in1 (updateSeq S (λ_=>#[v,v]) >>= _) _ _ _;refine rd (zco tF rfl ?_);rw [nm];have up:∀ b o,b≠S->h'.get? b=some o->(h'.update S (Obj.mapSeq λ_=>#[v,v])).get? b=some o:=λb o b2 e=>by rw [zaQ _ _ (zaD b2)];exact e
 have MK:Kp h':=eB _ _ kp λb o b1 _ e=>kk b o b1 e;exact ZR ⟨zbw zcb _,xp W hc nf eB _ 0 _ v _ rfl n0 (W.frame _ _ _ EU λb bf o e=>up b o (λz=>nf (z▸bf)) e) (eB _ _ MK λb o _ b2 e=>up b o b2 e) pv (zaM _ tF rfl)
  λv2 h2 LO p2 k2=>hR v2 h2 LO p2 λb o b1 b2 e=>k2 b o b1 b2 (up b o b2 (kk b o b1 e))⟩
end
theorem zL (f:Nat->Wp):∀ k,argBest (λi j=>HT.Vq (f i) (f j)) k<=k/\∀ j,j<=k->Le (f (argBest (λi j=>HT.Vq (f i) (f j)) k)) (f j)
 | 0=>⟨ZQ _,λj hj=>by
                    obtain rfl:j=0:=by omega
                    exact Le.refl _⟩
 | k+1=>by
  obtain ⟨h1,h2⟩:=zL f k;unfold argBest;cases q:HT.Vq (f (k+1)) (f (argBest (λi j=>HT.Vq (f i) (f j)) k)) with
  | true=>
   rw [ZW rfl];refine ⟨ZQ _,λj hj=>?_⟩;by_cases e:j=k+1
   ·rw [e];exact Le.refl _
   ·exact Le.trans (Le.of_lt q) (h2 j (by omega))
  | false=>
   rw [ZU (by decide)];refine ⟨by omega,λj hj=>?_⟩;by_cases e:j=k+1
   ·rw [e];exact q
   ·exact h2 j (by omega)
theorem Dd (hh:A.handled=none) (hl:s.heap.IsList l vs.toArray) (hu:A.in1.units<cLine) (hr:gr s.heap vs f) (h0:0<vs.length)
  (k:∀ (i:Nat) (v:Value) h' tk,vs[i]?=some v->(∀ j,j<vs.length->Le (f i) (f j))->(∀ b o,s.heap.get? b=some o->h'.get? b=some o)->Q v { s with heap:=h',toks:=tk }) :
  wpAny (model prog w) A (call (.builtin "min") [.ref l]) Q E s:=by
 have nm:(toString "min"++toString ".loop" : String) = "min.loop":=by decide
 have ll:l<s.heap.objs.size:=by obtain ⟨_,e,_⟩:=id hl;exact ZM e
 have low:∀ (i:Nat) (b:Addr),vs[i]?=some (.ref b)->b<s.heap.objs.size:=λi b e=>by
  obtain ⟨b',us,e',⟨o,z,_⟩,_⟩:=hr i (ZL.mp e).1;rw [e] at e';cases e'
  exact ZM z
 refine call_function_tree F.kind_min F.plain_min F.entry_min (F.args_min1 _) ?_;show wpAny _ A.in1 (Builtin.Builtins.bindParams "min" ["key", "default"] 0 ⟨[],[]⟩ >>= _) _ _ s;refine rd (wpAny_of_eq (show Builtin.Builtins.bindParams "min" ["key", "default"] 0 ⟨[],[]⟩=pure [none,none] from rfl) (rd (ZR (rd (zcG hl (rd (zcF ?_)))))));rw [nm];generalize hg:s.heap.push { cls:=.type "list_iterator",data:=.fields #[.ref l,.int 0 0] }=g;have zg:g.objs.size=s.heap.objs.size+1:=by rw [<-hg,zaI]
 have og:∀ b o,s.heap.get? b=some o->g.get? b=some o:=λb o e=>hg▸ZN _ e;have il:g.IsListIter s.heap.objs.size l 0:=hg▸⟨_,Z3 _ rfl,rfl,rfl⟩;refine ZR ⟨zbw zcb _,vg (Kp:=λh=>gr h vs f) (bt:=λi j=>HT.Vq (f i) (f j)) (W:=Walks.list (A:=A.in1) hh s.heap.objs.size l (Z1 ll) vs.toArray) (S:=g.objs.size)
  (λi j x y t Q' E' px py kp q=>?_) (λz=>?_) (λh h' r kk=>?_) (by simpa using h0) ⟨il.at λo e=>ZN _ e,hl.at λo e=>ZN _ (og _ _ e)⟩ (hr.keep λi b _ o e=>ZN _ (og _ _ e)) (Z3 _ rfl) λv h' tk pv kk=>?_⟩
 ·have Ts:vs[i]?=some x:=by simpa using px
  have Tq:vs[j]?=some y:=by simpa using py
  obtain ⟨b1,u1,e1,l1,q1⟩:=kp i (ZL.mp Ts).1;obtain ⟨b2,u2,e2,l2,q2⟩:=kp j (ZL.mp Tq).1;rw [Ts] at e1;rw [Tq] at e2;cases e1
  cases e2
  exact C4 l1 l2 q1 q2 hu q
 ·have:g.objs.size=s.heap.objs.size\/g.objs.size=l:=by simpa using z
  rcases this with e|e
  ·exact absurd (zg.symm.trans e) (Nat.succ_ne_self _)
  ·exact absurd (zg.symm.trans e) (zax (zbu ll))
 ·refine r.keep λi b e o z=>kk b o (λy=>?_) (λy=>?_) z
  ·have:b=s.heap.objs.size:=by simpa using y
   exact absurd (low i b e) (by rw [this];exact zam _)
  ·exact absurd (low i b e) (by rw [y,zg];exact Nat.lt_asymm (zbO _))
 ·have VZ:vs[argBest (λi j=>HT.Vq (f i) (f j)) (vs.length-1)]?=some v:=by simpa using pv
  have bl:=zL f (vs.length-1);refine k _ v h' tk VZ (λj hj=>bl.2 j (by omega)) λb o e=>kk b o ?_ ?_ (ZN _ (og b o e))
  ·intro z;have:b=s.heap.objs.size:=by simpa using z
   exact absurd (ZM e) (by rw [this];exact zam _)
  ·intro z;exact absurd (ZM e) (by rw [z,zg];exact Nat.lt_asymm (zbO _))
theorem uC:∀ (l:Wp) (x:Int),(l++[x]).sum=l.sum+x
 | [],x=>by simp
 | y::l,x=>by rw [cons_append,sum_cons,sum_cons,uC l x];omega
theorem yq {σ:St} {s:Shared} (I:Inv X pins σ H s):∀ {as:XL} {L:Uf} {aJ:XV},Vals (as.map V.ref) aJ->as.length=L.length->(∀ (i:Nat) (a:Addr) (l:Wp),as[i]?=some a->L[i]?=some l->aH X.K H a (l.map V.int))->gr s.heap aJ (λi=>L.getD i []):=by
 intro as L aJ rv hl hs i hi;have z:=rv.length;rw [ZK] at z;have ha:i<as.length:=by omega
 have hL:i<L.length:=by omega
 obtain ⟨u,hu,ru⟩:=rv.get (i:=i) (show (as.map V.ref)[i]?=some (V.ref as[i]) by simp [ha]);cases ru
 obtain ⟨rs,rr,rp,_⟩:=I.list (hs i as[i] L[i] (by simp [ha]) (by simp [hL]));refine ⟨as[i],rs.toArray,hu,rp.isList,?_⟩;have e:L.getD i []=L[i]:=by simp [hL]
 dsimp only;rw [e];exact intsAre_of rr
def pick {α:Type} (d:α) (L:List α) (p:Array Nat):List α:=p.toList.map λi=>L.getD i d
def Cy (K:Frag):List V->Hp->VK->Prop:=λvs H Q=>∃ (a:Addr) (as:XL) (L:Uf),vs=[.ref a]/\aH K H a (as.map V.ref)/\as.length=L.length/\(∀ (i:Nat) (b:Addr) (l:Wp),as[i]?=some b->L[i]?=some l->aH K H b (l.map V.int))/\as.length<64/\
 ∀ (p:Array Nat) (q:Addr),Arr L.length p->Up (λi=>L.getD i []) p L.length->H q=none->Q (.ref q) (upd H q (.lst ((pick 0 as p).map V.ref)))
theorem tT (hu:X.A.units+64<cLine):cR X (.builtin "sorted") (Cy X.K):=by
 intro pins s σ H xs us Q I r h;obtain ⟨a,as,L,rfl,ha,hl,hs,vJ,q⟩:=h;obtain ⟨u,rfl,ru⟩:=vals1 r;cases ru
 obtain ⟨aJ,rv,pl,hz⟩:=I.list ha;have z:=rv.length;rw [ZK] at z;refine Ac (f:=λi=>L.getD i []) pl.isList (by omega) (by simp only [zcy];omega) (yq I rv hl hs) λp hp AJ=>?_;obtain ⟨ep,k1⟩:=sortedAll_at s.heap aJ (cI aJ p);have JS:Arr L.length p:=by rw [<-hl,z];exact hp
 have MQ:((pick 0 as p).map V.ref).length<=sizeLine:=by unfold pick;rw [ZK,ZK,zaa,hp.size,zay];omega
 have K4:Vals ((pick 0 as p).map V.ref) (cI aJ p).toList:=by
  have go:∀ l:List Nat,(∀ i∈l,i<aJ.length)->Vals ((l.map λi=>as.getD i 0).map V.ref) (l.map λi=>aJ.getD i Value.none):=by
   intro l
   induction l with
   | nil=>intro _;exact .nil
   | cons i l ih=>
    intro h;refine .cons ?_ (ih λj hj=>h j (Z5 _ hj));have hi:=h i zac;have uk:i<as.length:=by omega
    obtain ⟨u,hu,ru⟩:=rv.get (i:=i) (show (as.map V.ref)[i]?=some (V.ref as[i]) by simp [uk]);have e1:as.getD i 0=as[i]:=by simp [uk]
    have e2:aJ.getD i Value.none=u:=by rw [ZP,hu];rfl
    dsimp only;rw [e1,e2];exact ru
  refine go _ λi hi=>?_;have:=(hp.perm.mem_iff).mp (zcL.mp hi);simpa using this
 have new:aW X.prog X.w (upd H (s.heap.objs.size+1) (.lst ((pick 0 as p).map V.ref))) (sortedAll s.heap aJ (cI aJ p)) (s.heap.objs.size+1) (.lst ((pick 0 as p).map V.ref)):=⟨MQ,(cI aJ p).toList,ep,K4,by simpa [seqObj] using k1⟩;exact ⟨.ref (s.heap.objs.size+1),_,I.laid (t':=s.toks) (λb o e=>sortedAll_old e) (zbt _) new,rfl,q p _ JS (by rw [<-hl,z];exact AJ) (I.aZ.fresh (zbt _))⟩
def Mp (K:Frag):List V->Hp->VK->Prop:=λvs H Q=>∃ (a:Addr) (as:XL) (L:Uf),vs=[.ref a]/\aH K H a (as.map V.ref)/\as.length=L.length/\(∀ (i:Nat) (b:Addr) (l:Wp),as[i]?=some b->L[i]?=some l->aH K H b (l.map V.int))/\0<as.length/\
 ∀ (i:Nat) (b:Addr) (l:Wp),as[i]?=some b->L[i]?=some l->(∀ m∈L,Le l m)->Q (.ref b) H
theorem rA (hc:X.calm=true) (hu:X.A.units+64<cLine):cR X (.builtin "min") (Mp X.K):=by
 intro pins s σ H xs us Q I r h;obtain ⟨a,as,L,rfl,ha,hl,hs,h0,q⟩:=h;obtain ⟨u,rfl,ru⟩:=vals1 r;cases ru
 obtain ⟨aJ,rv,pl,hz⟩:=I.list ha;have z:=rv.length;rw [ZK] at z;refine Dd (f:=λi=>L.getD i []) (I.ok.hd hc) pl.isList (by simp only [zcy];omega) (yq I rv hl hs) (by omega) λi v h' tk hv hle kk=>?_;have hi:i<aJ.length:=(ZL.mp hv).1;have uk:i<as.length:=by omega
 have O0:i<L.length:=by omega
 obtain ⟨u,hu,ru⟩:=rv.get (i:=i) (show (as.map V.ref)[i]?=some (V.ref as[i]) by simp [uk]);rw [hv] at hu;cases hu
 cases ru
 refine ⟨.ref as[i],H,I.kept kk,rfl,q i as[i] L[i] (by simp [uk]) (by simp [O0]) λm hm=>?_⟩;obtain ⟨j,hj,rfl⟩:=zaS.mp hm;have:=hle j (by omega);have e1:L.getD i []=L[i]:=by simp [O0]
 have e2:L.getD j []=L[j]:=by simp [hj]
 rw [e1,e2] at this;exact this
def Mq (K:Frag):List V->Hp->VK->Prop:=λvs H Q=>∃ (a:Addr) (ns:Wp),vs=[.ref a]/\aH K H a (ns.map V.int)/\ns≠[]/\∀ m,m∈ns->(∀ x∈ns,m<=x)->Q (.int m) H
theorem rB (hc:X.calm=true):cR X (.builtin "min") (Mq X.K):=by
 intro pins s σ H xs us Q I r h;obtain ⟨a,ns,rfl,ha,h0,q⟩:=h;obtain ⟨u,rfl,ru⟩:=vals1 r;cases ru
 obtain ⟨aJ,rv,pl,hz⟩:=I.list ha;have hi:IntsAre aJ ns:=intsAre_of rv;obtain ⟨xs,e⟩:=hi.allInts.items;have lZ:ns=xs.toList.map (·.1):=by rw [<-hi.numsOf,<-nums_intItems,<-e]
 have hl:=pl.isList;rw [e] at hl;have h1:0<xs.size:=by
  have:=zbJ.mpr h0;rw [lZ,ZK,zaa] at this;exact this
 refine min_intList (I.ok.hd hc) hl h1 λv h' tk hv kk=>?_;obtain ⟨t,rfl⟩:=intItems_at hv;obtain ⟨g1,g2⟩:=argBest_lt (numAt xs) (xs.size-1);refine ⟨.int _,H,I.kept kk,⟨t,rfl⟩,q _ ?_ λx hx=>?_⟩
 ·rw [lZ,numAt_eq];exact getD_mem (by rw [ZK,zaa];omega)
 ·rw [lZ] at hx;obtain ⟨j,hj,rfl⟩:=mem_getD hx;rw [ZK,zaa] at hj;rw [<-numAt_eq];exact g2 j (by omega)
section
variable {X:Cx} {K:Frag}
theorem jK (h:X.K=K):SA X (wV K):=h▸iY
end
theorem D8:bootBuiltins "sum"=some (.builtin "sum"):=by decide +kernel
end L2
namespace Gm
open PySem L2
def cy (r:Wp) (j:Nat):Int:=r.getD (j%r.length) 0
theorem xK (h:i%r.length=j%r.length):cy r i=cy r j:=by unfold cy;rw [h]
theorem oP (h:j<r.length):cy r j=r[j]:=by unfold cy;rw [zal h];simp [h]
theorem Kz (h:0<r.length):cy r j∈r:=by
 have hm:=zaK j h;have:cy r j=r[j%r.length]:=by unfold cy;simp [hm]
 rw [this];exact Z4 _
theorem Ed {i:Int} {j:Nat} (h1 : -(r.length:Int)<=i) (h2:i<r.length) (e:(j:Int)=i\/(j:Int)=i+r.length):ja (r.map V.int) i=some (V.int (cy r j)):=by
 unfold ja Es;rw [ZK];by_cases h0:0<=i
 ·rw [ZW h0,ZW h2];have hi:i.toNat<r.length:=by omega
  have em:j%r.length=i.toNat:=by
   rcases e with e|e
   ·rw [zal (by omega)];omega
   ·have:j=i.toNat+r.length:=by omega
    rw [this,zbT,zal hi]
  show (r.map V.int)[i.toNat]?=_;unfold cy;rw [em];simp [hi]
 ·rw [ZU h0,ZW h1];have hj:(i+(r.length:Int)).toNat=j:=by omega
  have hl:j<r.length:=by omega
  show (r.map V.int)[(i+(r.length:Int)).toNat]?=_;rw [hj,oP hl];simp [hl]
theorem KA (hl:r.length=q.length) (h:∀ j,cy r j=cy q j):r=q:=by
 refine ext_getElem hl λi h1 h2=>?_;have:=h i;rw [oP h1,oP h2] at this;exact this
def du (r:Wp) (k:Nat):Wp:=r.drop k++r.take k
theorem dX (h:k<=r.length):(du r k).length=r.length:=by unfold du;simp;omega
theorem ql {a b n:Nat} (ha:a<n) (hb:b<n):(a+b)%n=if a+b<n then a+b else a+b-n:=by
 by_cases h:a+b<n
 ·rw [ZW h,zal h]
 ·rw [ZU h,Nat.mod_eq_sub_mod (by omega),zal (by omega)]
theorem lh (h:k<r.length) (j:Nat):cy (du r k) j=cy r (j+k):=by
 have hm:=zaK j (show 0<r.length by omega);have e:(j+k)%r.length=if j%r.length+k<r.length then j%r.length+k else j%r.length+k-r.length:=by
  rw [<-ql hm h,Nat.mod_add_mod]
 unfold cy;rw [dX (by omega),e];unfold du;rw [ZP,ZP]
 congr 1
 by_cases c:j%r.length+k<r.length
 ·rw [ZW c,Z0 (by rw [zca];omega),getElem?_drop,Nat.add_comm]
 ·rw [ZU c,Z2 (by rw [zca];omega),zca,getElem?_take,ZW (by omega)]
  congr 1
  omega
theorem E4 (hk:k<r.length) (hi:i<r.length):du (du r k) i=du r ((i+k)%r.length):=by
 have hl:(du r k).length=r.length:=dX (by omega);have hm:=zaK (i+k) (show 0<r.length by omega);refine KA (by rw [dX (by rw [hl];omega),hl,dX (by omega)]) λj=>?_;rw [lh (by rw [hl];exact hi),lh hk,lh hm];refine xK ?_;rw [Nat.add_assoc,Nat.add_mod_mod]
abbrev dM:=Int×Int
def A0 (L:Uf) (a:Int):Wp:=L.getD a.toNat []
def pre (l:Wp) (x:Int):Int:=cy l (l.idxOf x+l.length-1)
structure Dt (L:Uf) (d:dM):Prop where
 lo:0<=d.1
 hi:d.1<L.length
 mem:d.2∈A0 L d.1
def nx (L:Uf) (d:dM):dM:=(d.2,pre (A0 L d.2) d.1)
theorem md (h:i<n):(i+n-1)%n=if i=0 then n-1 else i-1:=by
 by_cases e:i=0
 ·rw [ZW e,e,zcU,zal (by omega)]
 ·rw [ZU e];have:i+n-1=(i-1)+n:=by omega
  rw [this,zbT,zal (by omega)]
def Pd (L:Uf):Nat->List dM
 | 0=>[]
 | k+1=>Pd L k++(A0 L k).map λx=>((k:Int),x)
theorem FR:∀ {k:Nat},d∈Pd L k↔0<=d.1/\d.1<k/\d.2∈A0 L d.1
 | 0=>by simp only [Pd,zat,false_iff];intro h;omega
 | k+1=>by
  rw [Pd,mem_append,FR,mem_map];constructor
  ·rintro (⟨h1,h2,h3⟩|⟨x,hx,rfl⟩)
   ·exact ⟨h1,by omega,h3⟩
   ·exact ⟨by simp,by simp;omega,hx⟩
  ·rintro ⟨h1,h2,h3⟩;by_cases e:d.1=k
   ·right;rw [e] at h3;exact ⟨d.2,h3,zcC e.symm rfl⟩
   ·left;exact ⟨h1,by omega,h3⟩
def it (L:Uf) (d:dM):Nat->dM
 | 0=>d
 | k+1=>Gm.nx L (it L d k)
def tr (L:Uf) (d:dM) (k:Nat):List dM:=(List.range k).map (it L d)
def dj (r:Wp) (j:Nat):dM:=(cy r j,cy r (j+1))
def sh (s:Nat) (r:Wp):List dM:=(List.range r.length).map λj=>dj r (j+s)
theorem Ky (h:i%r.length=j%r.length):dj r i=dj r j:=by
 unfold dj;rw [xK h,xK (show (i+1)%r.length=(j+1)%r.length by rw [Nat.add_mod,h,<-Nat.add_mod])]
theorem EW (r:Wp) (s:Nat):(sh (s+1) r).Perm (sh s r):=by
 unfold sh;cases hn:r.length with
 | zero=>exact List.Perm.refl _
 | succ n=>
  have e1:(List.range (n+1)).map (λj=>dj r (j+(s+1)))=(List.range n).map (λj=>dj r (j+(s+1)))++[dj r (n+(s+1))]:=by rw [zcP,Z6];rfl
  have e2:(List.range (n+1)).map (λj=>dj r (j+s))=dj r s::(List.range n).map (λj=>dj r (j+(s+1))):=by
   rw [range_succ_eq_map,zaX,zdR,zcU]
   congr 1
   refine zbG λj _=>?_;show dj r (j+1+s)=_
   congr 1
   omega
  have e3:dj r (n+(s+1))=dj r s:=Ky (by rw [hn,show n+(s+1)=s+(n+1) by omega,zbT]);rw [e1,e2,e3];exact zdJ _ _
theorem yo (r:Wp):∀ s,(sh s r).Perm (sh 0 r)
 | 0=>List.Perm.refl _
 | s+1=>(EW r s).trans (yo r s)
theorem Kx (h:k<r.length) (j:Nat):dj (du r k) j=dj r (j+k):=by
 unfold dj;rw [lh h,lh h]
 congr 2
 omega
theorem IJ (h:k<r.length):sh 0 (du r k)=sh k r:=by
 unfold sh;rw [dX (by omega)];exact zbG λj _=>Kx h j
def o9 (r:Wp):Prop:=∀ k,k<r.length->Le r (du r k)
theorem Az (hk:k<r.length) (h:∀ j,j<r.length->Le (du r k) (du r j)):o9 (du r k):=λi hi=>by
 rw [dX (by omega)] at hi;rw [E4 hk hi];exact h _ (zaK _ (by omega))
theorem yE {α:Type} {d:α} {L:List α} {p:Array Nat} (i:Nat):(pick d L p)[i]?=(p[i]?).map λj=>L.getD j d:=by unfold pick;simp
theorem range_getD {α:Type} {d:α} (L:List α):((List.range L.length).map λi=>L.getD i d)=L:=by
 apply ext_getElem?;intro i;rw [ZS];by_cases h:i<L.length
 ·simp [h]
 ·simp [h]
theorem kL {α:Type} {d:α} {L:List α} {p:Array Nat} (h:Arr L.length p):(pick d L p).Perm L:=by
 have e:=range_getD (d:=d) L;have:p.toList.Perm (List.range L.length):=by have:=h.perm;rw [Array.perm_iff_toList_perm] at this;simpa using this
 have q:=this.map λi=>L.getD i d;rw [e] at q;exact q
theorem eE {α:Type} {d:α} {L:List α} {p:Array Nat} {n:Nat} (h:Arr n p):(pick d L p).length=n:=by unfold pick;simp [h.size]
theorem cX.pick (g:cX H t as R) (h:Arr R.length p) (hq:H q=none):cX (upd H q (.lst ((pick 0 as p).map V.ref))) q (pick 0 as p) (pick [] R p):=by
 refine ⟨ae,by rw [eE h,eE h],λi a l h1 h2=>?_⟩;rw [yE] at h1 h2;cases e:p[i]? with
 | none=>rw [e] at h1;cases h1
 | some j=>
  rw [e] at h1 h2;have hi:i<p.size:=by
   rcases Nat.lt_or_ge i p.size with z|z
   ·exact z
   ·rw [zcA z] at e;cases e
  have hj:j<R.length:=by
   have:=h.lt (i:=i) (by rw [<-h.size];exact hi);rw [zan,e] at this;exact this
  have Bx:j<as.length:=by rw [g.len];exact hj
  have e1:as.getD j 0=as[j]:=by simp [Bx]
  have e2:R.getD j []=R[j]:=by simp [hj]
  have tG:as.getD j 0=a:=ZO h1;have mK:R.getD j []=l:=ZO h2;have:=g.row j as[j] R[j] (by simp [Bx]) (by simp [hj]);rw [<-e1,<-e2,tG,mK] at this;rw [aq (aU this hq)];exact this
def oA (d:dM):List Key:=[.inl d.1,.inl d.2]
def kD (ks:List dM):List (List Key×V):=ks.map λd=>(oA d,V.bl true)
theorem ou (h:oA d=oA e):d=e:=by
 unfold oA at h;simp only [List.cons.injEq,Sum.inl.injEq,and_true] at h;exact zcC h.1 h.2
theorem qD:∀ (ks:List dM) (d:dM),(ie (kD ks) (oA d)).isSome=decide (d∈ks)
 | [],d=>rfl
 | e::ks,d=>by
  unfold kD;rw [zaX];by_cases z:e=d
  ·subst z;rw [hZ rfl];simp
  ·rw [ic (λy=>z (ou y))];have:=qD ks d;unfold kD at this;rw [this];have z2:¬d=e:=λy=>z y.symm;simp [z2]
theorem fE (ks:List dM):(kD ks).length=ks.length:=by unfold kD;simp
theorem vT {r:Wp} {k:Nat} (h:k<=r.length):qh (r.map V.int) (some (k:Int)) none=(r.drop k).map V.int:=by
 unfold qh HT.ui;rw [ZK];dsimp only;rw [ZU (by omega),show min ((k:Int).toNat) r.length=k by omega,zbU (by rw [zca,ZK];omega),map_drop]
theorem vS {r:Wp} {k:Nat} (h:k<=r.length):qh (r.map V.int) none (some (k:Int))=(r.take k).map V.int:=by
 unfold qh HT.ui;rw [ZK];dsimp only;rw [ZU (by omega),show min ((k:Int).toNat) r.length=k by omega,drop_zero,Nat.sub_zero,map_take]
theorem Cu (h:ty σ H λy H1=>td σ H1 λx H2=>∃ a o,x=.ref a/\pB H2 a y o/\Q (.bl (!o.isSome)) H2):x9 ty td σ H Q:=h
theorem IZ (h:tv σ H λv H1=>td σ H1 λx H2=>ty σ H2 λy H3=>∃ a H4,x=.ref a/\Bu H3 a y v H4/\D.nx σ H4):Hl td ty tv D σ H:=h
theorem qS {a:Addr} {i k n:Nat} {r:Wp} (h1:σ[i]?=some (some (.ref a))) (h2:σ[k]?=some (some (.int (n:Int)))) (hs:aH K H a (r.map V.int)) (hn:n<=r.length) (q:∀ p,H p=none->Q (.ref p) (upd H p (.lst ((r.drop n).map V.int)))) :
  K2 (wV K) (jG i) (qF (jG k)) iX σ H Q:=⟨_,h1,⟨_,h2,⟨_,rfl,⟨a,_,rfl,hs,λp hp=>by rw [vT hn];exact q p hp⟩⟩⟩⟩
theorem yx {a:Addr} {i k n:Nat} {r:Wp} (h1:σ[i]?=some (some (.ref a))) (h2:σ[k]?=some (some (.int (n:Int)))) (hs:aH K H a (r.map V.int)) (hn:n<=r.length) (q:∀ p,H p=none->Q (.ref p) (upd H p (.lst ((r.take n).map V.int)))) :
  K2 (wV K) (jG i) iX (qF (jG k)) σ H Q:=⟨_,h1,⟨_,h2,⟨_,rfl,⟨a,_,rfl,hs,λp hp=>by rw [vS hn];exact q p hp⟩⟩⟩⟩
theorem cX.snoc (g:cX H t bs R) (nt:t∉bs) (nb:b≠t) (hb:H b=some (.lst (l.map V.int))):cX (upd H t (.lst (bs.map V.ref++[.ref b]))) t (bs++[b]) (R++[l]):=by
 refine ⟨by rw [Z6];exact ae,by rw [ZV,ZV,g.len];rfl,λi a m h1 h2=>?_⟩;rcases Nat.lt_or_ge i bs.length with hi|hi
 ·rw [Z0 hi] at h1;rw [Z0 (by rw [<-g.len];exact hi)] at h2;have am:=ZX h1;have ne:a≠t:=λz=>nt (by rw [<-z];exact am);rw [aq ne];exact g.row i a m h1 h2
 ·rw [Z2 hi] at h1;rw [Z2 (by rw [<-g.len];exact hi),<-g.len] at h2;have:i-bs.length=0:=by
   have:=(ZL.mp h1).1;rw [zak] at this;omega
  rw [this] at h1 h2;simp at h1 h2;subst h1 h2;rw [aq nb];exact hb
theorem cX.MB (g:cX H t bs R) (hb:H b=none):b∉t::bs:=λz=>by
 rcases zas.mp z with z|z
 ·rw [z,g.top] at hb;cases hb
 ·obtain ⟨k,hk,AN⟩:=zaS.mp z;have kl:k<R.length:=by rw [<-g.len];exact hk
  have:=g.row k b _ (by rw [ZJ hk,AN]) (ZJ kl);rw [hb] at this;cases this
theorem IK (s:Nat) (r:Wp):(sh s r).length=r.length:=by unfold sh;simp
theorem L6 (h:j<r.length):(sh s r)[j]?=some (dj r (j+s)):=by unfold sh;simp [h]
theorem take_snoc {α:Type} {l:List α} {j:Nat} {x:α} (h:l[j]?=some x):l.take (j+1)=l.take j++[x]:=by rw [take_succ,h];rfl
def fl (R:Uf) (k:Nat):List dM:=(R.take k).flatMap λr=>sh (r.length-2) r
theorem uS (hi:i<r.length):du r i=cy r i::(r.drop (i+1)++r.take i):=by
 unfold du;rw [zbm hi,oP hi]
 rfl
theorem IP (hi:i<r.length) (hj:j<r.length) (h:cy r i<cy r j):HT.Vq (du r i) (du r j)=true:=by
 rw [uS hi,uS hj,HT.fB,ZU (by omega)];exact zad h
def lst (l:Wp):Int:=l.getD (l.length-1) 0
end Gm
namespace L2
open PySem PySem.Spec PySem.W PySem.Calls PyProof.Rows
def tN (ns:Wp):Wp:=ns.foldl step_dedup []
theorem xH (ns:Wp):firstMet (λi=>ns.getD i 0) ns.length=tN ns:=by
 unfold firstMet tN;rw [show ((List.range ns.length).map λi=>ns.getD i 0)=ns from Gm.range_getD ns]
theorem zC:∀ (ns σ:Wp),σ.Nodup->((ns.foldl step_dedup σ).length=σ.length+ns.length↔(σ++ns).Nodup)
 | [],σ,h=>by simp [h]
 | x::ns,σ,h=>by
  rw [foldl_cons];by_cases e:x∈σ
  ·have e1:step_dedup σ x=σ:=by unfold step_dedup;rw [ZW (by simpa using e)]
   rw [e1];constructor
   ·intro z;have:=foldl_step_dedup_length_le σ ns;rw [zbg] at z;omega
   ·intro z;exact absurd rfl ((List.nodup_append.mp z).2.2 x e x zac)
  ·have e1:step_dedup σ x=σ++[x]:=by unfold step_dedup;rw [ZU (by simpa using e)]
   rw [e1];have n1:(σ++[x]).Nodup:=(zdJ x σ).nodup_iff.mpr (zbp.mpr ⟨e,h⟩);have:=zC ns (σ++[x]) n1;rw [ZV,zak,zdA,singleton_append] at this;rw [<-this,zbg];omega
theorem D1 (ns:Wp):(tN ns).length=ns.length↔ns.Nodup:=by
 have:=zC ns [] .nil;rw [zcM,zcU,nil_append] at this;exact this
def Mo (K:Frag):List V->Hp->VK->Prop:=λvs H Q=>∃ (a:Addr) (ns:Wp),vs=[.ref a]/\aH K H a (ns.map V.int)/\ns.length<=1000/\∀ (p:Addr) (S:Int->Bool),H p=none->Q (.ref p) (upd H p (.set S (tN ns).length))
theorem Be (hc:X.calm=true):cR X (.type "set") (Mo X.K):=by
 intro pins s σ H xs us Q I r h;obtain ⟨a,ns,rfl,ha,hl,q⟩:=h;obtain ⟨u,rfl,ru⟩:=vals1 r;cases ru
 obtain ⟨aJ,rv,pl,hz⟩:=I.list ha;have hi:IntsAre aJ ns:=intsAre_of rv;have zl:=hi.length;refine call_set_list (I.ok.hd hc) pl.isList (by simpa using hi) (by rw [Z8,zl];exact zcd (Nat.succ_le_succ hl) (by decide)) λh' tk hS kk=>?_;have ez:aJ.toArray.size=ns.length:=by rw [Z8];exact zl
 rw [ez,xH] at hS;exact ⟨.ref s.heap.objs.size,_,I.laid (t':=tk) (λb o e=>kk b o (ZM e) e) (ZQ _) (show aW X.prog X.w _ h' s.heap.objs.size (.set _ (tN ns).length) from hS),rfl,q _ _ (I.aZ.fresh (ZQ _))⟩
theorem Bh:cR X (.builtin "len") (λxs H Q=>∃ a S n,xs=[V.ref a]/\H a=some (.set S n)/\Q (.int (n:Nat)) H):=by
 intro pins s σ H xs us Q I r h;obtain ⟨a,S,n,rfl,ha,q⟩:=h;obtain ⟨u,rfl,ru⟩:=vals1 r;cases ru
 obtain ⟨o,es,ep,tt,ho,hex,hd,_,_,dI,hf,hn⟩:=(show s.heap.SetOf (intKind X.prog X.w) a S n from I.aZ a _ ha);have lt:es.size<4096:=dI;refine call_len_set ho hex hd hf (by omega) ⟨.int (n:Nat),H,I.tok _,⟨_,by rw [hn]⟩,q⟩
end L2
namespace Gm
open PySem L2
def both (L:Uf) (a b:Int) (A B:Wp):Uf:=(L.set a.toNat A).set b.toNat B
end Gm
namespace L2
open PySem PySem.Spec PySem.W PySem.Calls PyProof.Rows
theorem KH:bootBuiltins "set"=some (.type "set"):=by decide +kernel
theorem CI {X:Cx} {K:Frag} (h:X.K=K) {tg l:Expr} {tl:TE} (hl:PE X l tl):PI X tg l (yU K tl):=h▸bq hl
end L2
namespace Gm
open PySem L2
theorem PR.at {H:Hp}:∀ {ps:XL} {T:List (Int×Int)},PR H ps T->∀ {i:Nat} {a:Addr},ps[i]?=some a->∃ x:Int×Int,T[i]?=some x/\H a=some (.tup [.int x.1,.int x.2])
 | _,_,.nil,_,_,e=>by simp at e
 | _,_,.cons r t,0,_,e=>by simp at e;subst e;exact ⟨_,rfl,r⟩
 | _,_,.cons r t,i+1,_,e=>by
  obtain ⟨x,h1,h2⟩:=PR.at t (i:=i) (by simpa using e);exact ⟨x,by simpa using h1,h2⟩
end Gm
namespace L2
open PySem PySem.Spec PySem.W PySem.Calls PyProof.Rows
def Og (K:Frag) (a b:Addr):It:=
 ⟨λi H=>∃ xs ys x y,aH K H a xs/\aH K H b ys/\xs[i]?=some x/\ys[i]?=some y,
  λi H v H'=>∃ p x y,H p=none/\v=.ref p/\(∀ xs,aH K H a xs->xs[i]?=some x)/\(∀ ys,aH K H b ys->ys[i]?=some y)/\H'=upd H p (.tup [x,y]),
  λi H=>∃ xs ys,aH K H a xs/\aH K H b ys/\(xs.length<=i\/ys.length<=i)⟩
theorem BP {P:Program} {w:World} {K:Frag} {elts:List Expr} {kx:Nat} {px:Pos} {a b z TI TO i1 i2:Addr} (D:ZipApart z TI TO i1 i2 a b) :
  Turn P w K (.Tuple elts kx px) (Og K a b) [z,TI,TO,i1,i2] z (λi h=>IsZip h z TI TO .none/\IsPair h TI (.ref i1) (.ref i2)/\(∃ u v,IsPair h TO u v)/\h.IsListIter i1 a i/\h.IsListIter i2 b i) where
 mem:=by simp
 obj:=λi h st c hc=>by
  obtain ⟨h1,h2,⟨u,v,h3⟩,h4,h5⟩:=st;simp only [zaZ,zat,zba] at hc;rcases hc with rfl|rfl|rfl|rfl|rfl
  ·exact ⟨_,h1,λv q=>by cases q⟩
  ·exact ⟨_,h2,λv q=>by cases q⟩
  ·exact ⟨_,h3,λv q=>by cases q⟩
  ·obtain ⟨o,e1,_,d⟩:=h4;exact ⟨o,e1,λv q=>by rw [d] at q;cases q⟩
  ·obtain ⟨o,e1,_,d⟩:=h5;exact ⟨o,e1,λv q=>by rw [d] at q;cases q⟩
 keep:=λi h h' st k=>by
  obtain ⟨h1,h2,⟨u,v,h3⟩,h4,h5⟩:=st;exact ⟨k z (by simp) _ h1,k TI (by simp) _ h2,⟨u,v,k TO (by simp) _ h3⟩,h4.at λo q=>k i1 (by simp) o q,h5.at λo q=>k i2 (by simp) o q⟩
 item:=by
  intro X hP hw hK hc i pins s σ H E I hf st hg;subst hP hw hK;obtain ⟨h1,h2,⟨u,v,h3⟩,h4,h5⟩:=st;obtain ⟨xs,ys,x,y,wB,wA,hx,hy⟩:=hg;obtain ⟨ia,ra,pa,za⟩:=I.list wB;obtain ⟨ib,rb,pb,zb⟩:=I.list wA;obtain ⟨u1,MS,E3⟩:=ra.get hx;obtain ⟨u2,Q0,E2⟩:=rb.get hy;have lt:∀ c∈[z,TI,TO,i1,i2],c<s.heap.objs.size:=λc hc=>by
   simp only [zaZ,zat,zba] at hc;rcases hc with rfl|rfl|rfl|rfl|rfl
   ·exact ZM h1
   ·exact ZM h2
   ·exact ZM h3
   ·obtain ⟨_,q,_⟩:=id h4;exact ZM q
   ·obtain ⟨_,q,_⟩:=id h5;exact ZM q
  refine wpAny_pyNext_zip_item D h1 h2 h3 h4 h5 pa.isList pb.isList (x:=u1) (y:=u2) (by simpa using MS) (by simpa using Q0) λh' k1 k2 k3 k4 hT hsz hk=>⟨_,rfl,?_⟩;refine wpAny_letOwnedTupleGo_zip k1 λmK Dv sW=>?_;have hn:H s.heap.objs.size=none:=I.aZ.fresh (ZQ _);have nz:s.heap.objs.size≠z:=zax (lt z (by simp));have kk:∀ c o,c∉[z,TI,TO,i1,i2]->s.heap.get? c=some o->mK.get? c=some o:=λc o hc q=>by
   simp only [zaZ,zat,zba,zdB] at hc;exact (sW.2 c hc.1).trans (hk c o hc.1 hc.2.2.1 hc.2.2.2.1 hc.2.2.2.2 q)
  have Nm:mK.get? s.heap.objs.size=some { cls:=.type "tuple",data:=.seq #[u1,u2] }:=(sW.2 _ nz).trans hT;refine ⟨.ref s.heap.objs.size,upd H s.heap.objs.size (.tup [x,y]),Inv.ku (s:=s) (h':=mK) (t':=s.toks) I kk hf (ZQ _) ⟨by simp only [zbg,zcM];rw [zbf];decide,[u1,u2],.cons E3 (.cons E2 .nil),⟨_,Nm,rfl,_,rfl⟩⟩,rfl,
   ⟨_,x,y,hn,rfl,λIp yV=>by rw [I.jW yV wB];exact hx,λIp yV=>by rw [I.jW yV wA];exact hy,rfl⟩,⟨Dv,?_,⟨u1,u2,(sW.2 _ D.TOz).trans k2⟩,k3.at λo q=>(sW.2 i1 D.i1z).trans q,k4.at λo q=>(sW.2 i2 D.i2z).trans q⟩,λc hc=>?_⟩
  ·exact (sW.2 _ D.TIz).trans (hk TI _ D.TIz D.TITO D.TIi1 D.TIi2 h2)
  ·rw [aq (Z1 (lt c hc))];exact (hf c hc).1
 done:=by
  intro X hP hw hK hc i pins s σ H E I hf st hg;subst hP hw hK;obtain ⟨h1,h2,⟨u,v,h3⟩,h4,h5⟩:=st;obtain ⟨xs,ys,wB,wA,sX⟩:=hg;obtain ⟨ia,ra,pa,za⟩:=I.list wB;obtain ⟨ib,rb,pb,zb⟩:=I.list wA;have la:=ra.length;have lb:=rb.length;refine wpAny_pyNext_zip_end (I.ok.hd hc) D h1 h2 h3 h4 h5 pa.isList pb.isList ?_ λh' eb=>⟨rfl,Inv.rR (t':=s.toks) (ch:=[z,TI,TO,i1,i2]) I (λc o hc q=>?_) hf⟩
  ·rcases sX with q|q
   ·left;simp;omega
   ·right;simp;omega
  ·simp only [zaZ,zat,zba,zdB] at hc;exact eb c o hc.1 hc.2.2.1 hc.2.2.2.1 hc.2.2.2.2 q
 self:=λ_ _ _ _ _ st h=>zcV st.1 h
def QU (K:Frag) (ta:TA):TI:=λσ H R=>ta σ H λvs H1=>∃ a b,vs=[.ref a,.ref b]/\(∃ xs,aH K H1 a xs)/\(∃ ys,aH K H1 b ys)/\R (Og K a b) H1
theorem lx:bootBuiltins "zip"=some (.type "zip"):=by decide +kernel
theorem Jg {X:Cx} {l m:Expr} {ta:TA} {p pos:Pos} {elts:List Expr} {kx:Nat} {px:Pos} (hm:X.mg "zip"=none) (ha:PA X [l,m] ta) (hg:Gl X "zip":=by rfl) (he:starEach [l,m] X.env=(false,eval l X.env)::starEach [m] X.env:=by rfl) (lK:(backTo pos (starEach [m] X.env)).any (·.1)=false:=by rfl) :
  PI X (.Tuple elts kx px) (.Call (.Name "zip" p) [l,m] [] pos) (QU X.K ta):=by
 intro pins s σ H R I h;refine Call_ (eN I hg hm lx (zaJ (cA (ha pos pins s σ H _ I h) λus s1 ⟨vs,H1,I1,r1,q1⟩=>?_) he lK));obtain ⟨a,b,rfl,⟨xs,wB⟩,⟨ys,wA⟩,q⟩:=q1;obtain ⟨u1,u2,rfl,E3,E2⟩:=vals2 r1;cases E3
 cases E2
 obtain ⟨ia,ra,pa,za⟩:=I1.list wB;obtain ⟨ib,rb,pb,zb⟩:=I1.list wA;have yM:a<s1.heap.objs.size:=by obtain ⟨_,e,_⟩:=pa.isList;exact ZM e
 have yL:b<s1.heap.objs.size:=by obtain ⟨_,e,_⟩:=pb.isList;exact ZM e
 have ne:∀ {j k:Nat},j≠k->s1.heap.objs.size+j≠s1.heap.objs.size+k:=λh z=>h (zed z);have nl:∀ {c:Addr} (k:Nat),c<s1.heap.objs.size->c≠s1.heap.objs.size+k:=λk l=>Z1 (ZY l (zaz _ _));have D:ZipApart (s1.heap.objs.size+4) (s1.heap.objs.size+2) (s1.heap.objs.size+3) s1.heap.objs.size (s1.heap.objs.size+1) a b:=
  ⟨ne (by decide),ne (by decide),ne (j:=0) (by decide),ne (by decide),ne (by decide),ne (k:=0) (by decide),ne (by decide),ne (k:=0) (by decide),ne (by decide),ne (j:=0) (by decide),nl _ yM,nl _ yM,nl 0 yM,nl _ yM,nl _ yL,nl _ yL,nl 0 yL,nl _ yL⟩
 refine call_zip_2 pa.isList pb.isList λh' hz um xE h1 h2 hsz hk=>?_;refine zcV hz ?_;have I2:Inv X pins σ H1 { s1 with heap:=h' }:=I1.kept (t':=s1.toks) λc o e=>hk c o e;refine ⟨_,[s1.heap.objs.size+4,s1.heap.objs.size+2,s1.heap.objs.size+3,s1.heap.objs.size,s1.heap.objs.size+1],_,_,H1,rfl,I2,BP D,⟨hz,um,⟨_,_,xE⟩,h1,h2⟩,λc hc=>?_,q⟩;have le:s1.heap.objs.size<=c:=by
  simp only [zaZ,zat,zba] at hc;rcases hc with rfl|rfl|rfl|rfl|rfl
  ·exact zaz _ _
  ·exact zaz _ _
  ·exact zaz _ _
  ·exact ZQ _
  ·exact zaz _ _
 exact I1.qg le (I1.aZ.fresh le)
theorem Gh {K:Frag} {a b:Addr} {xs ys:List V} {g:TG} {tb:TS} {D:Ends} {σ:St} {H:Hp} (Pv:Nat->St->Hp->Prop) (h0:Pv 0 σ H) (sV:xs.length=ys.length) (hl:∀ i σ H,i<=xs.length->Pv i σ H->aH K H a xs/\aH K H b ys)
  (hs:∀ i x y p σ H,xs[i]?=some x->ys[i]?=some y->Pv i σ H->H p=none->g (.ref p) σ (upd H p (.tup [x,y])) λσ2 H2=>tb { D with nx:=Pv (i+1),ct:=Pv (i+1),bk:=D.nx } σ2 H2) (hd:∀ σ H,Pv xs.length σ H->D.nx σ H) :
  ∃ W:Nat->Nat->St->Hp->Prop,(∃ m,W 0 m σ H)/\∀ i m σ H,W i m σ H->
   ((Og K a b).stop i H/\D.nx σ H)\/((Og K a b).go i H/\∃ N:St->Hp->Prop,(∀ σ' H',N σ' H'->∃ m',m'<m/\W (i+1) m' σ' H')/\∀ x H',(Og K a b).wx i H x H'->g x σ H' λσ2 H2=>tb { D with nx:=N,ct:=N,bk:=D.nx } σ2 H2):=by
 refine ⟨λi m σ H=>m=xs.length-i/\i<=xs.length/\Pv i σ H,⟨xs.length,by simp,Z7 _,h0⟩,?_⟩;rintro i m σ H ⟨rfl,hi,p⟩;obtain ⟨qa,qb⟩:=hl i σ H hi p;by_cases dI:i<xs.length
 ·have JV:i<ys.length:=by omega
  refine .inr ⟨⟨xs,ys,xs[i],ys[i],qa,qb,by simp [dI],by simp [JV]⟩,Pv (i+1),λσ' H' p'=>⟨xs.length-(i+1),by omega,rfl,dI,p'⟩,λx H' y=>?_⟩;obtain ⟨r,u,v,hr,rfl,hu,hv,rfl⟩:=y;exact hs i u v r σ H (hu xs qa) (hv ys qb) p hr
 ·have e:i=xs.length:=by omega
  subst e;exact .inl ⟨⟨xs,ys,qa,qb,.inl (ZQ _)⟩,hd σ H p⟩
end L2
namespace Gm
open PySem L2
end Gm
namespace L2
open PySem PySem.Spec PySem.W PySem.Calls PyProof.Rows
theorem D9:bootBuiltins "max"=some (.builtin "max"):=by decide +kernel
end L2
namespace Gm
open PySem L2
end Gm
namespace PySem
abbrev qm (h:Heap) (z TI TO a:Addr) (f:Bool):Prop:=
 h.get? z=some { cls:=.type "zip",dict:=none,data:=.fields #[rawInt a,.bool f,.bool false,.ref TI,.ref TO],slots:=#[] }
theorem BG (ho:s.heap.get? a=some o) (h:Q (some o) s):wpAny (model prog w) A (loadIfAlive a) Q E s:=by
 have h':Q (s.heap.get? a) s:=by rw [ho];exact h
 exact λ_ _ _=>h'
theorem xV (hz:qm s.heap z TI TO a f) (ha:s.heap.get? a=some oa)
  (h:∀ h',qm h' z TI TO a true->Heap.SameBut z s.heap h'->Q false { s with heap:=h' }):wpAny (model prog w) A (Builtin.SmallTypes.ownedTupleIsFree (.ref z)) Q E s:=by
 unfold Builtin.SmallTypes.ownedTupleIsFree;refine rd (zbh hz rfl (x:=rawInt a) rfl ?_);show wpAny _ _ (loadIfAlive ((a:Int).toNat) >>= _) _ _ _;rw [zaE];refine rd (BG ha ?_);simp only [Option.isNone_some,zaF,zch];refine rd (zbh hz rfl (x:=.bool f) rfl ?_);cases f with
 | true=>
  rw [ZU (show ¬((Value.bool true != Value.bool true)=true) from zae)];exact ZR (h _ hz (Heap.SameBut.refl _ _))
 | false=>
  rw [ZW (show (Value.bool false != Value.bool true)=true from rfl)];refine rd (zce hz (by simp) λh₃ he₃ hs₃=>?_);exact ZR (h _ he₃ hs₃)
theorem EI {z TI TO i1 i2 l1 l2 a:Addr} {f:Bool} {oa:Obj} {k1 k2:Nat} {xs ys:Array Value} {x y:Value} {Q:WP} (D:ZipApart z TI TO i1 i2 l1 l2)
  (hz:qm s.heap z TI TO a f) (ha:s.heap.get? a=some oa) (um:IsPair s.heap TI (.ref i1) (.ref i2))
  (h1:s.heap.IsListIter i1 l1 k1) (h2:s.heap.IsListIter i2 l2 k2) (jh:s.heap.IsList l1 xs) (oC:s.heap.IsList l2 ys) (hx:xs[k1]?=some x) (hy:ys[k2]?=some y)
  (hQ:∀ h',qm h' z TI TO a true->h'.IsListIter i1 l1 (k1+1)->h'.IsListIter i2 l2 (k2+1)->IsPair h' s.heap.objs.size x y->h'.objs.size=s.heap.objs.size+1->
   (∀ c o,c≠z->c≠i1->c≠i2->s.heap.get? c=some o->h'.get? c=some o)->Q (.ref s.heap.objs.size) { s with heap:=h' }) :
  wpAny (model prog w) A (Builtin.«zip.__next__» ⟨[.ref z],[]⟩) (λfin s'=>∃ v,fin=.done (.ret v)/\Q v s') E s:=by
 show wpAny _ _ (field (.ref z) 2 >>= _) _ _ _;refine rd (zbh hz rfl (x:=.bool false) rfl ?_);show wpAny _ _ (field (.ref z) 3 >>= _) _ _ _;refine rd (zbh hz rfl (x:=.ref TI) rfl ?_);refine rd (zaT um rfl ?_);show wpAny _ _ (Builtin.SmallTypes.ownedTupleIsFree (.ref z) >>= _) _ _ _;refine rd (xV hz ha λh₁ hz₁ hs₁=>?_);simp only [zaF,zch];refine rd ?_;rw [<-zeo];simp only [forIn_cons,forIn_nil];refine rd (rd (zau ?_));show wpAny _ _ (Builtin.SmallTypes.nextOf (.ref i1) >>= _) _ _ _;refine rd (wpAny_nextOf_list_item (h1.extBut hs₁.extBut D.i1z) (jh.extBut hs₁.extBut D.l1z) hx λh₂ h1₂ hs₂=>ZR (ZR ?_));refine rd (rd (zau ?_));show wpAny _ _ (Builtin.SmallTypes.nextOf (.ref i2) >>= _) _ _ _;refine rd (wpAny_nextOf_list_item ((h2.extBut hs₁.extBut D.i2z).extBut hs₂.extBut D.i12.symm)
  ((oC.extBut hs₁.extBut D.l2z).extBut hs₂.extBut D.l2i1) hy λh₄ h2₄ hs₄=>ZR (ZR (ZR ?_)))
 refine rd (zdv (hsz:=by show 2<=sizeLine;rw [zbf];decide) ?_);refine ZR ⟨_,rfl,?_⟩;have hsz:h₄.objs.size=s.heap.objs.size:=by rw [hs₄.1,hs₂.1,hs₁.1]
 have hz₄:qm h₄ z TI TO a true:=hs₄.extBut _ _ D.i2z.symm (hs₂.extBut _ _ D.i1z.symm hz₁);have h1₄:h₄.IsListIter i1 l1 (k1+1):=h1₂.extBut hs₄.extBut D.i12;show Q (.ref h₄.objs.size) _;rw [hsz];refine hQ _ (ZN _ hz₄) (h1₄.at λo e=>ZN _ e) (h2₄.at λo e=>ZN _ e) (by rw [<-hsz];exact Z3 _ rfl) (by rw [zaI,hsz]) λc o c1 c2 c3 e=>
  ZN _ (hs₄.extBut _ _ c3 (hs₂.extBut _ _ c2 (hs₁.extBut _ _ c1 e)))
theorem Io (hh:A.handled=none) (D:ZipApart z TI TO i1 i2 l1 l2)
  (hz:qm s.heap z TI TO a f) (ha:s.heap.get? a=some oa) (um:IsPair s.heap TI (.ref i1) (.ref i2))
  (h1:s.heap.IsListIter i1 l1 k1) (h2:s.heap.IsListIter i2 l2 k2) (jh:s.heap.IsList l1 xs) (oC:s.heap.IsList l2 ys) (sX:xs[k1]?=none)
  (hE:∀ h' e,(∀ c o,c≠z->c≠i1->c≠i2->s.heap.get? c=some o->h'.get? c=some o)->(∃ o,h'.get? e=some o/\o.cls=.type "StopIteration")->E (.ref e) { s with heap:=h' }) :
  wpAny (model prog w) A (Builtin.«zip.__next__» ⟨[.ref z],[]⟩) Q E s:=by
 show wpAny _ _ (field (.ref z) 2 >>= _) _ _ _;refine rd (zbh hz rfl (x:=.bool false) rfl ?_);show wpAny _ _ (field (.ref z) 3 >>= _) _ _ _;refine rd (zbh hz rfl (x:=.ref TI) rfl ?_);refine rd (zaT um rfl ?_);show wpAny _ _ (Builtin.SmallTypes.ownedTupleIsFree (.ref z) >>= _) _ _ _;refine rd (xV hz ha λh₁ hz₁ hs₁=>?_);simp only [zaF,zch];refine rd ?_;rw [<-zeo];simp only [forIn_cons,forIn_nil];refine rd (rd (zau ?_));show wpAny _ _ (Builtin.SmallTypes.nextOf (.ref i1) >>= _) _ _ _;refine rd (wpAny_nextOf_list_end hh (h1.extBut hs₁.extBut D.i1z) (jh.extBut hs₁.extBut D.l1z) sX λh₂ e hs₂ he=>?_);exact hE h₂ e (λc o c1 c3 _ x=>hs₂ _ _ c3 (hs₁.extBut _ _ c1 x)) he
theorem zR (D:ZipApart z TI TO i1 i2 l1 l2)
  (hz:qm s.heap z TI TO a f) (ha:s.heap.get? a=some oa) (um:IsPair s.heap TI (.ref i1) (.ref i2))
  (h1:s.heap.IsListIter i1 l1 k1) (h2:s.heap.IsListIter i2 l2 k2) (jh:s.heap.IsList l1 xs) (oC:s.heap.IsList l2 ys) (hx:xs[k1]?=some x) (hy:ys[k2]?=some y)
  (hQ:∀ h',qm h' z TI TO a true->h'.IsListIter i1 l1 (k1+1)->h'.IsListIter i2 l2 (k2+1)->IsPair h' s.heap.objs.size x y->h'.objs.size=s.heap.objs.size+1->
   (∀ c o,c≠z->c≠i1->c≠i2->s.heap.get? c=some o->h'.get? c=some o)->Q (some (.ref s.heap.objs.size)) { s with heap:=h' }) :
  wpAny (model prog w) A (pyNext (.ref z)) Q E s:=by
 have hT:s.TypeIs (.ref z) "zip":=⟨_,hz,rfl⟩;unfold pyNext;exact rd (zda (zbD (name:=Str.ofString "__next__") hT zbX
  (zbC zbX hT zdN
   (EI D hz ha um h1 h2 jh oC hx hy λh' a1 a2 a3 a4 a5 a6=>ZR (hQ h' a1 a2 a3 a4 a5 a6)) (zdC _))))
theorem BF (hh:A.handled=none) (D:ZipApart z TI TO i1 i2 l1 l2)
  (hz:qm s.heap z TI TO a f) (ha:s.heap.get? a=some oa) (um:IsPair s.heap TI (.ref i1) (.ref i2))
  (h1:s.heap.IsListIter i1 l1 k1) (h2:s.heap.IsListIter i2 l2 k2) (jh:s.heap.IsList l1 xs) (oC:s.heap.IsList l2 ys) (sX:xs[k1]?=none)
  (hQ:∀ h',(∀ c o,c≠z->c≠i1->c≠i2->s.heap.get? c=some o->h'.get? c=some o)->Q none { s with heap:=h' }):wpAny (model prog w) A (pyNext (.ref z)) Q E s:=by
 have hT:s.TypeIs (.ref z) "zip":=⟨_,hz,rfl⟩;unfold pyNext;refine rd (zda (zbD (name:=Str.ofString "__next__") hT zbX
  (zbC zbX hT zdN (Io hh D hz ha um h1 h2 jh oC sX λh' e hk he=>?_) (zdC _))))
 obtain ⟨o,ho,hc⟩:=he;refine rd (wpAny_isInstance (T:= "StopIteration") (b:=true) ⟨o,ho,hc⟩ isSubtype_stop ?_);exact ZR (hQ _ hk)
structure oY (h:Heap) (z TI TO i1 i2 l1 l2 S:Addr) (i:Nat):Prop where
 own:(i=0/\IsZip h z TI TO .none/\∃ a b,IsPair h TO a b)\/∃ a f oa,qm h z TI TO a f/\h.get? a=some oa/\a∉[z,i1,i2,S]
 it:IsPair h TI (.ref i1) (.ref i2)
 one:h.IsListIter i1 l1 i
 two:h.IsListIter i2 l2 i
theorem oY.keep (x:oY h z TI TO i1 i2 l1 l2 S i) (hk:∀ b o,b≠S->h.get? b=some o->h'.get? b=some o) (hS:S∉[z,TI,TO,i1,i2]):oY h' z TI TO i1 i2 l1 l2 S i:=by
 simp only [zaZ,zat,zba,zdB] at hS;obtain ⟨n1,n2,n3,n4,n5⟩:=hS;refine ⟨?_,hk _ _ (zaD n2) x.it,x.one.at λo e=>hk _ _ (zaD n4) e,x.two.at λo e=>hk _ _ (zaD n5) e⟩;rcases x.own with ⟨e,h1,a,b,h2⟩|⟨a,f,oa,h1,h2,h3⟩
 ·exact .inl ⟨e,hk _ _ (zaD n1) h1,a,b,hk _ _ (zaD n3) h2⟩
 ·refine .inr ⟨a,f,oa,hk _ _ (zaD n1) h1,hk _ _ ?_ h2,h3⟩;simp only [zaZ,zat,zba,zdB] at h3;exact h3.2.2.2
structure GL (xs ys:Array Value) (lo:Addr) (h:Heap) (as:XL):Prop where
 rise:as.Pairwise (·<·)
 above:∀ a∈as,lo<=a
 pairs:∀ (j:Nat) (a:Addr),as[j]?=some a->∃ x y,xs[j]?=some x/\ys[j]?=some y/\IsPair h a x y
theorem EH (D:ZipApart z TI TO i1 i2 l1 l2) (st:oY s.heap z TI TO i1 i2 l1 l2 S i) (hS:S<s.heap.objs.size)
  (jh:s.heap.IsList l1 xs) (oC:s.heap.IsList l2 ys) (hx:xs[i]?=some x) (hy:ys[i]?=some y)
  (hQ:∀ h',oY h' z TI TO i1 i2 l1 l2 S (i+1)->IsPair h' s.heap.objs.size x y->h'.objs.size=s.heap.objs.size+1->
   (∀ c o,c∉[z,TO,i1,i2]->s.heap.get? c=some o->h'.get? c=some o)->Q (some (.ref s.heap.objs.size)) { s with heap:=h' }) :
  wpAny (model prog w) A (pyNext (.ref z)) Q E s:=by
 have WB:i1<s.heap.objs.size:=by obtain ⟨_,e,_⟩:=st.one;exact ZM e
 have WA:i2<s.heap.objs.size:=by obtain ⟨_,e,_⟩:=st.two;exact ZM e
 have f:∀ {c p q r t:Addr},c∉[p,q,r,t]->c≠p/\c≠q/\c≠r/\c≠t:=λh=>by
  simpa only [zaZ,zat,zba,zdB] using h
 have g:∀ {c p q r t:Addr},c≠p->c≠q->c≠r->c≠t->c∉[p,q,r,t]:=λh1 h2 h3 h4=>by
  simp only [zaZ,zat,zba,zdB];exact ⟨h1,h2,h3,h4⟩
 rcases st.own with ⟨rfl,h1,a,b,h2⟩|⟨a,fl,oa,h1,h2,h3⟩
 ·refine wpAny_pyNext_zip_item D h1 st.it h2 st.one st.two jh oC hx hy λh' k1 k2 k3 k4 hT hsz hk=>hQ h' ⟨.inr ⟨_,false,_,k1,hT,g (zax (ZM h1)) (zax WB) (zax WA) (zax hS)⟩,hk _ _ D.TIz D.TITO D.TIi1 D.TIi2 st.it,k3,k4⟩ hT hsz λc o hc e=>?_;obtain ⟨c1,c2,c3,c4⟩:=f hc;exact hk c o c1 c2 c3 c4 e
 ·obtain ⟨b1,b2,b3,b4⟩:=f h3;refine zR D h1 h2 st.it st.one st.two jh oC hx hy λh' k1 k3 k4 hT hsz hk=>hQ h' ⟨.inr ⟨a,true,oa,k1,hk _ _ b1 b2 b3 h2,h3⟩,hk _ _ D.TIz D.TIi1 D.TIi2 st.it,k3,k4⟩ hT hsz λc o hc e=>?_;obtain ⟨c1,c2,c3,c4⟩:=f hc;exact hk c o c1 c3 c4 e
theorem Im (hh:A.handled=none) (D:ZipApart z TI TO i1 i2 l1 l2) (st:oY s.heap z TI TO i1 i2 l1 l2 S i)
  (jh:s.heap.IsList l1 xs) (oC:s.heap.IsList l2 ys) (sX:xs[i]?=none)
  (hQ:∀ h',(∀ c o,c∉[z,TO,i1,i2]->s.heap.get? c=some o->h'.get? c=some o)->Q none { s with heap:=h' }):wpAny (model prog w) A (pyNext (.ref z)) Q E s:=by
 have f:∀ {c p q r t:Addr},c∉[p,q,r,t]->c≠p/\c≠q/\c≠r/\c≠t:=λh=>by
  simpa only [zaZ,zat,zba,zdB] using h
 rcases st.own with ⟨rfl,h1,a,b,h2⟩|⟨a,fl,oa,h1,h2,h3⟩
 ·refine wpAny_pyNext_zip_end hh D h1 st.it h2 st.one st.two jh oC (.inl sX) λh' hk=>hQ h' λc o hc e=>?_;obtain ⟨c1,c2,c3,c4⟩:=f hc;exact hk c o c1 c2 c3 c4 e
 ·refine BF hh D h1 h2 st.it st.one st.two jh oC sX λh' hk=>hQ h' λc o hc e=>?_;obtain ⟨c1,c2,c3,c4⟩:=f hc;exact hk c o c1 c3 c4 e
section
variable {prog:Program} {w:World} {A:Around} {s:Shared} {R:Result->Shared->Prop} {xs ys:Array Value}
theorem EG (hh:A.handled=none) (D:ZipApart z TI TO i1 i2 l1 l2) (Dy:S∉[z,TI,TO,i1,i2]) (O6:l1≠S) (tF:l2≠S) (sV:xs.size=ys.size) (hn:xs.size<=sizeLine) (res:Value) {h₁:Heap}
  (hR:∀ h' tk acc c as,(∀ b o,b≠S->b∉[z,TO,i1,i2]->h₁.get? b=some o->h'.get? b=some o)->h'.get? S=some { cls:=.type "list",dict:=none,data:=.seq acc c,slots:=#[] }->as.length=xs.size->GL xs ys h₁.objs.size h' as->
   acc.toList=as.map Value.ref->R (.ok (.ret res)) { s with heap:=h',toks:=tk }) :
  ∀ (k i:Nat) (h:Heap) (tk c:Nat) (acc:Array Value) (as:XL),xs.size-i=k->i<=xs.size->oY h z TI TO i1 i2 l1 l2 S i->h.IsList l1 xs->h.IsList l2 ys->(∀ b o,b≠S->b∉[z,TO,i1,i2]->h₁.get? b=some o->h.get? b=some o)->
   h.get? S=some { cls:=.type "list",dict:=none,data:=.seq acc c,slots:=#[] }->acc.toList=as.map Value.ref->as.length=i->GL xs ys h₁.objs.size h as->h₁.objs.size<=h.objs.size->(∀ c∈[z,TO,i1,i2],c<h₁.objs.size)->S<h₁.objs.size->
   codeAny (model prog w) A (.builtin "list.extend.loop" ⟨[.ref S,.ref z,res],[]⟩) R { s with heap:=h,toks:=tk }:=by
 have UK:S∉[z,TO,i1,i2]:=by
  simp only [zaZ,zat,zba,zdB] at Dy ⊢;exact ⟨Dy.1,Dy.2.2.1,Dy.2.2.2.1,Dy.2.2.2.2⟩
 intro k
 induction k with
 | zero=>
  intro i h tk c acc as hk hi JQ jh oC Ds hS aY HP hG hsz dI RP;have Ew:i=xs.size:=by omega
  refine zaP PySem.F.entry_extend_loop ?_;rw [zaC zcm _];show wpAny _ A.in1 (pyNext (.ref z) >>= _) _ _ _;refine rd (Im (s:={ s with heap:=h,toks:=tk }) (A:=A.in1) hh D JQ jh oC (by rw [zcA];omega) λh' he=>?_);refine ZR (hR h' tk acc c as (λb o h1 h2 e=>he b o h2 (Ds b o h1 h2 e)) (he S _ UK hS) (by omega) ⟨hG.rise,hG.above,λj a hj=>?_⟩ aY);obtain ⟨x,y,e1,e2,e3⟩:=hG.pairs j a hj;refine ⟨x,y,e1,e2,he a _ (λhm=>?_) e3⟩;exact absurd (dI a hm) (zcj.mpr (hG.above a (ZX hj)))
 | succ k ih=>
  intro i h tk c acc as hk hi JQ jh oC Ds hS aY HP hG hsz dI RP;have JU:i<xs.size:=by omega
  have HI:i<ys.size:=by omega
  have Ua:acc.size=i:=by rw [<-zaa,aY,ZK,HP]
  refine zaP PySem.F.entry_extend_loop ?_;rw [zaC zcm _];show wpAny _ A.in1 (pyNext (.ref z) >>= _) _ _ _;refine rd (EH (s:={ s with heap:=h,toks:=tk }) (S:=S) (x:=xs[i]) (y:=ys[i]) D JQ (ZM hS) jh oC (by simp [JU]) (by simp [HI]) λh' Q3 ht hz Eu=>?_);dsimp only at ht hz Eu ⊢;have EA:=Eu S _ UK hS;have up:∀ b o,b≠S->h'.get? b=some o->(h'.update S (Obj.mapSeq (·.push (Value.ref h.objs.size)))).get? b=some o:=λb o hb e=>(zaQ _ _ (zaD hb)).trans e;have Nn:S<h.objs.size:=ZM hS;have Wl:l1∉[z,TO,i1,i2]:=by
   simp only [zaZ,zat,zba,zdB];exact ⟨D.l1z,D.l1TO,D.l1i1,D.l1i2⟩
  have Wk:l2∉[z,TO,i1,i2]:=by
   simp only [zaZ,zat,zba,zdB];exact ⟨D.l2z,D.l2TO,D.l2i1,D.l2i2⟩
  show wpAny _ A.in1 (updateSeq S (·.push (Value.ref h.objs.size)) >>= _) _ _ _;refine rd ?_;refine zco EA rfl (ZR ⟨zbw zcm _,ih (i+1) _ tk _ (acc.push (Value.ref h.objs.size)) (as++[h.objs.size]) (by omega) JU (Q3.keep up Dy)
   (jh.at λo e=>up l1 o O6 (Eu l1 o Wl e)) (oC.at λo e=>up l2 o tF (Eu l2 o Wk e))
   (λb o h1 h2 e=>up b o h1 (Eu b o h2 (Ds b o h1 h2 e))) (zaM _ EA rfl) (by rw [zet,aY,Z6];rfl) (by rw [ZV,HP];rfl) ⟨?_,?_,?_⟩ ?_ dI RP⟩) (by rw [Ua];omega) (by show (acc.push (Value.ref h.objs.size)).size<=sizeLine+1;rw [zcg,Ua];omega)
  ·refine List.pairwise_append.mpr ⟨hG.rise,pairwise_singleton _ _,λa ha b hb=>?_⟩;rw [ZT.mp hb];obtain ⟨j,hj⟩:=zcE.mp ha;obtain ⟨_,_,_,_,e⟩:=hG.pairs j a hj;exact ZM e
  ·intro a ha;rcases ZZ.mp ha with ha|ha
   ·exact hG.above a ha
   ·rw [ZT.mp ha];exact hsz
  ·intro j b hj;rcases zab j as.length with h1|h1|h1
   ·rw [Z0 h1] at hj;obtain ⟨x',y',e1,e2,e3⟩:=hG.pairs j b hj;have hb:=hG.above b (ZX hj);exact ⟨x',y',e1,e2,up b _ (zax (ZY RP hb)) (Eu b _ (λhm=>absurd (dI b hm) (zcj.mpr hb)) e3)⟩
   ·subst h1;have hb:h.objs.size=b:=by simpa using hj
    subst hb;exact ⟨xs[i],ys[i],by rw [HP];simp [JU],by rw [HP];simp [HI],up _ _ (zax Nn) ht⟩
   ·have M7:(as++[h.objs.size])[j]?=none:=zdM (by rw [ZV,zak];omega);rw [M7] at hj;cases hj
  ·have e:(h'.update S (Obj.mapSeq (·.push (Value.ref h.objs.size)))).get? h.objs.size=_:=up _ _ (zax Nn) ht;exact zag hsz (zaA (ZM e))
end
namespace F
theorem wF:typeLookup (.type "zip") "__len__"=pure none:=by rw [typeLookup_type,zdK];kernel_rfl
theorem uo:typeLookup (.type "zip") "__length_hint__"=pure none:=by rw [typeLookup_type,zdK];kernel_rfl
end F
section
variable {prog:Program} {w:World} {A:Around} {E:WP} {s:Shared} {xs ys:Array Value}
theorem zQ (hh:A.handled=none) (D:ZipApart z TI TO i1 i2 l1 l2) (Dy:S∉[z,TI,TO,i1,i2]) (O6:l1≠S) (tF:l2≠S) (sV:xs.size=ys.size) (hn:xs.size<=sizeLine) (res:Value) (c₀:Nat)
  (hz:IsZip s.heap z TI TO .none) (xE:∃ a b,IsPair s.heap TO a b) (um:IsPair s.heap TI (.ref i1) (.ref i2)) (h1:s.heap.IsListIter i1 l1 0) (h2:s.heap.IsListIter i2 l2 0) (jh:s.heap.IsList l1 xs) (oC:s.heap.IsList l2 ys)
  (hS:s.heap.get? S=some { cls:=.type "list",data:=.seq #[] c₀ })
  (hR:∀ h' tk acc c as,(∀ b o,b≠S->b∉[z,TO,i1,i2]->s.heap.get? b=some o->h'.get? b=some o)->h'.get? S=some { cls:=.type "list",dict:=none,data:=.seq acc c,slots:=#[] }->as.length=xs.size->GL xs ys s.heap.objs.size h' as->
   acc.toList=as.map Value.ref->R (.ok (.ret res)) { s with heap:=h',toks:=tk }) :
  wpAny (model prog w) A.in1 (Builtin.List.listExtendWith (.ref S) (.ref z) res)
   (λfin s'=>match fin with | .done f=>R (.ok f) s' | .again c'=>c'.quiet=true/\codeAny (model prog w) A c' R s') (λe s'=>R (.error e) s') s:=by
 have Np:=Dy;simp only [zaZ,zat,zba,zdB] at Np;obtain ⟨n1,n2,n3,n4,n5⟩:=Np;have hT:s.TypeIs (.ref z) "zip":=⟨_,hz,rfl⟩;unfold Builtin.List.listExtendWith;refine rd (zdy hT ?_);have q1:Builtin.List.listSameRef (.ref S) (.ref z)=false:=by simp [Builtin.List.listSameRef,n1]
 have q2:(Value.type "zip"==Value.type "list")=false:=by decide
 have q3:(Value.type "zip"==Value.type "tuple")=false:=by decide
 simp only [q1,q2,q3,Bool.or_false,zaF,zch];refine rd (zcV hz ?_);refine rd (zau ?_);unfold Builtin.List.listLengthHint;refine rd (zde hT F.wF ?_);show wpAny _ A.in1 (specialOf (Value.ref z) (Str.ofString "__length_hint__") >>= _) _ _ _;refine rd (zde hT F.uo ?_);refine ZR ?_;show wpAny _ A.in1 (rule "list.extend.makes-room" >>= λ_=>Builtin.List.listTouch (.ref S) >>= λ_=>
  again (.builtin "list.extend.loop" ⟨[.ref S,.ref z,res],[]⟩)) _ _ _
 refine rd (zdh ?_);refine rd ?_;show wpAny _ A.in1 (updateSeq S (·.push .none) >>= λ_=>updateSeq S (·.pop)) _ _ _;refine rd (zco hS rfl ?_);have hS₂:=zaM (Obj.mapSeq (·.push Value.none)) hS rfl;refine zco (hz:=by seq_fits) hS₂ rfl ?_;have hS₃:=zaM (Obj.mapSeq (·.pop)) hS₂ rfl;have hk:∀ b o,b≠S->s.heap.get? b=some o->((s.heap.update S (Obj.mapSeq (·.push Value.none))).update S (Obj.mapSeq (·.pop))).get? b=some o:=λb o hb e=>(zaQ _ _ (zaD hb)).trans ((zaQ _ _ (zaD hb)).trans e);obtain ⟨a,b,xE⟩:=xE;refine ZR ⟨zbw zcm _,EG (s:=s) (h₁:=s.heap) (xs:=xs) (ys:=ys) hh D Dy O6 tF sV hn res hR xs.size 0 _ _ _ #[] [] (Nat.sub_zero _) (Z7 _)
  ⟨.inl ⟨rfl,hk _ _ (zaD n1) hz,a,b,hk _ _ (zaD n3) xE⟩,hk _ _ (zaD n2) um,h1.at λo e=>hk _ _ (zaD n4) e,h2.at λo e=>hk _ _ (zaD n5) e⟩ (jh.at λo e=>hk _ _ O6 e) (oC.at λo e=>hk _ _ tF e)
  (λb o hb _ e=>hk b o hb e) hS₃ rfl rfl ⟨List.Pairwise.nil,(λ_ ha=>nomatch ha),(λj a hj=>by simp at hj)⟩ (by simp [zbP]) (λc hc=>?_) (ZM hS)⟩
 simp only [zaZ,zat,zba] at hc;rcases hc with rfl|rfl|rfl|rfl
 ·exact ZM hz
 ·exact ZM xE
 ·obtain ⟨_,e,_⟩:=h1;exact ZM e
 ·obtain ⟨_,e,_⟩:=h2;exact ZM e
theorem qj (hh:A.handled=none) (D:ZipApart z TI TO i1 i2 l1 l2) (sV:xs.size=ys.size) (hn:xs.size<=sizeLine)
  (hz:IsZip s.heap z TI TO .none) (xE:∃ a b,IsPair s.heap TO a b) (um:IsPair s.heap TI (.ref i1) (.ref i2)) (h1:s.heap.IsListIter i1 l1 0) (h2:s.heap.IsListIter i2 l2 0) (jh:s.heap.IsList l1 xs) (oC:s.heap.IsList l2 ys)
  (hQ:∀ h' tk acc c as,(∀ b o,b∉[z,TO,i1,i2]->s.heap.get? b=some o->h'.get? b=some o)->h'.get? s.heap.objs.size=some { cls:=.type "list",dict:=none,data:=.seq acc c,slots:=#[] }->as.length=xs.size->GL xs ys (s.heap.objs.size+1) h' as->
   acc.toList=as.map Value.ref->Q (.ref s.heap.objs.size) { s with heap:=h',toks:=tk }) :
  wpAny (model prog w) A (call (.type "list") [.ref z]) Q E s:=by
 refine callType_codes (Q₁:=λobj s₁=>obj=.ref s.heap.objs.size/\s₁={ s with heap:=s.heap.push { cls:=.type "list",data:=.seq #[] } }) PySem.F.called_list (PySem.F.typeCall_list_1 _) PySem.F.entry_list_init
  (code_list_new _ ⟨rfl,rfl⟩) λobj s₁ h₁=>?_
 obtain ⟨rfl,rfl⟩:=h₁;obtain ⟨a,b,xE⟩:=xE;have hS:(s.heap.push { cls:=.type "list",data:=.seq #[] }).get? s.heap.objs.size=some { cls:=.type "list",data:=.seq #[] }:=Z3 _ rfl;have lt:∀ c∈[z,TI,TO,i1,i2],c<s.heap.objs.size:=λc hc=>by
  simp only [zaZ,zat,zba] at hc;rcases hc with rfl|rfl|rfl|rfl|rfl
  ·exact ZM hz
  ·exact ZM um
  ·exact ZM xE
  ·obtain ⟨_,e,_⟩:=h1;exact ZM e
  ·obtain ⟨_,e,_⟩:=h2;exact ZM e
 have Wz:l1<s.heap.objs.size:=by obtain ⟨_,e,_⟩:=jh;exact ZM e
 have Wy:l2<s.heap.objs.size:=by obtain ⟨_,e,_⟩:=oC;exact ZM e
 have Dy:s.heap.objs.size∉[z,TI,TO,i1,i2]:=λhm=>absurd (lt _ hm) (zam _);refine ⟨⟨_,hS,rfl⟩,PySem.F.args_list_init_2 _ _,?_⟩;show wpAny _ _ (do let old <-Builtin.List.listItems (.ref s.heap.objs.size);Builtin.List.listUpdate (.ref s.heap.objs.size) (λ_=>#[]);letGo old.toList.reverse;Builtin.List.listExtendWith (.ref s.heap.objs.size) (.ref z) .none) _ _ _;refine rd ?_;unfold Builtin.List.listItems;refine rd (zaT hS rfl (ZR ?_));show wpAny _ _ (updateSeq s.heap.objs.size (λ_=>#[]) >>= λ_=>letGo (#[]:Array Value).toList.reverse >>= λ_=>Builtin.List.listExtendWith (.ref s.heap.objs.size) (.ref z) .none) _ _ _;refine rd (zco hS rfl ?_);have hS₂:=zaM (Obj.mapSeq (λ_=>(#[]:Array Value))) hS rfl;generalize hg:(s.heap.push { cls:=.type "list",data:=.seq #[] }).update s.heap.objs.size (Obj.mapSeq (λ_=>(#[]:Array Value)))=hp at hS₂;have hsz:hp.objs.size=s.heap.objs.size+1:=by rw [<-hg];simp [zbP,zaI]
 have Hx:∀ b o,s.heap.get? b=some o->hp.get? b=some o:=λb o e=>by
  rw [<-hg];exact (zaQ _ _ (zax (ZM e))).trans (ZN _ e)
 refine rd (zdp ?_);refine zQ (A:=A.in1) (s:={ s with heap:=hp }) (xs:=xs) (ys:=ys) hh D Dy (Z1 Wz) (Z1 Wy) sV hn .none _ (Hx _ _ hz) ⟨a,b,Hx _ _ xE⟩ (Hx _ _ um) (h1.at λo e=>Hx _ o e) (h2.at λo e=>Hx _ o e) (jh.at λo e=>Hx _ o e) (oC.at λo e=>Hx _ o e) hS₂ λh' tk acc c as hk EA hl hG aY=>?_;refine ⟨rfl,hQ h' tk acc c as (λb o hb e=>hk b o (Z1 (ZM e)) hb (Hx b o e)) EA hl ?_ aY⟩;rw [<-hsz];exact hG
end
end PySem
namespace L2
open PySem PySem.Spec PySem.W PySem.Calls PyProof.Rows
section
variable {X:Cx} {pins:WF} {σ:St} {H H':Hp} {s:Shared} {h':Heap}
theorem Inv.QL {t':Nat} {ch:XL} (I:Inv X pins σ H s) (k:∀ b u,b∉ch->s.heap.get? b=some u->h'.get? b=some u) (hf:∀ b∈ch,jB X pins H b) (hs:∀ b u,H b=some u->H' b=some u)
  (new:∀ b u,H' b=some u->H b=none->s.heap.objs.size<=b/\aW X.prog X.w H' h' b u):Inv X pins σ H' { s with heap:=h',toks:=t' }:=by
 have yJ:∀ b u,H b=some u->b∉ch:=λb u e z=>by rw [(hf b z).1] at e;cases e
 refine I.step (g':=s.gens) (d':=s.drawn) (ch:=ch) (λb hb=>?_) (λb o _ _ hc e _=>k b o hc e) (λb o _ _ hc e _=>⟨o.slots,k b o hc e⟩) (λb u _ e n=>?_) (λb o hc e=>⟨o,k b o hc e⟩)
  (λb xs e=>hs _ _ e) (λb u v e=>hs _ _ e) (λb ps e=>⟨#[],by rw [hs _ _ e];simp⟩) (λm hm=>?_) (λb u e=>?_) I.bare
 ·obtain ⟨f0,f1,f2,f3,f4,f5⟩:=hf b hb;exact ⟨f3,f1,f4,f5⟩
 ·cases q:H' b with
  | none=>rfl
  | some v=>exact absurd (ZM e) (zcj.mpr (new b v q n).1)
 ·obtain ⟨o,es,ep,ho,r⟩:=hm;exact ⟨o,es,ep,k _ o (λz=>(hf _ z).2.1 rfl) ho,r⟩
 ·cases q:H b with
  | none=>exact (new b u e q).2
  | some v=>
   have e2:=hs b v q;rw [e] at e2;cases e2
   refine (I.aZ b u q).eB (λc v hc q2=>k c v ?_ q2) (λc q2=>hs _ _ q2) λc xs q2=>hs _ _ q2;rcases hc with z|z
   ·rw [z];exact yJ b u q
   ·exact yJ c _ z
end
def n9:XL->List (V×V)->Hp->Hp
 | a::as,p::ps,H=>upd (n9 as ps H) a (.tup [p.1,p.2])
 | _,_,H=>H
theorem n8:∀ {as:XL} {ps:List (V×V)} {H:Hp} {b:Addr},b∉as->n9 as ps H b=H b
 | [],_,_,_,_=>by simp [n9]
 | _::_,[],_,_,_=>by simp [n9]
 | a::as,p::ps,H,b,h=>by
  have nb:b≠a:=λe=>h (by rw [e];exact zac);rw [n9,aq nb,n8 λe=>h (Z5 _ e)]
theorem yN:∀ {as:XL} {ps:List (V×V)} {H:Hp} {j:Nat} {a:Addr} {p:V×V},as.Nodup->as[j]?=some a->ps[j]?=some p->n9 as ps H a=some (.tup [p.1,p.2])
 | [],_,_,_,_,_,_,h,_=>by simp at h
 | _::_,[],_,_,_,_,_,_,h=>by simp at h
 | a::as,p::ps,H,0,b,q,_,h1,h2=>by
  have e1:a=b:=by simpa using h1
  have e2:p=q:=by simpa using h2
  subst e1 e2;rw [n9,ae]
 | a::as,p::ps,H,j+1,b,q,hn,h1,h2=>by
  have tG:as[j]?=some b:=by simpa using h1
  have mK:ps[j]?=some q:=by simpa using h2
  have Dr:=zbp.mp hn;have nb:b≠a:=λe=>Dr.1 (by rw [<-e];exact ZX tG);rw [n9,aq nb,yN Dr.2 tG mK]
theorem qC:∀ (as:XL),Vals (as.map V.ref) (as.map Value.ref)
 | []=>.nil
 | _::as=>.cons rfl (qC as)
def uA (K:Frag) (ta:TA):TE:=λσ H Q=>ta σ H λvs H1=>∃ a b xs ys,vs=[.ref a,.ref b]/\aH K H1 a xs/\aH K H1 b ys/\xs.length=ys.length/\
 ∀ (l:Addr) (as:XL) (H2:Hp),ao H1 H2->H1 l=none->H2 l=some (.lst (as.map V.ref))->as.length=xs.length->
  (∀ (j:Nat) (a:Addr),as[j]?=some a->H1 a=none/\a≠l/\∃ x y,xs[j]?=some x/\ys[j]?=some y/\H2 a=some (.tup [x,y]))->Q (.ref l) H2
theorem xQ:bootBuiltins "list"=some (.type "list"):=by decide +kernel
theorem wY {ta:TA} {p p2 pos Ak:Pos} (hc:X.calm=true) (hm:X.mg "zip"=none) (iK:X.mg "list"=none) (ha:PA X [l,m] ta) (hg:Gl X "zip":=by rfl) (RE:Gl X "list":=by rfl)
  (he:starEach [l,m] X.env=(false,eval l X.env)::starEach [m] X.env:=by rfl) (lK:(backTo pos (starEach [m] X.env)).any (·.1)=false:=by rfl)
  (Dv:starEach [.Call (.Name "zip" p) [l,m] [] pos] X.env=(false,eval (.Call (.Name "zip" p) [l,m] [] pos) X.env)::starEach [] X.env:=by rfl) :
  PE X (.Call (.Name "list" p2) [.Call (.Name "zip" p) [l,m] [] pos] [] Ak) (uA X.K ta):=by
 intro pins s σ H Q I h;refine Call_ (eN I RE iK xQ (zaJ ?_ Dv rfl));rw [Dv];show wpAny _ _ (spliced ((false,eval (.Call (.Name "zip" p) [l,m] [] pos) X.env)::backTo Ak (starEach [] X.env))) _ _ s;refine zdi ?_;refine Call_ (eN I hg hm lx (zaJ (cA (ha pos pins s σ H _ I h) λus s1 ⟨vs,H1,I1,r1,q1⟩=>?_) he lK));obtain ⟨a,b,xs,ys,rfl,wB,wA,sV,q⟩:=q1;obtain ⟨u1,u2,rfl,E3,E2⟩:=vals2 r1;cases E3
 cases E2
 obtain ⟨ia,ra,pa,za⟩:=I1.list wB;obtain ⟨ib,rb,pb,zb⟩:=I1.list wA;have la:=ra.length;have lb:=rb.length;have yM:a<s1.heap.objs.size:=by obtain ⟨_,e,_⟩:=pa.isList;exact ZM e
 have yL:b<s1.heap.objs.size:=by obtain ⟨_,e,_⟩:=pb.isList;exact ZM e
 have ne:∀ {j k:Nat},j≠k->s1.heap.objs.size+j≠s1.heap.objs.size+k:=λh z=>h (zed z);have nl:∀ {c:Addr} (k:Nat),c<s1.heap.objs.size->c≠s1.heap.objs.size+k:=λk l=>Z1 (ZY l (zaz _ _));have D:ZipApart (s1.heap.objs.size+4) (s1.heap.objs.size+2) (s1.heap.objs.size+3) s1.heap.objs.size (s1.heap.objs.size+1) a b:=
  ⟨ne (by decide),ne (by decide),ne (j:=0) (by decide),ne (by decide),ne (by decide),ne (k:=0) (by decide),ne (by decide),ne (k:=0) (by decide),ne (by decide),ne (j:=0) (by decide),nl _ yM,nl _ yM,nl 0 yM,nl _ yM,nl _ yL,nl _ yL,nl 0 yL,nl _ yL⟩
 refine call_zip_2 pa.isList pb.isList λh' hz um xE h1 h2 hsz hk=>?_;refine zds ?_;have I2:Inv X pins σ H1 { s1 with heap:=h' }:=I1.kept (t':=s1.toks) λc o e=>hk c o e;obtain ⟨WT,Te,Wb,_⟩:=I2.list wB;obtain ⟨WS,Td,Wa,_⟩:=I2.list wA;have Ze:=Te.length;have Zd:=Td.length;refine qj (s:={ s1 with heap:=h' }) (xs:=WT.toArray) (ys:=WS.toArray) (I2.ok.hd hc) D (by simp only [Z8];omega) (by simp only [Z8];omega) hz ⟨_,_,xE⟩ um h1 h2 Wb.isList Wa.isList λh3 tk acc c as Uq hS hl hG aY=>?_;have Ul:as.length=xs.length:=by rw [hl,Z8];omega
 have Xe:as.Nodup:=hG.rise.imp (λe=>Z1 e);have jY:∀ x,h'.objs.size<=x->H1 x=none:=λx hx=>I2.aZ.fresh hx;have HL:∀ x∈as,h'.objs.size+1<=x:=hG.above;have UN:h'.objs.size∉as:=λhm=>absurd (HL _ hm) (Nat.not_le.mpr (zbO _));have MV:∀ x u,H1 x=some u->x∉as/\x≠h'.objs.size:=λx u e=>by
  constructor
  ·intro hm;have e2:=jY x (zeu (HL x hm));rw [e] at e2;cases e2
  ·intro hm;have e2:=jY x (Nat.le_of_eq hm.symm);rw [e] at e2;cases e2
 have Gd:∀ (j:Nat) (x:Addr),as[j]?=some x->∃ v w v' w',xs[j]?=some v/\ys[j]?=some w/\RelV v v'/\RelV w w'/\IsPair h3 x v' w':=λj x hj=>by
  obtain ⟨v',w',e1,e2,e3⟩:=hG.pairs j x hj;have Us:j<xs.length:=by have:=(ZL.mp hj).1;omega
  obtain ⟨u1,f1,g1⟩:=Te.get (show xs[j]?=some xs[j] by simp [Us]);obtain ⟨u2,f2,g2⟩:=Td.get (show ys[j]?=some (ys[j]'(by omega)) by simp [show j<ys.length by omega]);rw [getElem?_toArray] at e1 e2;rw [e1] at f1;rw [e2] at f2;cases f1
  cases f2
  exact ⟨_,_,v',w',by simp [Us],by simp [show j<ys.length by omega],g1,g2,e3⟩
 have UO:∀ (j:Nat) (x:Addr) (v w:V),as[j]?=some x->xs[j]?=some v->ys[j]?=some w->upd (n9 as (xs.zip ys) H1) h'.objs.size (.lst (as.map V.ref)) x=some (.tup [v,w]):=λj x v w hj hv hw=>by
  have nx:x≠h'.objs.size:=λe=>UN (by rw [<-e];exact ZX hj);rw [aq nx];exact yN (p:=(v,w)) Xe hj (by rw [getElem?_zip_eq_some];exact ⟨hv,hw⟩)
 have tF:∀ x u,H1 x=some u->upd (n9 as (xs.zip ys) H1) h'.objs.size (.lst (as.map V.ref)) x=some u:=λx u e=>by
  obtain ⟨e1,e2⟩:=MV x u e;rw [aq e2,n8 e1];exact e
 have I3:Inv X pins σ (upd (n9 as (xs.zip ys) H1) h'.objs.size (.lst (as.map V.ref))) { s1 with heap:=h3,toks:=tk }:=by
  refine Inv.QL (s:={ s1 with heap:=h' }) (ch:=[s1.heap.objs.size+4,s1.heap.objs.size+3,s1.heap.objs.size,s1.heap.objs.size+1]) I2 (λb u hb e=>Uq b u hb e) (λc hc=>?_) tF λx u e n=>?_
  ·have le:s1.heap.objs.size<=c:=by
    simp only [zaZ,zat,zba] at hc;rcases hc with rfl|rfl|rfl|rfl
    ·exact zaz _ _
    ·exact zaz _ _
    ·exact ZQ _
    ·exact zaz _ _
   exact I1.qg le (I1.aZ.fresh le)
  ·by_cases hx:x=h'.objs.size
   ·subst hx;rw [ae] at e;cases e
    refine ⟨ZQ _,show aW X.prog X.w _ h3 _ (.lst (as.map V.ref)) from ⟨by rw [ZK,Ul];exact za,as.map Value.ref,c,qC as,?_⟩⟩;rw [<-aY,Array.toArray_toList];exact hS
   ·by_cases hm:x∈as
    ·obtain ⟨j,hj⟩:=zcE.mp hm;obtain ⟨v,w,v',w',e1,e2,g1,g2,hP⟩:=Gd j x hj;rw [UO j x v w hj e1 e2] at e;cases e
     exact ⟨zeu (HL x hm),by simp only [zbg,zcM];rw [zbf];decide,[v',w'],.cons g1 (.cons g2 .nil),⟨_,hP,rfl,_,rfl⟩⟩
    ·rw [aq hx,n8 hm,n] at e;cases e
 refine ⟨.ref h'.objs.size,_,I3,rfl,q _ as _ (λx u e=>tF x u e) (jY _ (ZQ _)) ae Ul λj x hj=>?_⟩;obtain ⟨v,w,v',w',e1,e2,g1,g2,hP⟩:=Gd j x hj;have hm:=ZX hj;exact ⟨jY x (zeu (HL x hm)),λe=>UN (e▸hm),v,w,e1,e2,UO j x v w hj e1 e2⟩
end L2
namespace Gm
open PySem L2
theorem PR.mk {H:Hp}:∀ {ps:XL} {T:List (Int×Int)},ps.length=T.length->(∀ (j:Nat) (a:Addr) (d:Int×Int),ps[j]?=some a->T[j]?=some d->H a=some (.tup [.int d.1,.int d.2]))->PR H ps T
 | [],[],_,_=>.nil
 | [],_::_,h,_=>by simp at h
 | _::_,[],h,_=>by simp at h
 | a::ps,d::T,h,f=>.cons (f 0 a d rfl rfl) (PR.mk (by simpa using h) λj b e h1 h2=>f (j+1) b e (by simpa using h1) (by simpa using h2))
theorem E5 (h:j<r.length):(du r 1)[j]?=some (cy r (j+1)):=by
 have hl:(du r 1).length=r.length:=dX (by omega);have e1:cy (du r 1) j=(du r 1)[j]'(by omega):=oP (by omega);by_cases h1:1<r.length
 ·rw [lh h1] at e1;rw [e1];exact ZJ _
 ·have e2:r.length=1:=by omega
  have e3:j=0:=by omega
  subst e3
  match r,e2 with
  | [x],_=>unfold du cy;simp
theorem NX (h:j<r.length):r[j]?=some (cy r j):=by
 rw [oP h];exact ZJ _
theorem nD {a:Addr} {i n:Nat} {m:Int} {r:Wp} (h1:σ[i]?=some (some (.ref a))) (hs:aH K H a (r.map V.int)) (hn:n<=r.length) (q:∀ p,H p=none->Q (.ref p) (upd H p (.lst ((r.drop n).map V.int)))) (hm:m=(n:Int):=by rfl) :
  K2 (wV K) (jG i) (qF (tC (.int m))) iX σ H Q:=by
 subst hm;exact ⟨_,h1,⟨_,rfl,⟨a,_,rfl,hs,λp hp=>by rw [vT hn];exact q p hp⟩⟩⟩
theorem Cv {a:Addr} {i n:Nat} {m:Int} {r:Wp} (h1:σ[i]?=some (some (.ref a))) (hs:aH K H a (r.map V.int)) (hn:n<=r.length) (q:∀ p,H p=none->Q (.ref p) (upd H p (.lst ((r.take n).map V.int)))) (hm:m=(n:Int):=by rfl) :
  K2 (wV K) (jG i) iX (qF (tC (.int m))) σ H Q:=by
 subst hm;exact ⟨_,h1,⟨_,rfl,⟨a,_,rfl,hs,λp hp=>by rw [vS hn];exact q p hp⟩⟩⟩
theorem Ah (h:ta σ H λvs H1=>∃ a b xs ys,vs=[.ref a,.ref b]/\aH K H1 a xs/\aH K H1 b ys/\xs.length=ys.length/\
  ∀ (l:Addr) (as:XL) (H2:Hp),ao H1 H2->H1 l=none->H2 l=some (.lst (as.map V.ref))->as.length=xs.length->
   (∀ (j:Nat) (a:Addr),as[j]?=some a->H1 a=none/\a≠l/\∃ x y,xs[j]?=some x/\ys[j]?=some y/\H2 a=some (.tup [x,y]))->Q (.ref l) H2):uA K ta σ H Q:=h
end Gm
namespace L2
open PySem PySem.Spec PySem.W PySem.Calls PyProof.Rows
def Fh (K:Frag):R2:=λx y H Q=>∃ (p l:Addr) (d:Int×Int) (ps:XL) (T:List (Int×Int)),x=.ref p/\y=.ref l/\H p=some (.tup [.int d.1,.int d.2])/\H l=some (.lst (ps.map V.ref))/\Gm.PR H ps T/\Q (.bl (!decide (d∈T))) H
theorem Ap (hu:X.A.units+64<cLine):me X (compareOp .NotIn) (Fh X.K):=by
 intro pins s σ H x y v u Q I rx ry h;obtain ⟨p,l,d,ps,T,rfl,rfl,hp,hl,pr,q⟩:=h;cases rx
 cases ry
 obtain ⟨z,aJ,n,r,_,e⟩:=I.vd hl;obtain ⟨z2,ip,rp,op,Rf,hc,n2,hd⟩:=(show aW X.prog X.w H s.heap p (.tup [.int d.1,.int d.2]) from I.aZ p _ hp);obtain ⟨u1,u2,rfl,⟨t1,rfl⟩,⟨t2,rfl⟩⟩:=vals2 rp;have tp:s.heap.IsTuple p #[.int d.1 t1,.int d.2 t2]:=⟨op,Rf,hc,n2,hd⟩;let ev:Value->Bool:=λv=>match v with | .ref b=>@decide (H b=some (.tup [.int d.1,.int d.2])) (Classical.propDecidable _) | _=>false
 have key:∀ {ps:XL} {T:List (Int×Int)} {aJ:XV},Gm.PR H ps T->Vals (ps.map V.ref) aJ->aJ.any ev=decide (d∈T)/\∀ y∈aJ,SeqAt.EqAt X.A.in1 s y (.ref p) (ev y):=by
  intro ps T aJ pr
  induction pr generalizing aJ with
  | nil=>intro rv;cases rv;exact ⟨rfl,λy hy=>by cases hy⟩
  | @cons b x ps T hb _ ih=>
   intro rv;cases rv with
   | @cons _ u _ us ru rv=>
    cases ru
    obtain ⟨i1,i2⟩:=ih rv;have eb:ev (.ref b)=decide (x=d):=by
     show @decide (H b=some (.tup [.int d.1,.int d.2])) (Classical.propDecidable _)=_;by_cases q:x=d
     ·subst q;rw [@zad _ (Classical.propDecidable _) hb,zad rfl]
     ·refine (@zah _ (Classical.propDecidable _) ?_).trans (zah q).symm;intro w;rw [hb] at w;injection w with w;injection w with w;injection w with w1 w2;injection w1 with w1;injection w2 with w2 _;injection w2 with w2;exact q (zcC w1 w2)
    refine ⟨?_,λy hy=>?_⟩
    ·rw [any_cons,i1,eb];by_cases q:x=d
     ·subst q;simp
     ·have q2:¬d=x:=λw=>q w.symm;simp [q,q2]
    ·rcases zas.mp hy with w|w
     ·subst w;rw [eb];by_cases UH:b=p
      ·subst UH;have:x=d:=by
        rw [hb] at hp;injection hp with w;injection w with w;injection w with w1 w2;injection w1 with w1;injection w2 with w2 _;injection w2 with w2;exact zcC w1 w2
       rw [zad this];exact SeqAt.EqAt.same _
      ·obtain ⟨_,ib,rb,ob,M4,Bz,n3,hd2⟩:=(show aW X.prog X.w H s.heap b (.tup [.int x.1,.int x.2]) from I.aZ b _ hb);obtain ⟨w1,w2,rfl,⟨t3,rfl⟩,⟨t4,rfl⟩⟩:=vals2 rb;have tb:s.heap.IsTuple b #[.int x.1 t3,.int x.2 t4]:=⟨ob,M4,Bz,n3,hd2⟩;have rc:=SeqAt.RcAt.tuples (A:=X.A.in1) (e:=λj=>if j=0 then x.1==d.1 else x.2==d.2) tb tp (by simp only [zcy];omega) (λj h1 h2=>by
        have hj:j=0\/j=1:=by
         have:j<2:=h1;omega
        rcases hj with rfl|rfl
        ·exact SeqAt.EqAt.int_int x.1 t3 d.1 t1
        ·exact SeqAt.EqAt.int_int x.2 t4 d.2 t2)
       have ee:((List.range (min 2 2)).all (λj=>if j=0 then x.1==d.1 else x.2==d.2)&&(2:Nat)==2)=decide (x=d):=by
        have e:(List.range (min 2 2)).all (λj=>if j=0 then x.1==d.1 else x.2==d.2)=((x.1==d.1)&&(x.2==d.2)):=by
         rw [show List.range (min 2 2)=[0,1] from rfl];simp
        rw [e];by_cases h1:x.1=d.1
        ·by_cases h2:x.2=d.2
         ·rw [zad (zcC h1 h2)];simp [h1,h2]
         ·rw [zah (λw=>h2 (zaO Prod.snd w))];simp [h2]
        ·rw [zah (λw=>h1 (zaO Prod.fst w))];simp [h1]
       have VT:SeqAt.RcAt X.A.in1 s (.ref b) (.ref p) (decide (x=d)):=ee▸rc;exact SeqAt.EqAt.of_refs UH VT
     ·exact i2 y w
 obtain ⟨k1,k2⟩:=key pr r;refine SeqAt.notIn_listAt ev ⟨_,e,rfl,n,rfl⟩ (λy hy=>k2 y (by simpa using hy)) ⟨.bl (!decide (d∈T)),H,I,?_,q⟩;show Value.bool (!aJ.toArray.any ev)=Value.bool (!decide (d∈T));rw [<-k1];simp
theorem Ct {to ti:TE} {t:GP} {Q:St->Hp->Prop} (h:to σ H λo H1=>ti σ H1 λi H2=>t o i v H2 λH3=>Q σ H3):Nw to ti t v σ H Q:=h
theorem JL {n:Nat} {k:Int} (h0:0<=k) (h1:k<n):Es n k=some k.toNat:=by
 unfold Es;rw [ZW h0,ZW h1]
end L2
namespace Gm
open PySem L2
end Gm
namespace L2
open PySem PySem.Spec PySem.W PySem.Calls PyProof.Rows
def Qg (K:Frag):List V->Hp->VK->Prop:=λvs H Q=>∃ (a:Addr) (bs:List Bool),vs=[.ref a]/\aH K H a (bs.map V.bl)/\Q (.bl (bs.all id)) H
theorem rE:∀ {bs:List Bool} {aJ:XV},Vals (bs.map V.bl) aJ->aJ=bs.map Value.bool
 | [],_,h=>by cases h;rfl
 | b::bs,_,h=>by
  cases h with
  | @cons _ u _ us ru rv=>
   cases ru
   rw [rE rv]
   rfl
theorem all_range (bs:List Bool):((List.range bs.length).all λi=>bs.getD i false)=bs.all id:=by
 induction bs with
 | nil=>rfl
 | cons b bs ih=>
  rw [zbg,range_succ_eq_map,all_cons,all_map,all_cons]
  congr 1
theorem D6 (hc:X.calm=true):cR X (.builtin "all") (Qg X.K):=by
 intro pins s σ H xs us Q I r h;obtain ⟨a,bs,rfl,ha,q⟩:=h;obtain ⟨u,rfl,ru⟩:=vals1 r;cases ru
 obtain ⟨aJ,rv,pl,hz⟩:=I.list ha;obtain rfl:=rE rv;have ll:a<s.heap.objs.size:=by obtain ⟨_,e,_⟩:=pl.isList;exact ZM e
 refine call_all_walk (zcG pl.isList ?_);refine ⟨s.heap.objs.size,_,_,_,_,_,λi=>bs.getD i false,rfl,Walks.list (A:=X.A.in1) (I.ok.hd hc) s.heap.objs.size a (Z1 ll) (bs.map Value.bool).toArray,⟨⟨_,Z3 _ rfl,rfl,rfl⟩,pl.isList.at λo e=>ZN _ e⟩,λi v s' Q' E' hv hq=>?_,λh' tk hk=>?_⟩
 ·have MR:(bs.map Value.bool)[i]?=some v:=by simpa using hv
  rw [ZS] at MR;cases e:bs[i]? with
  | none=>rw [e] at MR;cases MR
  | some b=>
   rw [e] at MR;cases MR
   have:bs.getD i false=b:=by rw [ZP,e];rfl
   have W8:Q' b s':=by rw [<-this];exact hq
   exact zbs W8
 ·have ez:(bs.map Value.bool).toArray.size=bs.length:=by simp
  rw [ez,all_range];exact ⟨.bl (bs.all id),H,I.kept (t':=tk) λb o e=>hk b o (λz=>by
   have:b=s.heap.objs.size:=by simpa using z
   exact absurd (ZM e) (by rw [this];exact zam _)) (ZN _ e),rfl,q⟩
end L2
namespace Gm
open PySem L2
def lk (s:Wp->Nat) (R:Uf):Nat->List (dM×Int)
 | 0=>[]
 | k+1=>lk s R k++(sh (s (R.getD k [])) (R.getD k [])).map λd=>(d,(k:Int))
def lo (R:Uf) (d:dM):Int:=(R.findIdx λr=>decide (d∈sh 0 r):Nat)
end Gm
namespace L2
end L2
namespace Gm
open PySem L2
end Gm
namespace Gm
end Gm
namespace L2
open PySem
theorem sA (hK:X.K=K) {pos:Pos} {k:Nat} {t:EE} {n:Nat} (hc:X.calm=true) (h:Ob X es t)
  (hn:(assignEach es X.env).length=n:=by rfl) (JQ:(assignEach es X.env).findIdx? (·.1)=none:=by rfl):PG X (.Tuple es k pos) (Ki K n t):=by
 subst hK;exact kN hc h hn JQ
end L2
namespace L2
theorem wU (h:td σ H λx H1=>ty σ H1 λy H2=>∃ a v,x=.ref a/\pB H2 a y (some v)/\Q v H2):Hf td ty σ H Q:=h
end L2
namespace Gm
open PySem L2
inductive Pj (L:Uf) (S:Wp) (s:Int):Int->Prop where
 | here:Pj L S s s
 | step {i:Nat} {l:Wp} {x:Int}:Pj L S s i->L[i]?=some l->x∈l->x∉S->Pj L S s x
def LI (n:Nat):Wp:=(List.range n).map λi:Nat=>(i:Int)
def left (n:Nat) (S:Wp):Wp:=(LI n).filter λx=>!decide (x∈S)
open Classical in
noncomputable def rn (L:Uf) (S:Wp) (s:Int):Nat:=((LI L.length).filter λx=>decide (Pj L S s x)).length
def lp (v:Int) (p:Wp) (j:Nat):Int:=if j=0 then v else p.getD (j-1) v
end Gm
namespace PySem
namespace F
end F
end PySem
namespace L2
open PySem PySem.Spec PySem.W PySem.Calls PyProof.Rows
end L2
namespace Gm
open PySem L2
def sw (d:dM):dM:=(d.2,d.1)
def nm (ks:List (Int×Int)) (p:Int):Int:=(ks.lookup p).getD 0
abbrev Wait:=Int×Int×Int
end Gm
namespace L2
open PySem PySem.Spec PySem.W PySem.Calls PyProof.Rows Gm
theorem tI {k:Nat} {y:Int} (h:xs[k]?=some y):(y::xs.eraseIdx k).Perm xs:=by
 obtain ⟨hl,e⟩:=ZL.mp h;rw [eraseIdx_eq_take_drop_succ];refine List.perm_middle.symm.trans ?_;rw [<-e,<-zbm hl,zdO]
theorem MM (h:(bj P w).is k u=true):RelV (kV k) u:=by
 rw [xg] at h;cases k with
 | inl i=>
  have h:Value.isInt i u=true:=h;cases u<;>simp_all [Value.isInt,kV,RelV]
 | inr x=>exact Value.isStrOf_shape h
theorem KV.key (h:KV kvs vs):∀ {i:Nat} {k:Key} {x:Value},vs[i]?=some (k,x)->∃ v,kvs[i]?=some (k,v):=by
 induction h with
 | nil=>intro i k x e;cases i<;>cases e
 | @cons p q kvs vs r t ih=>
  intro i k x e;cases i with
  | zero=>
   have e:q=(k,x):=by simpa using e
   subst e;obtain ⟨a,b⟩:=p;have:a=k:=r.1;exact ⟨b,by rw [<-this];rfl⟩
  | succ i=>exact ih (by simpa using e)
def Lp (d:Addr) (o:Obj) (kvs:List (Key×V)):It:=
 ⟨λi H=>H d=some (.iO o (.dK kvs))/\i<kvs.length,λi H x H'=>H'=H/\∃ k v,kvs[i]?=some (k,v)/\x=kV k,λi H=>H d=some (.iO o (.dK kvs))/\kvs.length<=i⟩
theorem zX {P:Program} {w:World} {K:Frag} {tg:Expr} {d it:Addr} {o:Obj} {kvs:List (Key×V)} {vs:List (Key×Value)} {ep:Nat} (kv:KV kvs vs) (ho:∀ h:Heap,h.get? d=some o->h.DictAt (bj P w) d vs ep) :
  Turn P w K tg (Lp d o kvs) [it] it (λi h=>h.IsKeyIter it d i vs.length ep) where
 mem:=by simp
 obj:=λi h st b hb=>by
  have e:b=it:=by simpa using hb
  subst e;obtain ⟨o,e,c,d⟩:=st;exact ⟨o,e,λv z=>by rw [d] at z;cases z⟩
 keep:=λi h h' st k=>st.at λo e=>k it (by simp) o e
 item:=by
  intro X hP hw hK hc i pins s σ H E I hf st hg;subst hP hw hK;obtain ⟨hd,hi⟩:=hg;have hl:=kv.length;obtain ⟨e1,_⟩:=(show aW X.prog X.w H s.heap d (.iO o (.dK kvs)) from I.aZ d _ hd);obtain ⟨f0,f1,f2,f3,f4,f5⟩:=hf it (by simp);obtain ⟨⟨k,x⟩,hx⟩:∃ p,vs[i]?=some p:=⟨vs[i]'(by omega),by simp [show i<vs.length by omega]⟩;refine wpAny_pyNext_dict_item st (ho _ e1) hx λkey h' JW jH sb=>?_;have I1:Inv X pins σ H { s with heap:=h' }:=I.turned (t':=s.toks) (λb o hb e=>(sb.2 b hb).trans e) f0 f1 f3 f4 f5;obtain ⟨o',e',c',d'⟩:=id jH;obtain ⟨v,hv⟩:=kv.key hx;exact ⟨key,rfl,y4 (s:={ s with heap:=h' }) e' c' d' (by decide) ⟨kV k,H,I1,MM JW,⟨rfl,k,v,hv,rfl⟩,jH,λb hb=>(hf b hb).1⟩⟩
 done:=by
  intro X hP hw hK hc i pins s σ H E I hf st hg;subst hP hw hK;obtain ⟨hd,hi⟩:=hg;have hl:=kv.length;obtain ⟨e1,_⟩:=(show aW X.prog X.w H s.heap d (.iO o (.dK kvs)) from I.aZ d _ hd);obtain ⟨f0,f1,f2,f3,f4,f5⟩:=hf it (by simp);exact wpAny_pyNext_dict_end (I.ok.hd hc) st (ho _ e1) (by rw [zdM];omega) λh' eb=>⟨rfl,I.turned (t':=s.toks) (λb o hb e=>eb b o hb e) f0 f1 f3 f4 f5⟩
 self:=λ_ _ _ _ _ st h=>wpAny_pyIter_keyiter st h
def HE (tl:TE):TI:=λσ H R=>tl σ H λx H1=>∃ a kvs,x=.ref a/\H1 a=some (.dK kvs)/\∀ o,R (Lp a o kvs) (upd H1 a (.iO o (.dK kvs)))
theorem Fy (hl:PE X l tl):PI X tg l (HE tl):=by
 intro pins s σ H R I h;refine cA (hl pins s σ H _ I h) λv s1 ⟨x,H1,I1,r1,q1⟩=>?_;obtain ⟨a,kvs,e,hq,q⟩:=q1;subst e;cases r1
 obtain ⟨hz,hs,vs,kv,o,es,ep,e1,rest⟩:=HX I1.aZ hq;have at_:∀ h:Heap,h.get? a=some o->h.DictAt (bj X.prog X.w) a vs ep:=λh e=>⟨o,es,e,rest⟩;refine wpAny_pyIter_dict hs (at_ _ e1) ?_;generalize Nh:s1.heap.push { cls:=Value.type "dict_keyiterator",data:=Data.fields #[Value.ref a,Value.int 0 0,Value.int vs.length 0,Value.int ep 0] }=h';have kp:∀ c o,s1.heap.get? c=some o->h'.get? c=some o:=λc o e=>Nh▸ZN _ e;have I2:Inv X pins σ (upd H1 a (.iO o (.dK kvs))) { s1 with heap:=h',toks:=s1.toks }:=
  Inv.write (e:=a) (t':=s1.toks) I1 (by rw [hq];trivial) (.inl rfl) (λb u _ e=>kp b u e) ⟨o,kp _ _ e1⟩ ⟨kp _ _ e1,hz,hs,vs,kv,o,es,ep,kp _ _ e1,rest⟩
 refine ⟨s1.heap.objs.size,[s1.heap.objs.size],_,_,_,rfl,I2,zX kv at_,⟨_,Nh▸Z3 _ rfl,rfl,rfl⟩,λb hb=>?_,q o⟩;have e:b=s1.heap.objs.size:=by simpa using hb
 subst e;have ne:s1.heap.objs.size≠a:=λz=>zam _ (z▸ZM e1);have f:=I1.qg (ZQ _) (I1.aZ.fresh (ZQ _));exact ⟨(aq ne).trans f.1,f.2⟩
theorem DE {o:Obj} {g:TG} {tb:TS} {D:Ends} {σ:St} (Pv:Nat->St->Hp->Prop) (h0:Pv 0 σ H) (hl:∀ i σ H,i<=kvs.length->Pv i σ H->H d=some (.iO o (.dK kvs)))
  (hs:∀ i k v σ H,kvs[i]?=some (k,v)->Pv i σ H->g (kV k) σ H λσ2 H2=>tb { D with nx:=Pv (i+1),ct:=Pv (i+1),bk:=D.nx } σ2 H2) (hd:∀ σ H,Pv kvs.length σ H->D.nx σ H) :
  ∃ W:Nat->Nat->St->Hp->Prop,(∃ m,W 0 m σ H)/\∀ i m σ H,W i m σ H->
   ((Lp d o kvs).stop i H/\D.nx σ H)\/((Lp d o kvs).go i H/\∃ N:St->Hp->Prop,(∀ σ' H',N σ' H'->∃ m',m'<m/\W (i+1) m' σ' H')/\∀ x H',(Lp d o kvs).wx i H x H'->g x σ H' λσ2 H2=>tb { D with nx:=N,ct:=N,bk:=D.nx } σ2 H2):=by
 refine ⟨λi m σ H=>m=kvs.length-i/\i<=kvs.length/\Pv i σ H,⟨kvs.length,by simp,Z7 _,h0⟩,?_⟩;rintro i m σ H ⟨rfl,hi,p⟩;have q:=hl i σ H hi p;by_cases dI:i<kvs.length
 ·refine .inr ⟨⟨q,dI⟩,Pv (i+1),λσ' H' p'=>⟨kvs.length-(i+1),by omega,rfl,dI,p'⟩,λx H' y=>?_⟩;obtain ⟨e,k,v,hk,rfl⟩:=y;subst e;exact hs i k v σ _ hk p
 ·have e:i=kvs.length:=by omega
  subst e;exact .inl ⟨⟨q,ZQ _⟩,hd σ H p⟩
end L2
namespace Gm
open PySem L2
theorem iD (Pv:St->Hp->Prop) (hb:∀ σ' H',Pv σ' H'->b D σ' H') (ha:∀ T:St->Hp->Prop,(∀ σ' H',Pv σ' H'->T σ' H')->a { D with nx:=T } σ H):IE a b D σ H:=ha _ hb
theorem bM (h:t σ H λx H1=>∃ a,x=.ref a/\(∃ xs,aH K H1 a xs)/\R (GV K a) H1):yU K t σ H R:=h
end Gm
namespace L2
open PySem PySem.Spec PySem.W PySem.Calls PyProof.Rows HT
end L2
namespace Gm
open PySem L2
end Gm
namespace L2
open PySem PySem.Spec PySem.W PySem.Calls PyProof.Rows Gm Fr
theorem Ff (h:tl σ H λx H1=>∃ a kvs,x=.ref a/\H1 a=some (.dK kvs)/\∀ o,R (Lp a o kvs) (upd H1 a (.iO o (.dK kvs)))):HE tl σ H R:=h
end L2
namespace Gm
open PySem L2
end Gm
namespace Dt
def sm:Nat->(Nat->Int)->Int
 | 0,_=>0
 | n+1,f=>sm n f+f n
def sg:Nat->Int
 | 0=>1
 | n+1=>- sg n
def sk (j l:Nat):Nat:=if l<j then l else l+1
abbrev Mx:=Nat->Nat->Int
def mi (A:Mx) (j:Nat):Mx:=λi l=>A (i+1) (sk j l)
def det:Nat->Mx->Int
 | 0,_=>1
 | n+1,A=>sm (n+1) λj=>sg j*A 0 j*det n (mi A j)
def cl (A:Mx) (c:Nat) (v:Nat->Int):Mx:=λi j=>if j=c then v i else A i j
def dn (j c:Nat):Nat:=if c<j then c else c-1
def un (k i:Nat):Int:=if i=k then 1 else 0
def rl (A:Mx) (k:Nat) (v:Nat->Int):Mx:=λi j=>if i=k then v j else A i j
def sn:Nat->(Nat->Nat)->Nat
 | 0,_=>0
 | n+1,f=>sn n f+f n
theorem great (u:Nat->Int):∀ {n:Nat},0<n->∃ m,m<n/\∀ l,l<n->(u l).natAbs<=(u m).natAbs
 | 1,_=>⟨0,by omega,λl hl=>by rw [show l=0 by omega];exact ZQ _⟩
 | n+2,_=>by
  obtain ⟨m,hm,h⟩:=great u (n:=n+1) (by omega);by_cases z:(u m).natAbs<=(u (n+1)).natAbs
  ·exact ⟨n+1,by omega,λl hl=>by
    by_cases y:l=n+1
    ·rw [y];exact ZQ _
    ·exact zag (h l (by omega)) z⟩
  ·exact ⟨m,by omega,λl hl=>by
    by_cases y:l=n+1
    ·rw [y];omega
    ·exact h l (by omega)⟩
def mx (L:Uf):Mx:=λi j=>(L.getD i []).getD j 0
theorem getD_none {l:Wp} {j:Nat} (h:l.length<=j):l.getD j 0=0:=by
 rw [ZP,zdM h]
 rfl
end Dt
namespace Gm
open PySem L2
theorem rm {k:Nat} (h:k<=xs.length):qh xs none (some (k:Int))=xs.take k:=by
 unfold qh HT.ui;dsimp only;rw [ZU (by omega),show min ((k:Int).toNat) xs.length=k by omega,drop_zero,Nat.sub_zero]
theorem Fb (h1:σ[i]?=some (some (.ref a))) (h2:σ[k]?=some (some (.int (n:Int)))) (hs:aH K H a xs) (hn:n<=xs.length) (q:∀ p,H p=none->Q (.ref p) (upd H p (.lst (xs.take n)))) :
  K2 (wV K) (jG i) iX (qF (jG k)) σ H Q:=⟨_,h1,⟨_,h2,⟨_,rfl,⟨a,_,rfl,hs,λp hp=>by rw [rm hn];exact q p hp⟩⟩⟩⟩
theorem int_at {l:Wp} {i:Nat} {x:V} (h:(l.map V.int)[i]?=some x):∃ y,l[i]?=some y/\x=V.int y:=by
 rw [ZS] at h;cases e:l[i]? with
 | none=>rw [e] at h;cases h
 | some z=>rw [e] at h;exact ⟨z,rfl,(ZO h).symm⟩
structure Fq (z:Nat) (fs:List (Int×Int)):Prop where
 pos:∀ f∈fs,0<f.2
 top:∀ f∈fs,Sz z f.1
 bot:∀ f∈fs,Sz z f.2
structure Wh (fs:List (Int×Int)) (b:Int) (l:Wp):Prop where
 pos:0<b
 len:l.length=fs.length
 eq:∀ (i:Nat) (f:Int×Int) (x:Int),fs[i]?=some f->l[i]?=some x->x*f.2=f.1*b
theorem vh (hb:0<b) (hu:0<u):0<b / ((Int.gcd b u:Nat):Int)*u/\b ∣ b / ((Int.gcd b u:Nat):Int)*u/\u ∣ b / ((Int.gcd b u:Nat):Int)*u/\(b / ((Int.gcd b u:Nat):Int)*u).natAbs<=b.natAbs*u.natAbs:=by
 have g0:=Fr.i6 b (show u≠0 by omega);obtain ⟨x,hx⟩:=Fr.k8 b u;obtain ⟨y,hy⟩:=Fr.k7 b u;have g1:0<((Int.gcd b u:Nat):Int):=by omega
 generalize ((Int.gcd b u:Nat):Int)=g at *;have e:b / g=x:=by rw [hx];exact zbx _ (by omega)
 have x0:0<x:=by
  by_cases z:0<x
  ·exact z
  ·have:=zap (show 0<=g by omega) (show x<=0 by omega);omega
 rw [e];refine ⟨zar x0 hu,⟨y,?_⟩,⟨x,Int.mul_comm _ _⟩,?_⟩
 ·rw [hy];have:g*x*y=x*(g*y):=by grind
  rw [hx,this]
 ·rw [zbF];refine zdW _ ?_;have:b.natAbs=g.natAbs*x.natAbs:=by rw [<-zbF,<-hx]
  rw [this];exact zbZ _ (by omega)
end Gm
namespace Dt
open Fr Gm
def qt (f:Int×Int):Rat:=(f.1:Rat) / (f.2:Rat)
theorem HC {u:Int} (h:u≠0):(u:Rat)≠0:=λz=>h (Rat.intCast_inj.mp z)
theorem C6 (he:0<e) (hg:Int.gcd o e=1) (hu:0<u) (hc:Int.gcd t u=1) (h1:t*e=o*u):t=o/\u=e:=by
 have d1:u.natAbs ∣ e.natAbs:=by
  have:u ∣ t*e:=⟨o,by rw [h1,Int.mul_comm]⟩;have:=Int.natAbs_dvd_natAbs.mpr this;rw [zbF] at this;exact zdG (show Nat.gcd u.natAbs t.natAbs=1 by rw [Nat.gcd_comm];exact hc) this
 have d2:e.natAbs ∣ u.natAbs:=by
  have:e ∣ o*u:=⟨t,by rw [<-h1,Int.mul_comm]⟩;have:=Int.natAbs_dvd_natAbs.mpr this;rw [zbF] at this;exact zdG (show Nat.gcd e.natAbs o.natAbs=1 by rw [Nat.gcd_comm];exact hg) this
 have e1:=Nat.dvd_antisymm d1 d2;have e2:u=e:=by omega
 subst e2;exact ⟨zbH (by omega) h1,rfl⟩
def Lw (f:Int×Int):Prop:=0<f.2/\Int.gcd f.1 f.2=1
theorem Jc (hf:Lw f) (hg:Lw g) (h:qt f=qt g):f=g:=by
 obtain ⟨t,u⟩:=f;obtain ⟨o,e⟩:=g;have h1:=HC (show u≠0 by have:0<u:=hf.1;omega);have h2:=HC (show e≠0 by have:0<e:=hg.1;omega);have h3:(t:Rat) / (u:Rat)=(o:Rat) / (e:Rat):=h;have h4:((t*e:Int):Rat)=((o*u:Int):Rat):=by
  rw [zdY,zdY];grind
 obtain ⟨rfl,rfl⟩:=C6 hg.1 hg.2 hf.1 hf.2 (Rat.intCast_inj.mp h4)
 rfl
def sq:Nat->(Nat->Rat)->Rat
 | 0,_=>0
 | n+1,f=>sq n f+f n
def fa (fs:List (Int×Int)) (j:Nat):Rat:=qt (fs.getD j (0,1))
def cK (n:Nat) (R:List (List (Int×Int))) (gs xs:List (Int×Int)):Prop:=∀ (i:Nat) (fs:List (Int×Int)) (g:Int×Int),R[i]?=some fs->gs[i]?=some g->sq n (λj=>fa fs j*fa xs j)=qt g
def ab (f:Int×Int):Int×Int:=((f.1.natAbs:Int),f.2)
end Dt
namespace L2
open PySem PySem.Spec PySem.W PySem.Calls PyProof.Rows Gm
section
variable {σ:St} {H:Hp} {Q:VK} {K:Frag}
theorem Ba {R:Hp->Prop} {acc a:Addr} {xs:List V} {g:TG} {tt:TT} {te:TE} (Pv:Nat->St->List V->Hp->Prop) (h0:Pv 0 σ [] H) (hl:∀ i σ ys H,i<=xs.length->Pv i σ ys H->aH K H a xs)
  (hs:∀ i x p σ ys H,xs[i]?=some x->i<xs.length->Pv i σ ys H->H p=none->g (.ref p) σ (upd H p (.tup [.int i,x])) λσ2 H4=>tt σ2 H4 λb H5=>if b=true then te σ2 H5 λy H6=>H6 acc=some (.lst ys)/\ys.length<sizeLine/\∃ m',m'<xs.length-i/\(m'=xs.length-(i+1)/\i+1<=xs.length/\Pv (i+1) σ2 (ys++[y]) (upd H6 acc (.lst (ys++[y])))) else ∃ m',m'<xs.length-i/\(m'=xs.length-(i+1)/\i+1<=xs.length/\Pv (i+1) σ2 ys H5))
  (hd:∀ σ ys H,Pv xs.length σ ys H->R H) :
  ∃ W:Nat->Nat->St->List V->Hp->Prop,(∃ m,W 0 m σ [] H)/\∀ i m σ' ys H2,W i m σ' ys H2->(((Ic K a).stop i H2/\R H2)\/((Ic K a).go i H2/\∀ v H3,(Ic K a).wx i H2 v H3->g v σ' H3 λσ2 H4=>tt σ2 H4 λb H5=>
   if b=true then te σ2 H5 λy H6=>H6 acc=some (.lst ys)/\ys.length<sizeLine/\∃ m',m'<m/\W (i+1) m' σ2 (ys++[y]) (upd H6 acc (.lst (ys++[y]))) else ∃ m',m'<m/\W (i+1) m' σ2 ys H5)):=by
 refine ⟨λi m σ ys H=>m=xs.length-i/\i<=xs.length/\Pv i σ ys H,⟨xs.length,by simp,Z7 _,h0⟩,?_⟩;rintro i m σ ys H ⟨rfl,hi,p⟩;have q:=hl i σ ys H hi p;by_cases dI:i<xs.length
 ·refine .inr ⟨⟨xs,xs[i],q,by simp [dI]⟩,λv H' y=>?_⟩;obtain ⟨r,y,hr,rfl,hy,rfl⟩:=y;exact hs i y r σ ys H (hy xs q) dI p hr
 ·have e:i=xs.length:=by omega
  subst e;exact .inl ⟨⟨xs,q,ZQ _⟩,hd σ ys H p⟩
end
end L2
namespace Gm
open PySem L2
def jl (s:List Nat):List (List Nat)->List Nat
 | []=>[]
 | [a]=>a
 | a::b::r=>a++s++jl s (b::r)
abbrev t0:Str:=(("" : String):Str)
def mn (l:Wp):Int:=l.min?.getD 0
def lb (l:Wp):Wp:=du l (l.idxOf (mn l))
end Gm
namespace L2
open PySem PySem.Spec PySem.W PySem.Calls PyProof.Rows Gm
theorem KJ:bootBuiltins "all"=some (.builtin "all"):=by decide +kernel
end L2
namespace Dt
open PySem L2 Fr Gm
def pd:List (Int×Int)->Nat
 | []=>1
 | f::r=>f.2.natAbs*pd r
theorem dw:∀ (a b:List (Int×Int)),pd (a++b)=pd a*pd b
 | [],b=>by show pd b=1*pd b;omega
 | f::a,b=>by
  show f.2.natAbs*pd (a++b)=f.2.natAbs*pd a*pd b;rw [dw a b,Nat.mul_assoc]
theorem iF (f:Int×Int):pd [f]=f.2.natAbs:=by show f.2.natAbs*1=_;omega
end Dt
namespace L2
open PySem PySem.Spec PySem.W PySem.Calls PyProof.Rows Gm
end L2
namespace PySem
namespace F
end F
end PySem
namespace L2
open PySem PySem.Spec PySem.W PySem.Calls PyProof.Rows Gm
end L2
namespace L2
open PySem PySem.Spec PySem.W PySem.Calls PyProof.Rows HT
end L2
namespace L2
open PySem PySem.Spec PySem.W PySem.Calls PyProof.Rows Gm
theorem Inv.PH {σ:St} {s:Shared} {o:Obj} {u:HO} (I:Inv X pins σ H s) (hf:H d=some (.iO o u)) (nt:∀ xs,u≠.tup xs) (no:∀ x,u≠.own x) (h0:∀ o' u',X.H₀ d≠some (.iO o' u')):Inv X pins σ (upd H d u) s:=by
 have nd:∀ {b:Addr},H b=none->b≠d:=λ{b} e z=>by rw [z,hf] at e;cases e
 have ok:hX X.prog X.w (upd H d u) s.heap:=λb v e=>by
  have ts:∀ c xs,H c=some (.tup xs)->upd H d u c=some (.tup xs):=λc xs q=>by
   rw [aq (show c≠d from λz=>by rw [z,hf] at q;cases q)];exact q
  have os:∀ c x,H c=some (.own x)->upd H d u c=some (.own x):=λc x q=>by
   rw [aq (show c≠d from λz=>by rw [z,hf] at q;cases q)];exact q
  by_cases z:b=d
  ·subst z;rw [ae] at e;cases e
   obtain ⟨_,q⟩:=(show aW X.prog X.w H s.heap b (.iO o u) from I.aZ b _ hf);exact q.eB (λc v _ r=>r) (λc q=>os c _ q) ts
  ·rw [aq z] at e;exact (I.aZ b v e).eB (λc v _ r=>r) (λc q=>os c _ q) ts
 have bs:Un X.fs X.ex X.H₀ (upd H d u) X.s₀.heap s.heap:=by
  refine ⟨I.base.keep,I.base.slot,λb ob e n hx=>?_,I.base.there,λb xs e=>?_,λb ob v e=>?_,λb ps e=>?_⟩
  ·have:=I.base.free b ob e n hx;rw [aq (nd this)];exact this
  ·have:=I.base.lS b xs e;rw [aq (show b≠d from λz=>by rw [z,hf] at this;cases this)];exact this
  ·have:=I.base.lg b ob v e;rw [aq (show b≠d from λz=>h0 ob v (by rw [<-z];exact e))];exact this
  ·obtain ⟨m,this⟩:=I.base.kC b ps e;exact ⟨m,by rw [aq (show b≠d from λz=>by rw [z,hf] at this;cases this)];exact this⟩
 exact ⟨I.ok,I.os,I.bare,bs,I.loc,I.cell,by rw [aq (nd I.free)];exact I.free,λx c e=>by rw [aq (nd (I.dO x c e))];exact I.dO x c e,λp hp=>by
  obtain ⟨a1,a2,a3⟩:=I.pin p hp;exact ⟨a1,by rw [aq (nd a2)];exact a2,a3⟩,ok,I.len⟩
def Mr (K:Frag):List V->Hp->VK->Prop:=λvs H Q=>∃ (a:Addr) (ns:Wp),vs=[.ref a]/\aH K H a (ns.map V.int)/\ns≠[]/\∀ m,m∈ns->(∀ x∈ns,x<=m)->Q (.int m) H
theorem Bf (hc:X.calm=true):cR X (.builtin "max") (Mr X.K):=by
 intro pins s σ H xs us Q I r h;obtain ⟨a,ns,rfl,ha,h0,q⟩:=h;obtain ⟨u,rfl,ru⟩:=vals1 r;cases ru
 obtain ⟨aJ,rv,pl,hz⟩:=I.list ha;have hi:IntsAre aJ ns:=intsAre_of rv;obtain ⟨xs,e⟩:=hi.allInts.items;have lZ:ns=xs.toList.map (·.1):=by rw [<-hi.numsOf,<-nums_intItems,<-e]
 have hl:=pl.isList;rw [e] at hl;have h1:0<xs.size:=by
  have:=zbJ.mpr h0;rw [lZ,ZK,zaa] at this;exact this
 refine max_intList (I.ok.hd hc) hl h1 λv h' tk hv kk=>?_;obtain ⟨t,rfl⟩:=intItems_at hv;obtain ⟨g1,g2⟩:=argBest_gt (numAt xs) (xs.size-1);refine ⟨.int _,H,I.kept kk,⟨t,rfl⟩,q _ ?_ λx hx=>?_⟩
 ·rw [lZ,numAt_eq];exact getD_mem (by rw [ZK,zaa];omega)
 ·rw [lZ] at hx;obtain ⟨j,hj,rfl⟩:=mem_getD hx;rw [ZK,zaa] at hj;rw [<-numAt_eq];exact g2 j (by omega)
end L2
namespace L2
open PySem PySem.Spec PySem.W PySem.Calls PyProof.Rows
end L2
namespace iS
open PySem
def tX (xs:Array Nat):Prop:=∀ i j a b:Nat,xs[i]?=some a->xs[j]?=some b->i<j->a<b
theorem tH {xs:Array Nat} (hr:tX xs) (j:Nat):∀ (fuel lo hi:Nat),hi<=xs.size->lo<=hi->hi-lo<fuel+1->(∀ i a,xs[i]?=some a->i<lo->a<j)->(∀ i a,xs[i]?=some a->hi<=i->j<=a)->
  lo<=SetTable.below.go xs j fuel lo hi/\SetTable.below.go xs j fuel lo hi<=hi/\(∀ i a,xs[i]?=some a->i<SetTable.below.go xs j fuel lo hi->a<j)/\(∀ i a,xs[i]?=some a->SetTable.below.go xs j fuel lo hi<=i->j<=a)
 | 0,lo,hi,h1,h2,h3,h4,h5=>by
  have:lo=hi:=by omega
  subst this;exact ⟨ZQ _,ZQ _,h4,h5⟩
 | fuel+1,lo,hi,h1,h2,h3,h4,h5=>by
  unfold SetTable.below.go;by_cases c:lo<hi
  ·rw [ZW c];dsimp only;have ml:(lo+hi) / 2<xs.size:=by omega
   have em:xs[(lo+hi) / 2]?=some xs[(lo+hi) / 2]:=zbb ml;have eg:xs.getD ((lo+hi) / 2) j=xs[(lo+hi) / 2]:=by rw [zan,em];rfl
   rw [eg];by_cases d:xs[(lo+hi) / 2]<j
   ·rw [ZW d];obtain ⟨a1,a2,a3,a4⟩:=tH hr j fuel ((lo+hi) / 2+1) hi h1 (by omega) (by omega) (λi a By hl=>by
     by_cases e:i=(lo+hi) / 2
     ·subst e;rw [em] at By;injection By with By;omega
     ·have:=hr i _ a _ By em (by omega);omega) h5
    exact ⟨by omega,a2,a3,a4⟩
   ·rw [ZU d];obtain ⟨a1,a2,a3,a4⟩:=tH hr j fuel lo ((lo+hi) / 2) (by omega) (by omega) (by omega) h4 (λi a By hl=>by
     by_cases e:i=(lo+hi) / 2
     ·subst e;rw [em] at By;injection By with By;omega
     ·have:=hr _ i _ a em By (by omega);omega)
    exact ⟨a1,by omega,a3,a4⟩
  ·rw [ZU c];have:lo=hi:=by omega
   subst this;exact ⟨ZQ _,ZQ _,h4,h5⟩
theorem oX (hr:tX xs) (j:Nat):SetTable.below xs j<=xs.size/\(∀ i a,xs[i]?=some a->i<SetTable.below xs j->a<j)/\(∀ i a,xs[i]?=some a->SetTable.below xs j<=i->j<=a):=by
 unfold SetTable.below;obtain ⟨_,a2,a3,a4⟩:=tH hr j xs.size 0 xs.size (ZQ _) (Z7 _) (by omega) (λi a _ h=>absurd h (zdf _)) (λi a h hl=>by
  have:=(zbl.mp h).1;omega)
 exact ⟨a2,a3,a4⟩
theorem JN (hp:p<=xs.size) (x i:Nat):(SetTable.insertAt xs p x)[i]?=if i<p then xs[i]? else if i=p then some x else xs[i-1]?:=by
 unfold SetTable.insertAt;have e1:(xs.extract 0 p).size=p:=by rw [zep];omega
 by_cases h1:i<p
 ·rw [ZW h1,Array.getElem?_append_left (by rw [zcg,e1];omega),zec,ZU (by rw [e1];omega),Array.getElem?_extract];rw [ZW (by omega)]
  congr 1
  omega
 ·rw [ZU h1];by_cases h2:i=p
  ·subst h2;rw [ZW rfl,Array.getElem?_append_left (by rw [zcg,e1];omega),zec,ZW e1.symm]
  ·rw [ZU h2,Array.getElem?_append_right (by rw [zcg,e1];omega),zcg,e1,Array.getElem?_extract];by_cases h3:i-1<xs.size
   ·rw [ZW (by omega)]
    congr 1
    omega
   ·rw [ZU (by omega)];exact (zcA (by omega)).symm
theorem tX.put (hr:tX xs) (hn:xs[SetTable.below xs j]?≠some j):tX (SetTable.insertAt xs (SetTable.below xs j) j):=by
 obtain ⟨h1,h2,h3⟩:=oX hr j;have big:∀ i a,xs[i]?=some a->SetTable.below xs j<=i->j<a:=λi a hi hl=>by
  rcases Nat.lt_or_eq_of_le (h3 i a hi hl) with z|z
  ·exact z
  ·subst z;rcases Nat.lt_or_eq_of_le hl with y|y
   ·have il:=(zbl.mp hi).1;have e:xs[SetTable.below xs j]?=some xs[SetTable.below xs j]:=zbb (by omega);have:=hr _ _ _ _ e hi y;have:=h3 _ _ e (ZQ _);omega
   ·rw [<-y] at hi;exact absurd hi hn
 intro i k a b hi hk ik;rw [JN h1] at hi hk;by_cases c1:i<SetTable.below xs j
 ·rw [ZW c1] at hi;have la:=h2 i a hi c1;by_cases c2:k<SetTable.below xs j
  ·rw [ZW c2] at hk;exact hr i k a b hi hk ik
  ·rw [ZU c2] at hk;by_cases c3:k=SetTable.below xs j
   ·rw [ZW c3] at hk;injection hk with hk;omega
   ·rw [ZU c3] at hk;have:=big (k-1) b hk (by omega);omega
 ·rw [ZU c1] at hi;by_cases c3:i=SetTable.below xs j
  ·rw [ZW c3] at hi;injection hi with hi;rw [ZU (by omega),ZU (by omega)] at hk;have:=big (k-1) b hk (by omega);omega
  ·rw [ZU c3] at hi;rw [ZU (by omega),ZU (by omega)] at hk;exact hr (i-1) (k-1) a b hi hk (by omega)
structure Tb (led:Bool) (t:SetTable):Prop where
 rise:tX t.place
 dm:t.dummies=#[]
 ld:t.led=led
theorem Tb.fresh (led:Bool):Tb led (.fresh 0 0 led):=⟨λi j a b h=>by simp [SetTable.fresh] at h,rfl,rfl⟩
theorem has_none (j:Nat):SetTable.has #[] j=false:=rfl
theorem Tb.slot (h:Tb led t) (e:t.slot j=.empty):t.place[SetTable.below t.place j]?≠some j:=by
 intro z;unfold SetTable.slot at e;dsimp only at e;rw [ZW (by rw [z];exact zcW _)] at e;cases e
theorem Tb.yI (h:Tb led t) (j:Nat):t.slot j≠.dummy:=by
 intro e;unfold SetTable.slot at e;dsimp only at e;rw [h.dm,has_none] at e;split at e
 ·cases e
 ·rw [ZU (by decide)] at e;cases e
theorem Tb.put (h:Tb led t) (e:t.slot j=.empty):Tb led (t.put j).1:=by
 refine ⟨h.rise.put (h.slot e),?_,h.ld⟩;show (if SetTable.has t.dummies j=true then _ else t.dummies)=#[];rw [h.dm,has_none,ZU (by decide)]
theorem tX.live {owner:Nat->Option Nat} (n:Nat):tX ((((List.range n).filterMap λj=>(owner j).map (j,·)).map (·.1)).toArray):=by
 have pw:(((List.range n).filterMap λj=>(owner j).map (j,·)).map (·.1)).Pairwise (·<·):=by
  rw [zbY];refine List.Pairwise.filterMap _ ?_ (pairwise_lt_range (n:=n));intro a b ab c hc d hd;obtain ⟨u,_,rfl⟩:=zbc.mp hc;obtain ⟨v,_,rfl⟩:=zbc.mp hd;exact ab
 intro i j a b hi hj ij;rw [getElem?_toArray] at hi hj;obtain ⟨h1,h2⟩:=ZL.mp hi;obtain ⟨h3,h4⟩:=ZL.mp hj;rw [<-h2,<-h4];exact zaH.mp pw i j h1 h3 ij
theorem Tb.relaid (h:Tb led t) (e:t.relaid hs wanted=some (t',order)):Tb led t':=by
 unfold SetTable.relaid SetTable.laid at e;cases c:SetTable.layClean (SetTable.sizeAbove wanted-1) hs with
 | none=>rw [c] at e;cases e
 | some owner=>
  rw [c] at e;injection e with e;injection e with e1 e2;subst e1;exact ⟨tX.live (owner:=λj=>owner.getD j none) _,rfl,h.ld⟩
end iS
namespace iS
open PySem PySem.Spec PyProof.Rows
def vf (w:World):Bool:=!w.params.followText "set-order"
def pR (w:World):Obj:={ cls:=.type "set",dict:=none,data:=.set #[] 0 (.fresh 0 0 (vf w)) }
theorem MC (a:Value) (h:Q (.ref s.heap.objs.size) { s with heap:=s.heap.push (pR w) }) :
  codeAny (model prog w) A (.call (.builtin "set.__new__") ⟨[.type "set",a],[]⟩) (wants Q E) s:=by
 refine codeAny_of_tree ?_;show wpAny _ A.in1 (do checkBuiltinCall "set.__new__" ⟨[.type "set",a],[]⟩;again (.builtin "set.__new__" ⟨[.type "set",a],[]⟩)) _ _ s;refine rd (wpAny_of_eq (F.newCall_set_1 a) (ZR ⟨zbw F.plain_set_new _,zaP F.entry_set_new ?_⟩));rw [zaC F.plain_set_new _];unfold Builtin.«set.__new__» Builtin.Frozenset.newClass;have Q2:=sub_set_self;obtain ⟨hp,g,d,tk,os⟩:=s;dsimp only
 wp_walk
 refine wpAny_askSetting (ZR ?_);dsimp only;simp only [newObj];refine rd (wpAny_alloc (ZR ?_));exact ZR h
end iS
namespace iS
open PySem PySem.Spec
theorem tI {α:Type}:∀ {l:List α} {i:Nat} {x:α},l[i]?=some x->(x::l.eraseIdx i).Perm l
 | [],i,x,h=>by simp at h
 | y::l,0,x,h=>by
  injection h with h;subst h;exact .refl _
 | y::l,i+1,x,h=>by
  have:=tI (l:=l) (i:=i) (x:=x) (by simpa using h);exact (List.Perm.swap y x _).trans (this.cons y)
theorem yD {α:Type} (next:Nat->Nat):∀ (fuel k:Nat) (left:List α) (out:Array α),left.length<=fuel->(pickOrder.go next fuel k left out).toList.Perm (out.toList++left)
 | 0,k,left,out,h=>by
  have:left=[]:=zbV.mp (by omega);subst this;unfold pickOrder.go;rw [zbr]
 | fuel+1,k,left,out,h=>by
  unfold pickOrder.go;cases e:left[next k%left.length]? with
  | none=>
   have:left=[]:=by
    cases left with
    | nil=>rfl
    | cons y l=>
     have:=List.getElem?_eq_none_iff.mp e;have:=zaK (next k) (show 0<(y::l).length by simp);omega
   subst this;dsimp only;rw [zbr]
  | some x=>
   dsimp only;have il:=(ZL.mp e).1;have:=yD next fuel (k+1) (left.eraseIdx (next k%left.length)) (out.push x) (by rw [length_eraseIdx_of_lt il];omega)
   refine this.trans ?_;rw [zet,zdA];exact (tI e).append_left _
theorem kL (next:Nat->Nat) (xs:Array α):(pickOrder next xs).toList.Perm xs.toList:=by
 have:=yD next xs.size 0 xs.toList #[] (by simp)
 exact this
end iS
namespace iS
open PySem PySem.Spec PyProof.Rows
end iS
namespace iS
open PySem PySem.Spec PyProof.Rows PySem.Calls
def vInt:Value->Int
 | .int k _=>k
 | _=>0
theorem ints_of:∀ (vs:XV),(∀ v∈vs,∃ k t,v=.int k t)->IntsAre vs (vs.map vInt)
 | [],_=>.nil
 | v::vs,h=>by
  obtain ⟨k,t,rfl⟩:=h v zac;exact .cons k t (ints_of vs λu hu=>h u (Z5 _ hu))
end iS
namespace L2
open PySem PySem.Spec PySem.W PySem.Calls PyProof.Rows
theorem Bl:bootBuiltins "set"=some (.type "set"):=by decide +kernel
theorem ve {x y:Str} {C c:Addr} {cl:List (Str×Addr)} (e:((x,C+1)::cl).lookup y=some c):(y=x/\c=C+1)\/cl.lookup y=some c:=by
 rw [zcO] at e;cases q:y==x with
 | true=>
  rw [q] at e;cases e;exact .inl ⟨by simpa using q,rfl⟩
 | false=>rw [q] at e;exact .inr e
def xq (scope:Scope) (x:Str) (cl:List (Str×Addr)) (qual:Str) (L f:Addr) (cd:Value):Env:=
 newEnv scope L mainGlobals ((x,L+1)::cl) (qual ++ ".<locals>.") (some f) cd none builtinsNs
def Cx.lam (X:Cx) (scope:Scope) (x:Str) (cl:List (Str×Addr)) (qual:Str) (f:Addr) (cd:Value) (A:Around) (N:List Str) (s:Shared) (H:Hp):Cx:=
 { X with A:=A.deeper (xq scope x cl qual s.heap.objs.size f cd),N:=N,s₀:=s,H₀:=H,env:=xq scope x cl qual s.heap.objs.size f cd,outer:=X.stack,stack:=(xq scope x cl qual s.heap.objs.size f cd)::X.stack,ex:=[],fn:=λy=>y==x,calm:=true,pn:=[],xe:=λ_ _=>False }
structure Eh (X:Cx) (scope:Scope) (x:Str) (cl:List (Str×Addr)) (fr:List (Str×Nat)):Prop where
 kind:scope.kind=.function
 co:scope.isCoroutine=false
 gen:scope.isGenerator=false
 laid:∀ n,cellsFrom n scope.names cl=(x,n)::cl
 push:∀ h:Heap,pushCells h scope.names=h.push { cls:=.type "cell",data:=.cell none }
 hx:scope.names.lookup x=some .cell
 xM:closureFor scope X.env=pure cl
 zN:AllIn X.env.cells cl
 has:(scope.names.all λp=>!(p.2==.cell || p.2==.free) || (p.1==x || (cl.lookup p.1).isSome))=true
 RZ:∀ p∈fr,X.N[p.2]?=some p.1/\N7 X.env.scope p.1/\((p.1==x)=false/\(cl.lookup p.1).isSome=true)/\scope.names.lookup p.1=some .free
 R0:∀ p∈fr,X.env.kindOf p.1=some .cell
theorem FO {M:Model} {A:Around} {s:Shared} {scope:Scope} {x:Str} {qual:Str} {Q:Env->Shared->Prop}
  (kind:scope.kind=.function) (laid:∀ n,cellsFrom n scope.names cl=(x,n)::cl) (push:∀ h:Heap,pushCells h scope.names=h.push { cls:=.type "cell",data:=.cell none }) (hx:scope.names.lookup x=some .cell)
  (hQ:∀ h':Heap,(∀ b o,s.heap.get? b=some o->h'.get? b=some o)->h'.Ns s.heap.objs.size (λ_=>none)->h'.IsCell (s.heap.objs.size+1) (some u)->
   Q (newEnv scope s.heap.objs.size globals ((x,s.heap.objs.size+1)::cl) qual (some f) cd none builtinsNs) { s with heap:=h' }) :
  wpAny M A (newFunctionEnv scope globals cl [(x,u)] qual (some f) cd none builtinsNs) Q E s:=by
 simp only [newFunctionEnv,Option.isSome_none,zaF,zch];refine rd (wpAny_alloc ?_);refine rd (wpAny_layCells _ (λname kind cells=>by cases Xp:kind==NameKind.cell<;>simp [Xp]) _ _ _ _ ?_);rw [push,laid];rw [show ({ s with heap:=s.heap.push { cls:=.type "frame",data:=.dict #[] } }:Shared).heap.objs.size=s.heap.objs.size+1 from zaI ..];have Ld:((s.heap.push { cls:=.type "frame",data:=.dict #[] }).push { cls:=.type "cell",data:=.cell none }).IsCell (s.heap.objs.size+1) none:=by
  have e:(s.heap.push { cls:=.type "frame",data:=.dict #[] }).objs.size=s.heap.objs.size+1:=zaI ..;exact ⟨{ cls:=.type "cell",data:=.cell none },by rw [<-e];exact Z3 _ rfl,rfl⟩
 have lZ:((s.heap.push { cls:=.type "frame",data:=.dict #[] }).push { cls:=.type "cell",data:=.cell none }).Ns s.heap.objs.size (λ_=>none):=
  (Heap.Ns.new s.heap (.type "frame")).keeps λb o e=>ZN _ e
 refine rd ?_;rw [forIn_cons];refine rd (rd (wpAny_storeName_cell (env:=newEnv scope s.heap.objs.size globals ((x,s.heap.objs.size+1)::cl) qual (some f) cd none builtinsNs) (name:=x) kind hx (by show List.lookup x ((x,s.heap.objs.size+1)::cl)=_;rw [zcO,zcW]) Ld λh' vD Ub=>?_));refine ZR ?_;show wpAny _ _ (forIn [] _ _) _ _ _;rw [forIn_nil];refine ZR (ZR (hQ h' (λb o e=>?_) (lZ.sameBut Ub (Z1 (zbO _))) vD));exact (Ub.2 b (Z1 (zbu (ZM e)))).trans (ZN _ (ZN _ e))
section
variable {X:Cx} {pins:WF} {σ:St} {H:Hp} {s:Shared} {scope:Scope} {x qual:Str} {cl:List (Str×Addr)} {fr:List (Str×Nat)} {A:Around} {f:Addr} {cd:Value}
def yO (v:V) (ix:List Nat) (σ:St):St:=some v::ix.map λi=>(σ[i]?).join
theorem AD (B:Eh X scope x cl fr) (I:Inv X pins σ H s) (hd:A.handled=none) (hA:A.frames=some X.stack) (rv:RelV v u)
  (k:∀ b o,s.heap.get? b=some o->h'.get? b=some o) (hn:h'.Ns s.heap.objs.size (λ_=>none)) (Ld:h'.IsCell (s.heap.objs.size+1) (some u)) :
  Inv (X.lam scope x cl qual f cd A (x::fr.map (·.1)) s H) [] (yO v (fr.map (·.2)) σ) H { s with heap:=h',toks:=t' }:=by
 have cells:∀ {x c},cl.lookup x=some c->X.env.cells.lookup x=some c:=λe=>B.zN.get e;have cellK:∀ {c v},s.heap.IsCell c v->h'.IsCell c v:=λ{c v} ⟨o,e,d⟩=>⟨o,k c o e,d⟩;have TU:∀ y c,cl.lookup y=some c->c<s.heap.objs.size:=λy c e=>by
  obtain ⟨v,o,ho,_⟩:=I.cell y c (cells e);exact ZM ho
 have QA:∀ b:Addr,b∉(X.lam scope x cl qual f cd A (x::fr.map (·.1)) s H).ex:=λb z=>absurd (show b∈([]:XL) from z) (by simp);refine ⟨⟨I.ok.mod,B.kind,rfl,rfl,ZQ _,λy z c h1 h2=>?_,λy hy=>?_,λy c hz h1=>?_,λ_=>hd,Around.frames_deeper hA,.inr ⟨rfl,rfl⟩,λb hb=>absurd hb (QA b),λb o e=>I.bs b o e,zag I.ok.GF I.sz,λb o e=>QA b,λb hb=>absurd hb (QA b),I.stack,I.mC⟩,
  rfl,I.bare,Un.kept k,⟨_,hn,λi y v' h1 h2 h3=>?_⟩,λy c e=>?_,I.aZ.fresh (ZQ _),λy c e=>?_,λp hp=>absurd (show p∈([]:WF) from hp) (by simp),I.aZ.kept k,?_⟩
 ·rcases ve h1 with ⟨e1,e2⟩|e1
  ·rcases ve h2 with ⟨e3,e4⟩|e3
   ·rw [e1,e3]
   ·exact absurd (TU z c e3) (by rw [e2];exact zcj.mpr (zbt _))
  ·rcases ve h2 with ⟨e3,e4⟩|e3
   ·exact absurd (TU y c e1) (by rw [e4];exact zcj.mpr (zbt _))
   ·exact I.ok.inj y z c (cells e1) (cells e3)
 ·have e:scope.names.lookup y=some .cell\/scope.names.lookup y=some .free:=hy;have mem:∃ kk,(y,kk)∈scope.names/\(kk==NameKind.cell || kk==NameKind.free)=true:=by
   rcases e with e|e
   ·exact ⟨_,lookup_mem e,rfl⟩
   ·exact ⟨_,lookup_mem e,rfl⟩
  obtain ⟨kk,mm,hk⟩:=mem;have z:=List.all_eq_true.mp B.has _ mm;simp only [hk,zez,zdQ] at z;show ∃ c,((x,s.heap.objs.size+1)::cl).lookup y=some c;rw [zcO];cases q:y==x with
  | true=>exact ⟨_,rfl⟩
  | false=>
   rw [q,zdQ] at z;exact zaU.mp z
 ·have hy:y=x:=by simpa using (show (y==x)=true from hz)
  subst hy;have tG:((y,s.heap.objs.size+1)::cl).lookup y=some c:=h1;rw [zcO,zcW] at tG;cases tG
  exact zbt _
 ·cases i with
  | zero=>
   have e1:x=y:=ZO h1;have e2:v=v':=ZO (ZO h2);subst e1 e2;exact ⟨u,rv,.inr ⟨.inl B.hx,s.heap.objs.size+1,by show ((x,s.heap.objs.size+1)::cl).lookup x=_;rw [zcO,zcW],Ld⟩⟩
  | succ i=>
   have tG:(fr.map (·.1))[i]?=some y:=h1;have mK:((fr.map (·.2)).map λi=>(σ[i]?).join)[i]?=some (some v'):=h2;rw [ZS] at tG;rw [ZS,ZS] at mK;cases q:fr[i]? with
   | none=>rw [q] at tG;cases tG
   | some p=>
    rw [q] at tG mK;have ex:p.1=y:=ZO tG;have ev:(σ[p.2]?).join=some v':=ZO mK;subst ex;obtain ⟨f1,f2,⟨f0,f3⟩,f4⟩:=B.RZ p (ZX q);have eσ:σ[p.2]?=some (some v'):=by
     cases z:σ[p.2]? with
     | none=>rw [z] at ev;cases ev
     | some w'=>rw [z] at ev;exact zaO some ev
    obtain ⟨m0,Xh,Nc⟩:=I.loc;obtain ⟨u,r,l⟩:=Nc p.2 p.1 v' f1 eσ f2;refine ⟨u,r,?_⟩;obtain ⟨c,hc⟩:=zaU.mp f3;have hk:=B.R0 p (ZX q);rcases l with ⟨kl,_⟩|⟨_,c',vD,z⟩
    ·rw [hk] at kl;cases kl
    ·have e':=cells hc;rw [vD] at e';cases e'
     exact .inr ⟨.inr f4,c,by show ((x,s.heap.objs.size+1)::cl).lookup p.1=some c;rw [zcO,f0];exact hc,cellK z⟩
 ·rcases ve e with ⟨_,e2⟩|e2
  ·rw [e2];exact ⟨_,Ld⟩
  ·obtain ⟨v,z⟩:=I.cell y c (cells e2);exact ⟨v,cellK z⟩
 ·rcases ve e with ⟨_,e2⟩|e2
  ·rw [e2];exact I.aZ.fresh (zbt _)
  ·exact I.dO y c (cells e2)
 ·unfold yO;show _=(x::fr.map (·.1)).length;simp
theorem FU (B:Eh X scope x cl fr) (I:Inv X pins σ H s)
  (ho:s.heap.get? f=some o) (Xd:o.data=.func (kla_fn name qual params body scope cl pm (.ref c') wD)) (pW:s.heap.CodeRec (.ref c') qual) (hd:A.handled=none) (hA:A.frames=some X.stack) (MX:A.depth<recursionLimit)
  (vE:bindArgs (kla_fn name qual params body scope cl pm (.ref c') wD) ⟨[u],[]⟩=pure [(x,u)]) (rv:RelV v u)
  (gB:PE (X.lam scope x cl qual f (.ref c') A (x::fr.map (·.1)) s H) body te) (h:te (yO v (fr.map (·.2)) σ) H Q) :
  wpAny (model X.prog X.w) A (call (.ref f) [u]) (EP X pins σ Q) (λ_ _=>False) s:=by
 refine wpAny_call (zcR (R:=CR (λ_ _ _ _ _ _=>False) X.stack X.prog X.w H s Q (λ_ _ _=>False)) ?_ λr s' hq=>?_)
 ·refine kla_callFunE MX ho Xd B.co B.gen rfl pW ?_;rw [vE];refine ZR (FO B.kind B.laid B.push B.hx λh' hk hn Ld=>⟨I.nolimit.keeps hk,kla_codeExpr ?_⟩);have J:=AD (qual:=qual) (f:=f) (cd:=.ref c') (t':=s.toks) B I hd hA rv hk hn Ld;refine zao (gB [] _ _ H _ J h) (λv' s' hs=>?_) λe s' z=>z.elim;obtain ⟨v2,H2,J2,r2,q2⟩:=hs;exact ⟨v2,H2,J2.os,J2.bare,J2.base,J2.aZ,r2,q2⟩
 ·cases r with
  | error e=>exact hq.elim
  | ok fl=>
   cases fl with
   | ret u=>exact I.after hq
   | next=>exact False.elim hq
   | brk=>exact False.elim hq
   | cont=>exact False.elim hq
end
def zP (c:Addr) (q:Str):HO:=.ext λh=>h.CodeRec (.ref c) q
def cF (H:Hp) (P:Addr) (pos:Pos) (q:Str):Prop:=∃ ps,H P=some (.uh ps)/\(ps=#[]\/∃ c,ps=#[rawInt pos.line,rawInt pos.col,.ref c]/\H c=some (zP c q))
def fJ (P:Addr) (H H':Hp):Prop:=∀ b o,b≠P->H b=some o->H' b=some o
theorem fJ.refl (P:Addr) (H:Hp):fJ P H H:=λ_ _ _ e=>e
theorem fJ.trans (a:fJ P H H1) (b:fJ P H1 H2):fJ P H H2:=λc o n e=>b c o n (a c o n e)
theorem fJ.of (e:ao H H'):fJ P H H':=λb o _ q=>e b o q
theorem fJ.list (e:fJ P H H') (tb:cF H P pos q) (h:H a=some (.lst xs)):H' a=some (.lst xs):=by
 refine e a _ (λz=>?_) h;obtain ⟨ps,hp,_⟩:=tb;rw [z,hp] at h;cases h
theorem fJ.tup {P:Addr} {H H':Hp} {pos:Pos} {q:Str} (e:fJ P H H') (tb:cF H P pos q) {a:Addr} {xs:List V} (h:H a=some (.tup xs)):H' a=some (.tup xs):=by
 refine e a _ (λz=>?_) h;obtain ⟨ps,hp,_⟩:=tb;rw [z,hp] at h;cases h
theorem cF.same (tb:cF H P pos q) (e:ao H H'):cF H' P pos q:=by
 obtain ⟨ps,hp,z⟩:=tb;refine ⟨ps,e _ _ hp,?_⟩;rcases z with z|⟨c,z,hc⟩
 ·exact .inl z
 ·exact .inr ⟨c,z,e _ _ hc⟩
def Bm (mg:W1) (h:Heap):Prop:=∃ bm ob,mg "__builtins__"=some (.ref bm)/\bm≠builtinsNs/\h.get? bm=some ob/\ob.cls=.type "module"/\ob.dict=some builtinsNs/\ob.data=.plain
theorem Bb:∀ h1 h2:Heap,h1.CodeRec (.ref c) q->(∀ o,h1.get? c=some o->h2.get? c=some o)->h2.CodeRec (.ref c) q:=by
 rintro h1 h2 ⟨c',o,vs,t,e,g,r⟩ k;cases e
 exact ⟨c,o,vs,t,rfl,k o g,r⟩
section
variable {X:Cx} {pins:WF} {σ:St} {H:Hp} {s:Shared} {scope:Scope} {cl:List (Str×Addr)} {A:Around} {E:WP} {params:Arguments} {body:Expr} {pos:Pos} {c P:Addr} {Q:WP}
theorem yC {h':Heap} {t':Nat} {o:Obj} (I:Inv X pins σ H { s with heap:=h'.push o,toks:=t' }) (ho:o.isFreed=false) (hc:∀ v,o.data≠.cell v) (hf:H h'.objs.size=none) (hn:h'.objs.size∉X.fs) (hL:X.env.locals<h'.objs.size) :
  Inv X (pins++[(h'.objs.size,o)]) σ H { s with heap:=h'.push o,toks:=t' }:=by
 refine I.dZ λp hp=>?_;rcases ZZ.mp hp with z|z
 ·exact I.pin p (zaL _ z)
 ·rw [ZT.mp z];exact ⟨Z3 _ ho,hf,zax hL,hn,hc⟩
theorem C3 (I:Inv X pins σ H s) (hc:X.env.code=.ref c) (hC:CodeHd s.heap c P) (tb:cF H P pos (X.env.qual ++ "<lambda>")) (hB:Bm X.mg X.base) (xM:closureFor scope X.env=pure cl) (Ka:defaultsOf params X.env=([],[]))
  (h:∀ (f c':Addr) (o:Obj) (pm wD:Value) (H':Hp) (s':Shared),Inv X (pins++[(f,o)]) σ H' s'->o.data=.func (kla_fn "<lambda>" (X.env.qual ++ "<lambda>") params body scope cl pm (.ref c') wD)->H' c'=some (zP c' (X.env.qual ++ "<lambda>"))->
   fJ P H H'->cF H' P pos (X.env.qual ++ "<lambda>")->Q (.ref f) s') :
  wpAny (model X.prog X.w) A (eval (.Lambda params body scope pos) X.env) Q E s:=by
 obtain ⟨ps,hp,alt⟩:=tb;have hP:s.heap.get? P=some (tabObj ps):=I.aZ P _ hp;obtain ⟨bm,ob,b1,b2,b3,b4,b5,b6⟩:=hB;have NW:=I.bk _ _ b3;have lZ:s.heap.Ns mainGlobals X.mg:=I.mod.glob.keeps I.bk;have Xy:mainGlobals≠P:=λq=>by
  obtain ⟨o,es,ep,e,d,_⟩:=lZ;rw [q,hP] at e;cases e;cases d
 have XR:bm≠P:=λq=>by rw [q,hP] at NW;cases NW;cases b4
 have XT:bm≠mainGlobals:=λq=>by
  obtain ⟨o,es,ep,e,d,_⟩:=lZ;rw [q,e] at NW;cases NW;rw [d] at b6;cases b6
 have UQ:s.heap.BuiltinsAt X.mg P:=⟨bm,ob,b1,b2,XT,XR,NW,b4,b5,b6⟩;have lt:=I.lt;refine kla_eval Ka ?_;rcases alt with rfl|⟨c',rfl,vD⟩
 ·refine kla_makeFunction xM I.ok.glob lZ hc hC hP trivial rfl Xy UQ λc' wD h' tk hx HL dI Q6 WZ=>?_;have hsz:s.heap.objs.size<=h'.objs.size:=zag HL (zaA dI);have fc:H c'=none:=I.aZ.fresh HL;have cP:c'≠P:=λz=>by rw [z,hp] at fc;cases fc
  have kp:∀ b o,b≠P->s.heap.get? b=some o->(h'.push (kla_obj "<lambda>" (X.env.qual ++ "<lambda>") params body scope cl ((X.mg "__name__").getD .none) c' wD)).get? b=some o:=λb o n e=>ZN _ (hx b o n e);have nP:∀ {b},H b=none->b≠P:=λ{b} n z=>by rw [z,hp] at n;cases n
  have MU:(h'.push (kla_obj "<lambda>" (X.env.qual ++ "<lambda>") params body scope cl ((X.mg "__name__").getD .none) c' wD)).get? P=some (tabObj #[rawInt pos.line,rawInt pos.col,.ref c']):=ZN _ (by simpa using WZ);have I2:Inv X pins σ (upd (upd H c' (zP c' (X.env.qual ++ "<lambda>"))) P (.uh #[rawInt pos.line,rawInt pos.col,.ref c'])) { s with heap:=h'.push (kla_obj "<lambda>" (X.env.qual ++ "<lambda>") params body scope cl ((X.mg "__name__").getD .none) c' wD),toks:=tk }:=by
   refine I.step (g':=s.gens) (d':=s.drawn) (ch:=[]) (λ_ z=>nomatch z) (λb o _ _ _ e n=>kp b o (nP n) e) (λb o _ _ _ e n=>⟨o.slots,kp b o (nP n) e⟩) (λb o _ e n=>?_) (λb o _ e=>?_) (λb xs e=>?_) (λb o u e=>?_) (λb qs e=>?_) (λm hm=>?_) (λb u e=>?_) I.bare
   ·rw [aq (nP n),aq (λz=>absurd (ZM e) (by rw [z];exact zcj.mpr HL))];exact n
   ·by_cases z:b=P
    ·rw [z];exact ⟨_,MU⟩
    ·exact ⟨o,kp b o z e⟩
   ·rw [aq (λz=>by rw [z,hp] at e;cases e),aq (λz=>by rw [z,fc] at e;cases e)];exact e
   ·rw [aq (λz=>by rw [z,hp] at e;cases e),aq (λz=>by rw [z,fc] at e;cases e)];exact e
   ·by_cases z:b=P
    ·rw [z,hp] at e;cases e;rw [z,ae];exact ⟨#[rawInt pos.line,rawInt pos.col,.ref c'],by simp⟩
    ·rw [aq z,aq (λz=>by rw [z,fc] at e;cases e)];exact ⟨#[],by rw [e];simp⟩
   ·obtain ⟨o,es,ep,ho,r⟩:=hm;exact ⟨o,es,ep,kp _ o (nP I.free) ho,r⟩
   ·by_cases z:b=P
    ·subst z;rw [ae] at e;cases e;exact MU
    ·rw [aq z] at e;by_cases y:b=c'
     ·subst y;rw [ae] at e;cases e;obtain ⟨c2,o,vs,t,e2,g,r⟩:=Q6.push (kla_obj "<lambda>" (X.env.qual ++ "<lambda>") params body scope cl ((X.mg "__name__").getD .none) b wD);cases e2
      exact ⟨⟨_,o,vs,t,rfl,g,r⟩,⟨o,g⟩,Bb⟩
     ·rw [aq y] at e;refine (I.aZ b u e).eB (λc2 v Bz q=>kp c2 v ?_ q) (λc2 q=>?_) λc2 xs q=>?_
      ·rcases Bz with w|w
       ·rw [w];exact z
       ·exact λw2=>by rw [w2,hp] at w;cases w
      ·rw [aq (λz=>by rw [z,hp] at q;cases q),aq (λz=>by rw [z,fc] at q;cases q)];exact q
      ·rw [aq (λz=>by rw [z,hp] at q;cases q),aq (λz=>by rw [z,fc] at q;cases q)];exact q
  have fF:upd (upd H c' (zP c' (X.env.qual ++ "<lambda>"))) P (.uh #[rawInt pos.line,rawInt pos.col,.ref c']) h'.objs.size=none:=by
   rw [aq (λz=>absurd (ZM hP) (by rw [<-z];exact zcj.mpr hsz)),aq (zax dI)];exact I.aZ.fresh hsz
  refine h h'.objs.size c' _ _ wD _ _ (yC I2 rfl (λv z=>by cases z) fF (I.CW hsz) (ZY lt hsz)) rfl ?_ (λb o n e=>?_) ⟨_,ae,.inr ⟨c',rfl,?_⟩⟩
  ·rw [aq cP];exact ae
  ·rw [aq n,aq (λz=>by rw [z,fc] at e;cases e)];exact e
  ·rw [aq cP];exact ae
 ·refine kla_makeFunctionHit (cv:=.ref c') xM I.ok.glob lZ hc hC hP trivial (by simp [codeAmong,rawInt]) UQ λwD h' tk hk hsz=>?_;have I2:=I.kept (h':=h'.push { cls:=.type "function",data:=.func (kla_fn "<lambda>" (X.env.qual ++ "<lambda>") params body scope cl ((X.mg "__name__").getD .none) (.ref c') wD) }) (t':=tk) (λb u e=>ZN _ (hk b u e));exact h h'.objs.size c' _ _ wD _ _ (yC I2 rfl (λv z=>by cases z) (I.aZ.fresh hsz) (I.CW hsz) (ZY lt hsz)) rfl vD (fJ.refl _ _) ⟨_,hp,.inr ⟨c',rfl,vD⟩⟩
end
theorem QO (hi:IntsAre vs ns) (h:KskOut false (ns.map g) vs out):∃ jC,IntsAre out jC/\jC.Perm ns/\jC.Pairwise λx y=>g x<=g y:=by
 obtain ⟨ps,hp,rfl,hs⟩:=h;have el:(ns.map g).length=vs.length:=by rw [ZK,hi.length]
 have each:∀ p∈ps,(∃ n t,p.2=Value.int n t)/\p.1=g (numOf p.2):=λp hq=>by
  have hm:=hp.mem_iff.mp hq;obtain ⟨i,dI,e⟩:=zaS.mp hm;have Rz:i<vs.length:=by rw [length_zip] at dI;omega
  have Ew:i<ns.length:=by rw [<-hi.length];exact Rz
  have e2:p=(g ns[i],vs[i]):=by rw [<-e,getElem_zip,getElem_map]
  obtain ⟨n,t,e3⟩:=hi.all _ (Z4 Rz);have e4:numOf vs[i]=ns[i]:=by
   have:=hi.nums;have k:(vs.map numOf)[i]?=ns[i]?:=by rw [this]
   rw [ZS,ZJ Rz,ZJ Ew] at k;exact ZO k
  rw [e2];exact ⟨⟨n,t,e3⟩,by rw [e4]⟩
 refine ⟨(ps.map Prod.snd).map numOf,intsAre_map _ λv hv=>?_,?_,?_⟩
 ·obtain ⟨p,hq,rfl⟩:=zaB.mp hv;exact (each p hq).1
 ·have h1:=(hp.map Prod.snd).map numOf;rw [map_snd_zip (Nat.le_of_eq el.symm),hi.nums] at h1;exact h1
 ·rw [zdR,zbY];refine zcZ (R:=λp q:Int×Value=>p.1<=q.1) ?_ (hs.imp λh=>h);intro p q a b le;rw [(each p a).2,(each q b).2] at le;exact le
def Frs (X:Cx) (pins:WF) (b:Addr):Prop:=X.s₀.heap.objs.size<=b/\b≠X.env.locals/\(∀ x c,X.env.cells.lookup x=some c->c≠b)/\∀ p∈X.pn++pins,p.1≠b
section
variable {X:Cx} {pins:WF} {σ:St} {H:Hp} {s:Shared}
theorem Inv.hW (I:Inv X pins σ H s) {b:Addr} (h:s.heap.objs.size<=b):Frs X pins b:=by
 refine ⟨zag I.sz h,zax (ZY I.lt h),λx c e z=>?_,λp hp z=>?_⟩
 ·obtain ⟨v,o,ho,_⟩:=I.cell x c e;exact absurd (ZM ho) (by rw [z];exact zcj.mpr h)
 ·have e:=(I.pin p hp).1;exact absurd (ZM e) (by rw [z];exact zcj.mpr h)
def GJ (h:Heap) (L a b:Addr):WF:=(List.range h.objs.size).filterMap λc=>if c=L\/c=a\/c=b then none else (h.get? c).map λo=>(c,o)
theorem jU:(c,o)∈GJ h L a b↔(c≠L/\c≠a/\c≠b)/\h.get? c=some o:=by
 unfold GJ;rw [mem_filterMap];constructor
 ·rintro ⟨d,_,e⟩;by_cases z:d=L\/d=a\/d=b
  ·rw [ZW z] at e;cases e
  ·rw [ZU z] at e;obtain ⟨o',ho,e'⟩:=zbc.mp e;cases e'
   exact ⟨⟨λq=>z (.inl q),λq=>z (.inr (.inl q)),λq=>z (.inr (.inr q))⟩,ho⟩
 ·rintro ⟨⟨n1,n2,n3⟩,ho⟩;refine ⟨c,zaj.mpr (ZM ho),?_⟩;rw [ZU (by rintro (q|q|q);exact n1 q;exact n2 q;exact n3 q),ho]
  rfl
theorem F4 (I:Inv X pins σ H s) (hD:Frs X pins D) (hS:Frs X pins kS) (ne:kS≠D)
  (oD:s.heap.get? D=some (seqObj "list" #[] e1)) (oS:s.heap.get? kS=some (seqObj "list" keys e)) (fD:H D=none) (fS:H kS=none) (hi:IntsAre vs ns) (vJ:ns.length<64) (hk:IntsAre keys.toList (ns.map g))
  (h:∀ (jC:Wp) (s':Shared),Inv X pins σ (upd H D (.lst (jC.map V.int))) s'->jC.Perm ns->(jC.Pairwise λx y=>g x<=g y)->P (.done (.ret .none)) s') :
  wpAny (model X.prog X.w) A (ksk_end D false vs.toArray e1 (.ref kS) keys) P E s:=by
 obtain ⟨m,hn,_⟩:=id I.loc;have lv:=hi.length;have N0:News (Ik.nU s.heap) X.env.locals s.heap (GJ s.heap X.env.locals kS D++[(kS,seqObj "list" keys e),(D,seqObj "list" #[] e1)]):=by
  rintro ⟨a,o⟩ hp;rcases ZZ.mp hp with z|z
  ·obtain ⟨⟨n1,_,_⟩,ho⟩:=jU.mp z;exact ⟨ho,n1,Ik.gS _ _⟩
  ·rcases zas.mp z with z|z
   ·cases z;exact ⟨oS,hS.2.1,Ik.gS _ _⟩
   ·cases ZT.mp z;exact ⟨oD,hD.2.1,Ik.gS _ _⟩
 refine ksk_end_ (h₀:=Ik.nU s.heap) (L:=X.env.locals) (m:=m) (news:=GJ s.heap X.env.locals kS D) (kz:=ns.map g) (b:=false) (Ik.Kk hn) N0 ne (λp hp=>(jU.mp hp).1.2.1) (λp hp=>(jU.mp hp).1.2.2) hk (by rw [ZK];exact lv.symm) (by rw [lv];exact vJ) λh' tk out c F' N' ko=>?_;obtain ⟨jC,i',p',w'⟩:=QO hi ko;refine h jC _ ?_ p' w';have keep:∀ b o,b≠X.env.locals->b∉[kS,D]->s.heap.get? b=some o->h'.get? b=some o:=λb o nL nc e=>(N' (b,o) (Z5 _ (jU.mpr ⟨⟨nL,λz=>nc (by simp [z]),λz=>nc (by simp [z])⟩,e⟩))).1;have gD:h'.get? D=some (seqObj "list" out c):=(N' (D,seqObj "list" out c) zac).1;obtain ⟨oL,Zv,Zw,eL,_⟩:=F'.ns;have nt:∀ {b u},H b=some u->b≠D/\b≠kS:=λ{b u} e=>⟨λz=>(by rw [z,fD] at e;cases e),λz=>(by rw [z,fS] at e;cases e)⟩;have nL:∀ {b u},H b=some u->b≠X.env.locals:=λ{b u} e z=>by rw [z,I.free] at e;cases e
 refine I.step (g':=s.gens) (d':=s.drawn) (ch:=[kS,D]) (λb hb=>?_) (λb o nl _ nc e _=>keep b o nl nc e) (λb o nl _ nc e _=>⟨o.slots,keep b o nl nc e⟩) (λb o nc e n=>?_) (λb o nc e=>?_) (λb xs e=>?_) (λb o u e=>?_) (λb ps e=>?_) (λm' hm=>?_) (λb u e=>?_) I.bare
 ·rcases zas.mp hb with z|z
  ·rw [z];exact ⟨.inr hS.1,hS.2⟩
  ·rw [ZT.mp z];exact ⟨.inr hD.1,hD.2⟩
 ·rw [aq (λz=>nc (by simp [z]))];exact n
 ·by_cases z:b=X.env.locals
  ·rw [z];exact ⟨oL,eL⟩
  ·exact ⟨o,keep b o z nc e⟩
 ·rw [aq (nt e).1];exact e
 ·rw [aq (nt e).1];exact e
 ·rw [aq (nt e).1];exact ⟨#[],by rw [e];simp⟩
 ·rw [show m'=m from funext λx=>hm.agree hn x];exact F'.ns
 ·by_cases z:b=D
  ·subst z;rw [ae] at e;cases e
   refine ⟨?_,out.toList,c,kr i',by rw [gD]⟩;rw [ZK,p'.length_eq,zay];omega
  ·rw [aq z] at e;refine (I.aZ b u e).eB (λc2 v Bz q=>?_) (λc2 q=>?_) λc2 xs q=>?_
   ·rcases Bz with w|w
    ·rw [w] at q ⊢;exact keep b v (nL e) (by have:=nt e;simp [this]) q
    ·exact keep c2 v (nL w) (by have:=nt w;simp [this]) q
   ·rw [aq (nt q).1];exact q
   ·rw [aq (nt q).1];exact q
theorem Dh (I:Inv X (pins++[(D,seqObj "list" #[] e1),(kS,seqObj "list" kA e)]) σ H s) (hS:Frs X pins kS) (ne:kS≠D) :
  ∃ c2,Inv X (pins++[(D,seqObj "list" #[] e1),(kS,seqObj "list" (kA.push u) c2)]) σ H { s with heap:=s.heap.update kS (Obj.mapSeq (·.push u)) }:=by
 have pS:=I.pin (kS,seqObj "list" kA e) (by simp);have pD:=I.pin (D,seqObj "list" #[] e1) (by simp);have sb:=zbK s.heap kS (Obj.mapSeq (·.push u));have I1:Inv X (pins++[(D,seqObj "list" #[] e1)]) σ H s:=I.dZ λp hp=>I.pin p (by
  rcases ZZ.mp hp with z|z
  ·simp [z]
  ·rw [ZT.mp z];simp)
 have I2:=I1.turned (h':=s.heap.update kS (Obj.mapSeq (·.push u))) (t':=s.toks) (it:=kS) (λb o n q=>(sb.2 b n).trans q) pS.2.1 hS.2.1 (.inr hS.1) hS.2.2.1 (λp hp=>by
  rw [<-zdA] at hp;rcases ZZ.mp hp with z|z
  ·exact hS.2.2.2 p z
  ·rw [ZT.mp z];exact zaD ne)
 obtain ⟨c2,o2⟩:∃ c2,(s.heap.update kS (Obj.mapSeq (·.push u))).get? kS=some (seqObj "list" (kA.push u) c2):=⟨_,get?_update_seq pS.1 (·.push u)⟩;refine ⟨c2,I2.dZ λp hp=>?_⟩;rcases ZZ.mp hp with z|z
 ·exact I2.pin p (by simp [z])
 ·rcases zas.mp z with z|z
  ·rw [z];exact I2.pin _ (by simp)
  ·rw [ZT.mp z];exact ⟨o2,pS.2.1,hS.2.1,pS.2.2.2.1,λv q=>by cases q⟩
theorem ints_snoc (h:IntsAre vs ns) (n:Int) (t:Tok):IntsAre (vs++[.int n t]) (ns++[n]):=ksk_snoc h
theorem Di {A:Around} {P:PySem.Fin->Shared->Prop} {g:Int->Int} {e1:Nat}
  (I:Inv X (pins++[(D,seqObj "list" #[] e1),(kS,seqObj "list" #[] 0)]) σ H s) (hD:Frs X pins D) (hS:Frs X pins kS) (ne:kS≠D) (hi:IntsAre vs ns) (vJ:ns.length<64)
  (turn:∀ (n:Int) (t:Tok) (H1:Hp) (more:WF) (s1:Shared),n∈ns->ao H H1->Inv X (pins++more) σ H1 s1->
   wpAny (model X.prog X.w) A (call q [.int n t]) (EP X (pins++more) σ λv H2=>v=.int (g n)/\ao H1 H2) (λ_ _=>False) s1)
  (h:∀ (jC:Wp) (H':Hp) (s':Shared),ao H H'->H' D=none->Inv X pins σ (upd H' D (.lst (jC.map V.int))) s'->jC.Perm ns->(jC.Pairwise λx y=>g x<=g y)->P (.done (.ret .none)) s') :
  wpAny (model X.prog X.w) A (ksk_rest D q false vs.toArray e1 (.ref kS)) P E s:=by
 have lv:=hi.length;unfold ksk_rest;refine rd (zdh ?_);rw [forIn_toArray];refine rd (ksk_fold (λi s'=>∃ Hi kA e,ao H Hi/\Inv X (pins++[(D,seqObj "list" #[] e1),(kS,seqObj "list" kA e)]) σ Hi s'/\IntsAre kA.toList ((ns.map g).take i)) vs 0 s
  ⟨H,#[],0,λ_ _ z=>z,I,IntsAre.nil⟩ ?_ ?_)
 ·rintro j x s' hx ⟨Hi,kA,e,sm,J,hk⟩;rw [zcU] at hk ⊢;have hj:j<ns.length:=by have:=(ZL.mp hx).1;omega
  obtain ⟨t,ex⟩:∃ t,x=Value.int ns[j] t:=by
   obtain ⟨n,t,e3⟩:=hi.all x (ZX hx);have k:(vs.map numOf)[j]?=ns[j]?:=by rw [hi.nums]
   rw [ZS,hx,ZJ hj,e3] at k;have k2:n=ns[j]:=ZO k;exact ⟨t,by rw [e3,k2]⟩
  subst ex;have hz:kA.size<=63:=by
   have h1:=hk.length;rw [zaa,Z9,ZK] at h1;omega
  refine rd (zda (zao (turn ns[j] t Hi _ s' (Z4 hj) sm J) (λv s2 he=>?_) λ_ _ z=>z.elim));obtain ⟨v1,H2,J2,rv,ev,B5⟩:=he;subst ev;obtain ⟨t2,rfl⟩:∃ t2,v=Value.int (g ns[j]) t2:=rv;have pS:=J2.pin (kS,seqObj "list" kA e) (by simp);obtain ⟨c2,J3⟩:=Dh (u:=.int (g ns[j]) t2) J2 hS ne;refine rd (zcs pS.1 rfl ?_ (by rw [zay];omega) (by rw [zcg,zay];omega));refine ZR ⟨rfl,H2,kA.push (.int (g ns[j]) t2),c2,sm.trans B5,J3,?_⟩;have ea:(kA.push (Value.int (g ns[j]) t2)).toList=kA.toList++[Value.int (g ns[j]) t2]:=by simp
  have ek:(ns.map g).take (j+1)=(ns.map g).take j++[g ns[j]]:=by
   rw [take_succ,ZS,ZJ hj];rfl
  rw [ea,ek];exact ints_snoc hk _ _
 ·rintro s' ⟨Hi,kA,e,sm,J,hk⟩;rw [zcU,zbU (by rw [ZK];omega)] at hk;have pS:=J.pin (kS,seqObj "list" kA e) (by simp);have pD:=J.pin (D,seqObj "list" #[] e1) (by simp);have J1:Inv X pins σ Hi s':=J.dZ λp hp=>J.pin p (by simp [hp]);refine rd (listItems_at pS.1 rfl ?_);exact F4 J1 hD hS ne pD.1 pS.1 pD.2.1 pS.2.1 hi vJ hk λjC s2 K p w=>h jC Hi s2 sm pD.2.1 K p w
theorem xx {A:Around} {g:Int->Int} (I:Inv X pins σ H s) (hl:aH X.K H l (ns.map V.int)) (vJ:ns.length<64)
  (turn:∀ (n:Int) (t:Tok) (H1:Hp) (more:WF) (s1:Shared),n∈ns->ao H H1->Inv X (pins++more) σ H1 s1->
   wpAny (model X.prog X.w) A.in1.in1 (call (.ref q) [.int n t]) (EP X (pins++more) σ λv H2=>v=.int (g n)/\ao H1 H2) (λ_ _=>False) s1)
  (h:∀ (D:Addr) (jC:Wp) (H':Hp) (s':Shared),ao H H'->H' D=none->Inv X pins σ (upd H' D (.lst (jC.map V.int))) s'->jC.Perm ns->(jC.Pairwise λx y=>g x<=g y)->Q (.ref D) s') :
  wpAny (model X.prog X.w) A (call (.builtin "sorted") [.ref l] [(Str.ofString "key",.ref q)]) Q E s:=by
 obtain ⟨aJ,VP,pl,_⟩:=I.list hl;have il:=pl.isList;have rv:IntsAre aJ ns:=intsAre_of VP;have lv:=rv.length;refine call_function_entry_kw kind_sorted plain_sorted entry_sorted (ksk_s1 _ _) ?_;unfold Builtin.«sorted»;refine rd (m:=checkCount "sorted" 1 1 _) (ZR ?_);refine rd (collect_list il ?_ (by rw [zay];omega));refine rd (zdb ?_ (by rw [zay];omega));generalize Uv:(s.heap.push (seqObj "list" #[] 0)).update s.heap.objs.size (Obj.mapSeq (·++aJ.toArray))=h1;have z1:h1.objs.size=s.heap.objs.size+1:=by rw [<-Uv,zbP,size_push']
 have k1:∀ b o,s.heap.get? b=some o->h1.get? b=some o:=λb o e=>by
  have lt:=ZM e;rw [<-Uv,zcu _ _ _ _ (Z1 lt)];exact ZN _ e
 have oD:(h1.push (seqObj "list" aJ.toArray 0)).get? h1.objs.size=some (seqObj "list" aJ.toArray 0):=Z3 _ rfl;have Ol:s.heap.objs.size<=h1.objs.size:=by rw [z1];exact zbt _
 show wpAny _ _ _ _ _ { s with heap:=h1.push (seqObj "list" aJ.toArray 0) };refine rd (zau (wpAny_call_entry_kw slot_list_sort ⟨_,oD,rfl⟩ entry_list_sort ?_ (ksk_l1 _ _)));show wpAny (model X.prog X.w) A.in1.in1 (Builtin.«list.sort» ⟨[.ref h1.objs.size],[(Str.ofString "key",.ref q)]⟩) _ _ _;rw [ksk_t1];unfold ksk_tree;refine rd (listItems_at oD rfl ?_);refine rd (zcs oD rfl ?_ (by rw [Z8,zay];omega) (Z7 _));obtain ⟨e1,Qs⟩:∃ e1,((h1.push (seqObj "list" aJ.toArray 0)).update h1.objs.size (Obj.mapSeq λ_=>(#[]:Array Value))).get? h1.objs.size=some (seqObj "list" #[] e1):=⟨_,get?_update_seq oD λ_=>#[]⟩;refine rd (zdo Qs rfl ?_);refine rd (zdv ?_ (by show aJ.length<=_;rw [zay];omega));refine rd (zdb ?_ (Z7 _));refine zau ?_;generalize Uu:(h1.push (seqObj "list" aJ.toArray 0)).update h1.objs.size (Obj.mapSeq λ_=>(#[]:Array Value))=h2 at Qs ⊢;have z2:h2.objs.size=h1.objs.size+1:=by rw [<-Uu,zbP,size_push']
 have k2:∀ b o,s.heap.get? b=some o->h2.get? b=some o:=λb o e=>by
  have lt:=ZM e;rw [<-Uu,zcu _ _ _ _ (Z1 (ZY lt Ol))];exact ZN _ (k1 b o e)
 have k4:∀ b o,h2.get? b=some o->((h2.push (seqObj "tuple" aJ.toArray 0)).push (seqObj "list" #[] 0)).get? b=some o:=λb o e=>ZN _ (ZN _ e);have z3:(h2.push (seqObj "tuple" aJ.toArray 0)).objs.size=h2.objs.size+1:=size_push' ..;have QK:s.heap.objs.size<=(h2.push (seqObj "tuple" aJ.toArray 0)).objs.size:=by rw [z3,z2,z1];exact zag (zbt _) (zag (zbt _) (zbt _))
 have ne:(h2.push (seqObj "tuple" aJ.toArray 0)).objs.size≠h1.objs.size:=by rw [z3,z2];exact zax (zcS (zbO _) (zbO _))
 have J:=I.kept (h':=(h2.push (seqObj "tuple" aJ.toArray 0)).push (seqObj "list" #[] 0)) (t':=s.toks) (λb o e=>k4 b o (k2 b o e));have fD:=I.hW (b:=h1.objs.size) Ol;have fS:=I.hW (b:=(h2.push (seqObj "tuple" aJ.toArray 0)).objs.size) QK;have J2:Inv X (pins++[(h1.objs.size,seqObj "list" #[] e1),((h2.push (seqObj "tuple" aJ.toArray 0)).objs.size,seqObj "list" #[] 0)]) σ H { s with heap:=(h2.push (seqObj "tuple" aJ.toArray 0)).push (seqObj "list" #[] 0) }:=J.dZ λp hp=>by
  rcases ZZ.mp hp with z|z
  ·exact J.pin p (by simp [z])
  ·rcases zas.mp z with z|z
   ·rw [z];exact ⟨k4 _ _ Qs,I.aZ.fresh Ol,fD.2.1,I.CW Ol,λv w=>by cases w⟩
   ·rw [ZT.mp z];exact ⟨Z3 _ rfl,I.aZ.fresh QK,fS.2.1,I.CW QK,λv w=>by cases w⟩
 refine Di J2 fD fS ne rv vJ (λn t H1 more s1 a b c=>turn n t H1 more s1 a b c) λjC H' s' sm f0 K p w=>⟨_,rfl,?_⟩;exact ZR ⟨_,rfl,h _ jC H' s' sm f0 K p w⟩
end
theorem fJ.seq {K:Frag} {P:Addr} {H H':Hp} {lp:Pos} {q:Str} {a:Addr} {xs:List V} (e:fJ P H H') (tb:cF H P lp q) (h:aH K H a xs):aH K H' a xs:=by
 obtain ⟨ps,hp,_⟩:=tb;rcases h with (h|⟨o,h⟩) | h
 ·exact .inl (.inl (e _ _ (λz=>by rw [z,hp] at h;cases h) h))
 ·exact .inl (.inr ⟨o,e _ _ (λz=>by rw [z,hp] at h;cases h) h⟩)
 ·exact .inr h
def BV (K:Frag) (tl:TA) (te:TE) (P:Addr) (lp:Pos) (q:Str) (ix:List Nat):TE:=λσ H Q=>tl σ H λxs H1=>∃ (a:Addr) (ns:Wp) (g:Int->Int),xs=[.ref a]/\aH K H1 a (ns.map V.int)/\ns.length<64/\cF H1 P lp q/\
 (∀ H2,fJ P H1 H2->cF H2 P lp q->∀ n∈ns,te (yO (.int n) ix σ) H2 λv H3=>v=.int (g n)/\ao H2 H3)/\
 ∀ (D:Addr) (jC:Wp) (H':Hp),fJ P H1 H'->cF H' P lp q->H' D=none->jC.Perm ns->(jC.Pairwise λx y=>g x<=g y)->Q (.ref D) (upd H' D (.lst (jC.map V.int)))
section
variable {X:Cx} {scope:Scope} {x:Str} {cl:List (Str×Addr)} {fr:List (Str×Nat)} {params:Arguments} {body l:Expr} {lp p pos kp:Pos} {c P:Addr} {tl:TA} {te:TE} {k:Nat}
theorem wX (B:Eh X scope x cl fr) (hr:df (k+2) X.A) (hc:X.env.code=.ref c) (hC:codeHdIn X.K c P=true) (hB:Bm X.mg X.base) (hl:PA X [l] tl) (gB:∀ f cd s H,PE (X.lam scope x cl (X.env.qual ++ "<lambda>") f cd X.A.in1.in1 (x::fr.map (·.1)) s H) body te)
  (hg:Gl X "sorted") (hm:X.mg "sorted"=none) (Ka:defaultsOf params X.env=([],[]):=by rfl)
  (vE:∀ (q:Str) (pm cd wD u:Value),bindArgs (kla_fn "<lambda>" q params body scope cl pm cd wD) ⟨[u],[]⟩=pure [(x,u)]:=by intros;rfl)
  (he:backTo pos (starEach [l] X.env)=(false,eval l X.env)::backTo pos (starEach [] X.env):=by rfl) (lK:(backTo pos (starEach [l] X.env)).any (·.1)=false:=by rfl) :
  PE X (.Call (.Name "sorted" p) [l] [⟨some "key",.Lambda params body scope lp,kp⟩] pos) (BV X.K tl te P lp (X.env.qual ++ "<lambda>") (fr.map (·.2))):=by
 intro pins s σ H Q I h;have r2:df k X.A.in1.in1:=hr.in1.in1;refine zcc (eN I hg hm (by rfl) ?_ (by decide) (by decide));refine callWith_kw (cA (hl pos pins s σ H _ I h) λus s1 ⟨vs,H1,I1,rv,a,ns,g,ev,sq,vJ,tb,turn,done⟩=>?_) he lK (by rfl) (by rfl);subst ev;obtain ⟨u,rfl,ru⟩:=vals1 rv;obtain rfl:u=Value.ref a:=ru;refine kws_cons (C3 I1 hc (codeHd_of_K I1.oB hC) tb hB B.xM Ka λf c' o pm wD H2 s2 I2 od cc sm pE=>kws_nil ?_);have pf:=I2.pin (f,o) (by simp);show wpAny (model X.prog X.w) X.A (call (.builtin "sorted") [.ref a] [(Str.ofString "key",.ref f)]) _ _ s2;refine xx (g:=g) I2 (sm.seq tb sq) vJ (λn t H3 more s3 hn e3 I3=>?_) λD jC H' s' e f0 J p w=>?_
 ·have V9:=I3.pin (f,o) (by simp);have cr:s3.heap.CodeRec (.ref c') (X.env.qual ++ "<lambda>"):=(I3.aZ c' _ (e3 _ _ cc)).1;refine FU B I3 V9.1 od cr r2.hd (show X.A.in1.in1.frames=_ from I3.ok.frames) r2.depth (vE _ _ _ _ _) (v:=.int n) ⟨t,rfl⟩ (gB f _ s3 H3) ?_;exact turn H3 (λb o n q=>e3 b o (sm b o n q)) (pE.same e3) n hn
 ·refine ⟨.ref D,_,J.dZ λp hp=>J.pin p (by simp [hp]),rfl,done D jC H' (λb o n q=>e b o (sm b o n q)) (pE.same e) f0 p w⟩
end
def Ii (K:Frag) (P a:Addr) (oa:Obj) (xs:List V):Hp:=λb=>if b=P then some (.uh #[]) else if b=a/\(K.lookup a).isNone=true then some (.iO oa (.lst xs)) else none
theorem Ih {K:Frag} {P a:Addr} {oa:Obj} {xs:List V}:Ii K P a oa xs P=some (.uh #[]):=ZW rfl
theorem Ig {K:Frag} {P a:Addr} {oa:Obj} {xs:List V} (n:a≠P) (k:K.lookup a=none):Ii K P a oa xs a=some (.iO oa (.lst xs)):=by
 unfold Ii;rw [ZU n,ZW ⟨rfl,by rw [k];rfl⟩]
theorem Bt {K:Frag} {P a b:Addr} {oa:Obj} {xs:List V}:(Ii K P a oa xs b=none/\b≠P/\(b=a->(K.lookup a).isNone=false))\/(b=P/\Ii K P a oa xs b=some (.uh #[]))\/(b≠P/\b=a/\K.lookup a=none/\Ii K P a oa xs b=some (.iO oa (.lst xs))):=by
 by_cases z:b=P
 ·subst z;exact .inr (.inl ⟨rfl,Ih⟩)
 ·by_cases y:b=a/\(K.lookup a).isNone=true
  ·have k:K.lookup a=none:=by
    have:=y.2;cases q:K.lookup a with
    | none=>rfl
    | some o=>rw [q] at this;cases this
   obtain ⟨rfl,_⟩:=y;exact .inr (.inr ⟨z,rfl,k,Ig z k⟩)
  ·refine .inl ⟨?_,z,λq=>?_⟩
   ·unfold Ii;rw [ZU z,ZU y]
   ·cases w:(K.lookup a).isNone with
    | false=>rfl
    | true=>exact absurd ⟨q,w⟩ y
theorem AB {Pr:Program} {w:World} {K:Frag} {mg mb:W1} {CX:xU} {k:Nat} {fa a P c:Addr} {fd:FuncData} {x:Str} {sp:Sp} {s₁:Shared} {vs:XV} {ns:Wp}
  (KX:K.In s₁.heap) (lZ:s₁.heap.Ns mainGlobals mg) (hb:s₁.heap.Ns builtinsNs mb) (XQ:∀ x:Str,x≠ "__name__"->mb x=bootBuiltins x) (Rv:s₁.heap.NoLimit) (hg:s₁.gens=#[]) (hB:Bm mg s₁.heap)
  (hP:s₁.heap.get? P=some (tabObj #[])) (Nq:K.lookup P=none) (hC:codeHdIn K c P=true)
  (ha:s₁.heap.get? a=some { cls:=.type "list",data:=.seq vs.toArray }) (hi:IntsAre vs ns) (hl:ns.length<=sizeLine) (hr:df k callerA)
  (F:∀ base:Heap,K.In base->base.Ns mainGlobals mg->Bm mg base->qA Pr w K mg base CX k fa fd [x] sp) (vE:∀ (s:Shared) (u:Value),BindsTo s fd ⟨[u],[]⟩ [(x,u)])
  (wz:∀ H:Hp,aH K H a (ns.map V.int)->H P=some (.uh #[])->sp [.ref a] H (λv _=>v=.bl true) λ_ _ _=>False)
  (RT:∀ H e s',CX [] H s₁ (λ_ _ _=>False) e s'->False) :
  codeAny (model Pr w) callerA (.call (.ref fa) ⟨[.ref a],[]⟩) (λr s'=>r=.ok (.ret (.bool true))/\OldK s₁.heap s'.heap/\s'.os=s₁.os/\AllBare s'.gens) s₁:=by
 have rv:=kr hi;have lv:=hi.length;have aP:a≠P:=λz=>by rw [z,hP] at ha;cases ha
 generalize M5:({ cls:=.type "list",data:=.seq vs.toArray }:Obj)=oa at ha;have da:oa.data=.seq vs.toArray:=by rw [<-M5]
 generalize hH:Ii K P a oa (ns.map V.int)=H;have ca:∀ b,(H b=none/\b≠P/\(b=a->(K.lookup a).isNone=false))\/(b=P/\H b=some (.uh #[]))\/(b≠P/\b=a/\K.lookup a=none/\H b=some (.iO oa (.lst (ns.map V.int)))):=λb=>by rw [<-hH];exact Bt
 have UL:H P=some (.uh #[]):=by rw [<-hH];exact Ih
 have free:∀ {b o},s₁.heap.get? b=some o->o≠tabObj #[]->o≠oa->H b=none:=λ{b o} e n1 n2=>by
  rcases ca b with z|z|z
  ·exact z.1
  ·rw [z.1,hP] at e;exact absurd (ZO e).symm n1
  ·rw [z.2.1,ha] at e;exact absurd (ZO e).symm n2
 have NR:∀ {b o es ep},s₁.heap.get? b=some o->o.data=.dict es ep->H b=none:=λ{b o es ep} e d=>free e (λz=>by rw [z] at d;cases d) (λz=>by rw [z,da] at d;cases d);have OI:∀ {b m},s₁.heap.Ns b m->(vB s₁.heap H).Ns b m:=λ{b m} ⟨o,es,ep,e,d,r⟩=>⟨o,es,ep,oE e (NR e d),d,r⟩;have kB:K.In (vB s₁.heap H):=λb o e=>oE (KX b o e) (by
  rcases ca b with z|z|z
  ·exact z.1
  ·rw [z.1,Nq] at e;cases e
  ·rw [z.2.1,z.2.2.1] at e;cases e)
 have mB:Mod K mg (vB s₁.heap H):=by
  obtain ⟨mc,l1,l2⟩:=Rv;exact ⟨kB,OI lZ,⟨mb,OI hb,XQ⟩,mc,OI l1,l2⟩
 have bB:Bm mg (vB s₁.heap H):=by
  obtain ⟨bm,ob,b1,b2,b3,b4,b5,b6⟩:=hB;exact ⟨bm,ob,b1,b2,oE b3 (free b3 (λz=>by rw [z] at b4;cases b4) λz=>by rw [z,da] at b6;cases b6),b4,b5,b6⟩
 have sq:aH K H a (ns.map V.int):=by
  cases q:K.lookup a with
  | none=>exact .inl (.inr ⟨oa,by rw [<-hH];exact Ig aP q⟩)
  | some o=>
   have e:=KX a o q;rw [ha] at e;cases e
   exact .inr ⟨_,vs.toArray,_,q,by rw [<-M5],by rw [<-M5],by rw [<-M5],by rw [Z8,lv];exact hl,by simpa using rv⟩
 have ok:hX Pr w H s₁.heap:=λb u e=>by
  rcases ca b with z|z|z
  ·rw [z.1] at e;cases e
  ·rw [z.2] at e;cases e;rw [z.1];exact hP
  ·rw [z.2.2.2] at e;cases e;rw [z.2.1];exact ⟨ha,by rw [ZK];exact hl,vs,_,rv,by rw [ha,<-M5]⟩
 refine zcR ((F _ kB (OI lZ) bB).run callerA [] s₁ H ⟨[.ref a],[]⟩ [.ref a] [.ref a] _ _ hr ⟨rfl,mB,λb o e=>FJ e,Nat.le_of_eq (AO _ _),trivial,λb z=>(by cases z),ok,.of_eq hg⟩ (vE s₁ (.ref a)) (.cons rfl .nil) (wz H sq UL)) λr s' q=>?_;cases r with
 | error e=>exact (RT H e s' q).elim
 | ok fl=>
  cases fl with
  | next=>exact q.elim
  | brk=>exact q.elim
  | cont=>exact q.elim
  | ret u=>
   obtain ⟨v,H',os,bare,un,TF,r',qv⟩:=q;have VW:v=.bl true:=qv;subst VW;obtain rfl:u=Value.bool true:=r';have tab:∃ more,s'.heap.get? P=some (tabObj more):=by
    obtain ⟨more,e⟩:=un.kC P #[] UL;exact ⟨_,TF P _ e⟩
   obtain ⟨more,tP⟩:=tab;have keep:∀ b o,b≠P->s₁.heap.get? b=some o->s'.heap.get? b=some o:=λb o n e=>by
    rcases ca b with z|z|z
    ·exact un.keep b o e z.1 (λy=>by cases y) (by simp)
    ·exact absurd z.1 n
    ·have y:=un.lg b _ _ z.2.2.2;obtain ⟨e2,_⟩:=TF b _ y;rw [z.2.1,ha] at e;cases e
     exact e2
   refine ⟨rfl,⟨λb o e=>?_,λb o e=>?_⟩,os,bare⟩
   ·by_cases z:b=P
    ·subst z;rw [hP] at e;cases e
     exact .inr (.inl ⟨((codeHd_of_K KX hC).tab hP).isCodeTable,rfl,#[],more,rfl,by rw [Array.empty_append];exact tP⟩)
    ·exact .inl (keep b o z e)
   ·by_cases z:b=P
    ·rw [z];exact ⟨_,tP⟩
    ·exact ⟨o,keep b o z e⟩
theorem BK {l:OpenLaw} {n k:Nat} {q:Program} {loose:List Str} {XP:(Str->Option Value)->Heap->Prop} {YP:World->Heap->Prop} {d:DefRec} {K:Params->Frag} {CX:World->xU} {sp:World->Sp} {x:Str} {P c:Addr}
  (hn:l.most=some n) (Xg:n<=sizeLine) (J4:d.params.defaults=[]) (hr:df k callerA)
  (hY:∀ (w:World) (h:Heap),YP w h->(K w.params).In h/\h.get? P=some (tabObj #[])) (Nq:∀ w:World,(K w.params).lookup P=none) (hC:∀ w:World,codeHdIn (K w.params) c P=true)
  (F:∀ (w:World) (mg:W1) (fa:Addr) (h:Heap),(K w.params).In h->h.Ns mainGlobals mg->mg d.name=some (.ref fa)->
   ∃ fd:FuncData,(∀ (s:Shared) (u:Value),BindsTo s fd ⟨[u],[]⟩ [(x,u)])/\
    ∀ base:Heap,(K w.params).In base->base.Ns mainGlobals mg->Bm mg base->qA l.prog w (K w.params) mg base (CX w) k fa fd [x] (sp w))
  (wz:∀ (w:World) (H:Hp) (a:Addr) (ns:Wp),ns.length<=n->aH (K w.params) H a (ns.map V.int)->H P=some (.uh #[])->sp w [.ref a] H (λv _=>v=.bl true) λ_ _ _=>False)
  (RT:∀ (w:World) (H:Hp) (s:Shared) (e:Value) (s':Shared),CX w [] H s (λ_ _ _=>False) e s'->False) :
  WalkO q loose XP YP l.row.toRowW d [] (λf vs=>PySem.call f vs):=by
 refine Ik.wc hn J4 λw s₀ s₁ mg mb fa o pm cd doc a vs ns G Y ho hd pW Na JT hints hlen hg=>?_;obtain ⟨KX,hP⟩:=hY w _ Y;obtain ⟨fd,hb,hF⟩:=F w mg fa _ KX G.T.g Na;exact AB KX G.T.g G.T.b G.T.builtins G.T.nolimit hg G.T.bmain hP (Nq w) (hC w) JT hints (zag hlen Xg) hr hF hb (λH=>wz w H a ns hlen) λH e s'=>RT w H s₁ e s'
abbrev newExc (C:Addr) (t:Addr):Obj:={ cls:=.ref C,data:=.fields #[.ref t,.none,.none,.none,.bool false,.none] }
end L2
namespace L2
open PySem PySem.Spec PySem.W PySem.Calls PyProof.Rows Builtin Builtin.ObjectAttr
end L2
namespace L2
open PySem PySem.Spec PySem.W PySem.Calls PyProof.Rows
def del (H:Hp) (a:Addr):Hp:=λb=>if b=a then none else H b
structure DefIn (K:Frag) (x:Str) (st:Stmt):Prop where
 ex:∃ (f:Addr) (od an:Option Addr) (sl:Array (Option Value)) (oc kV dc pm cd ct:Value),nsIn K mainGlobals x=some (some (.ref f))/\K.lookup f=some ⟨oc,od,.func (fnOf x x (fR st) (dk st) (aC st) .none kV dc pm an cd ct),sl⟩/\codeIn K cd x=true/\keepIn K (.ref f)=true
theorem DefIn.mk0 {K:Frag} {x:Str} {st:Stmt} {f:Addr} {od an:Option Addr} {sl:Array (Option Value)} {oc kV dc pm cd ct:Value} (a:nsIn K mainGlobals x=some (some (.ref f))) (l:K.lookup f=some ⟨oc,od,.func (fnOf x x (fR st) (dk st) (aC st) .none kV dc pm an cd ct),sl⟩) (c:codeIn K cd x=true) (k:keepIn K (.ref f)=true):DefIn K x st:=⟨⟨f,od,an,sl,oc,kV,dc,pm,cd,ct,a,l,c,k⟩⟩
section
variable {K:Frag} {h:Heap} {mg:W1} {x q:Str} {st:Stmt} {ps:List Str} {C:Addr}
theorem DefIn.gC (d:DefIn K x st) (X:K.In h) (G:h.Ns mainGlobals mg) (hb:∀ (kV doc pm:Value) (an:Option Addr) (cz ct:Value) (us:XV),us.length=ps.length->bindArgs (fnOf x x (fR st) (dk st) (aC st) .none kV doc pm an cz ct) ⟨us,[]⟩=pure (ps.zip us)):Def K mg x st ps:=by
 obtain ⟨f,od,an,sl,oc,kV,dc,pm,cd,ct,a,l,c,k⟩:=d.ex;exact ⟨⟨f,_,xF (st:=st) l c k,mg_of X G a,(xF (st:=st) l c k).binds (ps:=ps) hb⟩⟩
end
def Ja (K:Frag):R2:=λx y H Q=>Fj K x y H Q\/Fi K x y H Q
theorem JK:KW X (Ja X.K):=by
 intro value slice pins s σ H x y v u Q I rx ry h hs;rcases h with h|h
 ·exact au value slice pins s σ H x y v u Q I rx ry h hs
 ·exact c5 value slice pins s σ H x y v u Q I rx ry h hs
theorem sU {K:Frag} (h:X.K=K):KW X (Ja K):=h▸JK
def Ph (K:Frag) (H:Hp) (a:Addr) (xs:List V):Prop:=aH K H a xs\/SqT K H a xs
theorem Cr {K:Frag} {H:Hp} {Q:VK} {p:Addr} {xs:List V} {i:Int} {v:V} (h:Ph K H p xs) (hi:ja xs i=some v) (q:Q v H):Ja K (.ref p) (.int i) H Q:=by
 rcases h with h|h
 ·exact .inl ⟨p,xs,i,v,rfl,rfl,h,hi,q⟩
 ·exact .inr ⟨p,xs,i,v,rfl,rfl,h,hi,q⟩
theorem ao.tupK {K:Frag} {H H':Hp} {a:Addr} {xs:List V} (e:ao H H') (h:SqT K H a xs):SqT K H' a xs:=by
 rcases h with (h|⟨o,h⟩) | h
 ·exact .inl (.inl (e _ _ h))
 ·exact .inl (.inr ⟨o,e _ _ h⟩)
 ·exact .inr h
theorem ao.any {K:Frag} {H H':Hp} {a:Addr} {xs:List V} (e:ao H H') (h:Ph K H a xs):Ph K H' a xs:=h.elim (λz=>.inl (e.seq z)) λz=>.inr (e.tupK z)
section
variable {K:Frag} {σ:St} {H:Hp} {Q:VK}
theorem j9 {R:Hp->Prop} {acc a:Addr} {xs:List V} {g:TG} {tt:TT} {te:TE} (Pv:Nat->St->List V->Hp->Prop) (h0:Pv 0 σ [] H) (hl:∀ i σ ys H,i<=xs.length->Pv i σ ys H->SqT K H a xs)
  (hs:∀ i x σ ys H,xs[i]?=some x->i<xs.length->Pv i σ ys H->g x σ H λσ2 H4=>tt σ2 H4 λb H5=>if b=true then te σ2 H5 λy H6=>H6 acc=some (.lst ys)/\ys.length<sizeLine/\∃ m',m'<xs.length-i/\(m'=xs.length-(i+1)/\i+1<=xs.length/\Pv (i+1) σ2 (ys++[y]) (upd H6 acc (.lst (ys++[y])))) else ∃ m',m'<xs.length-i/\(m'=xs.length-(i+1)/\i+1<=xs.length/\Pv (i+1) σ2 ys H5))
  (hd:∀ σ ys H,Pv xs.length σ ys H->R H) :
  ∃ W:Nat->Nat->St->List V->Hp->Prop,(∃ m,W 0 m σ [] H)/\∀ i m σ' ys H2,W i m σ' ys H2->(((GS K a).stop i H2/\R H2)\/((GS K a).go i H2/\∀ x H3,(GS K a).wx i H2 x H3->g x σ' H3 λσ2 H4=>tt σ2 H4 λb H5=>
   if b=true then te σ2 H5 λy H6=>H6 acc=some (.lst ys)/\ys.length<sizeLine/\∃ m',m'<m/\W (i+1) m' σ2 (ys++[y]) (upd H6 acc (.lst (ys++[y]))) else ∃ m',m'<m/\W (i+1) m' σ2 ys H5)):=by
 refine ⟨λi m σ ys H=>m=xs.length-i/\i<=xs.length/\Pv i σ ys H,⟨xs.length,by simp,Z7 _,h0⟩,?_⟩;rintro i m σ ys H ⟨rfl,hi,p⟩;have q:=hl i σ ys H hi p;by_cases dI:i<xs.length
 ·refine .inr ⟨⟨xs,xs[i],q,by simp [dI]⟩,λx H' y=>?_⟩;obtain ⟨e,y⟩:=y;subst e;exact hs i x σ ys _ (y xs q) dI p
 ·have e:i=xs.length:=by omega
  subst e;exact .inl ⟨⟨xs,q,ZQ _⟩,hd σ ys H p⟩
end
section
variable {X:Cx} {st:Stmt} {rest:List Stmt} {t:TS}
def Ha (t:TS):TS:=λD σ H=>t { D with nx:=λ_ _=>False } σ H
theorem uZ (h1:PS X st t):tZ X (st::rest) (Ha t):=by
 intro pins s σ H D I h;refine zcv (cA (h1 pins s σ H { D with nx:=λ_ _=>False } I h) λf s1 q=>?_);cases f with
 | next=>obtain ⟨_,_,_,q⟩:=q;exact q.elim
 | ret v=>exact q
 | brk=>exact q
 | cont=>exact q
theorem Cq (h:t { D with nx:=λ_ _=>False } σ H):Ha t D σ H:=h
def BU (H0:Hp) (t:TS):TS:=λD σ H=>t { D with nx:=λσ' H'=>∃ (d:Addr) (o:Obj) (kvs:List (Key×V)),H' d=some (.iO o (.dK kvs))/\(∀ o' u',H0 d≠some (.iO o' u'))/\D.nx σ' (upd H' d (.dK kvs)) } σ H
theorem CF (h:PS X st t):PS X st (BU X.H₀ t):=by
 intro pins s σ H D I q;refine cA (h pins s σ H _ I q) λf s' r=>?_;cases f with
 | next=>
  obtain ⟨σ',H',I',d,o,kvs,hf,h0,q'⟩:=r;exact ⟨σ',_,I'.PH hf (λxs z=>by cases z) (λx z=>by cases z) h0,q'⟩
 | brk=>exact r
 | cont=>exact r
 | ret u=>exact r
theorem E9 (h:t { D with nx:=λσ' H'=>∃ (d:Addr) (o:Obj) (kvs:List (Key×V)),H' d=some (.iO o (.dK kvs))/\(∀ o' u',H0 d≠some (.iO o' u'))/\D.nx σ' (upd H' d (.dK kvs)) } σ H):BU H0 t D σ H:=h
def Hg (t:TA):TE:=λσ H _=>t σ H λ_ _=>False
theorem I8 {t:TA} {σ:St} (h:t σ H λ_ _=>False):Hg t σ H Q:=h
theorem FC {K:Frag} {mg:W1} {x:Str} {s0:Stmt} {ps:List Str} {e:Expr} {es:List Expr} {ta:TA} {p pos:Pos} (D:Def K mg x s0 ps) (hK:X.K=K) (hM:X.mg=mg) (hg:Gl X x) (ha:PA X (e::es) ta) (vC:(x==("__debug__":Str))=false:=by decide)
  (he:starEach (e::es) X.env=(false,eval e X.env)::starEach es X.env:=by rfl) (lK:(backTo pos (starEach es X.env)).any (·.1)=false:=by rfl):PE X (.Call (.Name x p) (e::es) [] pos) (Hg ta):=by
 intro pins s σ H Q I h;obtain ⟨f,fd,F,hm,_⟩:=D.ex;subst hK hM;refine zcc (i5 I hg hm ?_ vC);exact zej (h₀:=X.base) I.ok.mod.La F.kp (cA (ha pos pins s σ H _ I h) λus s1 ⟨vs,H1,I1,r,q⟩=>q.elim) he lK
end
end L2
namespace cK
open Gm L2
def v4 (l:Wp):V4:=⟨l.getD 0 0,l.getD 1 0,l.getD 2 0,l.getD 3 0⟩
def l4 (p:V4):Wp:=[p.x,p.y,p.z,p.w]
def l3 (p:V3):Wp:=[p.u,p.v,p.w]
theorem LH (p:V4):v4 (l4 p)=p:=rfl
theorem four {l:Wp} (h:l.length=4):∃ x y z w,l=[x,y,z,w]:=by
 match l,h with
 | [x,y,z,w],_=>exact ⟨x,y,z,w,rfl⟩
theorem MH (h:l.length=4):l4 (v4 l)=l:=by
 obtain ⟨x,y,z,w,rfl⟩:=four h
 rfl
def cl (L:Uf) (i:Nat):V4:=v4 (L.getD i [])
def ke (L:Uf) (z:Nat):Prop:=∀ l∈L,l.length=4/\∀ x∈l,Sz z x
def S4 (z:Nat) (p:V4):Prop:=Sz z p.x/\Sz z p.y/\Sz z p.z/\Sz z p.w
def S3 (z:Nat) (p:V3):Prop:=Sz z p.u/\Sz z p.v/\Sz z p.w
theorem ke.at (h:ke L z) (hi:i<L.length):L[i]?=some (l4 (cl L i))/\S4 z (cl L i):=by
 have e:L.getD i []=L[i]:=by rw [ZP,ZJ hi];rfl
 obtain ⟨a,b⟩:=h _ (Z4 hi);have k:l4 (cl L i)=L[i]:=by unfold cl;rw [e];exact MH a
 refine ⟨by rw [k];exact ZJ hi,?_⟩;rw [<-k] at b;exact ⟨b _ (by simp [l4]),b _ (by simp [l4]),b _ (by simp [l4]),b _ (by simp [l4])⟩
def wy (c:Nat->V4) (pl e f:V4):Nat->V4
 | 0=>neg pl
 | j+1=>if 0<dot (wy c pl e f j) (c j) then aL e f (c j) else wy c pl e f j
theorem yd {c:Nat->V4} {n:Nat} {pl e f:V4} (N:wg c n pl e f):∀ j,j<=n->Sw c pl e f j (wy c pl e f j)
 | 0,_=>Sw.start
 | j+1,h=>by
  have ih:=yd N j (by omega);unfold wy;by_cases z:0<dot (wy c pl e f j) (c j)
  ·rw [ZW z];exact ih.turn N (by omega) z
  ·rw [ZU z];exact ih.keep N (by omega) z
def jt (c:Nat->V4) (pl:V4) (n:Nat):List Nat:=(List.range n).filter λi=>decide (dot pl (c i)=0)
theorem eX:i∈jt c pl n↔i<n/\dot pl (c i)=0:=by
 unfold jt;rw [mem_filter,zeh,zbk]
def FK (c:Nat->V4) (pl:V4) (i:Nat) (ks:List Nat) (f:Nat):Nat:=ks.foldl (λf m=>if dU c pl i f m then m else f) f
theorem sN {c:Nat->V4} {n:Nat} {pl:V4} (hz:Nz pl) {i:Nat} (hi:i<n) (ci:bD c n i) (si:dot pl (c i)=0):∀ (ks:List Nat) (f:Nat) (P:Nat->Prop),(∀ k∈ks,k<n/\dot pl (c k)=0)->f<n->dot pl (c f)=0->(∀ q,P q->q<n/\dot pl (c q)=0/\Ok c pl i f q)->
  FK c pl i ks f<n/\dot pl (c (FK c pl i ks f))=0/\∀ q,(P q\/q∈ks)->Ok c pl i (FK c pl i ks f) q
 | [],f,P,_,h1,h2,h3=>⟨h1,h2,λq hq=>(h3 q (hq.elim id λz=>by cases z)).2.2⟩
 | k::ks,f,P,hk,h1,h2,h3=>by
  have k1:=hk k zac;have step:FK c pl i (k::ks) f=FK c pl i ks (if dU c pl i f k then k else f):=rfl;rw [step];by_cases z:dU c pl i f k=true
  ·rw [ZW z];have:=sN hz hi ci si ks k (λq=>P q\/q=k) (λx hx=>hk x (Z5 _ hx)) k1.1 k1.2 (λq hq=>by
    rcases hq with hq|hq
    ·obtain ⟨a,b,d⟩:=h3 q hq;exact ⟨a,b,FF hz ci si h1 k1.1 a h2 k1.2 b z d⟩
    ·rw [hq];exact ⟨k1.1,k1.2,FH _ _⟩)
   refine ⟨this.1,this.2.1,λq hq=>this.2.2 q ?_⟩;rcases hq with hq|hq
   ·exact .inl (.inl hq)
   ·rcases zas.mp hq with hq|hq
    ·exact .inl (.inr hq)
    ·exact .inr hq
  ·rw [ZU z];have z':dU c pl i f k=false:=by simpa using z
   have:=sN hz hi ci si ks f (λq=>P q\/q=k) (λx hx=>hk x (Z5 _ hx)) h1 h2 (λq hq=>by
    rcases hq with hq|hq
    ·exact h3 q hq
    ·rw [hq];exact ⟨k1.1,k1.2,Aq z'⟩)
   refine ⟨this.1,this.2.1,λq hq=>this.2.2 q ?_⟩;rcases hq with hq|hq
   ·exact .inl (.inl hq)
   ·rcases zas.mp hq with hq|hq
    ·exact .inl (.inr hq)
    ·exact .inr hq
def Qu (c:Nat->V4) (n:Nat) (pl:V4) (i:Nat):Nat:=FK c pl i (jt c pl n) i
theorem xf (hz:Nz pl) (hi:i<n) (ci:bD c n i) (si:dot pl (c i)=0):Nx c n pl i (Qu c n pl i):=by
 have:=sN hz hi ci si (jt c pl n) i (λ_=>False) (λk hk=>eX.mp hk) hi si (λq z=>z.elim);exact ⟨this.1,this.2.1,λq hq sq=>this.2.2 q (.inr (eX.mpr ⟨hq,sq⟩))⟩
theorem Ch.len {n:Nat} {first cur:Nat} (h:Ch c n pl first r cur):r.length<=n:=by
 have:=jx (l:=r) (r:=List.range n) h.nd λx hx=>zaj.mpr (h.on x hx).1;rwa [zaN] at this
theorem x6 (ha:S3 z a) (hb:S3 z b) (hc:S3 z c):Sz (3*z+3) (tn a b c):=by
 have m2:∀ {x y:Int},Sz z x->Sz z y->Sz (2*z) (x*y):=λhx hy=>(Sz.mul hx hy).mono (by omega);have m3:∀ {x y:Int},Sz z x->Sz (2*z+1) y->Sz (3*z+1) (x*y):=λhx hy=>(Sz.mul hx hy).mono (by omega);have d:∀ {x y u v:Int},Sz z x->Sz z y->Sz z u->Sz z v->Sz (2*z+1) (x*y-u*v):=λh1 h2 h3 h4=>Sz.sub (m2 h1 h2) (m2 h3 h4);unfold tn;exact Sz.add (Sz.add (m3 ha.1 (d hb.2.1 hc.2.2 hb.2.2 hc.2.1)) (m3 ha.2.1 (d hb.2.2 hc.1 hb.1 hc.2.2))) (Sz.mono (m3 ha.2.2 (d hb.1 hc.2.1 hb.2.1 hc.1)) (by omega))
theorem ER (ha:S4 z a) (hb:S4 z b) (hc:S4 z c):S4 (3*z+3) (aL a b c):=
 ⟨x6 ⟨ha.2.1,ha.2.2.1,ha.2.2.2⟩ ⟨hb.2.1,hb.2.2.1,hb.2.2.2⟩ ⟨hc.2.1,hc.2.2.1,hc.2.2.2⟩,x6 ⟨ha.2.2.1,ha.1,ha.2.2.2⟩ ⟨hb.2.2.1,hb.1,hb.2.2.2⟩ ⟨hc.2.2.1,hc.1,hc.2.2.2⟩,
  x6 ⟨ha.1,ha.2.1,ha.2.2.2⟩ ⟨hb.1,hb.2.1,hb.2.2.2⟩ ⟨hc.1,hc.2.1,hc.2.2.2⟩,x6 ⟨ha.2.1,ha.1,ha.2.2.1⟩ ⟨hb.2.1,hb.1,hb.2.2.1⟩ ⟨hc.2.1,hc.1,hc.2.2.1⟩⟩
theorem S4.neg (h:S4 z p):S4 z (cK.neg p):=⟨h.1.neg,h.2.1.neg,h.2.2.1.neg,h.2.2.2.neg⟩
theorem mV {c:Nat->V4} {n z:Nat} {pl e f:V4} (hp:S4 (3*z+3) pl) (he:S4 z e) (hf:S4 z f) (hc:∀ i,i<n->S4 z (c i)):∀ j,j<=n->S4 (3*z+3) (wy c pl e f j)
 | 0,_=>hp.neg
 | j+1,h=>by
  unfold wy;by_cases q:0<dot (wy c pl e f j) (c j)
  ·rw [ZW q];exact ER he hf (hc j (by omega))
  ·rw [ZU q];exact mV hp he hf hc j (by omega)
end cK
namespace L2
open PySem PySem.Spec PySem.W PySem.Calls PyProof.Rows
def xZ (K:Frag) (a:Addr):Option XV:=match K.lookup a with
 | some ⟨.type "tuple",_,.seq aJ _,_⟩=>some aJ.toList
 | _=>none
def gW (K:Frag) (v:Value) (ns:Wp):Bool:=match v with
 | .ref a=>(match xZ K a with|some l=>(l.map λu=>match u with | .int n _=>some n|_=>none)==ns.map some|_=>false)
 | _=>false
def mw (K:Frag) (a:Addr):Bool:=match xZ K a with
 | some [v0,v1,v2,v3]=>gW K v0 [1,2,3]&&gW K v1 [2,0,3]&&gW K v2 [0,1,3]&&gW K v3 [1,0,2]
 | _=>false
theorem BQ {K:Frag} {a:Addr} {l:XV} (h:xZ K a=some l) (hl:l.length<=100) {xs:List V} (r:Vals xs l) (H:Hp):SqT K H a xs:=by
 unfold xZ at h;split at h
 ·rename_i q;cases h
  exact .inr ⟨_,_,_,q,rfl,rfl,by rw [zbf,<-zaa];exact zag hl (by decide),r⟩
 ·cases h
theorem ints_of {K:Frag} {v:Value} {ns:Wp} (h:gW K v ns=true) (hl:ns.length<=100):∃ a,v=.ref a/\∀ H,SqT K H a (ns.map V.int):=by
 unfold gW at h;split at h
 ·rename_i a;refine ⟨a,rfl,λH=>?_⟩;split at h
  ·rename_i l e;have h:=eq_of_beq h;have key:∀ (l:XV) (ns:Wp),(l.map λu=>match u with | .int n _=>some n|_=>none)=ns.map some->Vals (ns.map V.int) l:=by
    intro l
    induction l with
    | nil=>intro ns e;cases ns with|nil=>exact .nil|cons _ _=>cases e
    | cons u l ih=>
     intro ns e;cases ns with
     | nil=>cases e
     | cons n ns=>
      rw [zaX,zaX] at e;injection e with e1 e2;refine .cons ?_ (ih ns e2);split at e1
      ·cases e1;exact ⟨_,rfl⟩
      ·cases e1
   refine BQ e ?_ (key l ns h) H;have:=zaO List.length h;rw [ZK,ZK] at this;omega
  ·cases h
 ·cases h
structure Views (K:Frag) (a:Addr):Prop where
 ex:∃ b0 b1 b2 b3:Addr,(∀ H,SqT K H a [.ref b0,.ref b1,.ref b2,.ref b3])/\(∀ H,SqT K H b0 [.int 1,.int 2,.int 3])/\(∀ H,SqT K H b1 [.int 2,.int 0,.int 3])/\(∀ H,SqT K H b2 [.int 0,.int 1,.int 3])/\∀ H,SqT K H b3 [.int 1,.int 0,.int 2]
theorem uv {K:Frag} {a:Addr} (h:mw K a=true):Views K a:=by
 unfold mw at h;split at h
 ·rename_i v0 v1 v2 v3 e;rw [zcw,zcw,zcw] at h;obtain ⟨⟨⟨h0,h1⟩,h2⟩,h3⟩:=h;obtain ⟨b0,rfl,s0⟩:=ints_of h0 (by decide);obtain ⟨b1,rfl,s1⟩:=ints_of h1 (by decide);obtain ⟨b2,rfl,s2⟩:=ints_of h2 (by decide);obtain ⟨b3,rfl,s3⟩:=ints_of h3 (by decide);exact ⟨b0,b1,b2,b3,λH=>BQ (xs:=[.ref b0,.ref b1,.ref b2,.ref b3]) e (show 4<=100 by decide) (.cons rfl (.cons rfl (.cons rfl (.cons rfl .nil)))) H,s0,s1,s2,s3⟩
 ·cases h
theorem LJ {K:Frag} {a:Addr} (h:gW K (.ref a) [0,0,1,0]=true) (H:Hp):SqT K H a [.int 0,.int 0,.int 1,.int 0]:=by
 obtain ⟨b,e,s⟩:=ints_of h (by decide);cases e
 exact s H
end L2
namespace cK
open PySem L2 Gm
def kA (ks:List Nat) (α:Nat->Addr):List (Key×V):=ks.map λ(i:Nat)=>((Sum.inl (i:Int):Key),V.ref (α i))
theorem Dk (ks:List Nat) (α:Nat->Addr):(kA ks α).length=ks.length:=by unfold kA;simp
theorem Dj {i:Nat}:ie (kA ks α) (Sum.inl (i:Int):Key)=if i∈ks then some (V.ref (α i)) else none:=by
 induction ks with
 | nil=>rfl
 | cons k ks ih=>
  show ie (((Sum.inl (k:Int):Key),V.ref (α k))::kA ks α) _=_;by_cases z:i=k
  ·subst z;rw [hZ rfl,ZW zac]
  ·rw [ic (λq=>z (by injection q with q;exact (zdc q).symm)),ih];by_cases y:i∈ks
   ·rw [ZW y,ZW (Z5 _ y)]
   ·rw [ZU y,ZU (λw=>(zas.mp w).elim z y)]
theorem JJ {i:Nat} (h:i∉ks):V5 (kA ks α) (Sum.inl (i:Int):Key) (V.ref a)=kA (ks++[i]) λj=>if j=i then a else α j:=by
 rw [uY _ (by rw [Dj,ZU h])];unfold kA;rw [Z6,zaX,map_nil];dsimp only;rw [ZW rfl]
 congr 1
 refine zbG λj hj=>?_;have n:j≠i:=λz=>h (by rw [<-z];exact hj);rw [ZU n]
theorem jR (c:Nat->V4) (pl:V4) (n:Nat):jt c pl (n+1)=jt c pl n++if dot pl (c n)=0 then [n] else []:=by
 unfold jt;rw [zcP,zdd];by_cases z:dot pl (c n)=0
 ·rw [ZW z];simp [z]
 ·rw [ZU z];simp [z]
end cK
namespace L2
open PySem PySem.Spec PySem.W PySem.Calls PyProof.Rows
theorem Av:typeLookup (.type "list") "keys"=pure none:=by rw [typeLookup_type,zdK];kernel_rfl
theorem rk:entryFor table "dict.update.loop"=some Builtin.«dict.update.loop»:=entryFor_of_tree (by kernel_rfl)
theorem iZ:plainId "dict.update.loop"=true:=by decide +kernel
theorem FN (hx:s.heap.get? a=some { cls:=.type "list",data:=.seq xs k }) (hA:A.handled=none)
  (h:∀ h' tk,(∀ b o,s.heap.get? b=some o->h'.get? b=some o)->Q none { s with heap:=h',toks:=tk }):wpAny (model prog w) A (getAttr? (.ref a) "keys") Q E s:=by
 obtain ⟨hp,g,d,tk,os⟩:=s;have hT:∀ LP,(⟨hp,g,d,LP,os⟩:Shared).TypeIs (.ref a) "list":=λ_=>⟨_,hx,rfl⟩;have f1:=sub_AttributeError;have f3:=PySem.F.slot_list_getattribute.lookup;have f4:=PySem.F.slot_list_getattribute.bind (.ref a);have f5:=am_list_getattr_none;unfold getAttr? getAttrBy? getAttrBy
 repeat (any_goals (first|assumption|exact hT _ | ((with_reducible show wpAny _ _ (call (Value.builtin "list.__getattribute__") _ _) _ _ _);refine zel PySem.F.slot_list_getattribute (hT _) am_entry_list_getattribute (PySem.F.args_list_getattribute_2 _ _) (meets_getattribute_miss_list a xs k #[] "keys" _ Av (by decide +kernel) (by decide +kernel)) ⟨hx,hA,λh' LP e F7=>?_⟩) | wp_step))
 obtain ⟨t',u',he⟩:=F7.there;show wpAny _ _ (getattributeRaised _ _ _ _ _ _ _) _ _ _;unfold getattributeRaised
 repeat (any_goals (first|assumption|wp_step))
 exact h h' LP F7.keeps
def tY (H:Hp) (ps:XL) (kv:List (List Key×V)):Prop:=ps.length=kv.length/\∀ (j:Nat) (p:Addr) (k:List Key) (v:V),ps[j]?=some p->kv[j]?=some (k,v)->∃ b,H p=some (.tup [.ref b,v])/\H b=some (.tup (k.map kV))
def putAll (kvs kv:List (List Key×V)):List (List Key×V):=kv.foldl (λacc p=>V5 acc p.1 p.2) kvs
section
variable {X:Cx} {pins:WF} {σ:St} {H:Hp} {s:Shared} {A:Around} {E:WP}
theorem A7 (hu:A.units+1<cLine) (I:Inv X pins σ H s) (e:H d=some (.dT kvs)) (eb:H b=some (.tup (k.map kV))) (l:kvs.length<sizeLine) (rv:RelV v r)
  (h:∀ s',s'.gens=s.gens->Heap.SameBut d s.heap s'.heap->Inv X pins σ (upd H d (.dT (V5 kvs k v))) s'->Q () s'):wpAny (model X.prog X.w) A.in1 (dictSet d (.ref b) r) Q E s:=by
 obtain ⟨z,hd,xs,rel,dd⟩:=oO I.aZ e;have hz:xs.length<=sizeLine:=by rw [<-zcq rel];exact z
 have hl:(V5 kvs k v).length<=sizeLine:=by have:=fQ kvs k v;omega
 refine wpAny_dictSet_heap (hsz:=hz) (zcz hu) (kW I.aZ eb) dd λh' Ll hs=>h _ rfl hs ?_;obtain ⟨q,es,ep,hq,h2,h3,h4,_,h5⟩:=Ll;refine mQ I (by rw [e];exact True.intro) hs ⟨q,hq⟩ ⟨hl,hd,_,(rel.put k eb rv).keeps λc ys ec=>?_,q,es,ep,hq,h2,h3,h4,h5⟩;rw [aq (CZ ec e (λz=>nomatch z))];exact ec
theorem w6 (hu:A.units+1<cLine) (I:Inv X pins σ H s) (hit:s.heap.IsListIter it l i) (hl:s.heap.IsList l aJ) (hx:aJ[i]?=some (.ref p))
  (fit:jB X pins H it) (ed:H d=some (.dT kvs)) (ep:H p=some (.tup [.ref b,v])) (eb:H b=some (.tup (k.map kV))) (hz:kvs.length<sizeLine)
  (h:∀ s',s'.heap.IsListIter it l (i+1)->Inv X pins σ (upd H d (.dT (V5 kvs k v))) s'->codeAny (model X.prog X.w) A (.builtin "dict.update.loop" ⟨[.ref d,.ref it,rawInt ((i:Int)+1),.none],[]⟩) R s') :
  codeAny (model X.prog X.w) A (.builtin "dict.update.loop" ⟨[.ref d,.ref it,rawInt (i:Int),.none],[]⟩) R s:=by
 refine zaP rk ?_;rw [zaC iZ _];unfold Builtin.«dict.update.loop»;dsimp only;refine rd (wpAny_pyNext_list_item hit hl hx λh' jH sb=>?_);have I1:Inv X pins σ H { s with heap:=h' }:=I.turned (t':=s.toks) (λb o hb e=>(sb.2 b hb).trans e) fit.1 fit.2.1 fit.2.2.2.1 fit.2.2.2.2.1 fit.2.2.2.2.2;obtain ⟨_,us,vals,op,hp,Xb,np,Q9⟩:=(show aW X.prog X.w H h' p (.tup [.ref b,v]) from I1.aZ p _ ep);obtain ⟨u1,u2,rfl,r1,r2⟩:=vals2 vals;obtain rfl:u1=Value.ref b:=r1;dsimp only;refine rd (zau ?_);refine rd (zdz ?_);unfold Builtin.Dict.pairItems;refine rd (zdy (T:= "tuple") ⟨op,hp,Xb⟩ ?_);rw [ZW (by decide)];refine rd (zaT hp Q9 (ZR ?_));show wpAny _ _ (holding [Value.ref b,u2] (dictSet d (.ref b) u2)) _ _ _;have K7:it≠d:=λz=>by have:=fit.1;rw [z,ed] at this;cases this
 refine zau (A7 hu I1 ed eb hz r2 λs' _ hs I2=>?_);exact ZR ⟨zbw iZ _,h s' (jH.at λo q=>(hs.2 it K7).trans q) I2⟩
theorem An (I:Inv X pins σ H s) (hA:A.handled=none) (hit:s.heap.IsListIter it l i) (hl:s.heap.IsList l aJ) (hx:aJ[i]?=none)
  (fit:jB X pins H it) (h:∀ s',Inv X pins σ H s'->R (.ok (.ret .none)) s') :
  codeAny (model X.prog X.w) A (.builtin "dict.update.loop" ⟨[.ref d,.ref it,rawInt (i:Int),.none],[]⟩) R s:=by
 refine zaP rk ?_;rw [zaC iZ _];unfold Builtin.«dict.update.loop»;dsimp only;refine rd (wpAny_pyNext_list_end hA hit hl hx λh' sb=>?_);have I1:Inv X pins σ H { s with heap:=h' }:=I.turned (t':=s.toks) (λb o hb e=>sb b o hb e) fit.1 fit.2.1 fit.2.2.2.1 fit.2.2.2.2.1 fit.2.2.2.2.2;dsimp only;refine rd (m:=Builtin.Dict.addKeywords d []) (ZR ?_);exact ZR (h _ I1)
theorem w9 (hu:A.units+1<cLine) (hA:A.handled=none) (hl:H l=some (.lst (ps.map V.ref))) (pr:tY H ps kv) (hd:H d=none) (fit:jB X pins H it) (K7:it≠d) :
  ∀ (m i:Nat) (kvs:List (List Key×V)) (s:Shared),kv.length-i=m->i<=kv.length->kvs.length+(kv.length-i)<sizeLine->Inv X pins σ (upd H d (.dT kvs)) s->s.heap.IsListIter it l i->
   (∀ s',Inv X pins σ (upd H d (.dT (putAll kvs (kv.drop i)))) s'->R (.ok (.ret .none)) s')->codeAny (model X.prog X.w) A (.builtin "dict.update.loop" ⟨[.ref d,.ref it,rawInt (i:Int),.none],[]⟩) R s:=by
 have old:∀ {kvs:List (List Key×V)} {b o},H b=some o->upd H d (.dT kvs) b=some o:=λ{kvs b o} e=>by rw [aq (λz=>by rw [z,hd] at e;cases e)];exact e
 have NK:∀ kvs:List (List Key×V),jB X pins (upd H d (.dT kvs)) it:=λkvs=>⟨by rw [aq K7];exact fit.1,fit.2⟩;intro m
 induction m with
 | zero=>
  intro i kvs s hm hi hz I hit h;have ei:i=kv.length:=by omega
  obtain ⟨aJ,rv,pl,_⟩:=I.list (show aH X.K (upd H d (.dT kvs)) l (ps.map V.ref) from aH.of (old hl));have ll:=rv.length;rw [ZK,pr.1] at ll;refine An I hA hit pl.isList (by simp;omega) (NK kvs) λs' J=>h s' ?_;rw [ei,drop_length];exact J
 | succ m ih=>
  intro i kvs s hm hi hz I hit h;have lt:i<kv.length:=by omega
  obtain ⟨aJ,rv,pl,_⟩:=I.list (show aH X.K (upd H d (.dT kvs)) l (ps.map V.ref) from aH.of (old hl));have ip:i<ps.length:=by rw [pr.1];exact lt
  obtain ⟨b,ep,eb⟩:=pr.2 i ps[i] kv[i].1 kv[i].2 (ZJ ip) (ZJ lt);obtain ⟨u,MS,ru⟩:=rv.get (i:=i) (x:=V.ref ps[i]) (by rw [ZS,ZJ ip];rfl);obtain rfl:u=Value.ref ps[i]:=ru;refine w6 hu I hit pl.isList (p:=ps[i]) (by simpa using MS) (NK kvs) ae (old ep) (old eb) (by omega) λs' JX J=>?_;rw [rQ] at J;have lp:=fQ kvs kv[i].1 kv[i].2;refine ih (i+1) (V5 kvs kv[i].1 kv[i].2) s' (by omega) (by omega) (by omega) J JX λs2 J2=>h s2 ?_;rw [zbm lt];exact J2
def CB:List V->Hp->VK->Prop:=λxs H Q=>∃ (l:Addr) (ps:XL) (kv:List (List Key×V)),xs=[.ref l]/\H l=some (.lst (ps.map V.ref))/\tY H ps kv/\kv.length<=1000/\∀ d,H d=none->Q (.ref d) (upd H d (.dT (putAll [] kv)))
theorem oW (hu:X.A.units+64<cLine) (hc:X.calm=true):cR X (.type "dict") CB:=by
 intro pins s σ H xs us Q I r h;obtain ⟨l,ps,kv,rfl,hl,pr,hz,q⟩:=h;obtain ⟨u,rfl,ru⟩:=vals1 r;obtain rfl:u=Value.ref l:=ru;have hA:X.A.handled=none:=I.ok.hd hc;have hd:H s.heap.objs.size=none:=I.aZ.fresh (ZQ _);refine callType_codes (Q₁:=λobj s₁=>obj=.ref s.heap.objs.size/\s₁={ s with heap:=s.heap.push { cls:=.type "dict",data:=.dict #[] } }) PySem.F.kt_called_dict (PySem.F.kt_typeCall_dict_1 _) PySem.F.entry_dict_init (kt_code_dict_new _ ⟨rfl,rfl⟩) ?_;rintro obj s₁ ⟨rfl,rfl⟩;have Q4:(s.heap.objs.size==sysModules)=false:=by
  have:=I.big;rw [zeb];exact zax this
 have I1:Inv X pins σ (upd H s.heap.objs.size (.dT [])) { s with heap:=s.heap.push { cls:=.type "dict",data:=.dict #[] } }:=I.laid (t':=s.toks) (λb u e=>ZN _ e) (ZQ _)
  ⟨Z7 _,Q4,[],.nil,_,_,_,Z3 _ rfl,⟨rfl,rfl,rfl⟩,rfl,rfl,.nil⟩
 have M8:(s.heap.push { cls:=.type "dict",data:=.dict #[] }).DictOf (bj X.prog X.w) s.heap.objs.size []:=Heap.DictOf.new s.heap;refine ⟨M8.typeIs,PySem.F.args_dict_init_2 _ _,?_⟩;unfold Builtin.«dict.__init__»;refine rd ?_;unfold Builtin.Dict.selfAndRest;refine rd (wpAny_notOrdered_dict M8.typeIs ?_);show wpAny _ _ (pure (s.heap.objs.size,[Value.ref l])) _ _ _;refine ZR ?_;show wpAny _ _ (Builtin.Dict.updateFrom _ s.heap.objs.size (.ref l) [] .none) _ _ _;unfold Builtin.Dict.updateFrom;have lo:=I1.aZ l _ (show upd H s.heap.objs.size (.dT []) l=some (.lst (ps.map V.ref)) by rw [aq (λz=>by rw [z,hd] at hl;cases hl)];exact hl);obtain ⟨_,aJ,n,rv,eo⟩:=lo;refine rd (zdy (T:= "list") ⟨_,eo,rfl⟩ ?_);rw [ZW (by decide)];refine rd (FN eo (show X.A.in1.in1.handled=none from hA) λh' tk keep=>?_);have I2:=I1.kept (h':=h') (t':=tk) keep;dsimp only;rw [ZW (show (none:Option Value).isNone=true from rfl)];refine rd (zdh ?_);obtain ⟨JM,K4,uj,_⟩:=I2.list (show aH X.K (upd H s.heap.objs.size (.dT [])) l (ps.map V.ref) from aH.of (by rw [aq (λz=>by rw [z,hd] at hl;cases hl)];exact hl));refine rd (zcG uj.isList ?_);have lt:s.heap.objs.size<h'.objs.size:=ZM (keep _ _ (Z3 s.heap (o:={ cls:=.type "dict",data:=.dict #[] }) rfl));refine ZR ⟨zbw iZ _,?_⟩;refine w9 (A:=X.A.in1) (it:=h'.objs.size) (l:=l) (kv:=kv) (show X.A.units+1+1<cLine by omega) (show X.A.in1.handled=none from hA) hl pr hd (I2.qg (ZQ _) (I.aZ.fresh (zaA lt))) (zax lt) kv.length 0 [] _ (by omega) (Z7 _)
  (by rw [zay];simp;omega) (I2.kept (t':=tk) λb o e=>ZN _ e) ⟨_,Z3 _ rfl,rfl,rfl⟩ λs' J=>⟨rfl,.ref s.heap.objs.size,_,J,rfl,q _ hd⟩
end
section
variable {X:Cx} {pins:WF} {σ:St} {H:Hp} {s:Shared} {A:Around} {E:WP}
theorem FX (r:KT H kvs xs):xs.map (·.1)=kvs.map (·.1):=by
 induction r with
 | nil=>rfl
 | cons h _ ih=>rw [zaX,zaX,ih,h.1]
theorem FW (r:KT H kvs xs) (eb:H b=some (.tup (k.map kV))) (rv:RelV v u):KT H (kvs++[(k,v)]) (xs++[(k,b,u)]):=by
 induction r with
 | nil=>exact .cons ⟨rfl,eb,rv⟩ .nil
 | cons h _ ih=>exact .cons h ih
theorem Gz (hu:A.units+1<cLine) (I:Inv X pins σ H s) (e:H d=some (.dT kvs)) (eb:H b=some (.tup (k.map kV))) (fr:k∉kvs.map (·.1)) (l:kvs.length<sizeLine) (rv:RelV v u)
  (h:∀ h':Heap,Heap.SameBut d s.heap h'->Inv X pins σ (upd H d (.dT (kvs++[(k,v)]))) { s with heap:=h' }->Q () { s with heap:=h' }) :
  wpAny (model X.prog X.w) A.in1 (dictSetHashed d (.ref b) ((tupleKind (bj X.prog X.w)).hash k) u) Q E s:=by
 obtain ⟨z,Q4,xs,rel,o,es,ep,ho,hc,Ga,he,Xv,hn⟩:=oO I.aZ e;have ks:=FX rel;have hz:es.size<=sizeLine:=by
  have e1:=zaO List.length he;have e2:=zcq rel;rw [zaa,ZK] at e1;omega
 have miss:∀ (j:Nat) (p:Addr×Value),xs[j]?≠some (k,p):=λj p w=>fr (by rw [<-ks];exact mem_map_of_mem (ZX w));unfold dictSetHashed;refine zau ?_;refine rd (wpAny_dictFind_heap (zcz hu) (kW I.aZ eb) ho Ga he Xv hn (λ_=>?_) λj p w=>absurd w (miss j p));refine rd (zdh (wpAny_updateDictKeys (hz:=hz) ho Ga (h _ (zbK ..) ?_)));have sb:Heap.SameBut d s.heap (s.heap.update d (Obj.mapDictKeys λa=>a.push ⟨(tupleKind (bj X.prog X.w)).hash k,.ref b,u⟩)):=zbK ..;have g:=zaM (Obj.mapDictKeys λa=>a.push ⟨(tupleKind (bj X.prog X.w)).hash k,.ref b,u⟩) ho (Obj.isFreed_of_dict (Obj.data_mapDictKeys Ga _));refine mQ (t':=s.toks) I (by rw [e];exact True.intro) sb ⟨_,g⟩ ⟨by rw [ZV];simp;omega,Q4,xs++[(k,b,u)],?_,_,_,ep+1,g,hc.mapDictKeys _,Obj.data_mapDictKeys Ga _,by simp [he,entryOfKey],?_⟩
 ·refine Paired.vc (FW rel eb rv) λp q w=>⟨w.1,?_,w.2.2⟩;rw [aq (CZ w.2.1 e (λz=>by cases z))];exact w.2.1
 ·rw [Z6,zeg];refine ⟨hn,by simp,λx hx y hy=>?_⟩;rw [ZT.mp hy];rintro rfl;exact fr (by rw [<-ks];exact hx)
theorem kt_at (r:KT H kvs xs) {i:Nat} (h:kvs[i]?=some p):∃ b u,xs[i]?=some (p.1,b,u)/\H b=some (.tup (p.1.map kV))/\RelV p.2 u:=by
 induction r generalizing i with
 | nil=>simp at h
 | @cons a c as cs hd _ ih=>
  cases i with
  | zero=>
   have e:a=p:=by simpa using h
   subst e;obtain ⟨c1,c2,c3⟩:=c;obtain ⟨h1,h2,h3⟩:=hd;exact ⟨c2,c3,by simp;exact h1.symm,h2,h3⟩
  | succ i=>
   obtain ⟨b,u,e,f⟩:=ih (i:=i) (by simpa using h);exact ⟨b,u,by simpa using e,f⟩
theorem Aw {id:String} {Q:Unit->Shared->Prop} (hu:A.units+1<cLine) (I:Inv X pins σ H s) (ed:H d=some (.dT kvs)) (eo:H o=some (.dT more)) (Lc:d≠o) (k0:kvs≠[]) (m0:more≠[]) (dj:((kvs++more).map (·.1)).Nodup) (hz:kvs.length+more.length<sizeLine)
  (h:∀ s',Inv X pins σ (upd H d (.dT (kvs++more))) s'->Q () s'):wpAny (model X.prog X.w) A.in1 (Builtin.Dict.mergeDict id d o) Q E s:=by
 obtain ⟨_,_,xs,L9,od,UU,Yu,RW,_,UC,UA,_,_⟩:=oO I.aZ ed;obtain ⟨_,Ug,ys,IS,oo,Kq,Yt,Lh,_,AQ,Ey,_,_⟩:=oO I.aZ eo;have sz:Kq.size=more.length:=by
  have e1:=zaO List.length Ey;have e2:=zcq IS;rw [zaa,ZK] at e1;omega
 have S1:0<UU.size:=by
  have e1:=zaO List.length UA;have e2:=zcq L9;rw [zaa,ZK] at e1;have:=zbJ.mpr k0;omega
 have en:∀ i (hi:i<more.length),∃ b u,Kq[i]?=some ⟨(tupleKind (bj X.prog X.w)).hash more[i].1,.ref b,u⟩/\H b=some (.tup (more[i].1.map kV))/\RelV more[i].2 u:=λi hi=>by
  obtain ⟨b,u,e1,e2,e3⟩:=kt_at IS (i:=i) (p:=more[i]) (ZJ hi);refine ⟨b,u,?_,e2,e3⟩;have:Kq.toList[i]?=some (entryOfKey (tupleKind (bj X.prog X.w)) (more[i].1,b,u)):=by rw [Ey,ZS,e1];rfl
  rw [Array.getElem?_toList] at this;exact this
 have wC:(decide (Kq.size<=8)&&Kq.all λe=>(keyPart e.key).isSome)=false:=by
  have hp:=zbJ.mpr m0;obtain ⟨b,u,e1,_⟩:=en 0 hp;rw [Bool.and_eq_false_iff];right;rw [<-Bool.not_eq_true,Array.all_eq_true];intro w;have l0:0<Kq.size:=by rw [sz];exact hp
  have:=w 0 l0;rw [zbb l0] at e1;rw [ZO e1] at this;cases this
 unfold Builtin.Dict.mergeDict;rw [ZU (by simpa using Lc)];unfold Builtin.Dict.showsAll;rw [ZU (by rw [Ug];exact zae)];refine rd (ZR ?_);refine rd (zdD Lh AQ ?_);dsimp only;rw [wC];rw [ZW (by rfl)];refine rd (zdD RW UC ?_);rw [ZU (by rw [Bool.not_eq_true,Array.isEmpty_eq_false_iff];intro z;rw [z] at S1;exact absurd S1 (zam _))];refine rd (wpAny_dictEpoch Lh AQ ?_);refine rd (zdD Lh AQ ?_);refine rd ?_;rw [Std.Legacy.Range.forIn_eq_forIn_range'];simp only [Std.Legacy.Range.size,Nat.sub_zero,zdk,Nat.div_one];refine wpAny_forIn_list _ (λrest _ s'=>∃ i,rest=List.range' i (more.length-i)/\i<=more.length/\Inv X pins σ (upd H d (.dT (kvs++more.take i))) s'/\s'.heap.get? o=some oo) _ ?_ ?_ _ _
  ⟨0,by rw [sz];simp,Z7 _,by rw [take_zero,zbr,show upd H d (.dT kvs)=H from funext λb=>by unfold upd;split<;>simp_all];exact I,Lh⟩
 ·rintro x rest b s' ⟨i,er,hi,J,go⟩;have lt:i<more.length:=by
   refine Nat.lt_of_not_le λw=>?_;rw [Nat.sub_eq_zero_of_le w] at er;cases er
  have e3:more.length-i=(more.length-(i+1))+1:=by omega
  rw [e3,range'_succ] at er;injection er with ex NL;subst ex;obtain ⟨bk,u,e1,e2,ru⟩:=en x lt;have fr:more[x].1∉(kvs++more.take x).map (·.1):=by
   have e4:kvs++more=(kvs++more.take x)++(more[x]::more.drop (x+1)):=by rw [zdA,<-zbm lt,zdO]
   rw [e4,Z6,zaX,zeg] at dj;exact λw=>dj.2.2 _ w _ zac rfl
  have tl:(more.take x).length<=more.length:=by rw [Z9];omega
  have nb:bk≠d:=λz=>by rw [z,ed] at e2;cases e2
  refine rd (zdD go AQ ?_);rw [e1];show wpAny _ _ (holding [Value.ref bk,u] (dictSetHashed d (.ref bk) ((tupleKind (bj X.prog X.w)).hash more[x].1) u) >>= _) _ _ _;refine rd (zau (Gz hu J ae (by rw [aq nb];exact e2) fr (by rw [ZV];omega) ru λh' sb J2=>?_));have go2:h'.get? o=some oo:=(sb.2 o (zaD Lc)).trans go;refine rd (wpAny_dictEpoch go2 AQ ?_);rw [ZU (by simp)];refine ZR ⟨x+1,NL,lt,?_,go2⟩;rw [rQ,zdA] at J2;rw [zbQ,ZJ lt];exact J2
 ·rintro b s' ⟨i,er,hi,J,go⟩;have ei:i=more.length:=by
   refine Nat.le_antisymm hi (Nat.le_of_not_lt λw=>?_);have e3:more.length-i=(more.length-(i+1))+1:=by omega
   rw [e3,range'_succ] at er;cases er
  rw [ei,zbn] at J;exact ZR (h s' J)
def Ml:V->List V->Hp->VK->Prop:=λx ys H Q=>∃ (d o:Addr) (kvs more:List (List Key×V)),x=.ref d/\ys=[.ref o]/\H d=some (.dT kvs)/\H o=some (.dT more)/\d≠o/\kvs≠[]/\more≠[]/\((kvs++more).map (·.1)).Nodup/\kvs.length+more.length<5000/\Q .gn (upd H d (.dT (kvs++more)))
theorem BM (hu:A.units+64<cLine) (I:Inv X pins σ H s) (ed:H d=some (.dT kvs)) (eo:H o=some (.dT more)) (Lc:d≠o) (k0:kvs≠[]) (m0:more≠[]) (dj:((kvs++more).map (·.1)).Nodup) (hz:kvs.length+more.length<5000)
  (h:∀ s',Inv X pins σ (upd H d (.dT (kvs++more))) s'->Q .none s'):wpAny (model X.prog X.w) A (call (.builtin "dict.update") [.ref d,.ref o]) Q E s:=by
 obtain ⟨_,_,xs,L9,od,UU,Yu,RW,pW,UC,UA,_,_⟩:=oO I.aZ ed;obtain ⟨_,Ug,ys,IS,oo,Kq,Yt,Lh,O4,AQ,Ey,_,_⟩:=oO I.aZ eo;have tD:s.TypeIs (.ref d) "dict":=⟨od,RW,pW.1⟩;have tO:s.TypeIs (.ref o) "dict":=⟨oo,Lh,O4.1⟩;refine zbC PySem.F.slot_dict_update tD PySem.F.entry_dict_update ?_ (PySem.F.args_dict_update_2 _ _);unfold Builtin.«dict.update»;refine rd (show wpAny _ _ (Builtin.Dict.selfAndRest _ _) _ _ _ from ?_);unfold Builtin.Dict.selfAndRest;refine rd (wpAny_notOrdered_dict tD ?_);show wpAny _ _ (pure (d,[Value.ref o])) _ _ _;refine ZR ?_;show wpAny _ _ (Builtin.Dict.updateFrom _ d (.ref o) [] .none) _ _ _;unfold Builtin.Dict.updateFrom;refine rd (zdy tO ?_);rw [ZU (by decide)];refine rd (show wpAny _ _ (Builtin.Dict.merge _ _ _) _ _ _ from ?_);unfold Builtin.Dict.merge;refine rd (show wpAny _ _ (Builtin.Dict.readDirectly _) _ _ _ from ?_);unfold Builtin.Dict.readDirectly;refine rd (wpAny_isInstance tO isSubtype_dict_dict ?_);simp only [zez,zaF,zch];refine rd (zde tO PySem.F.slot_dict_iter.lookup (ZR ?_));simp only [zcW,zee];refine rd (ZR (Aw (show A.units+1<cLine by omega) I ed eo Lc k0 m0 dj (by rw [zbf];omega) λs' J=>?_));show wpAny _ _ (Builtin.Dict.addKeywords d [] >>= _) _ _ _;exact rd (ZR (ZR ⟨.none,rfl,h s' J⟩))
end
theorem FQ (hu:X.A.units+64<cLine):Oe X "dict.update" Ml:=by
 intro pins s σ H x xs v us Q I rx r h;obtain ⟨d,o,kvs,more,rfl,rfl,ed,eo,Lc,k0,m0,dj,hz,q⟩:=h;obtain ⟨u,rfl,ru⟩:=vals1 r;obtain rfl:u=Value.ref o:=ru;obtain rfl:v=Value.ref d:=rx;exact BM hu I ed eo Lc k0 m0 dj hz λs' J=>⟨.gn,_,J,rfl,q⟩
end L2
theorem L2.zJ:PySem.bootBuiltins "dict"=some (.type "dict"):=by decide +kernel
namespace cK
open PySem L2 Gm
def di (w:Nat×Nat):dM:=((w.1:Int),(w.2:Int))
theorem DZ (h:di a=di b):a=b:=by
 unfold di at h;injection h with h1 h2;exact zcC (zdc h1) (zdc h2)
def ri (r:List Nat):Wp:=r.map λ(i:Nat)=>(i:Int)
theorem bu (r:List Nat):(ri r).length=r.length:=by unfold ri;simp
theorem Cg (h:0<r.length) (j:Nat):cy (ri r) j=(at' r (j%r.length):Int):=by
 unfold cy at';rw [bu];have lt:j%r.length<r.length:=zaK _ h;rw [ZP,ZP,ZJ (by rw [bu];exact lt),ZJ lt];unfold ri;simp
theorem B6 (h:0<r.length):sh 0 (ri r)=(fL r).map di:=by
 unfold sh fL dj;rw [bu,zdR];refine zbG λj hj=>?_;rw [zeh] at hj;simp only [Function.comp,Nat.add_zero];rw [Cg h,Cg h,zal hj]
 rfl
theorem qV {l:List (Nat×Nat)} (h:l.Nodup):(l.map di).Nodup:=by
 rw [zbv,zbY];exact zcH (λn e=>n (DZ e)) h
theorem C2 {l:List (Nat×Nat)} {w:Nat×Nat}:di w∈l.map di↔w∈l:=by
 rw [mem_map];constructor
 ·rintro ⟨x,hx,e⟩;rw [<-DZ e];exact hx
 ·exact λh=>⟨w,h,rfl⟩
theorem Wr.range (W:Wr c n F):∀ w∈bL F,w.1<n/\w.2<n:=by
 rintro ⟨x,y⟩ hw;obtain ⟨p,hp,hm⟩:=zbN.mp hw;obtain ⟨_,R⟩:=W.fc p hp;obtain ⟨x1,y1,_⟩:=R.step hm;exact ⟨(R.on x x1).1,(R.on y y1).1⟩
theorem Wr.wC (W:Wr c n F):(bL F).length<=n*n:=by
 have:=jx (l:=bL F) (r:=(List.range n).flatMap λa=>(List.range n).map λb=>(a,b)) W.nd λw hw=>by
  obtain ⟨a,b⟩:=W.range w hw;rw [mem_flatMap];exact ⟨w.1,zaj.mpr a,zaB.mpr ⟨w.2,zaj.mpr b,rfl⟩⟩
 have e:((List.range n).flatMap λa=>(List.range n).map λb=>(a,b)).length=n*n:=by
  have k:∀ m:Nat,((List.range m).flatMap λa=>(List.range n).map λb=>(a,b)).length=m*n:=λm=>by
   induction m with
   | zero=>simp
   | succ m ih=>rw [zcP,zdu,ZV,ih,Nat.succ_mul];simp
  exact k n
 omega
structure wd (c:Nat->V4) (n:Nat) (F W:List (List Nat×V4)) (P:(List Nat×V4)->Prop):Prop where
 wr:Wr c n F
 sub:∀ w∈W,w∈F
 cls:∀ p∈F,p∈W\/P p\/∀ x y,(x,y)∈fL p.1->(y,x)∈bL F
theorem wd.add (C:bE c n) (h:wd c n F W P) (Fp:Fc c n p) (R:Rg c n p r) (h1:w∈fL r) (h2:w∉bL F):wd c n (F++[(r,p)]) (W++[(r,p)]) P:=by
 refine ⟨h.wr.add C Fp R h1 h2,λq hq=>?_,λq hq=>?_⟩
 ·rcases ZZ.mp hq with z|z
  ·exact zbz _ (h.sub q z)
  ·exact zaL _ z
 ·rcases ZZ.mp hq with z|z
  ·rcases h.cls q z with a|a|a
   ·exact .inl (zbz _ a)
   ·exact .inr (.inl a)
   ·exact .inr (.inr λx y sV=>by rw [iW];exact zbz _ (a x y sV))
  ·exact .inl (zaL _ z)
theorem wd.start (Fp:Fc c n p) (R:Rg c n p r):wd c n [(r,p)] [(r,p)] λ_=>False:=
 ⟨Wr.one Fp R,λ_ h=>h,λq hq=>.inl hq⟩
theorem wd.pop (h:wd c n F (W++[q]) λ_=>False):wd c n F W λp=>p=q:=by
 refine ⟨h.wr,λw hw=>h.sub w (zbz _ hw),λp hp=>?_⟩;rcases h.cls p hp with a|a|a
 ·rcases ZZ.mp a with z|z
  ·exact .inl z
  ·exact .inr (.inl (ZT.mp z))
 ·exact a.elim
 ·exact .inr (.inr a)
theorem wd.close (h:wd c n F W λp=>p=q) (d:∀ x y,(x,y)∈fL q.1->(y,x)∈bL F):wd c n F W λ_=>False:=by
 refine ⟨h.wr,h.sub,λp hp=>?_⟩;rcases h.cls p hp with a|a|a
 ·exact .inl a
 ·subst a;exact .inr (.inr d)
 ·exact .inr (.inr a)
theorem wd.done (h:wd c n F [] λ_=>False):∀ x y,(x,y)∈bL F->(y,x)∈bL F:=by
 intro x y hw;obtain ⟨p,hp,hm⟩:=zbN.mp hw;rcases h.cls p hp with a|a|a
 ·cases a
 ·exact a.elim
 ·exact a x y hm
theorem yQ (ks:List dM):(kD ks).map (·.1)=ks.map oA:=by unfold kD;rw [zdR];rfl
theorem keys_nodup (h:ks.Nodup):((kD ks).map (·.1)).Nodup:=by
 rw [yQ,zbv,zbY];exact zcH (λn e=>n (ou e)) h
theorem kX (a b:List dM):kD (a++b)=kD a++kD b:=by unfold kD;rw [Z6]
theorem nF:∀ {ks acc:List dM},(acc++ks).Nodup->putAll (kD acc) (kD ks)=kD (acc++ks)
 | [],acc,_=>by rw [zbr];rfl
 | d::ks,acc,h=>by
  have e:acc++d::ks=(acc++[d])++ks:=by simp
  have n:d∉acc:=by
   rw [zeg] at h;exact λm=>h.2.2 d m d zac rfl
  have p:V5 (kD acc) (oA d) (V.bl true)=kD (acc++[d]):=by
   rw [uY,kX]
   ·rfl
   ·cases q:ie (kD acc) (oA d) with
    | none=>rfl
    | some v=>
     have:=EL q;rw [yQ,mem_map] at this;obtain ⟨x,hx,ex⟩:=this;exact absurd (ou ex▸hx) n
  show putAll (V5 (kD acc) (oA d) (V.bl true)) (kD ks)=_;rw [p,e,nF (by rw [<-e];exact h)]
end cK
namespace Dq
open Dt
def sg:Nat->Rat
 | 0=>1
 | n+1=>- sg n
abbrev Mx:=Nat->Nat->Rat
def mi (A:Mx) (j:Nat):Mx:=λi l=>A (i+1) (sk j l)
def det:Nat->Mx->Rat
 | 0,_=>1
 | n+1,A=>sq (n+1) λj=>sg j*A 0 j*det n (mi A j)
def cl (A:Mx) (c:Nat) (v:Nat->Rat):Mx:=λi j=>if j=c then v i else A i j
def tr (A:Mx):Mx:=λi j=>A j i
def rl (A:Mx) (k:Nat) (v:Nat->Rat):Mx:=λi j=>if i=k then v j else A i j
def pr:Nat->(Nat->Rat)->Rat
 | 0,_=>1
 | n+1,f=>f 0*pr n λi=>f (i+1)
end Dq
namespace L2
open PySem
end L2
namespace Dt
open PySem L2 Fr Gm
def b8 (fs:List (Int×Int)):Int:=fs.foldl (λb f=>b / ((Int.gcd b f.2:Nat):Int)*f.2) 1
theorem iI (fs:List (Int×Int)) (f:Int×Int):b8 (fs++[f])=b8 fs / ((Int.gcd (b8 fs) f.2:Nat):Int)*f.2:=by
 unfold b8;rw [foldl_append]
 rfl
def pz:Nat->(Nat->Int)->Int
 | 0,_=>1
 | n+1,f=>f 0*pz n λi=>f (i+1)
end Dt
namespace L2
open PySem PySem.Spec PySem.W PySem.Calls PyProof.Rows Gm
mutual
theorem jc.det {H:Hp}:∀ {v:V} {d e:PyData},jc H v d->jc H v e->d=e
 | _,_,_,.int _,.int _=>rfl
 | _,_,_,.lst h a,.lst k b=>by
  rw [h] at k;cases k;rw [bZ.det a b]
 | _,_,_,.lst h _,.tup k _=>by rw [h] at k;cases k
 | _,_,_,.tup h _,.lst k _=>by rw [h] at k;cases k
 | _,_,_,.tup h a,.tup k b=>by
  rw [h] at k;cases k;rw [bZ.det a b]
theorem bZ.det {H:Hp}:∀ {vs:List V} {ds es:List PyData},bZ H vs ds->bZ H vs es->ds=es
 | _,_,_,.nil,.nil=>rfl
 | _,_,_,.cons a b,.cons c d=>by rw [jc.det a c,bZ.det b d]
end
def lC (H:Hp) (bs:XL) (ds:List PyData):Prop:=bs.length=ds.length/\∀ (j:Nat) (b:Addr) (e:PyData),bs[j]?=some b->ds[j]?=some e->jc H (.ref b) e/\SeqAt.shaped e=true/\e.depth<=8
noncomputable def EC (H:Hp) (d:PyData):Value->Bool:=λv=>match v with | .ref b=>@decide (∃ e,jc H (.ref b) e/\PyData.eqv e d=true) (Classical.propDecidable _) | _=>false
theorem DS (h:jc H (.ref b) e):EC H d (.ref b)=PyData.eqv e d:=by
 show @decide (∃ e,jc H (.ref b) e/\PyData.eqv e d=true) (Classical.propDecidable _)=_;cases q:PyData.eqv e d with
 | true=>exact @zad _ (Classical.propDecidable _) ⟨e,h,q⟩
 | false=>
  refine @zah _ (Classical.propDecidable _) ?_;rintro ⟨e',h',q'⟩;rw [<-h.det h',q] at q';cases q'
theorem Iy:∀ {xs:List V} {us:XV} (_:Vals xs us) (j:Nat) (b:Addr),xs[j]?=some (V.ref b)->us[j]?=some (.ref b):=by
 intro xs us h
 induction h with
 | nil=>intro j b z;simp at z
 | cons r _ ih=>
  intro j b z;cases j with
  | zero=>simp at z;subst z;cases r;rfl
  | succ j=>exact ih j b (by simpa using z)
theorem q4 {σ:St} {s:Shared} (I:Inv X pins σ H s) (hu:X.A.units+64<cLine) {d:PyData} (hx:jc H x d) (rx:RelV x u) (hd:SeqAt.shaped d=true) (g:lC H bs ds) (rv:Vals (bs.map V.ref) aJ) :
  (∀ (j:Nat) (hj:j<aJ.length),∃ e,ds[j]?=some e/\EC H d aJ[j]=PyData.eqv e d)/\∀ y∈aJ,SeqAt.EqAt X.A.in1 s y u (EC H d y):=by
 have at_:∀ (j:Nat) (hj:j<aJ.length),∃ (b:Addr) (e:PyData),aJ[j]=.ref b/\ds[j]?=some e/\jc H (.ref b) e/\SeqAt.shaped e=true/\e.depth<=8:=λj hj=>by
  have hl:=rv.length;rw [ZK] at hl;have jb:j<bs.length:=by omega
  have jd:j<ds.length:=by rw [<-g.1];exact jb
  obtain ⟨r1,r2⟩:=g.2 j _ _ (ZJ jb) (ZJ jd);have e:=Iy rv j bs[j] (by rw [ZS,ZJ jb];rfl);exact ⟨bs[j],ds[j],(ZL.mp e).2,ZJ jd,r1,r2⟩
 refine ⟨λj hj=>?_,λy hy=>?_⟩
 ·obtain ⟨b,e,h1,h2,h3,_⟩:=at_ j hj;exact ⟨e,h2,by rw [h1];exact DS h3⟩
 ·obtain ⟨j,hj,rfl⟩:=zaS.mp hy;obtain ⟨b,e,h1,h2,h3,h4,h5⟩:=at_ j hj;rw [h1,DS h3];obtain ⟨ZD,r1⟩:=jc.reads I h3 (show RelV (V.ref b) (.ref b) from rfl);obtain ⟨ZC,r2⟩:=jc.reads I hx rx;exact SeqAt.eqAt_reads _ _ _ _ _ _ _ _ r1 r2 (zbI h4) (zbI hd) (by simp only [zcy];have:min e.depth d.depth<=e.depth:=Nat.min_le_left _ _;omega)
def Qe (neg:Bool):R2:=λx y H Q=>∃ (t:Addr) (bs:XL) (ds:List PyData) (d:PyData),y=.ref t/\H t=some (.lst (bs.map V.ref))/\jc H x d/\SeqAt.shaped d=true/\lC H bs ds/\Q (.bl (if neg then !ds.any (λe=>PyData.eqv e d) else ds.any (λe=>PyData.eqv e d))) H
theorem NZ {ds:List PyData} {d:PyData} {aJ:XV} {H:Hp} (hl:aJ.length=ds.length) (h:∀ (j:Nat) (hj:j<aJ.length),∃ e,ds[j]?=some e/\EC H d aJ[j]=PyData.eqv e d):aJ.toArray.any (EC H d)=ds.any λe=>PyData.eqv e d:=by
 rw [zcB];simp only [any_toArray,any_eq_true];constructor
 ·rintro ⟨y,hy,e⟩;obtain ⟨j,hj,rfl⟩:=zaS.mp hy;obtain ⟨r,hr,e2⟩:=h j hj;rw [e2] at e;exact ⟨r,ZX hr,e⟩
 ·rintro ⟨r,hm,er⟩;obtain ⟨j,hj⟩:=zcE.mp hm;have jl:=(ZL.mp hj).1;obtain ⟨r',hr,e2⟩:=h j (by omega);rw [hj] at hr;cases hr
  exact ⟨aJ[j]'(by omega),Z4 _,by rw [e2];exact er⟩
theorem Jp (hu:X.A.units+64<cLine):me X (compareOp .In) (Qe false):=by
 intro pins s σ H x y v u Q I rx ry h;obtain ⟨t,bs,ds,d,rfl,ht,hx,hd,g,q⟩:=h;cases ry
 obtain ⟨z,aJ,n,r,_,e⟩:=I.vd ht;obtain ⟨k1,k2⟩:=q4 I hu hx rx hd g r;have hl:=r.length;rw [ZK,g.1] at hl;refine SeqAt.in_listAt (EC H d) ⟨_,e,rfl,n,rfl⟩ (λy hy=>k2 y (by simpa using hy)) ⟨.bl (ds.any λe=>PyData.eqv e d),H,I,?_,q⟩;show Value.bool (aJ.toArray.any (EC H d))=Value.bool (ds.any λe=>PyData.eqv e d);rw [NZ hl.symm k1]
def Fl:V->List V->Hp->VK->Prop:=λx vs H Q=>∃ (t:Addr) (y:V) (bs:XL) (ds:List PyData) (d:PyData) (k:Nat) (e:PyData),x=.ref t/\vs=[y]/\H t=some (.lst (bs.map V.ref))/\jc H y d/\SeqAt.shaped d=true/\lC H bs ds/\
 ds[k]?=some e/\PyData.eqv e d=true/\(∀ m e',m<k->ds[m]?=some e'->PyData.eqv e' d=false)/\Q (.int (k:Nat)) H
theorem Au (hu:X.A.units+64<cLine):Pl X "list.index" Fl:=by
 intro pins s σ H x vs v us Q I rx rv h;obtain ⟨t,y,bs,ds,d,k,e0,rfl,rfl,ht,hy,hd,g,hk,ek,fk,q⟩:=h;cases rx
 obtain ⟨u,rfl,ru⟩:=vals1 rv;obtain ⟨z,aJ,n,r,_,e⟩:=I.vd ht;obtain ⟨k1,k2⟩:=q4 I hu hy ru hd g r;have hl:=r.length;rw [ZK,g.1] at hl;have X4:=nY;have kl:=(ZL.mp hk).1;rw [ZK,g.1] at z;refine zel F.slot_list_index ⟨_,e,rfl⟩ F.entry_list_index (F.args_list_index_2 _ _) (SeqAt.list_indexAt t aJ.toArray n none #[] u (EC H d) k (by rw [Z8];omega) (by omega) ?_ ?_) ⟨e,?_,?_⟩
 ·obtain ⟨r',hr,e2⟩:=k1 k (by omega);show EC H d aJ[k]=true;rw [e2];rw [hk] at hr;cases hr
  exact ek
 ·intro m iK dI;obtain ⟨r',hr,e2⟩:=k1 m (by simpa using iK);show EC H d (aJ[m]'(by simpa using iK))=false;rw [e2];exact fk m r' dI hr
 ·intro y hy;exact k2 y (by simpa using hy)
 ·exact ⟨.int (k:Nat),H,I.tok _,⟨_,rfl⟩,q⟩
end L2
namespace L2
open PySem PySem.Spec PySem.W PySem.Calls PyProof.Rows
def iR (h:Heap) (vs:XV) (f:Nat->Wp):Prop:=∀ i,i<vs.length->∃ b o n r q us,vs[i]?=some (.ref b)/\h.get? b=some o/\o.cls=.type "tuple"/\o.data=.seq #[.ref r,.ref q] n/\h.IsList r us/\IntsAre us.toList (f i)
theorem iR.keep (r:iR h vs f) (k:∀ b o,h.get? b=some o->h'.get? b=some o):iR h' vs f:=λi hi=>by
 obtain ⟨b,o,n,r,q,us,e,h1,h2,h3,l,z⟩:=r i hi;exact ⟨b,o,n,r,q,us,e,k _ _ h1,h2,h3,l.at λo z=>k _ o z,z⟩
theorem nB (z:IntsAre us l):ReadsAll h us (l.map .int) []:=by
 induction z with
 | nil=>exact .nil
 | cons n t _ ih=>exact .cons (as:=[]) (bs:=[]) (.int n t) ih
theorem DV {us vs:Array Value} (h1:s.heap.IsList r1 us) (h2:s.heap.IsList r2 vs) (i1:IntsAre us.toList l) (i2:IntsAre vs.toList m) (hu:A.units+8<cLine):SeqAt.EqAt A s (.ref r1) (.ref r2) (decide (l=m)):=by
 obtain ⟨o1,a1,a2,n1,a3⟩:=h1;obtain ⟨o2,b1,b2,n2,b3⟩:=h2;have d:∀ l:Wp,(cg l).depth<=1:=λl=>by unfold cg;simp [PyData.depth,(lay_ints l).2]
 rw [<-Gm.tK];exact SeqAt.eqAt_reads (cg l) (cg m) _ _ _ _ _ _ (.list a1 a2 a3 (nB i1)) (.list b1 b2 b3 (nB i2)) (zbI (Gm.shaped_ints _)) (zbI (Gm.shaped_ints _)) (by have:=d l;have:min (cg l).depth (cg m).depth<=(cg l).depth:=Nat.min_le_left _ _;omega)
theorem KN (inj:∀ i j,i<vs.length->j<vs.length->f i=f j->i=j) (hr:iR s.heap vs f) (hu:A.units+8<cLine):qB (kas_cmp prog w A (tuples' true) (pairsOf vs)) vs.length f s:=by
 intro i j C hi hj c;obtain ⟨b1,o1,n1,r1,q1,u1,e1,g1,c1,d1,l1,x1⟩:=hr i hi;obtain ⟨b2,o2,n2,r2,q2,u2,e2,g2,c2,d2,l2,x2⟩:=hr j hj;rw [<-kas_ask_eq];unfold kas_ask;have k1:vs.getD i Value.none=.ref b1:=by rw [ZP,e1];rfl
 have k2:vs.getD j Value.none=.ref b2:=by rw [ZP,e2];rfl
 rw [k1,k2];refine kat_lt g1 d1 g2 d2 ?_;show KatLex prog w A true (decide (2<2)) C [(.ref r1,.ref r2),(.ref q1,.ref q2)] 0 s;refine kat_cons (DV l1 l2 x1 x2 hu prog w _ _ ?_);by_cases z:f i=f j
 ·rw [zad z];obtain rfl:=inj i j hi hj z;rw [e1] at e2;cases e2
  rw [g1] at g2;cases g2
  rw [d1] at d2;have:r1=r2/\q1=q2:=by injection d2 with d2 _;injection d2 with d2;injection d2 with d2 d3;injection d3 with d3;injection d2 with d2;injection d3 with d3;exact ⟨d2,d3⟩
  obtain ⟨rfl,rfl⟩:=this;refine kat_yes (kat_cons (SeqAt.EqAt.same _ prog w _ _ (kat_yes (kat_nil ?_))));have:HT.Vq (f i) (f i)=false:=Le.refl (f i);rw [this] at c;exact c
 ·rw [zah z];exact kat_no (lJ l1 l2 x1 x2 (by omega) c)
theorem ML (hr:iR s.heap vs f) (h0:0<vs.length) (h:Q (tuples' true) s):wpAny (model prog w) A (keyKind' vs.toArray) Q E s:=by
 have mk:∀ (us:XV),(∀ u∈us,∃ b o n r q ws,u=.ref b/\s.heap.get? b=some o/\o.cls=.type "tuple"/\o.data=.seq #[.ref r,.ref q] n/\s.heap.IsList r ws)->∃ fs,fs.length=us.length/\KatTups s.heap us fs/\∀ v∈fs,∃ r ws,v=.ref r/\s.heap.IsList r ws:=by
  intro us
  induction us with
  | nil=>intro _;exact ⟨[],rfl,KatTups.nil,λv hv=>by cases hv⟩
  | cons u us ih=>
   intro hu;obtain ⟨b,o,n,r,q,ws,rfl,h1,h2,h3,h4⟩:=hu u zac;obtain ⟨fs,k1,k2,k3⟩:=ih λv hv=>hu v (Z5 _ hv);refine ⟨.ref r::fs,by simp [k1],KatTups.cons h1 h2 h3 rfl k2,λv hv=>?_⟩;rcases zas.mp hv with rfl|z
   ·exact ⟨r,ws,rfl,h4⟩
   ·exact k3 v z
 obtain ⟨fs,k1,k2,k3⟩:=mk vs λu hu=>by
  obtain ⟨i,hi,rfl⟩:=zaS.mp hu;obtain ⟨b,o,n,r,q,us,e,h1,h2,h3,h4,_⟩:=hr i hi;rw [ZJ hi] at e;exact ⟨b,o,n,r,q,us,ZO e,h1,h2,h3,h4⟩
 refine kat_kind (T:=.type "list") k2 (by omega) (λv hv=>?_) rfl h;obtain ⟨r,ws,rfl,o,z1,z2,z3⟩:=k3 v hv;intro A' Q' E' s' kk qq;exact zdy (T:= "list") ⟨o,kk _ _ z1,z2⟩ qq
theorem B3 (ho:s.heap.get? a=some (seqObj "list" vs.toArray n)) (vJ:vs.length<64) (hu:A.units+8<cLine) (r3:iR (jw s.heap a vs) vs f) (inj:∀ i j,i<vs.length->j<vs.length->f i=f j->i=j)
  (k:∀ p:Array Nat,Arr vs.length p->Up f p vs.length->P (.done (.ret .none)) { s with heap:=sortedHeap s.heap a vs (cI vs p) }) :
  wpAny (model prog w) A (Builtin.«list.sort» ⟨[.ref a],[]⟩) P E s:=by
 have xt:vs.length<=sizeLine:=by rw [zbf];omega
 obtain ⟨ep,M6⟩:∃ ep,(s.heap.update a (Obj.mapSeq λ_=>#[])).get? a=some (seqObj "list" #[] ep):=⟨_,get?_update_seq ho (λ_=>#[])⟩;have F9:(jw s.heap a vs).get? a=some (seqObj "list" #[] ep):=ZN _ (ZN _ M6);rw [list_sort_plain];refine rd (listItems_at ho rfl (rd (zcs ho rfl (rd (zdo M6 rfl (rd (zdv (rd (zdb (zau ?_) (Z7 _))) xt)))) (by rw [Z8];exact xt) (Z7 _))));show wpAny (model prog w) A _ P E { s with heap:=jw s.heap a vs };dsimp only;by_cases h2:vs.toArray.size<2
 ·rw [ZW h2,ZW h2];refine rd (ZR ?_);rw [StateT.run_pure];refine rd (ZR (rd (zdo F9 rfl ?_)));have eo:(arrOf (SortSt.mk' general' (vs.toArray.zip vs.toArray) #[] 7 none)).map (·.2)=cI vs (List.toArray (List.range vs.length)):=by
   rw [i4];show (vs.toArray.zip vs.toArray).map (·.2)=vs.toArray;apply Array.ext';simp;exact rO vs
  dsimp only;rw [eo];refine rd (zcs F9 rfl ?_ (Z7 _) (by rw [i4,Z8];exact zdw xt));simp only [zdx,zaF,zch];refine ZR (k _ (NY _) λi hi=>?_);rw [Z8] at h2;omega
 ·rw [ZU h2,ZU h2];have mK:2<=vs.length:=by rw [Z8] at h2;omega
  refine rd (ML (s:={ s with heap:=jw s.heap a vs }) r3 (by omega) ?_)
  ·have Sf:SortSt.mk' (tuples' true) (vs.toArray.zip vs.toArray) #[] 7 none=kas_st (tuples' true) (pairsOf vs) (List.toArray (List.range vs.length)):=by
    have e:=kas_range (pairsOf vs);rw [pairsOf_size] at e;unfold kas_st;rw [e]
    rfl
   have run:=kas_runs (prog:=prog) (w:=w) (A:=A) (κ:=(tuples' true)) (it:=pairsOf vs) (E:=E) (Q:=λ_ jH s'=>s'={ s with heap:=jw s.heap a vs }/\∃ p:Array Nat,Arr vs.length p/\Up f p vs.length/\arrOf jH=p.map (kas_item (pairsOf vs))/\failedOf jH=none)
    (G:=λp s'=>s'={ s with heap:=jw s.heap a vs }/\Arr vs.length p/\Up f p vs.length) mK vJ (λp' jH s' a1 a2 a3 a4=>⟨a4.1,p',a4.2.1,a4.2.2,a2,a3⟩) (yk (KN inj (s:={ s with heap:=jw s.heap a vs }) r3 hu) (by omega) λp h1 h3=>⟨rfl,h1,h3⟩)
   rw [<-Sf] at run;refine rd (zao run ?_ λ_ _ e=>e);rintro ⟨⟨⟩,jH⟩ s' ⟨rfl,p,hp,AJ,RK,hf⟩;dsimp only;have eo:(arrOf jH).map (·.2)=cI vs p:=by
    unfold cI;apply Array.toList_inj.mp;rw [RK,Array.map_map,Array.toList_map];refine zbG λi _=>?_;rw [Function.comp_apply,kas_item_eq]
   rw [eo];have zo:(cI vs p).size=vs.length:=by unfold cI;rw [Z8,ZK,zaa,hp.size]
   refine rd (zdo F9 rfl (rd (zcs F9 rfl ?_ (Z7 _) (by rw [zo];exact zdw xt))));rw [hf];simp only [zdx,zaF,zch];exact ZR (k p hp AJ)
theorem wK (hl:s.heap.IsList l vs.toArray) (vJ:vs.length<64) (hu:A.in1.in1.units+8<cLine) (hr:iR s.heap vs f) (inj:∀ i j,i<vs.length->j<vs.length->f i=f j->i=j)
  (k:∀ p:Array Nat,Arr vs.length p->Up f p vs.length->Q (.ref (s.heap.objs.size+1)) { s with heap:=sortedAll s.heap vs (cI vs p) }) :
  wpAny (model prog w) A (call (.builtin "sorted") [.ref l]) Q E s:=by
 have xt:vs.length<=sizeLine:=by rw [zbf];omega
 refine Calls.call_function_entry kind_sorted plain_sorted entry_sorted (args_sorted1 _) ?_;unfold Builtin.«sorted»;refine rd (m:=checkCount "sorted" 1 1 _) (ZR (rd (collect_list hl (rd (zdb ?_ xt)) xt)));generalize hh:(s.heap.push (seqObj "list" #[] 0)).update s.heap.objs.size (Obj.mapSeq (·++vs.toArray))=h1;have z1:h1.objs.size=s.heap.objs.size+1:=by rw [<-hh,zbP,size_push']
 have o1:(h1.push (seqObj "list" vs.toArray 0)).get? (s.heap.objs.size+1)=some (seqObj "list" vs.toArray 0):=by rw [<-z1];exact Z3 _ rfl
 have old:∀ b o,s.heap.get? b=some o->(h1.push (seqObj "list" vs.toArray 0)).get? b=some o:=λb o q=>by
  have lt:=ZM q;rw [zcp _ _ _ (by rw [z1];exact Z1 (zbu lt)),<-hh,zcu _ _ _ _ (Z1 lt),zcp _ _ _ (Z1 lt)];exact q
 show wpAny _ _ _ _ _ { s with heap:=h1.push (seqObj "list" vs.toArray 0) };rw [z1];refine rd (zau (zbC slot_list_sort ⟨_,o1,rfl⟩ entry_list_sort (B3 (f:=f) o1 vJ hu (hr.keep λb o z=>yK (λw=>?_) (old b o z)) inj λp hp AJ=>⟨_,rfl,?_⟩) (args_list_sort _)))
 ·rw [w] at z;exact absurd (ZM z) (zcj.mpr (zbt _))
 ·refine ZR ⟨_,rfl,?_⟩;have:=k p hp AJ;unfold sortedAll at this;rw [hh] at this;exact this
theorem EN {σ:St} {s:Shared} (I:Inv X pins σ H s):∀ {as:XL} {L:Uf} {aJ:XV},Vals (as.map V.ref) aJ->as.length=L.length->(∀ (i:Nat) (a:Addr) (l:Wp),as[i]?=some a->L[i]?=some l->∃ r q,H a=some (.tup [.ref r,.ref q])/\H r=some (.lst (l.map V.int)))->iR s.heap aJ (λi=>L.getD i []):=by
 intro as L aJ rv hl hs i hi;have z:=rv.length;rw [ZK] at z;have ha:i<as.length:=by omega
 have hL:i<L.length:=by omega
 obtain ⟨u,hu,ru⟩:=rv.get (i:=i) (show (as.map V.ref)[i]?=some (V.ref as[i]) by simp [ha]);cases ru
 obtain ⟨r,q,h1,h2⟩:=hs i as[i] L[i] (by simp [ha]) (by simp [hL]);obtain ⟨_,us,K4,o,g,hc,n,hd⟩:=(show aW X.prog X.w H s.heap as[i] (.tup [.ref r,.ref q]) from I.aZ _ _ h1);obtain ⟨rs,rr,rp,_⟩:=I.list (show aH X.K H r (L[i].map V.int) from aH.of h2);have e2:us=[.ref r,.ref q]:=by
  cases K4 with
  | cons a b=>
   cases b with
   | cons c d=>cases d;cases a;cases c;rfl
 subst e2;refine ⟨as[i],o,n,r,q,rs.toArray,hu,g,hc,hd,rp.isList,?_⟩;have e:L.getD i []=L[i]:=by simp [hL]
 dsimp only;rw [e];exact intsAre_of rr
def Cw (K:Frag):List V->Hp->VK->Prop:=λvs H Q=>∃ (a:Addr) (as:XL) (L:Uf),vs=[.ref a]/\aH K H a (as.map V.ref)/\as.length=L.length/\(∀ (i:Nat) (b:Addr) (l:Wp),as[i]?=some b->L[i]?=some l->∃ r q,H b=some (.tup [.ref r,.ref q])/\H r=some (.lst (l.map V.int)))/\L.Nodup/\as.length<64/\
 ∀ (p:Array Nat) (q:Addr),Arr L.length p->Up (λi=>L.getD i []) p L.length->H q=none->Q (.ref q) (upd H q (.lst ((pick 0 as p).map V.ref)))
theorem tS (hu:X.A.units+64<cLine):cR X (.builtin "sorted") (Cw X.K):=by
 intro pins s σ H xs us Q I r h;obtain ⟨a,as,L,rfl,ha,hl,hs,nd,vJ,q⟩:=h;obtain ⟨u,rfl,ru⟩:=vals1 r;cases ru
 obtain ⟨aJ,rv,pl,hz⟩:=I.list ha;have z:=rv.length;rw [ZK] at z;refine wK (f:=λi=>L.getD i []) pl.isList (by omega) (by simp only [zcy];omega) (EN I rv hl hs) (λi j hi hj e=>?_) λp hp AJ=>?_
 ·have hi:i<L.length:=by omega
  have hj:j<L.length:=by omega
  rw [ZP,ZP,ZJ hi,ZJ hj] at e;have e:L[i]=L[j]:=e;rcases zab i j with h|h|h
  ·exact absurd e (zaH.mp (zck.mp nd) i j hi hj h)
  ·exact h
  ·exact absurd e.symm (zaH.mp (zck.mp nd) j i hj hi h)
 obtain ⟨ep,k1⟩:=sortedAll_at s.heap aJ (cI aJ p);have JS:Arr L.length p:=by rw [<-hl,z];exact hp
 have MQ:((pick 0 as p).map V.ref).length<=sizeLine:=by unfold pick;rw [ZK,ZK,zaa,hp.size,zay];omega
 have K4:Vals ((pick 0 as p).map V.ref) (cI aJ p).toList:=by
  have go:∀ l:List Nat,(∀ i∈l,i<aJ.length)->Vals ((l.map λi=>as.getD i 0).map V.ref) (l.map λi=>aJ.getD i Value.none):=by
   intro l
   induction l with
   | nil=>intro _;exact .nil
   | cons i l ih=>
    intro h;refine .cons ?_ (ih λj hj=>h j (Z5 _ hj));have hi:=h i zac;have uk:i<as.length:=by omega
    obtain ⟨u,hu,ru⟩:=rv.get (i:=i) (show (as.map V.ref)[i]?=some (V.ref as[i]) by simp [uk]);have e1:as.getD i 0=as[i]:=by simp [uk]
    have e2:aJ.getD i Value.none=u:=by rw [ZP,hu];rfl
    dsimp only;rw [e1,e2];exact ru
  refine go _ λi hi=>?_;have:=(hp.perm.mem_iff).mp (zcL.mp hi);simpa using this
 have new:aW X.prog X.w (upd H (s.heap.objs.size+1) (.lst ((pick 0 as p).map V.ref))) (sortedAll s.heap aJ (cI aJ p)) (s.heap.objs.size+1) (.lst ((pick 0 as p).map V.ref)):=⟨MQ,(cI aJ p).toList,ep,K4,by simpa [seqObj] using k1⟩;exact ⟨.ref (s.heap.objs.size+1),_,I.laid (t':=s.toks) (λb o e=>sortedAll_old e) (zbt _) new,rfl,q p _ JS (by rw [<-hl,z];exact AJ) (I.aZ.fresh (zbt _))⟩
end L2
section
set_option maxHeartbeats 2000000
namespace L2
open PySem PySem.Spec PySem.W PySem.Calls PyProof.Rows
theorem drawn (J:s.heap.IsTupleIter i t k) (T:s.heap.IsTuple t xs) (hx:xs[k]?=some x)
  (q:∀ g,g.IsTupleIter i t (k+1)->Heap.SameBut i s.heap g->Q x { s with heap:=g }):wpAny (model prog w) A (Builtin.SmallTypes.nextOf (.ref i)) Q E s:=by
 obtain ⟨o,a1,a2,a3⟩:=id J;obtain ⟨p,b1,_,m,b3⟩:=T;unfold Builtin.SmallTypes.nextOf;refine rd (zbD (name:=Str.ofString "__next__") J.typeIs zcl (zbC zcl J.typeIs F.entry_tuple_iterator_next (show wpAny _ _ (field (.ref i) 0 >>= _) _ _ s from rd (zbh a1 a3 (x:=.ref t) rfl ?_)) (F.args_tuple_iterator_next_1 _)));show wpAny _ _ (if (Value.ref t==Value.none)=true then _ else (field (.ref i) 1 >>= _)) _ _ s;rw [ZU (show ¬(Value.ref t==Value.none)=true from zae)];refine rd (zbh a1 a3 (x:=.int k 0) rfl (show wpAny _ _ (seqItems? (.ref t) >>= _) _ _ s from rd (zaT b1 b3 ?_)));simp only [zaE,hx];exact rd (wpAny_setField a1 a3 (by simp) (ZR ⟨x,rfl,ZR (q _ ⟨_,zaM _ a1 (Obj.isFreed_of_fields (Obj.data_mapFields a3 _)),(Obj.cls_mapFields ..).trans a2,by rw [Obj.data_mapFields a3];simp [rawInt]⟩ (zbK ..))⟩))
theorem A4 (hh:A.handled=none) (J:s.heap.IsTupleIter i t k) (T:s.heap.IsTuple t xs) (hx:xs[k]?=none)
  (q:∀ g e,Heap.ExtBut i s.heap g->(∃ o,g.get? e=some o/\o.cls=.type "StopIteration")->E (.ref e) { s with heap:=g }):wpAny (model prog w) A (Builtin.SmallTypes.nextOf (.ref i)) Q E s:=by
 obtain ⟨o,a1,a2,a3⟩:=id J;obtain ⟨p,b1,_,m,b3⟩:=T;unfold Builtin.SmallTypes.nextOf;refine rd (zbD (name:=Str.ofString "__next__") J.typeIs zcl (zbC zcl J.typeIs F.entry_tuple_iterator_next (show wpAny _ _ (field (.ref i) 0 >>= _) _ _ s from rd (zbh a1 a3 (x:=.ref t) rfl ?_)) (F.args_tuple_iterator_next_1 _)));show wpAny _ _ (if (Value.ref t==Value.none)=true then _ else (field (.ref i) 1 >>= _)) _ _ s;rw [ZU (show ¬(Value.ref t==Value.none)=true from zae)];refine rd (zbh a1 a3 (x:=.int k 0) rfl (show wpAny _ _ (seqItems? (.ref t) >>= _) _ _ s from rd (zaT b1 b3 ?_)));simp only [zaE,hx];refine rd (zdh (rd (wpAny_setField a1 a3 (by simp) (show wpAny _ _ (PySem.newExc (.type "StopIteration") [] >>= _) _ _ _ from rd ?_))));simp only [PySem.newExc,newTuple];refine rd (zcF (rd (m:=firstArgMember _ _) (wpAny_of_eq (a:=Value.none) (by first|rfl | (simp only [firstArgMember];rfl)) (zcF ?_ (by size_fits)))) (by size_fits));simp only [raiseNew];refine rd (wpAny_handled ?_)
 first|rw [show A.in1.handled=none from hh] | rw [hh]
 exact rd (ZR (wpAny_throw (q _ _ (((zbK ..).extBut.push _).push _) ⟨_,Z3 _ rfl,rfl⟩)))
theorem vL (hz:IsZip s.heap z I O .none) (q:Q true s):wpAny (model prog w) A (Builtin.SmallTypes.ownedTupleIsFree (.ref z)) Q E s:=by
 unfold Builtin.SmallTypes.ownedTupleIsFree;exact rd (zbh hz rfl (x:=.none) rfl (ZR q))
theorem Dz {z I O T:Addr} {Q:Unit->Shared->Prop} (hz:IsZip s.heap z I O .ellipsis) (q:∀ g,IsZip g z I O (rawInt T)->Heap.SameBut z s.heap g->Q () { s with heap:=g }):wpAny (model prog w) A (Builtin.SmallTypes.ownedTupleHandOut (.ref z) (.ref T)) Q E s:=by
 unfold Builtin.SmallTypes.ownedTupleHandOut;refine rd (zce hz (by simp) λg1 z1 s1=>zce z1 (by simp) λg2 z2 s2=>q g2 z2 ⟨s2.1.trans s1.1,λb hb=>(s2.2 b hb).trans (s1.2 b hb)⟩)
theorem zS (D:ZipApart z I O i1 i2 t1 t2)
  (hz:IsZip s.heap z I O .none) (hI:IsPair s.heap I (.ref i1) (.ref i2)) (hO:IsPair s.heap O a b) (j1:s.heap.IsTupleIter i1 t1 k1) (j2:s.heap.IsTupleIter i2 t2 k2) (T1:s.heap.IsTuple t1 xs) (T2:s.heap.IsTuple t2 ys) (hx:xs[k1]?=some x) (hy:ys[k2]?=some y)
  (q:∀ g,IsZip g z I O (rawInt s.heap.objs.size)->IsPair g O x y->g.IsTupleIter i1 t1 (k1+1)->g.IsTupleIter i2 t2 (k2+1)->IsPair g s.heap.objs.size x y->g.objs.size=s.heap.objs.size+1->
   (∀ c o,c≠z->c≠O->c≠i1->c≠i2->s.heap.get? c=some o->g.get? c=some o)->Q (some (.ref s.heap.objs.size)) { s with heap:=g }):wpAny (model prog w) A (pyNext (.ref z)) Q E s:=by
 have hT:s.TypeIs (.ref z) "zip":=⟨_,hz,rfl⟩;unfold pyNext;refine rd (zda (zbD (name:=Str.ofString "__next__") hT zbX (zbC zbX hT zdN ?_ (zdC _))));show wpAny _ _ (field (.ref z) 2 >>= λ_=>_) _ _ _;refine rd (zbh hz rfl (x:=.bool false) rfl (show wpAny _ _ (field (.ref z) 3 >>= _) _ _ _ from rd (zbh hz rfl (x:=.ref I) rfl (rd (zaT hI rfl (rd (vL hz ?_)))))));simp only [zee];refine rd (zdh (rd (zbh hz rfl (x:=.ref O) rfl (rd (zce hz (by simp) λg1 z1 s1=>rd ?_)))));simp only [zipIdx_cons,zipIdx_nil,forIn_cons,forIn_nil];have z1:IsZip g1 z I O .ellipsis:=z1;refine rd (rd (wpAny_onRaise (show wpAny _ _ (Builtin.SmallTypes.nextOf (.ref i1) >>= _) _ _ _ from rd (drawn (j1.extBut s1.extBut D.i1z) (T1.extBut s1.extBut D.l1z) hx λg2 QQ s2=>ZR ?_))));have o2:IsPair g2 O a b:=s2.extBut _ _ D.TOi1 (s1.extBut _ _ D.TOz hO);refine rd (zaT o2 rfl (rd (wpAny_updateSeq_pair o2 λg3 o3 s3=>rd (zdp (ZR ?_)))));have o3:IsPair g3 O x b:=o3;refine rd (rd (wpAny_onRaise (show wpAny _ _ (Builtin.SmallTypes.nextOf (.ref i2) >>= _) _ _ _ from rd (drawn (((j2.extBut s1.extBut D.i2z).extBut s2.extBut D.i12.symm).extBut s3.extBut D.TOi2.symm) (((T2.extBut s1.extBut D.l2z).extBut s2.extBut D.l2i1).extBut s3.extBut D.l2TO) hy λg4 j4 s4=>ZR ?_))));have o4:IsPair g4 O x b:=s4.extBut _ _ D.TOi2 o3;refine rd (zaT o4 rfl (rd (wpAny_updateSeq_pair o4 λg5 o5 s5=>rd (zdp (ZR (ZR ?_))))));have o5:IsPair g5 O x y:=o5;refine rd (zaT o5 rfl (rd (zdv ?_)));have sz:g5.objs.size=s.heap.objs.size:=by rw [s5.1,s4.1,s3.1,s2.1,s1.1]
 have z5:IsZip g5 z I O .ellipsis:=s5.extBut _ _ D.TOz.symm (s4.extBut _ _ D.i2z.symm (s3.extBut _ _ D.TOz.symm (s2.extBut _ _ D.i1z.symm z1)));have old:∀ c o,c≠z->c≠O->c≠i1->c≠i2->s.heap.get? c=some o->g5.get? c=some o:=λc o c1 c2 c3 c4 e=>s5.extBut _ _ c2 (s4.extBut _ _ c4 (s3.extBut _ _ c2 (s2.extBut _ _ c3 (s1.extBut _ _ c1 e))));have J1:g5.IsTupleIter i1 t1 (k1+1):=((QQ.extBut s3.extBut D.TOi1.symm).extBut s4.extBut D.i12).extBut s5.extBut D.TOi1.symm;have J2:g5.IsTupleIter i2 t2 (k2+1):=j4.extBut s5.extBut D.TOi2.symm;have zl:z<g5.objs.size:=ZM z5;show wpAny _ _ (Builtin.SmallTypes.ownedTupleHandOut (.ref z) (.ref g5.objs.size) >>= _) _ _ _;refine rd (Dz (s:={ s with heap:=g5.push { cls:=.type "tuple",data:=.seq #[x,y] } }) (ZN _ z5) λg8 z8 s8=>ZR ⟨_,rfl,ZR ?_⟩);have up:∀ c o,c≠z->g5.get? c=some o->g8.get? c=some o:=λc o c1 e=>s8.extBut _ _ c1 (ZN _ e);have T8:IsPair g8 g5.objs.size x y:=s8.extBut _ _ (zax zl) (Z3 _ rfl);have S8:g8.objs.size=g5.objs.size+1:=s8.1.trans (zaI ..);show Q (some (.ref g5.objs.size)) _;rw [sz] at z8 T8 S8 ⊢;have jk:∀ {i t k},g5.IsTupleIter i t k->i≠z->g8.IsTupleIter i t k:=λ{i t k} ⟨o,e,r⟩ n=>⟨o,up _ _ n e,r⟩;exact q g8 z8 (up _ _ D.TOz o5) (jk J1 D.i1z) (jk J2 D.i2z) T8 S8 λc o c1 c2 c3 c4 e=>up c o c1 (old c o c1 c2 c3 c4 e)
theorem BI (hh:A.handled=none) (D:ZipApart z I O i1 i2 t1 t2)
  (hz:IsZip s.heap z I O .none) (hI:IsPair s.heap I (.ref i1) (.ref i2)) (hO:IsPair s.heap O a b) (j1:s.heap.IsTupleIter i1 t1 k1) (T1:s.heap.IsTuple t1 xs) (hx:xs[k1]?=none)
  (q:∀ g,(∀ c o,c≠z->c≠O->c≠i1->c≠i2->s.heap.get? c=some o->g.get? c=some o)->Q none { s with heap:=g }):wpAny (model prog w) A (pyNext (.ref z)) Q E s:=by
 have hT:s.TypeIs (.ref z) "zip":=⟨_,hz,rfl⟩;unfold pyNext;refine rd (zda (zbD (name:=Str.ofString "__next__") hT zbX (zbC zbX hT zdN ?_ (zdC _))));show wpAny _ _ (field (.ref z) 2 >>= λ_=>_) _ _ _;refine rd (zbh hz rfl (x:=.bool false) rfl (show wpAny _ _ (field (.ref z) 3 >>= _) _ _ _ from rd (zbh hz rfl (x:=.ref I) rfl (rd (zaT hI rfl (rd (vL hz ?_)))))));simp only [zee];refine rd (zdh (rd (zbh hz rfl (x:=.ref O) rfl (rd (zce hz (by simp) λg1 z1 s1=>rd ?_)))));simp only [zipIdx_cons,zipIdx_nil,forIn_cons,forIn_nil];have z1:IsZip g1 z I O .ellipsis:=z1;refine rd (rd (wpAny_onRaise (show wpAny _ _ (Builtin.SmallTypes.nextOf (.ref i1) >>= _) _ _ _ from rd (A4 hh (j1.extBut s1.extBut D.i1z) (T1.extBut s1.extBut D.l1z) hx λg2 e s2 he=>?_))));obtain ⟨oe,e1,e2⟩:=he;have z2:IsZip g2 z I O .ellipsis:=s2 _ _ D.i1z.symm z1;have ez:e≠z:=λw=>by subst w;rw [z2] at e1;cases e1;simp at e2
 refine zce z2 (by simp) λg3 _ s3=>?_;exact rd (wpAny_isInstance (T:= "StopIteration") (b:=true) ⟨oe,s3.extBut _ _ ez e1,e2⟩ isSubtype_stop (ZR (q _ λc o c1 _ c3 _ w=>s3.extBut _ _ c1 (s2 _ _ c3 (s1.extBut _ _ c1 w)))))
def zH (h:Heap) (a b:Addr):Heap:=((((h.push { cls:=.type "tuple_iterator",data:=.fields #[.ref a,.int 0 0] }).push { cls:=.type "tuple_iterator",data:=.fields #[.ref b,.int 0 0] }).push { cls:=.type "tuple",data:=.seq #[.ref h.objs.size,.ref (h.objs.size+1)] }).push { cls:=.type "tuple",data:=.seq #[.none,.none] }).push { cls:=.type "zip",data:=.fields #[.none,.bool false,.bool false,.ref (h.objs.size+2),.ref (h.objs.size+3)] }
theorem BH (a b:Addr) (xs ys:Array Value):Meets (Builtin.«zip.__new__» ⟨[.type "zip",.ref a,.ref b],[]⟩) (λ_ R s=>s.heap.IsTuple a xs/\s.heap.IsTuple b ys/\R (.ok (.ret (.ref (s.heap.objs.size+4)))) { s with heap:=zH s.heap a b }):=
 .of_wp λprog w A R s h=>by
  obtain ⟨hp,g,d,tk,os⟩:=s;obtain ⟨ha,hb,h⟩:=h;have sub:=sub_zip;have RO:Heap.IsTuple (Shared.heap ⟨hp,g,d,tk,os⟩) a xs:=ha;have Lf:Heap.IsTuple (Shared.heap ⟨hp.push { cls:=.type "tuple_iterator",data:=.fields #[.ref a,.int 0 0] },g,d,tk,os⟩) b ys:=Heap.IsTuple.push hb _
  wp_walk using wpAny_pyIter_tuple RO,wpAny_pyIter_tuple Lf
  refine ⟨_,rfl,?_⟩;unfold zH at h;simp only [zaI] at h ⊢;exact h
section
variable {prog:Program} {w:World} {A:Around} {E:WP} {s:Shared}
theorem Bd (ha:s.heap.IsTuple a xs) (hb:s.heap.IsTuple b ys)
  (q:∀ g,IsZip g (s.heap.objs.size+4) (s.heap.objs.size+2) (s.heap.objs.size+3) .none->IsPair g (s.heap.objs.size+2) (.ref s.heap.objs.size) (.ref (s.heap.objs.size+1))->IsPair g (s.heap.objs.size+3) .none .none->
   g.IsTupleIter s.heap.objs.size a 0->g.IsTupleIter (s.heap.objs.size+1) b 0->g.objs.size=s.heap.objs.size+5->(∀ c o,s.heap.get? c=some o->g.get? c=some o)->Q (.ref (s.heap.objs.size+4)) { s with heap:=g }) :
  wpAny (model prog w) A (call (.type "zip") [.ref a,.ref b]) Q E s:=by
 refine callType_new F.called_zip (by decide) (F.typeCall_zip_2 _ _) (F.newCall_zip_2 _ _) (λobj=>F.args_object_init_3 obj _ _) F.entry_zip_new (BH a b xs ys) ⟨ha,hb,?_⟩;have top:∀ (h:Heap) (o:Obj) (n:Nat),h.objs.size=n->o.isFreed=false->(h.push o).get? n=some o:=λh o n e z=>e▸Z3 _ z;have on:∀ {h:Heap} {o:Obj} {n:Addr} {x:Obj},h.get? n=some x->(h.push o).get? n=some x:=λe=>ZN _ e;have g5:(zH s.heap a b).get? (s.heap.objs.size+4)=some _:=top _ _ _ (by simp only [zaI]) rfl;have g4:(zH s.heap a b).get? (s.heap.objs.size+3)=some _:=on (top _ _ _ (by simp only [zaI]) rfl);have g3:(zH s.heap a b).get? (s.heap.objs.size+2)=some _:=on (on (top _ _ _ (by simp only [zaI]) rfl));have g2:(zH s.heap a b).get? (s.heap.objs.size+1)=some _:=on (on (on (top _ _ _ (by simp only [zaI]) rfl)));have g1:(zH s.heap a b).get? s.heap.objs.size=some _:=on (on (on (on (top _ _ _ rfl rfl))));exact ⟨⟨_,g5,rfl⟩,q _ g5 g3 g4 ⟨_,g1,rfl,rfl⟩ ⟨_,g2,rfl,rfl⟩ (by unfold zH;simp only [zaI]) λc o e=>on (on (on (on (on e))))⟩
end
def Ei (K:Frag) (a b:Addr):It:=
 ⟨λi H=>∃ xs ys x y,SqT K H a xs/\SqT K H b ys/\xs[i]?=some x/\ys[i]?=some y,
  λi H v H'=>∃ p x y,H p=none/\v=.ref p/\(∀ xs,SqT K H a xs->xs[i]?=some x)/\(∀ ys,SqT K H b ys->ys[i]?=some y)/\H'=upd H p (.tup [x,y]),
  λi H=>∃ xs ys,SqT K H a xs/\SqT K H b ys/\xs.length<=i⟩
theorem zU {P:Program} {w:World} {K:Frag} {elts:List Expr} {kx:Nat} {px:Pos} {a b z TI TO i1 i2:Addr} (D:ZipApart z TI TO i1 i2 a b) :
  Turn P w K (.Tuple elts kx px) (Ei K a b) [z,TI,TO,i1,i2] z (λi h=>IsZip h z TI TO .none/\IsPair h TI (.ref i1) (.ref i2)/\(∃ u v,IsPair h TO u v)/\h.IsTupleIter i1 a i/\h.IsTupleIter i2 b i) where
 mem:=by simp
 obj:=λi h st c hc=>by
  obtain ⟨h1,h2,⟨u,v,h3⟩,h4,h5⟩:=st;simp only [zaZ,zat,zba] at hc;rcases hc with rfl|rfl|rfl|rfl|rfl
  ·exact ⟨_,h1,λv q=>by cases q⟩
  ·exact ⟨_,h2,λv q=>by cases q⟩
  ·exact ⟨_,h3,λv q=>by cases q⟩
  ·obtain ⟨o,e1,_,d⟩:=h4;exact ⟨o,e1,λv q=>by rw [d] at q;cases q⟩
  ·obtain ⟨o,e1,_,d⟩:=h5;exact ⟨o,e1,λv q=>by rw [d] at q;cases q⟩
 keep:=λi h h' st k=>by
  obtain ⟨h1,h2,⟨u,v,h3⟩,h4,h5⟩:=st;exact ⟨k z (by simp) _ h1,k TI (by simp) _ h2,⟨u,v,k TO (by simp) _ h3⟩,h4.at λo q=>k i1 (by simp) o q,h5.at λo q=>k i2 (by simp) o q⟩
 item:=by
  intro X hP hw hK hc i pins s σ H E I hf st hg;subst hP hw hK;obtain ⟨h1,h2,⟨u,v,h3⟩,h4,h5⟩:=st;obtain ⟨xs,ys,x,y,wB,wA,hx,hy⟩:=hg;obtain ⟨ia,ra,pa,za⟩:=I.tuple wB;obtain ⟨ib,rb,pb,zb⟩:=I.tuple wA;obtain ⟨u1,MS,E3⟩:=ra.get hx;obtain ⟨u2,Q0,E2⟩:=rb.get hy;have lt:∀ c∈[z,TI,TO,i1,i2],c<s.heap.objs.size:=λc hc=>by
   simp only [zaZ,zat,zba] at hc;rcases hc with rfl|rfl|rfl|rfl|rfl
   ·exact ZM h1
   ·exact ZM h2
   ·exact ZM h3
   ·obtain ⟨_,q,_⟩:=id h4;exact ZM q
   ·obtain ⟨_,q,_⟩:=id h5;exact ZM q
  refine zS D h1 h2 h3 h4 h5 pa pb (x:=u1) (y:=u2) (by simpa using MS) (by simpa using Q0) λh' k1 k2 k3 k4 hT hsz hk=>⟨_,rfl,?_⟩;refine wpAny_letOwnedTupleGo_zip k1 λmK Dv sW=>?_;have hn:H s.heap.objs.size=none:=I.aZ.fresh (ZQ _);have nz:s.heap.objs.size≠z:=zax (lt z (by simp));have kk:∀ c o,c∉[z,TI,TO,i1,i2]->s.heap.get? c=some o->mK.get? c=some o:=λc o hc q=>by
   simp only [zaZ,zat,zba,zdB] at hc;exact (sW.2 c hc.1).trans (hk c o hc.1 hc.2.2.1 hc.2.2.2.1 hc.2.2.2.2 q)
  have Nm:mK.get? s.heap.objs.size=some { cls:=.type "tuple",data:=.seq #[u1,u2] }:=(sW.2 _ nz).trans hT;refine ⟨.ref s.heap.objs.size,upd H s.heap.objs.size (.tup [x,y]),Inv.ku (s:=s) (h':=mK) (t':=s.toks) I kk hf (ZQ _) ⟨by simp only [zbg,zcM];rw [zbf];decide,[u1,u2],.cons E3 (.cons E2 .nil),⟨_,Nm,rfl,_,rfl⟩⟩,rfl,
   ⟨_,x,y,hn,rfl,λIp yV=>by rw [I.ky yV wB];exact hx,λIp yV=>by rw [I.ky yV wA];exact hy,rfl⟩,⟨Dv,?_,⟨u1,u2,(sW.2 _ D.TOz).trans k2⟩,k3.at λo q=>(sW.2 i1 D.i1z).trans q,k4.at λo q=>(sW.2 i2 D.i2z).trans q⟩,λc hc=>?_⟩
  ·exact (sW.2 _ D.TIz).trans (hk TI _ D.TIz D.TITO D.TIi1 D.TIi2 h2)
  ·rw [aq (Z1 (lt c hc))];exact (hf c hc).1
 done:=by
  intro X hP hw hK hc i pins s σ H E I hf st hg;subst hP hw hK;obtain ⟨h1,h2,⟨u,v,h3⟩,h4,h5⟩:=st;obtain ⟨xs,ys,wB,wA,sX⟩:=hg;obtain ⟨ia,ra,pa,za⟩:=I.tuple wB;obtain ⟨ib,rb,pb,zb⟩:=I.tuple wA;have la:=ra.length;have lb:=rb.length;refine BI (I.ok.hd hc) D h1 h2 h3 h4 pa ?_ λh' eb=>⟨rfl,Inv.rR (t':=s.toks) (ch:=[z,TI,TO,i1,i2]) I (λc o hc q=>?_) hf⟩
  ·simp;omega
  ·simp only [zaZ,zat,zba,zdB] at hc;exact eb c o hc.1 hc.2.2.1 hc.2.2.2.1 hc.2.2.2.2 q
 self:=λ_ _ _ _ _ st h=>zcV st.1 h
def MN (K:Frag) (ta:TA):TI:=λσ H R=>ta σ H λvs H1=>∃ a b,vs=[.ref a,.ref b]/\(∃ xs,SqT K H1 a xs)/\(∃ ys,SqT K H1 b ys)/\R (Ei K a b) H1
theorem Fw {X:Cx} {l m:Expr} {ta:TA} {p pos:Pos} {elts:List Expr} {kx:Nat} {px:Pos} (hm:X.mg "zip"=none) (ha:PA X [l,m] ta) (hg:Gl X "zip":=by rfl) (he:starEach [l,m] X.env=(false,eval l X.env)::starEach [m] X.env:=by rfl) (lK:(backTo pos (starEach [m] X.env)).any (·.1)=false:=by rfl) :
  PI X (.Tuple elts kx px) (.Call (.Name "zip" p) [l,m] [] pos) (MN X.K ta):=by
 intro pins s σ H R I h;refine Call_ (eN I hg hm lx (zaJ (cA (ha pos pins s σ H _ I h) λus s1 ⟨vs,H1,I1,r1,q1⟩=>?_) he lK));obtain ⟨a,b,rfl,⟨xs,wB⟩,⟨ys,wA⟩,q⟩:=q1;obtain ⟨u1,u2,rfl,E3,E2⟩:=vals2 r1;cases E3
 cases E2
 obtain ⟨ia,ra,pa,za⟩:=I1.tuple wB;obtain ⟨ib,rb,pb,zb⟩:=I1.tuple wA;have yM:a<s1.heap.objs.size:=by obtain ⟨_,e,_⟩:=pa;exact ZM e
 have yL:b<s1.heap.objs.size:=by obtain ⟨_,e,_⟩:=pb;exact ZM e
 have ne:∀ {j k:Nat},j≠k->s1.heap.objs.size+j≠s1.heap.objs.size+k:=λh z=>h (zed z);have nl:∀ {c:Addr} (k:Nat),c<s1.heap.objs.size->c≠s1.heap.objs.size+k:=λk l=>Z1 (ZY l (zaz _ _));have D:ZipApart (s1.heap.objs.size+4) (s1.heap.objs.size+2) (s1.heap.objs.size+3) s1.heap.objs.size (s1.heap.objs.size+1) a b:=
  ⟨ne (by decide),ne (by decide),ne (j:=0) (by decide),ne (by decide),ne (by decide),ne (k:=0) (by decide),ne (by decide),ne (k:=0) (by decide),ne (by decide),ne (j:=0) (by decide),nl _ yM,nl _ yM,nl 0 yM,nl _ yM,nl _ yL,nl _ yL,nl 0 yL,nl _ yL⟩
 refine Bd pa pb λh' hz um xE h1 h2 hsz hk=>?_;refine zcV hz ?_;have I2:Inv X pins σ H1 { s1 with heap:=h' }:=I1.kept (t':=s1.toks) λc o e=>hk c o e;refine ⟨_,[s1.heap.objs.size+4,s1.heap.objs.size+2,s1.heap.objs.size+3,s1.heap.objs.size,s1.heap.objs.size+1],_,_,H1,rfl,I2,zU D,⟨hz,um,⟨_,_,xE⟩,h1,h2⟩,λc hc=>?_,q⟩;have le:s1.heap.objs.size<=c:=by
  simp only [zaZ,zat,zba] at hc;rcases hc with rfl|rfl|rfl|rfl|rfl
  ·exact zaz _ _
  ·exact zaz _ _
  ·exact zaz _ _
  ·exact ZQ _
  ·exact zaz _ _
 exact I1.qg le (I1.aZ.fresh le)
theorem DC {K:Frag} {a b:Addr} {xs ys:List V} {g:TG} {tb:TS} {D:Ends} {σ:St} {H:Hp} (Pv:Nat->St->Hp->Prop) (h0:Pv 0 σ H) (sV:xs.length=ys.length) (hl:∀ i σ H,i<=xs.length->Pv i σ H->SqT K H a xs/\SqT K H b ys)
  (hs:∀ i x y p σ H,xs[i]?=some x->ys[i]?=some y->Pv i σ H->H p=none->g (.ref p) σ (upd H p (.tup [x,y])) λσ2 H2=>tb { D with nx:=Pv (i+1),ct:=Pv (i+1),bk:=D.nx } σ2 H2) (hd:∀ σ H,Pv xs.length σ H->D.nx σ H) :
  ∃ W:Nat->Nat->St->Hp->Prop,(∃ m,W 0 m σ H)/\∀ i m σ H,W i m σ H->
   ((Ei K a b).stop i H/\D.nx σ H)\/((Ei K a b).go i H/\∃ N:St->Hp->Prop,(∀ σ' H',N σ' H'->∃ m',m'<m/\W (i+1) m' σ' H')/\∀ x H',(Ei K a b).wx i H x H'->g x σ H' λσ2 H2=>tb { D with nx:=N,ct:=N,bk:=D.nx } σ2 H2):=by
 refine ⟨λi m σ H=>m=xs.length-i/\i<=xs.length/\Pv i σ H,⟨xs.length,by simp,Z7 _,h0⟩,?_⟩;rintro i m σ H ⟨rfl,hi,p⟩;obtain ⟨qa,qb⟩:=hl i σ H hi p;by_cases dI:i<xs.length
 ·have JV:i<ys.length:=by omega
  refine .inr ⟨⟨xs,ys,xs[i],ys[i],qa,qb,by simp [dI],by simp [JV]⟩,Pv (i+1),λσ' H' p'=>⟨xs.length-(i+1),by omega,rfl,dI,p'⟩,λx H' y=>?_⟩;obtain ⟨r,u,v,hr,rfl,hu,hv,rfl⟩:=y;exact hs i u v r σ H (hu xs qa) (hv ys qb) p hr
 ·have e:i=xs.length:=by omega
  subst e;exact .inl ⟨⟨xs,ys,qa,qb,ZQ _⟩,hd σ H p⟩
end L2
end
namespace cK
open PySem L2 Gm
theorem lE (f:Int×Int):SeqAt.shaped (eR f)=true:=by
 unfold SeqAt.shaped eR;simp [PyData.canLay0,PyData.canLayAll0,PyData.depth,PyData.depthAll]
theorem DU (f g:Int×Int):PyData.eqv (eR f) (eR g)=decide (f=g):=by
 have:=A2 [f] [g];unfold tQ at this;simp [PyData.eqv,PyData.eqvAll] at this;rw [this]
theorem uW (h:H r=some (.tup [.int f.1,.int f.2])):jc H (.ref r) (eR f):=.tup h (.cons (.int _) (.cons (.int _) .nil))
def qo (H:Hp) (a:Addr) (p:List (Int×Int)):Prop:=∃ bs,H a=some (.tup (bs.map V.ref))/\PR H bs p/\p.length=3
theorem qo.same (h:qo H a p) (e:ao H H'):qo H' a p:=by
 obtain ⟨bs,h1,h2,h3⟩:=h;exact ⟨bs,e _ _ h1,h2.same e,h3⟩
def eG (p:List (Int×Int)):PyData:=.tuple (p.map eR)
theorem qo.su (h:qo H a p):jc H (.ref a) (eG p):=by
 obtain ⟨bs,h1,h2,h3⟩:=h;exact .tup h1 h2.su
theorem vR (p:List (Int×Int)):(eG p).depth<=3:=by
 have:=(kU p).2;unfold eG;simp [PyData.depth];omega
theorem iq (p:List (Int×Int)):SeqAt.shaped (eG p)=true:=by
 obtain ⟨h1,h2⟩:=kU p;unfold SeqAt.shaped eG;simp [PyData.canLay0,PyData.depth,h1];omega
theorem oN (p q:List (Int×Int)):PyData.eqv (eG p) (eG q)=decide (p=q):=by
 unfold eG;rw [PyData.eqv];exact tM p q
def fK (H:Hp) (l:Addr) (as:XL) (P:List (List (Int×Int))):Prop:=H l=some (.lst (as.map V.ref))/\as.length=P.length/\∀ (j:Nat) (a:Addr) (p:List (Int×Int)),as[j]?=some a->P[j]?=some p->qo H a p
theorem fK.same (h:fK H l as P) (e:ao H H'):fK H' l as P:=⟨e _ _ h.1,h.2.1,λj a p x y=>(h.2.2 j a p x y).same e⟩
theorem fK.at (h:fK H l as P) (hi:i<P.length):∃ a,as[i]?=some a/\qo H a P[i]:=by
 have:=h.2.1;have ha:i<as.length:=by omega
 exact ⟨as[i],ZJ ha,h.2.2 i _ _ (ZJ ha) (ZJ hi)⟩
theorem fK.ix (h:fK H l as P) (hi:i<P.length):∃ a,ja (as.map V.ref) (i:Int)=some (V.ref a)/\as[i]?=some a/\qo H a P[i]:=by
 obtain ⟨a,h1,h2⟩:=h.at hi;exact ⟨a,eA (by rw [ZS,h1];rfl),h1,h2⟩
theorem fK.D2 (h:fK H l as P):lC H as (P.map eG):=by
 refine ⟨by rw [ZK];exact h.2.1,λj b e hb he=>?_⟩;rw [ZS] at he;cases q:P[j]? with
 | none=>rw [q] at he;cases he
 | some p=>
  rw [q] at he;cases he
  exact ⟨(h.2.2 j b p hb q).su,iq p,zag (vR p) (by decide)⟩
def l8 (P:List (List (Int×Int))):PyData:=.list (P.map eG)
theorem sr {H:Hp}:∀ {as:XL} {ds:List PyData},lC H as ds->bZ H (as.map V.ref) ds
 | [],[],_=>.nil
 | [],_::_,h=>by have:=h.1;simp at this
 | _::_,[],h=>by have:=h.1;simp at this
 | a::as,d::ds,h=>.cons (h.2 0 a d rfl rfl).1 (sr ⟨by have:=h.1;simpa using this,λj b e hb he=>h.2 (j+1) b e (by simpa using hb) (by simpa using he)⟩)
theorem fK.su (h:fK H l as P):jc H (.ref l) (l8 P):=.lst h.1 (sr h.D2)
theorem qW:∀ P:List (List (Int×Int)),PyData.canLayAll0 (P.map eG)=true/\PyData.depthAll (P.map eG)<=3
 | []=>⟨by simp [PyData.canLayAll0],by simp [PyData.depthAll]⟩
 | p::P=>by
  obtain ⟨h1,h2⟩:=qW P;have h3:=zbI (iq p);have h4:=vR p;refine ⟨by simp [PyData.canLayAll0,h1,h3],?_⟩;simp [PyData.depthAll];omega
theorem dP (P:List (List (Int×Int))):SeqAt.shaped (l8 P)=true:=by
 obtain ⟨h1,h2⟩:=qW P;unfold SeqAt.shaped l8;simp [PyData.canLay0,PyData.depth,h1];omega
theorem rh:∀ P R:List (List (Int×Int)),PyData.eqvAll (P.map eG) (R.map eG)=decide (P=R)
 | [],[]=>by simp [PyData.eqvAll]
 | [],_::_=>by simp [PyData.eqvAll]
 | _::_,[]=>by simp [PyData.eqvAll]
 | p::P,r::R=>by
  rw [zaX,zaX,PyData.eqvAll,rh P R,oN];by_cases h1:p=r<;>by_cases h2:P=R<;>simp [h1,h2]
theorem tL (P R:List (List (Int×Int))):PyData.eqv (l8 P) (l8 R)=decide (P=R):=by
 unfold l8;rw [PyData.eqv];exact rh P R
def gE (l:Wp):PyData:=.tuple (l.map .int)
theorem iC {H:Hp}:∀ l:Wp,bZ H (l.map V.int) (l.map .int)
 | []=>.nil
 | i::l=>.cons (.int i) (iC l)
theorem mF (h:H a=some (.tup (l.map V.int))):jc H (.ref a) (gE l):=.tup h (iC l)
theorem zw (l:Wp):(gE l).depth<=1:=by
 have:=(lay_ints l).2;unfold gE;simp [PyData.depth,this]
theorem eZ (l:Wp):SeqAt.shaped (gE l)=true:=by
 obtain ⟨h1,h2⟩:=lay_ints l;unfold SeqAt.shaped gE;simp [PyData.canLay0,PyData.depth,h1,h2]
theorem tJ (l m:Wp):PyData.eqv (gE l) (gE m)=decide (l=m):=by
 unfold gE;rw [PyData.eqv];exact j5 l m
def lO:List (Int×Int)->List (Int×Int)->Bool
 | f::fs,g::gs=>if f=g then lO fs gs else decide (f.1*g.2<g.1*f.2)
 | _,_=>false
theorem Ef:∀ {p q:List (Int×Int)} {i:Nat} {f g:Int×Int},p.take i=q.take i->p[i]?=some f->q[i]?=some g->f≠g->lO p q=decide (f.1*g.2<g.1*f.2)
 | [],_,i,f,g,_,h1,_,_=>by simp at h1
 | _::_,[],i,f,g,_,_,h2,_=>by simp at h2
 | a::p,b::q,0,f,g,_,h1,h2,n=>by
  cases h1;cases h2
  unfold lO;rw [ZU n]
 | a::p,b::q,i+1,f,g,h,h1,h2,n=>by
  rw [take_succ_cons,take_succ_cons] at h;injection h with e h;unfold lO;rw [ZW e];exact Ef h (by simpa using h1) (by simpa using h2) n
theorem kb:∀ p:List (Int×Int),lO p p=false
 | []=>rfl
 | f::p=>by unfold lO;rw [ZW rfl];exact kb p
end cK
namespace cK
open PySem L2 Gm Dt
theorem HS (hf:Lw f) (hg:Lw g) (h:f.1*g.2=g.1*f.2):f=g:=by
 refine Jc hf hg ?_;obtain ⟨f0,_⟩:=hf;obtain ⟨g0,_⟩:=hg;unfold qt;have a:((f.2:Int):Rat)≠0:=by simp only [ne_eq,Rat.intCast_eq_zero_iff];omega
 have b:((g.2:Int):Rat)≠0:=by simp only [ne_eq,Rat.intCast_eq_zero_iff];omega
 have e:((f.1*g.2:Int):Rat)=((g.1*f.2:Int):Rat):=by rw [h]
 rw [zdY,zdY] at e;rw [Rat.div_def,Rat.div_def];grind
theorem NA {f g k:Int×Int} (hf:0<f.2) (hg:0<g.2) (hk:0<k.2) (h1:f.1*g.2<g.1*f.2) (h2:g.1*k.2<k.1*g.2):f.1*k.2<k.1*f.2:=by
 have a:=zcI h1 hk;have b:=zcI h2 hf;have c:(f.1*k.2)*g.2<(k.1*f.2)*g.2:=by
  have e1:f.1*g.2*k.2=f.1*k.2*g.2:=by grind
  have e2:g.1*f.2*k.2=g.1*k.2*f.2:=by grind
  have e3:k.1*g.2*f.2=k.1*f.2*g.2:=by grind
  omega
 exact Int.lt_of_mul_lt_mul_right c (zav hg)
theorem rL:∀ {p q:List (Int×Int)},p.length=q.length->(∀ f∈p,Lw f)->(∀ f∈q,Lw f)->p≠q->lO p q=true\/lO q p=true
 | [],[],_,_,_,n=>absurd rfl n
 | [],_::_,h,_,_,_=>by simp at h
 | _::_,[],h,_,_,_=>by simp at h
 | f::p,g::q,h,hp,hq,n=>by
  unfold lO;by_cases e:f=g
  ·rw [ZW e,ZW e.symm];refine rL (by simpa using h) (λx hx=>hp x (Z5 _ hx)) (λx hx=>hq x (Z5 _ hx)) λz=>n (by rw [e,z])
  ·rw [ZU e,ZU (zaD e),zbk,zbk];have this:f.1*g.2≠g.1*f.2:=λz=>e (HS (hp f zac) (hq g zac) z);generalize f.1*g.2=A at *;generalize g.1*f.2=B at *;omega
theorem rK:∀ {p q r:List (Int×Int)},(∀ f∈p,Lw f)->(∀ f∈q,Lw f)->(∀ f∈r,Lw f)->lO p q=true->lO q r=true->lO p r=true
 | [],_,_,_,_,_,h,_=>by simp [lO] at h
 | _::_,[],_,_,_,_,h,_=>by simp [lO] at h
 | _::_,_::_,[],_,_,_,_,h=>by simp [lO] at h
 | f::p,g::q,k::r,hp,hq,hr,h1,h2=>by
  unfold lO at h1 h2 ⊢;have f0:=(hp f zac).1;have g0:=(hq g zac).1;have k0:=(hr k zac).1;by_cases e:f=g
  ·subst e;rw [ZW rfl] at h1;by_cases e2:f=k
   ·rw [ZW e2] at h2 ⊢;exact rK (λx hx=>hp x (Z5 _ hx)) (λx hx=>hq x (Z5 _ hx)) (λx hx=>hr x (Z5 _ hx)) h1 h2
   ·rw [ZU e2] at h2 ⊢;exact h2
  ·rw [ZU e] at h1;by_cases e2:g=k
   ·subst e2;rw [ZU e];exact h1
   ·rw [ZU e2] at h2;have l:=NA f0 g0 k0 (zaR h1) (zaR h2);by_cases e3:f=k
    ·subst e3;omega
    ·rw [ZU e3];exact zad l
def cnt (P:List (List (Int×Int))) (x:List (Int×Int)):Nat:=(P.filter λr=>lO r x).length
theorem filter_le {α:Type} {p q:α->Bool}:∀ {l:List α},(∀ a∈l,p a=true->q a=true)->(l.filter p).length<=(l.filter q).length
 | [],_=>ZQ _
 | a::l,h=>by
  have ih:=filter_le (p:=p) (q:=q) (l:=l) λx hx=>h x (Z5 _ hx);rw [zcQ,zcQ];cases e:p a with
  | true=>rw [h a zac e];simp;exact ih
  | false=>
   cases q a with
   | true=>simp;omega
   | false=>simpa using ih
theorem filter_lt {α:Type} {p q:α->Bool}:∀ {l:List α} {a:α},(∀ a∈l,p a=true->q a=true)->a∈l->q a=true->p a=false->(l.filter p).length<(l.filter q).length
 | b::l,a,h,ha,h1,h2=>by
  have hl:=λx hx=>h x (Z5 b hx);rw [zcQ,zcQ];rcases zas.mp ha with rfl|z
  ·rw [h1,h2];have:=filter_le hl;simp;omega
  ·have ih:=filter_lt hl z h1 h2;cases e:p b with
   | true=>rw [h b zac e];simp;exact ih
   | false=>
    cases q b with
    | true=>simp;omega
    | false=>simpa using ih
theorem KC (hP:∀ p∈P,p.length=3/\∀ f∈p,Lw f) (hx:x∈P) (hy:y∈P) (h:lO x y=true):cnt P x<cnt P y:=
 filter_lt (λa ha e=>rK (hP a ha).2 (hP x hx).2 (hP y hy).2 e h) hx h (kb x)
def un (P:List (List (Int×Int))) (m:Nat):List Nat:=(List.range m).filter λi=>decide (P.idxOf (P.getD i [])=i)
theorem EM (P:List (List (Int×Int))) (m:Nat):un P (m+1)=un P m++if P.idxOf (P.getD m [])=m then [m] else []:=by
 unfold un;rw [zcP,zdd];by_cases h:P.idxOf (P.getD m [])=m
 ·rw [ZW h,zcQ,ZW (by simpa using h)];rfl
 ·rw [ZU h,zcQ,ZU (by simpa using h)];rfl
structure Ord (P:List (List (Int×Int))) (l:List Nat):Prop where
 lt:∀ i∈l,i<P.length
 fst:∀ i∈l,∀ j,j<i->P[j]?≠P[i]?
 all:∀ i,i<P.length->∃ j∈l,P[j]?=P[i]?
 asc:l.Pairwise λi j=>lO (P.getD i []) (P.getD j [])=true
theorem xy:∀ {P:List (List (Int×Int))} {x:List (Int×Int)} {j:Nat},j<P.idxOf x->P[j]?≠some x
 | [],_,_,h=>by simp at h
 | r::P,x,j,h=>by
  rw [idxOf_cons] at h;cases e:r==x with
  | true=>rw [e] at h;simp at h
  | false=>
   rw [e] at h;cases j with
   | zero=>intro z;simp at z;rw [z] at e;simp at e
   | succ j=>simpa using xy (P:=P) (x:=x) (by simpa using h)
theorem Ord.of (hP:∀ p∈P,p.length=3/\∀ f∈p,Lw f) (hp:l.Perm (un P P.length)) (hs:l.Pairwise λi j=>cnt P (P.getD i [])<=cnt P (P.getD j [])):Ord P l:=by
 have mem:∀ {i},i∈l↔i<P.length/\P.idxOf (P.getD i [])=i:=λ{i}=>by
  rw [hp.mem_iff];unfold un;rw [mem_filter,zeh,zbk]
 have at_:∀ {i},i<P.length->P[i]?=some (P.getD i []):=λ{i} h=>by rw [ZP,ZJ h];rfl
 have nd:l.Nodup:=hp.nodup_iff.mpr (List.Pairwise.filter _ nodup_range);refine ⟨λi hi=>(mem.mp hi).1,λi hi j hj=>?_,λi hi=>?_,?_⟩
 ·obtain ⟨h1,h2⟩:=mem.mp hi;rw [at_ h1];exact xy (by rw [h2];exact hj)
 ·have hm:P.getD i []∈P:=ZX (at_ hi);have hk:=idxOf_lt_length_of_mem hm;have e:P[P.idxOf (P.getD i [])]?=some (P.getD i []):=by rw [ZJ hk,getElem_idxOf hk]
  refine ⟨P.idxOf (P.getD i []),mem.mpr ⟨hk,?_⟩,by rw [e,at_ hi]⟩;have:P.getD (P.idxOf (P.getD i [])) []=P.getD i []:=by rw [ZP,e];rfl
  rw [this]
 ·refine zcZ (λ{a b} ha hb h=>?_) (List.Pairwise.and hs (zck.mp nd));obtain ⟨h1,h2⟩:=h;obtain ⟨a1,a2⟩:=mem.mp ha;obtain ⟨b1,b2⟩:=mem.mp hb;have ma:P.getD a []∈P:=ZX (at_ a1);have mb:P.getD b []∈P:=ZX (at_ b1);have ne:P.getD a []≠P.getD b []:=λz=>h2 (by rw [<-a2,<-b2,z]);rcases rL (by rw [(hP _ ma).1,(hP _ mb).1]) (hP _ ma).2 (hP _ mb).2 ne with z|z
  ·exact z
  ·have:=KC hP mb ma z;omega
def wk (p:List (Int×Int)) (k:Nat):Int:=(p.getD k (0,1)).1*(b8 p / (p.getD k (0,1)).2)
def wv (p:List (Int×Int)):V4:=⟨wk p 0,wk p 1,wk p 2,b8 p⟩
structure Ps (p:List (Int×Int)):Prop where
 len:p.length=3
 fq:Fq 700 p
 low:∀ f∈p,Lw f
theorem Ps.three (h:Ps p):∃ f0 f1 f2,p=[f0,f1,f2]:=by
 have:=h.len
 match p,this with
 | [f0,f1,f2],_=>exact ⟨f0,f1,f2,rfl⟩
theorem LG (h:Ps p) (wh:Wh p (b8 p) row) (bd:∀ f∈p,f.2 ∣ b8 p):row++[b8 p]=l4 (wv p):=by
 have key:∀ (k:Nat) (f:Int×Int) (x:Int),p[k]?=some f->row[k]?=some x->x=wk p k:=λk f x h1 h2=>by
  have e:=wh.eq k f x h1 h2;have fm:=ZX h1;obtain ⟨y,hy⟩:=bd f fm;have f0:=h.fq.pos f fm;unfold wk;rw [ZP,h1];show x=f.1*(b8 p / f.2);rw [hy,zbx _ (by omega)];rw [hy] at e;have:x*f.2=(f.1*y)*f.2:=by rw [e];grind
  exact zbH (by omega) this
 have l:=wh.len;rw [h.len] at l;have l3:=h.len
 match row,l with
 | [x,y,z],_=>
  have g:∀ k (hk:k<3),p[k]?=some p[k]:=λk hk=>ZJ (by omega);rw [key 0 _ x (g 0 (by omega)) rfl,key 1 _ y (g 1 (by omega)) rfl,key 2 _ z (g 2 (by omega)) rfl]
  rfl
theorem uq (h:Ps p) (bd:∀ f∈p,f.2 ∣ b8 p) (hf:p[k]?=some f):wk p k*f.2=f.1*b8 p:=by
 have fm:=ZX hf;obtain ⟨y,hy⟩:=bd f fm;have f0:=h.fq.pos f fm;unfold wk;rw [ZP,hf];show f.1*(b8 p / f.2)*f.2=_;rw [hy,zbx _ (by omega)];grind
theorem vk:∀ {p:List (Int×Int)},(∀ f∈p,0<f.2)->0<b8 p/\(∀ f∈p,f.2 ∣ b8 p)/\(b8 p).natAbs<=pd p:=by
 intro p hp;have key:∀ (q r:List (Int×Int)),(∀ f∈q++r,0<f.2)->(0<b8 q/\(∀ f∈q,f.2 ∣ b8 q)/\(b8 q).natAbs<=pd q)->(0<b8 (q++r)/\(∀ f∈q++r,f.2 ∣ b8 (q++r))/\(b8 (q++r)).natAbs<=pd (q++r)):=by
  intro q r
  induction r generalizing q with
  | nil=>intro _ h;rw [zbr];exact h
  | cons g r ih=>
   intro h0 h;have e:q++g::r=(q++[g])++r:=by simp
   rw [e];refine ih (q++[g]) (by rw [<-e];exact h0) ?_;obtain ⟨h1,h2,h3⟩:=h;obtain ⟨n0,n1,n2,n3⟩:=vh h1 (h0 g (by simp));rw [iI];refine ⟨n0,λf hf=>?_,?_⟩
   ·rcases ZZ.mp hf with z|z
    ·exact zdS (h2 f z) n1
    ·rw [ZT.mp z];exact n2
   ·rw [dw,iF];exact zag n3 (zdW _ h3)
 have:=key [] p (by simpa using hp) ⟨by decide,by simp,by simp [b8,pd]⟩;simpa using this
theorem CO (h:Ps p):pd p<=2 ^ 2100:=by
 obtain ⟨f0,f1,f2,rfl⟩:=h.three;have a:=h.fq.bot f0 (by simp);have b:=h.fq.bot f1 (by simp);have c:=h.fq.bot f2 (by simp);unfold Sz at a b c;have e:pd [f0,f1,f2]=f0.2.natAbs*f1.2.natAbs*f2.2.natAbs:=by
  rw [show [f0,f1,f2]=[f0]++[f1]++[f2] from rfl,dw,dw,iF,iF,iF]
 rw [e,show 2100=700+700+700 from rfl,Nat.pow_add,Nat.pow_add];exact zby (zby (zaA a) (zaA b)) (zaA c)
theorem LB (h:Ps p):S4 3000 (wv p):=by
 obtain ⟨b0,bd,bp⟩:=vk h.fq.pos;have pb:=CO h;have wb:Sz 2101 (b8 p):=by
  unfold Sz;exact zcd (zag bp pb) (Nat.pow_lt_pow_right (by decide) (by decide))
 have key:∀ k,k<3->Sz 3000 (wk p k):=λk hk=>by
  have l:=h.len;have hf:p[k]?=some p[k]:=ZJ (by omega);have fm:=ZX hf;have t:=h.fq.top _ fm;have f0:=h.fq.pos _ fm;unfold wk;rw [ZP,hf];show Sz 3000 (p[k].1*(b8 p / p[k].2));have le:(b8 p / p[k].2).natAbs<=(b8 p).natAbs:=by
   have e1:=zdZ (show 0<=b8 p by omega) (show 0<=p[k].2 by omega);have e2:=zdP p[k].2 (show 0<=b8 p by omega);omega
  exact (Sz.mul t (Sz.le wb le)).mono (by decide)
 exact ⟨key 0 (by decide),key 1 (by decide),key 2 (by decide),wb.mono (by decide)⟩
theorem Iq (hp:Ps p) (hq:Ps q) (h:lO p q=true):iH (wv p) (wv q):=by
 obtain ⟨b0,bd,_⟩:=vk hp.fq.pos;obtain ⟨c0,cd,_⟩:=vk hq.fq.pos;have lt:∀ {k:Nat} {f g:Int×Int},p[k]?=some f->q[k]?=some g->f.1*g.2<g.1*f.2->wk p k*b8 q<wk q k*b8 p:=λ{k f g} hf hg l=>by
  have e1:=uq hp bd hf;have e2:=uq hq cd hg;have f0:=hp.fq.pos f (ZX hf);have g0:=hq.fq.pos g (ZX hg);have m:0<b8 p*b8 q:=zar b0 c0;have a:=zcI l m;have c:(wk p k*b8 q)*(f.2*g.2)<(wk q k*b8 p)*(f.2*g.2):=by
   have x1:(wk p k*b8 q)*(f.2*g.2)=f.1*g.2*(b8 p*b8 q):=by
    have:(wk p k*b8 q)*(f.2*g.2)=(wk p k*f.2)*(b8 q*g.2):=by grind
    rw [this,e1];grind
   have x2:(wk q k*b8 p)*(f.2*g.2)=g.1*f.2*(b8 p*b8 q):=by
    have:(wk q k*b8 p)*(f.2*g.2)=(wk q k*g.2)*(b8 p*f.2):=by grind
    rw [this,e2];grind
   rw [x1,x2];exact a
  exact Int.lt_of_mul_lt_mul_right c (zav (zar f0 g0))
 have eq:∀ {k:Nat} {f:Int×Int},p[k]?=some f->q[k]?=some f->wk p k*b8 q=wk q k*b8 p:=λ{k f} hf hg=>by
  have e1:=uq hp bd hf;have e2:=uq hq cd hg;have f0:=hp.fq.pos f (ZX hf);have:(wk p k*b8 q)*f.2=(wk q k*b8 p)*f.2:=by
   have x1:(wk p k*b8 q)*f.2=(wk p k*f.2)*b8 q:=by grind
   have x2:(wk q k*b8 p)*f.2=(wk q k*f.2)*b8 p:=by grind
   rw [x1,x2,e1,e2];grind
  exact zbH (by omega) this
 obtain ⟨f0,f1,f2,rfl⟩:=hp.three;obtain ⟨g0,g1,g2,rfl⟩:=hq.three;unfold iH;show wk _ 0*b8 _<wk _ 0*b8 _\/(wk _ 0*b8 _=wk _ 0*b8 _/\(wk _ 1*b8 _<wk _ 1*b8 _\/(wk _ 1*b8 _=wk _ 1*b8 _/\wk _ 2*b8 _<wk _ 2*b8 _)));unfold lO at h;by_cases z0:f0=g0
 ·subst z0;rw [ZW rfl] at h;refine .inr ⟨eq (k:=0) rfl rfl,?_⟩;unfold lO at h;by_cases z1:f1=g1
  ·subst z1;rw [ZW rfl] at h;refine .inr ⟨eq (k:=1) rfl rfl,?_⟩;unfold lO at h;by_cases z2:f2=g2
   ·subst z2;rw [ZW rfl] at h;cases h
   ·rw [ZU z2] at h;exact lt (k:=2) rfl rfl (zaR h)
  ·rw [ZU z1] at h;exact .inl (lt (k:=1) rfl rfl (zaR h))
 ·rw [ZU z0] at h;exact .inl (lt (k:=0) rfl rfl (zaR h))
def rws (P:List (List (Int×Int))) (l:List Nat):Uf:=l.map λi=>l4 (wv (P.getD i []))
def cV (P:List (List (Int×Int))) (l:List Nat):Nat->V4:=cl (rws P l)
theorem yp (P:List (List (Int×Int))) (l:List Nat):(rws P l).length=l.length:=by unfold rws;rw [ZK]
theorem ka (P:List (List (Int×Int))) (hi:i<l.length):cV P l i=wv (P.getD l[i] []):=by
 unfold cV cl rws;rw [ZP,ZS,ZJ hi];exact LH _
theorem sO {P:List (List (Int×Int))} {i:Nat} (h:i<P.length):P.getD i []∈P:=by rw [ZP,ZJ h];exact Z4 h
theorem Ord.zG (hP:∀ p∈P,Ps p) (o:Ord P l):bE (cV P l) l.length:=by
 refine ⟨λi hi=>?_,λi j yX hj=>?_⟩
 ·rw [ka P hi];exact (vk (hP _ (sO (o.lt _ (Z4 hi)))).fq.pos).1
 ·have hi:i<l.length:=by omega
  rw [ka P hi,ka P hj];exact Iq (hP _ (sO (o.lt _ (Z4 hi)))) (hP _ (sO (o.lt _ (Z4 hj)))) (zaH.mp o.asc i j hi hj yX)
theorem Ord.rows (hP:∀ p∈P,Ps p) (o:Ord P l):ke (rws P l) 3000:=by
 intro r hr;unfold rws at hr;rw [mem_map] at hr;obtain ⟨i,hi,rfl⟩:=hr;obtain ⟨a,b,c,d⟩:=LB (hP _ (sO (o.lt i hi)));refine ⟨rfl,λx hx=>?_⟩;unfold l4 at hx;simp only [zaZ,zat,zba] at hx;rcases hx with rfl|rfl|rfl|rfl
 ·exact a
 ·exact b
 ·exact c
 ·exact d
def rr (l r:List Nat):Wp:=ri (r.map (at' l))
theorem gk (l r:List Nat):(rr l r).length=r.length:=by unfold rr;rw [bu,ZK]
def dl (l:List Nat) (w:Nat×Nat):dM:=((at' l w.1:Int),(at' l w.2:Int))
theorem tW (l:List Nat) (h:j<r.length):at' (r.map (at' l)) j=at' l (at' r j):=by
 unfold at';rw [ZP,ZS,ZP (l:=r),ZJ h]
 rfl
theorem L5 (l:List Nat) (h:0<r.length):sh 0 (rr l r)=(fL r).map (dl l):=by
 unfold rr;rw [B6 (by rw [ZK];exact h)];unfold fL;rw [ZK,zdR,zdR];refine zbG λj hj=>?_;rw [zeh] at hj;simp only [Function.comp];rw [tW l hj,tW l (zaK _ h)]
 rfl
structure Rn (l:List Nat) (F:List (List Nat×V4)) (G:List (List Int×V4)):Prop where
 len:G.length=F.length
 is:∀ (j:Nat) (g:List Int×V4) (p:List Nat×V4),G[j]?=some g->F[j]?=some p->g.2=p.2/\∃ k,k<p.1.length/\g.1=du (rr l p.1) k/\o9 g.1
theorem Rn.nil (l:List Nat):Rn l [] []:=⟨rfl,λj g p h=>by simp at h⟩
theorem Rn.snoc (h:Rn l F G) (h1:g.2=p.2) (hk:k<p.1.length) (h2:g.1=du (rr l p.1) k) (h3:o9 g.1):Rn l (F++[p]) (G++[g]):=by
 refine ⟨by rw [ZV,ZV,h.len];rfl,λj g' p' e1 e2=>?_⟩;by_cases z:j<F.length
 ·rw [Z0 (by rw [h.len];exact z)] at e1;rw [Z0 z] at e2;exact h.is j g' p' e1 e2
 ·rw [Z2 (by rw [h.len];omega)] at e1;rw [Z2 (by omega)] at e2;rw [h.len] at e1;have j0:j-F.length=0:=by
   have:=(ZL.mp e1).1;simp at this;omega
  rw [j0] at e1 e2;cases e1
  cases e2
  exact ⟨h1,k,hk,h2,h3⟩
theorem Rn.sh {l:List Nat} {p:List Nat×V4} {g:Wp} {k:Nat} (hk:k<p.1.length) (h:g=du (rr l p.1) k):(Gm.sh 0 g).Perm ((fL p.1).map (dl l)):=by
 rw [h,IJ (by rw [gk];exact hk),<-L5 l (by omega)];exact yo _ _
theorem Kv (nd:l.Nodup) (hv:v.1<l.length/\v.2<l.length) (hw:w.1<l.length/\w.2<l.length) (h:dl l v=dl l w):v=w:=by
 unfold dl at h;injection h with h1 h2;exact zcC (iQ nd hv.1 hw.1 (zdc h1)) (iQ nd hv.2 hw.2 (zdc h2))
theorem Rn.nodup (W:Wr c l.length F) (nd:l.Nodup) (h:Rn l F G):(G.map (·.1)).Nodup:=by
 rw [zbv,zbY];refine zaH.mpr λi j hi hj yX e=>?_;have uk:i<F.length:=by rw [<-h.len];exact hi
 have Bx:j<F.length:=by rw [<-h.len];exact hj
 obtain ⟨_,k1,q1,e1,_⟩:=h.is i _ _ (ZJ hi) (ZJ uk);obtain ⟨_,k2,q2,e2,_⟩:=h.is j _ _ (ZJ hj) (ZJ Bx);have s1:=Rn.sh q1 e1;have s2:=Rn.sh q2 e2;rw [e] at s1;have pos:0<F[i].1.length:=by omega
 have m1:(at' F[i].1 0,at' F[i].1 (1%F[i].1.length))∈fL F[i].1:=gT.mpr ⟨0,pos,rfl,rfl⟩;have m2:=(s2.mem_iff).mp ((s1.mem_iff).mpr (mem_map_of_mem (f:=dl l) m1));rw [mem_map] at m2;obtain ⟨w,hw,ew⟩:=m2;have r1:=W.range _ (zbN.mpr ⟨F[i],Z4 uk,m1⟩);have r2:=W.range _ (zbN.mpr ⟨F[j],Z4 Bx,hw⟩);have ww:=Kv nd r2 r1 ew;rw [ww] at hw;have pw:=(List.pairwise_flatMap.mp (zck.mp W.nd)).2;exact zaH.mp pw i j uk Bx yX _ m1 _ hw rfl
theorem Wr.DL (C:bE c n) (W:Wr c n F):3*F.length<=n*n:=by
 have key:∀ M:List (List Nat×V4),(∀ p∈M,3<=p.1.length)->3*M.length<=(bL M).length:=by
  intro M
  induction M with
  | nil=>intro _;exact Z7 _
  | cons a M ih=>
   intro hM;have:=ih λp hp=>hM p (Z5 _ hp);have:=hM a zac;show _<=((a::M).flatMap λp=>fL p.1).length;rw [zdt,ZV,zbg,dA];show _<=_+(bL M).length;omega
 exact zag (key F λp hp=>(W.fc p hp).2.three C (W.fc p hp).1) W.wC
theorem gA {α:Type} {d:α} {L:List α} {p:Array Nat} (h:Arr L.length p) {i:Nat} {x:α} (e:(pick d L p)[i]?=some x):∃ j,p[i]?=some j/\L[j]?=some x:=by
 rw [yE] at e;cases z:p[i]? with
 | none=>rw [z] at e;cases e
 | some j=>
  rw [z] at e;refine ⟨j,rfl,?_⟩;have hi:i<p.size:=by
   rcases Nat.lt_or_ge i p.size with w|w
   ·exact w
   ·rw [zcA w] at z;cases z
  have hj:j<L.length:=by
   have:=h.lt (i:=i) (by rw [<-h.size];exact hi);rw [zan,z] at this;exact this
  have:L.getD j d=x:=ZO e;rw [ZP,ZJ hj] at this;rw [ZJ hj];exact zaO some this
structure BC (P:List (List (Int×Int))) (l:List Nat) (F:List (List Nat×V4)) (G:List (List Int×V4)):Prop where
 ord:Ord P l
 K8:¬gI (cV P l) l.length
 wr:Wr (cV P l) l.length F
 ne:F≠[]
 rev:∀ x y,(x,y)∈bL F->(y,x)∈bL F
 rn:Rn l F G
 Hk:(G.map (·.1)).Pairwise λa b=>Le a b
theorem Ord.nodup (o:Ord P l):l.Nodup:=by
 rw [zbv];refine zcH (λh e=>?_) o.asc;rw [e,kb] at h;cases h
theorem Ab {G:List (List Int×V4)} {p:Array Nat} (h:Arr G.length p) (up:Up (λi=>(G.map (·.1)).getD i []) p G.length):((pick ([],⟨0,0,0,0⟩) G p).map (·.1)).Pairwise λa b=>Le a b:=by
 have hl:=eE (d:=(([],⟨0,0,0,0⟩):List Int×V4)) (L:=G) h;rw [zbY];refine zaH.mpr λi j hi hj yX=>?_;have at_:∀ k (hk:k<(pick ([],⟨0,0,0,0⟩) G p).length),(pick ([],⟨0,0,0,0⟩) G p)[k].1=kf (λi=>(G.map (·.1)).getD i []) p k:=λk hk=>by
  obtain ⟨m,h1,h2⟩:=gA h (ZJ hk);unfold kf;rw [zan,h1];show _=(G.map (·.1)).getD m [];rw [ZP,ZS,h2]
  rfl
 rw [at_ i hi,at_ j hj];exact up.le (by omega) (by omega)
theorem BC.of (o:Ord P l) (nf:¬gI (cV P l) l.length) (W:Wr (cV P l) l.length F) (ne:F≠[]) (rev:∀ x y,(x,y)∈bL F->(y,x)∈bL F) (rn:Rn l F G)
  (h:Arr G.length p) (up:Up (λi=>(G.map (·.1)).getD i []) p G.length):BC P l (pick ([],⟨0,0,0,0⟩) F p) (pick ([],⟨0,0,0,0⟩) G p):=by
 have hF:Arr F.length p:=by rw [<-rn.len];exact h
 have pF:=kL (d:=(([],⟨0,0,0,0⟩):List Nat×V4)) hF;have pw:(bL (pick ([],⟨0,0,0,0⟩) F p)).Perm (bL F):=pF.flatMap_right _;refine ⟨o,nf,⟨λq hq=>W.fc q (pF.mem_iff.mp hq),pw.nodup_iff.mpr W.nd⟩,λz=>ne ?_,λx y sV=>pw.mem_iff.mpr (rev x y (pw.mem_iff.mp sV)),⟨by rw [eE h,eE hF,rn.len],λj g q h1 h2=>?_⟩,Ab h up⟩
 ·rw [z] at pF;exact pF.symm.eq_nil
 ·obtain ⟨i1,a1,b1⟩:=gA h h1;obtain ⟨i2,a2,b2⟩:=gA hF h2;rw [a1] at a2;cases a2
  exact rn.is i1 g q b1 b2
def iV (H:Hp) (as:XL) (G:List (List Int×V4)):Prop:=as.length=G.length/\∀ (j:Nat) (a:Addr) (g:List Int×V4),as[j]?=some a->G[j]?=some g->∃ r q,H a=some (.tup [.ref r,.ref q])/\H r=some (.lst (g.1.map V.int))/\H q=some (.lst ((l4 g.2).map V.int))
theorem iV.same (h:iV H as G) (e:ao H H'):iV H' as G:=⟨h.1,λj a g ha hg=>by
 obtain ⟨r,q,h1,h2,h3⟩:=h.2 j a g ha hg;exact ⟨r,q,e _ _ h1,e _ _ h2,e _ _ h3⟩⟩
theorem iV.pick (h:iV H as G) (ha:Arr G.length p):iV H (L2.pick 0 as p) (L2.pick ([],⟨0,0,0,0⟩) G p):=by
 have h2:Arr as.length p:=by rw [h.1];exact ha
 refine ⟨by rw [eE ha,eE h2,h.1],λj a g e1 e2=>?_⟩;obtain ⟨i1,a1,b1⟩:=gA h2 e1;obtain ⟨i2,a2,b2⟩:=gA ha e2;rw [a1] at a2;cases a2
 exact h.2 i1 a g b1 b2
end cK
namespace L2
open PySem PySem.Spec PySem.W PySem.Calls PyProof.Rows
def Mm (K:Frag):List V->Hp->VK->Prop:=λvs H Q=>∃ (a:Addr) (ns:Wp),vs=[.ref a]/\aH K H a (ns.map V.int)/\Q (.int ns.sum) H
theorem rz (hc:X.calm=true):cR X (.builtin "sum") (Mm X.K):=by
 intro pins s σ H xs us Q I r h;obtain ⟨a,ns,rfl,ha,q⟩:=h;obtain ⟨u,rfl,ru⟩:=vals1 r;cases ru
 obtain ⟨aJ,rv,pl,hz⟩:=I.list ha;have hi:IntsAre aJ ns:=intsAre_of rv;obtain ⟨xs,e⟩:=hi.allInts.items;have lZ:ns=xs.toList.map (·.1):=by rw [<-hi.numsOf,<-nums_intItems,<-e]
 have hl:=pl.isList;rw [e] at hl;have MQ:xs.size=ns.length:=by rw [lZ,ZK,zaa]
 have Gd:∀ j,j<ns.length->numAt xs j=ns.getD j 0:=λj hj=>by rw [numAt_eq,lZ]
 have AK:∀ j,j<=ns.length->preSum (numAt xs) j=(ns.take j).sum:=by
  intro j
  induction j with
  | zero=>intro _;simp [preSum]
  | succ j ih=>
   intro hj;have i1:=ih (by omega);have Ry:j<ns.length:=by omega
   have e1:ns.getD j 0=ns[j]:=by simp [Ry]
   rw [preSum,Gd j Ry,e1,show ns.take (j+1)=ns.take j++[ns[j]] by rw [take_succ,ZJ Ry];rfl,uC,i1]
 refine sum_intListG (I.ok.hd hc) hl λh' tk t' kk=>⟨.int ns.sum,H,I.kept kk,⟨t',?_⟩,q⟩;rw [MQ,AK ns.length (ZQ _),zbn]
def PX (X:Cx) (st:Stmt) (t:XK->TS):Prop:=∀ (pins:WF) (s:Shared) (σ:St) (H:Hp) (D:Ends) (Ex:XK),Inv X pins σ H s->t Ex D σ H->wpAny (model X.prog X.w) X.A (exec st X.env) (SP X pins D) (EX X pins σ Ex) s
def Pk (X:Cx) (fL:List Stmt) (t:XK->TS):Prop:=∀ (pins:WF) (s:Shared) (σ:St) (H:Hp) (D:Ends) (Ex:XK),Inv X pins σ H s->t Ex D σ H->wpAny (model X.prog X.w) X.A (execs fL X.env) (SP X pins D) (EX X pins σ Ex) s
def LX (tc:TT) (sp:Sp) (ta:TA):XK->TS:=λEx D σ H=>tc σ H λb H1=>if b=true then ta σ H1 λvs H2=>sp (vs++[]) H2 (λ_ H3=>D.nx σ H3) Ex else D.nx σ H1
def G9 (t u:XK->TS):XK->TS:=λEx D σ H=>t Ex { D with nx:=λσ' H'=>σ'=σ/\u Ex D σ H' } σ H
def G7 (K:Frag) (tb:XK->TS) (M:Addr) (jn:Nat) (ts:TS):TS:=λD σ H=>tb (O7 K M jn ts D σ) D σ H
section
variable {X:Cx} {body:List Stmt} {tb t u:XK->TS} {x n f:Str} {M:Addr} {jn:Nat} {b₀ st:Stmt} {uD rest:List Stmt} {ts:TS} {np Q8 pos p1 p2 p3:Pos} {k j:Nat} {ps:List Str} {sp:Sp} {c e:Expr} {es:List Expr} {tc:TT} {ta:TA}
theorem CC (hc:PT X.Bw c tc) (h:bK X.prog X.w X.K X.mg X.base (br X.prog X.w) f k ps sp) (hr:df j X.A) (ha:PA X.Bw (e::es) ta) (hk:k<=j:=by decide) (Xw:Gl X f:=by rfl) (J4:(f==("__debug__":Str))=false:=by decide)
  (he:starEach (e::es) X.env=(false,eval e X.env)::starEach es X.env:=by rfl) (lK:(backTo p2 (starEach es X.env)).any (·.1)=false:=by rfl) (Q1:swapsWith (.Call (.Name f p1) (e::es) [] p2) none p3.line X.env=pure false:=by rfl) :
  PX X (.If c [.Expr (.Call (.Name f p1) (e::es) [] p2) p3] [] pos) (LX tc sp ta):=by
 intro pins s σ H D Ex I h0;refine wpAny_If (zao (hc pins s σ H _ (I.lR _) h0) (λd s1 ⟨H1,I1,q1⟩=>?_) λ_ _ z=>z.elim);have I1:=I1.fT;cases d with
 | true=>
  refine zcv (wpAny_Expr_any (zao (NU h hr ha hk Xw J4 he lK I1 q1) (λv s2 z=>?_) λev s2 z=>z) I1.quiet Q1);obtain ⟨y,H2,I2,r2,q2⟩:=z;exact zbW ⟨σ,H2,I2,q2⟩
 | false=>exact zbW ⟨σ,H1,I1,q1⟩
theorem Fn (h1:PX X st t):Pk X [st] t:=by
 intro pins s σ H D Ex I h;refine zcv (cA (h1 pins s σ H D Ex I h) λf s1 q=>?_);cases f with
 | next=>exact zbW q
 | ret v=>exact q
 | brk=>exact q
 | cont=>exact q
theorem uX (h1:PX X st t) (h2:Pk X rest u):Pk X (st::rest) (G9 t u):=by
 intro pins s σ H D Ex I h;refine zcv (cA (h1 pins s σ H { D with nx:=λσ' H'=>σ'=σ/\u Ex D σ H' } Ex I h) λf s1 q=>?_);cases f with
 | next=>
  obtain ⟨σ',H',I',rfl,q⟩:=q;exact h2 pins s1 _ H' D Ex I' q
 | ret v=>exact q
 | brk=>exact q
 | cont=>exact q
theorem Fu (hb:Pk X body tb) (XO:Body X) (hm:X.mg x=some (.ref M)) (hN:X.N.Nodup) (hj:X.N[jn]?=some n) (hl:X.env.scope.names.lookup n=some .local) (hs:∀ a,tZ (X.marked a) (b₀::uD) ts) (hg:Gl X x:=by rfl) (vC:(x==("__debug__":Str))=false:=by decide) :
  PS X (.Try body [.ExceptHandler (some (.Name x np)) (some n) (b₀::uD) Q8] [] [] pos) (G7 X.K tb M jn ts):=by
 intro pins s σ H D I hw;refine wpAny_Try_except (zao (hb pins s σ H D _ I hw) (λf s1 z=>?_) λev s1 z=>?_)
 ·cases f with
  | next=>exact zbW z
  | brk=>exact z
  | cont=>exact z
  | ret u=>exact z
 ·exact D4 XO hm hN hj hl hs hg vC z
end
section
variable {σ:St} {H:Hp} {D:Ends} {K:Frag}
theorem IT (h:tb (O7 K M jn ts D σ) D σ H):G7 K tb M jn ts D σ H:=h
theorem nC (h:t Ex { D with nx:=λσ' H'=>σ'=σ/\u Ex D σ H' } σ H):G9 t u Ex D σ H:=h
theorem qR (h:tc σ H λb H1=>if b=true then ta σ H1 λvs H2=>sp (vs++[]) H2 (λ_ H3=>D.nx σ H3) Ex else D.nx σ H1):LX tc sp ta Ex D σ H:=h
end
end L2
namespace cK
open PySem L2 Gm Dt
theorem oU (h:X.K=K):cR X (.type "tuple") (λxs H Q=>∃ p ys,xs=[.ref p]/\((aH K H p ys/\∀ l,H l=none->Q (.ref l) (upd H l (.tup ys)))\/(SqT K H p ys/\Q (.ref p) H))):=h▸jm
def Tr (H:Hp) (t:Addr) (as:XL) (T:Uf):Prop:=H t=some (.lst (as.map V.ref))/\as.length=T.length/\∀ (j:Nat) (a:Addr) (l:Wp),as[j]?=some a->T[j]?=some l->H a=some (.tup (l.map V.int))
theorem Tr.same {H H':Hp} {t:Addr} {as:XL} {T:Uf} (h:Tr H t as T) (e:ao H H'):Tr H' t as T:=⟨e _ _ h.1,h.2.1,λj a l x y=>e _ _ (h.2.2 j a l x y)⟩
theorem Tr.snoc {H:Hp} {t a:Addr} {as:XL} {T:Uf} {l:Wp} (h:Tr H t as T) (ha:H a=some (.tup (l.map V.int))):Tr (upd H t (.lst (as.map V.ref++[.ref a]))) t (as++[a]) (T++[l]):=by
 refine ⟨by rw [ae,Z6];rfl,by rw [ZV,ZV,h.2.1];rfl,λj b r hb hr=>?_⟩;by_cases z:j<as.length
 ·rw [Z0 z] at hb;rw [Z0 (by rw [<-h.2.1];exact z)] at hr;have:=h.2.2 j b r hb hr;rw [aq (λy=>by rw [y,h.1] at this;cases this)];exact this
 ·rw [Z2 (by omega)] at hb;rw [Z2 (by rw [<-h.2.1];omega)] at hr;rw [h.2.1] at hb;have j0:j-T.length=0:=by
   have:=(ZL.mp hb).1;simp at this;omega
  rw [j0] at hb hr;cases hb
  cases hr
  rw [aq (λy=>by rw [y,h.1] at ha;cases ha)];exact ha
theorem Tr.at {H:Hp} {t:Addr} {as:XL} {T:Uf} (h:Tr H t as T) {i:Nat} (hi:i<T.length):∃ a,as[i]?=some a/\ja (as.map V.ref) (i:Int)=some (V.ref a)/\H a=some (.tup (T[i].map V.int)):=by
 have:=h.2.1;have ha:i<as.length:=by omega
 exact ⟨as[i],ZJ ha,eA (by rw [ZS,ZJ ha];rfl),h.2.2 i _ _ (ZJ ha) (ZJ hi)⟩
theorem wL (hs:0<s) (hd:0<d):0<s*(d / ((Int.gcd s d:Nat):Int))/\s ∣ s*(d / ((Int.gcd s d:Nat):Int))/\d ∣ s*(d / ((Int.gcd s d:Nat):Int))/\(d / ((Int.gcd s d:Nat):Int)).natAbs<=d.natAbs/\0<d / ((Int.gcd s d:Nat):Int):=by
 have g0:=Fr.i6 s (show d≠0 by omega);obtain ⟨x,hx⟩:=Fr.k8 s d;obtain ⟨y,hy⟩:=Fr.k7 s d;generalize (Int.gcd s d:Nat)=g at *;have gz:(0:Int)<(g:Int):=by omega
 have e:d / (g:Int)=y:=by rw [hy];exact zbx _ (by omega)
 have y0:0<y:=by
  rcases zbE 0 y with h|h
  ·exact h
  ·have:=zap (zav gz) h;omega
 rw [e];refine ⟨zar hs y0,⟨y,rfl⟩,⟨x,?_⟩,?_,y0⟩
 ·rw [hy];have:s*y=g*y*x:=by
   have:s*y=g*x*y:=by rw [<-hx]
   rw [this];grind
  exact this
 ·rw [hy,zbF];exact zbZ _ (by omega)
structure uf (P:List (List (Int×Int))) (T:Uf) (S:Int):Prop where
 pos:0<S
 len:T.length=P.length
 wh:∀ (j:Nat) (p:List (Int×Int)) (x:Wp),P[j]?=some p->T[j]?=some x->Wh p S x
 sz:∀ x∈T,x.length=3/\∀ y∈x,Sz 30000 y
theorem Fx (h:X.K=K) (hl:PE X l tl):PI X tg l (JP K tl):=h▸kM hl
theorem Cs (h:t σ H λx H1=>∃ a,x=.ref a/\(∃ xs,SqT K H1 a xs)/\R (GS K a) H1):JP K t σ H R:=h
def c8 (a b:V3):V3:=⟨a.u-b.u,a.v-b.v,a.w-b.w⟩
def HY (a b:V3):V3:=⟨a.v*b.w-a.w*b.v,a.w*b.u-a.u*b.w,a.u*b.v-a.v*b.u⟩
def dB (p q r:V3):V3:=HY (c8 q p) (c8 r p)
def ji (w p q:V3):Int:=ki w (c8 q p)
def t3 (l:Wp):V3:=⟨l.getD 0 0,l.getD 1 0,l.getD 2 0⟩
theorem MI (h:l.length=3):l3 (t3 l)=l:=by
 match l,h with
 | [x,y,z],_=>rfl
theorem S3.of (h:l.length=3) (hz:∀ y∈l,Sz z y):S3 z (t3 l):=by
 match l,h with
 | [x,y,w],_=>exact ⟨hz x (by simp),hz y (by simp),hz w (by simp)⟩
theorem S3.sub (ha:S3 z a) (hb:S3 z b):S3 (z+1) (c8 a b):=⟨Sz.sub ha.1 hb.1,Sz.sub ha.2.1 hb.2.1,Sz.sub ha.2.2 hb.2.2⟩
theorem S3.HY (ha:S3 z a) (hb:S3 z b):S3 (z+z+1) (cK.HY a b):=
 ⟨Sz.sub (Sz.mul ha.2.1 hb.2.2) (Sz.mul ha.2.2 hb.2.1),Sz.sub (Sz.mul ha.2.2 hb.1) (Sz.mul ha.1 hb.2.2),Sz.sub (Sz.mul ha.1 hb.2.1) (Sz.mul ha.2.1 hb.1)⟩
theorem S3.dB (hp:S3 30000 p) (hq:S3 30000 q) (hr:S3 30000 r):S3 60010 (cK.dB p q r):=by
 obtain ⟨a,b,c⟩:=(hq.sub hp).HY (hr.sub hp);exact ⟨a.mono (by decide),b.mono (by decide),c.mono (by decide)⟩
def lN (T:Uf):PyData:=.list (T.map gE)
theorem vm:∀ T:Uf,PyData.canLayAll0 (T.map gE)=true/\PyData.depthAll (T.map gE)<=1
 | []=>⟨by simp [PyData.canLayAll0],by simp [PyData.depthAll]⟩
 | p::P=>by
  obtain ⟨h1,h2⟩:=vm P;have h3:=zbI (eZ p);have h4:=zw p;refine ⟨by simp [PyData.canLayAll0,h1,h3],?_⟩;simp [PyData.depthAll];omega
theorem lD (T:Uf):SeqAt.shaped (lN T)=true:=by
 obtain ⟨h1,h2⟩:=vm T;unfold SeqAt.shaped lN;simp [PyData.canLay0,PyData.depth,h1];omega
theorem q5:∀ P R:Uf,PyData.eqvAll (P.map gE) (R.map gE)=decide (P=R)
 | [],[]=>by simp [PyData.eqvAll]
 | [],_::_=>by simp [PyData.eqvAll]
 | _::_,[]=>by simp [PyData.eqvAll]
 | p::P,r::R=>by
  rw [zaX,zaX,PyData.eqvAll,q5 P R,tJ];by_cases h1:p=r<;>by_cases h2:P=R<;>simp [h1,h2]
theorem DT (P R:Uf):PyData.eqv (lN P) (lN R)=decide (P=R):=by
 unfold lN;rw [PyData.eqv];exact q5 P R
theorem Tr.D2 {H:Hp} {t:Addr} {as:XL} {T:Uf} (h:Tr H t as T):lC H as (T.map gE):=by
 refine ⟨by rw [ZK];exact h.2.1,λj b e hb he=>?_⟩;rw [ZS] at he;cases q:T[j]? with
 | none=>rw [q] at he;cases he
 | some p=>
  rw [q] at he;cases he
  exact ⟨mF (h.2.2 j b p hb q),eZ p,zag (zw p) (by decide)⟩
theorem Tr.su {H:Hp} {t:Addr} {as:XL} {T:Uf} (h:Tr H t as T):jc H (.ref t) (lN T):=.lst h.1 (sr h.D2)
def tv (T:Uf) (i:Nat):V3:=t3 (T.getD i [])
def Tz (T:Uf):Prop:=∀ x∈T,x.length=3/\∀ y∈x,Sz 30000 y
theorem LL {T:Uf} (h:Tz T) {i:Nat} (hi:i<T.length):T[i]=l3 (tv T i)/\S3 30000 (tv T i):=by
 obtain ⟨h1,h2⟩:=h T[i] (Z4 hi);have e:T.getD i []=T[i]:=by rw [ZP,ZJ hi];rfl
 unfold tv;rw [e];exact ⟨(MI h1).symm,S3.of h1 h2⟩
def Bp (T:Uf):Prop:=∀ i j k q,k<j->j<i->i<T.length->q<T.length->ji (dB (tv T i) (tv T j) (tv T k)) (tv T i) (tv T q)=0
structure Rel (S:Int) (a:V4) (u:V3):Prop where
 w:0<a.w
 x:a.w*u.u=S*a.x
 y:a.w*u.v=S*a.y
 z:a.w*u.w=S*a.z
theorem IB (S aw bw cw:Int) (p q r:V3):(aL ⟨aw*p.u,aw*p.v,aw*p.w,S*aw⟩ ⟨bw*q.u,bw*q.v,bw*q.w,S*bw⟩ ⟨cw*r.u,cw*r.v,cw*r.w,S*cw⟩).x=S*(aw*bw*cw)*(dB p q r).u:=by
 unfold aL tn dB HY c8;dsimp only;grind
theorem IA (S aw bw cw:Int) (p q r:V3):(aL ⟨aw*p.u,aw*p.v,aw*p.w,S*aw⟩ ⟨bw*q.u,bw*q.v,bw*q.w,S*bw⟩ ⟨cw*r.u,cw*r.v,cw*r.w,S*cw⟩).y=S*(aw*bw*cw)*(dB p q r).v:=by
 unfold aL tn dB HY c8;dsimp only;grind
theorem Iz (S aw bw cw:Int) (p q r:V3):(aL ⟨aw*p.u,aw*p.v,aw*p.w,S*aw⟩ ⟨bw*q.u,bw*q.v,bw*q.w,S*bw⟩ ⟨cw*r.u,cw*r.v,cw*r.w,S*cw⟩).z=S*(aw*bw*cw)*(dB p q r).w:=by
 unfold aL tn dB HY c8;dsimp only;grind
theorem IC (S aw bw cw:Int) (p q r:V3):(aL ⟨aw*p.u,aw*p.v,aw*p.w,S*aw⟩ ⟨bw*q.u,bw*q.v,bw*q.w,S*bw⟩ ⟨cw*r.u,cw*r.v,cw*r.w,S*cw⟩).w=-(aw*bw*cw)*ki (dB p q r) p:=by
 unfold aL tn dB HY c8 ki;dsimp only;grind
def sc (S:Int) (a:V4):V4:=⟨S*a.x,S*a.y,S*a.z,S*a.w⟩
theorem ES (S:Int) (a b c:V4):aL (sc S a) (sc S b) (sc S c)=sc (S*S*S) (aL a b c):=by
 unfold aL sc tn;dsimp only
 congr 1<;>grind
theorem Rel.sc (h:Rel S a u):cK.sc S a=⟨a.w*u.u,a.w*u.v,a.w*u.w,S*a.w⟩:=by
 unfold cK.sc;rw [h.x,h.y,h.z]
section
variable (ha:Rel S a p) (hb:Rel S b q) (hc:Rel S c r)
include ha hb hc
theorem uU (hS:0<S):S*S*(aL a b c).x=a.w*b.w*c.w*(dB p q r).u/\S*S*(aL a b c).y=a.w*b.w*c.w*(dB p q r).v/\S*S*(aL a b c).z=a.w*b.w*c.w*(dB p q r).w/\S*S*S*(aL a b c).w=-(a.w*b.w*c.w)*ki (dB p q r) p:=by
 have e:=ES S a b c;rw [ha.sc,hb.sc,hc.sc] at e;have ex:=zaO V4.x e;have ey:=zaO V4.y e;have ez:=zaO V4.z e;have ew:=zaO V4.w e;rw [IB] at ex;rw [IA] at ey;rw [Iz] at ez;rw [IC] at ew;unfold sc at ex ey ez ew;dsimp only at ex ey ez ew;have s0:S≠0:=by omega
 refine ⟨zbL s0 ?_,zbL s0 ?_,zbL s0 ?_,ew.symm⟩
 ·grind
 ·grind
 ·grind
theorem E8 (hS:0<S) (hd:Rel S d s):S*S*S*cG a b c d=a.w*b.w*c.w*d.w*ji (dB p q r) p s:=by
 obtain ⟨e1,e2,e3,e4⟩:=uU ha hb hc hS;have h1:S*S*S*cG a b c d=S*S*(aL a b c).x*(S*d.x)+S*S*(aL a b c).y*(S*d.y)+S*S*(aL a b c).z*(S*d.z)+S*S*S*(aL a b c).w*d.w:=by
  unfold cG dot;grind
 rw [h1,e1,e2,e3,e4,<-hd.x,<-hd.y,<-hd.z];unfold ji ki c8;dsimp only;grind
end
theorem wM {A B x y:Int} (hA:0<A) (hB:0<B) (e:A*x=B*y):(x<=0↔y<=0)/\(x=0↔y=0)/\(x<0↔y<0):=by
 have f:∀ {A B x y:Int},0<A->0<B->A*x=B*y->(x<0->y<0)/\(0<x->0<y):=λ{A B x y} hA hB e=>by
  constructor
  ·intro h;have:=zaG hA h;refine Int.not_le.mp λz=>?_;have:=zbS (zav hB) z;omega
  ·intro h;have:=zar hA h;refine Int.not_le.mp λz=>?_;have:=zap (zav hB) z;omega
 obtain ⟨f1,f2⟩:=f hA hB e;obtain ⟨g1,g2⟩:=f hB hA e.symm;refine ⟨⟨λh=>?_,λh=>?_⟩,⟨λh=>?_,λh=>?_⟩,⟨f1,g1⟩⟩<;>omega
theorem se (ha:Rel S a p) (hb:Rel S b q) (hc:Rel S c r) (hd:Rel S d s) (hS:0<S):(cG a b c d<=0↔ji (dB p q r) p s<=0)/\(cG a b c d=0↔ji (dB p q r) p s=0)/\(cG a b c d<0↔ji (dB p q r) p s<0):=
 wM (zar (zar hS hS) hS) (zar (zar (zar ha.w hb.w) hc.w) hd.w) (E8 ha hb hc hS hd)
theorem Ci (hS:0<S) (hz:Nz pl) (ha:Rel S a p) (hb:Rel S b q) (hc:Rel S c r) (sa:dot pl a=0) (sb:dot pl b=0) (sd:dot pl c=0) :
  ∃ k t:Int,0<k/\0<t/\k*(dB p q r).u=t*T pl a b c*pl.x/\k*(dB p q r).v=t*T pl a b c*pl.y/\k*(dB p q r).w=t*T pl a b c*pl.z:=by
 obtain ⟨m,m0,hm⟩:=g7 hz;obtain ⟨e1,e2,e3,_⟩:=uU ha hb hc hS;have hm:=hm a b c sa sb sd;have mx:=hm ⟨1,0,0,0⟩;have my:=hm ⟨0,1,0,0⟩;have mz:=hm ⟨0,0,1,0⟩;unfold cG dot at mx my mz;simp only [Int.mul_one,zbi,Int.add_zero,zbj] at mx my mz;refine ⟨m*(a.w*b.w*c.w),S*S,zar m0 (zar (zar ha.w hb.w) hc.w),zar hS hS,?_,?_,?_⟩<;>grind
theorem Ck (hS:0<S) (hz:Nz pl) (ha:Rel S a p) (hb:Rel S b q) (hc:Rel S c r) (sa:dot pl a=0) (sb:dot pl b=0) (sd:dot pl c=0)
  (RO:Rel S a' p') (Lf:Rel S b' q') (vD:Rel S c' r') (VL:dot pl a'=0) (PZ:dot pl b'=0) (VJ:dot pl c'=0) (t1:0<T pl a b c) :
  (0<T pl a' b' c'->0<ki (dB p q r) (dB p' q' r'))/\(0<=T pl a' b' c'->0<=ki (dB p q r) (dB p' q' r')):=by
 obtain ⟨k,t,k0,t0,e1,e2,e3⟩:=Ci hS hz ha hb hc sa sb sd;obtain ⟨k',t',WJ,VB,Yz,Yy,Yx⟩:=Ci hS hz RO Lf vD VL PZ VJ;have n0:0<pl.x*pl.x+pl.y*pl.y+pl.z*pl.z:=by
  have sq:∀ x:Int,0<=x*x/\(x≠0->0<x*x):=λx=>by
   rcases zci x 0 with h|h|h
   ·have:=zbq h h;exact ⟨by omega,λ_=>this⟩
   ·subst h;exact ⟨by decide,λz=>absurd rfl z⟩
   ·have:=zar h h;exact ⟨by omega,λ_=>this⟩
  have s1:=sq pl.x;have s2:=sq pl.y;have s3:=sq pl.z;rcases hz with h|h|h
  ·have:=s1.2 h;omega
  ·have:=s2.2 h;omega
  ·have:=s3.2 h;omega
 have e:k*k'*ki (dB p q r) (dB p' q' r')=(t*T pl a b c*t'*(pl.x*pl.x+pl.y*pl.y+pl.z*pl.z))*T pl a' b' c':=by
  have:k*k'*ki (dB p q r) (dB p' q' r')=(k*(dB p q r).u)*(k'*(dB p' q' r').u)+(k*(dB p q r).v)*(k'*(dB p' q' r').v)+(k*(dB p q r).w)*(k'*(dB p' q' r').w):=by unfold ki;grind
  rw [this,e1,e2,e3,Yz,Yy,Yx];grind
 have A:=zar k0 WJ;have B:=zar (zar (zar t0 t1) VB) n0;obtain ⟨f1,f2,f3⟩:=wM A B e;constructor<;>intro h
 ·refine Int.not_le.mp λz=>?_;have:=f1.mp z;omega
 ·refine Int.not_lt.mp λz=>?_;have:=f3.mp z;omega
end cK
namespace iS
open PySem
def ph (x:Nat×Nat):Int:=reduceHash (Builtin.Tuple.tupleHashOf [hashInt (x.1:Int),hashInt (x.2:Int)])
def Tw:Wp:=(List.range 144).map λi=>ph (i / 12,i%12)
theorem Jh:Tw.Nodup:=by decide +kernel
theorem Ji (hx:x.1<12/\x.2<12) (hy:y.1<12/\y.2<12) (e:ph x=ph y):x=y:=by
 have nd:=Jh;unfold Tw at nd;rw [zbv,zbY] at nd;have key:∀ i j,i<j->j<144->ph (i / 12,i%12)≠ph (j / 12,j%12):=λi j ij hj=>by
  have:=zaH.mp nd i j (by simp;omega) (by simp;omega) ij;simpa using this
 have ex:x=((x.1*12+x.2) / 12,(x.1*12+x.2)%12):=zcC (by simp;omega) (by simp;omega);have ey:y=((y.1*12+y.2) / 12,(y.1*12+y.2)%12):=zcC (by simp;omega) (by simp;omega);have yW:x.1*12+x.2=y.1*12+y.2:=by
  rcases zab (x.1*12+x.2) (y.1*12+y.2) with z|z|z
  ·exact absurd (by rw [<-ex,<-ey];exact e) (key _ _ z (by omega))
  ·exact z
  ·exact absurd (by rw [<-ex,<-ey];exact e.symm) (key _ _ z (by omega))
 exact zcC (by omega) (by omega)
def lp (m:Nat):Nat->Nat×Nat->Nat×Nat
 | 0,x=>x
 | n+1,x=>lp m n (SetTable.leap m x.1 x.2)
theorem nX (m:Nat):∀ (a b:Nat) (x:Nat×Nat),lp m (a+b) x=lp m b (lp m a x)
 | 0,b,x=>by rw [zcU];rfl
 | a+1,b,x=>by rw [Nat.succ_add];exact nX m a b _
theorem C5 (m:Nat):∀ (n:Nat) (x:Nat×Nat),(lp m n x).2=x.2 / 32 ^ n
 | 0,x=>by simp [lp]
 | n+1,x=>by
  show (lp m n _).2=_;rw [C5 m n];show x.2 / 32 / 32 ^ n=_;rw [Nat.div_div_eq_div_mul,Nat.pow_succ,Nat.mul_comm]
theorem HA (m:Nat):∀ (n:Nat) (x:Nat×Nat),x.1<=m->(lp m n x).1<=m
 | 0,x,h=>h
 | n+1,x,h=>HA m n _ (by show (x.1*5+1+x.2 / 32)%(m+1)<=m;have:=zaK (x.1*5+1+x.2 / 32) (show 0<m+1 by omega);omega)
def Mk (m:Nat):Prop:=m=7\/m=31\/m=127\/m=511
def K6 (m:Nat):Nat->Nat->List Nat
 | 0,_=>[]
 | n+1,i=>i::K6 m n ((i*5+1)%(m+1))
theorem CQ (m:Nat):∀ (n i k:Nat),k<n->(K6 m n i)[k]?=some (lp m k (i,0)).1
 | 0,_,_,h=>absurd h (zdf _)
 | n+1,i,0,_=>rfl
 | n+1,i,k+1,h=>by
  show (K6 m n ((i*5+1)%(m+1)))[k]?=_;rw [CQ m n _ k (by omega)];show _=some (lp m k (SetTable.leap m i 0)).1;rw [show SetTable.leap m i 0=((i*5+1)%(m+1),0) from by unfold SetTable.leap;simp]
theorem sE (m:Nat):∀ (n i:Nat),(K6 m n i).length=n
 | 0,_=>rfl
 | n+1,i=>by show (K6 m n _).length+1=_;rw [sE m n]
theorem yG (h:Mk m):((List.range (m+1)).all λj=>(K6 m (m+1) 0).contains j)=true/\(lp m (m+1) (0,0))=(0,0):=by
 rcases h with rfl|rfl|rfl|rfl
 ·exact ⟨by decide +kernel,by decide +kernel⟩
 ·exact ⟨by decide +kernel,by decide +kernel⟩
 ·exact ⟨by decide +kernel,by decide +kernel⟩
 ·exact ⟨by decide +kernel,by decide +kernel⟩
theorem CP (h:Mk m) (hj:j<=m):∃ k,k<=m/\lp m k (0,0)=(j,0):=by
 have:=List.all_eq_true.mp (yG h).1 j (zaj.mpr (by omega));have:=mem_of_elem_eq_true this;obtain ⟨k,hk,e⟩:=zcf this;rw [sE] at hk;have e2:=CQ m (m+1) 0 k hk;rw [ZJ (by rw [sE];exact hk),e] at e2;refine ⟨k,by omega,zcC (ZO e2).symm ?_⟩;rw [C5];simp
theorem Jo (h:Mk m) (hi:i<=m) (hj:j<=m):∃ k,k<=m/\(lp m k (i,0)).1=j:=by
 obtain ⟨a,ha,ea⟩:=CP h hi;obtain ⟨b,hb,eb⟩:=CP h hj;by_cases ab:a<=b
 ·refine ⟨b-a,by omega,?_⟩;rw [<-ea,<-nX,show a+(b-a)=b by omega,eb]
 ·refine ⟨m+1-a+b,by omega,?_⟩;rw [<-ea,<-nX,show a+(m+1-a+b)=(m+1)+b by omega,nX,(yG h).2,eb]
theorem HB (h:Mk m) (hi:i<=m) (hp:pb<2 ^ 64) (hj:j<=m):∃ k,k<m+15/\(lp m k (i,pb)).1=j:=by
 have e:lp m 13 (i,pb)=((lp m 13 (i,pb)).1,0):=zcC rfl (by rw [C5];exact Nat.div_eq_of_lt (by omega));obtain ⟨k,hk,ek⟩:=Jo h (HA m 13 (i,pb) hi) hj;refine ⟨13+k,by omega,?_⟩;rw [nX,e,ek]
theorem jv {α:Type} [DecidableEq α]:∀ {l m:List α},l.Nodup->(∀ x∈l,x∈m)->l.length<=m.length
 | [],m,_,_=>Z7 _
 | x::l,m,hn,hs=>by
  have hx:x∈m:=hs x zac;have Dr:=zbp.mp hn;have pl:=(perm_cons_erase hx).length_eq;rw [zbg] at pl;have:=jv (m:=m.erase x) Dr.2 λy hy=>(mem_erase_of_ne λe=>Dr.1 (by rw [<-e];exact hy)).mpr (hs y (Z5 _ hy));rw [zbg];omega
theorem DB {l:List Nat} {m:Nat} (h:l.length<=m):∃ j,j<=m/\j∉l:=by
 refine Classical.byContradiction λz=>?_;have:=jv (l:=List.range (m+1)) (m:=l) nodup_range λx hx=>Classical.byContradiction λy=>z ⟨x,by have:=zaj.mp hx;omega,y⟩;rw [zaN] at this;omega
theorem qO {t:SetTable} {j i:Nat} (e:t.slot j=.live i):i<t.place.size/\j∈t.place.toList:=by
 unfold SetTable.slot at e;dsimp only at e;split at e
 ·rename_i c;injection e with e;subst e;have c:=eq_of_beq c;obtain ⟨h1,h2⟩:=zbl.mp c;exact ⟨h1,by rw [<-h2];exact Array.getElem_mem_toList h1⟩
 ·split at e<;>cases e
theorem Tb.gap (h:Tb led t) (hs:t.place.size<=t.mask):∃ j,j<=t.mask/\t.slot j=.empty:=by
 obtain ⟨j,h1,h2⟩:=DB (l:=t.place.toList) (m:=t.mask) (by rw [zaa];exact hs);refine ⟨j,h1,?_⟩;cases e:t.slot j with
 | empty=>rfl
 | dummy=>exact absurd e (h.yI j)
 | live i=>exact absurd (qO e).2 h2
theorem KQ {t:SetTable} {p:SetTable.Probe} {k:Nat} (h:p.more=k+1):t.advance p={ p with j:=p.j+1,more:=k }:=by
 unfold SetTable.advance;rw [ZW (by omega),h]
 rfl
theorem GK {t:SetTable} {p:SetTable.Probe} (h:p.more=0):∃ m,t.advance p={ p with j:=(SetTable.leap t.mask p.i p.perturb).1,more:=m,i:=(SetTable.leap t.mask p.i p.perturb).1,perturb:=(SetTable.leap t.mask p.i p.perturb).2 }/\m<=9:=by
 unfold SetTable.advance;rw [ZU (by omega)];refine ⟨_,rfl,?_⟩;unfold SetTable.runEnd;split<;>omega
section
variable {led:Bool} {t:SetTable} (tb:Tb led t) {ha:Nat->Int} {h:Int} (yW:∀ i,i<t.place.size->ha i≠h) {g:Nat} (eg:t.slot g=.empty)
include tb yW eg
theorem qT {N:Nat} (ih:∀ (fuel:Nat) (p:SetTable.Probe),p.dummy=none->p.j=p.i->p.more<=9->(lp t.mask N (p.i,p.perturb)).1=g->10*N+1<=fuel->∃ j,SetTable.probe.go t ha h fuel p=some (.empty j none)/\t.slot j=.empty) :
  ∀ (more fuel:Nat) (p:SetTable.Probe),p.more=more->p.dummy=none->(lp t.mask N (SetTable.leap t.mask p.i p.perturb)).1=g->10*N+1+more+1<=fuel->∃ j,SetTable.probe.go t ha h fuel p=some (.empty j none)/\t.slot j=.empty
 | more,0,p,_,_,_,hf=>by omega
 | more,fuel+1,p,hm,hd,hl,hf=>by
  unfold SetTable.probe.go;cases e:t.slot p.j with
  | empty=>exact ⟨p.j,by rw [hd],e⟩
  | dummy=>exact absurd e (tb.yI _)
  | live i=>
   dsimp only;rw [ZU (by rw [beq_iff_eq];exact yW i (qO e).1)]
   match more,hm,hf with
   | 0,hm,hf=>
    obtain ⟨m,e1,h9⟩:=GK (t:=t) hm;rw [e1];exact ih fuel _ hd rfl h9 hl (by omega)
   | k+1,hm,hf=>
    rw [KQ hm];exact qT ih k fuel _ rfl hd hl (by omega)
theorem u5:∀ (N fuel:Nat) (p:SetTable.Probe),p.dummy=none->p.j=p.i->p.more<=9->(lp t.mask N (p.i,p.perturb)).1=g->10*N+1<=fuel->∃ j,SetTable.probe.go t ha h fuel p=some (.empty j none)/\t.slot j=.empty
 | _,0,_,_,_,_,_,hf=>by omega
 | 0,fuel+1,p,hd,hj,h9,hl,hf=>by
  unfold SetTable.probe.go;have e:t.slot p.j=.empty:=by rw [hj];rw [<-eg,<-hl];rfl
  rw [e];exact ⟨p.j,by rw [hd],e⟩
 | N+1,fuel+1,p,hd,hj,h9,hl,hf=>qT tb yW eg (N:=N) (λf p=>u5 N f p) p.more (fuel+1) p rfl hd hl (by omega)
end
theorem wW (tb:Tb led t) (mk:Mk t.mask) (hs:t.place.size<=t.mask) (yW:∀ i,i<t.place.size->ha i≠h):∃ j,t.probe ha h (t.probeStart h)=some (.empty j none)/\t.slot j=.empty:=by
 obtain ⟨g,hg,eg⟩:=tb.gap hs;have bl:SetTable.bits h<2 ^ 64:=by unfold SetTable.bits;omega
 have il:SetTable.bits h%(t.mask+1)<=t.mask:=by have:=zaK (SetTable.bits h) (show 0<t.mask+1 by omega);omega
 obtain ⟨N,hN,el⟩:=HB mk il bl hg;unfold SetTable.probe;refine u5 tb yW eg N _ _ rfl rfl ?_ el (by unfold SetTable.turns;omega);show SetTable.runEnd t.mask _-_<=9;unfold SetTable.runEnd;split<;>omega
theorem y9 {m:Nat} {owner:Array (Option Nat)} {j:Nat} (hj:owner[j]?=some none):∀ (N fuel i pb:Nat),(lp m N (i,pb)).1=j->N<fuel->∃ s,SetTable.layClean.free m owner fuel i pb=some s/\owner[s]?=some none
 | _,0,_,_,_,h=>by omega
 | N,fuel+1,i,pb,hl,h=>by
  unfold SetTable.layClean.free;cases c:(List.range (SetTable.runEnd m i+1-i)).find? λk=>(owner.getD (i+k) (some 0)).isNone with
  | some k=>
   refine ⟨i+k,rfl,?_⟩;have:=find?_some c;rw [zan] at this;cases z:owner[i+k]? with
   | none=>rw [z] at this;cases this
   | some o=>
    rw [z] at this;cases o with
    | none=>rfl
    | some q=>cases this
  | none=>
   dsimp only
   match N,hl,h with
   | 0,hl,h=>
    have e:i=j:=hl;subst e;have:=List.find?_eq_none.mp c 0 (zaj.mpr (by unfold SetTable.runEnd;split<;>omega));rw [Nat.add_zero,zan,hj] at this;exact absurd rfl this
   | N+1,hl,h=>exact y9 hj N fuel _ _ hl (by omega)
structure Own (m k:Nat) (owner:Array (Option Nat)) (sl:List Nat):Prop where
 sz:owner.size=m+1
 len:sl.length=k
 nd:sl.Nodup
 to:∀ q s:Nat,sl[q]?=some s->owner[s]?=some (some q)
 fr:∀ s q:Nat,owner[s]?=some (some q)->sl[q]?=some s
theorem Own.start (m:Nat):Own m 0 (Array.replicate (m+1) none) []:=by
 refine ⟨by simp,rfl,nodup_nil,λq s h=>by simp at h,λs q h=>?_⟩;rw [Array.getElem?_replicate] at h;split at h<;>simp at h
theorem Own.gap (o:Own m k owner sl) (hk:k<=m):∃ j,j<=m/\owner[j]?=some none:=by
 obtain ⟨j,h1,h2⟩:=DB (l:=sl) (m:=m) (by rw [o.len];exact hk);refine ⟨j,h1,?_⟩;have lt:j<owner.size:=by rw [o.sz];omega
 cases e:owner[j] with
 | none=>rw [zbb lt,e]
 | some q=>
  have:=o.fr j q (by rw [zbb lt,e]);exact absurd (ZX this) h2
theorem Own.put (o:Own m k owner sl) (hs:owner[s]?=some none):Own m (k+1) (owner.setIfInBounds s (some k)) (sl++[s]):=by
 have lt:=(zbl.mp hs).1;have Er:s∉sl:=λz=>by
  obtain ⟨q,hq,e⟩:=zcf z;have:=o.to q s (by rw [ZJ hq,e]);rw [hs] at this;cases this
 refine ⟨by rw [Array.size_setIfInBounds];exact o.sz,by rw [ZV,o.len];rfl,(zdJ s sl).nodup_iff.mpr (zbp.mpr ⟨Er,o.nd⟩),λq u h=>?_,λu q h=>?_⟩
 ·rw [getElem?_append] at h;split at h
  ·have hu:=o.to q u h;have:s≠u:=λz=>by rw [<-z,hs] at hu;cases hu
   rw [zdH this];exact hu
  ·rename_i c;have q0:q-sl.length=0:=by
    have:=(ZL.mp h).1;simp at this;omega
   rw [q0] at h;cases h
   have:q=k:=by rw [o.len] at c q0;omega
   rw [zcJ lt,this]
 ·by_cases z:s=u
  ·subst z;rw [zcJ lt] at h;cases h
   rw [Z2 (by rw [o.len];exact ZQ _),o.len,zdE]
   rfl
  ·rw [zdH z] at h;have:=o.fr u q h;rw [Z0 (ZL.mp this).1];exact this
def mI (m:Nat) (acc:Option (Array (Option Nat)×Nat)) (h:Int):Option (Array (Option Nat)×Nat):=do
  let (owner,k) <-acc;let j <-SetTable.layClean.free m owner (SetTable.turns m) (SetTable.bits h%(m+1)) (SetTable.bits h)
  pure (owner.setIfInBounds j (some k),k+1)
theorem vp {m:Nat} (mk:Mk m):∀ (hs:Wp) (k:Nat) (owner:Array (Option Nat)) (sl:List Nat),Own m k owner sl->k+hs.length<=m+1->∃ ow L4,hs.foldl (mI m) (some (owner,k))=some (ow,k+hs.length)/\Own m (k+hs.length) ow L4
 | [],k,owner,sl,o,_=>⟨owner,sl,rfl,o⟩
 | h::hs,k,owner,sl,o,hl=>by
  rw [zbg] at hl;obtain ⟨j,hj,ej⟩:=o.gap (by omega);have bl:SetTable.bits h<2 ^ 64:=by unfold SetTable.bits;omega
  have il:SetTable.bits h%(m+1)<=m:=by have:=zaK (SetTable.bits h) (show 0<m+1 by omega);omega
  obtain ⟨N,hN,el⟩:=HB mk il bl hj;obtain ⟨s,e1,e2⟩:=y9 ej N (SetTable.turns m) _ _ el (by unfold SetTable.turns;exact hN);have st:mI m (some (owner,k)) h=some (owner.setIfInBounds s (some k),k+1):=by
   unfold mI;simp only [bind,Option.bind,e1]
   rfl
  rw [foldl_cons,st,zbg];have:=vp mk hs (k+1) _ _ (o.put e2) (by omega);rw [show k+(hs.length+1)=k+1+hs.length by omega];exact this
theorem AA (mk:Mk m) (h:hs.size<=m+1):∃ ow sl,SetTable.layClean m hs=some ow/\Own m hs.size ow sl:=by
 obtain ⟨ow,sl,e,o⟩:=vp mk hs.toList 0 _ _ (Own.start m) (by rw [zaa];omega);rw [zaa,zcU] at e o;refine ⟨ow,sl,?_,o⟩;unfold SetTable.layClean;rw [<-Array.foldl_toList];show ((hs.toList.foldl (mI m) (some (Array.replicate (m+1) none,0))).map (·.1))=_;rw [e]
 rfl
theorem DF {α β:Type} {f:α->Option β}:∀ {l:List α},(∀ x∈l,(f x).isSome)->(l.filterMap f).length=l.length
 | [],_=>rfl
 | x::l,h=>by
  obtain ⟨y,e⟩:=zaU.mp (h x zac);rw [zcK,e];show (l.filterMap f).length+1=_;rw [DF λz hz=>h z (Z5 _ hz)]
  rfl
theorem Ag {t:SetTable} {es:Array (Int×Value)} {wanted:Nat} (mk:Mk (SetTable.sizeAbove wanted-1)) (h:es.size<=SetTable.sizeAbove wanted-1) :
  ∃ t' order,t.relaid (es.map (·.1)) wanted=some (t',order)/\(order.filterMap (es[·]?)).size=es.size/\(∀ e∈(order.filterMap (es[·]?)).toList,e∈es.toList)/\t'.place.size=es.size/\t'.mask=SetTable.sizeAbove wanted-1/\t'.dummies=#[]:=by
 obtain ⟨ow,sl,e,o⟩:=AA mk (hs:=es.map (·.1)) (by rw [Array.size_map];omega);rw [Array.size_map] at o;generalize hm:SetTable.sizeAbove wanted-1=m at *;have ll:((List.range (m+1)).filterMap λj=>(ow.getD j none).map (j,·)).length=es.size:=by
  have nd:(((List.range (m+1)).filterMap λj=>(ow.getD j none).map (j,·)).map (·.1)).Nodup:=by
   rw [zbv,zbY];refine List.Pairwise.filterMap _ ?_ (pairwise_lt_range (n:=m+1));intro a b ab c hc d hd;obtain ⟨u,_,rfl⟩:=zbc.mp hc;obtain ⟨v,_,rfl⟩:=zbc.mp hd;exact Z1 ab
  have mem:∀ x,x∈(((List.range (m+1)).filterMap λj=>(ow.getD j none).map (j,·)).map (·.1))↔x∈sl:=λx=>by
   constructor
   ·intro hx;obtain ⟨⟨a,b⟩,hp,rfl⟩:=zaB.mp hx;obtain ⟨j,_,hj⟩:=zbM.mp hp;obtain ⟨u,hu,e2⟩:=zbc.mp hj;cases e2
    rw [zan] at hu;cases z:ow[a]? with
    | none=>rw [z] at hu;cases hu
    | some v=>rw [z] at hu;cases hu;exact ZX (o.fr a _ z)
   ·intro hx;obtain ⟨q,hq,e2⟩:=zcf hx;have:=o.to q x (by rw [ZJ hq,e2]);have lt:=(zbl.mp this).1;rw [o.sz] at lt;refine zaB.mpr ⟨(x,q),zbM.mpr ⟨x,zaj.mpr lt,?_⟩,rfl⟩;rw [zan,this]
    rfl
  have l1:=jv nd λx hx=>(mem x).mp hx;have l2:=jv o.nd λx hx=>(mem x).mpr hx;rw [ZK,o.len] at l1 l2;omega
 have er:t.relaid (es.map (·.1)) wanted=some ({ mask:=m,place:=(((List.range (m+1)).filterMap λj=>(ow.getD j none).map (j,·)).map (·.1)).toArray,dummies:=#[],finger:=t.finger,led:=t.led,moves:=t.movedTo m,plain:=t.plain },(((List.range (m+1)).filterMap λj=>(ow.getD j none).map (j,·)).map (·.2)).toArray):=by
  unfold SetTable.relaid SetTable.laid;rw [hm,e]
  rfl
 refine ⟨_,_,er,?_,?_,?_,rfl,rfl⟩
 ·rw [<-zaa,Array.toList_filterMap,toList_toArray,DF,ZK,ll];intro x hx;obtain ⟨⟨a,b⟩,hp,rfl⟩:=zaB.mp hx;obtain ⟨j,_,hj⟩:=zbM.mp hp;obtain ⟨u,hu,e2⟩:=zbc.mp hj;cases e2
  rw [zan] at hu;cases z:ow[a]? with
  | none=>rw [z] at hu;cases hu
  | some v=>
   rw [z] at hu;cases hu
   have:=(ZL.mp (o.fr a _ z)).1;rw [o.len] at this;dsimp only;rw [zbb this]
   rfl
 ·intro x hx;rw [Array.toList_filterMap] at hx;obtain ⟨i,_,hi⟩:=zbM.mp hx;exact zcL.mpr (Array.mem_of_getElem? hi)
 ·rw [Z8,ZK,ll]
end iS
namespace cK
open PySem L2 Gm Dt
variable {P:List (List (Int×Int))} {T:Uf} {S:Int}
theorem uf.rel (f:uf P T S) (hP:∀ p∈P,Ps p) (hj:j<P.length):Rel S (wv (P.getD j [])) (tv T j):=by
 have hT:j<T.length:=by rw [f.len];exact hj
 have eP:P.getD j []=P[j]:=by rw [ZP,ZJ hj];rfl
 have eT:T.getD j []=T[j]:=by rw [ZP,ZJ hT];rfl
 unfold tv;rw [eP,eT];have wh:=f.wh j _ _ (ZJ hj) (ZJ hT);have hp:=hP P[j] (Z4 hj);have l3:=(f.sz T[j] (Z4 hT)).1;generalize P[j]=p at *;generalize T[j]=x at *;obtain ⟨c0,c1,_⟩:=vk (p:=p) λg hg=>hp.fq.pos g hg;have key:∀ (k:Nat) (y:Int),k<3->x[k]?=some y->b8 p*y=S*wk p k:=λk y hk hy=>by
  have HJ:k<p.length:=by rw [hp.len];exact hk
  have e1:=wh.eq k _ y (ZJ HJ) hy;have e2:=uq hp c1 (ZJ HJ);have f0:=hp.fq.pos _ (Z4 HJ);refine zbH (show p[k].2≠0 by omega) ?_;rw [zey,e1,zey,e2];grind
 match x,l3 with
 | [x0,x1,x2],_=>exact ⟨c0,key 0 x0 (by omega) rfl,key 1 x1 (by omega) rfl,key 2 x2 (by omega) rfl⟩
theorem Ord.at (o:Ord P l) (hq:q<P.length):∃ i,i<l.length/\cV P l i=wv (P.getD q []):=by
 obtain ⟨j,hj,e⟩:=o.all q hq;obtain ⟨i,hi,rfl⟩:=zcf hj;refine ⟨i,hi,?_⟩;rw [ka P hi,ZP,ZP,e]
theorem Ord.len (o:Ord P l):l.length<=P.length:=by
 have:=iS.jv (m:=List.range P.length) o.nodup λx hx=>zaj.mpr (o.lt x hx);rwa [zaN] at this
theorem Ord.ex (hP:∀ p∈P,Ps p):∃ l,Ord P l:=by
 refine ⟨(un P P.length).mergeSort λi j=>decide (cnt P (P.getD i [])<=cnt P (P.getD j [])),Ord.of (λp hp=>⟨(hP p hp).len,(hP p hp).low⟩) (mergeSort_perm _ _) ?_⟩;refine zcH (λh=>zaR h) (pairwise_mergeSort ?_ ?_ _)
 ·intro a b c h1 h2;have h1:=zaR h1;have h2:=zaR h2;exact zad (zag h1 h2)
 ·intro a b;rcases Nat.le_total (cnt P (P.getD a [])) (cnt P (P.getD b [])) with h|h
  ·rw [zad h];rfl
  ·rw [zad h,Bool.or_true]
theorem xW {W:Nat->V4} {N:Nat} (h:∀ i j k q,k<j->j<i->i<N->q<N->cG (W i) (W j) (W k) (W q)=0) {i j k q:Nat} (hi:i<N) (hj:j<N) (hk:k<N) (hq:q<N):cG (W i) (W j) (W k) (W q)=0:=by
 have gX:∀ i j k,cG (W i) (W j) (W k) (W q)=-cG (W j) (W i) (W k) (W q):=λi j k=>by rw [BL]
 have HU:∀ i j k,cG (W i) (W j) (W k) (W q)=-cG (W i) (W k) (W j) (W q):=λi j k=>by rw [G4]
 rcases zab i j with a|a|a
 ·rcases zab j k with b|b|b
  ·have:=h k j i q a b hk hq;have x1:=gX i j k;have x2:=HU j i k;have x3:=gX j k i;omega
  ·subst b;have:=HU i j j;omega
  ·rcases zab i k with c|c|c
   ·have:=h j k i q c b hj hq;have x1:=gX i j k;have x2:=HU j i k;omega
   ·subst c;have x1:=gX i j i;have x2:=HU j i i;omega
   ·have:=h j i k q c a hj hq;have x1:=gX i j k;omega
 ·subst a;have:=gX i i k;omega
 ·rcases zab j k with b|b|b
  ·rcases zab i k with c|c|c
   ·have:=h k i j q a c hk hq;have x1:=HU i j k;have x2:=gX i k j;omega
   ·subst c;have x1:=HU i j i;have x2:=gX i i j;omega
   ·have:=h i k j q b c hi hq;have x1:=HU i j k;omega
  ·subst b;have:=HU i j j;omega
  ·exact h i j k q b a hi hq
theorem vN (hP:∀ p∈P,Ps p) (f:uf P T S) (al:Bp T) (o:Ord P l):gI (cV P l) l.length:=by
 have key:∀ {i j k q:Nat},i<P.length->j<P.length->k<P.length->q<P.length->cG (wv (P.getD i [])) (wv (P.getD j [])) (wv (P.getD k [])) (wv (P.getD q []))=0:=xW (W:=λi=>wv (P.getD i [])) (N:=P.length) λi j k q h1 h2 h3 h4=>
  (se (f.rel hP h3) (f.rel hP (by omega)) (f.rel hP (by omega)) (f.rel hP h4) f.pos).2.1.mpr (al i j k q h1 h2 (by rw [f.len];exact h3) (by rw [f.len];exact h4))
 intro i j k q hi hj hk hq;rw [ka P hi,ka P hj,ka P hk,ka P hq];exact key (o.lt _ (Z4 hi)) (o.lt _ (Z4 hj)) (o.lt _ (Z4 hk)) (o.lt _ (Z4 hq))
theorem Ee (hP:∀ p∈P,Ps p) (f:uf P T S) (o:Ord P l) (fl:gI (cV P l) l.length):Bp T:=by
 intro i j k q h1 h2 h3 h4;rw [f.len] at h3 h4;obtain ⟨i',a1,b1⟩:=o.at h3;obtain ⟨j',a2,b2⟩:=o.at (show j<P.length by omega);obtain ⟨k',a3,b3⟩:=o.at (show k<P.length by omega);obtain ⟨q',a4,b4⟩:=o.at h4;have:=fl i' j' k' q' a1 a2 a3 a4;rw [b1,b2,b3,b4] at this;exact (se (f.rel hP h3) (f.rel hP (by omega)) (f.rel hP (by omega)) (f.rel hP h4) f.pos).2.1.mp this
theorem vM (h:n<=2):gI c n:=λi j k q hi hj hk hq=>xW (N:=n) (λi j k q h1 h2 h3 h4=>by omega) hi hj hk hq
theorem md (h:a<2*n):a%n=if a<n then a else a-n:=by
 split
 ·rename_i c;exact zal c
 ·rename_i c;rw [Nat.mod_eq_sub_mod (by omega),zal (by omega)]
def cD (r:List Nat) (k:Nat):List Nat:=r.drop k++r.take k
theorem uT (h:k<=r.length):(cD r k).length=r.length:=by
 unfold cD;rw [ZV,zca,Z9];omega
theorem qQ (r:List Nat) (k:Nat):(cD r k).Perm r:=by
 unfold cD;exact List.perm_append_comm.trans (by rw [zdO])
theorem yt (hk:k<r.length) (hi:i<r.length):at' (cD r k) i=at' r ((k+i)%r.length):=by
 unfold at' cD;rw [ZP,ZP,md (by omega),getElem?_append,zca];by_cases c:k+i<r.length
 ·rw [ZW c,ZW (by omega),getElem?_drop]
 ·rw [ZU c,ZU (by omega),zcY (by omega)]
  congr 2
  omega
theorem Ce (r:List Nat) (k:Nat):du (ri r) k=ri (cD r k):=by
 unfold du cD ri;rw [Z6,map_drop,map_take]
theorem Cf (r:List Nat):(ri r).map Int.toNat=r:=by
 unfold ri;rw [zdR];have:(Int.toNat ∘ λ(i:Nat)=>(i:Int))=id:=by funext x;rfl
 rw [this,map_id]
theorem xY (hk:k<N) (hi:i<N):((k+(i+N-1)%N)%N+1)%N=(k+i)%N:=by
 rw [Nat.mod_add_mod,show k+(i+N-1)%N+1=(i+N-1)%N+(k+1) by omega,Nat.mod_add_mod,show i+N-1+(k+1)=k+i+N by omega,Nat.add_mod_right]
theorem two_back (h:2<=N) (hi:i<N):((i+N-1)%N+N-1)%N=(i+N-2)%N:=by
 rw [show (i+N-1)%N+N-1=(i+N-1)%N+(N-1) by omega,Nat.mod_add_mod,show i+N-1+(N-1)=i+N-2+N by omega,Nat.add_mod_right]
structure Rr (T:Uf) (g:List Nat):Prop where
 three:3<=g.length
 wC:g.length<=12
 lt:∀ k,k<g.length->at' g k<T.length
 nz:l3 (dB (tv T (at' g 0)) (tv T (at' g 1)) (tv T (at' g 2)))≠[0,0,0]
 low:∀ q,q<T.length->ji (dB (tv T (at' g 0)) (tv T (at' g 1)) (tv T (at' g 2))) (tv T (at' g 0)) (tv T q)<=0
 off:∃ q,q<T.length/\ji (dB (tv T (at' g 0)) (tv T (at' g 1)) (tv T (at' g 2))) (tv T (at' g 0)) (tv T q)<0
 on:∀ k,k<g.length->ji (dB (tv T (at' g 0)) (tv T (at' g 1)) (tv T (at' g 2))) (tv T (at' g 0)) (tv T (at' g k))=0
 turn:∀ k,k<g.length->0<ki (dB (tv T (at' g 0)) (tv T (at' g 1)) (tv T (at' g 2))) (dB (tv T (at' g ((k+g.length-2)%g.length))) (tv T (at' g ((k+g.length-1)%g.length))) (tv T (at' g k)))
 left:∀ k q,k<g.length->q<T.length->ji (dB (tv T (at' g 0)) (tv T (at' g 1)) (tv T (at' g 2))) (tv T (at' g 0)) (tv T q)=0->0<=ki (dB (tv T (at' g 0)) (tv T (at' g 1)) (tv T (at' g 2))) (dB (tv T (at' g ((k+g.length-1)%g.length))) (tv T (at' g k)) (tv T q))
def hU (g:List Nat):List (Nat×Nat):=(List.range g.length).map λk=>(at' g ((k+g.length-1)%g.length),at' g k)
variable {P:List (List (Int×Int))} {T:Uf} {S:Int} {l:List Nat}
theorem Ec (h:i<l.length):at' l i=l[i]:=getD_at h
section
variable (hP:∀ p∈P,Ps p) (f:uf P T S) (o:Ord P l)
include hP f o
theorem Cj (hi:i<l.length):Rel S (cV P l i) (tv T (at' l i))/\at' l i<T.length:=by
 have:=o.lt _ (Z4 hi);rw [ka P hi,Ec hi];exact ⟨f.rel hP this,by rw [f.len];exact this⟩
theorem Hm (hq:q<T.length):∃ i,i<l.length/\Rel S (cV P l i) (tv T q):=by
 rw [f.len] at hq;obtain ⟨i,hi,e⟩:=o.at hq;exact ⟨i,hi,by rw [e];exact f.rel hP hq⟩
theorem E6 (hn:P.length<=12) (F:Fc (cV P l) l.length pl) (R:Rg (cV P l) l.length pl r) (hk:k<r.length):Rr T (cD (r.map (at' l)) k):=by
 have C:=o.zG hP;have h3:=R.three C F;have len:(cD (r.map (at' l)) k).length=r.length:=by rw [uT (by rw [ZK];omega),ZK]
 have Gd:∀ i,i<r.length->at' (cD (r.map (at' l)) k) i=at' l (at' r ((k+i)%r.length)):=λi hi=>by
  rw [yt (by rw [ZK];exact hk) (by rw [ZK];exact hi),ZK,tW l (zaK _ (by omega))]
 have mem:∀ i,at' r ((k+i)%r.length)∈r:=λi=>gp (zaK _ (by omega));have st:∀ i,i<r.length->(at' r ((k+(i+r.length-1)%r.length)%r.length),at' r ((k+i)%r.length))∈fL r:=λi hi=>
  gT.mpr ⟨_,zaK _ (by omega),rfl,by rw [xY hk hi]⟩
 have rel:∀ i,i<r.length->Rel S (cV P l (at' r ((k+i)%r.length))) (tv T (at' (cD (r.map (at' l)) k) i))/\at' (cD (r.map (at' l)) k) i<T.length/\dot pl (cV P l (at' r ((k+i)%r.length)))=0:=λi hi=>by
  obtain ⟨a,b,_⟩:=R.on _ (mem i);obtain ⟨c,d⟩:=Cj hP f o a;rw [Gd i hi];exact ⟨c,d,b⟩
 obtain ⟨r0,_,s0⟩:=rel 0 (by omega);obtain ⟨r1,_,s1⟩:=rel 1 (by omega);obtain ⟨r2,_,s2⟩:=rel 2 (by omega);have S6:=st 1 (by omega);rw [show (1+r.length-1)%r.length=0 by rw [show 1+r.length-1=r.length by omega,Nat.mod_self]] at S6;have EU:=st 2 (by omega);rw [show (2+r.length-1)%r.length=1 by rw [md (by omega),ZU (by omega)];omega] at EU;have t0:=R.turn C F S6 EU;obtain ⟨m,m0,hm⟩:=g7 F.nz;have hv:=hm _ _ _ s0 s1 s2;have sg:∀ (q:Nat) (i:Nat),Rel S (cV P l i) (tv T q)->(dot pl (cV P l i)<=0↔ji (dB (tv T (at' (cD (r.map (at' l)) k) 0)) (tv T (at' (cD (r.map (at' l)) k) 1)) (tv T (at' (cD (r.map (at' l)) k) 2))) (tv T (at' (cD (r.map (at' l)) k) 0)) (tv T q)<=0)/\(dot pl (cV P l i)=0↔ji (dB (tv T (at' (cD (r.map (at' l)) k) 0)) (tv T (at' (cD (r.map (at' l)) k) 1)) (tv T (at' (cD (r.map (at' l)) k) 2))) (tv T (at' (cD (r.map (at' l)) k) 0)) (tv T q)=0)/\(dot pl (cV P l i)<0↔ji (dB (tv T (at' (cD (r.map (at' l)) k) 0)) (tv T (at' (cD (r.map (at' l)) k) 1)) (tv T (at' (cD (r.map (at' l)) k) 2))) (tv T (at' (cD (r.map (at' l)) k) 0)) (tv T q)<0):=λq i hr=>by
  obtain ⟨a1,a2,a3⟩:=se r0 r1 r2 hr f.pos;obtain ⟨b1,b2,b3⟩:=wM (x:=dot pl (cV P l i)) t0 m0 ((Int.mul_comm _ _).trans (hv (cV P l i)).symm);exact ⟨b1.trans a1,b2.trans a2,b3.trans a3⟩
 have off:∃ q,q<T.length/\ji (dB (tv T (at' (cD (r.map (at' l)) k) 0)) (tv T (at' (cD (r.map (at' l)) k) 1)) (tv T (at' (cD (r.map (at' l)) k) 2))) (tv T (at' (cD (r.map (at' l)) k) 0)) (tv T q)<0:=by
  obtain ⟨i,hi,ho⟩:=F.off;obtain ⟨a,b⟩:=Cj hP f o hi;exact ⟨_,b,(sg _ i a).2.2.mp ho⟩
 have rl:r.length<=l.length:=by
  have:=iS.jv (m:=List.range l.length) R.nd λx hx=>zaj.mpr (R.on x hx).1;rwa [zaN] at this
 have ol:=o.len;refine ⟨by rw [len];exact h3,by rw [len];omega,λi hi=>(rel i (by rw [<-len];exact hi)).2.1,λz=>?_,λq hq=>?_,off,λi hi=>?_,λi hi=>?_,λi q hi hq z=>?_⟩
 ·obtain ⟨q,_,h⟩:=off;unfold ji ki at h;unfold l3 at z;injection z with z1 z;injection z with z2 z;injection z with z3 z;rw [z1,z2,z3] at h;simp at h
 ·obtain ⟨i,hi,hr⟩:=Hm hP f o hq;exact (sg q i hr).1.mp (F.sup i hi)
 ·rw [len] at hi;obtain ⟨a,_,b⟩:=rel i hi;exact (sg _ _ a).2.1.mp b
 ·rw [len] at hi ⊢;have i1:(i+r.length-1)%r.length<r.length:=zaK _ (by omega);have i2:(i+r.length-2)%r.length<r.length:=zaK _ (by omega);obtain ⟨a0,_,b0⟩:=rel i hi;obtain ⟨a1,_,b1⟩:=rel _ i1;obtain ⟨a2,_,b2⟩:=rel _ i2;have q1:=st i hi;have q2:=st _ i1;rw [two_back (by omega) hi] at q2;exact (Ck f.pos F.nz r0 r1 r2 s0 s1 s2 a2 a1 a0 b2 b1 b0 t0).1 (R.turn C F q2 q1)
 ·rw [len] at hi ⊢;have i1:(i+r.length-1)%r.length<r.length:=zaK _ (by omega);obtain ⟨a0,_,b0⟩:=rel i hi;obtain ⟨a1,_,b1⟩:=rel _ i1;obtain ⟨j,hj,hr⟩:=Hm hP f o hq;have sj:=(sg q j hr).2.1.mpr z;exact (Ck f.pos F.nz r0 r1 r2 s0 s1 s2 a1 a0 hr b1 b0 sj t0).2 ((R.step (st i hi)).2.2.ok j hj sj).1
theorem Cd (hi:i<l.length):T.getD (at' l i) []∉T.take (at' l i):=by
 intro z;have hn:=o.lt _ (Z4 hi);rw [Ec hi] at z;generalize en:l[i]=n at *;have hT:n<T.length:=by rw [f.len];exact hn
 obtain ⟨j,hj,e⟩:=zcf z;rw [Z9] at hj;have Xs:j<n:=by omega
 have Xt:j<T.length:=by omega
 have Rx:j<P.length:=by omega
 rw [getElem_take,ZP,ZJ hT] at e;have e:T[j]=T[n]:=e;refine o.fst n (by rw [<-en];exact Z4 hi) j Xs ?_;rw [ZJ Rx,ZJ hn]
 congr 1
 have w1:=f.wh j _ _ (ZJ Rx) (ZJ Xt);have w2:=f.wh n _ _ (ZJ hn) (ZJ hT);rw [e] at w1;have p1:=hP _ (Z4 Rx);have p2:=hP _ (Z4 hn);have x3:=w1.len;have s0:=f.pos;generalize T[n]=x at *;generalize P[j]=p at *;generalize P[n]=q at *;refine ext_getElem (by rw [p1.len,p2.len]) λm h1 h2=>?_;have hx:m<x.length:=by omega
 have a:=w1.eq m _ _ (ZJ h1) (ZJ hx);have b:=w2.eq m _ _ (ZJ h2) (ZJ hx);refine HS (p1.low _ (Z4 h1)) (p2.low _ (Z4 h2)) ?_;refine zbH (show S≠0 by omega) ?_;have:p[m].1*q[m].2*S=(p[m].1*S)*q[m].2:=by grind
 rw [this,<-a];have:q[m].1*p[m].2*S=(q[m].1*S)*p[m].2:=by grind
 rw [this,<-b];grind
end
variable {P:List (List (Int×Int))} {T:Uf} {S:Int} {l:List Nat}
def nl (l:List Nat) (w:Nat×Nat):Nat×Nat:=(at' l w.1,at' l w.2)
theorem Ju (nd:l.Nodup) (hv:v.1<l.length/\v.2<l.length) (hw:w.1<l.length/\w.2<l.length) (h:nl l v=nl l w):v=w:=by
 unfold nl at h;injection h with h1 h2;exact zcC (iQ nd hv.1 hw.1 h1) (iQ nd hv.2 hw.2 h2)
theorem nV {α β:Type} {f:α->β}:∀ {L:List α},L.Nodup->(∀ x∈L,∀ y∈L,f x=f y->x=y)->(L.map f).Nodup
 | [],_,_=>nodup_nil
 | x::L,h,hi=>by
  have hn:=zbp.mp h;rw [zaX,nodup_cons];refine ⟨λz=>?_,nV hn.2 λa ha b hb=>hi a (Z5 _ ha) b (Z5 _ hb)⟩;obtain ⟨y,hy,e⟩:=zaB.mp z;have:=hi y (Z5 _ hy) x zac e;exact hn.1 (this▸hy)
theorem FP {α:Type} [DecidableEq α] {L M:List α} (h:L.Nodup) (hs:∀ x∈L,x∈M) (hl:M.length<=L.length):L.Perm M:=by
 induction L generalizing M with
 | nil=>rw [zbV.mp (show M.length=0 by simpa using hl)]
 | cons x L ih=>
  have hx:x∈M:=hs x zac;have hn:=zbp.mp h;have p:=perm_cons_erase hx;have pl:=p.length_eq;rw [zbg] at pl hl;refine (List.Perm.cons x (ih (M:=M.erase x) hn.2 (λy hy=>?_) (by omega))).trans p.symm;exact (mem_erase_of_ne λe=>hn.1 (by rw [<-e];exact hy)).mpr (hs y (Z5 _ hy))
section
variable {c:Nat->V4} {pl:V4} {r:List Nat} {k:Nat} (nd:l.Nodup) (R:Rg c l.length pl r) (hk:k<r.length)
include nd R hk
theorem yu:(cD (r.map (at' l)) k).Nodup:=by
 refine (qQ _ k).nodup_iff.mpr (nV R.nd λx hx y hy e=>iQ nd (R.on x hx).1 (R.on y hy).1 e)
theorem Cc:(hU (cD (r.map (at' l)) k)).Perm ((fL r).map (nl l)):=by
 have len:(cD (r.map (at' l)) k).length=r.length:=by rw [uT (by rw [ZK];omega),ZK]
 have rn:=yu nd R hk;have Gd:∀ i,i<r.length->at' (cD (r.map (at' l)) k) i=at' l (at' r ((k+i)%r.length)):=λi hi=>by
  rw [yt (by rw [ZK];exact hk) (by rw [ZK];exact hi),ZK,tW l (zaK _ (by omega))]
 refine FP ?_ ?_ ?_
 ·refine nV nodup_range λx hx y hy e=>?_;injection e with _ e;exact iQ rn (zaj.mp hx) (zaj.mp hy) e
 ·intro x hx;obtain ⟨i,hi,rfl⟩:=zaB.mp hx;have hi:=zaj.mp hi;rw [len] at hi ⊢;refine zaB.mpr ⟨(at' r ((k+(i+r.length-1)%r.length)%r.length),at' r ((k+i)%r.length)),gT.mpr ⟨_,zaK _ (by omega),rfl,by rw [xY hk hi]⟩,?_⟩;rw [Gd i hi,Gd _ (zaK _ (by omega))]
  rfl
 ·unfold hU;rw [ZK,ZK,zaN,len,dA];exact ZQ _
end
def yv (G:List (List Int×V4)):List (List Nat):=G.map λg=>g.1.map Int.toNat
theorem Rn.tail (h:Rn l (p::F) (g::G)):Rn l F G:=
 ⟨by have:=h.len;simpa using this,λj g' p' h1 h2=>h.is (j+1) g' p' (by simpa using h1) (by simpa using h2)⟩
theorem Rn.ri (h:Rn l F G) (hg:g∈G):∃ p∈F,∃ k,k<p.1.length/\g.1.map Int.toNat=cD (p.1.map (at' l)) k/\g.1=cK.ri (g.1.map Int.toNat)/\o9 g.1:=by
 obtain ⟨j,hj,rfl⟩:=zcf hg;have hF:j<F.length:=by rw [<-h.len];exact hj
 obtain ⟨_,k,hk,e,ls⟩:=h.is j _ _ (ZJ hj) (ZJ hF);have e2:G[j].1=cK.ri (cD (F[j].1.map (at' l)) k):=by rw [e];exact Ce _ k
 have e3:G[j].1.map Int.toNat=cD (F[j].1.map (at' l)) k:=by rw [e2];exact Cf _
 exact ⟨F[j],Z4 hF,k,hk,e3,by rw [e3];exact e2,ls⟩
theorem Rn.hU {c:Nat->V4} (nd:l.Nodup):∀ {F:List (List Nat×V4)} {G:List (List Int×V4)},Rn l F G->(∀ p∈F,Rg c l.length p.2 p.1)->((yv G).flatMap cK.hU).Perm ((bL F).map (nl l))
 | [],[],_,_=>.refl _
 | [],g::G,h,_=>by have:=h.len;simp at this
 | p::F,[],h,_=>by have:=h.len;simp at this
 | p::F,g::G,h,hr=>by
  obtain ⟨_,k,hk,e,_⟩:=h.is 0 g p rfl rfl;have e3:g.1.map Int.toNat=cD (p.1.map (at' l)) k:=by rw [e,show rr l p.1=cK.ri (p.1.map (at' l)) from rfl,Ce,Cf]
  have ih:=Rn.hU nd h.tail λq hq=>hr q (Z5 _ hq);show (cK.hU (g.1.map Int.toNat)++(yv G).flatMap cK.hU).Perm ((fL p.1++bL F).map (nl l));rw [Z6,e3];exact (Cc nd (hr p zac) hk).append ih
structure YO (T:Uf) (G:List (List Int×V4)):Prop where
 ri:G.map (·.1)=(yv G).map cK.ri
 ok:∀ g∈yv G,Rr T g/\g.Nodup/\o9 (cK.ri g)/\∀ x∈g,x<T.length/\T.getD x []∉T.take x
 nd:((yv G).flatMap cK.hU).Nodup
 rev:∀ x y,(x,y)∈(yv G).flatMap cK.hU->(y,x)∈(yv G).flatMap cK.hU
 ne:G≠[]
 wC:G.length<=48
theorem BC.yv (hP:∀ p∈P,Ps p) (hn:P.length<=12) (f:uf P T S) (s:BC P l F G):YO T G:=by
 have o:=s.ord;have nd:=o.nodup;have ol:=o.len;have pw:=s.rn.hU nd λp hp=>(s.wr.fc p hp).2;have rg:∀ w∈bL F,w.1<l.length/\w.2<l.length:=s.wr.range;refine ⟨?_,λg hg=>?_,?_,λx y sV=>?_,λz=>s.ne ?_,?_⟩
 ·unfold cK.yv;rw [zdR];refine zbG λg hg=>?_;obtain ⟨_,_,_,_,_,e,_⟩:=s.rn.ri hg;exact e
 ·obtain ⟨g',Xz,rfl⟩:=zaB.mp hg;obtain ⟨p,hp,k,hk,e,e2,ls⟩:=s.rn.ri Xz;obtain ⟨Fp,Rp⟩:=s.wr.fc p hp;refine ⟨by rw [e];exact E6 hP f o hn Fp Rp hk,by rw [e];exact yu nd Rp hk,by rw [<-e2];exact ls,λx hx=>?_⟩;rw [e] at hx;obtain ⟨i,hi,rfl⟩:=zaB.mp ((qQ _ k).mem_iff.mp hx);exact ⟨(Cj hP f o (Rp.on i hi).1).2,Cd hP f o (Rp.on i hi).1⟩
 ·exact pw.nodup_iff.mpr (nV s.wr.nd λx hx y hy e=>Ju nd (rg x hx) (rg y hy) e)
 ·obtain ⟨⟨a,b⟩,h,e⟩:=zaB.mp (pw.mem_iff.mp sV);injection e with e1 e2;exact pw.mem_iff.mpr (zaB.mpr ⟨(b,a),s.rev a b h,by rw [<-e1,<-e2];rfl⟩)
 ·have:=s.rn.len;rw [z] at this;exact zbV.mp this.symm
 ·have h3:=s.wr.DL (o.zG hP);have:=s.rn.len;have:l.length*l.length<=12*12:=zby (by omega) (by omega);omega
theorem Al (h:Arr L.length p) (up:Up (λi=>L.getD i []) p L.length) (s:L.Pairwise λa b=>Le a b):pick [] L p=L:=by
 have hl:=eE (d:=([]:Wp)) (L:=L) h;have sp:(pick [] L p).Pairwise λa b=>Le a b:=by
  refine zaH.mpr λi j hi hj yX=>?_;have at_:∀ k (hk:k<(pick [] L p).length),(pick [] L p)[k]=kf (λi=>L.getD i []) p k:=λk hk=>by
   obtain ⟨m,h1,h2⟩:=gA h (ZJ hk);unfold kf;rw [zan,h1];show _=L.getD m [];rw [ZP,h2]
   rfl
  rw [at_ i hi,at_ j hj];exact up.le (by omega) (by omega)
 exact List.Perm.eq_of_pairwise (λa b _ _ h1 h2=>Le.KO h1 h2) sp s (kL h)
end cK
namespace L2
open PySem PySem.Spec PySem.W PySem.Calls PyProof.Rows
def codeAt (K:Frag) (f c P:Addr):Bool:=(match K.lookup f with|some ⟨_,_,.func fd,_⟩=>(match fd.code with | .ref c'=>c'==c|_=>false) | _=>false)&&codeHdIn K c P
theorem Bc {K:Frag} {f c P:Addr} {oc:Value} {od:Option Addr} {fd:FuncData} {sl:Array (Option Value)} (h:codeAt K f c P=true) (l:K.lookup f=some ⟨oc,od,.func fd,sl⟩):fd.code=.ref c/\codeHdIn K c P=true:=by
 unfold codeAt at h;rw [l] at h;rw [Bool.and_eq_true_iff] at h;refine ⟨?_,h.2⟩;have h1:=h.1;dsimp only at h1;split at h1
 ·rename_i c' e;rw [e,eq_of_beq h1]
 ·cases h1
section
variable {P:Program} {w:World} {K:ZB} {mg:W1} {base:Heap}
theorem Def.RJ {x:Str} {st:Stmt} {k:Nat} {sp:Sp} (D:Def K mg x st ps) (hc:∀ f,mg x=some (.ref f)->codeAt K f c T=true) (S:aI N ps (aC st)) (len:∀ vs H Q E,sp vs H Q E->vs.length=ps.length)
  (gB:∀ (f:Addr) (A:Around) (outer:List Env) (s:Shared) (H:Hp) (vs:List V) (Q:VK) (E:XK),codeHdIn K c T=true->df k (A.deeper (envOfC x (aC st) s.heap.objs.size f (.ref c)))->sp vs H Q E->
   ∃ t,tZ (jy (br P w) P w K mg base N x (aC st) f (.ref c) A outer s H E).Bw (dk st) t/\t { nx:=λ_ H'=>Q .gn H',rt:=Q } (start N vs) H):bK P w K mg base (br P w) x (k+1) ps sp:=by
 obtain ⟨f,fd,F,hm,hb⟩:=D.ex;have kp:=F.kp;obtain ⟨oc,od,kV,doc,pm,an,cz,ct,Ao,rfl,lk,pW⟩:=F.ex;obtain ⟨e,hC⟩:=Bc (hc f hm) lk;have e:cz=.ref c:=e;subst e;refine ⟨⟨f,_,zj lk pW S len λA o s H vs Q E hr wz=>?_,hm,kp,hb⟩⟩;obtain ⟨t,h,q⟩:=gB f A o s H vs Q E hC hr wz;exact ⟨t,h.Bw,q⟩
end
theorem Jm {X:Cx} {K:Frag} (hK:X.K=K) {T:String} {name:Str} {id:String} {r:V->List V->Hp->VK->Prop} {o e:Expr} {es:List Expr} {to:TE} {t:TA} {apos gF:Pos} (pa:PlainAttrs T) (slot:Slot T name id) (MT:typeOf (.builtin id)=pure (.type "method_descriptor")) (hm:Oe X id r) (ho:PE X o to) (ha:PA X (e::es) t)
  (vF:attributeBase o name X.env (eval o X.env)=eval o X.env:=by rfl)
  (JZ:((backTo gF (starEach (e::es) X.env)).all (λx=>!x.1)&&(backToKw gF (keywordEach [] X.env)).all (λx=>x.1.isSome)
  &&decide ((e::es).length+([]:List Keyword).length+(if ([]:List Keyword).isEmpty then 0 else 1)<30))=true:=by rfl)
  (vA:(apos.endLine==gF.line)=true:=by rfl) (hs:starEach (e::es) X.env=(false,eval e X.env)::starEach es X.env:=by rfl) (xB:(backTo gF (starEach es X.env)).any (·.1)=false:=by rfl) :
  PE X (.Call (.Attribute o name apos) (e::es) [] gF) (PL K T r to t):=hK▸jg pa slot MT hm ho ha vF JZ vA hs xB
end L2
namespace iS
open PySem PySem.Spec PyProof.Rows
theorem AR (hk:IsTupleKey (intKind prog w) s.heap ks a) (h:Q true s):wpAny (model prog w) A (hashByValue 8 (.ref a)) Q E s:=by
 have hT:=hk.typeIs;obtain ⟨o,items,n,ho,_,hd,hi⟩:=hk;have Kf:∀ v∈items.toList,∃ (k:Int) (t:_),v=Value.int k t:=by
  have:∀ {ks:Wp} {vs:XV},ItemsAre (intKind prog w) ks vs->∀ v∈vs,∃ (k:Int) (t:_),v=Value.int k t:=by
   intro ks vs hi
   induction hi with
   | nil=>intro v hv;simp at hv
   | @cons k v' ks vs h1 _ ih=>
    intro v hv;rcases zas.mp hv with rfl|hv
    ·obtain ⟨t,ht⟩:=Value.isInt_shape h1;exact ⟨k,t,ht⟩
    ·exact ih v hv
  exact this hi
 unfold hashByValue;refine rd (zde hT F.slot_tuple_hash.lookup ?_);refine rd (zaT ho hd ?_);show wpAny _ _ (forIn items _ _ >>= _) _ _ s;refine rd ?_;rw [<-zeo];refine wpAny_forIn_list _ (λrest r s'=>r.1=none/\s'=s/\∀ v∈rest,∃ (k:Int) (t:_),v=Value.int k t) _ ?_ ?_ _ _ ⟨rfl,rfl,Kf⟩
 ·rintro v rest r s' ⟨hr,rfl,HP⟩;obtain ⟨k,t,rfl⟩:=HP v zac;rw [show hashByValue 7 (Value.int k t)=pure true from rfl];refine rd (ZR ?_);simp only [zez,zaF,zch];exact ZR ⟨rfl,rfl,λu WY=>HP u (Z5 _ WY)⟩
 ·rintro ⟨r1,r2⟩ s' ⟨hr,rfl,_⟩;simp only at hr;subst hr;exact ZR h
theorem Dm {α:Type} {xs:Array α} {p:Nat} {x e:α} (h:e∈(SetTable.insertAt xs p x).toList):e∈xs.toList\/e=x:=by
 unfold SetTable.insertAt at h;rw [Array.toList_append,mem_append,zet,mem_append,mem_singleton] at h;rcases h with (h|h) | h
 ·left;rw [Array.toList_extract] at h;exact mem_of_mem_drop (zea h)
 ·exact .inr h
 ·left;rw [Array.toList_extract] at h;exact mem_of_mem_drop (zea h)
theorem qY {α:Type} {xs:Array α} {p:Nat} {x:α} (h:p<=xs.size):(SetTable.insertAt xs p x).size=xs.size+1:=by
 unfold SetTable.insertAt;rw [Array.size_append,zcg,zep,zep];omega
def l9 (led:Bool) (h:Heap) (a:Addr) (D:List (Nat×Nat)):Prop:=
 ∃ o es ep t,h.get? a=some o/\o.ExactSet/\o.data=.set es ep t/\(∀ e∈es.toList,∃ x∈D,e.1=ph x)/\t.fits es.size=true/\es.size=D.length/\Tb led t/\Mk t.mask/\D.length*5<t.mask*3
theorem CD {h:Heap} {o:Obj} {es es':Array (Int×Value)} {ep:Nat} {t t':SetTable} (ho:h.get? a=some o) (hd:o.data=.set es ep t) :
  (h.update a (Obj.putSet es' t')).get? a=some { o with data:=.set es' (ep+1) t' }:=by
 have:=zaM (Obj.putSet es' t') ho (by rw [putSet_of es' t' hd];rfl);rw [putSet_of es' t' hd] at this;exact this
theorem oM {t:SetTable} {n:Nat}:t.fits n=true↔t.place.size=n/\t.fill<=t.mask:=by
 unfold SetTable.fits;rw [zcw,beq_iff_eq,zew]
theorem Tb.fill (h:Tb led t):t.fill=t.place.size:=by
 unfold SetTable.fill;rw [h.dm]
 rfl
theorem E7 (ho:s.heap.get? a=some o) (hd:o.data=.set es ep t) (hf:t.fits es.size=true) (tb:Tb led t) (mk:Mk (SetTable.sizeAbove wanted-1)) (hle:es.size<=SetTable.sizeAbove wanted-1) (sl:SetTable.sizeAbove wanted<=sizeLine)
  (h:∀ es' t',es'.size=es.size->(∀ e∈es'.toList,e∈es.toList)->t'.fits es'.size=true->Tb led t'->t'.mask=SetTable.sizeAbove wanted-1->Q () { s with heap:=s.heap.update a (Obj.putSet es' t') }) :
  wpAny (model prog w) A (setRelay a wanted) Q E s:=by
 unfold setRelay;refine rd (zdF ho hd hf ?_);dsimp only;rw [ZU (zcj.mpr sl)];obtain ⟨t',order,e1,e2,e3,e4,e5,e6⟩:=Ag (t:=t) mk hle;have SW:=tb.relaid e1;rw [e1];refine rd ?_
 wp_delta
 dsimp only;rw [e2,ZU (by simp)];refine ZR (wpAny_storeSet_of ho hd ?_ (by dsimp only;rw [e2];omega));refine h _ _ e2 e3 ?_ SW e5;rw [oM,SW.fill,e2,e4,e5];exact ⟨rfl,hle⟩
theorem l9.keep (x:l9 led h a D) (k:∀ o,h.get? a=some o->h'.get? a=some o):l9 led h' a D:=by
 obtain ⟨o,es,ep,t,h1,rest⟩:=x;exact ⟨o,es,ep,t,k o h1,rest⟩
theorem Gf (mk:Mk m) (hn:n<=300) (h:n*5<m*3) (f:m*3<=(n+1)*5):Mk (SetTable.sizeAbove (SetTable.grown (n+1))-1)/\n+1<=SetTable.sizeAbove (SetTable.grown (n+1))-1/\SetTable.sizeAbove (SetTable.grown (n+1))<=512/\(n+1)*5<(SetTable.sizeAbove (SetTable.grown (n+1))-1)*3:=by
 rcases mk with rfl|rfl|rfl|rfl
 ·have:n=4:=by omega
  subst this;exact ⟨.inr (.inl (by decide +kernel)),by decide +kernel,by decide +kernel,by decide +kernel⟩
 ·have:n=18:=by omega
  subst this;exact ⟨.inr (.inr (.inl (by decide +kernel))),by decide +kernel,by decide +kernel,by decide +kernel⟩
 ·have:n=76:=by omega
  subst this;exact ⟨.inr (.inr (.inr (by decide +kernel))),by decide +kernel,by decide +kernel,by decide +kernel⟩
 ·omega
theorem N3 (hk:IsTupleKey (intKind prog w) s.heap [(x.1:Int),(x.2:Int)] b) (hS:l9 led s.heap a D) (hD:∀ y∈D,y.1<12/\y.2<12) (hx:x.1<12/\x.2<12) (hn:x∉D) (hl:D.length<=300) (ab:b≠a)
  (h:∀ h',Heap.SameBut a s.heap h'->l9 led h' a (D++[x])->Q true { s with heap:=h' }) :
  wpAny (model prog w) A (setAddHashed a (.ref b) (ph x)) Q E s:=by
 obtain ⟨o,es,ep,t,ho,hex,hd,Uz,hf,hz,tb,mk,lo⟩:=hS;obtain ⟨OU,_⟩:=oM.mp hf;unfold setAddHashed setAddHashedIn;refine zau (rd (zdF ho hd hf ?_));dsimp only;rw [show byScan (Value.ref b) es=false from rfl,ZU (by decide)];unfold setSearch setSearchFrom;refine rd (rd (zdF ho hd hf ?_));dsimp only;rw [show t.gaveWay=false from by unfold SetTable.gaveWay;rcases mk with e|e|e|e<;>rw [e]<;>decide,ZU (by decide)];have yW:∀ i,i<t.place.size->(λi:Nat=>(es[i]?.map (·.1)).getD 0) i≠ph x:=λi hi=>by
  have By:i<es.size:=by rw [<-OU];exact hi
  have:es[i]∈es.toList:=Array.getElem_mem_toList By;obtain ⟨y,hy,ey⟩:=Uz _ this;show (es[i]?.map (·.1)).getD 0≠ph x;rw [zbb By];show es[i].1≠ph x;rw [ey];exact λz=>hn (Ji (hD y hy) hx z▸hy)
 obtain ⟨j,ej,sj⟩:=wW tb mk (by omega) yW
 erw [ej]
 dsimp only;refine ZR (rd (zdF ho hd hf ?_));dsimp only;have p1:(t.put j).2<=es.size:=by rw [<-OU];exact (oX tb.rise j).1
 have pG:=tb.put sj;have m1:(t.put j).1.mask=t.mask:=rfl;have s1:(t.put j).1.place.size=es.size+1:=by
  show (SetTable.insertAt t.place (SetTable.below t.place j) j).size=_;rw [qY (by rw [OU];exact p1),OU]
 have z1:(SetTable.insertAt es (t.put j).2 (ph x,Value.ref b)).size=es.size+1:=qY p1;have NO:∀ e∈(SetTable.insertAt es (t.put j).2 (ph x,Value.ref b)).toList,∃ y∈D++[x],e.1=ph y:=λe he=>by
  rcases Dm he with h|h
  ·obtain ⟨y,hy,ey⟩:=Uz e h;exact ⟨y,zbz _ hy,ey⟩
  ·exact ⟨x,by simp,by rw [h]⟩
 generalize (t.put j)=T at p1 pG m1 s1 z1 NO ⊢;obtain ⟨t1,p⟩:=T;dsimp only at p1 pG m1 s1 z1 NO ⊢;generalize SetTable.insertAt es p (ph x,Value.ref b)=Kr at z1 NO ⊢;have fin:∀ t2:SetTable,Tb led t2->t2.mask=t1.mask->t2.place.size=t1.place.size->wpAny (model prog w) A (do
   storeSet a Kr t2
   if (
     !false&&t2.tooFull)=true then do
     setRelay a (SetTable.grown (es.size+1))
     pure true
    else pure true) Q E s:=λt2 pE m2 s2=>by
  have f2:t2.fits Kr.size=true:=by
   rw [oM,pE.fill,m2,s2,m1,s1,z1];refine ⟨rfl,?_⟩;rcases mk with e|e|e|e<;>omega
  have g2:=CD (es':=Kr) (t':=t2) ho hd;have zz:Kr.size<=sizeLine:=by rw [zbf,z1];omega
  refine rd (wpAny_storeSet_of ho hd ?_ zz);have sb:=zbK s.heap a (Obj.putSet Kr t2);by_cases c:t2.tooFull=true
  ·rw [ZW (by rw [c];rfl)];unfold SetTable.tooFull at c;rw [zew,pE.fill,m2,s2,m1,s1] at c;obtain ⟨k1,k2,k3,k4⟩:=Gf (n:=es.size) mk (by omega) (by omega) (by omega);refine rd (E7 (s:={ s with heap:=s.heap.update a (Obj.putSet Kr t2) }) g2 rfl f2 pE k1 (by omega) (by rw [zbf];omega) λYr t3 z3 i3 f3 Vw m3=>?_);refine ZR (h _ (sb.trans (zbK _ a _)) ?_);refine ⟨_,Yr,_,t3,CD g2 rfl,hex,rfl,λe he=>NO e (i3 e he),f3,by rw [z3,z1,ZV,hz];rfl,Vw,by rw [m3];exact k1,?_⟩;rw [m3,ZV,<-hz];exact k4
  ·rw [ZU (by simpa using c)];refine ZR (h _ sb ⟨_,Kr,_,t2,g2,hex,rfl,NO,f2,by rw [z1,ZV,hz];rfl,pE,by rw [m2,m1];exact mk,?_⟩);unfold SetTable.tooFull at c;rw [zew,pE.fill,m2,s2,m1,s1] at c;rw [m2,m1,ZV,<-hz];show (es.size+1)*5<_;omega
 split
 ·refine rd (AR hk ?_);rw [ZW rfl];exact fin t1 pG rfl rfl
 ·refine rd (ZR ?_);rw [ZW rfl];exact fin t1 pG rfl rfl
section
variable {A:Around} {led:Bool}
variable {R:Result->Shared->Prop} {G:Array GenState->Array GenState->Prop} {n:Nat} {P:Nat->Value->Prop} {St:Nat->Shared->Prop}
theorem JC (W:WalksS prog w A.in1 I fp wr G n P St) (hc:c∉fp) (hu:A.in1.units<cLine) (D:List (Nat×Nat)) (ad:Nat->Addr) (QY:∀ i v,P i v->v=.ref (ad i)) (hn:n=D.length) (nd:D.Nodup) (hD:∀ y∈D,y.1<12/\y.2<12) (hb:n<=300) (Lg:∀ i,i<n->ad i≠c/\ad i∉wr) (m:Nat) :
  ∀ (i:Nat) (s:Shared),n-i=m->i<=n->St i s->l9 led s.heap c (D.take i)->(∀ j x,D[j]?=some x->IsTupleKey (intKind prog w) s.heap [(x.1:Int),(x.2:Int)] (ad j))->
   (∀ s',Moved (c::wr) G s s'->l9 led s'.heap c D->R (.ok (.ret .none)) s')->
   codeAny (model prog w) A (.builtin "set.update.loop" ⟨[.ref c,.ref I],[]⟩) R s:=by
 have cw:c∉wr:=λh=>hc (W.sub _ h);have up:∀ b∈wr,b∈c::wr:=λb hb=>Z5 _ hb;have keep:∀ {h h':Heap} {ks:Wp} {b:Addr},IsTupleKey (intKind prog w) h ks b->(∀ o,h.get? b=some o->h'.get? b=some o)->IsTupleKey (intKind prog w) h' ks b:=λ⟨o,it,k,h1,rest⟩ z=>⟨o,it,k,z o h1,rest⟩
 induction m with
 | zero=>
  intro i s hm hi st hS hk hR;obtain rfl:i=n:=by omega
  refine zaP F.entry_set_update_loop ?_;rw [zaC F.plain_set_update_loop _];show wpAny _ A.in1 (pyNext (.ref I) >>= _) _ _ s;refine rd (W.done s _ _ st λs' mv=>?_);show wpAny _ A.in1 (ret Value.none) _ _ s';rw [hn,zbn] at hS;exact ZR (hR s' (mv.mono up) (hS.keep λo ho=>mv.heap c o cw ho))
 | succ m ih=>
  intro i s hm hi st hS hk hR;have lt:i<n:=by omega
  have QI:i<D.length:=by omega
  refine zaP F.entry_set_update_loop ?_;rw [zaC F.plain_set_update_loop _];show wpAny _ A.in1 (pyNext (.ref I) >>= _) _ _ s;refine rd (W.item i s _ _ lt st λv s' hP jH mv=>?_);obtain rfl:=QY i v hP;obtain ⟨ac,aw⟩:=Lg i lt;have EA:=hS.keep λo ho=>mv.heap c o cw ho;have HJ:∀ j x,D[j]?=some x->IsTupleKey (intKind prog w) s'.heap [(x.1:Int),(x.2:Int)] (ad j):=λj x e=>keep (hk j x e) λo ho=>mv.heap _ o (Lg j (by have:=(ZL.mp e).1;omega)).2 ho;show wpAny _ A.in1 (holding [Value.ref (ad i)] (setAdd c (.ref (ad i))) >>= _) _ _ s';refine rd (zau ?_);unfold setAdd;have Um:=HJ i D[i] (ZJ QI);refine zau (rd (wpAny_pyHash_tuple hu Um ?_));have tk:D.take (i+1)=D.take i++[D[i]]:=by rw [zbQ,ZJ QI];rfl
  refine N3 (led:=led) (s:={ s' with toks:=s'.toks+3 }) (x:=D[i]) (D:=D.take i) Um EA (λy hy=>hD y (zea hy)) (hD _ (Z4 QI)) ?_ (by rw [Z9];omega) ac λh' sb tF=>?_
  ·intro z;obtain ⟨j,hj,e⟩:=zcf z;rw [Z9] at hj;rw [getElem_take] at e;have:=(getElem_inj nd).mp e;omega
  rw [<-tk] at tF;refine ZR ⟨zbw F.plain_set_update_loop _,ih (i+1) _ (by omega) lt (W.frame _ s' _ _ jH (zaz _ _) λb hb o e=>?_) tF (λj x e=>keep (HJ j x e) λo ho=>?_) λB9 QG RQ=>?_⟩
  ·rw [sb.2 b (λz:b=c=>hc (z▸hb))];exact e
  ·rw [sb.2 _ (Lg j (by have:=(ZL.mp e).1;omega)).1];exact ho
  ·refine hR B9 (Moved.trans W.gtrans ((mv.mono up).then_heap (zaz _ _) λb o hb e=>?_) QG) RQ;rw [sb.2 b (λz:b=c=>hb (z▸zac))];exact e
end
section
variable {prog:Program} {w:World} {A:Around} {E:WP} {s:Shared}
theorem l9.fresh (e:h.get? a=some (pR w)):l9 (vf w) h a []:=
 ⟨_,#[],0,_,e,⟨rfl,rfl,rfl⟩,rfl,λe he=>by simp at he,by rfl,rfl,Tb.fresh _,.inl rfl,by show 0*5<7*3;decide⟩
set_option maxHeartbeats 3200000 in
theorem KD {items:Array Value} {ad:Nat->Addr} (hh:A.handled=none) (hu:A.units+6<cLine) (hl:s.heap.IsList l items) (hi:∀ (i:Nat) (v:Value),items[i]?=some v->v=.ref (ad i)) (hz:items.size=D.length) (nd:D.Nodup) (hD:∀ y∈D,y.1<12/\y.2<12) (hb:items.size<=300) (hk:∀ j x,D[j]?=some x->IsTupleKey (intKind prog w) s.heap [(x.1:Int),(x.2:Int)] (ad j))
  (h:∀ (h':Heap) (tk:Nat),l9 (vf w) h' s.heap.objs.size D->
   (∀ b o,b<s.heap.objs.size->s.heap.get? b=some o->h'.get? b=some o)->Q (.ref s.heap.objs.size) { s with heap:=h',toks:=tk }) :
  wpAny (model prog w) A (call (.type "set") [.ref l]) Q E s:=by
 obtain ⟨c,tl,Xj⟩:=F.called_set.mro;have Ui:=F.called_set.made;have Q2:=F.called_set.sub;refine wpAny_call (codeAny_of_tree ?_);show wpAny _ _ (callAny (.type "set") _) _ _ _;refine ZR ⟨Code.quiet_builtin _ (by decide +kernel),zaP F.entry_type_call ?_⟩;rw [Around.under_plain (weight_type_call_type "set" [.ref l] []) rfl];have h1:=F.called_set.notType;have h2:=F.called_set.canCreate;have XG:=F.typeCall_set_1 (.ref l)
 repeat (any_goals (first|assumption|wp_step))
 refine zcR (MC (.ref l) (E:=E) (Q:=λobj s₁=>obj=.ref s.heap.objs.size/\s₁={ s with heap:=s.heap.push (pR w) }) ⟨rfl,rfl⟩) λr s₁ hr=>?_;cases r with
 | error e=>exact hr
 | ok fl=>
  cases fl with
  | ret obj=>
   obtain ⟨rfl,rfl⟩:=hr;have hS:(s.heap.push (pR w)).get? s.heap.objs.size=some (pR w):=Z3 _ rfl;have hT:Shared.TypeIs { s with heap:=s.heap.push (pR w) } (.ref s.heap.objs.size) "set":=⟨_,hS,rfl⟩;have Zm:=F.called_set.init.lookup;have UI:=F.called_set.init.bind (.ref s.heap.objs.size)
   repeat (any_goals (first|assumption|wp_step))
   refine zcR (zdU (R:=wants (λr s₂=>r=.none/\∃ h' tk,s₂={ s with heap:=h',toks:=tk }/\l9 (vf w) h' s.heap.objs.size D/\
     (∀ b o,b<s.heap.objs.size->s.heap.get? b=some o->h'.get? b=some o)) E) F.called_set.init.plain F.entry_set_init (check_set_init_1 hT ?_)) λr₂ s₂ hr₂=>?_
   ·obtain ⟨ol,Ud,UD,nl,UB⟩:=hl;obtain ⟨Qr,Mz,TH,Jn⟩:=ol;simp only at UD UB;subst UD;subst UB;have Rh:(s.heap.push (pR w)).get? l=some { cls:=.type "list",dict:=Mz,data:=.seq items nl,slots:=Jn }:=ZN _ Ud;have W3:=F.sub_list_set;have W4:=F.sub_list_frozenset;have yW:(Value.type "list"==Value.type "dict")=false:=by decide
    have jh:(s.heap.push (pR w)).IsList l items:=⟨_,Rh,rfl,nl,rfl⟩;unfold Builtin.«set.__init__» noKeywords Builtin.Frozenset.updateFrom;generalize X2:pyIter=PI
    wp_walk
    subst X2;refine zcG jh ?_;refine rd (wpAny_runValue ?_);have ls:l<s.heap.objs.size:=ZM Ud;have h3:A.in1.in1.in1.handled=none:=by simp [hh]
    have lI:l≠(s.heap.push (pR w)).objs.size:=by rw [zaI];exact Z1 (zbu ls)
    have cf:s.heap.objs.size∉[(s.heap.push (pR w)).objs.size,l]:=by
     rw [zaI];simp only [zaZ,zat,zba,zdB];exact ⟨Z1 (zbO _),zax ls⟩
    have Lg:∀ i,i<items.size->ad i<s.heap.objs.size:=λi hi=>by
     obtain ⟨o,_,_,ho,_⟩:=hk i D[i] (ZJ (by omega));exact ZM ho
    refine JC (led:=vf w) ((Walks.list h3 _ l lI items).toS) cf (by simp only [zcy];omega) D ad hi hz nd hD hb (λi hi=>⟨Z1 (Lg i hi),?_⟩) items.size 0 _ (by omega) (Z7 _) ⟨⟨_,Z3 _ rfl,rfl,rfl⟩,jh.push _⟩ ?_ ?_ ?_
    ·have:=Lg i hi;rw [zaI];simp only [zaZ,zat,zba];exact Z1 (zbu this)
    ·exact l9.fresh (ZN _ hS)
    ·intro j x e;obtain ⟨o,it,k,h1,rest⟩:=hk j x e;exact ⟨o,it,k,ZN _ (ZN _ h1),rest⟩
    ·intro s' mv EA;obtain ⟨h',g',d',LP,Qp⟩:=s';have eg:g'=s.gens:=mv.gens;have ed:d'=s.drawn:=mv.drawn;have eo:Qp=s.os:=mv.os;subst eg;subst ed;subst eo;show wpAny _ _ _ _ _ _;refine ZR ?_;show wpAny _ _ (ret Value.none) _ _ _;refine ZR ⟨rfl,h',LP,rfl,EA,λb o hb e=>?_⟩;refine mv.heap b o ?_ (ZN _ (ZN _ e));simp only [zaZ,zat,zba,zdB];exact ⟨Z1 hb,by rw [zaI];exact Z1 (zbu hb)⟩
   ·cases r₂ with
    | error e=>exact hr₂
    | ok fl₂=>
     cases fl₂ with
     | ret r=>
      obtain ⟨rfl,h',tk,rfl,EA,HJ⟩:=hr₂
      repeat (any_goals (first|assumption|wp_step))
      exact h _ _ EA HJ
     | _=>exact hr₂.elim
  | _=>exact hr.elim
end
end iS
namespace L2
open PySem PySem.Spec PySem.W PySem.Calls PyProof.Rows
def dn (x:Nat×Nat):Int×Int:=((x.1:Int),(x.2:Int))
def uB (K:Frag) (te:TE):TE:=λσ H Q=>te σ H λx H1=>∃ (a:Addr) (ps:XL) (D:List (Nat×Nat)),x=.ref a/\aH K H1 a (ps.map V.ref)/\Gm.PR H1 ps (D.map dn)/\D.Nodup/\(∀ y∈D,y.1<12/\y.2<12)/\D.length<=300/\Q (.int (D.length:Int)) H1
theorem Ai {K:Frag} {te:TE} {σ:St} {H:Hp} {Q:VK} (h:te σ H λx H1=>∃ (a:Addr) (ps:XL) (D:List (Nat×Nat)),x=.ref a/\aH K H1 a (ps.map V.ref)/\Gm.PR H1 ps (D.map dn)/\D.Nodup/\(∀ y∈D,y.1<12/\y.2<12)/\D.length<=300/\Q (.int (D.length:Int)) H1):uB K te σ H Q:=h
theorem Bo:bootBuiltins "len"=some (.builtin "len"):=by decide +kernel
theorem wZ {tl:TE} {p p2 pos Ak:Pos} (hc:X.calm=true) (hu:X.A.units+64<cLine) (hm:X.mg "set"=none) (iK:X.mg "len"=none) (ha:PE X l tl) (hg:Gl X "set":=by rfl) (RE:Gl X "len":=by rfl)
  (he:starEach [l] X.env=(false,eval l X.env)::starEach [] X.env:=by rfl)
  (Dv:starEach [.Call (.Name "set" p) [l] [] pos] X.env=(false,eval (.Call (.Name "set" p) [l] [] pos) X.env)::starEach [] X.env:=by rfl) :
  PE X (.Call (.Name "len" p2) [.Call (.Name "set" p) [l] [] pos] [] Ak) (uB X.K tl):=by
 intro pins s σ H Q I h;refine Call_ (eN I RE iK Bo (PyProof.Rows.callWith_builtin1 ?_ Dv rfl));rw [Dv];show wpAny _ _ (spliced ((false,eval (.Call (.Name "set" p) [l] [] pos) X.env)::backTo Ak (starEach [] X.env))) _ _ s;refine zdi ?_;refine Call_ (eN I hg hm Bl (zaJ ?_ he rfl));rw [he];show wpAny _ _ (spliced ((false,eval l X.env)::backTo pos (starEach [] X.env))) _ _ s;refine zdi (cA (ha pins s σ H _ I h) λu1 s1 ⟨x,H1,I1,r1,q1⟩=>?_);refine zds ?_;obtain ⟨a,ps,D,rfl,hs,pr,nd,hD,hl,q⟩:=q1;cases r1
 obtain ⟨aJ,rv,pl,hz⟩:=I1.list hs;have zl:=rv.length;rw [ZK] at zl;have pz:=pr.length;rw [ZK] at pz;have ez:aJ.toArray.size=D.length:=by rw [Z8];omega
 have Ve:∀ {ps:XL} {aJ:XV},Vals (ps.map V.ref) aJ->∀ (i:Nat) (v:Value),aJ[i]?=some v->v=.ref (ps.getD i 0):=by
  intro ps
  induction ps with
  | nil=>intro aJ rv i v h;cases rv;simp at h
  | cons b ps ih=>
   intro aJ rv i v h;cases rv with
   | @cons _ u _ us ru rv=>
    cases ru
    cases i with
    | zero=>cases h;rfl
    | succ i=>exact ih rv i v (by simpa using h)
 have keys:∀ j y,D[j]?=some y->IsTupleKey (intKind X.prog X.w) s1.heap [(y.1:Int),(y.2:Int)] (ps.getD j 0):=λj y e=>by
  have key:∀ {ps:XL} {D:List (Nat×Nat)},Gm.PR H1 ps (D.map dn)->∀ (j:Nat) (y:Nat×Nat),D[j]?=some y->H1 (ps.getD j 0)=some (.tup [.int (y.1:Int),.int (y.2:Int)]):=by
   intro ps
   induction ps with
   | nil=>intro D pr j y e;cases D with
    | nil=>simp at e
    | cons d D=>cases pr
   | cons b ps ih=>
    intro D pr j y e;cases D with
    | nil=>simp at e
    | cons d D=>
     cases pr with
     | cons h1 pr=>
      cases j with
      | zero=>cases e;exact h1
      | succ j=>exact ih pr j y (by simpa using e)
  have hp:=key pr j y e;obtain ⟨z2,ip,rp,op,Rf,Bz,n2,hd⟩:=(show aW X.prog X.w H1 s1.heap _ (.tup [.int (y.1:Int),.int (y.2:Int)]) from I1.aZ _ _ hp);obtain ⟨v1,v2,rfl,⟨t1,rfl⟩,⟨t2,rfl⟩⟩:=vals2 rp;exact ⟨op,_,n2,Rf,Bz,hd,.cons (intKind_is _ _ _ _) (.cons (intKind_is _ _ _ _) .nil)⟩
 refine iS.KD (D:=D) (ad:=λi=>ps.getD i 0) (I1.ok.hd hc) (by first|omega | (have:=I1.ok;omega)) pl.isList (λi v hv=>Ve rv i v (by simpa using hv)) ez nd hD (by omega) keys λh' tk hS kk=>?_;refine zds ?_;have I2:Inv X pins σ H1 { s1 with heap:=h',toks:=tk }:=I1.kept λb o e=>kk b o (ZM e) e;obtain ⟨o,es,ep,t,ho,hex,hd,_,hf,hn,_⟩:=hS;refine call_len_set (s:={ s1 with heap:=h',toks:=tk }) ho hex hd hf (by omega) ⟨.int (D.length:Int),H1,I2.tok _,⟨_,by rw [hn]⟩,q⟩
end L2
namespace KR
open PySem L2 Fr Gm cK
open Dt (b8 iI pd dw iF)
def top (i:Nat):Stmt:=PySem.Challenge.pw_standup_k81_whole_lands_of_solids.main.body.getD i (.Pass ⟨0,0,0,0⟩)
abbrev fZ:Stmt:=top 9
abbrev r8:Stmt:=top 10
abbrev dQ:Stmt:=top 12
abbrev r9:Stmt:=top 14
abbrev eJ:Stmt:=top 16
abbrev gK:Stmt:=top 17
abbrev gJ:Stmt:=top 19
abbrev wO:Stmt:=top 20
abbrev wR:Stmt:=top 24
abbrev eI:Stmt:=top 25
abbrev wQ:Stmt:=top 26
abbrev r6:Stmt:=top 27
abbrev iz:Stmt:=top 28
abbrev iA:Stmt:=top 29
abbrev fY:Stmt:=top 30
abbrev kJ:Stmt:=top 31
abbrev f9:Stmt:=top 32
abbrev kI:Stmt:=top 33
abbrev gc:Stmt:=top 34
abbrev fw:Stmt:=top 35
abbrev cZ:Stmt:=top 36
abbrev fX:Stmt:=top 37
abbrev cY:Stmt:=top 38
abbrev iy:Stmt:=top 40
abbrev fV:Stmt:=top 41
abbrev gL:Stmt:=top 43
abbrev fy:Stmt:=top 44
abbrev fA:Stmt:=top 45
abbrev eK:Stmt:=top 46
abbrev gM:Stmt:=top 47
abbrev gN:Stmt:=top 48
abbrev dR:Stmt:=top 49
abbrev iB:Stmt:=top 50
abbrev gh:Stmt:=top 51
abbrev gi:Stmt:=top 52
abbrev eM:Stmt:=top 53
abbrev fx:Stmt:=top 54
abbrev cM:Stmt:=top 55
abbrev dF:Stmt:=top 56
abbrev gO:Stmt:=top 57
abbrev gj:Stmt:=top 58
abbrev ny:Stmt:=top 59
structure Il where
 o8:Addr
 Flat:Addr
 dW:Addr
 o7:Addr
 gZ:Addr
 jA:Addr
 rN:Addr
 UP:Addr
 code:Addr
 tab:Addr
structure Txt (K:ZB) (mg:W1) (Z:Il):Prop where
 abs:mg "abs"=none
 len:mg "len"=none
 isinstance:mg "isinstance"=none
 int:mg "int"=none
 bool:mg "bool"=none
 tuple:mg "tuple"=none
 enumerate:mg "enumerate"=none
 range:mg "range"=none
 min:mg "min"=none
 max:mg "max"=none
 list:mg "list"=none
 zip:mg "zip"=none
 sorted:mg "sorted"=none
 all:mg "all"=none
 sum:mg "sum"=none
 set:mg "set"=none
 dict:mg "dict"=none
 ValueError:mg "ValueError"=none
 xO:mg "MapError"=some (.ref Z.o8)
 xP:mg "Flat"=some (.ref Z.Flat)
 vX:mg "NotInside"=some (.ref Z.dW)
 GC:mg "NoMap"=some (.ref Z.o7)
 Bj:mg "NoSheet"=some (.ref Z.gZ)
 D7:mg "Parted"=some (.ref Z.jA)
 zI:mg "VIEWS"=some (.ref Z.rN)
 Sl:mg "UP"=some (.ref Z.UP)
 x_Flat:PySem.W.excIn K Z.Flat [.type "ValueError",.type "Exception",.type "BaseException",.type "object"] "ValueError.__new__"=true
 wI:kh K Z.Flat
 lam:∀ f,mg "put_in_order"=some (.ref f)->codeAt K f Z.code Z.tab=true
 m1:PySem.W.exmOne K (.ref Z.Flat) (.ref Z.o8)=some true
 m2:PySem.W.kitOne K (.ref Z.Flat) (.ref Z.Flat)=some true
 m3:PySem.W.kitAny K (.ref Z.Flat) [.ref Z.o7,.ref Z.gZ,.ref Z.dW,.ref Z.jA]=some false
 m5:PySem.W.kitOne K (.ref Z.Flat) (.type "ValueError")=some true
 vw:mw K Z.rN=true
 up:gW K (.ref Z.UP) [0,0,1,0]=true
open cK
def Pt (K:ZB) (H:Hp) (a:Addr) (p:V4):Prop:=Ph K H a ((l4 p).map V.int)
theorem Pt.same (h:Pt K H a p) (e:ao H H'):Pt K H' a p:=e.any h
def nj:Sp:=λvs H Q _=>∃ a b:Int,vs=[.int a,.int b]/\Q (.int (Int.gcd a b:Nat)) H
def rT:Sp:=λvs H Q _=>∃ (a b c:Addr) (p q r:V3),vs=[.ref a,.ref b,.ref c]/\H a=some (.lst ((l3 p).map V.int))/\H b=some (.lst ((l3 q).map V.int))/\H c=some (.lst ((l3 r).map V.int))/\S3 3000 p/\S3 3000 q/\S3 3000 r/\Q (.int (tn p q r)) H
def mD:Sp:=λvs H Q _=>∃ (a b:Addr) (p q:V4),vs=[.ref a,.ref b]/\H a=some (.lst ((l4 p).map V.int))/\H b=some (.lst ((l4 q).map V.int))/\S4 9003 p/\S4 3000 q/\Q (.int (dot p q)) H
def vw (p:V4) (i j k:Nat):Wp:=[(l4 p).getD i 0,(l4 p).getD j 0,(l4 p).getD k 0]
def rV (K:ZB):Sp:=λvs H Q _=>∃ (a b:Addr) (p:V4) (i j k:Nat),vs=[.ref a,.ref b]/\Pt K H a p/\SqT K H b [.int (i:Int),.int (j:Int),.int (k:Int)]/\i<4/\j<4/\k<4/\
 ∀ t H',ao H H'->H t=none->H' t=some (.lst ((vw p i j k).map V.int))->Q (.ref t) H'
def yf (K:ZB):Sp:=λvs H Q _=>∃ (a b c:Addr) (p q r:V4),vs=[.ref a,.ref b,.ref c]/\Pt K H a p/\Pt K H b q/\Pt K H c r/\S4 3000 p/\S4 3000 q/\S4 3000 r/\
 ∀ t H',ao H H'->H t=none->H' t=some (.lst ((l4 (aL p q r)).map V.int))->Q (.ref t) H'
def mY (K:ZB):Sp:=λvs H Q _=>∃ (a b c p:Addr) (as:XL) (L:Uf) (pl e f:V4),vs=[.ref a,.ref b,.ref c,.ref p]/\H a=some (.lst ((l4 pl).map V.int))/\Pt K H b e/\Pt K H c f/\cX H p as L/\ke L 3000/\L.length<=100/\S4 9003 pl/\S4 3000 e/\S4 3000 f/\
 ∀ t H',ao H H'->H t=none->H' t=some (.lst ((l4 (wy (cl L) pl e f L.length)).map V.int))->Q (.ref t) H'
def oZ (H:Hp) (d:Addr) (c:Nat->V4) (n:Nat) (pl:V4) (α:Nat->Addr):Prop:=Rd H d (.dK (kA (jt c pl n) α))/\∀ i∈jt c pl n,H (α i)=some (.lst ((l3 (sp pl (c i))).map V.int))
theorem oZ.same (h:oZ H d c n pl α) (e:ao H H'):oZ H' d c n pl α:=⟨h.1.elim (λz=>.inl (e _ _ z)) λ⟨o,z⟩=>.inr ⟨o,e _ _ z⟩,λi hi=>e _ _ (h.2 i hi)⟩
def rY (K:ZB):Sp:=λvs H Q _=>∃ (a p:Addr) (as:XL) (L:Uf) (pl:V4),vs=[.ref a,.ref p]/\H a=some (.lst ((l4 pl).map V.int))/\cX H p as L/\ke L 3000/\L.length<=100/\S4 9003 pl/\Nz pl/\
 ∀ d α H',ao H H'->H d=none->H' d=some (.dK (kA (jt (cl L) pl L.length) α))->oZ H' d (cl L) L.length pl α->Q (.ref d) H'
def qK:Sp:=λvs H Q _=>∃ (d:Addr) (α:Nat->Addr) (c:Nat->V4) (n:Nat) (pl:V4) (i f m:Nat),vs=[.ref d,.int (i:Int),.int (f:Int),.int (m:Int)]/\oZ H d c n pl α/\(∀ j,j<n->S4 3000 (c j))/\i∈jt c pl n/\f∈jt c pl n/\m∈jt c pl n/\Q (.bl (dU c pl i f m)) H
def rW:Sp:=λvs H Q _=>∃ (d:Addr) (α:Nat->Addr) (c:Nat->V4) (n:Nat) (pl:V4) (i:Nat),vs=[.ref d,.int (i:Int)]/\H d=some (.dK (kA (jt c pl n) α))/\oZ H d c n pl α/\(∀ j,j<n->S4 3000 (c j))/\i∈jt c pl n/\∀ H',ao H H'->Q (.int (Qu c n pl i:Nat)) H'
def qJ:Sp:=λvs H Q _=>∃ (a p:Addr) (as:XL) (L:Uf) (pl:V4) (i:Nat),vs=[.ref a,.ref p,.int (i:Int)]/\H a=some (.lst ((l4 pl).map V.int))/\cX H p as L/\ke L 3000/\L.length<=100/\S4 9003 pl/\bE (cl L) L.length/\Fc (cl L) L.length pl/\i∈jt (cl L) pl L.length/\bD (cl L) L.length i/\
 ∀ t r H',ao H H'->H t=none->H' t=some (.lst ((ri r).map V.int))->Rg (cl L) L.length pl r->at' r 0=i->Q (.ref t) H'
def uM (N:Addr):Sp:=λvs H Q E=>∃ (p:Addr) (as:XL) (L:Uf),vs=[.ref p]/\cX H p as L/\ke L 3000/\0<L.length/\L.length<=100/\bE (cl L) L.length/\
 (∀ t pl H',¬gI (cl L) L.length->ao H H'->H t=none->H' t=some (.lst ((l4 pl).map V.int))->S4 9003 pl->Fc (cl L) L.length pl->dot pl (cl L 0)=0->Q (.ref t) H')/\(gI (cl L) L.length->∀ H',ao H H'->E (.ref N) none H')
def mZ:Sp:=λvs H Q _=>∃ (a:Addr) (r:Wp),vs=[.ref a]/\H a=some (.lst (r.map V.int))/\0<r.length/\r.length<=1000/\
 ∀ (t:Addr) (ps:XL) H',ao H H'->H t=none->H' t=some (.lst (ps.map V.ref))->PR H' ps (sh 0 r)->Q (.ref t) H'
def dg (H:Hp) (as:XL) (F:List (List Nat×V4)):Prop:=as.length=F.length/\∀ (j:Nat) (a:Addr) (p:List Nat×V4),as[j]?=some a->F[j]?=some p->∃ r q,H a=some (.tup [.ref r,.ref q])/\H r=some (.lst ((ri p.1).map V.int))/\H q=some (.lst ((l4 p.2).map V.int))
theorem dg.same (h:dg H as F) (e:ao H H'):dg H' as F:=⟨h.1,λj a p ha hp=>by
 obtain ⟨r,q,h1,h2,h3⟩:=h.2 j a p ha hp;exact ⟨r,q,e _ _ h1,e _ _ h2,e _ _ h3⟩⟩
theorem dg.snoc (h:dg H as F) (h1:H a=some (.tup [.ref r,.ref q])) (h2:H r=some (.lst ((ri p.1).map V.int))) (h3:H q=some (.lst ((l4 p.2).map V.int))):dg H (as++[a]) (F++[p]):=by
 refine ⟨by rw [ZV,ZV,h.1];rfl,λj b p' hb hp=>?_⟩;by_cases z:j<as.length
 ·rw [Z0 z] at hb;rw [Z0 (by rw [<-h.1];exact z)] at hp;exact h.2 j b p' hb hp
 ·rw [Z2 (by omega)] at hb;rw [Z2 (by rw [<-h.1];omega)] at hp;rw [h.1] at hb;have j0:j-F.length=0:=by
   have:=(ZL.mp hb).1;simp at this;omega
  rw [j0] at hb hp;cases hb
  cases hp
  exact ⟨r,q,h1,h2,h3⟩
def mX (N:Addr):Sp:=λvs H Q E=>∃ (p:Addr) (as:XL) (L:Uf),vs=[.ref p]/\cX H p as L/\ke L 3000/\0<L.length/\L.length<=20/\bE (cl L) L.length/\
 (¬gI (cl L) L.length->∀ t fs F H',ao H H'->H t=none->H' t=some (.lst (fs.map V.ref))->dg H' fs F->Wr (cl L) L.length F->F≠[]->(∀ x y,(x,y)∈bL F->(y,x)∈bL F)->Q (.ref t) H')/\(gI (cl L) L.length->∀ H',ao H H'->E (.ref N) none H')
def kj (a b c:Addr) (H H':Hp):Prop:=∀ x o,x≠a->x≠b->x≠c->H x=some o->H' x=some o
theorem kj.trans (h:kj a b c H H1) (k:kj a b c H1 H2):kj a b c H H2:=λx o n1 n2 n3 e=>k x o n1 n2 n3 (h x o n1 n2 n3 e)
theorem kj.of (e:ao H H'):kj a b c H H':=λx o _ _ _ h=>e x o h
theorem kj.upd (h:x=a\/x=b\/x=c):kj a b c H (upd H x o):=λy o' n1 n2 n3 e=>by
 rw [aq]
 ·exact e
 ·rintro rfl;rcases h with h|h|h
  ·exact n1 h
  ·exact n2 h
  ·exact n3 h
theorem kj.same (e:ao H0 H) (h:kj a b c H H') (fa:H0 a=none) (fb:H0 b=none) (fc:H0 c=none):ao H0 H':=λx o hx=>
 h x o (λz=>by rw [z,fa] at hx;cases hx) (λz=>by rw [z,fb] at hx;cases hx) (λz=>by rw [z,fc] at hx;cases hx) (e x o hx)
theorem cN {bs:XL} {ns:Wp} (n:ns≠[]) (h:(HO.lst (bs.map V.ref))=.lst (ns.map V.int)):False:=by
 injection h with h;cases ns with
 | nil=>exact n rfl
 | cons a ns=>cases bs with
  | nil=>cases h
  | cons b bs=>rw [zaX,zaX] at h;injection h with h1 _;cases h1
theorem dg.Ad {a b c:Addr} {H H':Hp} {as ba bb:XL} {kc:List (List Key×V)} {F:List (List Nat×V4)} (h:dg H as F) (ne:∀ p∈F,p.1≠[]) (ha:H a=some (.lst (ba.map V.ref))) (hb:H b=some (.lst (bb.map V.ref))) (hc:H c=some (.dT kc)) (e:kj a b c H H'):dg H' as F:=by
 refine ⟨h.1,λj x p hx hp=>?_⟩;obtain ⟨r,q,h1,h2,h3⟩:=h.2 j x p hx hp;have n1:ri p.1≠[]:=λz=>ne p (ZX hp) (by unfold ri at z;simpa using z);have n2:l4 p.2≠[]:=λz=>by cases z
 refine ⟨r,q,e x _ (λz=>?_) (λz=>?_) (λz=>?_) h1,e r _ (λz=>?_) (λz=>?_) (λz=>?_) h2,e q _ (λz=>?_) (λz=>?_) (λz=>?_) h3⟩
 ·rw [z,ha] at h1;cases h1
 ·rw [z,hb] at h1;cases h1
 ·rw [z,hc] at h1;cases h1
 ·rw [z,ha] at h2;exact cN n1 (ZO h2)
 ·rw [z,hb] at h2;exact cN n1 (ZO h2)
 ·rw [z,hc] at h2;cases h2
 ·rw [z,ha] at h3;exact cN n2 (ZO h3)
 ·rw [z,hb] at h3;exact cN n2 (ZO h3)
 ·rw [z,hc] at h3;cases h3
def kG:Sp:=λvs H Q _=>∃ (a:Addr) (ps:XL) (fs:List (Int×Int)) (z:Nat),vs=[.ref a]/\H a=some (.tup (ps.map V.ref))/\PR H ps fs/\Fq z fs/\z<=9000/\fs.length<=1000/\
 (0<b8 fs->(∀ f∈fs,f.2 ∣ b8 fs)->(b8 fs).natAbs<=pd fs->Q (.int (b8 fs)) H)
def yg:Sp:=λvs H Q _=>∃ (a:Addr) (ps:XL) (fs:List (Int×Int)) (z:Nat),vs=[.ref a]/\H a=some (.tup (ps.map V.ref))/\PR H ps fs/\Fq z fs/\z<=9000/\fs.length<=1000/\
 ∀ (t:Addr) (l:Wp) H',ao H H'->H t=none->H' t=some (.lst (l.map V.int))->Wh fs (b8 fs) l->(b8 fs).natAbs<=pd fs->Q (.ref t) H'
def uH:Sp:=λvs H Q _=>∃ (a:Addr) (ps:XL) (fs:List (Int×Int)) (z:Nat),vs=[.ref a]/\H a=some (.tup (ps.map V.ref))/\PR H ps fs/\Fq z fs/\z<=9000/\fs.length<=900/\
 ∀ (t:Addr) (l:Wp) H',ao H H'->H t=none->H' t=some (.lst ((l++[b8 fs]).map V.int))->Wh fs (b8 fs) l->(∀ f∈fs,f.2 ∣ b8 fs)->Q (.ref t) H'
def uP:Sp:=λvs H Q _=>∃ (a b:Addr) (f g:Int×Int),vs=[.ref a,.ref b]/\H a=some (.tup [.int f.1,.int f.2])/\H b=some (.tup [.int g.1,.int g.2])/\Sz 9000 f.1/\Sz 9000 f.2/\Sz 9000 g.1/\Sz 9000 g.2/\Q (.bl (decide (f.1*g.2<g.1*f.2))) H
def Sy (p:List (Int×Int)):Prop:=∀ f∈p,Sz 9000 f.1/\Sz 9000 f.2
def uR:Sp:=λvs H Q _=>∃ (a b:Addr) (p q:List (Int×Int)),vs=[.ref a,.ref b]/\qo H a p/\qo H b q/\Sy p/\Sy q/\∀ H',ao H H'->Q (.bl (lO p q)) H'
def JA:Pos:={ line:=139,col:=30,endLine:=139,endCol:=109 }
def TB (Z:Il) (H:Hp):Prop:=cF H Z.tab JA ("put_in_order.<locals>.<lambda>")
theorem PR.ym {T:Addr} {H H':Hp} {lp:Pos} {q:Str} (e:fJ T H H') (tb:cF H T lp q) {ps:XL} {D:List (Int×Int)} (h:PR H ps D):PR H' ps D:=Paired.vc h λa x y=>e.tup tb y
theorem qo.ym {T:Addr} {H H':Hp} {lp:Pos} {q:Str} (e:fJ T H H') (tb:cF H T lp q) {a:Addr} {p:List (Int×Int)} (h:qo H a p):qo H' a p:=by
 obtain ⟨bs,h1,h2,h3⟩:=h;exact ⟨bs,e.tup tb h1,PR.ym e tb h2,h3⟩
theorem fK.ym {T:Addr} {H H':Hp} {lp:Pos} {q:Str} (e:fJ T H H') (tb:cF H T lp q) {l:Addr} {as:XL} {P:List (List (Int×Int))} (h:fK H l as P):fK H' l as P:=
 ⟨e.list tb h.1,h.2.1,λj a p x y=>qo.ym e tb (h.2.2 j a p x y)⟩
theorem fJ.free {T:Addr} {H H':Hp} {lp:Pos} {q:Str} (e:fJ T H H') (tb:cF H' T lp q) {b:Addr} (h:H' b=none):H b=none:=by
 cases z:H b with
 | none=>rfl
 | some o=>
  obtain ⟨ps,hp,_⟩:=tb;rw [e b o (λy=>by rw [y,hp] at h;cases h) z] at h;cases h
def uJ (Z:Il):Sp:=λvs H Q _=>∃ (a:Addr) (as:XL) (P:List (List (Int×Int))),vs=[.ref a]/\fK H a as P/\TB Z H/\P.length<60/\(∀ p∈P,p.length=3/\Sy p/\∀ f∈p,Dt.Lw f)/\
 ∀ t l H',fJ Z.tab H H'->TB Z H'->H t=none->H' t=some (.lst ((ri l).map V.int))->Ord P l->Q (.ref t) H'
def uL:Sp:=λvs H Q _=>∃ (a:Addr) (r:Wp),vs=[.ref a]/\H a=some (.lst (r.map V.int))/\0<r.length/\r.length<=1000/\
 ∀ (b:Addr) (c:Nat) H',ao H H'->H b=none->H' b=some (.lst ((du r c).map V.int))->c<r.length->(∀ j,j<r.length->Le (du r c) (du r j))->Q (.ref b) H'
theorem iV.upd {H:Hp} {as gs:XL} {G:List (List Int×V4)} {fd:Addr} {o:HO} (h:iV H as G) (ne:∀ g∈G,g.1≠[]) (hf:H fd=some (.lst (gs.map V.ref))):iV (upd H fd o) as G:=by
 refine ⟨h.1,λj a g ha hg=>?_⟩;obtain ⟨r,q,h1,h2,h3⟩:=h.2 j a g ha hg;have n1:=ne g (ZX hg);refine ⟨r,q,?_,?_,?_⟩
 ·rw [aq (λz=>by rw [z,hf] at h1;cases h1)];exact h1
 ·rw [aq (λz=>by rw [z,hf] at h2;exact cN n1 (ZO h2))];exact h2
 ·rw [aq (λz=>by rw [z,hf] at h3;exact cN (λy=>by cases y) (ZO h3))];exact h3
theorem iV.snoc (h:iV H as G) (h1:H a=some (.tup [.ref r,.ref q])) (h2:H r=some (.lst (g.1.map V.int))) (h3:H q=some (.lst ((l4 g.2).map V.int))):iV H (as++[a]) (G++[g]):=by
 refine ⟨by rw [ZV,ZV,h.1];rfl,λj b p' hb hp=>?_⟩;by_cases z:j<as.length
 ·rw [Z0 z] at hb;rw [Z0 (by rw [<-h.1];exact z)] at hp;exact h.2 j b p' hb hp
 ·rw [Z2 (by omega)] at hb;rw [Z2 (by rw [<-h.1];omega)] at hp;rw [h.1] at hb;have j0:j-G.length=0:=by
   have:=(ZL.mp hb).1;simp at this;omega
  rw [j0] at hb hp;cases hb
  cases hp
  exact ⟨r,q,h1,h2,h3⟩
theorem cF.upd {H:Hp} {T:Addr} {lp:Pos} {q:Str} (tb:cF H T lp q) {x:Addr} {xs:List V} {o:HO} (h:H x=some (.lst xs)):cF (upd H x o) T lp q:=by
 obtain ⟨ps,hp,z⟩:=tb;refine ⟨ps,by rw [aq (λy=>by rw [y,h] at hp;cases hp)];exact hp,?_⟩;rcases z with z|⟨c,z,hc⟩
 ·exact .inl z
 ·exact .inr ⟨c,z,by rw [aq (λy=>by rw [y,h] at hc;cases hc)];exact hc⟩
def BB (a:Addr) (H H':Hp):Prop:=∀ x o,x≠a->H x=some o->H' x=some o
theorem BB.of (e:ao H H'):BB a H H':=λx o _ h=>e x o h
theorem BB.trans (h:BB a H H1) (k:BB a H1 H2):BB a H H2:=λx o n e=>k x o n (h x o n e)
theorem BB.upd:BB a H (upd H a o):=λx _ n e=>by rw [aq n];exact e
def pA (P:List (List (Int×Int))):Prop:=P=[]\/∃ l,Ord P l/\gI (cV P l) l.length
def wJ (Z:Il):Sp:=λvs H Q E=>∃ (a:Addr) (as:XL) (P:List (List (Int×Int))),vs=[.ref a]/\fK H a as P/\TB Z H/\P.length<=12/\(∀ p∈P,Ps p)/\
 (∀ t fs l F G H',BC P l F G->fJ Z.tab H H'->TB Z H'->H t=none->H' t=some (.lst (fs.map V.ref))->iV H' fs G->Q (.ref t) H')/\(pA P->∀ H',fJ Z.tab H H'->TB Z H'->E (.ref Z.Flat) none H')
def jI (Z:Il):Sp:=λvs H Q E=>∃ (a:Addr) (as:XL) (P:List (List (Int×Int))),vs=[.ref a]/\fK H a as P/\TB Z H/\P.length<=12/\(∀ p∈P,Ps p)/\
 (∀ t rs l F G H',BC P l F G->fJ Z.tab H H'->TB Z H'->H t=none->cX H' t rs (G.map (·.1))->Q (.ref t) H')/\(pA P->∀ H',fJ Z.tab H H'->TB Z H'->E (.ref Z.Flat) none H')
def jJ (Z:Il):Sp:=λvs H Q E=>∃ (a:Addr) (as:XL) (P:List (List (Int×Int))),vs=[.ref a]/\fK H a as P/\TB Z H/\P.length<=12/\(∀ p∈P,Ps p)/\pA P/\¬(∃ l F G,BC P l F G)/\∀ H',fJ Z.tab H H'->TB Z H'->E (.ref Z.Flat) none H'
def uI:Sp:=λvs H Q _=>∃ n:Int,vs=[.int n]/\Q (.bl true) H
def nh (K:ZB):Sp:=λvs H Q _=>∃ (a:Addr) (ns:Wp) (m:Nat),vs=[.ref a,.int (m:Int)]/\aH K H a (ns.map V.int)/\ns.length<=63/\0<m/\m<=30/\
 ∀ (t:Addr) (fs:Wp) H',ao H H'->H t=none->H' t=some (.lst (fs.map V.int))->fs.length=m->(∀ x∈fs,0<=x/\x<10 ^ 60+7)->Q (.ref t) H'
def uN:Sp:=λvs H Q _=>∃ (n b p:Int),vs=[.int n,.int b,.int p]/\0<=n/\n<10 ^ 61/\2<=b/\b<=100/\0<=p/\p<=100/\∀ d:Int,0<=d->d<b->Q (.int d) H
def yi:Sp:=λvs H Q _=>∃ a b:Int,vs=[.int a,.int b]/\0<b/\Sz 600 b/\∀ f p H',Dt.Lw f->f.1.natAbs<=a.natAbs->f.2.natAbs<=b.natAbs->ao H H'->H p=none->H' p=some (.tup [.int f.1,.int f.2])->Q (.ref p) H'
theorem qo.upd (h:qo H a p) (hl:H l=some (.lst xs)):qo (upd H l (.lst zs)) a p:=by
 obtain ⟨bs,h1,h2,h3⟩:=h;exact ⟨bs,by rw [aq (λz=>by rw [z,hl] at h1;cases h1)];exact h1,PR.lst h2 hl,h3⟩
theorem fK.snoc (h:fK H l as P) (hp:qo H a p):fK (upd H l (.lst (as.map V.ref++[.ref a]))) l (as++[a]) (P++[p]):=by
 refine ⟨by rw [ae,Z6];rfl,by rw [ZV,ZV,h.2.1];rfl,λj b r hb hr=>?_⟩;by_cases z:j<as.length
 ·rw [Z0 z] at hb;rw [Z0 (by rw [<-h.2.1];exact z)] at hr;exact qo.upd (h.2.2 j b r hb hr) h.1
 ·rw [Z2 (by omega)] at hb;rw [Z2 (by rw [<-h.2.1];omega)] at hr;rw [h.2.1] at hb;have j0:j-P.length=0:=by
   have:=(ZL.mp hb).1;simp at this;omega
  rw [j0] at hb hr;cases hb
  cases hr
  exact qo.upd hp h.1
def KS (L:Uf):Prop:=∀ r∈L,r.length=3/\∀ x∈r,x.natAbs<=1000
def uO:Sp:=λvs H Q _=>∃ (a:Addr) (fs:Wp) (n:Nat),vs=[.ref a,.int (n:Int)]/\H a=some (.lst (fs.map V.int))/\fs.length=8/\(∀ x∈fs,0<=x/\x<10 ^ 60+7)/\n<=20/\
 ∀ t as L H',ao H H'->H t=none->cX H' t as L->L.length=n->KS L->Q (.ref t) H'
def B2:Sp:=λvs H Q _=>∃ (a p:Addr) (as:XL) (L:Uf) (fs:Wp),vs=[.ref p,.ref a]/\cX H p as L/\KS L/\L.length<=20/\H a=some (.lst (fs.map V.int))/\fs.length=4/\(∀ x∈fs,0<=x/\x<10 ^ 60+7)/\
 ∀ t bs P H',ao H H'->H t=none->fK H' t bs P->P.length=L.length->(∀ p∈P,Ps p)->Q (.ref t) H'
def uK:Sp:=λvs H Q _=>∃ (a:Addr) (as:XL) (P:List (List (Int×Int))),vs=[.ref a]/\fK H a as P/\P.length<=12/\(∀ p∈P,Ps p)/\
 ∀ t bs T S H',ao H H'->H t=none->Tr H' t bs T->uf P T S->Q (.ref t) H'
def Tp (H:Hp) (a:Addr) (p:V3):Prop:=H a=some (.tup ((l3 p).map V.int))
def kE:Sp:=λvs H Q _=>∃ (a b c:Addr) (p q r:V3),vs=[.ref a,.ref b,.ref c]/\Tp H a p/\Tp H b q/\Tp H c r/\S3 30000 p/\S3 30000 q/\S3 30000 r/\∀ t H',ao H H'->H t=none->Tp H' t (dB p q r)->Q (.ref t) H'
def kF:Sp:=λvs H Q _=>∃ (a b c:Addr) (p q r:V3),vs=[.ref a,.ref b,.ref c]/\Tp H a p/\Tp H b q/\Tp H c r/\S3 60010 p/\S3 30000 q/\S3 30000 r/\∀ H',ao H H'->Q (.int (ji p q r)) H'
def uQ:Sp:=λvs H Q _=>∃ (a b:Addr) (p q:V3),vs=[.ref a,.ref b]/\Tp H a p/\Tp H b q/\S3 60010 p/\S3 60010 q/\∀ H',ao H H'->Q (.int (ki p q)) H'
theorem mT {H:Hp} {t:Addr} {as:XL} {T:Uf} (h:Tr H t as T) (hz:Tz T) {i:Nat} (hi:i<T.length):∃ a,as[i]?=some a/\ja (as.map V.ref) (i:Int)=some (V.ref a)/\Tp H a (tv T i)/\S3 30000 (tv T i):=by
 obtain ⟨a,h1,h2,h3⟩:=h.at hi;obtain ⟨e,s⟩:=LL hz hi;refine ⟨a,h1,h2,?_,s⟩;unfold Tp;rw [<-e];exact h3
def yj:Sp:=λvs H Q _=>∃ (a:Addr) (as:XL) (T:Uf),vs=[.ref a]/\Tr H a as T/\Tz T/\T.length<=12/\(∀ H',ao H H'->Bp T->Q (.bl true) H')/\∀ H',ao H H'->¬Bp T->Q (.bl false) H'
def yh (Z:Il):Sp:=λvs H Q _=>∃ (a:Addr) (as:XL) (P:List (List (Int×Int))),vs=[.ref a]/\fK H a as P/\TB Z H/\P.length<=12/\(∀ p∈P,Ps p)/\pA P/\¬(∃ l F G,BC P l F G)/\∀ H',fJ Z.tab H H'->TB Z H'->Q (.bl true) H'
def qM:Sp:=λvs H Q _=>∃ (r t:Addr) (as:XL) (T:Uf) (g:Wp),vs=[.ref r,.ref t]/\H r=some (.lst (g.map V.int))/\Tr H t as T/\T.length<=12/\3<=g.length/\g.length<=12/\g.Nodup/\(∀ x∈g,∃ n:Nat,x=(n:Int)/\n<T.length/\T.getD n []∉T.take n)/\o9 g/\∀ H',ao H H'->Q (.bl true) H'
def qI:Sp:=λvs H Q _=>∃ (r t:Addr) (as:XL) (T:Uf) (g:List Nat),vs=[.ref r,.ref t]/\H r=some (.lst ((ri g).map V.int))/\Tr H t as T/\Tz T/\T.length<=12/\Rr T g/\∀ H',ao H H'->Q (.bl true) H'
theorem lG {i:Int} {j:Nat} (h1 : -(g.length:Int)<=i) (h2:i<g.length) (hj:j<g.length) (e:(j:Int)=i\/(j:Int)=i+g.length):ja ((ri g).map V.int) i=some (V.int ((at' g j:Nat):Int)):=by
 have:=Ed (r:=ri g) (i:=i) (j:=j) (by rw [bu];exact h1) (by rw [bu];exact h2) (by rw [bu];exact e);rw [this,Cg (by omega),zal hj]
theorem PR.snoc {H:Hp} {ps:XL} {T:List (Int×Int)} {a:Addr} {d:Int×Int} (h:PR H ps T) (ha:H a=some (.tup [.int d.1,.int d.2])):PR H (ps++[a]) (T++[d]):=by
 induction h with
 | nil=>exact .cons ha .nil
 | cons h1 _ ih=>exact .cons h1 ih
def qN:Sp:=λvs H Q _=>∃ (a:Addr) (as:XL) (R:List (List Nat)),vs=[.ref a]/\cX H a as (R.map ri)/\(∀ g∈R,0<g.length/\g.length<=12/\∀ x∈g,x<12)/\(R.flatMap hU).Nodup/\(∀ x y,(x,y)∈R.flatMap hU->(y,x)∈R.flatMap hU)/\∀ H',ao H H'->Q (.bl true) H'
theorem C0 {D:List (Nat×Nat)} (nd:D.Nodup) (h:∀ y∈D,y.1<12/\y.2<12):D.length<=300:=by
 have:=iS.jv (l:=D) (m:=(List.range 12).flatMap λi=>(List.range 12).map λj=>(i,j)) nd λy hy=>by
  rw [mem_flatMap];obtain ⟨h1,h2⟩:=h y hy;exact ⟨y.1,zaj.mpr h1,zaB.mpr ⟨y.2,zaj.mpr h2,rfl⟩⟩
 exact zag this (by decide +kernel)
def rX (K:ZB) (tab:Addr):Sp:=λvs H Q _=>∃ (a:Addr) (ns:Wp),vs=[.ref a]/\aH K H a (ns.map V.int)/\ns.length<=63/\cF H tab JA ("put_in_order.<locals>.<lambda>")/\∀ H',Q (.bl true) H'
theorem fK.take (h:fK H l as P) (n:Nat) (hp:H p=some (.lst ((as.take n).map V.ref))):fK H p (as.take n) (P.take n):=
 ⟨hp,by rw [Z9,Z9,h.2.1],λj a q x1 x2=>by
  have jn:j<n:=by
   have:=(ZL.mp x1).1;rw [Z9] at this;omega
  rw [zcY jn] at x1 x2;exact h.2.2 j a q x1 x2⟩
theorem DH (hP:∀ p∈P,Ps p) (h:P.length<=2):pA P/\¬∃ l F G,BC P l F G:=by
 constructor
 ·obtain ⟨l,o⟩:=Ord.ex hP;have:=o.len;exact .inr ⟨l,o,vM (by omega)⟩
 ·rintro ⟨l,F,G,s⟩;have:=s.ord.len;exact s.K8 (vM (by omega))
theorem DG {P:List (List (Int×Int))} {T:Uf} {S:Int} (hP:∀ p∈P,Ps p) (f:uf P T S):(Bp T->pA P/\¬∃ l F G,BC P l F G)/\(pA P->Bp T):=by
 refine ⟨λal=>⟨?_,?_⟩,?_⟩
 ·obtain ⟨l,o⟩:=Ord.ex hP;exact .inr ⟨l,o,vN hP f al o⟩
 ·rintro ⟨l,F,G,s⟩;exact s.K8 (vN hP f al s.ord)
 ·rintro (rfl|⟨l,o,fl⟩)
  ·intro i j k q _ _ h;rw [f.len] at h;simp at h
  ·exact Ee hP f o fl
theorem Tr.ym {T:Addr} {H H':Hp} {lp:Pos} {q:Str} (e:fJ T H H') (tb:cF H T lp q) {t:Addr} {as:XL} {X:Uf} (h:Tr H t as X):Tr H' t as X:=⟨e.list tb h.1,h.2.1,λj a l x y=>e.tup tb (h.2.2 j a l x y)⟩
theorem fK.but {H H':Hp} {rs:XL} (hR:∀ r∈rs,∃ ns:Wp,ns≠[]/\H r=some (.lst (ns.map V.int))) (k:∀ b o,b∉rs->H b=some o->H' b=some o) {l:Addr} {as:XL} {P:List (List (Int×Int))} (h:fK H l as P):fK H' l as P:=by
 have kt:∀ b xs,H b=some (.tup xs)->H' b=some (.tup xs):=λb xs e=>k b _ (λz=>by
  obtain ⟨ns,_,e2⟩:=hR b z;rw [e] at e2;cases e2) e
 refine ⟨k l _ (λz=>?_) h.1,h.2.1,λj a p x y=>?_⟩
 ·obtain ⟨ns,n0,e2⟩:=hR l z;rw [h.1] at e2;exact cN n0 (ZO e2)
 ·obtain ⟨bs,h1,h2,h3⟩:=h.2.2 j a p x y;exact ⟨bs,kt _ _ h1,Paired.vc h2 λa x y=>kt _ _ y,h3⟩
open Dt (b8 iI pd dw iF)
local macro_rules | `(tactic| walk_at "n")=>`(tactic| exact ⟨rfl,rfl,rfl,by decide +kernel,rfl,by decide +kernel,by decide +kernel⟩)
local macro_rules | `(tactic| walk_at "q")=>`(tactic| first
 | with_reducible refine TW ?_|with_reducible refine T0 ?_|with_reducible refine UF ?_|with_reducible refine TD ?_|with_reducible refine r_c ?_
 | ((with_reducible refine' UV ?hv ?_);case' hv=>exact rfl)
 | with_reducible refine Ma ?_|with_reducible refine P5 ?_|with_reducible refine P7 ?_|with_reducible refine Mh ?_|with_reducible refine Me ?_
 | with_reducible refine Hq ?_|with_reducible refine P6 ?_|with_reducible refine IY ?_|with_reducible refine Mg ?_|with_reducible refine IU ?_|with_reducible refine VU ?_|with_reducible refine Qc ?_
 | with_reducible refine Md ?_|with_reducible refine Mj ?_|with_reducible refine P9 ?_|with_reducible refine I9 ?_|with_reducible refine Mc ?_|with_reducible refine IV ?_|with_reducible refine Tg ?_
 | with_reducible refine a7 ?_|with_reducible refine aO ?_|with_reducible refine iE ?_|with_reducible refine nE ?_|with_reducible refine Ho ?_|with_reducible refine Mf ?_|with_reducible refine IW ?_
 | with_reducible refine Fg ?_|with_reducible refine IX ?_|with_reducible refine Mb ?_|with_reducible refine WO ?_|with_reducible refine WR ?_|with_reducible refine QT ?_|with_reducible refine WQ ?_
 | ((with_reducible refine P8 ?hc ?_);case' hc=>walk_at "side")
 | ((with_reducible refine' fN ?hp ?hi ?_);(case' hp=>walk_at "seq");(case' hi=>exact rfl))
 | ((with_reducible refine' aT ?hp ?hi ?_);(case' hp=>walk_at "seq");(case' hi=>exact rfl))
 | ((with_reducible refine' kK ?hp ?hi ?_);(case' hp=>walk_at "seq");(case' hi=>exact rfl))
 | ((with_reducible refine And.intro ?hl ?_);case' hl=>(first|exact Oz|exact VH))
 | with_reducible refine Qb ?_|with_reducible refine Mi ?_|with_reducible refine Cp ?_|with_reducible refine Tf ?_|with_reducible refine Qa ?_|with_reducible refine Fd ?_|with_reducible refine OC ?_|with_reducible refine Cu ?_|with_reducible refine Th ?_|with_reducible refine IZ ?_|with_reducible refine OD ?_
 | dsimp only)
local macro_rules | `(tactic| walk_at "")=>`(tactic| repeat walk_at "q")
local macro_rules | `(tactic| walk_at "blk_vis")=>`(tactic| first|exact Or.inl rfl|exact Or.inr (Or.inl rfl) | exact Or.inr (Or.inr rfl))
local macro_rules | `(tactic| walk_at "blk_ok")=>`(tactic| exact ⟨rfl,by decide +kernel,by decide +kernel,rfl,by (first|exact trivial|exact ⟨rfl,trivial⟩|exact ⟨rfl,rfl,trivial⟩|exact ⟨rfl,rfl,rfl,trivial⟩|exact ⟨rfl,rfl,rfl,rfl,trivial⟩|exact ⟨rfl,rfl,rfl,rfl,rfl,trivial⟩),rfl,
 by (first|exact bR|exact aS ⟨rfl,by walk_at "blk_vis",rfl,rfl⟩ bR|exact aS ⟨rfl,by walk_at "blk_vis",rfl,rfl⟩ (aS ⟨rfl,by walk_at "blk_vis",rfl,rfl⟩ bR) | exact aS ⟨rfl,by walk_at "blk_vis",rfl,rfl⟩ (aS ⟨rfl,by walk_at "blk_vis",rfl,rfl⟩ (aS ⟨rfl,by walk_at "blk_vis",rfl,rfl⟩ bR)) | exact aS ⟨rfl,by walk_at "blk_vis",rfl,rfl⟩ (aS ⟨rfl,by walk_at "blk_vis",rfl,rfl⟩ (aS ⟨rfl,by walk_at "blk_vis",rfl,rfl⟩ (aS ⟨rfl,by walk_at "blk_vis",rfl,rfl⟩ bR)))),
 by (first|exact aS rfl (aS rfl (aS rfl (aS rfl bR))) | exact bR|exact aS rfl bR|exact aS rfl (aS rfl bR) | exact aS rfl (aS rfl (aS rfl bR)))⟩)
local macro_rules | `(tactic| walk_at "blk_ok1")=>`(tactic| exact ⟨rfl,λ_=>rfl,λ_=>rfl,by decide +kernel,rfl,by (first|exact trivial|exact ⟨rfl,trivial⟩|exact ⟨rfl,rfl,trivial⟩|exact ⟨rfl,rfl,rfl,trivial⟩|exact ⟨rfl,rfl,rfl,rfl,trivial⟩),rfl,
 by (first|exact bR|exact aS ⟨rfl,by walk_at "blk_vis",⟨rfl,rfl⟩,rfl⟩ bR|exact aS ⟨rfl,by walk_at "blk_vis",⟨rfl,rfl⟩,rfl⟩ (aS ⟨rfl,by walk_at "blk_vis",⟨rfl,rfl⟩,rfl⟩ bR) | exact aS ⟨rfl,by walk_at "blk_vis",⟨rfl,rfl⟩,rfl⟩ (aS ⟨rfl,by walk_at "blk_vis",⟨rfl,rfl⟩,rfl⟩ (aS ⟨rfl,by walk_at "blk_vis",⟨rfl,rfl⟩,rfl⟩ bR))),
 by (first|exact bR|exact aS rfl bR|exact aS rfl (aS rfl bR) | exact aS rfl (aS rfl (aS rfl bR)))⟩)
local macro_rules | `(tactic| walk_at "side")=>`(tactic| first|assumption|exact (show (0:Int)<_ by decide) | exact tR (by decide) (by decide) | exact Pg (by decide) (by decide) | exact mulL (by decide) (by decide))
local macro_rules | `(tactic| walk_at "lam_ok")=>`(tactic| exact ⟨rfl,rfl,rfl,λ_=>rfl,λ_=>rfl,rfl,rfl,by (first|exact trivial|exact ⟨rfl,trivial⟩),rfl,by (first|exact bR|exact aS ⟨rfl,by walk_at "blk_vis",⟨rfl,rfl⟩,rfl⟩ bR),by (first|exact bR|exact aS rfl bR)⟩)
local macro_rules | `(tactic| walk_at "L")=>`(tactic| first|exact Or.inl rfl|exact Or.inr rfl)
local macro_rules | `(tactic| walk_at "seq")=>`(tactic| first|assumption|exact SqT.of (by assumption) | exact aH.of (by assumption))
theorem mE:aI ["first", "second", "third", "across", "up", "bottom"] ["first", "second", "third"] (aC wO):=by walk_at "n"
theorem FE (D:Def K mg "turn" wO ["first", "second", "third"]) (T:Txt K mg Z):bK P w K mg base (br P w) "turn" 1 ["first", "second", "third"] rT:=by
 refine D.c6 mE (λvs H Q E h=>?_) (λf cz A o s H vs Q E hr h=>?_)
 ·obtain ⟨a,b,c,p,q,r,rfl,_⟩:=h;rfl
 ·obtain ⟨a,b,c,⟨p0,p1,p2⟩,⟨q0,q1,q2⟩,⟨r0,r1,r2⟩,rfl,ha,hb,hc,zp,zq,zr,qq⟩:=h;obtain ⟨Lz,Ly,Lx⟩:=zp;obtain ⟨G2,G1,G0⟩:=zq;obtain ⟨Lu,Ls,Lr⟩:=zr;dsimp only at Lz Ly Lx G2 G1 G0 Lu Ls Lr;have la:aH K H a [.int p0,.int p1,.int p2]:=aH.of ha;have lb:aH K H b [.int q0,.int q1,.int q2]:=aH.of hb;have lc:aH K H c [.int r0,.int r1,.int r2]:=aH.of hc;have d:∀ {x y u v:Int},Sz 3000 x->Sz 3000 y->Sz 3000 u->Sz 3000 v->Sz 6001 (x*y-u*v):=λh1 h2 h3 h4=>Sz.sub (Sz.mul h1 h2) (Sz.mul h3 h4);have m1:=Sz.cO G1 Lr;have m2:=Sz.cO G0 Ls;have m3:=Sz.cO G0 Lu;have m4:=Sz.cO G2 Lr;have m5:=Sz.cO G2 Ls;have m6:=Sz.cO G1 Lu
  have m7:=Sz.cO Lz (d G1 Lr G0 Ls);have m8:=Sz.cO Ly (d G0 Lu G2 Lr);have m9:=Sz.cO Lx (d G2 Ls G1 Lu)
  refine ⟨_,(ah (aF (i:=3) mE.nd rfl (by walk_at "L") (av bO (av aR (aB au (pv 1) af (λ_ _=>rfl)) (aB au (pv 2) af (λ_ _=>rfl))) (av aR (aB au (pv 1) af (λ_ _=>rfl)) (aB au (pv 2) af (λ_ _=>rfl)))))
   (ah (aF (i:=4) mE.nd rfl (by walk_at "L") (av bO (av aR (aB au (pv 1) af (λ_ _=>rfl)) (aB au (pv 2) af (λ_ _=>rfl))) (av aR (aB au (pv 1) af (λ_ _=>rfl)) (aB au (pv 2) af (λ_ _=>rfl)))))
   (ah (aF (i:=5) mE.nd rfl (by walk_at "L") (av bO (av aR (aB au (pv 1) af (λ_ _=>rfl)) (aB au (pv 2) af (λ_ _=>rfl))) (av aR (aB au (pv 1) af (λ_ _=>rfl)) (aB au (pv 2) af (λ_ _=>rfl)))))
   (ar (aK (av cx (av cx (av aR (aB au (pv 0) af (λ_ _=>rfl)) (pv 3)) (av aR (aB au (pv 0) af (λ_ _=>rfl)) (pv 4))) (av aR (aB au (pv 0) af (λ_ _=>rfl)) (pv 5)))))))),?_⟩
  dsimp only [cE];walk_at "";exact qq
theorem EY:aI ["plane", "point"] ["plane", "point"] (aC wQ):=by walk_at "n"
theorem FG (D:Def K mg "side" wQ ["plane", "point"]) (T:Txt K mg Z):bK P w K mg base (br P w) "side" 1 ["plane", "point"] mD:=by
 refine D.c6 EY (λvs H Q E h=>?_) (λf cz A o s H vs Q E hr h=>?_)
 ·obtain ⟨a,b,p,q,rfl,_⟩:=h;rfl
 ·obtain ⟨a,b,⟨p0,p1,p2,p3⟩,⟨q0,q1,q2,q3⟩,rfl,ha,hb,zp,zq,qq⟩:=h;obtain ⟨Lz,Ly,Lx,SK⟩:=zp;obtain ⟨G2,G1,G0,SJ⟩:=zq;dsimp only at Lz Ly Lx SK G2 G1 G0 SJ;have la:aH K H a [.int p0,.int p1,.int p2,.int p3]:=aH.of ha;have lb:aH K H b [.int q0,.int q1,.int q2,.int q3]:=aH.of hb;have m1:=Sz.cO Lz G2;have m2:=Sz.cO Ly G1;have m3:=Sz.cO Lx G0;have m4:=Sz.cO SK SJ
  refine ⟨_,(ar (aK (av cx (av cx (av cx (av aR (aB au (pv 0) af (λ_ _=>rfl)) (aB au (pv 1) af (λ_ _=>rfl))) (av aR (aB au (pv 0) af (λ_ _=>rfl)) (aB au (pv 1) af (λ_ _=>rfl)))) (av aR (aB au (pv 0) af (λ_ _=>rfl)) (aB au (pv 1) af (λ_ _=>rfl)))) (av aR (aB au (pv 0) af (λ_ _=>rfl)) (aB au (pv 1) af (λ_ _=>rfl)))))),?_⟩;dsimp only [cE];walk_at "";exact qq
theorem EZ:aI ["point", "view"] ["point", "view"] (aC wR):=by walk_at "n"
theorem FI (D:Def K mg "seen" wR ["point", "view"]) (T:Txt K mg Z):bK P w K mg base (br P w) "seen" 1 ["point", "view"] (rV K):=by
 refine D.c6 EZ (λvs H Q E h=>?_) (λf cz A o s H vs Q E hr h=>?_)
 ·obtain ⟨a,b,p,i,j,k,rfl,_⟩:=h;rfl
 ·obtain ⟨a,b,p,i,j,k,rfl,pa,tb,hi,hj,hk,q⟩:=h;refine ⟨_,(ar (aK (bH (tg:=["k"]) (fr:=[("point",0)]) (by walk_at "blk_ok") rfl (kM (pv 1)) (λ_ _ _ _ _=>(aE (i:=0) (show [("k":Str),("point":Str)].Nodup by decide +kernel) rfl (by walk_at "L"))) (λ_ _ _ _ _=>a9) (λ_ _ _ _ _=>(aB (sU (K:=K) rfl) (pv 1) (pv 0) (λ_ _=>rfl)))))),?_⟩;dsimp only [cE];walk_at "";refine bQ ?_;refine ⟨_,rfl,b,rfl,⟨_,tb⟩,λacc aY=>?_⟩;refine j9 (K:=K) (a:=b) (xs:=[.int (i:Int),.int (j:Int),.int (k:Int)]) (λm σ' ys H1=>∃ v:Option V,σ'=[v,some (.ref a)]/\ys=((vw p i j k).take m).map V.int/\ao H H1/\H1 acc=some (.lst ys))
   ⟨none,rfl,rfl,ao.upd aY,ae⟩ (by rintro m σ' ys H1 _ ⟨_,_,_,e,_⟩;exact e.tupK tb) ?_ ?_
  ·rintro m x σ' ys H1 hx hm ⟨v,rfl,rfl,e1,a1⟩;have p1:=pa.same e1;have at_:∀ n:Nat,n<4->ja ((l4 p).map V.int) (n:Int)=some (.int ((l4 p).getD n 0)):=λn hn=>by
    match n,hn with
    | 0,_=>rfl
    | 1,_=>rfl
    | 2,_=>rfl
    | 3,_=>rfl
   match m,hm with
   | 0,_=>
    cases hx
    walk_at "";refine Cr p1 (at_ i hi) ?_;exact ⟨a1,aD (show 0<=1000 by decide),bW (show 0<3 by decide) ⟨_,rfl,rfl,ao.fresh e1 aY,ae⟩⟩
   | 1,_=>
    cases hx
    walk_at "";refine Cr p1 (at_ j hj) ?_;exact ⟨a1,aD (show 1<=1000 by decide),bW (show 1<3 by decide) ⟨_,rfl,rfl,ao.fresh e1 aY,ae⟩⟩
   | 2,_=>
    cases hx
    walk_at "";refine Cr p1 (at_ k hk) ?_;exact ⟨a1,aD (show 2<=1000 by decide),bW (show 2<3 by decide) ⟨_,rfl,rfl,ao.fresh e1 aY,ae⟩⟩
  ·rintro σ' ys H1 ⟨v,rfl,rfl,e1,a1⟩;walk_at "";exact q acc H1 e1 aY a1
theorem kH:aI ["first", "second", "third"] ["first", "second", "third"] (aC eI):=by walk_at "n"
theorem kP (D:Def K mg "plane_through" eI ["first", "second", "third"]) (T:Txt K mg Z) (xD:bK P w K mg base (br P w) "turn" 1 ["first", "second", "third"] rT) (oG:bK P w K mg base (br P w) "seen" 1 ["point", "view"] (rV K)):bK P w K mg base (br P w) "plane_through" 2 ["first", "second", "third"] (yf K):=by
 refine D.c6 kH (λvs H Q E h=>?_) (λf cz A o s H vs Q E hr h=>?_)
 ·obtain ⟨a,b,c,p,q,r,rfl,_⟩:=h;rfl
 ·obtain ⟨a,b,c,p,q,r,rfl,pa,pb,pc,zp,zq,zr,qq⟩:=h;obtain ⟨b0,b1,b2,b3,tv,t0,t1,t2,t3⟩:=(uv T.vw).ex;refine ⟨_,(ar (aK (bH (tg:=["view"]) (fr:=[("first",0),("second",1),("third",2)]) (by walk_at "blk_ok") rfl (kM (fP (v:=.ref Z.rN) rfl T.zI rfl)) (λ_ _ _ _ _=>(aE (i:=0) (show [("view":Str),("first":Str),("second":Str),("third":Str)].Nodup by decide +kernel) rfl (by walk_at "L"))) (λ_ _ _ _ _=>a9) (λ_ _ _ _ _=>(aA xD hr aQ (aa (aA oG hr aQ (aa (pv 1) (aa (pv 0) ag))) (aa (aA oG hr aQ (aa (pv 2) (aa (pv 0) ag))) (aa (aA oG hr aQ (aa (pv 3) (aa (pv 0) ag))) ag)))))))),?_⟩;dsimp only [cE];walk_at "";refine bQ ?_;refine ⟨Z.rN,rfl,⟨_,tv _⟩,λacc aY=>?_⟩;refine j9 (K:=K) (a:=Z.rN) (xs:=[.ref b0,.ref b1,.ref b2,.ref b3]) (λm σ' ys H1=>∃ v:Option V,σ'=[v,some (.ref a),some (.ref b),some (.ref c)]/\ys=((l4 (aL p q r)).take m).map V.int/\ao H H1/\H1 acc=some (.lst ys))
   ⟨none,rfl,rfl,ao.upd aY,ae⟩ (λm σ' ys H1 _ _=>tv H1) ?_ ?_
  ·rintro m x σ' ys H1 hx hm ⟨v,rfl,rfl,e1,a1⟩;have view:∃ (bv:Addr) (i j k:Nat),x=.ref bv/\i<4/\j<4/\k<4/\(∀ H',SqT K H' bv [.int (i:Int),.int (j:Int),.int (k:Int)])/\
     (l4 (aL p q r))[m]?=some (tn ⟨(l4 p).getD i 0,(l4 p).getD j 0,(l4 p).getD k 0⟩ ⟨(l4 q).getD i 0,(l4 q).getD j 0,(l4 q).getD k 0⟩ ⟨(l4 r).getD i 0,(l4 r).getD j 0,(l4 r).getD k 0⟩):=by
    match m,hm with
    | 0,_=>cases hx;exact ⟨b0,1,2,3,rfl,by decide,by decide,by decide,t0,rfl⟩
    | 1,_=>cases hx;exact ⟨b1,2,0,3,rfl,by decide,by decide,by decide,t1,rfl⟩
    | 2,_=>cases hx;exact ⟨b2,0,1,3,rfl,by decide,by decide,by decide,t2,rfl⟩
    | 3,_=>cases hx;exact ⟨b3,1,0,2,rfl,by decide,by decide,by decide,t3,rfl⟩
   obtain ⟨bv,i,j,k,rfl,hi,hj,hk,tb,em⟩:=view;have s3:∀ {y:V4},S4 3000 y->S3 3000 ⟨(l4 y).getD i 0,(l4 y).getD j 0,(l4 y).getD k 0⟩:=λ{y} hy=>by
    have each:∀ n:Nat,n<4->Sz 3000 ((l4 y).getD n 0):=λn hn=>by
     match n,hn with
     | 0,_=>exact hy.1
     | 1,_=>exact hy.2.1
     | 2,_=>exact hy.2.2.1
     | 3,_=>exact hy.2.2.2
    exact ⟨each i hi,each j hj,each k hk⟩
   have m4:m<4:=hm;walk_at "";refine ⟨a,bv,p,i,j,k,rfl,pa.same e1,tb _,hi,hj,hk,λu1 H2 e2 _ h1=>?_⟩;walk_at "";refine ⟨b,bv,q,i,j,k,rfl,pb.same (e1.trans e2),tb _,hi,hj,hk,λu2 H3 e3 _ h2=>?_⟩;walk_at "";refine ⟨c,bv,r,i,j,k,rfl,pc.same ((e1.trans e2).trans e3),tb _,hi,hj,hk,λu3 H4 e4 _ h3=>?_⟩;walk_at "";refine ⟨u1,u2,u3,⟨(l4 p).getD i 0,(l4 p).getD j 0,(l4 p).getD k 0⟩,⟨(l4 q).getD i 0,(l4 q).getD j 0,(l4 q).getD k 0⟩,⟨(l4 r).getD i 0,(l4 r).getD j 0,(l4 r).getD k 0⟩,rfl,e4 _ _ (e3 _ _ h1),e4 _ _ h2,h3,s3 zp,s3 zq,s3 zr,?_⟩;have a4:=e4 _ _ (e3 _ _ (e2 _ _ a1));refine ⟨a4,by rw [ZK,Z9];exact aD (by omega),bW hm ⟨_,rfl,?_,ao.fresh (((e1.trans e2).trans e3).trans e4) aY,ae⟩⟩;rw [take_snoc em,Z6]
   rfl
  ·rintro σ' ys H1 ⟨v,rfl,rfl,e1,a1⟩;walk_at "";exact qq acc H1 e1 aY a1
theorem jL:aI ["plane", "one", "other", "points", "found", "point"] ["plane", "one", "other", "points"] (aC r6):=by walk_at "n"
theorem CS (D:Def K mg "swung" r6 ["plane", "one", "other", "points"]) (T:Txt K mg Z) (l5:bK P w K mg base (br P w) "plane_through" 2 ["first", "second", "third"] (yf K)) (oF:bK P w K mg base (br P w) "side" 1 ["plane", "point"] mD):bK P w K mg base (br P w) "swung" 3 ["plane", "one", "other", "points"] (mY K):=by
 refine D.c6 jL (λvs H Q E h=>?_) (λf0 cz A o s H vs Q E hr h=>?_)
 ·obtain ⟨a,b,c,p,as,L,pl,e,f,rfl,_⟩:=h;rfl
 ·obtain ⟨a,b,c,p,as,L,pl,e,f,rfl,ha,pb,pc,g,r4,hn,zl,ze,zf,q⟩:=h;refine ⟨_,(ah (gQ (i:=4) jL.nd rfl (by walk_at "L") (tg:=["number"]) (fr:=[]) (by walk_at "blk_ok") rfl (bq (pv 0)) (λ_ _ _ _ _=>(aE (i:=0) (show [("number":Str)].Nodup by decide +kernel) rfl (by walk_at "L"))) (λ_ _ _ _ _=>a9) (λ_ _ _ _ _=>(Hw BN (pv 0))))
   (ah (bN zai rfl (bq (pv 3)) (aE (i:=5) jL.nd rfl (by walk_at "L"))
   (ar (bU (aM qU (aA oF hr aQ (aa (pv 4) (aa (pv 5) ag))) af (aN _)) (ar (aF (i:=4) jL.nd rfl (by walk_at "L") (aA l5 hr aQ (aa (pv 1) (aa (pv 2) (aa (pv 5) ag)))))) aX)))
   (ar (aK (pv 4))))),?_⟩
  dsimp only [cE];walk_at "";refine bQ ?_;refine ⟨_,rfl,a,rfl,⟨_,aH.of ha⟩,λacc aY=>?_⟩;refine bT (K:=K) (a:=a) (xs:=(l4 pl).map V.int) (λm σ' ys H1=>∃ v:Option V,σ'=[v]/\ys=((l4 (neg pl)).take m).map V.int/\ao H H1/\H1 acc=some (.lst ys))
   ⟨none,rfl,rfl,ao.upd aY,ae⟩ (by rintro m σ' ys H1 _ ⟨_,_,_,e,_⟩;exact aH.of (e _ _ ha)) ?_ ?_
  ·rintro m x σ' ys H1 hx hm ⟨v,rfl,rfl,e1,a1⟩;have m4:m<4:=hm;have view:∃ n:Int,x=.int n/\(l4 (neg pl))[m]?=some (-n):=by
    match m,m4 with
    | 0,_=>cases hx;exact ⟨pl.x,rfl,rfl⟩
    | 1,_=>cases hx;exact ⟨pl.y,rfl,rfl⟩
    | 2,_=>cases hx;exact ⟨pl.z,rfl,rfl⟩
    | 3,_=>cases hx;exact ⟨pl.w,rfl,rfl⟩
   obtain ⟨n,rfl,em⟩:=view;walk_at "";refine ⟨a1,by rw [ZK,Z9];exact aD (by omega),bW hm ⟨_,rfl,?_,ao.fresh e1 aY,ae⟩⟩;rw [take_snoc em,Z6]
   rfl
  rintro σ' ys H1 ⟨v,rfl,rfl,e1,a1⟩;walk_at "";refine cH ?_;refine ⟨_,rfl,p,rfl,⟨_,aH.of (e1 _ _ g.top)⟩,dJ (K:=K) (a:=p) (xs:=as.map V.ref) (λi σ H2=>∃ (t:Addr) (v5:Option V),σ=[some (.ref a),some (.ref b),some (.ref c),some (.ref p),some (.ref t),v5]/\ao H H2/\H t=none/\H2 t=some (.lst ((l4 (wy (cl L) pl e f i)).map V.int)))
   ⟨acc,none,rfl,e1,aY,a1⟩ (by rintro i σ H2 _ ⟨_,_,_,e,_⟩;exact aH.of (e _ _ g.top)) ?_ ?_⟩
  ·rintro i x σ H2 hx ⟨t,v5,rfl,e2,ft,t2⟩;rw [ZS] at hx;obtain ⟨bi,hb,rfl⟩:∃ c,as[i]?=some c/\x=V.ref c:=by
    cases e:as[i]? with
    | none=>rw [e] at hx;cases hx
    | some c=>rw [e] at hx;exact ⟨c,rfl,(ZO hx).symm⟩
   have hi:i<L.length:=by rw [<-g.len];exact (ZL.mp hb).1
   obtain ⟨b2,l,HN,hl,pV⟩:=g.at hi;rw [hb] at HN;cases HN
   obtain ⟨el,zc⟩:=r4.at hi;rw [hl] at el;cases el
   have HG:=e2 _ _ pV;have zs:=mV (c:=cl L) (n:=L.length) (z:=3000) (e:=e) (f:=f) zl ze zf (λj hj=>(r4.at hj).2) i (by omega);walk_at "";refine ⟨t,bi,_,_,rfl,t2,HG,zs,zc,?_⟩;walk_at "";refine if2 (λpos=>?_) (λQy=>?_)
   ·walk_at "";refine ⟨b,c,bi,e,f,cl L i,rfl,pb.same e2,pc.same e2,.inl (aH.of HG),ze,zf,zc,λt3 H3 e3 f3 h3=>?_⟩;walk_at "";refine ⟨t3,_,rfl,e2.trans e3,e2.free f3,?_⟩;rw [show wy (cl L) pl e f (i+1)=aL e f (cl L i) from ZW pos];exact h3
   ·walk_at "";refine ⟨t,_,rfl,e2,ft,?_⟩;rw [show wy (cl L) pl e f (i+1)=wy (cl L) pl e f i from ZU Qy];exact t2
  ·rintro σ H2 ⟨t,v5,rfl,e2,ft,t2⟩;rw [ZK,g.len] at t2;walk_at "";exact q t H2 e2 ft t2
theorem cq:aI ["plane", "points", "axis", "view", "spots", "number", "point"] ["plane", "points"] (aC iz):=by walk_at "n"
theorem sJ (D:Def K mg "seen_flat" iz ["plane", "points"]) (T:Txt K mg Z) (oG:bK P w K mg base (br P w) "seen" 1 ["point", "view"] (rV K)) (oF:bK P w K mg base (br P w) "side" 1 ["plane", "point"] mD):bK P w K mg base (br P w) "seen_flat" 2 ["plane", "points"] (rY K):=by
 refine D.c6 cq (λvs H Q E h=>?_) (λf0 cz A o s H vs Q E hr h=>?_)
 ·obtain ⟨a,p,as,L,pl,rfl,_⟩:=h;rfl
 ·obtain ⟨a,p,as,L,pl,rfl,ha,g,r4,hn,zl,nz,q⟩:=h;obtain ⟨b0,b1,b2,b3,tv,t0,t1,t2,t3⟩:=(uv T.vw).ex;refine ⟨_,(ah (aF (i:=2) cq.nd rfl (by walk_at "L") (aB au (bH (tg:=["k"]) (fr:=[("plane",0)]) (by walk_at "blk_ok") rfl (bg rfl T.range (aa af ag)) (λ_ _ _ _ _=>(aE (i:=0) (show [("k":Str),("plane":Str)].Nodup by decide +kernel) rfl (by walk_at "L"))) (λ_ _ _ _ _=>(gw (aM u9 (aB (fG (K:=K) rfl) (pv 1) (pv 0) (λ_ _=>rfl)) af (aN _)))) (λ_ _ _ _ _=>(pv 0))) af (λ_ _=>rfl)))
   (ah (aF (i:=3) cq.nd rfl (by walk_at "L") (aB c5 (fP (v:=.ref Z.rN) rfl T.zI rfl) (pv 2) (λ_ _=>rfl)))
   (ah (bU (aM lH (aB au (pv 0) (pv 2) (λ_ _=>rfl)) af (aN _)) (ar (aF (i:=3) cq.nd rfl (by walk_at "L") (dq (aa (aB c5 (pv 3) af (λ_ _=>rfl)) (aa (aB c5 (pv 3) af (λ_ _=>rfl)) (aa (aB c5 (pv 3) af (λ_ _=>rfl)) ag)))))) aX)
   (ah (aF (i:=4) cq.nd rfl (by walk_at "L") CM)
   (ah (bN zai rfl (yF T.enumerate (aa (pv 1) ag)) (kN (n:=2) rfl (bI (aE (i:=5) cq.nd rfl (by walk_at "L")) (bI (aE (i:=6) cq.nd rfl (by walk_at "L")) fO)))
   (ar (bU (aM eQ (aA oF hr aQ (aa (pv 0) (aa (pv 6) ag))) af (aN _)) (ar (Fv (vy hr) (pv 4) (pv 5) (aA oG hr aQ (aa (pv 6) (aa (pv 3) ag))) rfl)) aX)))
   (ar (aK (pv 4)))))))),?_⟩
  dsimp only [cE];walk_at "";refine bQ ?_;refine ⟨_,rfl,by decide,by decide,λacc aY=>?_⟩;refine fI (lo:=0) (n:=3) (λm σ' ys H1=>∃ v:Option V,σ'=[v,some (.ref a)]/\ys=((([0,1,2]:List Nat).take m).filter λk=>decide ((l4 pl).getD k 0≠0)).map (λk:Nat=>V.int (k:Int))/\ao H H1/\H1 acc=some (.lst ys))
   ⟨none,rfl,rfl,ao.upd aY,ae⟩ ?_ ?_
  ·rintro m σ' ys H1 hm ⟨v,rfl,rfl,e1,a1⟩;have h1:=e1 _ _ ha;have at_:ja ((l4 pl).map V.int) (0+(m:Int))=some (.int ((l4 pl).getD m 0)):=by
    match m,hm with
    | 0,_=>rfl
    | 1,_=>rfl
    | 2,_=>rfl
   have tk:(([0,1,2]:List Nat).take (m+1))=([0,1,2]:List Nat).take m++[m]:=by
    match m,hm with
    | 0,_=>rfl
    | 1,_=>rfl
    | 2,_=>rfl
   walk_at "";refine aT (aH.of h1) at_ ?_;walk_at "";refine vx (λz=>?_) (λz=>?_)
   ·walk_at "";refine ⟨a1,by rw [ZK];exact aD (zag (zcX _ _) (by rw [Z9];omega)),bW hm ⟨_,rfl,?_,ao.fresh e1 aY,ae⟩⟩;rw [tk,zdd,Z6,zdl (by exact zad z)];simp
   ·refine bW hm ⟨_,rfl,?_,e1,?_⟩
    ·rw [tk,zdd,zdm (by simpa using z)];simp
    ·exact a1
  rintro σ' ys H1 ⟨v,rfl,rfl,e1,a1⟩;obtain ⟨ax,Sn,nx,rest,el,sel⟩:∃ ax:Nat,ax<3/\(l4 pl).getD ax 0≠0/\∃ rest,((([0,1,2]:List Nat).take 3).filter λk=>decide ((l4 pl).getD k 0≠0))=ax::rest/\∀ x:V4,l3 (sp pl x)=if (l4 pl).getD ax 0<0 then vw x ((([[1,2],[2,0],[0,1]]:List (List Nat)).getD ax []).getD 1 0) ((([[1,2],[2,0],[0,1]]:List (List Nat)).getD ax []).getD 0 0) 3 else vw x ((([[1,2],[2,0],[0,1]]:List (List Nat)).getD ax []).getD 0 0) ((([[1,2],[2,0],[0,1]]:List (List Nat)).getD ax []).getD 1 0) 3:=by
   show ∃ ax:Nat,ax<3/\(l4 pl).getD ax 0≠0/\∃ rest,(([0,1,2]:List Nat).filter λk=>decide ((l4 pl).getD k 0≠0))=ax::rest/\_;by_cases x0:pl.x=0
   ·by_cases y0:pl.y=0
    ·have z0:pl.z≠0:=by rcases nz with h|h|h;exact absurd x0 h;exact absurd y0 h;exact h
     refine ⟨2,by decide,z0,[],?_,λx=>?_⟩
     ·rw [zdm (by simpa [l4] using x0),zdm (by simpa [l4] using y0),zdl (by simpa [l4] using z0)];rfl
     ·show _=if pl.z<0 then _ else _
      by_cases n:pl.z<0
      ·rw [ZW n,BZ x0 y0 n];rfl
      ·rw [ZU n,uE x0 y0 (by omega)];rfl
    ·refine ⟨1,by decide,y0,([2]:List Nat).filter (λk=>decide ((l4 pl).getD k 0≠0)),?_,λx=>?_⟩
     ·rw [zdm (by simpa [l4] using x0),zdl (by simpa [l4] using y0)]
     ·show _=if pl.y<0 then _ else _
      by_cases n:pl.y<0
      ·rw [ZW n,B0 x0 n];rfl
      ·rw [ZU n,uF x0 (by omega)];rfl
   ·refine ⟨0,by decide,x0,([1,2]:List Nat).filter (λk=>decide ((l4 pl).getD k 0≠0)),?_,λx=>?_⟩
    ·rw [zdl (by simpa [l4] using x0)]
    ·show _=if pl.x<0 then _ else _
     by_cases n:pl.x<0
     ·rw [ZW n,B1 n];rfl
     ·rw [ZU n,uG (by omega)];rfl
  rw [el,zaX] at a1;walk_at "";refine aT (aH.of a1) (show ja _ ((0:Nat):Int)=some (V.int (ax:Int)) from eA (by rfl)) ?_;walk_at "";obtain ⟨bv,XM,PJ⟩:∃ bv,ja [V.ref b0,.ref b1,.ref b2,.ref b3] (ax:Int)=some (.ref bv)/\∀ H',SqT K H' bv [.int ((([[1,2],[2,0],[0,1]]:List (List Nat)).getD ax []).getD 0 0:Nat),.int ((([[1,2],[2,0],[0,1]]:List (List Nat)).getD ax []).getD 1 0:Nat),.int ((3:Nat):Int)]:=by
   match ax,Sn with
   | 0,_=>exact ⟨b0,rfl,t0⟩
   | 1,_=>exact ⟨b1,rfl,t1⟩
   | 2,_=>exact ⟨b2,rfl,t2⟩
  have sm:(([[1,2],[2,0],[0,1]]:List (List Nat)).getD ax []).getD 0 0<4/\(([[1,2],[2,0],[0,1]]:List (List Nat)).getD ax []).getD 1 0<4:=by
   match ax,Sn with
   | 0,_=>exact ⟨by decide,by decide⟩
   | 1,_=>exact ⟨by decide,by decide⟩
   | 2,_=>exact ⟨by decide,by decide⟩
  generalize (([[1,2],[2,0],[0,1]]:List (List Nat)).getD ax []).getD 0 0=vi at sel PJ sm;generalize (([[1,2],[2,0],[0,1]]:List (List Nat)).getD ax []).getD 1 0=vj at sel PJ sm;have YL:ja ((l4 pl).map V.int) (ax:Int)=some (.int ((l4 pl).getD ax 0)):=by
   match ax,Sn with
   | 0,_=>rfl
   | 1,_=>rfl
   | 2,_=>rfl
  refine fN (tv _) XM ?_;refine UF ?_;refine iD (λσ H2=>∃ (bw:Addr) (i j:Nat),σ=[some (.ref a),some (.ref p),some (.int (ax:Int)),some (.ref bw),none,none,none]/\ao H H2/\SqT K H2 bw [.int (i:Int),.int (j:Int),.int ((3:Nat):Int)]/\i<4/\j<4/\∀ x:V4,l3 (sp pl x)=vw x i j 3) ?_ (λN hN=>?_)
  rotate_left
  ·walk_at "";refine aT (aH.of (e1 _ _ ha)) YL ?_;walk_at "";have pG:=PJ H1;refine if2 (λneg=>?_) (λQC=>?_)
   ·walk_at "";intro tp vz;exact hN _ _ ⟨tp,vj,vi,rfl,e1.trans (ao.upd vz),SqT.of ae,sm.2,sm.1,λx=>by rw [sel x,ZW neg]⟩
   ·walk_at "";exact hN _ _ ⟨bv,vi,vj,rfl,e1,pG,sm.1,sm.2,λx=>by rw [sel x,ZU QC]⟩
  rintro σ H2 ⟨bw,i,j,rfl,e2,tw,hi,hj,PV⟩;walk_at "";intro d hd;have e3:ao H2 (upd H2 d (.dK [])):=ao.upd hd;have d3:upd H2 d (.dK []) d=some (.dK (kA (jt (cl L) pl 0) λ_=>0)):=ae;have fd:=e2.free hd;generalize upd H2 d (.dK [])=H3 at e3 d3 ⊢;have Lk:=e2.trans e3;walk_at "";refine cH ?_;refine ⟨_,rfl,p,rfl,⟨_,aH.of (Lk _ _ g.top)⟩,DD (K:=K) (a:=p) (xs:=as.map V.ref) (λm σ H4=>∃ (α:Nat->Addr) (v5 v6:Option V),σ=[some (.ref a),some (.ref p),some (.int (ax:Int)),some (.ref bw),some (.ref d),v5,v6]/\ao H2 H4/\H4 d=some (.dK (kA (jt (cl L) pl m) α))/\∀ i∈jt (cl L) pl m,H4 (α i)=some (.lst ((l3 (sp pl (cl L i))).map V.int)))
   ⟨λ_=>0,none,none,rfl,e3,d3,λi hi=>by cases hi⟩ (by rintro m σ H4 _ ⟨_,_,_,_,e,_⟩;exact aH.of (e _ _ (e2 _ _ g.top))) ?_ ?_⟩
  ·rintro m x pr σ H4 hx ⟨α,v5,v6,rfl,e4,d4,al⟩ W9;rw [ZS] at hx;obtain ⟨bi,hb,rfl⟩:∃ c,as[m]?=some c/\x=V.ref c:=by
    cases e:as[m]? with
    | none=>rw [e] at hx;cases hx
    | some c=>rw [e] at hx;exact ⟨c,rfl,(ZO hx).symm⟩
   have hm:m<L.length:=by rw [<-g.len];exact (ZL.mp hb).1
   obtain ⟨b5,l,Nl,hl,pV⟩:=g.at hm;rw [hb] at Nl;cases Nl
   obtain ⟨NN,zc⟩:=r4.at hm;rw [hl] at NN;cases NN
   have e5:ao H4 (upd H4 pr (.tup [.int m,.ref bi])):=ao.upd W9;have p5:upd H4 pr (.tup [.int m,.ref bi]) pr=some (.tup [.int m,.ref bi]):=ae;generalize upd H4 pr (.tup [.int m,.ref bi])=H5 at e5 p5 ⊢;have Ku:=(e2.trans e4).trans e5;have HF:=Ku _ _ pV;walk_at "";refine ⟨a,bi,pl,cl L m,rfl,Ku _ _ ha,HF,zl,zc,?_⟩;walk_at "";refine if2 (λz=>?_) (λz=>?_)
   ·walk_at "";refine ⟨bi,bw,cl L m,i,j,3,rfl,.inl (aH.of HF),(e4.trans e5).tupK tw,hi,hj,by decide,λt H6 e6 ft h6=>?_⟩;walk_at "";have Er:m∉jt (cl L) pl m:=λq=>absurd (eX.mp q).1 (zam _);have d6:=e6 _ _ (e5 _ _ d4);refine ⟨d,_,rfl,Bu.k (k:=.inl (m:Int)) d6 (by rw [Dk];exact aD (zag (zcX _ _) (by rw [zaN];omega))),?_⟩;rw [JJ Er];have td:t≠d:=λq=>by rw [q,e5 _ _ d4] at ft;cases ft
    refine ⟨λk=>if k=m then t else α k,_,_,rfl,ao.fresh ((e4.trans e5).trans e6) hd,?_,λk hk=>?_⟩
    ·rw [ae,jR,ZW z]
    ·rw [jR,ZW z] at hk;dsimp only;rcases ZZ.mp hk with q|q
     ·have km:k≠m:=λw=>Er (w▸q);rw [ZU km,aq (λw=>by have y:=al k q;rw [w,d4] at y;cases y)];exact e6 _ _ (e5 _ _ (al k q))
     ·rw [ZT.mp q,ZW rfl,aq td,PV];exact h6
   ·walk_at "";refine ⟨α,_,_,rfl,e4.trans e5,?_,λk hk=>?_⟩
    ·rw [jR,ZU z,zbr];exact e5 _ _ d4
    ·rw [jR,ZU z,zbr] at hk;exact e5 _ _ (al k hk)
  ·rintro σ H4 ⟨α,v5,v6,rfl,e4,d4,al⟩;rw [ZK,g.len] at d4 al;walk_at "";exact q d α H4 (e2.trans e4) fd d4 ⟨.inl d4,al⟩
theorem jN:aI ["spots", "here", "found", "number", "turned"] ["spots", "here", "found", "number"] (aC iA):=by walk_at "n"
theorem sL (D:Def K mg "is_rather" iA ["spots", "here", "found", "number"]) (T:Txt K mg Z) (xD:bK P w K mg base (br P w) "turn" 1 ["first", "second", "third"] rT):bK P w K mg base (br P w) "is_rather" 2 ["spots", "here", "found", "number"] qK:=by
 refine D.c6 jN (λvs H Q E h=>?_) (λf0 cz A o s H vs Q E hr h=>?_)
 ·obtain ⟨d,α,c,n,pl,i,f,m,rfl,_⟩:=h;rfl
 ·obtain ⟨d,α,c,n,pl,i,f,m,rfl,II,z4,oi,Jr,om,q⟩:=h;have get:∀ k,k∈jt c pl n->pB H d (V.int (k:Int)) (some (V.ref (α k))):=λk hk=>.inl ⟨_,.inl (k:Int),II.1,rfl,by rw [Dj,ZW hk]⟩;have s3:∀ k,k∈jt c pl n->S3 3000 (sp pl (c k)):=λk hk=>by
   obtain ⟨a,b,d,e⟩:=z4 k (eX.mp hk).1;unfold sp;split
   ·split
    ·exact ⟨d,b,e⟩
    ·exact ⟨b,d,e⟩
   ·split
    ·split
     ·exact ⟨a,d,e⟩
     ·exact ⟨d,a,e⟩
    ·split
     ·exact ⟨b,a,e⟩
     ·exact ⟨a,b,e⟩
  refine ⟨_,(ah (aF (i:=4) jN.nd rfl (by walk_at "L") (aA xD hr aQ (aa (sD (vy hr) (pv 0) (pv 1) (λ_ _=>rfl)) (aa (sD (vy hr) (pv 0) (pv 2) (λ_ _=>rfl)) (aa (sD (vy hr) (pv 0) (pv 3) (λ_ _=>rfl)) ag)))))
   (ar (aK (Mu (eW lH (pv 4) af (aN _)) (sC (w4 (eW eQ (pv 4) af (aN _)) (sC (eW qU (aG gG (by rfl) T.abs lu (aa (av bO (pv 3) (pv 1)) ag)) (aG gG (by rfl) T.abs lu (aa (av bO (pv 2) (pv 1)) ag)) (aN _))))))))),?_⟩
  try dsimp only [cE]
  walk_at "";refine wU (UV rfl (UV rfl ⟨d,_,rfl,get i oi,?_⟩));walk_at "";refine wU (UV rfl (UV rfl ⟨d,_,rfl,get f Jr,?_⟩));walk_at "";refine wU (UV rfl (UV rfl ⟨d,_,rfl,get m om,?_⟩));walk_at "";refine ⟨α i,α f,α m,_,_,_,rfl,II.2 i oi,II.2 f Jr,II.2 m om,s3 i oi,s3 f Jr,s3 m om,?_⟩;walk_at "";have ab:∀ x:Int,(if x<0 then -x else x)=(x.natAbs:Int):=λx=>by split<;>omega
  unfold dU at q;rw [show cK.T pl (c i) (c f) (c m)=tn (sp pl (c i)) (sp pl (c f)) (sp pl (c m)) from rfl] at q;by_cases t1:tn (sp pl (c i)) (sp pl (c f)) (sp pl (c m))<0
  ·rw [zad t1] at q ⊢;rw [ZW rfl];exact q
  ·rw [zah t1] at q ⊢;rw [ZU (by decide)];rw [zdQ] at q;walk_at "";by_cases t2:tn (sp pl (c i)) (sp pl (c f)) (sp pl (c m))=0
   ·rw [zad t2] at q;rw [zad t2,ZW rfl];walk_at "";refine ⟨_,rfl,?_⟩;walk_at "";refine ⟨_,rfl,?_⟩;walk_at "";rw [ab,ab];rw [Bool.true_and] at q;rw [show decide ((((f:Int)-i).natAbs:Int)<(((m:Int)-i).natAbs:Int))=decide (((f:Int)-i).natAbs<((m:Int)-i).natAbs) by rw [zcB,zbk,zbk];omega];exact q
   ·rw [zah t2] at q;rw [zah t2,ZU (by decide)];exact q
theorem dC:aI ["spots", "here", "found", "number"] ["spots", "here"] (aC fY):=by walk_at "n"
theorem nK (D:Def K mg "next_corner" fY ["spots", "here"]) (T:Txt K mg Z) (vH:bK P w K mg base (br P w) "is_rather" 2 ["spots", "here", "found", "number"] qK):bK P w K mg base (br P w) "next_corner" 3 ["spots", "here"] rW:=by
 refine D.c6 dC (λvs H Q E h=>?_) (λf0 cz A o s H vs Q E hr h=>?_)
 ·obtain ⟨d,α,c,n,pl,i,rfl,_⟩:=h;rfl
 ·obtain ⟨d,α,c,n,pl,i,rfl,hd,II,z4,oi,q⟩:=h;refine ⟨_,(ah (aF (i:=2) dC.nd rfl (by walk_at "L") (pv 1))
   (ah (CF (bN zai rfl (Fy (pv 0)) (aE (i:=3) dC.nd rfl (by walk_at "L"))
   (ar (bU (dG (aA vH hr aQ (aa (pv 0) (aa (pv 1) (aa (pv 2) (aa (pv 3) ag)))))) (ar (aF (i:=2) dC.nd rfl (by walk_at "L") (pv 3))) aX))))
   (ar (aK (pv 2))))),?_⟩
  try dsimp only [cE]
  walk_at "";refine E9 ?_;refine cH ?_;refine Ff (UV rfl ⟨d,_,rfl,hd,λo=>?_⟩);have ad:∀ k∈jt c pl n,α k≠d:=λk hk z=>by have y:=II.2 k hk;rw [z,hd] at y;cases y
  have sf:oZ (upd H d (.iO o (.dK (kA (jt c pl n) α)))) d c n pl α:=⟨.inr ⟨o,ae⟩,λk hk=>by rw [aq (ad k hk)];exact II.2 k hk⟩;refine DE (d:=d) (o:=o) (kvs:=kA (jt c pl n) α) (λm σ H1=>∃ (f:Nat) (v:Option V),σ=[some (.ref d),some (.int (i:Int)),some (.int (f:Int)),v]/\H1=upd H d (.iO o (.dK (kA (jt c pl n) α)))/\f∈jt c pl n/\f=FK c pl i ((jt c pl n).take m) i)
   ⟨i,none,rfl,rfl,oi,rfl⟩ (by rintro m σ H1 _ ⟨_,_,_,e,_⟩;rw [e];exact ae) ?_ ?_
  ·rintro m k v σ H1 hk ⟨f,v3,rfl,rfl,Jr,ef⟩;unfold kA at hk;rw [ZS] at hk;obtain ⟨j,hj,e⟩:∃ j,(jt c pl n)[m]?=some j/\(k,v)=((Sum.inl (j:Int):Key),V.ref (α j)):=by
    cases e:(jt c pl n)[m]? with
    | none=>rw [e] at hk;cases hk
    | some j=>rw [e] at hk;exact ⟨j,rfl,(ZO hk).symm⟩
   cases e
   have oj:=ZX hj;have step:FK c pl i ((jt c pl n).take (m+1)) i=if dU c pl i f j then j else f:=by
    rw [take_snoc hj];unfold FK at ef ⊢;rw [foldl_append,<-ef]
    rfl
   walk_at "";refine ⟨d,α,c,n,pl,i,f,j,rfl,sf,z4,oi,Jr,oj,?_⟩;walk_at "";by_cases rt:dU c pl i f j=true
   ·rw [rt];walk_at "";exact ⟨j,_,rfl,rfl,oj,by rw [step,ZW rt]⟩
   ·rw [show dU c pl i f j=false by simpa using rt];walk_at "";exact ⟨f,_,rfl,rfl,Jr,by rw [step,ZU rt]⟩
  ·rintro σ H1 ⟨f,v,rfl,rfl,Jr,ef⟩;rw [Dk,zbn] at ef;refine ⟨d,o,_,ae,λo' u' z=>?_,?_⟩
   ·have z:H d=some (.iO o' u'):=z;rw [hd] at z;cases z
   ·walk_at "";rw [ef];refine q _ λb u hb=>?_;rw [rQ];by_cases z:b=d
    ·rw [z] at hb ⊢;rw [hd] at hb;cases hb;exact ae
    ·rw [aq z];exact hb
theorem fe:aI ["plane", "points", "first", "spots", "ring", "corner"] ["plane", "points", "first"] (aC kJ):=by walk_at "n"
theorem xb (D:Def K mg "ring_on" kJ ["plane", "points", "first"]) (T:Txt K mg Z) (iL:bK P w K mg base (br P w) "seen_flat" 2 ["plane", "points"] (rY K)) (et:bK P w K mg base (br P w) "next_corner" 3 ["spots", "here"] rW):bK P w K mg base (br P w) "ring_on" 4 ["plane", "points", "first"] qJ:=by
 refine D.c6 fe (λvs H Q E h=>?_) (λf0 cz A o s H vs Q E hr h=>?_)
 ·obtain ⟨a,p,as,L,pl,i,rfl,_⟩:=h;rfl
 ·obtain ⟨a,p,as,L,pl,i,rfl,ha,g,r4,hn,zl,C,F,oi,ci,q⟩:=h;have zc:∀ j,j<L.length->S4 3000 (cl L j):=λj hj=>(r4.at hj).2;obtain ⟨hi,si⟩:=eX.mp oi;refine ⟨_,(ah (aF (i:=3) fe.nd rfl (by walk_at "L") (aA iL hr aQ (aa (pv 0) (aa (pv 1) ag))))
   (ah (aF (i:=4) fe.nd rfl (by walk_at "L") (cu (aa (pv 2) ag)))
   (ah (aF (i:=5) fe.nd rfl (by walk_at "L") (aA et hr aQ (aa (pv 3) (aa (pv 2) ag))))
   (ah (jP zai (aM u9 (pv 5) (pv 2) (aN _)) (ah (dY (jg zaw zaV zaW cT (pv 4) (aa (pv 5) ag)))
   (ar (aF (i:=5) fe.nd rfl (by walk_at "L") (aA et hr aQ (aa (pv 3) (aa (pv 5) ag)))))))
   (ar (aK (pv 4))))))),?_⟩
  try dsimp only [cE]
  walk_at "";refine ⟨a,p,as,L,pl,rfl,ha,g,r4,hn,zl,F.nz,λd α H1 e1 fd d1 s1=>?_⟩;walk_at "";refine ⟨zaA (aD (show 1<=1000 by decide)),λt ht=>?_⟩;have e2:ao H1 (upd H1 t (.lst [.int (i:Int)])):=ao.upd ht;have t2:upd H1 t (.lst [.int (i:Int)]) t=some (.lst ((ri [i]).map V.int)):=ae;have ft:=e1.free ht;generalize upd H1 t (.lst [.int (i:Int)])=H2 at e2 t2 ⊢;walk_at "";refine ⟨d,α,_,_,pl,i,rfl,e2 _ _ d1,s1.same e2,zc,oi,λH3 e3=>?_⟩;walk_at "";refine mr (λσ H4=>∃ (r:List Nat) (cur:Nat),σ=[some (.ref a),some (.ref p),some (.int (i:Int)),some (.ref d),some (.ref t),some (.int (cur:Int))]/\ao H1 H4/\H4 t=some (.lst ((ri r).map V.int))/\Ch (cl L) L.length pl i r cur)
   (λ_ H4=>match H4 t with|some (.lst xs)=>L.length-xs.length|_=>0) ⟨[i],_,rfl,e2.trans e3,e3 _ _ t2,Ch.start hi si ci (xf F.nz hi ci si)⟩ ?_
  rintro σ H4 ⟨r,cur,rfl,e4,t4,ch⟩;walk_at "";refine vx (λne=>?_) (λeq=>?_)
  ·have ne':cur≠i:=λz=>ne (by rw [z]);obtain ⟨c1,c2,c3⟩:=ch.oQ C F;have nx:=xf F.nz c1 c3 c2;have U6:=ch.step C F ne' nx;have l2:=U6.len;rw [ZV,zak] at l2;refine w_turn ?_;walk_at "";refine ⟨.inl ⟨rfl,_,aH.of t4⟩,?_⟩;walk_at "";refine eC t4 (by rw [ZK,bu];exact aD (by omega)) ?_;have e5:ao H1 (upd H4 t (.lst ((ri r).map V.int++[.int (cur:Int)]))):=ao.fresh e4 ht;have t5:upd H4 t (.lst ((ri r).map V.int++[.int (cur:Int)])) t=some (.lst ((ri (r++[cur])).map V.int)):=by
    rw [ae];unfold ri;rw [Z6,Z6];rfl
   generalize upd H4 t (.lst ((ri r).map V.int++[.int (cur:Int)]))=H5 at e5 t5 ⊢;walk_at "";refine ⟨d,α,_,_,pl,cur,rfl,e5 _ _ d1,s1.same e5,zc,eX.mpr ⟨c1,c2⟩,λH6 e6=>?_⟩;walk_at "";refine ⟨⟨r++[cur],_,rfl,e5.trans e6,e6 _ _ t5,U6⟩,?_⟩;rw [t4,e6 _ _ t5];dsimp only;rw [ZK,ZK,bu,bu,ZV,zak];omega
  ·have Ys:cur=i:=by omega
   subst Ys;walk_at "";have rg:=ch.done;exact q t r H4 (e1.trans e4) ft t4 rg ch.fst
theorem cL:aI ["points", "least", "upright", "corner", "plane"] ["points"] (aC f9):=by walk_at "n"
theorem nN (D:Def K mg "first_plane" f9 ["points"]) (T:Txt K mg Z) (oF:bK P w K mg base (br P w) "side" 1 ["plane", "point"] mD) (mJ:bK P w K mg base (br P w) "swung" 3 ["plane", "one", "other", "points"] (mY K)) (iL:bK P w K mg base (br P w) "seen_flat" 2 ["plane", "points"] (rY K)) (et:bK P w K mg base (br P w) "next_corner" 3 ["spots", "here"] rW):bK P w K mg base (br P w) "first_plane" 4 ["points"] (uM Z.Flat):=by
 refine D.AS cL (λvs H Q E h=>?_) (λf0 cz A o s H vs Q E hr h=>?_)
 ·obtain ⟨p,as,L,rfl,_⟩:=h;rfl
 ·obtain ⟨p,as,L,rfl,g,r4,n0,hn,C,q,qE⟩:=h;have zc:∀ j,j<L.length->S4 3000 (cl L j):=λj hj=>(r4.at hj).2;obtain ⟨b0,l0,XW,Nc,Dp⟩:=g.at n0;obtain ⟨UX,z0⟩:=r4.at n0;rw [Nc] at UX;cases UX
  have TV:aH K H b0 [.int (cl L 0).x,.int (cl L 0).y,.int (cl L 0).z,.int (cl L 0).w]:=aH.of Dp;have ux:S4 3000 we:=⟨by unfold Sz we;exact zcD _,by unfold Sz we;exact zcD _,by unfold Sz we;exact zeq (by decide),by unfold Sz we;exact zcD _⟩;have Lv:S4 9003 (CH (cl L)):=⟨(z0.2.2.2.neg).mono (by decide),by unfold Sz CH;exact zcD _,by unfold Sz CH;exact zcD _,z0.1.mono (by decide)⟩;refine ⟨_,(ah (aF (i:=1) cL.nd rfl (by walk_at "L") (aB au (pv 0) af (λ_ _=>rfl)))
   (ah (aF (i:=2) cL.nd rfl (by walk_at "L") (aA mJ hr aQ (aa (cu (aa (Hw BN (aB au (pv 1) af (λ_ _=>rfl))) (aa af (aa af (aa (aB au (pv 1) af (λ_ _=>rfl)) ag))))) (aa (fP (v:=.ref Z.UP) rfl T.Sl rfl) (aa (pv 1) (aa (pv 0) ag))))))
   (ah (aF (i:=3) cL.nd rfl (by walk_at "L") (aA et hr aQ (aa (aA iL hr aQ (aa (pv 2) (aa (pv 0) ag))) (aa af ag))))
   (ah (aF (i:=4) cL.nd rfl (by walk_at "L") (aA mJ hr aQ (aa (pv 2) (aa (aB au (pv 0) (pv 3) (λ_ _=>rfl)) (aa (pv 1) (aa (pv 0) ag))))))
   (ah (bU (dG (aG (D6 rfl) (by rfl) T.all KJ (aa (bH (tg:=["point"]) (fr:=[("plane",4)]) (by walk_at "blk_ok") rfl (bq (pv 0)) (λ_ _ _ _ _=>(aE (i:=0) (show [("point":Str),("plane":Str)].Nodup by decide +kernel) rfl (by walk_at "L"))) (λ_ _ _ _ _=>a9) (λ_ _ _ _ _=>(eW eQ (aA oF hr aQ (aa (pv 1) (aa (pv 0) ag))) af (aN _)))) ag))) (ar (u4 PySem.F.excBase_ValueError T.x_Flat T.xP rfl (aa CL ag) Co)) aX)
   (ar (aK (pv 4)))))))),?_⟩
  try dsimp only [cE]
  walk_at "";refine aT (aH.of g.top) (g.ix XW) ?_;walk_at "";refine ⟨zaA (aD (show 4<=1000 by decide)),λa0 X0=>?_⟩;have e1:ao H (upd H a0 (.lst [.int (-(cl L 0).w),.int 0,.int 0,.int (cl L 0).x])):=ao.upd X0;have h1:upd H a0 (.lst [.int (-(cl L 0).w),.int 0,.int 0,.int (cl L 0).x]) a0=some (.lst ((l4 (CH (cl L))).map V.int)):=ae;generalize upd H a0 (.lst [.int (-(cl L 0).w),.int 0,.int 0,.int (cl L 0).x])=H1 at e1 h1 ⊢;walk_at "";refine ⟨a0,Z.UP,b0,p,as,L,CH (cl L),we,cl L 0,rfl,h1,.inr (LJ T.up _),.inl (aH.of (e1 _ _ Dp)),g.same e1,r4,hn,Lv,ux,z0,λt1 H2 e2 f2 h2=>?_⟩;have hu:=yd (Du C n0) L.length (ZQ _);have Oj:=mV (c:=cl L) (n:=L.length) (z:=3000) (e:=we) (f:=cl L 0) Lv ux z0 zc L.length (ZQ _);obtain ⟨uz,us,u0,_⟩:=G5 C n0 hu;generalize wy (cl L) (CH (cl L)) we (cl L 0) L.length=up at hu Oj uz us u0 h2;have ED:=e1.trans e2;walk_at "";refine ⟨t1,p,as,L,up,rfl,h2,g.same ED,r4,hn,Oj,uz,λd α H3 e3 _ d3 s3=>?_⟩;walk_at "";refine ⟨d,α,_,_,up,0,rfl,d3,s3,zc,eX.mpr ⟨n0,u0⟩,λH4 e4=>?_⟩;have N:=xf uz n0 (C.zD n0) u0;generalize Qu (cl L) L.length up 0=f at N ⊢;have Gx:=(ED.trans e3).trans e4;obtain ⟨bf,lf,XN,Xm,MW⟩:=g.at N.lt;obtain ⟨UW,zf⟩:=r4.at N.lt;rw [Xm] at UW;cases UW
  walk_at "";refine aT (aH.of (Gx _ _ g.top)) (g.ix XN) ?_;walk_at "";refine ⟨t1,bf,b0,p,as,L,up,cl L f,cl L 0,rfl,e4 _ _ (e3 _ _ h2),.inl (aH.of (Gx _ _ MW)),.inl (aH.of (Gx _ _ Dp)),g.same Gx,r4,hn,Oj,zf,z0,λt5 H5 e5 f5 h5=>?_⟩;have alt:=DJ C n0 hu N (yd (N.HK uz us u0) L.length (ZQ _));have zr:=mV (c:=cl L) (n:=L.length) (z:=3000) (e:=cl L f) (f:=cl L 0) Oj zf z0 zc L.length (ZQ _);generalize wy (cl L) up (cl L f) (cl L 0) L.length=r at alt zr h5;have Ku:=Gx.trans e5;walk_at "";refine bQ ?_;refine ⟨_,rfl,p,rfl,⟨_,aH.of (Ku _ _ g.top)⟩,λacc aY=>?_⟩;refine bT (K:=K) (a:=p) (xs:=as.map V.ref) (λm σ' ys H6=>∃ v:Option V,σ'=[v,some (.ref t5)]/\ys=((List.range m).map λi=>decide (dot r (cl L i)=0)).map V.bl/\ao H5 H6/\H6 acc=some (.lst ys))
   ⟨none,rfl,rfl,ao.upd aY,ae⟩ (by rintro m σ' ys H6 _ ⟨_,_,_,e,_⟩;exact aH.of (e _ _ (Ku _ _ g.top))) ?_ ?_
  ·rintro m x σ' ys H6 hx hm ⟨v,rfl,rfl,e6,a6⟩;rw [ZS] at hx;obtain ⟨bi,hb,rfl⟩:∃ c,as[m]?=some c/\x=V.ref c:=by
    cases e:as[m]? with
    | none=>rw [e] at hx;cases hx
    | some c=>rw [e] at hx;exact ⟨c,rfl,(ZO hx).symm⟩
   have iK:m<L.length:=by rw [<-g.len];exact (ZL.mp hb).1
   obtain ⟨b5,l,Nl,hl,pV⟩:=g.at iK;rw [hb] at Nl;cases Nl
   obtain ⟨NN,Va⟩:=r4.at iK;rw [hl] at NN;cases NN
   walk_at "";refine ⟨t5,bi,r,cl L m,rfl,e6 _ _ h5,e6 _ _ (Ku _ _ pV),zr,Va,?_⟩;walk_at "";refine ⟨a6,by rw [ZK,ZK,zaN];exact aD (by omega),bW hm ⟨_,rfl,?_,ao.fresh e6 aY,ae⟩⟩;rw [zcP,Z6,Z6]
   rfl
  rintro σ' ys H6 ⟨v,rfl,rfl,e6,a6⟩;rw [ZK,g.len] at a6;walk_at "";refine ⟨acc,_,rfl,aH.of a6,?_⟩;have al:(((List.range L.length).map λi=>decide (dot r (cl L i)=0)).all id=true)↔∀ i,i<L.length->dot r (cl L i)=0:=by
   rw [all_map,all_eq_true];constructor
   ·intro h i hi;simpa using h i (zaj.mpr hi)
   ·intro h i hi;simpa using h i (zaj.mp hi)
  have U1:=Ku.trans e6;rcases alt with ⟨fl,z⟩|⟨K8,F,r0,nz⟩
  ·rw [al.mpr z];walk_at "";exact ⟨zaA (aD (show 1<=1000 by decide)),qE fl _ U1⟩
  ·rw [show (((List.range L.length).map λi=>decide (dot r (cl L i)=0)).all id)=false by
    rw [<-Bool.not_eq_true];exact λw=>FL C nz (al.mp w)]
   walk_at "";exact q t5 r H6 K8 U1 (Gx.free f5) (e6 _ _ h5) zr F r0
theorem B7:aI ["ring"] ["ring"] (aC r8):=by walk_at "n"
theorem CT (D:Def K mg "steps" r8 ["ring"]) (T:Txt K mg Z):bK P w K mg base (br P w) "steps" 1 ["ring"] mZ:=by
 refine D.c6 B7 (λvs H Q E h=>?_) (λf cz A o s H vs Q E hr h=>?_)
 ·obtain ⟨a,r,rfl,_⟩:=h;rfl
 ·obtain ⟨a,r,rfl,ha,r0,rn,q⟩:=h;refine ⟨_,(ar (aK (wY rfl T.zip T.list (aa (pv 0) (aa (av sH (dH iY (pv 0) (eU af) eV) (dH iY (pv 0) eV (eU af))) ag))))),?_⟩;dsimp only [cE];walk_at "";refine Ah ?_;walk_at "";refine nD (a:=a) (i:=0) (n:=1) (r:=r) rfl (aH.of ha) (by omega) λp1 AL=>?_;have e2:ao H (upd H p1 (.lst ((r.drop 1).map V.int))):=ao.upd AL;refine Cv (a:=a) (i:=0) (n:=1) (r:=r) rfl (aH.of (e2 _ _ ha)) (by omega) λp2 xC=>?_;have e3:=e2.trans (ao.upd (o:=.lst ((r.take 1).map V.int)) xC);have x1:upd (upd H p1 (.lst ((r.drop 1).map V.int))) p2 (.lst ((r.take 1).map V.int)) p1=some (.lst ((r.drop 1).map V.int)):=by rw [aq (aU ae xC)];exact ae
  refine ⟨p1,p2,_,_,rfl,rfl,x1,ae,by rw [ZK,ZK,zca,Z9,zay];omega,λb hb=>?_⟩;generalize upd (upd H p1 (.lst ((r.drop 1).map V.int))) p2 (.lst ((r.take 1).map V.int))=H3 at e3 x1 hb ⊢;have er:(r.drop 1).map V.int++(r.take 1).map V.int=(du r 1).map V.int:=by unfold du;rw [Z6]
  rw [er];have e4:=e3.trans (ao.upd (o:=.lst ((du r 1).map V.int)) hb);walk_at "";have rl:(du r 1).length=r.length:=dX (by omega);refine ⟨a,b,r.map V.int,(du r 1).map V.int,rfl,aH.of (e4 _ _ ha),aH.of ae,by rw [ZK,ZK,rl],λl as H5 e5 hl h5 la hp=>?_⟩;rw [ZK] at la;walk_at "";refine q l as H5 (e4.trans e5) (e4.free hl) h5 (PR.mk (by rw [IK];exact la) λj x d hx hd=>?_);obtain ⟨_,_,u,v,hu,hv,h6⟩:=hp j x hx;have hj:j<r.length:=by
   have:=(ZL.mp hx).1;omega
  rw [ZS,NX hj] at hu;rw [ZS,E5 hj] at hv;cases hu
  cases hv
  rw [L6 hj] at hd;cases hd
  exact h6
theorem mW (hσ:σ[2]?=some (some (.ref t))) (ht:H t=some (.lst ((ri r).map V.int))) (r0:0<r.length) (rn:r.length<=100) (nd:(fL r).Nodup)
  (q:∀ d H',ao H H'->H d=none->H' d=some (.dT (kD ((fL r).map di)))->Q (.ref d) H') :
  Ov CB (mU (qG (yU K (ya mZ [] E0 (mU (jG 2) zZ))) (oK 0) x8 (ID (mU (jG 0) (mU (tC (.bl true)) zZ))) 1 []) zZ) σ H Q:=by
 refine nE (aO (bQ ?_));refine bM (iE (aO (UV hσ (a7 ?_))));refine ⟨t,ri r,rfl,ht,by rw [bu];exact r0,by rw [bu];omega,λl ps H1 e1 f1 l1 pr=>?_⟩;rw [B6 r0] at pr;have pl:=pr.len;rw [ZK,dA] at pl;refine ⟨l,rfl,⟨_,aH.of l1⟩,λacc aY=>?_⟩;refine bT (K:=K) (a:=l) (xs:=ps.map V.ref) (λm σ' ys H2=>∃ (v:Option V) (bs:XL),σ'=[v]/\ys=bs.map V.ref/\ao H1 H2/\H2 acc=some (.lst ys)/\tY H2 bs (kD (((fL r).map di).take m)))
  ⟨none,[],rfl,rfl,ao.upd aY,ae,rfl,λj p k v h=>by simp at h⟩ (by rintro m σ' ys H2 _ ⟨_,_,_,_,e,_⟩;exact aH.of (e _ _ l1)) ?_ ?_
 ·rintro m x σ' ys H2 hx hm ⟨v,bs,rfl,rfl,e2,a2,pa⟩;rw [ZS] at hx;obtain ⟨b,hb,rfl⟩:∃ c,ps[m]?=some c/\x=V.ref c:=by
   cases e:ps[m]? with
   | none=>rw [e] at hx;cases hx
   | some c=>rw [e] at hx;exact ⟨c,rfl,(ZO hx).symm⟩
  obtain ⟨w,hw,Dw⟩:=pr.at hb;have bl:bs.length=m:=by
   have:=pa.1;rw [fE,Z9,ZK,dA] at this;rw [ZK] at hm;omega
  have HN:=e2 _ _ Dw;walk_at "";refine λtp vz=>?_;have ne:acc≠tp:=λz=>by rw [z,vz] at a2;cases a2
  have e3:ao H2 (upd H2 tp (.tup [.ref b,.bl true])):=ao.upd vz;refine ⟨by rw [aq ne];exact a2,by rw [ZK,bl];exact aD (by rw [ZK] at hm;omega),bW hm ⟨_,bs++[tp],rfl,by rw [Z6];rfl,ao.fresh (e2.trans e3) aY,ae,?_⟩⟩;have old:∀ {c:Addr} {xs:List V},H2 c=some (.tup xs)->upd (upd H2 tp (.tup [.ref b,.bl true])) acc (.lst (bs.map V.ref++[.ref tp])) c=some (.tup xs):=λ{c xs} hc=>by
   rw [aq (λz=>by rw [z,a2] at hc;cases hc),aq (λz=>by rw [z,vz] at hc;cases hc)];exact hc
  rw [take_snoc hw,kX];refine ⟨by rw [ZV,ZV,pa.1];rfl,λj p k v hj hk=>?_⟩;by_cases z:j<bs.length
  ·rw [Z0 z] at hj;rw [Z0 (by rw [<-pa.1];exact z)] at hk;obtain ⟨b1,h1,h2⟩:=pa.2 j p k v hj hk;exact ⟨b1,old h1,old h2⟩
  ·rw [Z2 (by omega)] at hj;rw [Z2 (by rw [<-pa.1];omega)] at hk;rw [pa.1] at hj;have j0:j-(kD (((fL r).map di).take m)).length=0:=by
    have:=(ZL.mp hj).1;simp at this;omega
   rw [j0] at hj hk;cases hj
   cases hk
   refine ⟨b,?_,old HN⟩;rw [aq (zaD ne)];exact ae
 ·rintro σ' ys H2 ⟨v,bs,rfl,rfl,e2,a2,pa⟩;rw [ZK,pl,zbU (by rw [ZK,dA];exact ZQ _)] at pa;refine a7 ⟨acc,bs,_,rfl,a2,pa,by rw [fE,ZK,dA];omega,λd hd=>?_⟩;refine q d _ ((e1.trans e2).trans (ao.upd hd)) (e1.free (e2.free hd)) ?_;rw [ae,show ([]:List (List Key×V))=kD [] from rfl,nF (by rw [nil_append];exact qV nd),nil_append]
theorem Cb (g:cX H p as L) (r4:ke L 3000) (hi:i<L.length):∃ b,ja (as.map V.ref) (i:Int)=some (V.ref b)/\H b=some (.lst ((l4 (cl L i)).map V.int))/\S4 3000 (cl L i):=by
 obtain ⟨b,l,hb,hl,pV⟩:=g.at hi;obtain ⟨el,z⟩:=r4.at hi;rw [hl] at el;cases el
 exact ⟨b,g.ix hb,pV,z⟩
theorem bP:aI ["points", "plane", "ring", "found", "waiting", "gone", "land", "here", "there"] ["points"] (aC kI):=by walk_at "n"
theorem xa (D:Def K mg "wrapped" kI ["points"]) (T:Txt K mg Z) (sZ:bK P w K mg base (br P w) "steps" 1 ["ring"] mZ) (mJ:bK P w K mg base (br P w) "swung" 3 ["plane", "one", "other", "points"] (mY K)) (qZ:bK P w K mg base (br P w) "ring_on" 4 ["plane", "points", "first"] qJ) (pZ:bK P w K mg base (br P w) "first_plane" 4 ["points"] (uM Z.Flat)):bK P w K mg base (br P w) "wrapped" 5 ["points"] (mX Z.Flat):=by
 refine D.AS bP (λvs H Q E h=>?_) (λf0 cz A o s H vs Q E hr h=>?_)
 ·obtain ⟨p,as,L,rfl,_⟩:=h;rfl
 ·obtain ⟨p,as,L,rfl,g,r4,n0,hn,C,q,qE⟩:=h;have zc:∀ j,j<L.length->S4 3000 (cl L j):=λj hj=>(r4.at hj).2;refine ⟨_,(ah (aF (i:=1) bP.nd rfl (by walk_at "L") (aA pZ hr u7 (aa (pv 0) ag)))
   (ah (aF (i:=2) bP.nd rfl (by walk_at "L") (aA qZ hr aQ (aa (pv 1) (aa (pv 0) (aa af ag)))))
   (ah (aF (i:=3) bP.nd rfl (by walk_at "L") (cu (aa (dq (aa (pv 2) (aa (pv 1) ag))) ag)))
   (ah (aF (i:=4) bP.nd rfl (by walk_at "L") (cu (aa (dq (aa (pv 2) (aa (pv 1) ag))) ag)))
   (ah (aF (i:=5) bP.nd rfl (by walk_at "L") (eY (oW hr.units rfl) (by rfl) T.dict zJ (aa (bH (tg:=["step"]) (fr:=[]) (by walk_at "blk_ok") rfl (bq (aA sZ hr aQ (aa (pv 2) ag))) (λ_ _ _ _ _=>(aE (i:=0) (show [("step":Str)].Nodup by decide +kernel) rfl (by walk_at "L"))) (λ_ _ _ _ _=>a9) (λ_ _ _ _ _=>(dq (aa (pv 0) (aa dv ag))))) ag)))
   (ah (jP PassesOwn.leaving (aM qU (aG bJ (by rfl) T.len cQ (aa (pv 4) ag)) af (aN _)) (ah (aF (i:=6) bP.nd rfl (by walk_at "L") (CN zaw PySem.F.slot_list_pop PySem.F.type_list_pop Jw (pv 4)))
   (ar (bN PassesOwn.leaving rfl (bq (aA sZ hr aQ (aa (aB c5 (pv 6) af (λ_ _=>rfl)) ag))) (kN (n:=2) rfl (bI (aE (i:=7) bP.nd rfl (by walk_at "L")) (bI (aE (i:=8) bP.nd rfl (by walk_at "L")) fO)))
   (ar (bU (Jd (Am (vy hr) (dq (aa (pv 8) (aa (pv 7) ag))) (pv 5))) (ah (aF (i:=1) bP.nd rfl (by walk_at "L") (aA mJ hr aQ (aa (aB c5 (pv 6) af (λ_ _=>rfl)) (aa (aB au (pv 0) (pv 8) (λ_ _=>rfl)) (aa (aB au (pv 0) (pv 7) (λ_ _=>rfl)) (aa (pv 0) ag))))))
   (ah (aF (i:=2) bP.nd rfl (by walk_at "L") (aA qZ hr aQ (aa (pv 1) (aa (pv 0) (aa (pv 8) ag)))))
   (ah (dY (jg zaw zaV zaW cT (pv 3) (aa (dq (aa (pv 2) (aa (pv 1) ag))) ag)))
   (ah (dY (jg zaw zaV zaW cT (pv 4) (aa (dq (aa (pv 2) (aa (pv 1) ag))) ag)))
   (ar (dY (jg PySem.F.plainAttrs_dict PySem.F.slot_dict_update PySem.F.type_dict_update (FQ hr.units) (pv 5) (aa (eY (oW hr.units rfl) (by rfl) T.dict zJ (aa (bH (tg:=["step"]) (fr:=[]) (by walk_at "blk_ok") rfl (bq (aA sZ hr aQ (aa (pv 2) ag))) (λ_ _ _ _ _=>(aE (i:=0) (show [("step":Str)].Nodup by decide +kernel) rfl (by walk_at "L"))) (λ_ _ _ _ _=>a9) (λ_ _ _ _ _=>(dq (aa (pv 0) (aa dv ag))))) ag)) ag)))))))) aX))))))
   (ar (aK (pv 3))))))))),?_⟩
  try dsimp only [cE]
  walk_at "";refine ⟨p,as,L,rfl,g,r4,n0,by omega,C,λt1 pl H1 K8 e1 f1 h1 zl F1 d0=>?_,qE⟩;have q:=q K8;walk_at "";refine ⟨t1,p,as,L,pl,0,rfl,h1,g.same e1,r4,by omega,zl,C,F1,eX.mpr ⟨n0,d0⟩,C.zD n0,λt2 r1 H2 e2 f2 h2 R1 _=>?_⟩;have rl:∀ {pl:V4} {r:List Nat},Rg (cl L) L.length pl r->r.length<=100:=λ{pl r} R=>by
   have:=jx (l:=r) (r:=List.range L.length) R.nd λx hx=>zaj.mpr (R.on x hx).1;rw [zaN] at this;omega
  have ED:=e1.trans e2;walk_at "";refine λa3 XZ=>?_;have e3:ao H2 (upd H2 a3 (.tup [.ref t2,.ref t1])):=ao.upd XZ;have h3:upd H2 a3 (.tup [.ref t2,.ref t1]) a3=some (.tup [.ref t2,.ref t1]):=ae;generalize upd H2 a3 (.tup [.ref t2,.ref t1])=H3 at e3 h3 ⊢;walk_at "";refine ⟨zaA (aD (show 1<=1000 by decide)),λfl yZ=>?_⟩;have e4:ao H3 (upd H3 fl (.lst [.ref a3])):=ao.upd yZ;have h4:upd H3 fl (.lst [.ref a3]) fl=some (.lst ([a3].map V.ref)):=ae;generalize upd H3 fl (.lst [.ref a3])=H4 at e4 h4 ⊢;walk_at "";refine λa5 XY=>?_;have e5:ao H4 (upd H4 a5 (.tup [.ref t2,.ref t1])):=ao.upd XY;have h5:upd H4 a5 (.tup [.ref t2,.ref t1]) a5=some (.tup [.ref t2,.ref t1]):=ae;generalize upd H4 a5 (.tup [.ref t2,.ref t1])=H5 at e5 h5 ⊢;walk_at "";refine ⟨zaA (aD (show 1<=1000 by decide)),λwl Et=>?_⟩;have e6:ao H5 (upd H5 wl (.lst [.ref a5])):=ao.upd Et;have h6:upd H5 wl (.lst [.ref a5]) wl=some (.lst ([a5].map V.ref)):=ae;generalize upd H5 wl (.lst [.ref a5])=H6 at e6 h6 ⊢;have Si:=((e3.trans e4).trans e5).trans e6;have QF:fl≠wl:=λz=>by have:=e5 _ _ h4;rw [z,Et] at this;cases this
  refine TW (T0 ?_);refine mW (t:=t2) (r:=r1) rfl (Si _ _ h2) R1.pos (rl R1) R1.OL λgd H7 e7 JY h7=>?_;have TK:fl≠gd:=λz=>by have:=e6 _ _ (e5 _ _ h4);rw [z,JY] at this;cases this
  have Qv:wl≠gd:=λz=>by rw [z,JY] at h6;cases h6
  have Pa:H fl=none:=ED.free (e3.free yZ);have RY:H wl=none:=ED.free (e3.free (e4.free (e5.free Et)));have R5:H gd=none:=(ED.trans Si).free JY;have NQ:=Si.trans e7;have W0:wd (cl L) L.length [(r1,pl)] [(r1,pl)] λ_=>False:=wd.start F1 R1;walk_at "";refine mr (λσ H8=>∃ (v1 v2 v6 v7 v8:Option V) (fs ws:XL) (F W:List (List Nat×V4)),σ=[some (.ref p),v1,v2,some (.ref fl),some (.ref wl),some (.ref gd),v6,v7,v8]/\ao H H8/\H8 fl=some (.lst (fs.map V.ref))/\H8 wl=some (.lst (ws.map V.ref))/\H8 gd=some (.dT (kD ((bL F).map di)))/\dg H8 fs F/\dg H8 ws W/\wd (cl L) L.length F W (λ_=>False)/\(∀ p∈F,S4 9003 p.2)/\F≠[]/\W.length<=F.length)
   (λ_ H8=>match H8 gd,H8 wl with|some (.dT kvs),some (.lst xs)=>(L.length*L.length-kvs.length)+xs.length|_,_=>0)
   ⟨_,_,_,_,_,[a3],[a5],[(r1,pl)],[(r1,pl)],rfl,ED.trans NQ,e7 _ _ (e6 _ _ (e5 _ _ h4)),e7 _ _ h6,by unfold bL;simp only [zdt,flatMap_nil,zbr];exact h7,
    ⟨rfl,λj a p ha hp=>by
     match j,ha,hp with
     | 0,ha,hp=>cases ha;cases hp;exact ⟨t2,t1,e7 _ _ (e6 _ _ (e5 _ _ (e4 _ _ h3))),NQ _ _ h2,NQ _ _ (e2 _ _ h1)⟩
     | j+1,ha,_=>simp at ha⟩,
    ⟨rfl,λj a p ha hp=>by
     match j,ha,hp with
     | 0,ha,hp=>cases ha;cases hp;exact ⟨t2,t1,e7 _ _ (e6 _ _ h5),NQ _ _ h2,NQ _ _ (e2 _ _ h1)⟩
     | j+1,ha,_=>simp at ha⟩,
    W0,λp hp=>by rw [ZT.mp hp];exact zl,by simp,ZQ _⟩ ?_
  rintro σ H8 ⟨v1,v2,v6,v7,v8,fs,ws,F,W,rfl,e8,NG,Ir,Nr,fF,fW,st,zF,F0,wf⟩;walk_at "";refine ⟨_,_,rfl,.inl ⟨_,aH.of Ir,rfl⟩,?_⟩;walk_at "";refine if2 (λpos=>?_) (λemp=>?_)
  ·refine w_turn ?_;rw [ZK] at pos;have SN:ws≠[]:=λz=>by rw [z] at pos;simp at pos
   obtain ⟨Bv,wa,rfl⟩:∃ Bv wa,ws=Bv++[wa]:=⟨ws.dropLast,ws.getLast SN,(dropLast_concat_getLast SN).symm⟩;have lW:=fW.1;rw [ZV,zak] at lW;have U7:W≠[]:=λz=>by rw [z] at lW;simp at lW
   obtain ⟨W',pc,rfl⟩:∃ W' pc,W=W'++[pc]:=⟨W.dropLast,W.getLast U7,(dropLast_concat_getLast U7).symm⟩;rw [ZV,zak] at lW;have lw:Bv.length=W'.length:=by omega
   obtain ⟨rr,qq,k1,k2,k3⟩:=fW.2 Bv.length wa pc (by simp) (by rw [lw];simp);have Yo:dg H8 Bv W':=⟨lw,λj a p ha hp=>fW.2 j a p (by rw [Z0 (ZL.mp ha).1];exact ha) (by rw [Z0 (ZL.mp hp).1];exact hp)⟩;have OF:pc∈F:=st.sub pc (by simp);obtain ⟨Fp,Rp⟩:=st.wr.fc pc OF;have zp:=zF pc OF;have jH:=st.pop;have OJ:∀ p∈F,p.1≠[]:=λp hp z=>by have:=(st.wr.fc p hp).2.pos;rw [z] at this;exact absurd this (zam _)
   have lF:(bL F).length<=L.length*L.length:=st.wr.wC;walk_at "";refine ⟨.inl ⟨rfl,_,aH.of Ir⟩,?_⟩;refine ⟨wl,_,.ref wa,rfl,rfl,Ir,by simp,?_⟩;have s9:kj fl wl gd H8 (upd H8 wl (.lst ((Bv++[wa]).map V.ref).dropLast)):=kj.upd (.inr (.inl rfl));have Om:upd H8 wl (.lst ((Bv++[wa]).map V.ref).dropLast) wl=some (.lst (Bv.map V.ref)):=by rw [ae];simp
   have NF:upd H8 wl (.lst ((Bv++[wa]).map V.ref).dropLast) fl=some (.lst (fs.map V.ref)):=by rw [aq QF];exact NG
   have O9:upd H8 wl (.lst ((Bv++[wa]).map V.ref).dropLast) gd=some (.dT (kD ((bL F).map di))):=by rw [aq (zaD Qv)];exact Nr
   generalize upd H8 wl (.lst ((Bv++[wa]).map V.ref).dropLast)=H9 at s9 Om NF O9 ⊢;have Wn:∀ p∈W',p.1≠[]:=λp hp=>OJ p (st.sub p (zbz _ hp));have Yp:=fF.Ad OJ NG Ir Nr s9;have Yn:=Yo.Ad Wn NG Ir Nr s9;have e9:ao H H9:=kj.same e8 s9 Pa RY R5;obtain ⟨_,TC⟩:=(show dg H8 [wa] [pc] from ⟨rfl,λj a p ha hp=>by
    match j,ha,hp with
    | 0,ha,hp=>cases ha;cases hp;exact ⟨rr,qq,k1,k2,k3⟩
    | j+1,ha,_=>simp at ha⟩).Ad (λp hp=>by rw [ZT.mp hp];exact OJ pc OF) NG Ir Nr s9
   obtain ⟨rr,qq,k1,k2,k3⟩:=TC 0 wa pc rfl rfl;refine UF ?_;have tw:SqT K H9 wa [.ref rr,.ref qq]:=SqT.of k1;refine cH (bM (iE (aO (TD (UV rfl (r_c (fN tw rfl (a7 ?_))))))));refine ⟨rr,ri pc.1,rfl,k2,by rw [bu];exact Rp.pos,by rw [bu];have:=rl Rp;omega,λsl ps EF mM Li UR pr=>?_⟩;rw [B6 Rp.pos] at pr;have pl:=pr.len;rw [ZK,dA] at pl;have Qx:sl≠fl/\sl≠wl/\sl≠gd:=⟨λz=>(by rw [z,NF] at Li;cases Li),λz=>(by rw [z,Om] at Li;cases Li),λz=>(by rw [z,O9] at Li;cases Li)⟩;refine ⟨sl,rfl,⟨_,aH.of UR⟩,?_⟩;refine dJ (K:=K) (a:=sl) (xs:=ps.map V.ref) (λm σ mq=>∃ (v1 v2 v7 v8:Option V) (fs ws:XL) (F2 W2:List (List Nat×V4)),σ=[some (.ref p),v1,v2,some (.ref fl),some (.ref wl),some (.ref gd),some (.ref wa),v7,v8]/\kj fl wl gd EF mq/\mq fl=some (.lst (fs.map V.ref))/\mq wl=some (.lst (ws.map V.ref))/\mq gd=some (.dT (kD ((bL F2).map di)))/\dg mq fs F2/\dg mq ws W2/\wd (cl L) L.length F2 W2 (λp=>p=pc)/\(∀ p∈F2,S4 9003 p.2)/\F2≠[]/\W2.length<=F2.length/\
     (∀ x y,(x,y)∈(fL pc.1).take m->(y,x)∈bL F2)/\(L.length*L.length-(bL F2).length)+W2.length+1<=(L.length*L.length-(bL F).length)+(W'++[pc]).length)
    ⟨v1,v2,v7,v8,fs,Bv,F,W',rfl,λx o _ _ _ h=>h,mM _ _ NF,mM _ _ Om,mM _ _ O9,Yp.same mM,Yn.same mM,jH,zF,F0,by rw [ZV,zak] at wf;omega,by simp,by rw [ZV,zak];omega⟩
    (by rintro m σ mq _ ⟨_,_,_,_,_,_,_,_,_,sm,_⟩;exact aH.of (sm sl _ Qx.1 Qx.2.1 Qx.2.2 UR)) ?_ ?_
   ·have Qo:dg EF [wa] [pc]:=(show dg H9 [wa] [pc] from ⟨rfl,TC⟩).same mM;have NJ:=mM _ _ NF;have LD:=mM _ _ Om;have Nv:=mM _ _ O9;rintro m x σ mq hx ⟨v1,v2,v7,v8,fs,ws,F2,W2,rfl,sm,DI,BJ,qc,DM,AZ,rS,EJ,Po,Iw,rev,ms⟩;obtain ⟨b,hb,rfl⟩:∃ c,ps[m]?=some c/\x=V.ref c:=by
     rw [ZS] at hx;cases e:ps[m]? with
     | none=>rw [e] at hx;cases hx
     | some c=>rw [e] at hx;exact ⟨c,rfl,(ZO hx).symm⟩
    obtain ⟨w,hw,Dw⟩:=pr.at hb;obtain ⟨⟨x0,y0⟩,hs,rfl⟩:∃ w0,(fL pc.1)[m]?=some w0/\w=di w0:=by
     rw [ZS] at hw;cases e:(fL pc.1)[m]? with
     | none=>rw [e] at hw;cases hw
     | some c=>rw [e] at hw;exact ⟨c,rfl,(ZO hw).symm⟩
    have sV:=ZX hs;obtain ⟨xr,yr,N⟩:=Rp.step sV;obtain ⟨xn,SM,xc⟩:=Rp.on x0 xr;obtain ⟨yn,YU,yc⟩:=Rp.on y0 yr;have Sj:ao H mq:=kj.same (e9.trans mM) sm Pa RY R5;have RI:mq b=some (.tup [.int (x0:Int),.int (y0:Int)]):=sm b _ (λz=>by rw [z,NJ] at Dw;cases Dw) (λz=>by rw [z,LD] at Dw;cases Dw) (λz=>by rw [z,Nv] at Dw;cases Dw) Dw;obtain ⟨VQ,To,l1,l2,WG⟩:=(Qo.Ad (λp hp=>by rw [ZT.mp hp];exact OJ pc OF) NJ LD Nv sm).2 0 wa pc rfl rfl;have Jv:∀ p∈F2,p.1≠[]:=λp hp z=>by have:=(rS.wr.fc p hp).2.pos;rw [z] at this;exact absurd this (zam _)
    have ME:∀ p∈W2,p.1≠[]:=λp hp=>Jv p (rS.sub p hp);refine kK (SqT.of RI) rfl ?_;walk_at "";intro Lb Xr;have gX:ao mq (upd mq Lb (.tup [.int (y0:Int),.int (x0:Int)])):=ao.upd Xr;have TZ:upd mq Lb (.tup [.int (y0:Int),.int (x0:Int)]) Lb=some (.tup ((oA (di (y0,x0))).map kV)):=ae;generalize upd mq Lb (.tup [.int (y0:Int),.int (x0:Int)])=Pm at gX TZ ⊢;refine ⟨_,rfl,gd,_,rfl,pB.t (k:=oA (di (y0,x0))) (gX _ _ qc) TZ,?_⟩;rw [qD];have VN:kj fl wl gd EF Pm:=sm.trans (kj.of gX);walk_at "";refine vx (λEr=>?_) (λVb=>?_)
    ·rw [C2] at Er;have A3:=Sj.trans gX;obtain ⟨bt,it,P2,zt⟩:=Cb (g.same A3) r4 yn;obtain ⟨bh,ih,P4,zh⟩:=Cb (g.same A3) r4 xn;have tw2:SqT K Pm wa [.ref VQ,.ref To]:=SqT.of (gX _ _ l1);walk_at "";refine aT (aH.of (g.same A3).top) it ?_;walk_at "";refine aT (aH.of (g.same A3).top) ih ?_;walk_at "";refine ⟨To,bt,bh,p,as,L,pc.2,cl L y0,cl L x0,rfl,gX _ _ WG,.inl (aH.of P2),.inl (aH.of P4),g.same A3,r4,by omega,zp,zt,zh,λBY Ie Gw Zs RU=>?_⟩;have Yg:y0≠x0:=Fp.ne N;obtain ⟨Oi,sy,sx,Nb⟩:=(yd (N.HK Fp.nz Fp.sup SM) L.length (ZQ _)).face C xn Fp xc SM Yg N yc;have z13:=mV (c:=cl L) (n:=L.length) (z:=3000) (e:=cl L y0) (f:=cl L x0) zp zt zh zc L.length (ZQ _);generalize wy (cl L) pc.2 (cl L y0) (cl L x0) L.length=uj at Oi sy sx Nb z13 RU;have Sk:=A3.trans Gw;walk_at "";refine ⟨BY,p,as,L,uj,y0,rfl,RU,g.same Sk,r4,by omega,z13,C,Oi,eX.mpr ⟨yn,sy⟩,yc,λyb r2 Lq BA Zq X8 R2 O2=>?_⟩;have S2:(y0,x0)∈fL r2:=R2.has C Oi.nz (by rw [<-O2];exact gp R2.pos) Nb;have IH:=rS.add C Oi R2 S2 Er;have r3:=R2.three C Oi;have HV:=Gw.trans BA;walk_at "";refine ⟨.inl ⟨rfl,_,aH.of (HV _ _ (gX _ _ DI))⟩,?_⟩;walk_at "";intro rM RM;have Gv:ao Lq (upd Lq rM (.tup [.ref yb,.ref BY])):=ao.upd RM;have je:upd Lq rM (.tup [.ref yb,.ref BY]) rM=some (.tup [.ref yb,.ref BY]):=ae;generalize upd Lq rM (.tup [.ref yb,.ref BY])=El at Gv je ⊢;have j6:=(gX.trans HV).trans Gv;have AY:=j6 _ _ DI;have zT:=j6 _ _ BJ;have oJ:=j6 _ _ qc;have R7:dg El [rM] [(r2,uj)]:=⟨rfl,λj a p ha hp=>by
      match j,ha,hp with
      | 0,ha,hp=>cases ha;cases hp;exact ⟨yb,BY,je,Gv _ _ X8,Gv _ _ (BA _ _ RU)⟩
      | j+1,ha,_=>simp at ha⟩
     have WD:=DM.1;have Wu:=AZ.1;have Yk:(bL F2).length<=400:=zag rS.wr.wC (zby hn hn);have c8:∀ {G:List (List Nat×V4)},Wr (cl L) L.length G->G.length<=400:=λ{G} wr=>by
      have h1:=wr.wC;have h2:G.length<=(bL G).length:=by
       unfold bL;have key:∀ M:List (List Nat×V4),(∀ p∈M,p.1≠[])->M.length<=(M.flatMap λp=>fL p.1).length:=by
        intro M
        induction M with
        | nil=>intro _;exact Z7 _
        | cons a M ih=>
         intro hM;rw [zdt,ZV,zbg,dA];have:=ih λp hp=>hM p (Z5 _ hp);have:=zbJ.mpr (hM a zac);omega
       exact key G λp hp z=>by have:=(wr.fc p hp).2.pos;rw [z] at this;exact absurd this (zam _)
      have h3:L.length*L.length<=400:=zby hn hn;omega
     have ZI:=c8 rS.wr;walk_at "";refine eC AY (by rw [ZK,WD];exact aD (by omega)) ?_;have IL:kj fl wl gd El (upd El fl (.lst (fs.map V.ref++[.ref rM]))):=kj.upd (.inl rfl);have NI:upd El fl (.lst (fs.map V.ref++[.ref rM])) fl=some (.lst ((fs++[rM]).map V.ref)):=by rw [ae,Z6];rfl
     have Iv:upd El fl (.lst (fs.map V.ref++[.ref rM])) wl=some (.lst (ws.map V.ref)):=by rw [aq (zaD QF)];exact zT
     have Nu:upd El fl (.lst (fs.map V.ref++[.ref rM])) gd=some (.dT (kD ((bL F2).map di))):=by rw [aq (zaD TK)];exact oJ
     have DK:=R7.Ad (λp hp=>by rw [ZT.mp hp];intro z;have z:r2=[]:=z;have:=R2.pos;rw [z] at this;exact absurd this (zam _)) AY zT oJ IL;generalize upd El fl (.lst (fs.map V.ref++[.ref rM]))=BE at IL NI Iv Nu DK ⊢;obtain ⟨Vz,VA,_,X7,X9⟩:=DK.2 0 rM (r2,uj) rfl rfl;walk_at "";refine ⟨.inl ⟨rfl,_,aH.of Iv⟩,?_⟩;walk_at "";intro Bq RL;have DX:ao BE (upd BE Bq (.tup [.ref yb,.ref BY])):=ao.upd RL;have N5:upd BE Bq (.tup [.ref yb,.ref BY]) Bq=some (.tup [.ref yb,.ref BY]):=ae;generalize upd BE Bq (.tup [.ref yb,.ref BY])=GY at DX N5 ⊢;have Qt:∀ p∈[(r2,uj)],p.1≠[]:=λp hp=>by
      rw [ZT.mp hp];intro z;have z:r2=[]:=z;have:=R2.pos;rw [z] at this;exact absurd this (zam _)
     have QH:BE yb=some (.lst ((ri r2).map V.int)):=by
      obtain ⟨x1,x2,x3,x4,x5⟩:=DK.2 0 rM (r2,uj) rfl rfl;have y3:=IL rM _ (λz=>by rw [z,AY] at je;cases je) (λz=>by rw [z,zT] at je;cases je) (λz=>by rw [z,oJ] at je;cases je) je;rw [x3] at y3;cases y3
      exact x4
     have Wt:BE BY=some (.lst ((l4 uj).map V.int)):=by
      obtain ⟨x1,x2,x3,x4,x5⟩:=DK.2 0 rM (r2,uj) rfl rfl;have y3:=IL rM _ (λz=>by rw [z,AY] at je;cases je) (λz=>by rw [z,zT] at je;cases je) (λz=>by rw [z,oJ] at je;cases je) je;rw [x3] at y3;cases y3
      exact x5
     have Sa:=(DM.same j6).Ad Jv AY zT oJ IL;have R9:=(AZ.same j6).Ad ME AY zT oJ IL;have SF:dg GY (fs++[rM]) (F2++[(r2,uj)]):=by
      obtain ⟨x1,x2,x3,x4,x5⟩:=DK.2 0 rM (r2,uj) rfl rfl;exact (Sa.snoc x3 x4 x5).same DX
     have Ss:dg GY (ws++[Bq]) (W2++[(r2,uj)]):=(R9.same DX).snoc N5 (DX _ _ QH) (DX _ _ Wt);have Kn:=DX _ _ NI;have EK:=DX _ _ Iv;have Kg:=DX _ _ Nu;have MF:∀ p∈F2++[(r2,uj)],p.1≠[]:=λp hp=>(ZZ.mp hp).elim (Jv p) (Qt p);have MD:∀ p∈W2++[(r2,uj)],p.1≠[]:=λp hp=>(ZZ.mp hp).elim (ME p) (Qt p);walk_at "";refine eC EK (by rw [ZK,Wu];exact aD (by omega)) ?_;have OA:kj fl wl gd GY (upd GY wl (.lst (ws.map V.ref++[.ref Bq]))):=kj.upd (.inr (.inl rfl));have LC:upd GY wl (.lst (ws.map V.ref++[.ref Bq])) wl=some (.lst ((ws++[Bq]).map V.ref)):=by rw [ae,Z6];rfl
     have NH:upd GY wl (.lst (ws.map V.ref++[.ref Bq])) fl=some (.lst ((fs++[rM]).map V.ref)):=by rw [aq QF];exact Kn
     have AV:upd GY wl (.lst (ws.map V.ref++[.ref Bq])) gd=some (.dT (kD ((bL F2).map di))):=by rw [aq (zaD Qv)];exact Kg
     have Oh:=SF.Ad MF Kn EK Kg OA;have N6:=Ss.Ad MD Kn EK Kg OA;have TR:upd GY wl (.lst (ws.map V.ref++[.ref Bq])) yb=some (.lst ((ri r2).map V.int)):=by
      rw [aq]
      ·exact DX _ _ QH
      ·intro z;have:=DX _ _ QH;rw [z,EK] at this;exact cN (λy=>Qt _ (ZT.mpr rfl) (by unfold ri at y;simpa using y)) (ZO this)
     generalize upd GY wl (.lst (ws.map V.ref++[.ref Bq]))=ZG at OA LC NH AV Oh N6 TR ⊢;walk_at "";refine ⟨.inr (.inr (.inl ⟨rfl,.inr ⟨_,AV⟩⟩)),?_⟩;refine aO ?_;refine mW (t:=yb) (r:=r2) rfl TR R2.pos (rl R2) R2.OL λdn U9 Kt XD X6=>?_;have Wq:gd≠dn:=λz=>by rw [z,XD] at AV;cases AV
     have WE:=IH.wr.wC;have X5:L.length*L.length<=400:=zby hn hn;have Pq:(kD ((bL F2).map di))++kD ((fL r2).map di)=kD ((bL (F2++[(r2,uj)])).map di):=by rw [iW,Z6,kX]
     have Ww:=zaO List.length Pq;rw [ZV,fE,fE,fE,ZK,ZK,ZK] at Ww;refine a7 ⟨gd,dn,_,_,rfl,rfl,Kt _ _ AV,X6,Wq,?_,?_,by rw [Pq];exact keys_nodup (qV IH.wr.nd),by rw [fE,fE,ZK,ZK];omega,?_⟩
     ·intro z;have z2:=zaO List.length z;rw [fE,ZK] at z2;have w0:0<(bL F2).length:=by
       obtain ⟨p0,MZ⟩:=exists_mem_of_ne_nil _ Po;have h1:=(rS.wr.fc p0 MZ).2.pos;have:(at' p0.1 0,at' p0.1 (1%p0.1.length))∈bL F2:=zbN.mpr ⟨p0,MZ,gT.mpr ⟨0,h1,rfl,rfl⟩⟩;exact length_pos_of_mem this
      rw [z2] at w0;exact absurd w0 (zam _)
     ·intro z;have z2:=zaO List.length z;rw [fE,ZK,dA] at z2;have:=R2.pos;rw [z2] at this;exact absurd this (zam _)
     ·have Nt:=Kt _ _ AV;have Km:=Kt _ _ NH;have Iu:=Kt _ _ LC;have P1:kj fl wl gd U9 (upd U9 gd (.dT (kD ((bL F2).map di)++kD ((fL r2).map di)))):=kj.upd (.inr (.inr rfl));have SE:=(Oh.same Kt).Ad MF Km Iu Nt P1;have Sr:=(N6.same Kt).Ad MD Km Iu Nt P1;refine ⟨_,_,_,_,fs++[rM],ws++[Bq],F2++[(r2,uj)],W2++[(r2,uj)],rfl,((((((sm.trans (kj.of j6)).trans IL).trans (kj.of DX)).trans OA).trans (kj.of Kt)).trans P1),?_,?_,?_,SE,Sr,IH,?_,by simp,?_,?_,?_⟩
      ·rw [aq TK];exact Km
      ·rw [aq Qv];exact Iu
      ·rw [ae,Pq]
      ·intro p hp;rcases ZZ.mp hp with z|z
       ·exact EJ p z
       ·rw [ZT.mp z];exact z13
      ·rw [ZV,ZV,zak];omega
      ·intro x y h;rw [iW];rw [take_snoc hs] at h;rcases ZZ.mp h with z|z
       ·exact zbz _ (rev x y z)
       ·cases ZT.mp z
        exact zaL _ S2
      ·have k1:(bL (F2++[(r2,uj)])).length=(bL F2).length+r2.length:=by rw [iW,ZV,dA]
       rw [k1] at WE ⊢;rw [ZV,zak];omega
    ·have Pp:(y0,x0)∈bL F2:=C2.mp Vb;walk_at "";refine ⟨v1,v2,_,_,fs,ws,F2,W2,rfl,VN,gX _ _ DI,gX _ _ BJ,gX _ _ qc,DM.same gX,AZ.same gX,rS,EJ,Po,Iw,λx y h=>?_,ms⟩;rw [take_snoc hs] at h;rcases ZZ.mp h with z|z
     ·exact rev x y z
     ·cases ZT.mp z;exact Pp
   ·rintro σ mq ⟨v1,v2,v7,v8,fs,ws,F2,W2,rfl,sm,DI,BJ,qc,DM,AZ,rS,EJ,Po,Iw,rev,ms⟩;rw [ZK,pl,zbU (by rw [dA];exact ZQ _)] at rev;refine ⟨⟨v1,v2,_,v7,v8,fs,ws,F2,W2,rfl,kj.same (e9.trans mM) sm Pa RY R5,DI,BJ,qc,DM,AZ,rS.close rev,EJ,Po,Iw⟩,?_⟩;rw [Nr,Ir,qc,BJ];dsimp only;rw [fE,fE,ZK,ZK,ZK,ZK,AZ.1,fW.1];omega
  ·have Vd:ws=[]:=by
    cases ws with
    | nil=>rfl
    | cons a l=>simp at emp
   have YM:W=[]:=by
    have:=fW.1;rw [Vd] at this;exact zbV.mp this.symm
   subst YM;walk_at "";exact q fl fs F H8 e8 Pa NG fF st.wr F0 st.done
theorem bF:aI ["one", "other", "great", "small", "rest"] ["one", "other"] (aC dQ):=by walk_at "n"
theorem jS (D:Def K mg "common_divisor" dQ ["one", "other"]) (T:Txt K mg Z):bK P w K mg base (br P w) "common_divisor" 1 ["one", "other"] nj:=by
 refine D.c6 bF (λvs H Q E h=>?_) (λf cz A o s H vs Q E hr h=>?_)
 ·obtain ⟨a,b,rfl,_⟩:=h;rfl
 ·obtain ⟨a,b,rfl,q⟩:=h;refine ⟨_,(ah (aF (i:=2) bF.nd rfl (by walk_at "L") (aG gG (by rfl) T.abs lu (aa (pv 0) ag)))
   (ah (aF (i:=3) bF.nd rfl (by walk_at "L") (aG gG (by rfl) T.abs lu (aa (pv 1) ag)))
   (ah (jP zai (aM u9 (pv 3) af (aN _)) (ah (aF (i:=4) bF.nd rfl (by walk_at "L") (av bo (pv 2) (pv 3)))
   (ah (aF (i:=2) bF.nd rfl (by walk_at "L") (pv 3))
   (ar (aF (i:=3) bF.nd rfl (by walk_at "L") (pv 4))))))
   (ar (aK (pv 2)))))),?_⟩
  refine ⟨_,rfl,a,rfl,_,rfl,b,rfl,?_⟩;refine mr (λσ H'=>∃ (x y:Int) (r:Option V),σ=[some (.int a),some (.int b),some (.int x),some (.int y),r]/\H'=H/\0<=x/\0<=y/\Int.gcd x y=Int.gcd a b)
   (λσ _=>match σ with | [_,_,_,some (.int y),_]=>y.toNat|_=>0) ⟨_,_,_,rfl,rfl,by split<;>omega,by split<;>omega,y8 a b⟩ ?_
  ·rintro σ H' ⟨x,y,r,rfl,rfl,hx,hy,hg⟩;refine ⟨_,rfl,rfl,_,rfl,?_⟩;rw [j8,zdI];refine vx (λhz=>?_) (λhz=>?_)
   ·have hp:0<y:=by omega
    refine w_turn ?_;refine ⟨_,rfl,_,rfl,_,_,rfl,rfl,hp,_,rfl,_,rfl,⟨_,_,_,rfl,rfl,hy,zbA _ hz,?_⟩,?_⟩
    ·rw [vK x y hx hp,hg]
    ·show (x%y).toNat<y.toNat
     have:=zbe x hp;omega
   ·subst hz;refine ⟨_,rfl,?_⟩;rw [<-hg,y6 x hx] at q;exact q
theorem cS:aI ["row", "bottom", "number"] ["row"] (aC eJ):=by walk_at "n"
theorem kQ (D:Def K mg "common_bottom" eJ ["row"]) (T:Txt K mg Z) (kZ:bK P w K mg base (br P w) "common_divisor" 1 ["one", "other"] nj):bK P w K mg base (br P w) "common_bottom" 2 ["row"] kG:=by
 refine D.c6 cS (λvs H Q E h=>?_) (λf cz A o s H vs Q E hr h=>?_)
 ·obtain ⟨a,ps,fs,z,rfl,_⟩:=h;rfl
 ·obtain ⟨a,ps,fs,z,rfl,ha,pr,fq,hz,hl,q⟩:=h;refine ⟨_,(ah (aF (i:=1) cS.nd rfl (by walk_at "L") af)
   (ah (bN zai rfl (kM (pv 0)) (aE (i:=2) cS.nd rfl (by walk_at "L"))
   (ar (aF (i:=1) cS.nd rfl (by walk_at "L") (av aR (av bX (pv 1) (aA kZ hr aQ (aa (pv 1) (aa (aB c5 (pv 2) af (λ_ _=>rfl)) ag)))) (aB c5 (pv 2) af (λ_ _=>rfl))))))
   (ar (aK (pv 1))))),?_⟩
  dsimp only [cE];walk_at "";refine cH ?_;refine ⟨_,rfl,a,rfl,⟨_,SqT.of ha⟩,zi (K:=K) (a:=a) (xs:=ps.map V.ref) (λi σ H1=>∃ (b:Int) (v:Option V),σ=[some (.ref a),some (.int b),v]/\b=b8 (fs.take i)/\H1=H/\0<b/\(∀ f∈fs.take i,f.2 ∣ b)/\b.natAbs<=pd (fs.take i)/\Sz (z*i+1) b) ⟨1,none,rfl,by simp [b8],rfl,by decide,by simp,by simp [pd],by unfold Sz;exact zeq (by omega)⟩ (by rintro i σ H1 _ ⟨_,_,_,_,e,_⟩;rw [e];exact SqT.of ha) ?_ ?_⟩
  ·rintro i x σ H1 hx ⟨b,v,rfl,eb,rfl,b0,bd,bp,bz⟩;rw [ZS] at hx;obtain ⟨c,hc,rfl⟩:∃ c,ps[i]?=some c/\x=V.ref c:=by
    cases e:ps[i]? with
    | none=>rw [e] at hx;cases hx
    | some c=>rw [e] at hx;exact ⟨c,rfl,(ZO hx).symm⟩
   obtain ⟨fr,hf,jY⟩:=pr.at hc;have fm:=ZX hf;have u0:=fq.pos fr fm;have uz:=fq.bot fr fm;obtain ⟨n0,n1,n2,n3⟩:=vh b0 u0;have g0:=i6 b (show fr.2≠0 by omega);have gz:GZ b ((Int.gcd b fr.2:Nat):Int):=⟨by omega,Sz.le (uz.mono hz) (by have:=zdr b (show fr.2≠0 by omega);simpa using this)⟩;have mz:IntMulOk (b / ((Int.gcd b fr.2:Nat):Int)) fr.2:=Sz.cO (m:=10000000) (n:=9000) (Sz.mono (Sz.le bz (by
    have:(b / ((Int.gcd b fr.2:Nat):Int)).natAbs<=b.natAbs:=by
     have e1:=zdZ (show 0<=b by omega) (show 0<=((Int.gcd b fr.2:Nat):Int) by omega);have e2:=zdP ((Int.gcd b fr.2:Nat):Int) (show 0<=b by omega);omega
    exact this)) (by
     have hi:=(ZL.mp hf).1;have:z*i<=9000*1000:=zby hz (by omega);omega)) (uz.mono hz)
   walk_at "";refine ⟨b,fr.2,rfl,?_⟩;walk_at "";refine ⟨_,_,rfl,by rw [take_snoc hf,iI,<-eb],rfl,n0,λf O2=>?_,?_,?_⟩
   ·rw [take_snoc hf] at O2;rcases ZZ.mp O2 with y|y
    ·exact zdS (bd f y) n1
    ·rw [ZT.mp y];exact n2
   ·rw [take_snoc hf,dw,iF];exact zag n3 (zdW _ bp)
   ·have:=Sz.mul bz uz;refine Sz.mono (Sz.le this (by rw [zbF b];exact n3)) ?_;rw [Nat.mul_succ];omega
  ·rintro σ H1 ⟨b,v,rfl,eb,rfl,b0,bd,bp,bz⟩;have pl:=pr.len;rw [ZK,pl,zbn] at bd bp eb;subst eb;walk_at "";exact q b0 bd bp
theorem jf:aI ["row", "bottom"] ["row"] (aC gK):=by walk_at "n"
theorem pM (D:Def K mg "made_whole" gK ["row"]) (T:Txt K mg Z) (eO:bK P w K mg base (br P w) "common_bottom" 2 ["row"] kG):bK P w K mg base (br P w) "made_whole" 3 ["row"] yg:=by
 refine D.c6 jf (λvs H Q E h=>?_) (λf cz A o s H vs Q E hr h=>?_)
 ·obtain ⟨a,ps,fs,z,rfl,_⟩:=h;rfl
 ·obtain ⟨a,ps,fs,z,rfl,ha,pr,fq,hz,hl,q⟩:=h;have pl:=pr.len;refine ⟨_,(ah (aF (i:=1) jf.nd rfl (by walk_at "L") (aA eO hr aQ (aa (pv 0) ag)))
   (ar (aK (bH (tg:=["number"]) (fr:=[("bottom",1)]) (by walk_at "blk_ok") rfl (kM (pv 0)) (λ_ _ _ _ _=>(aE (i:=0) (show [("number":Str),("bottom":Str)].Nodup by decide +kernel) rfl (by walk_at "L"))) (λ_ _ _ _ _=>a9) (λ_ _ _ _ _=>(av aR (aB (cU (K:=K) rfl) (pv 0) af (λ_ _=>rfl)) (av bX (pv 1) (aB (cU (K:=K) rfl) (pv 0) af (λ_ _=>rfl))))))))),?_⟩
  dsimp only [cE];walk_at "";refine ⟨a,ps,fs,z,rfl,ha,pr,fq,hz,hl,λb0 bd bp=>?_⟩;obtain ⟨b,hb⟩:∃ b,b8 fs=b:=⟨_,rfl⟩;rw [hb] at b0 bd bp ⊢;walk_at "";refine bQ ?_;refine ⟨_,rfl,a,rfl,⟨_,SqT.of ha⟩,λacc aY=>?_⟩;refine j9 (K:=K) (a:=a) (xs:=ps.map V.ref) (λi σ' ys H1=>∃ (l:Wp) (v:Option V),σ'=[v,some (.int b)]/\ys=l.map V.int/\ao H H1/\H1 acc=some (.lst ys)/\Wh (fs.take i) b l)
   ⟨[],none,rfl,rfl,ao.upd aY,ae,⟨b0,by simp,λi f x h1=>by simp at h1⟩⟩ (by rintro i σ' ys H1 _ ⟨_,_,_,_,e,_⟩;exact SqT.of (e _ _ ha)) ?_ ?_
  ·rintro i x σ' ys H1 hx hi ⟨l,v,rfl,rfl,e1,a1,wh⟩;rw [ZS] at hx;obtain ⟨c,hc,rfl⟩:∃ c,ps[i]?=some c/\x=V.ref c:=by
    cases e:ps[i]? with
    | none=>rw [e] at hx;cases hx
    | some c=>rw [e] at hx;exact ⟨c,rfl,(ZO hx).symm⟩
   obtain ⟨fr,hf,jY⟩:=pr.at hc;have uk:=(ZL.mp hf).1;have fm:=ZX hf;have u0:=fq.pos fr fm;have uz:=fq.bot fr fm;have tz:=fq.top fr fm;obtain ⟨y,hy⟩:=bd fr fm;have ey:b / fr.2=y:=by rw [hy];exact zbx _ (by omega)
   have ll:l.length=i:=by rw [wh.len,Z9];omega
   have gz:GZ b fr.2:=⟨u0,uz.mono hz⟩;have mz:IntMulOk fr.1 (b / fr.2):=by
    rw [ey];refine Sz.cO (m:=9000) (n:=10000000) (tz.mono hz) ?_;have WV:y.natAbs<=pd fs:=zag (by rw [hy,zbF];exact zbZ _ (by omega)) bp;have Q9:∀ gs:List (Int×Int),(∀ f∈gs,Sz z f.2)->pd gs<=2 ^ (z*gs.length):=λgs=>by
     induction gs with
     | nil=>intro _;exact ZQ _
     | cons g gs ih=>
      intro h;rw [zbg,Nat.mul_succ,Nat.add_comm,Nat.pow_add];exact zby (zaA (h g zac)) (ih λf hf=>h f (Z5 _ hf))
    have h2:=Q9 fs fq.bot;have h3:z*fs.length<10000000:=zcd (zby hz hl) (by decide);exact zcd (zag WV h2) (Nat.pow_lt_pow_right (by decide) h3)
   have XB:=e1 _ _ jY;walk_at "";refine ⟨a1,by rw [ZK,ll];exact aD (by omega),bW hi ⟨l++[fr.1*(b / fr.2)],_,rfl,by rw [Z6];rfl,ao.fresh e1 aY,ae,⟨b0,?_,λj g x h1 h2=>?_⟩⟩⟩
   ·rw [ZV,ll,Z9,zak];omega
   ·rw [take_snoc hf] at h1;by_cases zz:j<i
    ·rw [Z0 (by rw [Z9];omega)] at h1;rw [Z0 (by omega)] at h2;exact wh.eq j g x h1 h2
    ·have jl:=(ZL.mp h2).1;rw [ZV,zak] at jl;have ej:j=i:=by omega
     subst ej;rw [Z2 (by rw [Z9];omega),Z9,Nat.min_eq_left (by omega),zdE] at h1;rw [Z2 (by omega),ll,zdE] at h2;cases h1
     cases h2
     rw [ey,hy];grind
  ·rintro σ' ys H1 ⟨l,v,rfl,rfl,e1,a1,wh⟩;rw [ZK,pl,zbn] at wh;walk_at "";subst hb;exact q acc l H1 e1 aY a1 wh bp
theorem pI:aI ["spot"] ["spot"] (aC gJ):=by walk_at "n"
theorem pL (D:Def K mg "whole_spot" gJ ["spot"]) (T:Txt K mg Z) (eO:bK P w K mg base (br P w) "common_bottom" 2 ["row"] kG) (tf:bK P w K mg base (br P w) "made_whole" 3 ["row"] yg):bK P w K mg base (br P w) "whole_spot" 4 ["spot"] uH:=by
 refine D.c6 pI (λvs H Q E h=>?_) (λf cz A o s H vs Q E hr h=>?_)
 ·obtain ⟨a,ps,fs,z,rfl,_⟩:=h;rfl
 ·obtain ⟨a,ps,fs,z,rfl,ha,pr,fq,hz,hl,q⟩:=h;refine ⟨_,(ar (aK (av sH (aA tf hr aQ (aa (pv 0) ag)) (cu (aa (aA eO hr aQ (aa (pv 0) ag)) ag))))),?_⟩
  try dsimp only [cE]
  walk_at "";refine ⟨a,ps,fs,z,rfl,ha,pr,fq,hz,by omega,λt l H1 e1 f1 h1 wh bp=>?_⟩;walk_at "";refine ⟨a,ps,fs,z,rfl,e1 _ _ ha,pr.same e1,fq,hz,by omega,λb0 bd _=>?_⟩;walk_at "";refine ⟨zaA (aD (show 1<=1000 by decide)),λp hp=>?_⟩;have e2:ao H1 (upd H1 p (.lst [.int (b8 fs)])):=ao.upd hp;have h2:upd H1 p (.lst [.int (b8 fs)]) p=some (.lst ([b8 fs].map V.int)):=ae;generalize upd H1 p (.lst [.int (b8 fs)])=H2 at e2 h2 ⊢;refine ⟨t,p,_,_,rfl,rfl,e2 _ _ h1,h2,?_,λt2 T9=>?_⟩
  ·rw [ZK,ZK,wh.len];exact zaA (aD (by simp;omega))
  ·refine q t2 l _ ((e1.trans e2).trans (ao.upd T9)) (e1.free (e2.free T9)) ?_ wh bd;rw [ae,Z6]
theorem B8:aI ["one", "other"] ["one", "other"] (aC r9):=by walk_at "n"
theorem CU (D:Def K mg "below" r9 ["one", "other"]) (T:Txt K mg Z):bK P w K mg base (br P w) "below" 1 ["one", "other"] uP:=by
 refine D.c6 B8 (λvs H Q E h=>?_) (λf cz A o s H vs Q E hr h=>?_)
 ·obtain ⟨a,b,f,g,rfl,_⟩:=h;rfl
 ·obtain ⟨a,b,f,g,rfl,ha,hb,z1,z2,z3,z4,q⟩:=h;have m1:IntMulOk f.1 g.2:=Sz.cO (m:=9000) (n:=9000) z1 z4;have m2:IntMulOk g.1 f.2:=Sz.cO (m:=9000) (n:=9000) z3 z2;refine ⟨_,(ar (aK (eW lH (av aR (aB c5 (pv 0) af (λ_ _=>rfl)) (aB c5 (pv 1) af (λ_ _=>rfl))) (av aR (aB c5 (pv 1) af (λ_ _=>rfl)) (aB c5 (pv 0) af (λ_ _=>rfl))) (aN _)))),?_⟩
  try dsimp only [cE]
  walk_at "";exact q
theorem fg:aI ["one", "other", "first", "second"] ["one", "other"] (aC gc):=by walk_at "n"
theorem nO (D:Def K mg "comes_ahead" gc ["one", "other"]) (T:Txt K mg Z) (Ge:bK P w K mg base (br P w) "below" 1 ["one", "other"] uP):bK P w K mg base (br P w) "comes_ahead" 2 ["one", "other"] uR:=by
 refine D.c6 fg (λvs H Q E h=>?_) (λf cz A o s H vs Q E hr h=>?_)
 ·obtain ⟨a,b,p,r,rfl,_⟩:=h;rfl
 ·obtain ⟨a,b,p,r,rfl,⟨ps,ha,pr,lp⟩,⟨rs,hb,rr,lr⟩,zp,zr,q⟩:=h;refine ⟨_,(ah (bN zai rfl (Fw T.zip (aa (pv 0) (aa (pv 1) ag))) (kN (n:=2) rfl (bI (aE (i:=2) fg.nd rfl (by walk_at "L")) (bI (aE (i:=3) fg.nd rfl (by walk_at "L")) fO)))
   (ar (bU (aM (sG hr.units) (pv 2) (pv 3) (aN _)) (ar (aK (aA Ge hr aQ (aa (pv 2) (aa (pv 3) ag))))) aX)))
   (ar (aK dv))),?_⟩
  try dsimp only [cE]
  have Wx:=pr.len;have Zc:=rr.len;refine TW ?_;refine cH ?_;refine aO (UV rfl (aO (UV rfl (a7 ?_))));refine ⟨a,b,rfl,⟨_,SqT.of ha⟩,⟨_,SqT.of hb⟩,?_⟩;refine DC (K:=K) (a:=a) (b:=b) (xs:=ps.map V.ref) (ys:=rs.map V.ref) (λi σ H1=>∃ v1 v2,σ=[some (.ref a),some (.ref b),v1,v2]/\ao H H1/\p.take i=r.take i) ⟨none,none,rfl,ao.refl _,by simp⟩ (by rw [ZK,ZK];omega) (by rintro i σ H1 _ ⟨_,_,_,e,_⟩;exact ⟨SqT.of (e _ _ ha),SqT.of (e _ _ hb)⟩) ?_ ?_
  ·rintro i x y t σ H1 hx hy ⟨v1,v2,rfl,e1,tk⟩ ht;rw [ZS] at hx hy;obtain ⟨c,hc,rfl⟩:∃ c,ps[i]?=some c/\x=V.ref c:=by
    cases e:ps[i]? with
    | none=>rw [e] at hx;cases hx
    | some c=>rw [e] at hx;exact ⟨c,rfl,(ZO hx).symm⟩
   obtain ⟨d,hd,rfl⟩:∃ c,rs[i]?=some c/\y=V.ref c:=by
    cases e:rs[i]? with
    | none=>rw [e] at hy;cases hy
    | some c=>rw [e] at hy;exact ⟨c,rfl,(ZO hy).symm⟩
   obtain ⟨ff,hf,Ux⟩:=pr.at hc;obtain ⟨gg,hg,Uw⟩:=rr.at hd;have e2:ao H1 (upd H1 t (.tup [.ref c,.ref d])):=ao.upd ht;refine kK (SqT.of ae) rfl ?_;generalize upd H1 t (.tup [.ref c,.ref d])=H2 at e2 ⊢;have gX:=e1.trans e2;walk_at "";refine ⟨_,_,uW (gX _ _ Ux),uW (gX _ _ Uw),lE _,lE _,?_⟩;rw [ZW rfl,DU];walk_at "";refine vx (λne=>?_) (λeq=>?_)
   ·walk_at "";refine ⟨c,d,ff,gg,rfl,gX _ _ Ux,gX _ _ Uw,(zp ff (ZX hf)).1,(zp ff (ZX hf)).2,(zr gg (ZX hg)).1,(zr gg (ZX hg)).2,?_⟩;walk_at "";rw [<-Ef tk hf hg ne];exact q H2 gX
   ·walk_at "";refine ⟨_,_,rfl,gX,?_⟩;rw [take_snoc hf,take_snoc hg,tk,eq]
  ·rintro σ H1 ⟨v1,v2,rfl,e1,tk⟩;rw [ZK,Wx,zbn,zbU (by omega)] at tk;walk_at "";have:=q H1 e1;rw [tk,kb] at this;exact this
theorem g9:aI ["points", "unlike"] ["points"] (aC fw):=by walk_at "n"
theorem lT (D:Def K mg "put_in_order" fw ["points"]) (T:Txt K mg Z) (hB:Bm mg base) (p4:bK P w K mg base (br P w) "comes_ahead" 2 ["one", "other"] uR):bK P w K mg base (br P w) "put_in_order" 6 ["points"] (uJ Z):=by
 refine D.RJ T.lam g9 (λvs H Q E h=>?_) (λf A outer s H vs Q E hC hr h=>?_)
 ·obtain ⟨a,as,Ps,rfl,_⟩:=h;rfl
 ·obtain ⟨a,as,Ps,rfl,pt,tb,pn,pz,q⟩:=h;refine ⟨_,(ah (gQ (i:=1) g9.nd rfl (by walk_at "L") (tg:=["number", "point"]) (fr:=[("points",0)]) (by walk_at "blk_ok") rfl (yF T.enumerate (aa (pv 0) ag)) (λ_ _ _ _ _=>(sA (K:=K) rfl (n:=2) rfl (bI (aE (i:=0) (show [("number":Str),("point":Str),("points":Str)].Nodup by decide +kernel) rfl (by walk_at "L")) (bI (aE (i:=1) (show [("number":Str),("point":Str),("points":Str)].Nodup by decide +kernel) rfl (by walk_at "L")) fO)))) (λ_ _ _ _ _=>(gw (aM eQ (Jm (K:=K) rfl zaw PySem.F.slot_list_index PySem.F.type_list_index (by exact Au hr.units) (pv 2) (aa (pv 1) ag)) (pv 0) (aN _)))) (λ_ _ _ _ _=>(pv 0)))
   (ar (aK (wX (x:= "number") (fr:=[("points",0)]) (by walk_at "lam_ok") hr rfl hC hB (aa (pv 1) ag) (by intro _ _ _ _;have W7:=λenv=>df.deeper (df.in1 (df.in1 hr)) env;exact (aG (Bi (K:=K) rfl) (by rfl) T.len cQ (aa (bH (tg:=["one"]) (fr:=[("points",1),("number",0)]) (by walk_at "blk_ok") rfl (CI (K:=K) rfl (pv 1)) (λ_ _ _ _ _=>(aE (i:=0) (show [("one":Str),("points":Str),("number":Str)].Nodup by decide +kernel) rfl (by walk_at "L"))) (λ_ _ _ _ _=>(gw (dG (aA p4 (W7 _) aQ (aa (pv 0) (aa (aB (fG (K:=K) rfl) (pv 1) (pv 2) (λ_ _=>rfl)) ag)))))) (λ_ _ _ _ _=>(pv 0))) ag))) rfl T.sorted)))),?_⟩
  try dsimp only [cE]
  have len:=pt.2.1;have hP:∀ p∈Ps,p.length=3/\∀ f∈p,Dt.Lw f:=λp hp=>⟨(pz p hp).1,(pz p hp).2.2⟩;have gd:∀ {i} (hi:i<Ps.length),Ps.getD i []=Ps[i]:=λ{i} hi=>by rw [ZP,ZJ hi];rfl
  refine TW (T0 (bQ ?_));refine aO (UV rfl (a7 ?_));refine ⟨a,rfl,⟨_,aH.of pt.1⟩,λacc aY=>?_⟩;refine Ba (K:=K) (a:=a) (xs:=as.map V.ref) (λm σ' ys H1=>∃ v0 v1,σ'=[v0,v1,some (.ref a)]/\ys=(ri (un Ps m)).map V.int/\ao H H1/\H1 acc=some (.lst ys)) ⟨none,none,rfl,rfl,ao.upd aY,ae⟩ (by rintro m σ' ys H1 _ ⟨_,_,_,_,e,_⟩;exact aH.of (e _ _ pt.1)) ?_ ?_
  ·rintro m x t σ' ys H1 hx hm ⟨v0,v1,rfl,rfl,e1,a1⟩ ht;rw [ZK] at hm;have iK:m<Ps.length:=by omega
   obtain ⟨b,hb,PN⟩:=pt.at iK;have ex:x=V.ref b:=by rw [ZS,hb] at hx;exact (ZO hx).symm
   subst ex;have e2:ao H1 (upd H1 t (.tup [.int (m:Int),.ref b])):=ao.upd ht;refine kK (SqT.of ae) rfl ?_;generalize upd H1 t (.tup [.int (m:Int),.ref b])=H2 at e2 ⊢;have gX:=e1.trans e2;have Eo:=pt.same gX;walk_at "";refine ⟨.inl ⟨rfl,_,aH.of Eo.1⟩,?_⟩;walk_at "";have mP:Ps[m]∈Ps:=Z4 iK;have kl:=idxOf_lt_length_of_mem mP;refine ⟨a,.ref b,as,Ps.map eG,eG Ps[m],Ps.idxOf Ps[m],eG Ps[m],rfl,rfl,Eo.1,(PN.same gX).su,iq _,Eo.D2,by rw [ZS,ZJ kl,getElem_idxOf kl];rfl,by rw [oN];exact zad rfl,λj e' hj he=>?_,?_⟩
   ·rw [ZS] at he;cases z:Ps[j]? with
    | none=>rw [z] at he;cases he
    | some p=>
     rw [z] at he;cases he
     rw [oN];exact zah λw=>xy hj (by rw [z,w])
   ·walk_at "";have us:=EM Ps m;rw [gd iK] at us;have ul:(un Ps m).length<=m:=by
     unfold un;exact zag (zcX _ _) (by rw [zaN];exact ZQ _)
    refine if2 (λh=>?_) (λh=>?_)
    ·have h:Ps.idxOf Ps[m]=m:=by omega
     rw [ZW h] at us;walk_at "";refine ⟨e2 _ _ a1,by rw [ZK,bu];exact aD (by omega),bW (by rw [ZK];exact hm) ⟨_,_,rfl,by rw [us];unfold ri;rw [Z6,Z6];rfl,ao.fresh gX aY,ae⟩⟩
    ·have h:¬Ps.idxOf Ps[m]=m:=λz=>h (by rw [z]);rw [ZU h,zbr] at us;exact bW (by rw [ZK];exact hm) ⟨_,_,rfl,by rw [us],gX,e2 _ _ a1⟩
  ·rintro σ' ys H1 ⟨v0,v1,rfl,rfl,e1,a1⟩;walk_at "";rw [ZK,len] at a1;have ul:(un Ps Ps.length).length<=Ps.length:=by
    unfold un;exact zag (zcX _ _) (by rw [zaN];exact ZQ _)
   have pG:=cF.same tb e1;refine aO (UV rfl (a7 ⟨acc,ri (un Ps Ps.length),λn=>(cnt Ps (Ps.getD n.toNat []):Nat),rfl,aH.of a1,by rw [bu];omega,pG,λH2 sm pE n hn=>?_,λD jC H' sm pE hD pm Hk=>?_⟩))
   ·have Dr:∃ k:Nat,k<Ps.length/\n=(k:Int):=by
     unfold ri at hn;rw [mem_map] at hn;obtain ⟨k,hk,rfl⟩:=hn;unfold un at hk;rw [mem_filter,zeh] at hk;exact ⟨k,hk.1,rfl⟩
    obtain ⟨k,hk,rfl⟩:=Dr;have p2:=fK.ym sm pG (pt.same e1);obtain ⟨c,RH,hc,VD⟩:=p2.ix hk;have mk:Ps[k]∈Ps:=Z4 hk;refine nE (aO (bQ ?_));refine bM (UV rfl ⟨a,rfl,⟨_,aH.of p2.1⟩,λSo HQ=>?_⟩);refine bT (K:=K) (a:=a) (xs:=as.map V.ref) (λm σ' ys H3=>∃ v0,σ'=[v0,some (.ref a),some (.int (k:Int))]/\ys.length=((Ps.take m).filter λr=>lO r Ps[k]).length/\ao H2 H3/\H3 So=some (.lst ys)) ⟨none,rfl,rfl,ao.upd HQ,ae⟩ (by rintro m σ' ys H3 _ ⟨_,_,_,e,_⟩;exact aH.of (e _ _ p2.1)) ?_ ?_
    ·rintro m x σ' ys H3 hx hm ⟨v0,rfl,yl,e3,a3⟩;have iK:m<Ps.length:=by rw [ZK] at hm;omega
     obtain ⟨b,hb,PN⟩:=p2.at iK;have ex:x=V.ref b:=by rw [ZS,hb] at hx;exact (ZO hx).symm
     subst ex;have mm:Ps[m]∈Ps:=Z4 iK;walk_at "";refine aT (aH.of (e3 _ _ p2.1)) RH ?_;walk_at "";refine ⟨b,c,Ps[m],Ps[k],rfl,PN.same e3,VD.same e3,(pz _ mm).2.1,(pz _ mk).2.1,λH4 e4=>?_⟩;have tk:Ps.take (m+1)=Ps.take m++[Ps[m]]:=by rw [zbQ,ZJ iK];rfl
     have fl:((Ps.take m).filter λr=>lO r Ps[k]).length<=m:=zag (zcX _ _) (by rw [Z9];omega);walk_at "";refine WN (λh=>?_) (λh=>?_)
     ·walk_at "";refine ⟨e4 _ _ a3,by rw [yl];exact aD (by omega),bW hm ⟨_,rfl,?_,ao.fresh (e3.trans e4) HQ,ae⟩⟩;rw [tk,zdd,ZV,ZV,yl,zcQ,ZW h]
      rfl
     ·refine bW hm ⟨_,rfl,?_,e3.trans e4,e4 _ _ a3⟩;rw [tk,zdd,ZV,yl,zcQ,ZU (by rw [h];decide)]
      rfl
    ·rintro σ' ys H3 ⟨v0,rfl,yl,e3,a3⟩;rw [ZK,len,zbn] at yl;refine a7 ⟨_,_,rfl,.inl ⟨_,aH.of a3,rfl⟩,?_,e3⟩;rw [yl];show _=V.int ((cnt Ps (Ps.getD k []):Nat):Int);rw [gd hk]
     rfl
   ·obtain ⟨l,rfl⟩:∃ l:List Nat,jC=ri l:=⟨jC.map Int.toNat,by
     unfold ri;rw [zdR];refine (map_id _).symm.trans (zbG λx hx=>?_);have:=(pm.mem_iff).mp hx;unfold ri at this;rw [mem_map] at this;obtain ⟨k,_,rfl⟩:=this;simp⟩
    have eD:ao H' (upd H' D (.lst ((ri l).map V.int))):=ao.upd hD;refine q D l _ ((fJ.of e1).trans (sm.trans (fJ.of eD))) (pE.same eD) (e1.free (fJ.free sm pE hD)) ae ?_;have V7:l.Perm (un Ps Ps.length):=by
     have:=pm.map Int.toNat
     unfold ri at this;rw [zdR,zdR] at this;have id:∀ l:List Nat,l.map (Int.toNat ∘ λ(i:Nat)=>(i:Int))=l:=λl=>(zbG λx _=>by simp).trans (map_id _);rw [id,id] at this;exact this
    refine Ord.of hP V7 ?_;unfold ri at Hk;rw [zbY] at Hk;refine zcH (λh=>?_) Hk;simpa using h
theorem bC:aI ["points", "numbers", "found", "ring", "plane"] ["points"] (aC cZ):=by walk_at "n"
theorem iG (D:Def K mg "lands_with_planes" cZ ["points"]) (T:Txt K mg Z) (pY:bK P w K mg base (br P w) "least_begun" 1 ["ring"] uL) (sY:bK P w K mg base (br P w) "whole_spot" 4 ["spot"] uH) (AU:bK P w K mg base (br P w) "wrapped" 5 ["points"] (mX Z.Flat)) (oH:bK P w K mg base (br P w) "put_in_order" 6 ["points"] (uJ Z)):bK P w K mg base (br P w) "lands_with_planes" 7 ["points"] (wJ Z):=by
 refine D.AS bC (λvs H Q E h=>?_) (λf0 cz A o s H vs Q E hr h=>?_)
 ·obtain ⟨a,as,Pn,rfl,_⟩:=h;rfl
 ·obtain ⟨a,as,Pn,rfl,pt,tb,pn,hP,q,qE⟩:=h;refine ⟨_,(ah (bU (aM eQ (aG bJ (by rfl) T.len cQ (aa (pv 0) ag)) af (aN _)) (ar (u4 PySem.F.excBase_ValueError T.x_Flat T.xP rfl (aa CL ag) Co)) aX)
   (ah (aF (i:=1) bC.nd rfl (by walk_at "L") (aA oH hr aQ (aa (pv 0) ag)))
   (ah (aF (i:=2) bC.nd rfl (by walk_at "L") (cu ag))
   (ah (bN PassesOwn.leaving rfl (bq (aA AU hr u7 (aa (bH (tg:=["number"]) (fr:=[("points",0)]) (by walk_at "blk_ok") rfl (bq (pv 1)) (λ_ _ _ _ _=>(aE (i:=0) (show [("number":Str),("points":Str)].Nodup by decide +kernel) rfl (by walk_at "L"))) (λ_ _ _ _ _=>a9) (λ_ _ _ _ _=>(aA sY hr aQ (aa (aB (fG (K:=K) rfl) (pv 1) (pv 0) (λ_ _=>rfl)) ag)))) ag))) (kN (n:=2) rfl (bI (aE (i:=3) bC.nd rfl (by walk_at "L")) (bI (aE (i:=4) bC.nd rfl (by walk_at "L")) fO)))
   (ar (dY (jg zaw zaV zaW cT (pv 2) (aa (dq (aa (aA pY hr aQ (aa (bH (tg:=["corner"]) (fr:=[("numbers",1)]) (by walk_at "blk_ok") rfl (bq (pv 3)) (λ_ _ _ _ _=>(aE (i:=0) (show [("corner":Str),("numbers":Str)].Nodup by decide +kernel) rfl (by walk_at "L"))) (λ_ _ _ _ _=>a9) (λ_ _ _ _ _=>(aB (fG (K:=K) rfl) (pv 1) (pv 0) (λ_ _=>rfl)))) ag)) (aa (pv 4) ag))) ag)))))
   (ar (aK (aG (tS hr.units) (by rfl) T.sorted rD (aa (pv 2) ag)))))))),?_⟩
  try dsimp only [cE]
  have len:=pt.2.1;walk_at "";refine ⟨_,_,rfl,.inl ⟨_,aH.of pt.1,rfl⟩,?_⟩;walk_at "";refine if2 (λh0=>?_) (λh0=>?_)
  ·walk_at "";have e0:Pn=[]:=zbV.mp (by rw [ZK,len] at h0;omega);exact ⟨zaA (aD (show 1<=1000 by decide)),qE (.inl e0) H (fJ.refl _ _) tb⟩
  ·have P0:Pn≠[]:=λz=>h0 (by rw [ZK,len,z];rfl);walk_at "";refine ⟨a,as,Pn,rfl,pt,tb,by omega,λp hp=>⟨(hP p hp).len,λf hf=>⟨((hP p hp).fq.top f hf).mono (by decide),((hP p hp).fq.bot f hf).mono (by decide)⟩,(hP p hp).low⟩,λt1 l H1 PU pG f1 h1 o=>?_⟩;have V1:=fK.ym PU tb pt;have l0:l≠[]:=λz=>by
    obtain ⟨j,hj,_⟩:=o.all 0 (by have:=zbJ.mpr P0;omega);rw [z] at hj;cases hj
   have JA:=zbJ.mpr l0;have ll:l.length<=12:=by
    have:=jx (l:=l) (r:=List.range Pn.length) o.nodup λx hx=>zaj.mpr (o.lt x hx);rw [zaN] at this;omega
   walk_at "";refine ⟨Z7 _,λfd O1=>?_⟩;have e2:ao H1 (upd H1 fd (.lst [])):=ao.upd O1;have h2:upd H1 fd (.lst []) fd=some (.lst (([]:XL).map V.ref)):=ae;generalize upd H1 fd (.lst [])=H2 at e2 h2 ⊢;have Eo:=V1.same e2;have n1:t1≠fd:=λz=>by rw [z,O1] at h1;cases h1
   walk_at "";refine cH (bM (iE (aO (bQ ?_))));refine bM (UV rfl ⟨t1,rfl,⟨_,aH.of (e2 _ _ h1)⟩,λacc aY=>?_⟩);refine bT (K:=K) (a:=t1) (xs:=(ri l).map V.int) (λm σ' ys H3=>∃ (v:Option V) (bs:XL),σ'=[v,some (.ref a)]/\ys=bs.map V.ref/\ao H2 H3/\cX H3 acc bs (rws Pn (l.take m))/\acc∉bs)
    ⟨none,[],rfl,rfl,ao.upd aY,⟨ae,rfl,λi b r z=>by simp at z⟩,by simp⟩ (by rintro m σ' ys H3 _ ⟨_,_,_,_,e,_⟩;exact aH.of (e _ _ (e2 _ _ h1))) ?_ ?_
   ·rintro m x σ' ys H3 hx hm ⟨v,bs,rfl,rfl,e3,g3,na⟩;rw [ZK,bu] at hm;have ex:x=V.int (l[m]:Int):=by
     unfold ri at hx;rw [ZS,ZS,ZJ hm] at hx;exact (ZO hx).symm
    subst ex;have lm:=o.lt _ (Z4 hm);obtain ⟨c,RH,hc,YK,Bz,V2,_⟩:=(Eo.same e3).ix lm;have pc:=hP _ (Z4 lm);walk_at "";refine aT (aH.of (Eo.same e3).1) RH ?_;walk_at "";refine ⟨c,YK,Pn[l[m]],700,rfl,Bz,V2,pc.fq,by decide,by rw [pc.len];decide,λb row H4 e4 f4 h4 wh bd=>?_⟩;rw [LG pc wh bd] at h4;have gl:=g3.len;rw [yp,Z9] at gl;have g4:=g3.same e4;have nb:b≠acc:=λz=>by rw [z,g3.top] at f4;cases f4
    walk_at "";refine ⟨g4.top,by rw [ZK];exact aD (by omega),bW (by rw [ZK,bu];exact hm) ⟨_,bs++[b],rfl,by rw [Z6];rfl,ao.fresh (e3.trans e4) aY,?_,?_⟩⟩
    ·have:=g4.snoc na nb h4;have ek:rws Pn (l.take (m+1))=rws Pn (l.take m)++[l4 (wv Pn[l[m]])]:=by
      unfold rws;rw [zbQ,ZJ hm,Z6];show _++[l4 (wv (Pn.getD l[m] []))]=_;rw [ZP,ZJ lm]
      rfl
     rw [ek];exact this
    ·intro z;rcases ZZ.mp z with y|y
     ·exact na y
     ·exact nb (ZT.mp y).symm
   ·rintro σ' ys H3 ⟨v,bs,rfl,rfl,e3,g3,na⟩;rw [ZK,bu,zbn] at g3;have C:=o.zG hP;have rl:=yp Pn l;refine a7 ⟨acc,bs,rws Pn l,rfl,g3,o.rows hP,by omega,by omega,by rw [rl];exact C,λnf t4 fs F H4 e4 f4 h4 R6 W ne rev=>?_,λfl H4 e4=>?_⟩
    ·rw [rl] at nf W;have W:Wr (cV Pn l) l.length F:=W;have NF:=W.DL C;have lF:F.length<=48:=by
      have:l.length*l.length<=12*12:=zby ll ll;omega
     have pos:∀ p∈F,0<p.1.length:=λp hp=>(W.fc p hp).2.pos;have BA:=(e2.trans e3).trans e4;have Ou:=cF.same pG BA;have O8:H4 fd=some (.lst (([]:XL).map V.ref)):=e4 _ _ (e3 _ _ h2);have yb:H4 t1=some (.lst ((ri l).map V.int)):=BA _ _ h1;have n4:t4≠fd:=λz=>by rw [z] at f4;rw [e3 _ _ h2] at f4;cases f4
     refine ⟨t4,rfl,⟨_,aH.of h4⟩,?_⟩;refine dJ (K:=K) (a:=t4) (xs:=fs.map V.ref) (λm σ' H5=>∃ (v3 v4:Option V) (gs:XL) (G:List (List Int×V4)),σ'=[some (.ref a),some (.ref t1),some (.ref fd),v3,v4]/\BB fd H4 H5/\H5 fd=some (.lst (gs.map V.ref))/\TB Z H5/\iV H5 gs G/\Rn l (F.take m) G)
      ⟨none,none,[],[],rfl,BB.of (ao.refl _),O8,Ou,⟨rfl,λj b g z=>by simp at z⟩,by rw [take_zero];exact Rn.nil l⟩ (by rintro m σ' H5 _ ⟨_,_,_,_,_,sm,_⟩;exact aH.of (sm _ _ n4 h4)) ?_ ?_
     ·rintro m x σ' H5 hx ⟨v3,v4,gs,G,rfl,sm,h5,K1,fi,rn⟩;obtain ⟨b,hb,rfl⟩:∃ c,fs[m]?=some c/\x=V.ref c:=by
       rw [ZS] at hx;cases e:fs[m]? with
       | none=>rw [e] at hx;cases hx
       | some c=>rw [e] at hx;exact ⟨c,rfl,(ZO hx).symm⟩
      have hm:=(ZL.mp hb).1;have OY:m<F.length:=by rw [<-R6.1];exact hm
      obtain ⟨r,qq,k1,k2,k3⟩:=R6.2 m b F[m] hb (ZJ OY);have pm:=pos _ (Z4 OY);obtain ⟨Fm,Rm⟩:=W.fc _ (Z4 OY);have Xo:∀ g∈G,g.1≠[]:=λg hg=>by
       obtain ⟨j,hj⟩:=zcE.mp hg;have jl:=(ZL.mp hj).1;rw [rn.len] at jl;obtain ⟨_,k,hk,eg,_⟩:=rn.is j g _ hj (ZJ jl);intro z;have:=zaO List.length eg;rw [z,dX (by rw [gk];omega),gk,zcM] at this;omega
      have VR:ri F[m].1≠[]:=λz=>by have:=zaO List.length z;rw [bu] at this;simp at this;rw [this] at pm;simp at pm
      have nb:b≠fd:=λz=>by rw [z,O8] at k1;cases k1
      have nr:r≠fd:=λz=>by rw [z,O8] at k2;exact cN VR (ZO k2)
      have nq:qq≠fd:=λz=>by rw [z,O8] at k3;exact cN (λy=>by cases y) (ZO k3)
      have Lb:=sm _ _ nb k1;have TY:=sm _ _ nr k2;have WI:=sm _ _ nq k3;have Vy:=sm _ _ n1 yb;have Y0:F[m].1.length<=12:=by
       have:=jx (l:=F[m].1) (r:=List.range l.length) Rm.nd λx hx=>zaj.mpr (Rm.on x hx).1;rw [zaN] at this;omega
      refine kK (SqT.of Lb) rfl ?_;walk_at "";refine ⟨.inl ⟨rfl,_,aH.of h5⟩,?_⟩;refine aO (Ho (aO (iE (aO (bQ ?_)))));refine bM (UV rfl ⟨r,rfl,⟨_,aH.of TY⟩,λN4 Dx=>?_⟩);refine bT (K:=K) (a:=r) (xs:=(ri F[m].1).map V.int) (λi σ' ys H6=>∃ (v:Option V),σ'=[v,some (.ref t1)]/\ys=(rr l (F[m].1.take i)).map V.int/\ao H5 H6/\H6 N4=some (.lst ys))
       ⟨none,rfl,by simp [rr,ri],ao.upd Dx,ae⟩ (by rintro i σ' ys H6 _ ⟨_,_,_,e,_⟩;exact aH.of (e _ _ TY)) ?_ ?_
      ·rintro i x σ' ys H6 hx hi ⟨v,rfl,rfl,e6,a6⟩;rw [ZK,bu] at hi;have ex:x=V.int (F[m].1[i]:Int):=by
        unfold ri at hx;rw [ZS,ZS,ZJ hi] at hx;exact (ZO hx).symm
       subst ex;have il:=(Rm.on _ (Z4 hi)).1;walk_at "";refine aT (aH.of (e6 _ _ Vy)) (eA (j:=F[m].1[i]) (v:=V.int (l[F[m].1[i]]:Int)) (by unfold ri;rw [ZS,ZS,ZJ il];rfl)) ?_;refine ⟨a6,by rw [ZK,gk,Z9];exact aD (by omega),bW (by rw [ZK,bu];exact hi) ⟨_,rfl,?_,ao.fresh e6 Dx,ae⟩⟩;unfold rr ri;rw [zbQ,ZJ hi,Z6,Z6,Z6];show _=_++[V.int (at' l F[m].1[i]:Int)];unfold at';rw [ZP,ZJ il]
       rfl
      ·rintro σ' ys H6 ⟨v,rfl,rfl,e6,a6⟩;rw [ZK,bu,zbn] at a6;refine a7 ⟨N4,rr l F[m].1,rfl,a6,by rw [gk];exact pm,by rw [gk];omega,λgb k H7 e7 f7 h7 hk le=>?_⟩;rw [gk] at hk;have Lj:=e6.trans e7;refine aO (UV rfl (a7 ?_));refine ⟨zaA (aD (show 2<=1000 by decide)),λtp vz=>?_⟩;have e8:ao H7 (upd H7 tp (.tup [.ref gb,.ref qq])):=ao.upd vz;have h8:upd H7 tp (.tup [.ref gb,.ref qq]) tp=some (.tup [.ref gb,.ref qq]):=ae;generalize upd H7 tp (.tup [.ref gb,.ref qq])=H8 at e8 h8 ⊢;have Ks:=Lj.trans e8;have gl:gs.length<=48:=by rw [fi.1,rn.len,Z9];omega
       refine a7 (eC (Ks _ _ h5) (by rw [ZK];exact aD (by omega)) ?_);have ls:o9 (du (rr l F[m].1) k):=Az (by rw [gk];exact hk) le;have Yj:iV H8 (gs++[tp]) (G++[(du (rr l F[m].1) k,F[m].2)]):=iV.snoc (fi.same Ks) h8 (e8 _ _ h7) (Ks _ _ WI);have VS:Rn l (F.take (m+1)) (G++[(du (rr l F[m].1) k,F[m].2)]):=by
        rw [zbQ,ZJ OY];exact rn.snoc rfl hk rfl ls
       have Wo:∀ g∈G++[(du (rr l F[m].1) k,F[m].2)],g.1≠[]:=λg hg=>by
        rcases ZZ.mp hg with z|z
        ·exact Xo g z
        ·rw [ZT.mp z];intro y;have:=zaO List.length y;dsimp only at this;rw [dX (by rw [gk];omega),gk] at this;simp at this;rw [this] at pm;simp at pm
       refine ⟨_,_,gs++[tp],G++[(du (rr l F[m].1) k,F[m].2)],rfl,(sm.trans (BB.of Ks)).trans BB.upd,by rw [ae,Z6];rfl,cF.upd (cF.same K1 Ks) (Ks _ _ h5),iV.upd Yj Wo (Ks _ _ h5),VS⟩
     ·rintro σ' H5 ⟨v3,v4,gs,G,rfl,sm,h5,K1,fi,rn⟩;rw [ZK,R6.1,zbn] at rn;have gl:=fi.1;have YZ:=rn.len;walk_at "";refine ⟨fd,gs,G.map (·.1),rfl,aH.of h5,by rw [ZK];exact gl,λi b g h1 h2=>?_,rn.nodup W o.nodup,by omega,λp t hA up ht=>?_⟩
      ·rw [ZS] at h2;cases e:G[i]? with
       | none=>rw [e] at h2;cases h2
       | some g'=>
        rw [e] at h2;cases h2
        obtain ⟨r,qq,x1,x2,x3⟩:=fi.2 i b g' h1 e;exact ⟨r,qq,x1,x2⟩
      ·rw [ZK] at hA up;have e9:ao H5 (upd H5 t (.lst ((L2.pick 0 gs p).map V.ref))):=ao.upd ht;have S9:fJ Z.tab H H5:=λx ob nx hx=>by
        have a1:=PU x ob nx hx;have nf:x≠fd:=λz=>by rw [z,O1] at a1;cases a1
        exact sm _ _ nf (BA _ _ a1)
       have VF:=S9.trans (fJ.of e9);have Ot:=cF.same K1 e9;exact q t _ l _ _ _ (BC.of o nf W ne rev rn hA up) VF Ot (fJ.free S9 K1 ht) ae ((fi.pick hA).same e9)
    ·rw [rl] at fl;have BA:=(e2.trans e3).trans e4;exact qE (.inr ⟨l,o,fl⟩) H4 (PU.trans (fJ.of BA)) (cF.same pG BA)
theorem iu:aI ["ring", "least"] ["ring"] (aC fZ):=by walk_at "n"
theorem nM (D:Def K mg "least_begun" fZ ["ring"]) (T:Txt K mg Z):bK P w K mg base (br P w) "least_begun" 1 ["ring"] uL:=by
 refine D.c6 iu (λvs H Q E h=>?_) (λf cz A o s H vs Q E hr h=>?_)
 ·obtain ⟨a,r,rfl,_⟩:=h;rfl
 ·obtain ⟨a,r,rfl,ha,h0,h1,q⟩:=h;refine ⟨_,(ah (aF (i:=1) iu.nd rfl (by walk_at "L") (aG (rB rfl) (by rfl) T.min lq (aa (pv 0) ag)))
   (ar (aK (aG (rA rfl hr.units) (by rfl) T.min lq (aa (bH (tg:=["k"]) (fr:=[("ring",0),("least",1)]) (by walk_at "blk_ok") rfl (bg rfl T.range (aa (aG bJ (by rfl) T.len cQ (aa (pv 0) ag)) ag)) (λ_ _ _ _ _=>(aE (i:=0) (show [("k":Str),("ring":Str),("least":Str)].Nodup by decide +kernel) rfl (by walk_at "L"))) (λ_ _ _ _ _=>(gw (aM eQ (aB (fG (K:=K) rfl) (pv 1) (pv 0) (λ_ _=>rfl)) (pv 2) (aN _)))) (λ_ _ _ _ _=>(av sH (dH (jK (K:=K) rfl) (pv 1) (eU (pv 0)) eV) (dH (jK (K:=K) rfl) (pv 1) eV (eU (pv 0)))))) ag))))),?_⟩
  dsimp only [cE];walk_at "";refine ⟨a,r,rfl,aH.of ha,(λz=>by rw [z] at h0;simp at h0),λm hm hle=>?_⟩;walk_at "";refine bQ ?_;refine ⟨_,rfl,_,_,rfl,.inl ⟨_,aH.of ha,rfl⟩,(r.length:Int),by rw [ZK],by omega,by omega,?_⟩;rw [zaE];intro acc aY;refine fI (λi σ' ys H1=>∃ (bs:XL) (cs:List Nat) (v:Option V),σ'=[v,some (.ref a),some (.int m)]/\ys=bs.map V.ref/\ao H H1/\cX H1 acc bs (cs.map (du r))/\acc∉bs/\(∀ b∈bs,H b=none)/\(∀ c∈cs,c<i/\cy r c=m)/\bs.length<=i/\∀ j,j<i->cy r j=m->j∈cs)
   ⟨[],[],none,rfl,rfl,ao.upd aY,⟨ae,rfl,λi b l z=>by simp at z⟩,by simp,by simp,by simp,ZQ _,λj z=>by omega⟩ ?_ ?_
  ·rintro i σ' ys H1 hi ⟨bs,cs,v,rfl,rfl,e1,g1,na,fr,hc,hz,hj⟩;simp only [zbj];walk_at "";refine aT (aH.of (e1 _ _ ha)) (Ed (j:=i) (by omega) (by omega) (.inl rfl)) ?_;walk_at "";refine if2 (λhe=>?_) (λhe=>?_)
   ·walk_at "";refine qS (a:=a) (i:=1) (k:=0) (n:=i) (r:=r) rfl rfl (aH.of (e1 _ _ ha)) (by omega) λp1 AL=>?_;have e2:ao H1 (upd H1 p1 (.lst ((r.drop i).map V.int))):=ao.upd AL;refine yx (a:=a) (i:=1) (k:=0) (n:=i) (r:=r) rfl rfl (aH.of (e2 _ _ (e1 _ _ ha))) (by omega) λp2 xC=>?_;have e3:=e2.trans (ao.upd (o:=.lst ((r.take i).map V.int)) xC);have x1:upd (upd H1 p1 (.lst ((r.drop i).map V.int))) p2 (.lst ((r.take i).map V.int)) p1=some (.lst ((r.drop i).map V.int)):=by rw [aq (aU ae xC)];exact ae
    refine ⟨p1,p2,_,_,rfl,rfl,x1,ae,by rw [ZK,ZK,zca,Z9,zay];omega,λb hb=>?_⟩;generalize upd (upd H1 p1 (.lst ((r.drop i).map V.int))) p2 (.lst ((r.take i).map V.int))=H3 at e3 x1 hb ⊢;have e4:=e3.trans (ao.upd (o:=.lst ((r.drop i).map V.int++(r.take i).map V.int)) hb);have er:(r.drop i).map V.int++(r.take i).map V.int=(du r i).map V.int:=by unfold du;rw [Z6]
    rw [er] at e4 ⊢;have g4:=g1.same e4;have b4:upd H3 b (.lst ((du r i).map V.int)) b=some (.lst ((du r i).map V.int)):=ae;have XS:H b=none:=(e1.trans e3).free hb;have nb:b≠acc:=λz=>by rw [z] at hb;exact absurd (e3 _ _ g1.top) (by rw [hb];simp)
    have Y5:b∉bs:=λz=>by
     obtain ⟨k,hk,AN⟩:=zaS.mp z;have kl:k<(cs.map (du r)).length:=by rw [<-g1.len];exact hk
     have:=e3 _ _ (g1.row k b _ (by rw [ZJ hk,AN]) (ZJ kl));rw [hb] at this;cases this
    generalize upd H3 b (.lst ((du r i).map V.int))=H4 at e4 g4 b4 ⊢;refine ⟨g4.top,by rw [ZK];exact aD (by omega),bW hi ⟨bs++[b],cs++[i],_,rfl,by simp,ao.fresh (e1.trans e4) aY,?_,?_,?_,?_,?_,?_⟩⟩
    ·rw [Z6];exact g4.snoc na nb b4
    ·intro z;rcases ZZ.mp z with z|z
     ·exact na z
     ·exact nb (ZT.mp z).symm
    ·intro c vD;rcases ZZ.mp vD with z|z
     ·exact fr c z
     ·rw [ZT.mp z];exact XS
    ·intro c vD;rcases ZZ.mp vD with z|z
     ·have:=hc c z;exact ⟨by omega,this.2⟩
     ·rw [ZT.mp z];exact ⟨by omega,he⟩
    ·rw [ZV,zak];omega
    ·intro j Xu Bx;by_cases z:j=i
     ·rw [z];simp
     ·exact zbz _ (hj j (by omega) Bx)
   ·refine bW hi ⟨bs,cs,_,rfl,rfl,e1,g1,na,fr,λc z=>?_,by omega,λj Xu Bx=>?_⟩
    ·have:=hc c z;exact ⟨by omega,this.2⟩
    ·by_cases z:j=i
     ·rw [z] at Bx;exact absurd Bx he
     ·exact hj j (by omega) Bx
  ·rintro σ' ys H1 ⟨bs,cs,v,rfl,rfl,e1,g1,na,fr,hc,hz,hj⟩;walk_at "";obtain ⟨k,hk,AN⟩:=zaS.mp hm;have kc:k∈cs:=hj k hk (by rw [oP hk];exact AN);have c0:0<cs.length:=length_pos_of_mem kc;have zl:=g1.len;rw [ZK] at zl;refine ⟨acc,bs,cs.map (du r),rfl,aH.of g1.top,g1.len,λi b l x1 x2=>aH.of (g1.row i b l x1 x2),by omega,λi b l x1 x2 hl=>?_⟩;rw [ZS] at x2;cases ec:cs[i]? with
   | none=>rw [ec] at x2;cases x2
   | some c=>
    rw [ec] at x2;have:du r c=l:=ZO x2;subst this;have cm:=hc c (ZX ec);refine q b c H1 e1 (fr b (ZX x1)) (g1.row i b _ x1 (by rw [ZS,ec];rfl)) cm.1 λj Ur=>?_;by_cases z:cy r j=m
    ·exact hl _ (zaB.mpr ⟨j,hj j Ur z,rfl⟩)
    ·have kk:=hc k kc;refine Le.trans (hl _ (zaB.mpr ⟨k,kc,rfl⟩)) (Le.of_lt (IP kk.1 Ur ?_));have:=hle (cy r j) (Kz h0);rw [kk.2];omega
theorem nu:aI ["points"] ["points"] (aC fX):=by walk_at "n"
theorem nJ (D:Def K mg "solid_lands" fX ["points"]) (T:Txt K mg Z) (c7:bK P w K mg base (br P w) "lands_with_planes" 7 ["points"] (wJ Z)):bK P w K mg base (br P w) "solid_lands" 8 ["points"] (jI Z):=by
 refine D.AS nu (λvs H Q E h=>?_) (λf0 cz A o s H vs Q E hr h=>?_)
 ·obtain ⟨a,as,Pn,rfl,_⟩:=h;rfl
 ·obtain ⟨a,as,Pn,rfl,pt,tb,pn,hP,q,qE⟩:=h;refine ⟨_,(ar (aK (bH (tg:=["ring", "plane"]) (fr:=[]) (by walk_at "blk_ok") rfl (bq (aA c7 hr u7 (aa (pv 0) ag))) (λ_ _ _ _ _=>(sA (K:=K) rfl (n:=2) rfl (bI (aE (i:=0) (show [("ring":Str),("plane":Str)].Nodup by decide +kernel) rfl (by walk_at "L")) (bI (aE (i:=1) (show [("ring":Str),("plane":Str)].Nodup by decide +kernel) rfl (by walk_at "L")) fO)))) (λ_ _ _ _ _=>a9) (λ_ _ _ _ _=>(pv 0))))),?_⟩
  try dsimp only [cE]
  refine Hq (bQ (bM (iE (aO (UV rfl (a7 ?_))))));refine ⟨a,as,Pn,rfl,pt,tb,pn,hP,λt fs l F G H1 sl sm pG f1 h1 fi=>?_,qE⟩;have fl:=fi.1;have ZH:G.length<=48:=by
   have ll:l.length<=12:=by
    have:=jx (l:=l) (r:=List.range Pn.length) sl.ord.nodup λx hx=>zaj.mpr (sl.ord.lt x hx);rw [zaN] at this;omega
   have:=sl.wr.DL (sl.ord.zG hP);have:l.length*l.length<=12*12:=zby ll ll;rw [sl.rn.len];omega
  refine ⟨t,rfl,⟨_,aH.of h1⟩,λacc aY=>?_⟩;refine bT (K:=K) (a:=t) (xs:=fs.map V.ref) (λm σ' ys H2=>∃ (v0 v1:Option V) (bs:XL),σ'=[v0,v1]/\ys=bs.map V.ref/\ao H1 H2/\cX H2 acc bs ((G.take m).map (·.1))/\acc∉bs)
   ⟨none,none,[],rfl,rfl,ao.upd aY,⟨ae,rfl,λi b r z=>by simp at z⟩,by simp⟩ (by rintro m σ' ys H2 _ ⟨_,_,_,_,_,e,_⟩;exact aH.of (e _ _ h1)) ?_ ?_
  ·rintro m x σ' ys H2 hx hm ⟨v0,v1,bs,rfl,rfl,e2,g2,na⟩;rw [ZK] at hm;have Uj:m<G.length:=by omega
   have ex:x=V.ref fs[m]:=by
    rw [ZS,ZJ hm] at hx;exact (ZO hx).symm
   subst ex;obtain ⟨r,qq,k1,k2,k3⟩:=fi.2 m fs[m] G[m] (ZJ hm) (ZJ Uj);have gl:=g2.len;rw [ZK,Z9] at gl;have nb:r≠acc:=λz=>by rw [z,aY] at k2;cases k2
   refine kK (SqT.of (e2 _ _ k1)) rfl ?_;walk_at "";refine ⟨g2.top,by rw [ZK];exact aD (by omega),bW (by rw [ZK];exact hm) ⟨_,_,bs++[r],rfl,by rw [Z6];rfl,ao.fresh e2 aY,?_,?_⟩⟩
   ·have:=g2.snoc na nb (e2 _ _ k2);rw [zbQ,ZJ Uj,Z6];exact this
   ·intro z;rcases ZZ.mp z with y|y
    ·exact na y
    ·exact nb (ZT.mp y).symm
  ·rintro σ' ys H2 ⟨v0,v1,bs,rfl,rfl,e2,g2,na⟩;rw [ZK,fl,zbn] at g2;exact q acc bs l F G H2 sl (sm.trans (fJ.of e2)) (cF.same pG e2) (fJ.free sm pG aY) g2
theorem jM:aI ["points", "behind", "firsts", "corners", "orders", "corner", "order"] ["points"] (aC iy):=by walk_at "n"
theorem sI (D:Def K mg "solid_map" iy ["points"]) (K0:Def K mg "neighbours_behind" cY ["rings"]) (T:Txt K mg Z) (c9:bK P w K mg base (br P w) "solid_lands" 8 ["points"] (jI Z)):bK P w K mg base (br P w) "solid_map" 9 ["points"] (jJ Z):=by
 refine D.AS jM (λvs H Q E h=>?_) (λf0 cz A o s H vs Q E hr h=>?_)
 ·obtain ⟨a,as,Pn,rfl,_⟩:=h;rfl
 ·obtain ⟨a,as,Pn,rfl,pt,tb,pn,hP,fl,no,qE⟩:=h;refine ⟨_,(uZ (aF (i:=1) jM.nd rfl (by walk_at "L") (FC K0 rfl rfl rfl (aa (aA c9 hr u7 (aa (pv 0) ag)) ag)))),?_⟩
  try dsimp only [cE]
  refine Cq (T0 (I8 (aO (iE (aO (UV rfl (a7 ?_)))))));exact ⟨a,as,Pn,rfl,pt,tb,pn,hP,λt rs l F G H1 sl _ _ _ _=>absurd ⟨l,F,G,sl⟩ no,λ_=>qE⟩
theorem ir:aI ["points", "planes"] ["points"] (aC fV):=by walk_at "n"
theorem nI (D:Def K mg "turned_over" fV ["points"]) (T:Txt K mg Z) (c7:bK P w K mg base (br P w) "lands_with_planes" 7 ["points"] (wJ Z)):bK P w K mg base (br P w) "turned_over" 8 ["points"] (jJ Z):=by
 refine D.AS ir (λvs H Q E h=>?_) (λf0 cz A o s H vs Q E hr h=>?_)
 ·obtain ⟨a,as,Pn,rfl,_⟩:=h;rfl
 ·obtain ⟨a,as,Pn,rfl,pt,tb,pn,hP,fl,no,qE⟩:=h;refine ⟨_,(uZ (gQ (i:=1) ir.nd rfl (by walk_at "L") (tg:=["ring", "plane"]) (fr:=[]) (by walk_at "blk_ok") rfl (bq (aA c7 hr u7 (aa (pv 0) ag))) (λ_ _ _ _ _=>(sA (K:=K) rfl (n:=2) rfl (bI (aE (i:=0) (show [("ring":Str),("plane":Str)].Nodup by decide +kernel) rfl (by walk_at "L")) (bI (aE (i:=1) (show [("ring":Str),("plane":Str)].Nodup by decide +kernel) rfl (by walk_at "L")) fO)))) (λ_ _ _ _ _=>a9) (λ_ _ _ _ _=>(pv 1)))),?_⟩
  try dsimp only [cE]
  refine Cq (T0 (bQ (bM (iE (aO (UV rfl (a7 ?_)))))));exact ⟨a,as,Pn,rfl,pt,tb,pn,hP,λt fs l F G H1 sl _ _ _ _ _=>absurd ⟨l,F,G,sl⟩ no,λ_=>qE⟩
theorem pJ:aI ["_law_found"] ["_law_found"] (aC gL):=by walk_at "n"
theorem pN (D:Def K mg "_law_whole" gL ["_law_found"]) (T:Txt K mg Z):bK P w K mg base (br P w) "_law_whole" 1 ["_law_found"] uI:=by
 refine D.c6 pJ (λvs H Q E h=>?_) (λf cz A o s H vs Q E hr h=>?_)
 ·obtain ⟨n,rfl,_⟩:=h;rfl
 ·obtain ⟨n,rfl,q⟩:=h;refine ⟨_,(ar (aK (w4 (aG i8 (by rfl) T.isinstance bY (aa (pv 0) (aa (jQ (v:=.ty "int") rfl T.int KI rfl) ag))) (sC (Jk (aG i8 (by rfl) T.isinstance bY (aa (pv 0) (aa (jQ (v:=.ty "bool") rfl T.bool GD rfl) ag)))))))),?_⟩
  try dsimp only [cE]
  walk_at "";refine sv (.int n) (.ty _) F3 ?_;walk_at "";refine sv (.int n) (.ty _) JE ?_;walk_at "";exact q
theorem dh:aI ["_law_one", "_law_other"] ["_law_one", "_law_other"] (aC fA):=by walk_at "n"
theorem lX (D:Def K mg "_law_divisor" fA ["_law_one", "_law_other"]) (T:Txt K mg Z):bK P w K mg base (br P w) "_law_divisor" 1 ["_law_one", "_law_other"] nj:=by
 refine D.c6 dh (λvs H Q E h=>?_) (λf cz A o s H vs Q E hr h=>?_)
 ·obtain ⟨a,b,rfl,_⟩:=h;rfl
 ·obtain ⟨a,b,rfl,q⟩:=h;refine ⟨_,(ah (aF (i:=0) dh.nd rfl (by walk_at "L") (aG gG (by rfl) T.abs lu (aa (pv 0) ag)))
   (ah (aF (i:=1) dh.nd rfl (by walk_at "L") (aG gG (by rfl) T.abs lu (aa (pv 1) ag)))
   (ah (jP zai (aM qU (pv 1) af (aN _)) (ar (Je (i:=0) (j:=1) rfl dh.nd rfl rfl (by decide) rfl rfl (aa (pv 1) (aa (av bo (pv 0) (pv 1)) ag)) rfl)))
   (ar (aK (pv 0)))))),?_⟩
  refine ⟨_,rfl,a,rfl,_,rfl,b,rfl,?_⟩;refine mr (λσ H'=>∃ (x y:Int),σ=[some (.int x),some (.int y)]/\H'=H/\0<=x/\0<=y/\Int.gcd x y=Int.gcd a b)
   (λσ _=>match σ with | [_,some (.int y)]=>y.toNat|_=>0) ⟨_,_,rfl,rfl,by split<;>omega,by split<;>omega,y8 a b⟩ ?_
  rintro σ H' ⟨x,y,rfl,rfl,hx,hy,hg⟩;walk_at "";refine if2 (λhp=>?_) (λhz=>?_)
  ·refine w_turn ?_;walk_at "";refine ⟨_,_,rfl,⟨_,_,rfl,rfl,hy,zbA _ (by omega),?_⟩,?_⟩
   ·rw [vK x y hx hp,hg]
   ·show (x%y).toNat<y.toNat
    have:=zbe x hp;omega
  ·have hz:y=0:=by omega
   subst hz;walk_at "";rw [<-hg,y6 x hx] at q;exact q
theorem gv:aI ["_law_top", "_law_bottom", "_law_most"] ["_law_top", "_law_bottom"] (aC eK):=by walk_at "n"
theorem kR (D:Def K mg "_law_fraction" eK ["_law_top", "_law_bottom"]) (T:Txt K mg Z) (fH:bK P w K mg base (br P w) "_law_divisor" 1 ["_law_one", "_law_other"] nj):bK P w K mg base (br P w) "_law_fraction" 2 ["_law_top", "_law_bottom"] yi:=by
 refine D.c6 gv (λvs H Q E h=>?_) (λf cz A o s H vs Q E hr h=>?_)
 ·obtain ⟨a,b,rfl,_⟩:=h;rfl
 ·obtain ⟨a,b,rfl,hb,hz,q⟩:=h;have g0:=i6 a (show b≠0 by omega);have gz:∀ x:Int,GZ x ((Int.gcd a b:Nat):Int):=λx=>⟨by omega,Sz.le (hz.mono (by decide)) (by have:=zdr a (show b≠0 by omega);simpa using this)⟩;have g1:=gz a;have g2:=gz b;refine ⟨_,(ah (aF (i:=2) gv.nd rfl (by walk_at "L") (aA fH hr aQ (aa (pv 0) (aa (pv 1) ag))))
   (ar (aK (dq (aa (av bX (pv 0) (pv 2)) (aa (av bX (pv 1) (pv 2)) ag)))))),?_⟩
  walk_at "";refine ⟨a,b,rfl,?_⟩;walk_at "";intro p hp;have lo:=JB (a:=a) (b:=b) (d:=((Int.gcd a b:Nat):Int)) (by omega) (by rw [ZU (by omega)]);rw [zcN _ (by omega),zcN _ (by omega)] at lo;exact q (a / ((Int.gcd a b:Nat):Int),b / ((Int.gcd a b:Nat):Int)) p _ ⟨lo.pos,lo.co⟩ lo.ta lo.ub (ao.upd hp) hp ae
theorem fU:aI ["_law_number", "_law_base", "_law_place", "_law_k"] ["_law_number", "_law_base", "_law_place"] (aC gM):=by walk_at "n"
theorem pO (D:Def K mg "_law_digit" gM ["_law_number", "_law_base", "_law_place"]) (T:Txt K mg Z):bK P w K mg base (br P w) "_law_digit" 1 ["_law_number", "_law_base", "_law_place"] uN:=by
 refine D.c6 fU (λvs H Q E h=>?_) (λf cz A o s H vs Q E hr h=>?_)
 ·obtain ⟨n,b,p,rfl,_⟩:=h;rfl
 ·obtain ⟨n,b,p,rfl,n0,n1,b2,b9,p0,p9,q⟩:=h;refine ⟨_,(ah (bN zai rfl (bg rfl T.range (aa (pv 2) ag)) (aE (i:=3) fU.nd rfl (by walk_at "L"))
   (ar (aF (i:=0) fU.nd rfl (by walk_at "L") (av bX (pv 0) (pv 1)))))
   (ar (aK (av bo (pv 0) (pv 1))))),?_⟩
  walk_at "";refine cH ?_;refine ⟨_,rfl,p,rfl,by omega,by omega,?_⟩;refine cW (λk σ H1=>∃ (m:Int) (v:Option V),σ=[some (.int m),some (.int b),some (.int p),v]/\0<=m/\m<10 ^ 61/\H1=H) ⟨n,none,rfl,n0,n1,rfl⟩ ?_ ?_
  ·rintro k σ H1 hk ⟨m,v,rfl,m0,m1,rfl⟩;have hc:GZ m b:=tR (by omega) (by omega);walk_at "";refine ⟨_,_,rfl,zdZ m0 (by omega),?_,rfl⟩;exact Int.lt_of_le_of_lt (zdP _ m0) m1
  ·rintro σ H1 ⟨m,v,rfl,m0,m1,rfl⟩;have hb:(0:Int)<b:=by omega
   walk_at "";exact q _ (zbA _ (by omega)) (zbe _ hb)
theorem bS:aI ["_law_script", "_law_many", "_law_found", "_law_k", "_law_cell", "_law_at"] ["_law_script", "_law_many"] (aC fy):=by walk_at "n"
theorem lV (D:Def K mg "_law_numbers" fy ["_law_script", "_law_many"]) (T:Txt K mg Z):bK P w K mg base (br P w) "_law_numbers" 1 ["_law_script", "_law_many"] (nh K):=by
 refine D.c6 bS (λvs H Q E h=>?_) (λf cz A o s H vs Q E hr h=>?_)
 ·obtain ⟨a,ns,m,rfl,_⟩:=h;rfl
 ·obtain ⟨a,ns,m,rfl,hS,lZ,m0,m9,q⟩:=h;refine ⟨_,(ah (gQ (i:=2) bS.nd rfl (by walk_at "L") (tg:=["_law_k"]) (fr:=[]) (by walk_at "blk_ok") rfl (bg rfl T.range (aa (pv 1) ag)) (λ_ _ _ _ _=>(aE (i:=0) (show [("_law_k":Str)].Nodup by decide +kernel) rfl (by walk_at "L"))) (λ_ _ _ _ _=>a9) (λ_ _ _ _ _=>af))
   (ah (bN zai rfl (bg rfl T.range (aa (aG (Bg rfl) (by rfl) T.max D9 (aa (pv 1) (aa (aG (rC rfl) (by rfl) T.min lq (aa (aG bJ (by rfl) T.len cQ (aa (pv 0) ag)) (aa af ag))) ag))) ag)) (aE (i:=3) bS.nd rfl (by walk_at "L"))
   (ah (aF (i:=4) bS.nd rfl (by walk_at "L") af)
   (ah (bU (aM qU (aG bJ (by rfl) T.len cQ (aa (pv 0) ag)) af (aN _)) (ar (aF (i:=4) bS.nd rfl (by walk_at "L") (av bo (aB au (pv 0) (av bo (pv 3) (aG (rC rfl) (by rfl) T.min lq (aa (aG bJ (by rfl) T.len cQ (aa (pv 0) ag)) (aa af ag)))) (λ_ _=>rfl)) (u6 (v:=1000000000000000000000000000000000000000000000000000000000007) cx (mG (v:=1000000000000000000000000000000000000000000000000000000000000) sF af af ⟨by decide,by decide,by decide⟩ (by decide +kernel)) af (by decide +kernel))))) aX)
   (ah (aF (i:=5) bS.nd rfl (by walk_at "L") (av bo (pv 3) (pv 1)))
   (ar (CG (av bo (av cx (av cx (av aR (aB au (pv 2) (pv 5) (λ_ _=>rfl)) af) (pv 4)) (av aR (pv 3) (pv 3))) (u6 (v:=1000000000000000000000000000000000000000000000000000000000007) cx (mG (v:=1000000000000000000000000000000000000000000000000000000000000) sF af af ⟨by decide,by decide,by decide⟩ (by decide +kernel)) af (by decide +kernel))) (CK (pv 2) (pv 5) set_list)))))))
   (ar (aK (pv 2))))),?_⟩
  dsimp only [cE];walk_at "";refine bQ ?_;refine ⟨_,rfl,(m:Int),rfl,by omega,by omega,?_⟩;rw [zaE];intro t ht;refine fI (λi σ' ys H1=>∃ v:Option V,σ'=[v]/\ys=(List.replicate i (0:Int)).map V.int/\ao H H1/\H1 t=some (.lst ys)) ⟨none,rfl,rfl,ao.upd ht,ae⟩ ?_ ?_
  ·rintro i σ' ys H1 hi ⟨v,rfl,rfl,e1,h1⟩;walk_at "";refine ⟨h1,by rw [ZK,length_replicate];exact aD (by omega),bW hi ⟨_,rfl,?_,ao.fresh e1 ht,ae⟩⟩;rw [replicate_succ',Z6]
   rfl
  ·rintro σ' ys H1 ⟨v,rfl,rfl,e1,h1⟩;walk_at "";refine cH ?_;refine aO (nE (aO (UV rfl (aO (nE (aO (nE (aO (UV rfl (a7 ?_))))))))));refine ⟨_,_,rfl,.inl ⟨_,e1.seq hS,rfl⟩,?_⟩;refine aO (r_c (a7 ⟨_,_,rfl,?_⟩));refine a7 ⟨_,_,rfl,?_⟩;refine a7 ?_;rw [ZK];obtain ⟨cnt,RG,X4⟩:∃ c:Nat,(if (if (63:Int)<(ns.length:Int) then (63:Int) else (ns.length:Int)) > (m:Int) then (if (63:Int)<(ns.length:Int) then (63:Int) else (ns.length:Int)) else (m:Int))=(c:Int)/\c<=63:=by
    refine ⟨(if (if (63:Int)<(ns.length:Int) then (63:Int) else (ns.length:Int)) > (m:Int) then (if (63:Int)<(ns.length:Int) then (63:Int) else (ns.length:Int)) else (m:Int)).toNat,?_,?_⟩<;>split<;>split<;>omega
   rw [RG];refine ⟨(cnt:Int),rfl,by omega,by omega,?_⟩;rw [zaE];refine cW (λk σ H2=>∃ (fs:Wp) (v3 v4 v5:Option V),σ=[some (.ref a),some (.int (m:Int)),some (.ref t),v3,v4,v5]/\ao H H2/\H2 t=some (.lst (fs.map V.int))/\fs.length=m/\∀ x∈fs,0<=x/\x<10 ^ 60+7)
    ⟨List.replicate m 0,none,none,none,rfl,e1,h1,length_replicate,λx hx=>by rw [eq_of_mem_replicate hx];decide⟩ ?_ ?_
   ·clear h1 e1;rintro k σ H2 hk ⟨fs,v3,v4,v5,rfl,e2,h2,lf,rf⟩;simp only [zbj];have key:∀ (c:Int),0<=c->c<10 ^ 60+7->True:=λ_ _ _=>trivial;refine UF ?_;refine TW (T0 (r_c (UF ?_)));dsimp only;refine iD (λσ' H'=>∃ c:Int,σ'=[some (.ref a),some (.int (m:Int)),some (.ref t),some (.int (k:Int)),some (.int c),v5]/\0<=c/\c<10 ^ 60+7/\H'=H2) ?_ ?_
    ·rintro σ' H' ⟨c,rfl,c0,c1,rfl⟩;have mp:(0:Int)<(m:Int):=by omega
     walk_at "";have a0:=zbA (k:Int) (show (m:Int)≠0 by omega);have a1:=zbe (k:Int) mp;obtain ⟨i,hi⟩:=zcx a0;rw [hi] at a1 ⊢;have il:i<fs.length:=by omega
     have rx:=rf fs[i] (Z4 _);refine aT (aH.of h2) (show ja (fs.map V.int) ((i:Nat):Int)=some (.int fs[i]) from eA (by rw [ZS,ZJ il];rfl)) ?_;have Zk:IntMulOk fs[i] 48271:=mulR (by decide) (by decide);have iK:IntMulOk (k:Int) (k:Int):=mulL (by omega) (by omega);walk_at "";refine Ct (UV rfl (UV rfl ⟨t,fs.map V.int,(i:Int),i,rfl,rfl,h2,?_,?_⟩))
     ·rw [ZK,JL (by omega) (by omega),zaE]
     ·rw [<-map_set];refine ⟨_,_,_,_,rfl,ao.fresh e2 ht,ae,by rw [length_set];exact lf,λx hx=>?_⟩;rcases mem_or_eq_of_mem_set hx with z|z
      ·exact rf x z
      ·rw [z];exact ⟨zbA _ (by decide),zbe _ (by decide)⟩
    ·intro RR key;walk_at "";refine ⟨_,_,rfl,.inl ⟨_,e2.seq hS,rfl⟩,?_⟩;rw [ZK];walk_at "";refine if2 (λhl=>?_) (λhl=>?_)
     ·walk_at "";refine ⟨_,_,rfl,.inl ⟨_,e2.seq hS,rfl⟩,?_⟩;rw [ZK];walk_at "";refine ⟨_,_,rfl,?_⟩;have lp:(0:Int)<(if (63:Int)<(ns.length:Int) then (63:Int) else (ns.length:Int)):=by split<;>omega
      walk_at "";have b0:=zbA (k:Int) (Int.ne_of_gt lp);have b1:=zbe (k:Int) lp;have b2:(k:Int)%(if (63:Int)<(ns.length:Int) then (63:Int) else (ns.length:Int))<(ns.length:Int):=by split at b1<;>split<;>omega
      generalize (k:Int)%(if (63:Int)<(ns.length:Int) then (63:Int) else (ns.length:Int))=ix at b0 b1 b2 ⊢;obtain ⟨j,rfl⟩:=zcx b0;refine aT (e2.seq hS) (show ja (ns.map V.int) ((j:Nat):Int)=some (.int (ns[j]'(by omega))) from eA (by rw [ZS,ZJ (by omega)];rfl)) ?_;walk_at "";exact key _ _ ⟨_,rfl,zbA _ (by decide),zbe _ (by decide),rfl⟩
     ·walk_at "";exact key _ _ ⟨_,rfl,by decide,by decide,rfl⟩
   ·rintro σ H2 ⟨fs,v3,v4,v5,rfl,e2,h2,lf,rf⟩;walk_at "";exact q t fs H2 e2 ht h2 lf rf
theorem bA:aI ["_law_head", "_law_many", "_law_found", "_law_way", "_law_k", "_law_number", "_law_point"] ["_law_head", "_law_many"] (aC gN):=by walk_at "n"
theorem pP (D:Def K mg "_law_cloud" gN ["_law_head", "_law_many"]) (T:Txt K mg Z) (tx:bK P w K mg base (br P w) "_law_digit" 1 ["_law_number", "_law_base", "_law_place"] uN):bK P w K mg base (br P w) "_law_cloud" 2 ["_law_head", "_law_many"] uO:=by
 refine D.c6 bA (λvs H Q E h=>?_) (λf cz A o s H vs Q E hr h=>?_)
 ·obtain ⟨a,fs,n,rfl,_⟩:=h;rfl
 ·obtain ⟨a,fs,n,rfl,ha,hf,rf,hn,q⟩:=h;refine ⟨_,(ah (aF (i:=2) bA.nd rfl (by walk_at "L") (cu ag))
   (ah (aF (i:=3) bA.nd rfl (by walk_at "L") (av bo (aB au (pv 0) af (λ_ _=>rfl)) af))
   (ah (bN zai rfl (bg rfl T.range (aa (pv 1) ag)) (aE (i:=4) bA.nd rfl (by walk_at "L"))
   (ah (aF (i:=5) bA.nd rfl (by walk_at "L") (av cx (av cx (av bX (aB au (pv 0) af (λ_ _=>rfl)) (av cx af (av aR (pv 4) (pv 4)))) (av aR (aB au (pv 0) af (λ_ _=>rfl)) (av cx (pv 4) af))) (av aR (aA tx hr aQ (aa (aB au (pv 0) af (λ_ _=>rfl)) (aa af (aa (pv 4) ag)))) af)))
   (ah (aF (i:=6) bA.nd rfl (by walk_at "L") (cu (aa (av bO (av bo (pv 5) af) af) (aa (av bO (av bo (av bX (pv 5) af) af) af) (aa (av bO (av bo (av bX (pv 5) af) af) af) ag)))))
   (ah (bU (aM eQ (pv 3) af (aN _)) (ar (aF (i:=6) bA.nd rfl (by walk_at "L") (cu (aa (av bo (pv 5) af) (aa (av bo (av bX (pv 5) af) af) (aa (av bo (av bX (pv 5) af) af) ag)))))) aX)
   (ah (bU (aM eQ (pv 3) af (aN _)) (ar (aF (i:=6) bA.nd rfl (by walk_at "L") (cu (aa (av bO (av bo (pv 5) af) af) (aa (av bO (av bo (av bX (pv 5) af) af) af) (aa (av bO (av bo (av cx (av bX (pv 5) af) (pv 4)) af) af) ag)))))) aX)
   (ah (bU (aM eQ (pv 3) af (aN _)) (ar (aF (i:=6) bA.nd rfl (by walk_at "L") (cu (aa (av bO (av bo (pv 5) af) af) (aa (av bO (av bo (av bX (pv 5) af) af) af) (aa (av bO (av bo (av bX (pv 5) af) af) af) ag)))))) aX)
   (ah (bU (aM eQ (pv 3) af (aN _)) (ar (CG (av cx (av bO (aB au (pv 6) af (λ_ _=>rfl)) (av aR af (aB au (pv 6) af (λ_ _=>rfl)))) af) (CK (pv 6) af set_list))) aX)
   (ar (dY (jg zaw zaV zaW cT (pv 2) (aa (pv 6) ag)))))))))))
   (ar (aK (pv 2)))))),?_⟩
  try dsimp only [cE]
  have at_:∀ (k:Nat) (hk:k<8),ja (fs.map V.int) (k:Int)=some (V.int (fs.getD k 0))/\0<=fs.getD k 0/\fs.getD k 0<10 ^ 60+7:=λk hk=>by
   have AN:k<fs.length:=by omega
   have e:fs.getD k 0=fs[k]:=by rw [ZP,ZJ AN];rfl
   exact ⟨eA (by rw [ZS,ZJ AN,e];rfl),by rw [e];exact rf _ (Z4 AN)⟩
  generalize JY:(λk:Nat=>fs.getD k 0)=g;have at_:∀ (k:Nat) (hk:k<8),ja (fs.map V.int) (k:Int)=some (V.int (g k))/\0<=g k/\g k<10 ^ 60+7:=by rw [<-JY];exact at_
  walk_at "";refine ⟨Z7 _,λfl yZ=>?_⟩;have e1:ao H (upd H fl (.lst [])):=ao.upd yZ;have g1:cX (upd H fl (.lst [])) fl [] []:=⟨ae,rfl,λi b l h=>by simp at h⟩;generalize upd H fl (.lst [])=H1 at e1 g1 ⊢;walk_at "";refine aT (aH.of (e1 _ _ ha)) (at_ 0 (by decide)).1 ?_;walk_at "";refine cH ?_;refine aO (UV rfl (a7 ⟨(n:Int),rfl,by omega,by omega,?_⟩));rw [zaE];have em:∀ (x m:Int),0<m->0<=x%m/\x%m<m:=λx m h=>⟨zbA _ (by omega),zbe _ h⟩;generalize WX:g 0%6=way;refine cW (λk σ H2=>∃ (v4 v5 v6:Option V) (as:XL) (L:Uf),σ=[some (.ref a),some (.int (n:Int)),some (.ref fl),some (.int way),v4,v5,v6]/\ao H H2/\cX H2 fl as L/\fl∉as/\L.length=k/\KS L)
   ⟨none,none,none,[],[],rfl,e1,g1,by simp,rfl,λr h=>by simp at h⟩ ?_ ?_
  ·rintro k σ H2 hk ⟨v4,v5,v6,as,L,rfl,e2,g2,na,lL,hL⟩;simp only [zbj];have z1:IntMulOk (k:Int) (k:Int):=mulL (by omega) (by omega);have z2:GZ (g 2) (1+(k:Int)*(k:Int)):=by
    have:(k:Int)*k<=20*20:=Int.mul_le_mul (by omega) (by omega) (by omega) (by omega);have:0<=(k:Int)*k:=zbS (by omega) (by omega);exact tR (by omega) (by omega)
   have b3:=(at_ 3 (by decide)).2;have b2:=(at_ 2 (by decide)).2;have s3:Sz 210 (g 3):=by
                                unfold Sz;have:(10:Int) ^ 60+7<=2 ^ 210:=by decide
                                omega
   have z3:IntMulOk (g 3) ((k:Int)+1):=Sz.cO (m:=210) (n:=10) s3 (by unfold Sz;omega);have z4:∀ d:Int,0<=d->d<13->IntMulOk d 48271:=λd h0 h1=>mulL (by omega) (by omega);walk_at "";refine aT (aH.of (e2 _ _ ha)) (at_ 2 (by decide)).1 ?_;walk_at "";refine aT (aH.of (e2 _ _ ha)) (at_ 3 (by decide)).1 ?_;walk_at "";refine aT (aH.of (e2 _ _ ha)) (at_ 2 (by decide)).1 ?_;walk_at "";refine ⟨g 2,13,(k:Int),rfl,b2.1,by omega,by decide,by decide,by omega,by omega,λd d0 d1=>?_⟩;have z5:=z4 d d0 d1;walk_at "";generalize g 2 / (1+(k:Int)*(k:Int))+g 3*((k:Int)+1)+d*48271=N;intro p0 MZ;have i1:=em N 5 (by decide);have i2:=em (N / 5) 5 (by decide);have i3:=em (N / 25) 5 (by decide);have lay:∀ (x y z:Int) (Hc:Hp) (p:Addr),ao H2 Hc->Hc p=none->ao H2 (upd Hc p (.lst [.int x,.int y,.int z]))/\H2 p=none/\upd Hc p (.lst [.int x,.int y,.int z]) p=some (.lst ([x,y,z].map V.int)):=λx y z Hc p e hp=>⟨e.trans (ao.upd hp),e.free hp,ae⟩;let Kp:St->Hp->Prop:=λσ' H'=>∃ (pt:Addr) (x y z:Int),σ'=[some (.ref a),some (.int (n:Int)),some (.ref fl),some (.int way),some (.int (k:Int)),some (.int N),some (.ref pt)]/\ao H2 H'/\H2 pt=none/\H' pt=some (.lst ([x,y,z].map V.int))/\x.natAbs<=100/\y.natAbs<=100/\z.natAbs<=400;have k0:Kp [some (.ref a),some (.int (n:Int)),some (.ref fl),some (.int way),some (.int (k:Int)),some (.int N),some (.ref p0)] (upd H2 p0 (.lst [.int (N%5-2),.int (N / 5%5-2),.int (N / 25%5-2)])):=by
    obtain ⟨l1,l2,l3⟩:=lay (N%5-2) (N / 5%5-2) (N / 25%5-2) H2 p0 (ao.refl _) MZ;exact ⟨p0,_,_,_,rfl,l1,l2,l3,by omega,by omega,by omega⟩
   refine UF ?_;refine iD Kp ?_ (λTn hT=>?_)
   ·rintro σ' H' ⟨pt,x,y,z,rfl,eH,fp,HH,bx,KG,bz⟩;refine iD Kp ?_ (λTn hT=>?_)
    ·rintro σ' H' ⟨pt,x,y,z,rfl,eH,fp,HH,bx,KG,bz⟩;refine iD Kp ?_ (λTn hT=>?_)
     ·rintro σ' H' ⟨pt,x,y,z,rfl,eH,fp,HH,bx,KG,bz⟩;refine iD Kp ?_ (λTn hT=>?_)
      ·rintro σ' H' ⟨pt,x,y,z,rfl,eH,fp,HH,bx,KG,bz⟩;walk_at "";refine ⟨.inl ⟨rfl,_,aH.of (eH _ _ g2.top)⟩,?_⟩;refine aO (UV rfl (a7 ?_));have gH:=g2.same eH;have al:=g2.len;have np:pt≠fl:=λw=>by rw [w,g2.top] at fp;cases fp
       refine eC gH.top (by rw [ZK];exact aD (by omega)) ?_;refine ⟨_,_,_,as++[pt],L++[[x,y,z]],rfl,ao.fresh (e2.trans eH) yZ,gH.snoc na np HH,λw=>?_,by rw [ZV,lL];rfl,λr hr=>?_⟩
       ·rcases ZZ.mp w with w|w
        ·exact na w
        ·exact np (ZT.mp w).symm
       ·rcases ZZ.mp hr with w|w
        ·exact hL r w
        ·rw [ZT.mp w];refine ⟨rfl,λu hu=>?_⟩;simp only [zaZ,zat,zba] at hu;rcases hu with rfl|rfl|rfl<;>omega
      ·walk_at "";refine if2 (λ_=>?_) (λ_=>?_)
       ·walk_at "";refine Ct (UV rfl (r_c ?_));refine ⟨pt,_,2,2,rfl,rfl,HH,rfl,?_⟩;refine hT _ _ ⟨pt,x,y,x-2*y+1,rfl,λu ob hu=>?_,fp,ae,bx,KG,by omega⟩;rw [aq (λw=>by rw [w,fp] at hu;cases hu)];exact eH u ob hu
       ·walk_at "";exact hT _ _ ⟨pt,x,y,z,rfl,eH,fp,HH,bx,KG,bz⟩
     ·walk_at "";refine if2 (λ_=>?_) (λ_=>?_)
      ·walk_at "";intro p1 AL;have j0:=em N 3 (by decide);have j1:=em (N / 3) 3 (by decide);have j2:=em (N / 9) 3 (by decide);obtain ⟨l1,l2,l3⟩:=lay (N%3-1) (N / 3%3-1) (N / 9%3-1) _ p1 eH AL;exact hT _ _ ⟨p1,_,_,_,rfl,l1,l2,l3,by omega,by omega,by omega⟩
      ·walk_at "";exact hT _ _ ⟨pt,x,y,z,rfl,eH,fp,HH,bx,KG,bz⟩
    ·walk_at "";refine if2 (λ_=>?_) (λ_=>?_)
     ·walk_at "";intro p1 AL;have j0:=em N 201 (by decide);have j1:=em (N / 201) 201 (by decide);have j2:=em (N / 40401+(k:Int)) 201 (by decide);obtain ⟨l1,l2,l3⟩:=lay (N%201-100) (N / 201%201-100) ((N / 40401+(k:Int))%201-100) _ p1 eH AL;exact hT _ _ ⟨p1,_,_,_,rfl,l1,l2,l3,by omega,by omega,by omega⟩
     ·walk_at "";exact hT _ _ ⟨pt,x,y,z,rfl,eH,fp,HH,bx,KG,bz⟩
   ·walk_at "";refine if2 (λ_=>?_) (λ_=>?_)
    ·walk_at "";intro p1 AL;have j0:=em N 2 (by decide);have j1:=em (N / 2) 2 (by decide);have j2:=em (N / 4) 2 (by decide);obtain ⟨l1,l2,l3⟩:=lay (N%2) (N / 2%2) (N / 4%2) _ p1 (ao.upd MZ) AL;exact hT _ _ ⟨p1,_,_,_,rfl,l1,l2,l3,by omega,by omega,by omega⟩
    ·walk_at "";exact hT _ _ k0
  ·rintro σ H2 ⟨v4,v5,v6,as,L,rfl,e2,g2,na,lL,hL⟩;walk_at "";exact q fl as L H2 e2 yZ g2 lL hL
theorem xR (h0:0<=m) (h1:m<2):∃ v,ja [V.int x,V.int y] m=some (V.int v)/\(v=x\/v=y):=by
 obtain rfl|rfl:m=0\/m=1:=by omega
 ·exact ⟨x,rfl,.inl rfl⟩
 ·exact ⟨y,rfl,.inr rfl⟩
theorem bG:aI ["_law_points", "_law_head", "_law_by", "_law_share", "_law_off", "_law_found", "_law_point"] ["_law_points", "_law_head"] (aC dR):=by walk_at "n"
theorem jT (D:Def K mg "_law_cloud_put" dR ["_law_points", "_law_head"]) (T:Txt K mg Z) (l6:bK P w K mg base (br P w) "_law_fraction" 2 ["_law_top", "_law_bottom"] yi):bK P w K mg base (br P w) "_law_cloud_put" 3 ["_law_points", "_law_head"] B2:=by
 refine D.c6 bG (λvs H Q E h=>?_) (λf cz A o s H vs Q E hr h=>?_)
 ·obtain ⟨a,p,as,L,fs,rfl,_⟩:=h;rfl
 ·obtain ⟨a,p,as,L,fs,rfl,g,hL,nL,ha,hf,rf,q⟩:=h;refine ⟨_,(ah (aF (i:=2) bG.nd rfl (by walk_at "L") (aB au (cu (aa af (aa (av cx af (av bo (aB au (pv 1) af (λ_ _=>rfl)) (mG (v:=1000000000) sF af af ⟨by decide,by decide,by decide⟩ (by decide +kernel)))) ag))) (av bo (aB au (pv 1) af (λ_ _=>rfl)) af) (λ_ _=>rfl)))
   (ah (aF (i:=3) bG.nd rfl (by walk_at "L") (aB au (cu (aa af (aa (av cx af (av bo (aB au (pv 1) af (λ_ _=>rfl)) af)) ag))) (av bo (av bX (aB au (pv 1) af (λ_ _=>rfl)) af) af) (λ_ _=>rfl)))
   (ah (aF (i:=4) bG.nd rfl (by walk_at "L") (aB au (cu (aa af (aa (mG (v:=1000000000000000000) sF af af ⟨by decide,by decide,by decide⟩ (by decide +kernel)) ag))) (av bo (av bX (aB au (pv 1) af (λ_ _=>rfl)) af) af) (λ_ _=>rfl)))
   (ah (aF (i:=5) bG.nd rfl (by walk_at "L") (cu ag))
   (ah (bN zai rfl (bq (pv 0)) (aE (i:=6) bG.nd rfl (by walk_at "L"))
   (ar (dY (jg zaw zaV zaW cT (pv 5) (aa (eY jm (by rfl) T.tuple vY (aa (bH (tg:=["_law_number"]) (fr:=[("_law_share",3),("_law_by",2),("_law_off",4),("_law_head",1)]) (by walk_at "blk_ok") rfl (bq (pv 6)) (λ_ _ _ _ _=>(aE (i:=0) (show [("_law_number":Str),("_law_share":Str),("_law_by":Str),("_law_off":Str),("_law_head":Str)].Nodup by decide +kernel) rfl (by walk_at "L"))) (λ_ _ _ _ _=>a9) (λ_ _ _ _ _=>(aA l6 hr aQ (aa (av cx (av aR (pv 0) (pv 2)) (av bo (aB (fG (K:=K) rfl) (pv 4) af (λ_ _=>rfl)) (pv 3))) (aa (pv 1) ag))))) ag)) ag)))))
   (ar (aK (pv 5)))))))),?_⟩
  try dsimp only [cE]
  have at_:∀ (k:Nat) (hk:k<4),ja (fs.map V.int) (k:Int)=some (V.int (fs.getD k 0))/\0<=fs.getD k 0/\fs.getD k 0<10 ^ 60+7:=λk hk=>by
   have AN:k<fs.length:=by omega
   have e:fs.getD k 0=fs[k]:=by rw [ZP,ZJ AN];rfl
   exact ⟨eA (by rw [ZS,ZJ AN,e];rfl),by rw [e];exact rf _ (Z4 AN)⟩
  generalize JY:(λk:Nat=>fs.getD k 0)=gg;have at_:∀ (k:Nat) (hk:k<4),ja (fs.map V.int) (k:Int)=some (V.int (gg k))/\0<=gg k/\gg k<10 ^ 60+7:=by rw [<-JY];exact at_
  have em:∀ (x m:Int),0<m->0<=x%m/\x%m<m:=λx m h=>⟨zbA _ (by omega),zbe _ h⟩;walk_at "";refine aT (aH.of ha) (at_ 0 (by decide)).1 ?_;walk_at "";intro p1 AL;have e1:ao H (upd H p1 (.lst [.int 1,.int (1+gg 0%1000000000)])):=ao.upd AL;have l1:upd H p1 (.lst [.int 1,.int (1+gg 0%1000000000)]) p1=some (.lst [.int 1,.int (1+gg 0%1000000000)]):=ae;generalize upd H p1 (.lst [.int 1,.int (1+gg 0%1000000000)])=H1 at e1 l1 ⊢;walk_at "";refine aT (aH.of (e1 _ _ ha)) (at_ 1 (by decide)).1 ?_;walk_at "";obtain ⟨Ib,XJ,Zy⟩:=xR (x:=1) (y:=1+gg 0%1000000000) (em (gg 1) 2 (by decide)).1 (em (gg 1) 2 (by decide)).2;refine aT (aH.of l1) XJ ?_;walk_at "";refine aT (aH.of (e1 _ _ ha)) (at_ 0 (by decide)).1 ?_;walk_at "";intro p2 xC;have e2:ao H1 (upd H1 p2 (.lst [.int 1,.int (1+gg 0%6)])):=ao.upd xC;have l2:upd H1 p2 (.lst [.int 1,.int (1+gg 0%6)]) p2=some (.lst [.int 1,.int (1+gg 0%6)]):=ae;generalize upd H1 p2 (.lst [.int 1,.int (1+gg 0%6)])=H2 at e2 l2 ⊢;have ED:=e1.trans e2;walk_at "";refine aT (aH.of (ED _ _ ha)) (at_ 1 (by decide)).1 ?_;walk_at "";obtain ⟨sh,Q5,Zx⟩:=xR (x:=1) (y:=1+gg 0%6) (em (gg 1 / 2) 2 (by decide)).1 (em (gg 1 / 2) 2 (by decide)).2;refine aT (aH.of l2) Q5 ?_;walk_at "";intro p3 Rb;have e3:ao H2 (upd H2 p3 (.lst [.int 10,.int 1000000000000000000])):=ao.upd Rb;have l3:upd H2 p3 (.lst [.int 10,.int 1000000000000000000]) p3=some (.lst [.int 10,.int 1000000000000000000]):=ae;generalize upd H2 p3 (.lst [.int 10,.int 1000000000000000000])=H3 at e3 l3 ⊢;have Lk:=ED.trans e3;walk_at "";refine aT (aH.of (Lk _ _ ha)) (at_ 1 (by decide)).1 ?_;walk_at "";obtain ⟨off,Ri,YF⟩:=xR (x:=10) (y:=1000000000000000000) (em (gg 1 / 4) 2 (by decide)).1 (em (gg 1 / 4) 2 (by decide)).2;refine aT (aH.of l3) Ri ?_;walk_at "";refine ⟨Z7 _,λfl yZ=>?_⟩;have e4:ao H3 (upd H3 fl (.lst [])):=ao.upd yZ;have h4:upd H3 fl (.lst []) fl=some (.lst (([]:XL).map V.ref)):=ae;generalize upd H3 fl (.lst [])=H4 at e4 h4 ⊢;have Gx:=Lk.trans e4;have m9:=em (gg 0) 1000000000 (by decide);have m6:=em (gg 0) 6 (by decide);have Qq:0<off:=by omega
  have VI:0<sh:=by omega
  have YX:sh<=6:=by omega
  have ZA:0<Ib:=by omega
  have Zz:Ib<=1000000000:=by omega
  have Y2:off<=1000000000000000000:=by omega
  walk_at "";refine cH ?_;refine bM (UV rfl ⟨p,rfl,⟨_,aH.of (Gx _ _ g.top)⟩,?_⟩);refine dJ (K:=K) (a:=p) (xs:=as.map V.ref) (λm σ' H5=>∃ (v6:Option V) (bs:XL) (Pn:List (List (Int×Int))),σ'=[some (.ref p),some (.ref a),some (.int Ib),some (.int sh),some (.int off),some (.ref fl),v6]/\ao H H5/\fK H5 fl bs Pn/\(∀ b∈bs,b≠fl)/\Pn.length=m/\∀ p∈Pn,Ps p)
   ⟨none,[],[],rfl,Gx,⟨h4,rfl,λj b r z=>by simp at z⟩,by simp,rfl,by simp⟩ (by rintro m σ' H5 _ ⟨_,_,_,_,e,_⟩;exact aH.of (e _ _ g.top)) ?_ ?_
  ·rintro m x σ' H5 hx ⟨v6,bs,Pn,rfl,e5,p5,nb,lP,hP⟩;have hm:m<as.length:=by
    have:=(ZL.mp hx).1;rw [ZK] at this;exact this
   have iK:m<L.length:=by rw [<-g.len];exact hm
   obtain ⟨b,r,hb,hr,pV⟩:=g.at iK;have ex:x=V.ref b:=by rw [ZS,hb] at hx;exact (ZO hx).symm
   subst ex;obtain ⟨r3,rs⟩:=hL r (ZX hr);walk_at "";refine ⟨.inl ⟨rfl,_,aH.of p5.1⟩,?_⟩;refine aO (nE (aO (bQ ?_)));refine bM (UV rfl ⟨b,rfl,⟨_,aH.of (e5 _ _ pV)⟩,λacc aY=>?_⟩);refine bT (K:=K) (a:=b) (xs:=r.map V.int) (λi σ' ys H6=>∃ (v:Option V) (cs:XL) (fr:List (Int×Int)),σ'=[v,some (.int sh),some (.int Ib),some (.int off),some (.ref a)]/\ys=cs.map V.ref/\ao H5 H6/\H6 acc=some (.lst ys)/\PR H6 cs fr/\fr.length=i/\(∀ f∈fr,Dt.Lw f/\Sz 600 f.1/\Sz 600 f.2))
    ⟨none,[],[],rfl,rfl,ao.upd aY,ae,.nil,rfl,by simp⟩ (by rintro i σ' ys H6 _ ⟨_,_,_,_,_,e,_⟩;exact aH.of (e _ _ (e5 _ _ pV))) ?_ ?_
   ·rintro i x σ' ys H6 hx hi ⟨v,cs,fr,rfl,rfl,e6,a6,pr,lf,jY⟩;rw [ZK] at hi;have ex:x=V.int r[i]:=by
     rw [ZS,ZJ hi] at hx;exact (ZO hx).symm
    subst ex;have xs:=rs _ (Z4 hi);generalize r[i]=x at xs;have z1:IntMulOk x Ib:=mulL (by omega) (by omega);have m2:=em (gg 2) off Qq;walk_at "";refine aT (aH.of (e6 _ _ (e5 _ _ ha))) (at_ 2 (by decide)).1 ?_;walk_at "";have top:Sz 600 (x*Ib+gg 2%off):=by
     have b1:Sz 64 (x*Ib):=by
      have:=Sz.mul (m:=32) (n:=32) (x:=x) (y:=Ib) (by unfold Sz;omega) (by unfold Sz;omega);exact this
     have b2:Sz 64 (gg 2%off):=by unfold Sz;omega
     exact (Sz.add b1 b2).mono (by decide)
    have bot:Sz 600 sh:=by unfold Sz;have:(6:Nat)<2 ^ 600:=ZY (by decide:6<2 ^ 3) (Nat.pow_le_pow_right (by decide) (by decide));omega
    refine ⟨_,sh,rfl,VI,bot,λf c H7 lw n1 n2 e7 f7 h7=>?_⟩;have Lj:=e6.trans e7;have cl:=pr.len;walk_at "";refine ⟨e7 _ _ a6,by rw [ZK];exact aD (by omega),bW (by rw [ZK];exact hi) ⟨_,cs++[c],fr++[f],rfl,by rw [Z6];rfl,ao.fresh Lj aY,ae,?_,by rw [ZV,lf];rfl,λu hu=>?_⟩⟩
    ·have nc:c≠acc:=λz=>by rw [z,a6] at f7;cases f7
     exact PR.lst ((pr.same e7).app (.cons h7 .nil)) (e7 _ _ a6)
    ·rcases ZZ.mp hu with z|z
     ·exact jY u z
     ·rw [ZT.mp z];exact ⟨lw,Sz.le top n1,Sz.le bot n2⟩
   ·rintro σ' ys H6 ⟨v,cs,fr,rfl,rfl,e6,a6,pr,lf,jY⟩;rw [ZK,r3] at lf;refine a7 ⟨acc,_,rfl,.inl ⟨aH.of a6,λtp vz=>?_⟩⟩;have e7:ao H6 (upd H6 tp (.tup (cs.map V.ref))):=ao.upd vz;have h7:upd H6 tp (.tup (cs.map V.ref)) tp=some (.tup (cs.map V.ref)):=ae;generalize upd H6 tp (.tup (cs.map V.ref))=H7 at e7 h7 ⊢;have Lj:=e6.trans e7;have p7:=p5.same Lj;have VE:qo H7 tp fr:=⟨cs,h7,pr.same e7,lf⟩;have bl:=p5.2.1;refine a7 (eC p7.1 (by rw [ZK];exact aD (by omega)) ?_);refine ⟨_,bs++[tp],Pn++[fr],rfl,ao.fresh (e5.trans Lj) (Lk.free yZ),fK.snoc p7 VE,λu hu=>?_,by rw [ZV,lP];rfl,λu hu=>?_⟩
    ·rcases ZZ.mp hu with z|z
     ·exact nb u z
     ·rw [ZT.mp z];intro y;rw [y,p7.1] at h7;cases h7
    ·rcases ZZ.mp hu with z|z
     ·exact hP u z
     ·rw [ZT.mp z];exact ⟨lf,⟨λf hf=>(jY f hf).1.1,λf hf=>(jY f hf).2.1.mono (by decide),λf hf=>(jY f hf).2.2.mono (by decide)⟩,λf hf=>(jY f hf).1⟩
  ·rintro σ' H5 ⟨v6,bs,Pn,rfl,e5,p5,nb,lP,hP⟩;rw [ZK,g.len] at lP;walk_at "";exact q fl bs Pn H5 e5 (Lk.free yZ) p5 lP hP
theorem dD:aI ["_law_points", "_law_share", "_law_point", "_law_number"] ["_law_points"] (aC iB):=by walk_at "n"
theorem sM (D:Def K mg "_law_flat" iB ["_law_points"]) (T:Txt K mg Z) (fH:bK P w K mg base (br P w) "_law_divisor" 1 ["_law_one", "_law_other"] nj):bK P w K mg base (br P w) "_law_flat" 2 ["_law_points"] uK:=by
 refine D.c6 dD (λvs H Q E h=>?_) (λf cz A o s H vs Q E hr h=>?_)
 ·obtain ⟨a,as,Pn,rfl,_⟩:=h;rfl
 ·obtain ⟨a,as,Pn,rfl,pt,pn,hP,q⟩:=h;refine ⟨_,(ah (aF (i:=1) dD.nd rfl (by walk_at "L") af)
   (ah (bN zai rfl (bq (pv 0)) (aE (i:=2) dD.nd rfl (by walk_at "L"))
   (ar (bN zai rfl (kM (pv 2)) (aE (i:=3) dD.nd rfl (by walk_at "L"))
   (ar (aF (i:=1) dD.nd rfl (by walk_at "L") (av aR (pv 1) (av bX (aB c5 (pv 3) af (λ_ _=>rfl)) (aA fH hr aQ (aa (pv 1) (aa (aB c5 (pv 3) af (λ_ _=>rfl)) ag))))))))))
   (ar (aK (bH (tg:=["_law_point"]) (fr:=[("_law_share",1)]) (by walk_at "blk_ok") rfl (bq (pv 0)) (λ_ _ _ _ _=>(aE (i:=0) (show [("_law_point":Str),("_law_share":Str)].Nodup by decide +kernel) rfl (by walk_at "L"))) (λ_ _ _ _ _=>a9) (by intro _ _ _ _ _;exact (eY (oU (K:=K) rfl) (by rfl) T.tuple vY (aa (bH (tg:=["_law_number"]) (fr:=[("_law_share",1)]) (by walk_at "blk_ok") rfl (Fx (K:=K) rfl (pv 0)) (λ_ _ _ _ _=>(aE (i:=0) (show [("_law_number":Str),("_law_share":Str)].Nodup by decide +kernel) rfl (by walk_at "L"))) (λ_ _ _ _ _=>a9) (λ_ _ _ _ _=>(av aR (aB (cU (K:=K) rfl) (pv 0) af (λ_ _=>rfl)) (av bX (pv 1) (aB (cU (K:=K) rfl) (pv 0) af (λ_ _=>rfl)))))) ag)))))))),?_⟩
  try dsimp only [cE]
  have len:=pt.2.1;walk_at "";refine cH ?_;refine bM (UV rfl ⟨a,rfl,⟨_,aH.of pt.1⟩,?_⟩);refine dJ (K:=K) (a:=a) (xs:=as.map V.ref) (λm σ H1=>∃ (S:Int) (v2 v3:Option V),σ=[some (.ref a),some (.int S),v2,v3]/\H1=H/\0<S/\(∀ p∈Pn.take m,∀ f∈p,f.2 ∣ S)/\Sz (2100*m+1) S) ⟨1,none,none,rfl,rfl,by decide,by simp,by unfold Sz;exact zeq (by omega)⟩ (by rintro m σ H1 _ ⟨_,_,_,_,rfl,_⟩;exact aH.of pt.1) ?_ ?_
  ·rintro m x σ H1 hx ⟨S,v2,v3,rfl,rfl,S0,Sd,Sb⟩;have hm:m<as.length:=by
    have:=(ZL.mp hx).1;rw [ZK] at this;exact this
   have iK:m<Pn.length:=by omega
   obtain ⟨b,hb,bs,UG,pr,l3⟩:=pt.at iK;have ex:x=V.ref b:=by rw [ZS,hb] at hx;exact (ZO hx).symm
   subst ex;have ps:=hP _ (Z4 iK);have lb:=pr.len;walk_at "";refine cH ?_;refine Cs (UV rfl ⟨b,rfl,⟨_,SqT.of UG⟩,?_⟩);refine zi (K:=K) (a:=b) (xs:=bs.map V.ref) (λi σ H2=>∃ (S':Int) (v3:Option V),σ=[some (.ref a),some (.int S'),some (.ref b),v3]/\H2=H1/\0<S'/\S ∣ S'/\(∀ f∈Pn[m].take i,f.2 ∣ S')/\Sz (2100*m+700*i+1) S') ⟨S,_,rfl,rfl,S0,Int.dvd_refl _,by simp,by simpa using Sb⟩ (by rintro i σ H2 _ ⟨_,_,_,rfl,_⟩;exact SqT.of UG) ?_ ?_
   ·rintro i x σ H2 hx ⟨S',v3,rfl,rfl,SD,dS,fd,sz⟩;rw [ZS] at hx;obtain ⟨c,hc,rfl⟩:∃ c,bs[i]?=some c/\x=V.ref c:=by
     cases e:bs[i]? with
     | none=>rw [e] at hx;cases hx
     | some c=>rw [e] at hx;exact ⟨c,rfl,(ZO hx).symm⟩
    obtain ⟨fr,hf,jY⟩:=pr.at hc;have fm:=ZX hf;have f0:=ps.fq.pos fr fm;have fz:=ps.fq.bot fr fm;obtain ⟨n0,n1,n2,n3,n4⟩:=wL SD f0;have g0:=i6 S' (show fr.2≠0 by omega);have hi:=(ZL.mp hf).1;have gz:GZ fr.2 ((Int.gcd S' fr.2:Nat):Int):=⟨by omega,Sz.le (fz.mono (by decide)) (by have:=zdr S' (show fr.2≠0 by omega);simpa using this)⟩;have mz:IntMulOk S' (fr.2 / ((Int.gcd S' fr.2:Nat):Int)):=Sz.cO (m:=40000) (n:=700) (sz.mono (by omega)) (Sz.le fz n3);walk_at "";refine ⟨S',fr.2,rfl,?_⟩;walk_at "";refine ⟨_,_,rfl,rfl,n0,zdS dS n1,λu hu=>?_,?_⟩
    ·rw [take_snoc hf] at hu;rcases ZZ.mp hu with z|z
     ·exact zdS (fd u z) n1
     ·rw [ZT.mp z];exact n2
    ·exact (Sz.mul sz (Sz.le fz n3)).mono (by omega)
   ·rintro σ H2 ⟨S',v3,rfl,rfl,SD,dS,fd,sz⟩;rw [ZK,lb,l3,zbU (by omega)] at fd;rw [ZK,lb,l3] at sz;refine ⟨S',_,_,rfl,rfl,SD,λp hp=>?_,sz.mono (by omega)⟩;rw [zbQ,ZJ iK] at hp;rcases ZZ.mp hp with z|z
    ·exact λf hf=>zdS (Sd p z f hf) dS
    ·have z:p∈[Pn[m]]:=z;rw [ZT.mp z];exact fd
  ·rintro σ H1 ⟨S,v2,v3,rfl,rfl,S0,Sd,Sb⟩;rw [ZK,len,zbn] at Sd;rw [ZK,len] at Sb;have Sb:Sz 29000 S:=Sb.mono (by omega);walk_at "";refine bQ ?_;refine bM (UV rfl ⟨a,rfl,⟨_,aH.of pt.1⟩,λacc aY=>?_⟩);refine bT (K:=K) (a:=a) (xs:=as.map V.ref) (λm σ' ys H2=>∃ (v:Option V) (bs:XL) (Tn:Uf),σ'=[v,some (.int S)]/\ys=bs.map V.ref/\ao H1 H2/\Tr H2 acc bs Tn/\uf (Pn.take m) Tn S)
    ⟨none,[],[],rfl,rfl,ao.upd aY,⟨ae,rfl,λj b l z=>by simp at z⟩,⟨S0,by simp,λj p x z=>by simp at z,by simp⟩⟩ (by rintro m σ' ys H2 _ ⟨_,_,_,_,_,e,_⟩;exact aH.of (e _ _ pt.1)) ?_ ?_
   ·rintro m x σ' ys H2 hx hm ⟨v,bs,Tn,rfl,rfl,e2,tr,fo⟩;rw [ZK] at hm;have iK:m<Pn.length:=by omega
    obtain ⟨b,hb,cs,XH,pr,l3⟩:=pt.at iK;have ex:x=V.ref b:=by rw [ZS,hb] at hx;exact (ZO hx).symm
    subst ex;have ps:=hP _ (Z4 iK);have lb:=pr.len;walk_at "";have Bz:=e2 _ _ XH;refine bQ (Cs (UV rfl ⟨b,rfl,⟨_,SqT.of Bz⟩,λN4 Dx=>?_⟩));refine j9 (K:=K) (a:=b) (xs:=cs.map V.ref) (λi σ' ys H3=>∃ (v:Option V) (l:Wp),σ'=[v,some (.int S)]/\ys=l.map V.int/\ao H2 H3/\H3 N4=some (.lst ys)/\Wh (Pn[m].take i) S l/\∀ y∈l,Sz 30000 y)
     ⟨none,[],rfl,rfl,ao.upd Dx,ae,⟨S0,by simp,λi f x h1=>by simp at h1⟩,by simp⟩ (by rintro i σ' ys H3 _ ⟨_,_,_,_,e,_⟩;exact SqT.of (e _ _ Bz)) ?_ ?_
    ·rintro i x σ' ys H3 hx hi ⟨v,l,rfl,rfl,e3,a3,wh,lz⟩;rw [ZS] at hx;obtain ⟨c,hc,rfl⟩:∃ c,cs[i]?=some c/\x=V.ref c:=by
      cases e:cs[i]? with
      | none=>rw [e] at hx;cases hx
      | some c=>rw [e] at hx;exact ⟨c,rfl,(ZO hx).symm⟩
     obtain ⟨fr,hf,jY⟩:=(pr.same e2).at hc;have uk:=(ZL.mp hf).1;have fm:=ZX hf;have f0:=ps.fq.pos fr fm;have fz:=ps.fq.bot fr fm;have tz:=ps.fq.top fr fm;obtain ⟨y,hy⟩:=Sd _ (Z4 iK) fr fm;have ey:S / fr.2=y:=by rw [hy];exact zbx _ (by omega)
     have ll:l.length=i:=by rw [wh.len,Z9];omega
     have gz:GZ S fr.2:=⟨f0,fz.mono (by decide)⟩;have dz:Sz 29000 (S / fr.2):=Sz.le Sb (by
      have e1:=zdZ (show 0<=S by omega) (show 0<=fr.2 by omega);have e2:=zdP fr.2 (show 0<=S by omega);omega)
     have mz:IntMulOk fr.1 (S / fr.2):=Sz.cO (m:=700) (n:=29000) tz dz;have XA:=e3 _ _ jY;walk_at "";refine ⟨a3,by rw [ZK,ll];exact aD (by omega),bW hi ⟨_,l++[fr.1*(S / fr.2)],rfl,by rw [Z6];rfl,ao.fresh e3 Dx,ae,⟨S0,?_,λj gg x h1 h2=>?_⟩,λu hu=>?_⟩⟩
     ·rw [ZV,ll,Z9,zak];omega
     ·rw [take_snoc hf] at h1;by_cases zz:j<i
      ·rw [Z0 (by rw [Z9];omega)] at h1;rw [Z0 (by omega)] at h2;exact wh.eq j gg x h1 h2
      ·have jl:=(ZL.mp h2).1;rw [ZV,zak] at jl;have ej:j=i:=by omega
       subst ej;rw [Z2 (by rw [Z9];omega),Z9,Nat.min_eq_left (by omega),zdE] at h1;rw [Z2 (by omega),ll,zdE] at h2;cases h1
       cases h2
       rw [ey,hy];grind
     ·rcases ZZ.mp hu with z|z
      ·exact lz u z
      ·rw [ZT.mp z];exact (Sz.mul tz dz).mono (by decide)
    ·rintro σ' ys H3 ⟨v,l,rfl,rfl,e3,a3,wh,lz⟩;rw [ZK,lb,l3,zbU (by omega)] at wh;refine a7 ⟨N4,_,rfl,.inl ⟨aH.of a3,λtp vz=>?_⟩⟩;have e4:ao H3 (upd H3 tp (.tup (l.map V.int))):=ao.upd vz;have h4:upd H3 tp (.tup (l.map V.int)) tp=some (.tup (l.map V.int)):=ae;generalize upd H3 tp (.tup (l.map V.int))=H4 at e4 h4 ⊢;have U0:=e3.trans e4;have BR:=tr.same U0;have bl:=tr.2.1;have fl:=fo.len;rw [Z9] at fl;refine ⟨BR.1,by rw [ZK];exact aD (by omega),bW (by rw [ZK];exact hm) ⟨_,bs++[tp],Tn++[l],rfl,by rw [Z6];rfl,ao.fresh (e2.trans U0) aY,BR.snoc h4,⟨S0,?_,λj p x h1 h2=>?_,λu hu=>?_⟩⟩⟩
     ·rw [ZV,Z9,zak];omega
     ·rw [zbQ,ZJ iK] at h1;by_cases zz:j<m
      ·rw [Z0 (by rw [Z9];omega)] at h1;rw [Z0 (by omega)] at h2;exact fo.wh j p x h1 h2
      ·have jl:=(ZL.mp h2).1;rw [ZV,zak] at jl;have ej:j=m:=by omega
       subst ej;rw [Z2 (by rw [Z9];omega),Z9,Nat.min_eq_left (by omega),zdE] at h1;rw [Z2 (by omega),show j-Tn.length=0 by omega] at h2;cases h1
       cases h2
       exact wh
     ·rcases ZZ.mp hu with z|z
      ·exact fo.sz u z
      ·rw [ZT.mp z];exact ⟨by rw [wh.len,l3],lz⟩
   ·rintro σ' ys H2 ⟨v,bs,Tn,rfl,rfl,e2,tr,fo⟩;rw [ZK,len,zbn] at fo;exact q acc bs Tn S H2 e2 aY tr fo
theorem zE (F:Nat->Int) (h:∀ (i:Nat) (H1:Hp) (R:VK),i<3->ao H H1->R (.int (F i)) H1->te (some (.int (i:Int))::fr.map λk=>(σ[k]?).join) H1 R)
  (q:∀ t H',ao H H'->H t=none->H' t=some (.lst ([F 0,F 1,F 2].map V.int))->Q (.ref t) H'):qG (HD (mU (tC (V.int 3)) zZ)) (oK 0) x8 te 1 fr σ H Q:=by
 refine bQ ?_;refine aO (r_c (a7 ⟨3,rfl,by decide,by decide,?_⟩));show ∀ acc,_;intro acc aY;refine fI (λi σ' ys H1=>∃ v,σ'=v::(fr.map λk=>(σ[k]?).join)/\ys=((List.range i).map F).map V.int/\ao H H1/\H1 acc=some (.lst ys)) ⟨none,rfl,rfl,ao.upd aY,ae⟩ ?_ ?_
 ·rintro i σ' ys H1 hi ⟨v,rfl,rfl,e1,a1⟩;simp only [zbj];have O0:i<3:=hi;refine UF (Cp ?_);rw [ZW rfl];refine h i H1 _ O0 e1 ⟨a1,by rw [ZK,ZK,zaN];exact aD (by omega),bW hi ⟨_,rfl,?_,ao.fresh e1 aY,ae⟩⟩;rw [zcP,Z6,Z6]
  rfl
 ·rintro σ' ys H1 ⟨v,rfl,rfl,e1,a1⟩;exact q acc H1 e1 aY a1
theorem jF (h:Tp H a p) {i:Nat} (hi:i<3):SqT K H a ((l3 p).map V.int)/\ja ((l3 p).map V.int) (i:Int)=some (V.int ((l3 p).getD i 0)):=by
 refine ⟨SqT.of h,?_⟩;obtain rfl|rfl|rfl:i=0\/i=1\/i=2:=by omega
 ·rfl
 ·rfl
 ·rfl
theorem xu (p q:V3) (i:Nat) (hi:i<3):(l3 p).getD i 0-(l3 q).getD i 0=(l3 (c8 p q)).getD i 0:=by
 obtain rfl|rfl|rfl:i=0\/i=1\/i=2:=by omega
 ·rfl
 ·rfl
 ·rfl
theorem qP (h:S3 z p) (i:Nat):Sz z ((l3 p).getD i 0):=by
 match i with
 | 0=>exact h.1
 | 1=>exact h.2.1
 | 2=>exact h.2.2
 | i+3=>show Sz z 0;unfold Sz;exact zcD _
theorem fv:aI ["_law_one", "_law_two", "_law_three", "_law_a", "_law_b"] ["_law_one", "_law_two", "_law_three"] (aC gh):=by walk_at "n"
theorem nQ (D:Def K mg "_law_square" gh ["_law_one", "_law_two", "_law_three"]) (T:Txt K mg Z):bK P w K mg base (br P w) "_law_square" 1 ["_law_one", "_law_two", "_law_three"] kE:=by
 refine D.c6 fv (λvs H Q E h=>?_) (λf cz A o s H vs Q E hr h=>?_)
 ·obtain ⟨a,b,c,p,q,r,rfl,_⟩:=h;rfl
 ·obtain ⟨a,b,c,p,q,r,rfl,ha,hb,hc,zp,zq,zr,qq⟩:=h;refine ⟨_,(ah (gQ (i:=3) fv.nd rfl (by walk_at "L") (tg:=["_law_k"]) (fr:=[("_law_two",1),("_law_one",0)]) (by walk_at "blk_ok") rfl (bg rfl T.range (aa af ag)) (λ_ _ _ _ _=>(aE (i:=0) (show [("_law_k":Str),("_law_two":Str),("_law_one":Str)].Nodup by decide +kernel) rfl (by walk_at "L"))) (λ_ _ _ _ _=>a9) (λ_ _ _ _ _=>(av bO (aB (cU (K:=K) rfl) (pv 1) (pv 0) (λ_ _=>rfl)) (aB (cU (K:=K) rfl) (pv 2) (pv 0) (λ_ _=>rfl)))))
   (ah (gQ (i:=4) fv.nd rfl (by walk_at "L") (tg:=["_law_k"]) (fr:=[("_law_three",2),("_law_one",0)]) (by walk_at "blk_ok") rfl (bg rfl T.range (aa af ag)) (λ_ _ _ _ _=>(aE (i:=0) (show [("_law_k":Str),("_law_three":Str),("_law_one":Str)].Nodup by decide +kernel) rfl (by walk_at "L"))) (λ_ _ _ _ _=>a9) (λ_ _ _ _ _=>(av bO (aB (cU (K:=K) rfl) (pv 1) (pv 0) (λ_ _=>rfl)) (aB (cU (K:=K) rfl) (pv 2) (pv 0) (λ_ _=>rfl)))))
   (ar (aK (dq (aa (av bO (av aR (aB au (pv 3) af (λ_ _=>rfl)) (aB au (pv 4) af (λ_ _=>rfl))) (av aR (aB au (pv 3) af (λ_ _=>rfl)) (aB au (pv 4) af (λ_ _=>rfl)))) (aa (av bO (av aR (aB au (pv 3) af (λ_ _=>rfl)) (aB au (pv 4) af (λ_ _=>rfl))) (av aR (aB au (pv 3) af (λ_ _=>rfl)) (aB au (pv 4) af (λ_ _=>rfl)))) (aa (av bO (av aR (aB au (pv 3) af (λ_ _=>rfl)) (aB au (pv 4) af (λ_ _=>rfl))) (av aR (aB au (pv 3) af (λ_ _=>rfl)) (aB au (pv 4) af (λ_ _=>rfl)))) ag)))))))),?_⟩
  try dsimp only [cE]
  refine TW (T0 (zE (λi=>(l3 (c8 q p)).getD i 0) (λi H1 R hi e hR=>?_) λt1 H1 e1 f1 h1=>?_))
  ·have x1:=jF (K:=K) (e _ _ hb) hi;have x2:=jF (K:=K) (e _ _ ha) hi;refine TD (TD (UV rfl (UV rfl (fN x1.1 x1.2 ?_))));refine TD (UV rfl (UV rfl (fN x2.1 x2.2 ?_)));rw [<-xu q p i hi] at hR;exact ⟨_,_,rfl,rfl,hR⟩
  ·refine UF (TW (T0 (zE (λi=>(l3 (c8 r p)).getD i 0) (λi H2 R hi e hR=>?_) λt2 H2 e2 f2 h2=>?_)))
   ·have x1:=jF (K:=K) ((e1.trans e) _ _ hc) hi;have x2:=jF (K:=K) ((e1.trans e) _ _ ha) hi;refine TD (TD (UV rfl (UV rfl (fN x1.1 x1.2 ?_))));refine TD (UV rfl (UV rfl (fN x2.1 x2.2 ?_)));rw [<-xu r p i hi] at hR;exact ⟨_,_,rfl,rfl,hR⟩
   ·have za:=zq.sub zp;have zb:=zr.sub zp;have RV:=e2 _ _ h1;have hm:∀ i j,IntMulOk ((l3 (c8 q p)).getD i 0) ((l3 (c8 r p)).getD j 0):=λi j=>Sz.cO (m:=30001) (n:=30001) (qP za i) (qP zb j);have i1:∀ i,i<3->ja ([(λi=>(l3 (c8 q p)).getD i 0) 0,(λi=>(l3 (c8 q p)).getD i 0) 1,(λi=>(l3 (c8 q p)).getD i 0) 2].map V.int) ((i:Nat):Int)=some (V.int ((l3 (c8 q p)).getD i 0)):=λi hi=>by
     obtain rfl|rfl|rfl:i=0\/i=1\/i=2:=by omega
     ·rfl
     ·rfl
     ·rfl
    have i2:∀ i,i<3->ja ([(λi=>(l3 (c8 r p)).getD i 0) 0,(λi=>(l3 (c8 r p)).getD i 0) 1,(λi=>(l3 (c8 r p)).getD i 0) 2].map V.int) ((i:Nat):Int)=some (V.int ((l3 (c8 r p)).getD i 0)):=λi hi=>by
     obtain rfl|rfl|rfl:i=0\/i=1\/i=2:=by omega
     ·rfl
     ·rfl
     ·rfl
    have Y9:=hm 1 2;have Y8:=hm 2 1;have K9:=hm 2 0;have Za:=hm 0 2;have Zb:=hm 0 1;have MG:=hm 1 0;walk_at "";intro t3 T7;exact qq t3 _ ((e1.trans e2).trans (ao.upd T7)) (e1.free (e2.free T7)) ae
theorem nv:aI ["_law_way", "_law_one", "_law_point"] ["_law_way", "_law_one", "_law_point"] (aC gi):=by walk_at "n"
theorem nR (D:Def K mg "_law_height" gi ["_law_way", "_law_one", "_law_point"]) (T:Txt K mg Z):bK P w K mg base (br P w) "_law_height" 1 ["_law_way", "_law_one", "_law_point"] kF:=by
 refine D.c6 nv (λvs H Q E h=>?_) (λf cz A o s H vs Q E hr h=>?_)
 ·obtain ⟨a,b,c,p,q,r,rfl,_⟩:=h;rfl
 ·obtain ⟨a,b,c,p,q,r,rfl,ha,hb,hc,zp,zq,zr,qq⟩:=h;refine ⟨_,(ar (aK (aG (rz rfl) (by rfl) T.sum D8 (aa (bH (tg:=["_law_k"]) (fr:=[("_law_way",0),("_law_point",2),("_law_one",1)]) (by walk_at "blk_ok") rfl (bg rfl T.range (aa af ag)) (λ_ _ _ _ _=>(aE (i:=0) (show [("_law_k":Str),("_law_way":Str),("_law_point":Str),("_law_one":Str)].Nodup by decide +kernel) rfl (by walk_at "L"))) (λ_ _ _ _ _=>a9) (λ_ _ _ _ _=>(av aR (aB (cU (K:=K) rfl) (pv 1) (pv 0) (λ_ _=>rfl)) (av bO (aB (cU (K:=K) rfl) (pv 2) (pv 0) (λ_ _=>rfl)) (aB (cU (K:=K) rfl) (pv 3) (pv 0) (λ_ _=>rfl)))))) ag)))),?_⟩
  try dsimp only [cE]
  have zd:=zr.sub zq;walk_at "";refine zE (λi=>(l3 p).getD i 0*(l3 (c8 r q)).getD i 0) (λi H1 R hi e hR=>?_) λt1 H1 e1 f1 h1=>?_
  ·have x0:=jF (K:=K) (e _ _ ha) hi;have x1:=jF (K:=K) (e _ _ hc) hi;have x2:=jF (K:=K) (e _ _ hb) hi;have mz:IntMulOk ((l3 p).getD i 0) ((l3 (c8 r q)).getD i 0):=Sz.cO (m:=60010) (n:=30001) (qP zp i) (qP zd i);refine TD (TD (UV rfl (UV rfl (fN x0.1 x0.2 ?_))));refine TD (TD (UV rfl (UV rfl (fN x1.1 x1.2 ?_))));refine TD (UV rfl (UV rfl (fN x2.1 x2.2 ?_)));rw [<-xu r q i hi] at hR mz;exact ⟨_,_,rfl,rfl,_,_,rfl,rfl,mz,hR⟩
  ·refine a7 ⟨t1,_,rfl,aH.of h1,?_⟩;have:=qq H1 e1;unfold ji ki at this;rw [show [(l3 p).getD 0 0*(l3 (c8 r q)).getD 0 0,(l3 p).getD 1 0*(l3 (c8 r q)).getD 1 0,(l3 p).getD 2 0*(l3 (c8 r q)).getD 2 0].sum=p.u*(c8 r q).u+p.v*(c8 r q).v+p.w*(c8 r q).w by simp [l3];omega];exact this
theorem pK:aI ["_law_way", "_law_other"] ["_law_way", "_law_other"] (aC gO):=by walk_at "n"
theorem pQ (D:Def K mg "_law_along" gO ["_law_way", "_law_other"]) (T:Txt K mg Z):bK P w K mg base (br P w) "_law_along" 1 ["_law_way", "_law_other"] uQ:=by
 refine D.c6 pK (λvs H Q E h=>?_) (λf cz A o s H vs Q E hr h=>?_)
 ·obtain ⟨a,b,p,q,rfl,_⟩:=h;rfl
 ·obtain ⟨a,b,p,q,rfl,ha,hb,zp,zq,qq⟩:=h;refine ⟨_,(ar (aK (aG (rz rfl) (by rfl) T.sum D8 (aa (bH (tg:=["_law_k"]) (fr:=[("_law_way",0),("_law_other",1)]) (by walk_at "blk_ok") rfl (bg rfl T.range (aa af ag)) (λ_ _ _ _ _=>(aE (i:=0) (show [("_law_k":Str),("_law_way":Str),("_law_other":Str)].Nodup by decide +kernel) rfl (by walk_at "L"))) (λ_ _ _ _ _=>a9) (λ_ _ _ _ _=>(av aR (aB (cU (K:=K) rfl) (pv 1) (pv 0) (λ_ _=>rfl)) (aB (cU (K:=K) rfl) (pv 2) (pv 0) (λ_ _=>rfl))))) ag)))),?_⟩
  try dsimp only [cE]
  walk_at "";refine zE (λi=>(l3 p).getD i 0*(l3 q).getD i 0) (λi H1 R hi e hR=>?_) λt1 H1 e1 f1 h1=>?_
  ·have x0:=jF (K:=K) (e _ _ ha) hi;have x1:=jF (K:=K) (e _ _ hb) hi;have mz:IntMulOk ((l3 p).getD i 0) ((l3 q).getD i 0):=Sz.cO (m:=60010) (n:=60010) (qP zp i) (qP zq i);refine TD (TD (UV rfl (UV rfl (fN x0.1 x0.2 ?_))));refine TD (UV rfl (UV rfl (fN x1.1 x1.2 ?_)));exact ⟨_,_,rfl,rfl,mz,hR⟩
  ·refine a7 ⟨t1,_,rfl,aH.of h1,?_⟩;have:=qq H1 e1;unfold ki at this;rw [show [(l3 p).getD 0 0*(l3 q).getD 0 0,(l3 p).getD 1 0*(l3 q).getD 1 0,(l3 p).getD 2 0*(l3 q).getD 2 0].sum=p.u*q.u+p.v*q.v+p.w*q.w by simp [l3];omega];exact this
theorem b7:aI ["_law_points", "_law_i", "_law_j", "_law_k", "_law_way"] ["_law_points"] (aC eM):=by walk_at "n"
theorem kT (D:Def K mg "_law_all_flat" eM ["_law_points"]) (T:Txt K mg Z) (de:bK P w K mg base (br P w) "_law_square" 1 ["_law_one", "_law_two", "_law_three"] kE) (eu:bK P w K mg base (br P w) "_law_height" 1 ["_law_way", "_law_one", "_law_point"] kF):bK P w K mg base (br P w) "_law_all_flat" 2 ["_law_points"] yj:=by
 refine D.c6 b7 (λvs H Q E h=>?_) (λf cz A o s H vs Q E hr h=>?_)
 ·obtain ⟨a,as,Tn,rfl,_⟩:=h;rfl
 ·obtain ⟨a,as,Tn,rfl,tr,tz,tn,qy,qn⟩:=h;refine ⟨_,(ah (bN zai rfl (bg rfl T.range (aa (aG bJ (by rfl) T.len cQ (aa (pv 0) ag)) ag)) (aE (i:=1) b7.nd rfl (by walk_at "L"))
   (ar (bN zai rfl (bg rfl T.range (aa (pv 1) ag)) (aE (i:=2) b7.nd rfl (by walk_at "L"))
   (ar (bN zai rfl (bg rfl T.range (aa (pv 2) ag)) (aE (i:=3) b7.nd rfl (by walk_at "L"))
   (ah (aF (i:=4) b7.nd rfl (by walk_at "L") (aA de hr aQ (aa (aB au (pv 0) (pv 1) (λ_ _=>rfl)) (aa (aB au (pv 0) (pv 2) (λ_ _=>rfl)) (aa (aB au (pv 0) (pv 3) (λ_ _=>rfl)) ag)))))
   (ar (bU (aM (sG hr.units) (bH (tg:=["_law_point"]) (fr:=[("_law_way",4),("_law_points",0),("_law_i",1)]) (by walk_at "blk_ok") rfl (bq (pv 0)) (λ_ _ _ _ _=>(aE (i:=0) (show [("_law_point":Str),("_law_way":Str),("_law_points":Str),("_law_i":Str)].Nodup by decide +kernel) rfl (by walk_at "L"))) (λ_ _ _ _ _=>(gw (aM u9 (aA eu hr aQ (aa (pv 1) (aa (aB (fG (K:=K) rfl) (pv 2) (pv 3) (λ_ _=>rfl)) (aa (pv 0) ag)))) af (aN _)))) (λ_ _ _ _ _=>(pv 0))) (cu ag) (aN _)) (ar (aK dv)) aX))))))))
   (ar (aK dv))),?_⟩
  try dsimp only [cE]
  have len:=tr.2.1;refine TW (cH ?_);refine aO (nE (aO (UV rfl (a7 ⟨_,_,rfl,.inl ⟨_,aH.of tr.1,rfl⟩,?_⟩))));rw [ZK,len];refine a7 ⟨(Tn.length:Int),rfl,by omega,by omega,?_⟩;rw [zaE];refine cW (λi σ H1=>∃ v1 v2 v3 v4,σ=[some (.ref a),v1,v2,v3,v4]/\ao H H1/\∀ i' j k q,k<j->j<i'->i'<i->q<Tn.length->ji (dB (tv Tn i') (tv Tn j) (tv Tn k)) (tv Tn i') (tv Tn q)=0) ⟨none,none,none,none,rfl,ao.refl _,λi' j k q _ _ h=>by omega⟩ ?_ ?_
  ·rintro i σ H1 hi ⟨v1,v2,v3,v4,rfl,e1,z1⟩;simp only [zbj];refine UF (cH ?_);refine aO (UV rfl (a7 ⟨(i:Int),rfl,by omega,by omega,?_⟩));rw [zaE];refine cW (λj σ H2=>∃ v2 v3 v4,σ=[some (.ref a),some (.int (i:Int)),v2,v3,v4]/\ao H H2/\∀ j' k q,k<j'->j'<j->q<Tn.length->ji (dB (tv Tn i) (tv Tn j') (tv Tn k)) (tv Tn i) (tv Tn q)=0) ⟨_,_,_,rfl,e1,λj' k q _ h=>by omega⟩ ?_ ?_
   ·rintro j σ H2 hj ⟨v2,v3,v4,rfl,e2,z2⟩;simp only [zbj];refine UF (cH ?_);refine aO (UV rfl (a7 ⟨(j:Int),rfl,by omega,by omega,?_⟩));rw [zaE];refine cW (λk σ H3=>∃ v3 v4,σ=[some (.ref a),some (.int (i:Int)),some (.int (j:Int)),v3,v4]/\ao H H3/\∀ k' q,k'<k->q<Tn.length->ji (dB (tv Tn i) (tv Tn j) (tv Tn k')) (tv Tn i) (tv Tn q)=0) ⟨_,_,rfl,e2,λk' q h=>by omega⟩ ?_ ?_
    ·rintro k σ H3 hk ⟨v3,v4,rfl,e3,z3⟩;simp only [zbj];have EO:=tr.same e3;obtain ⟨ai,_,xi,ti,si⟩:=mT EO tz (i:=i) (by omega);obtain ⟨aj,_,xj,tj,sj⟩:=mT EO tz (i:=j) (by omega);obtain ⟨ak,_,xk,tk,sk⟩:=mT EO tz (i:=k) (by omega);walk_at "";refine aT (aH.of EO.1) xi ?_;walk_at "";refine aT (aH.of EO.1) xj ?_;walk_at "";refine aT (aH.of EO.1) xk ?_;walk_at "";refine ⟨ai,aj,ak,_,_,_,rfl,ti,tj,tk,si,sj,sk,λw H4 e4 f4 tw=>?_⟩;have sw:=S3.dB si sj sk;have BR:=EO.same e4;have Vr:Tp H4 ai (tv Tn i):=e4 _ _ ti;walk_at "";refine bQ (bM (UV rfl ⟨a,rfl,⟨_,aH.of BR.1⟩,λacc aY=>?_⟩));refine bT (K:=K) (a:=a) (xs:=as.map V.ref) (λm σ' ys H5=>∃ (v:Option V) (bs:XL) (U:Uf),σ'=[v,some (.ref w),some (.ref a),some (.int (i:Int))]/\ys=bs.map V.ref/\ao H4 H5/\Tr H5 acc bs U/\U.length<=m/\(U=[]↔∀ q,q<m->ji (dB (tv Tn i) (tv Tn j) (tv Tn k)) (tv Tn i) (tv Tn q)=0))
      ⟨none,[],[],rfl,rfl,ao.upd aY,⟨ae,rfl,λj b l z=>by simp at z⟩,ZQ _,⟨λ_ q h=>by omega,λ_=>rfl⟩⟩ (by rintro m σ' ys H5 _ ⟨_,_,_,_,_,e,_⟩;exact aH.of (e _ _ BR.1)) ?_ ?_
     ·rintro m x σ' ys H5 hx hm ⟨v,bs,U,rfl,rfl,e5,tu,ul,iff⟩;rw [ZK] at hm;have iK:m<Tn.length:=by omega
      have SU:=BR.same e5;obtain ⟨b,hb,_,tb,sb⟩:=mT SU tz iK;have ex:x=V.ref b:=by rw [ZS,hb] at hx;exact (ZO hx).symm
      subst ex;walk_at "";refine aT (aH.of SU.1) xi ?_;walk_at "";refine ⟨w,ai,b,_,_,_,rfl,e5 _ _ tw,e5 _ _ Vr,tb,sw,si,sb,λH6 e6=>?_⟩;walk_at "";have bl:=tu.2.1;refine vx (λh=>?_) (λh=>?_)
      ·walk_at "";have SR:=tu.same e6;refine ⟨SR.1,by rw [ZK];exact aD (by omega),bW (by rw [ZK];exact hm) ⟨_,bs++[b],U++[l3 (tv Tn m)],rfl,by rw [Z6];rfl,ao.fresh (e5.trans e6) aY,SR.snoc (e6 _ _ tb),by rw [ZV,zak];omega,⟨λz=>by simp at z,λz=>absurd (z m (by omega)) h⟩⟩⟩
      ·refine bW (by rw [ZK];exact hm) ⟨_,bs,U,rfl,rfl,e5.trans e6,tu.same e6,by omega,iff.trans ⟨λz q hq=>?_,λz q hq=>z q (by omega)⟩⟩;by_cases y:q=m
       ·rw [y];exact h
       ·exact z q (by omega)
     ·rintro σ' ys H5 ⟨v,bs,U,rfl,rfl,e5,tu,ul,iff⟩;rw [ZK,len] at iff;have Yw:=e4.trans e5;walk_at "";refine ⟨Z7 _,λzl MP=>?_⟩;have e6:ao H5 (upd H5 zl (.lst [])):=ao.upd MP;have t0:Tr (upd H5 zl (.lst [])) zl [] []:=⟨ae,rfl,λj b l z=>by simp at z⟩;refine ⟨lN U,lN [],(tu.same e6).su,t0.su,lD _,lD _,?_⟩;rw [ZW rfl,DT];walk_at "";have eH:=(e3.trans Yw).trans e6;refine vx (λh=>?_) (λh=>?_)
      ·walk_at "";refine qn _ eH λal=>h (iff.mpr λq hq=>al i j k q hk hj hi hq)
      ·walk_at "";refine ⟨_,_,rfl,eH,λk' q h1 h2=>?_⟩;by_cases y:k'=k
       ·rw [y];exact iff.mp h q h2
       ·exact z3 k' q (by omega) h2
    ·rintro σ H3 ⟨v3,v4,rfl,e3,z3⟩;refine ⟨_,_,_,rfl,e3,λj' k q h1 h2 h3=>?_⟩;by_cases y:j'=j
     ·rw [y] at h1 ⊢;exact z3 k q h1 h3
     ·exact z2 j' k q h1 (by omega) h3
   ·rintro σ H2 ⟨v2,v3,v4,rfl,e2,z2⟩;refine ⟨_,_,_,_,rfl,e2,λi' j k q h1 h2 h3 h4=>?_⟩;by_cases y:i'=i
    ·rw [y] at h2 ⊢;exact z2 j k q h1 h2 h4
    ·exact z1 i' j k q h1 h2 (by omega) h4
  ·rintro σ H1 ⟨v1,v2,v3,v4,rfl,e1,z1⟩;walk_at "";exact qy H1 e1 λi j k q h1 h2 h3 h4=>z1 i j k q h1 h2 h3 h4
theorem cB:aI ["_law_points", "_law_way", "_law_caught", "e"] ["_law_points"] (aC fx):=by walk_at "n"
theorem lU (D:Def K mg "_law_refused" fx ["_law_points"]) (T:Txt K mg Z) (c9:bK P w K mg base (br P w) "solid_lands" 8 ["points"] (jI Z)) (vG:bK P w K mg base (br P w) "solid_map" 9 ["points"] (jJ Z)) (pX:bK P w K mg base (br P w) "turned_over" 8 ["points"] (jJ Z)):bK P w K mg base (br P w) "_law_refused" 10 ["_law_points"] (yh Z):=by
 refine D.c6 cB (λvs H Q E h=>?_) (λf cz A o s H vs Q E hr h=>?_)
 ·obtain ⟨a,as,Pn,rfl,_⟩:=h;rfl
 ·obtain ⟨a,as,Pn,rfl,pt,tb,pn,hP,fl,no,q⟩:=h;refine ⟨_,(ah (bN zai rfl (bg rfl T.range (aa af ag)) (aE (i:=1) cB.nd rfl (by walk_at "L"))
   (ah (aF (i:=2) cB.nd rfl (by walk_at "L") Jl)
   (ah (Fu (uX (CC (aM eQ (pv 1) af (aN _)) c9 hr (aa (pv 0) ag)) (uX (CC (aM eQ (pv 1) af (aN _)) vG hr (aa (pv 0) ag)) (Fn (CC (aM eQ (pv 1) af (aN _)) pX hr (aa (pv 0) ag))))) Ea T.xO cB.nd (jn:=3) rfl rfl (λ_=>(ar (aF (i:=2) cB.nd rfl (by walk_at "L") (pv 3)))))
   (ah (bU (dG (aG xN (by rfl) T.isinstance bY (aa (pv 2) (aa (dq (aa (fP (v:=.ref Z.o7) rfl T.GC rfl) (aa (fP (v:=.ref Z.gZ) rfl T.Bj rfl) (aa (fP (v:=.ref Z.dW) rfl T.vX rfl) (aa (fP (v:=.ref Z.jA) rfl T.D7 rfl) ag))))) ag)))) (ar (aK dv)) aX)
   (ar (bU (PW.pt (pw_or (gP (dG (aG oV (by rfl) T.isinstance bY (aa (pv 2) (aa (fP (v:=.ref Z.Flat) rfl T.xP rfl) ag))))) (pw_or1 (gP (dG (aG oV (by rfl) T.isinstance bY (aa (pv 2) (aa (jQ (v:=.ty "ValueError") rfl T.ValueError qk rfl) ag)))))))) (ar (aK dv)) aX))))))
   (ar (aK dv))),?_⟩
  try dsimp only [cE]
  refine TW (cH ?_);refine aO (r_c (a7 ⟨3,rfl,by decide,by decide,?_⟩));refine cW (λk σ H1=>∃ v1 v2 v3,σ=[some (.ref a),v1,v2,v3]/\fJ Z.tab H H1/\TB Z H1) ⟨none,none,none,rfl,fJ.refl _ _,tb⟩ ?_ ?_
  ·rintro k σ H1 hk ⟨v1,v2,v3,rfl,sm,pG⟩;simp only [zbj];have Uq:k<3:=hk;have p1:=fK.ym sm tb pt;refine UF (TW (T0 (r_c (UF ?_))));dsimp only;refine iD (λσ' H'=>∃ x,σ'=[some (.ref a),some (.int (k:Int)),some (.ref x),none]/\H' x=some (DO Z.Flat none x)/\fJ Z.tab H H'/\TB Z H') ?_ (λTn hT=>IT ?_)
   ·rintro σ' H2 ⟨x,rfl,hx,B5,pE⟩;walk_at "";refine ⟨by rw [zay];simp,λtp vz=>?_⟩;have e3:ao H2 (upd H2 tp (.tup [.ref Z.o7,.ref Z.gZ,.ref Z.dW,.ref Z.jA])):=ao.upd vz;have h3:upd H2 tp (.tup [.ref Z.o7,.ref Z.gZ,.ref Z.dW,.ref Z.jA]) tp=some (.tup [.ref Z.o7,.ref Z.gZ,.ref Z.dW,.ref Z.jA]):=ae;generalize upd H2 tp (.tup [.ref Z.o7,.ref Z.gZ,.ref Z.dW,.ref Z.jA])=H3 at e3 h3 ⊢;have QV:=e3 _ _ hx;walk_at "";refine Fe (.exc QV T.wI) h3 (.cons (.ref _) (.cons (.ref _) (.cons (.ref _) (.cons (.ref _) .nil)))) T.m3 ?_;walk_at "";refine yw (.exc QV T.wI) (.ref _) T.m2 ?_;walk_at "";refine yw (.exc QV T.wI) (.ty _) T.m5 ?_;walk_at "";exact ⟨_,_,_,rfl,B5.trans (fJ.of e3),cF.same pE e3⟩
   ·have exc:∀ (D:Ends) (H2:Hp),D.nx=Tn->fJ Z.tab H1 H2->TB Z H2->O7 K Z.o8 3 (BX (jG 3) (oK 2)) D [some (.ref a),some (.int (k:Int)),some .gn,v3] (.ref Z.Flat) none H2:=λD H2 hD B5 pE=>by
     refine ⟨Z.Flat,rfl,T.m1,λx hx=>T0 (UV rfl (UF ?_))⟩;dsimp only;rw [hD];exact hT _ _ ⟨x,rfl,ae,sm.trans (B5.trans (fJ.of (ao.upd hx))),cF.same pE (ao.upd hx)⟩
    obtain rfl|rfl|rfl:k=0\/k=1\/k=2:=by omega
    ·refine nC (qR ?_);walk_at "";rw [zad (show ((0:Nat):Int)=0 from rfl),ZW rfl];refine aO (UV rfl (a7 ⟨a,as,Pn,rfl,p1,pG,pn,hP,λt rs l F G H2 sl _ _ _ _=>absurd ⟨l,F,G,sl⟩ no,λ_ H2 B5 pE=>exc _ H2 rfl B5 pE⟩))
    ·refine nC (qR ?_);walk_at "";rw [zah (show ¬((1:Nat):Int)=0 by decide),ZU (by decide)];refine ⟨rfl,nC (qR ?_)⟩;walk_at "";rw [zad (show ((1:Nat):Int)=1 from rfl),ZW rfl];refine aO (UV rfl (a7 ⟨a,as,Pn,rfl,p1,pG,pn,hP,fl,no,λH2 B5 pE=>exc _ H2 rfl B5 pE⟩))
    ·refine nC (qR ?_);walk_at "";rw [zah (show ¬((2:Nat):Int)=0 by decide),ZU (by decide)];refine ⟨rfl,nC (qR ?_)⟩;walk_at "";rw [zah (show ¬((2:Nat):Int)=1 by decide),ZU (by decide)];refine ⟨rfl,qR ?_⟩;walk_at "";rw [zad (show ((2:Nat):Int)=2 from rfl),ZW rfl];refine aO (UV rfl (a7 ⟨a,as,Pn,rfl,p1,pG,pn,hP,fl,no,λH2 B5 pE=>exc _ H2 rfl B5 pE⟩))
  ·rintro σ H1 ⟨v1,v2,v3,rfl,sm,pG⟩;walk_at "";exact q H1 sm pG
theorem dN:aI ["_law_ring", "_law_points", "_law_number"] ["_law_ring", "_law_points"] (aC cM):=by walk_at "n"
theorem hV (D:Def K mg "_law_numbers_right" cM ["_law_ring", "_law_points"]) (T:Txt K mg Z) (tm:bK P w K mg base (br P w) "_law_whole" 1 ["_law_found"] uI):bK P w K mg base (br P w) "_law_numbers_right" 2 ["_law_ring", "_law_points"] qM:=by
 refine D.c6 dN (λvs H Q E h=>?_) (λf cz A o s H vs Q E hr h=>?_)
 ·obtain ⟨r,t,as,Tn,g,rfl,_⟩:=h;rfl
 ·obtain ⟨r,t,as,Tn,g,rfl,xA,tr,tn,g3,Yc,nd,K5,ls,q⟩:=h;refine ⟨_,(ah (bU (PW.pt (pw_or (gP (dG (aG i8 (by rfl) T.isinstance bY (aa (pv 0) (aa (jQ (v:=.ty "list") rfl T.list tV rfl) ag))))) (pw_or (aM lH (aG bJ (by rfl) T.len cQ (aa (pv 0) ag)) af (aN _)) (pw_or1 (aM lH (aG Bh (by rfl) T.len cQ (aa (eY (Be rfl) (by rfl) T.set KH (aa (pv 0) ag)) ag)) (aG bJ (by rfl) T.len cQ (aa (pv 0) ag)) (aN _)))))) (ar (aK dv)) aX)
   (ah (bN zai rfl (bq (pv 0)) (aE (i:=2) dN.nd rfl (by walk_at "L"))
   (ar (bU (PW.pt (pw_or (gP (dG (aA tm hr aQ (aa (pv 2) ag)))) (pw_or (aM lH (pv 2) af (aN _)) (pw_or (aM Mw (pv 2) (aG bJ (by rfl) T.len cQ (aa (pv 1) ag)) (aN _)) (pw_or1 (aM (Jp hr.units) (aB au (pv 1) (pv 2) (λ_ _=>rfl)) (dH iY (pv 1) eV (eU (pv 2))) (by with_unfolding_all rfl))))))) (ar (aK dv)) aX)))
   (ar (aK (eW (kO hr.units) (pv 0) (aG (rA rfl hr.units) (by rfl) T.min lq (aa (bH (tg:=["_law_k"]) (fr:=[("_law_ring",0)]) (by walk_at "blk_ok") rfl (bg rfl T.range (aa (aG bJ (by rfl) T.len cQ (aa (pv 0) ag)) ag)) (λ_ _ _ _ _=>(aE (i:=0) (show [("_law_k":Str),("_law_ring":Str)].Nodup by decide +kernel) rfl (by walk_at "L"))) (λ_ _ _ _ _=>a9) (λ_ _ _ _ _=>(av sH (dH (jK (K:=K) rfl) (pv 1) (eU (pv 0)) eV) (dH (jK (K:=K) rfl) (pv 1) eV (eU (pv 0)))))) ag)) (aN _)))))),?_⟩
  try dsimp only [cE]
  have len:=tr.2.1;walk_at "";refine sv (.lst xA) (.ty _) Dg ?_;walk_at "";refine ⟨_,_,rfl,.inl ⟨_,aH.of xA,rfl⟩,?_⟩;walk_at "";rw [ZK];refine if2 (λh=>by omega) (λ_=>?_);walk_at "";refine ⟨r,g,rfl,aH.of xA,by omega,λsp S wz=>?_⟩;have e1:ao H (upd H sp (.set S (tN g).length)):=ao.upd wz;have h1:upd H sp (.set S (tN g).length) sp=some (.set S (tN g).length):=ae;generalize upd H sp (.set S (tN g).length)=H1 at e1 h1 ⊢;walk_at "";refine ⟨sp,S,_,rfl,h1,?_⟩;walk_at "";refine ⟨_,_,rfl,.inl ⟨_,aH.of (e1 _ _ xA),rfl⟩,?_⟩;walk_at "";rw [ZK,(D1 g).mpr nd];refine if2 (λh=>by omega) (λ_=>?_);walk_at "";refine cH (bM (UV rfl ⟨r,rfl,⟨_,aH.of (e1 _ _ xA)⟩,?_⟩));refine dJ (K:=K) (a:=r) (xs:=g.map V.int) (λm σ H2=>∃ v2,σ=[some (.ref r),some (.ref t),v2]/\ao H H2) ⟨none,rfl,e1⟩ (by rintro m σ H2 _ ⟨_,_,e⟩;exact aH.of (e _ _ xA)) ?_ ?_
  ·rintro m x σ H2 hx ⟨v2,rfl,e2⟩;obtain ⟨y,hy,rfl⟩:=int_at hx;obtain ⟨n,rfl,hn,Er⟩:=K5 y (ZX hy);have G6:=tr.same e2;obtain ⟨b,hb,UI,Dw⟩:=G6.at hn;walk_at "";refine ⟨(n:Int),rfl,?_⟩;walk_at "";refine if2 (λh=>by omega) (λ_=>?_);walk_at "";refine ⟨_,_,rfl,.inl ⟨_,aH.of G6.1,rfl⟩,?_⟩;walk_at "";rw [ZK,len];refine if2 (λh=>by omega) (λ_=>?_);walk_at "";refine aT (aH.of G6.1) UI ?_;refine Fb (a:=t) (i:=1) (k:=2) (n:=n) rfl rfl (aH.of G6.1) (by rw [ZK];omega) λp hp=>?_;have e3:ao H2 (upd H2 p (.lst ((as.map V.ref).take n))):=ao.upd hp;have h3:upd H2 p (.lst ((as.map V.ref).take n)) p=some (.lst ((as.take n).map V.ref)):=by rw [ae,map_take]
   generalize upd H2 p (.lst ((as.map V.ref).take n))=H3 at e3 h3 ⊢;have EO:Tr H3 p (as.take n) (Tn.take n):=⟨h3,by rw [Z9,Z9,len],λj a l x1 x2=>by
    have jn:j<n:=by
     have:=(ZL.mp x1).1;rw [Z9] at this;omega
    rw [zcY jn] at x1 x2;exact (G6.same e3).2.2 j a l x1 x2⟩
   refine ⟨p,as.take n,(Tn.take n).map gE,gE Tn[n],rfl,h3,mF (e3 _ _ Dw),eZ _,EO.D2,?_⟩;have no:(((Tn.take n).map gE).any λe=>PyData.eqv e (gE Tn[n]))=false:=by
    rw [any_eq_false];intro e he;rw [mem_map] at he;obtain ⟨u,hu,rfl⟩:=he;rw [tJ];intro z;have z:=zaR z;have e9:Tn.getD n []=Tn[n]:=by rw [ZP,ZJ hn];rfl
    rw [e9,<-z] at Er;exact Er hu
   rw [ZU (by decide),no];walk_at "";exact ⟨_,rfl,e2.trans e3⟩
  ·rintro σ H2 ⟨v2,rfl,e2⟩;have JR:=e2 _ _ xA;walk_at "";refine bQ ?_;refine aO (nE (aO (UV rfl (a7 ⟨_,_,rfl,.inl ⟨_,aH.of JR,rfl⟩,?_⟩))));rw [ZK];refine a7 ⟨(g.length:Int),rfl,by omega,by omega,?_⟩;rw [zaE];intro acc aY;refine fI (λj σ' ys H3=>∃ (es:XL) (v:Option V),σ'=[v,some (.ref r)]/\ys=es.map V.ref/\ao H2 H3/\cX H3 acc es ((List.range j).map (du g))/\acc∉es)
    ⟨[],none,rfl,rfl,ao.upd aY,⟨ae,rfl,λi b l z=>by simp at z⟩,by simp⟩ ?_ ?_
   ·rintro j σ' ys H3 hj ⟨es,v,rfl,rfl,e3,Gg,na⟩;simp only [zbj];have zl:=Gg.len;rw [ZK,zaN] at zl;walk_at "";refine qS (a:=r) (i:=1) (k:=0) (n:=j) (r:=g) rfl rfl (aH.of (e3 _ _ JR)) (by omega) λp1 AL=>?_;have e4:ao H3 (upd H3 p1 (.lst ((g.drop j).map V.int))):=ao.upd AL;refine yx (a:=r) (i:=1) (k:=0) (n:=j) (r:=g) rfl rfl (aH.of (e4 _ _ (e3 _ _ JR))) (by omega) λp2 xC=>?_;have e5:=e4.trans (ao.upd (o:=.lst ((g.take j).map V.int)) xC);have x1:upd (upd H3 p1 (.lst ((g.drop j).map V.int))) p2 (.lst ((g.take j).map V.int)) p1=some (.lst ((g.drop j).map V.int)):=by rw [aq (aU ae xC)];exact ae
    refine ⟨p1,p2,_,_,rfl,rfl,x1,ae,by rw [ZK,ZK,zca,Z9,zay];omega,λb hb=>?_⟩;generalize upd (upd H3 p1 (.lst ((g.drop j).map V.int))) p2 (.lst ((g.take j).map V.int))=H5 at e5 x1 hb ⊢;have er:(g.drop j).map V.int++(g.take j).map V.int=(du g j).map V.int:=by unfold du;rw [Z6]
    rw [er];have nb:=(Gg.same e5).MB hb;have e6:=e5.trans (ao.upd (o:=.lst ((du g j).map V.int)) hb);have b6:upd H5 b (.lst ((du g j).map V.int)) b=some (.lst ((du g j).map V.int)):=ae;generalize upd H5 b (.lst ((du g j).map V.int))=H6 at e6 b6 ⊢;have g6:=Gg.same e6;have TQ:b≠acc:=λz=>nb (z▸zac);refine ⟨g6.top,by rw [ZK];exact aD (by omega),bW hj ⟨es++[b],_,rfl,by simp,ao.fresh (e3.trans e6) aY,?_,?_⟩⟩
    ·rw [zcP,Z6];exact g6.snoc na TQ b6
    ·intro z;rcases ZZ.mp z with z|z
     ·exact na z
     ·exact TQ (ZT.mp z).symm
   ·rintro σ' ys H3 ⟨es,v,rfl,rfl,e3,Gg,na⟩;have zl:=Gg.len;rw [ZK,zaN] at zl;walk_at "";refine ⟨acc,es,_,rfl,aH.of Gg.top,Gg.len,λi b l y1 y2=>aH.of (Gg.row i b l y1 y2),by omega,λk b l y1 y2 hle=>?_⟩;have hk:k<g.length:=by have:=(ZL.mp y1).1;omega
    have el:l=du g k:=by
     rw [ZS,getElem?_range hk] at y2;exact (ZO y2).symm
    have r0:du g 0=g:=by unfold du;simp
    have eg:l=g:=by
     have a1:Le l g:=by have:=hle (du g 0) (zaB.mpr ⟨0,zaj.mpr (by omega),rfl⟩);rw [r0] at this;exact this
     have a2:Le g l:=by rw [el];exact ls k hk
     exact Le.KO a1 a2
    have O5:=Gg.row k b l y1 y2;rw [eg] at O5;walk_at "";refine ⟨cg g,cg g,jO (e3 _ _ JR),jO O5,shaped_ints _,shaped_ints _,?_⟩;rw [ZU (by decide),tK,zad rfl];exact q H3 (e2.trans e3)
theorem aV:aI ["_law_ring", "_law_points", "_law_way", "_law_one", "_law_heights", "_law_k", "_law_corner", "_law_point", "_law_height_here", "_law_turn"] ["_law_ring", "_law_points"] (aC dF):=by walk_at "n"
theorem ju (D:Def K mg "_law_ring_right" dF ["_law_ring", "_law_points"]) (T:Txt K mg Z) (de:bK P w K mg base (br P w) "_law_square" 1 ["_law_one", "_law_two", "_law_three"] kE) (eu:bK P w K mg base (br P w) "_law_height" 1 ["_law_way", "_law_one", "_law_point"] kF) (j3:bK P w K mg base (br P w) "_law_along" 1 ["_law_way", "_law_other"] uQ):bK P w K mg base (br P w) "_law_ring_right" 2 ["_law_ring", "_law_points"] qI:=by
 refine D.c6 aV (λvs H Q E h=>?_) (λf cz A o s H vs Q E hr h=>?_)
 ·obtain ⟨r,t,as,Tn,g,rfl,_⟩:=h;rfl
 ·obtain ⟨r,t,as,Tn,g,rfl,xA,tr,tz,tn,rr,q⟩:=h;refine ⟨_,(ah (aF (i:=2) aV.nd rfl (by walk_at "L") (aA de hr aQ (aa (aB au (pv 1) (aB au (pv 0) af (λ_ _=>rfl)) (λ_ _=>rfl)) (aa (aB au (pv 1) (aB au (pv 0) af (λ_ _=>rfl)) (λ_ _=>rfl)) (aa (aB au (pv 1) (aB au (pv 0) af (λ_ _=>rfl)) (λ_ _=>rfl)) ag)))))
   (ah (aF (i:=3) aV.nd rfl (by walk_at "L") (aB au (pv 1) (aB au (pv 0) af (λ_ _=>rfl)) (λ_ _=>rfl)))
   (ah (gQ (i:=4) aV.nd rfl (by walk_at "L") (tg:=["_law_point"]) (fr:=[("_law_way",2),("_law_one",3)]) (by walk_at "blk_ok") rfl (bq (pv 1)) (λ_ _ _ _ _=>(aE (i:=0) (show [("_law_point":Str),("_law_way":Str),("_law_one":Str)].Nodup by decide +kernel) rfl (by walk_at "L"))) (λ_ _ _ _ _=>a9) (λ_ _ _ _ _=>(aA eu hr aQ (aa (pv 1) (aa (pv 2) (aa (pv 0) ag))))))
   (ah (bU (PW.pt (pw_or (aM (kO hr.units) (pv 2) (dq (aa af (aa af (aa af ag)))) (aN _)) (pw_or (aM qU (aG (Bf rfl) (by rfl) T.max D9 (aa (pv 4) ag)) af (aN _)) (pw_or1 (aM eQ (aG (rB rfl) (by rfl) T.min lq (aa (pv 4) ag)) af (aN _)))))) (ar (aK dv)) aX)
   (ah (bN zai rfl (bg rfl T.range (aa (aG bJ (by rfl) T.len cQ (aa (pv 0) ag)) ag)) (aE (i:=5) aV.nd rfl (by walk_at "L"))
   (ah (bU (aM u9 (aA eu hr aQ (aa (pv 2) (aa (pv 3) (aa (aB au (pv 1) (aB au (pv 0) (pv 5) (λ_ _=>rfl)) (λ_ _=>rfl)) ag)))) af (aN _)) (ar (aK dv)) aX)
   (ah (aF (i:=6) aV.nd rfl (by walk_at "L") (aB au (pv 1) (aB au (pv 0) (av bO (pv 5) af) (λ_ _=>rfl)) (λ_ _=>rfl)))
   (ah (bU (aM Mv (aA j3 hr aQ (aa (pv 2) (aa (aA de hr aQ (aa (aB au (pv 1) (aB au (pv 0) (av bO (pv 5) af) (λ_ _=>rfl)) (λ_ _=>rfl)) (aa (pv 6) (aa (aB au (pv 1) (aB au (pv 0) (pv 5) (λ_ _=>rfl)) (λ_ _=>rfl)) ag)))) ag))) af (aN _)) (ar (aK dv)) aX)
   (ar (bN zai rfl (Jg T.zip (aa (pv 1) (aa (pv 4) ag))) (kN (n:=2) rfl (bI (aE (i:=7) aV.nd rfl (by walk_at "L")) (bI (aE (i:=8) aV.nd rfl (by walk_at "L")) fO)))
   (ah (aF (i:=9) aV.nd rfl (by walk_at "L") (aA de hr aQ (aa (pv 6) (aa (aB au (pv 1) (aB au (pv 0) (pv 5) (λ_ _=>rfl)) (λ_ _=>rfl)) (aa (pv 7) ag)))))
   (ar (bU (PW.pt (pw_and (aM eQ (pv 8) af (aN _)) (pw_and1 (aM lH (aA j3 hr aQ (aa (pv 2) (aa (pv 9) ag))) af (aN _))))) (ar (aK dv)) aX)))))))))
   (ar (aK dv))))))),?_⟩
  try dsimp only [cE]
  have len:=tr.2.1;have g3:=rr.three;have Yc:=rr.wC;have Aa:∀ k,k<g.length->∃ a,ja (as.map V.ref) ((at' g k:Nat):Int)=some (V.ref a)/\Tp H a (tv Tn (at' g k))/\S3 30000 (tv Tn (at' g k)):=λk hk=>by
   obtain ⟨a,_,h2,h3,h4⟩:=mT tr tz (rr.lt k hk);exact ⟨a,h2,h3,h4⟩
  have i0:=lG (g:=g) (i:=0) (j:=0) (by omega) (by omega) (by omega) (.inl rfl);have i1:=lG (g:=g) (i:=1) (j:=1) (by omega) (by omega) (by omega) (.inl rfl);have i2:=lG (g:=g) (i:=2) (j:=2) (by omega) (by omega) (by omega) (.inl rfl);obtain ⟨a0,x0,t0,s0⟩:=Aa 0 (by omega);obtain ⟨a1,x1,t1,s1⟩:=Aa 1 (by omega);obtain ⟨a2,x2,t2,s2⟩:=Aa 2 (by omega);obtain ⟨_,_,_,nz,low,off,on,Vo,WC⟩:=rr;walk_at "";refine aT (aH.of xA) i0 ?_;refine aT (aH.of tr.1) x0 ?_;walk_at "";refine aT (aH.of xA) i1 ?_;refine aT (aH.of tr.1) x1 ?_;walk_at "";refine aT (aH.of xA) i2 ?_;refine aT (aH.of tr.1) x2 ?_;walk_at "";refine ⟨a0,a1,a2,_,_,_,rfl,t0,t1,t2,s0,s1,s2,λw H1 e1 f1 tw=>?_⟩;have sw:=S3.dB s0 s1 s2;generalize dB (tv Tn (at' g 0)) (tv Tn (at' g 1)) (tv Tn (at' g 2))=W at *;walk_at "";refine aT (aH.of (e1 _ _ xA)) i0 ?_;refine aT (aH.of (e1 _ _ tr.1)) x0 ?_;walk_at "";have Oq:=tr.same e1;refine bQ (bM (UV rfl ⟨t,rfl,⟨_,aH.of Oq.1⟩,λacc aY=>?_⟩));refine bT (K:=K) (a:=t) (xs:=as.map V.ref) (λm σ' ys H2=>∃ (v:Option V),σ'=[v,some (.ref w),some (.ref a0)]/\ys=((List.range m).map λq=>ji W (tv Tn (at' g 0)) (tv Tn q)).map V.int/\ao H1 H2/\H2 acc=some (.lst (((List.range m).map λq=>ji W (tv Tn (at' g 0)) (tv Tn q)).map V.int)))
   ⟨none,rfl,rfl,ao.upd aY,ae⟩ (by rintro m σ' ys H2 _ ⟨_,_,_,e,_⟩;exact aH.of (e _ _ Oq.1)) ?_ ?_
  ·rintro m x σ' ys H2 hx hm ⟨v,rfl,rfl,e2,h2⟩;rw [ZK] at hm;have G6:=Oq.same e2;obtain ⟨b,hb,_,tb,sb⟩:=mT G6 tz (i:=m) (by omega);have ex:x=V.ref b:=by rw [ZS,hb] at hx;exact (ZO hx).symm
   subst ex;walk_at "";refine ⟨w,a0,b,_,_,_,rfl,e2 _ _ tw,e2 _ _ (e1 _ _ t0),tb,sw,s0,sb,λH3 e3=>?_⟩;walk_at "";have h3:=e3 _ _ h2;refine ⟨h3,by rw [ZK,ZK,zaN];exact aD (by omega),bW (by rw [ZK];exact hm) ⟨_,rfl,by rw [zcP,Z6,Z6];rfl,ao.fresh (e2.trans e3) aY,?_⟩⟩;rw [ae,zcP,Z6,Z6]
   rfl
  ·rintro σ' ys H2 ⟨v,rfl,rfl,e2,h2⟩;rw [ZK,len] at h2;have G6:=Oq.same e2;have QX:Tp H2 w W:=e2 _ _ tw;walk_at "";intro zp WU;have e3:ao H2 (upd H2 zp (.tup [V.int 0,V.int 0,V.int 0])):=ao.upd WU;have T3:upd H2 zp (.tup [V.int 0,V.int 0,V.int 0]) zp=some (.tup (([0,0,0]:Wp).map V.int)):=ae;generalize upd H2 zp (.tup [V.int 0,V.int 0,V.int 0])=H3 at e3 T3 ⊢;refine ⟨gE (l3 W),gE [0,0,0],mF (e3 _ _ QX),mF T3,eZ _,eZ _,?_⟩;rw [ZU (by decide),tJ,zah nz];walk_at "";have RD:=e3 _ _ h2;have ne:((List.range Tn.length).map λq=>ji W (tv Tn (at' g 0)) (tv Tn q))≠[]:=λz=>by
    have:=zaO List.length z;rw [ZK,zaN,zcM] at this;obtain ⟨qq,hq,_⟩:=off;omega
   refine ⟨acc,_,rfl,aH.of RD,ne,λmx Ro Xi=>?_⟩;have Y6:mx<=0:=by
    obtain ⟨qq,hq,rfl⟩:=zaB.mp Ro;exact low qq (zaj.mp hq)
   walk_at "";refine if2 (λh=>by omega) (λ_=>?_);walk_at "";refine ⟨acc,_,rfl,aH.of RD,ne,λmn Xk Rt=>?_⟩;have Y7:mn<0:=by
    obtain ⟨qq,hq,dI⟩:=off;have:=Rt _ (zaB.mpr ⟨qq,zaj.mpr hq,rfl⟩);omega
   walk_at "";refine if2 (λh=>by omega) (λ_=>?_);have Sh:=(e1.trans e2).trans e3;walk_at "";refine cH ?_;refine aO (nE (aO (UV rfl (a7 ⟨_,_,rfl,.inl ⟨_,aH.of (Sh _ _ xA),rfl⟩,?_⟩))));rw [ZK,bu];refine a7 ⟨(g.length:Int),rfl,by omega,by omega,?_⟩;rw [zaE];refine cW (λk σ H4=>∃ v5 v6 v7 v8 v9,σ=[some (.ref r),some (.ref t),some (.ref w),some (.ref a0),some (.ref acc),v5,v6,v7,v8,v9]/\ao H3 H4) ⟨none,none,none,none,none,rfl,ao.refl _⟩ ?_ ?_
   ·rintro k σ H4 hk ⟨v5,v6,v7,v8,v9,rfl,e4⟩;simp only [zbj];have NP:=Sh.trans e4;have OT:=NP _ _ xA;have BR:=tr.same NP;have ik:=lG (g:=g) (i:=(k:Int)) (j:=k) (by omega) (by omega) hk (.inl rfl);obtain ⟨ak,xk,tk,sk⟩:=Aa k hk;have j1:(k+g.length-1)%g.length<g.length:=zaK _ (by omega);have j2:(k+g.length-2)%g.length<g.length:=zaK _ (by omega);have c1:(((k+g.length-1)%g.length:Nat):Int)=(k:Int)-1\/(((k+g.length-1)%g.length:Nat):Int)=(k:Int)-1+g.length:=by
     by_cases z:1<=k
     ·left;rw [show k+g.length-1=(k-1)+g.length by omega,zbT,zal (by omega)];omega
     ·right;rw [zal (by omega)];omega
    have c2:(((k+g.length-2)%g.length:Nat):Int)=(k:Int)-2\/(((k+g.length-2)%g.length:Nat):Int)=(k:Int)-2+g.length:=by
     by_cases z:2<=k
     ·left;rw [show k+g.length-2=(k-2)+g.length by omega,zbT,zal (by omega)];omega
     ·right;rw [zal (by omega)];omega
    have QS:=lG (g:=g) (i:=(k:Int)-1) (by omega) (by omega) j1 c1;have WM:=lG (g:=g) (i:=(k:Int)-2) (by omega) (by omega) j2 c2;have tu:=Vo k hk;have lf:=λq=>WC k q hk;have We:=on k hk;generalize (k+g.length-1)%g.length=WK at *;generalize (k+g.length-2)%g.length=QQ at *;obtain ⟨b1,y1,Oy,OB⟩:=Aa WK j1;obtain ⟨b2,y2,Ox,Tc⟩:=Aa QQ j2;have QW:Tp H4 w W:=(e2.trans (e3.trans e4)) _ _ tw;have Ya:Tp H4 a0 (tv Tn (at' g 0)):=NP _ _ t0;have Xq:Tp H4 ak (tv Tn (at' g k)):=NP _ _ tk;walk_at "";refine aT (aH.of OT) ik ?_;refine aT (aH.of BR.1) xk ?_;walk_at "";refine ⟨w,a0,ak,_,_,_,rfl,QW,Ya,Xq,sw,s0,sk,λH5 e5=>?_⟩;walk_at "";refine vx (λh=>absurd We h) (λ_=>?_);walk_at "";refine aT (aH.of (e5 _ _ OT)) QS ?_;refine aT (aH.of (e5 _ _ BR.1)) y1 ?_;walk_at "";refine aT (aH.of (e5 _ _ OT)) WM ?_;refine aT (aH.of (e5 _ _ BR.1)) y2 ?_;walk_at "";refine aT (aH.of (e5 _ _ OT)) ik ?_;refine aT (aH.of (e5 _ _ BR.1)) xk ?_;walk_at "";have Pc:=NP.trans e5;refine ⟨b2,b1,ak,_,_,_,rfl,Pc _ _ Ox,Pc _ _ Oy,Pc _ _ tk,Tc,OB,sk,λp6 H6 e6 f6 Ra=>?_⟩;walk_at "";refine ⟨w,p6,_,_,rfl,(e5.trans e6) _ _ QW,Ra,sw,S3.dB Tc OB sk,λH7 e7=>?_⟩;walk_at "";refine if2 (λh=>by omega) (λ_=>?_);walk_at "";have UY:=Pc.trans (e6.trans e7);have UZ:=e4.trans (e5.trans (e6.trans e7));have Px:=tr.same UY;have Ut:=UZ _ _ RD;refine cH (aO (UV rfl (aO (UV rfl (a7 ⟨t,acc,rfl,⟨_,aH.of Px.1⟩,⟨_,aH.of Ut⟩,?_⟩)))));refine Gh (K:=K) (a:=t) (b:=acc) (λm σ H8=>∃ v7 v8 v9,σ=[some (.ref r),some (.ref t),some (.ref w),some (.ref a0),some (.ref acc),some (.int (k:Int)),some (.ref b1),v7,v8,v9]/\ao H7 H8) ⟨_,_,_,rfl,ao.refl _⟩ (xs:=as.map V.ref) (ys:=((List.range Tn.length).map λq=>ji W (tv Tn (at' g 0)) (tv Tn q)).map V.int) (by rw [ZK,ZK,ZK,zaN,len]) (by rintro m σ H8 _ ⟨_,_,_,_,e8⟩;exact ⟨aH.of (e8 _ _ Px.1),aH.of (e8 _ _ Ut)⟩) ?_ ?_
    ·rintro m x y pp σ H8 hx hy ⟨Vh,Vg,Vf,rfl,e8⟩ OV;have hm:m<as.length:=by have:=(ZL.mp hx).1;rw [ZK] at this;exact this
     have iK:m<Tn.length:=by omega
     have Vp:=Px.same e8;obtain ⟨b,hb,_,tb,sb⟩:=mT Vp tz iK;have ex:x=V.ref b:=by rw [ZS,hb] at hx;exact (ZO hx).symm
     subst ex;have ey:y=V.int (ji W (tv Tn (at' g 0)) (tv Tn m)):=by
      rw [ZS,ZS,getElem?_range iK] at hy;exact (ZO hy).symm
     subst ey;have e9:ao H8 (upd H8 pp (.tup [V.ref b,V.int (ji W (tv Tn (at' g 0)) (tv Tn m))])):=ao.upd OV;have h9:upd H8 pp (.tup [V.ref b,V.int (ji W (tv Tn (at' g 0)) (tv Tn m))]) pp=some (.tup [V.ref b,V.int (ji W (tv Tn (at' g 0)) (tv Tn m))]):=ae;generalize upd H8 pp (.tup [V.ref b,V.int (ji W (tv Tn (at' g 0)) (tv Tn m))])=H9 at e9 h9 ⊢;have Pb:=UY.trans (e8.trans e9);walk_at "";refine aT (aH.of (Pb _ _ xA)) ik ?_;refine aT (aH.of (Pb _ _ tr.1)) xk ?_;walk_at "";refine ⟨b1,ak,b,_,_,_,rfl,Pb _ _ Oy,Pb _ _ tk,e9 _ _ tb,OB,sk,sb,λWc EF mM Zt Rc=>?_⟩;walk_at "";refine if2 (λh=>?_) (λ_=>?_)
     ·walk_at "";refine ⟨w,Wc,_,_,rfl,(mM _ _ (e9 _ _ (e8 _ _ ((e5.trans (e6.trans e7)) _ _ QW)))),Rc,sw,S3.dB OB sk sb,λmq Sj=>?_⟩;walk_at "";have l0:=lf m iK h;refine if2 (λh=>by omega) (λ_=>?_);walk_at "";exact ⟨_,_,_,rfl,e8.trans (e9.trans (mM.trans Sj))⟩
     ·walk_at "";exact ⟨_,_,_,rfl,e8.trans (e9.trans mM)⟩
    ·rintro σ H8 ⟨Vh,Vg,Vf,rfl,e8⟩;exact ⟨_,_,_,_,_,rfl,UZ.trans e8⟩
   ·rintro σ H4 ⟨v5,v6,v7,v8,v9,rfl,e4⟩;walk_at "";exact q H4 (Sh.trans e4)
theorem dE:aI ["_law_rings", "_law_ways", "_law_ring", "_law_k"] ["_law_rings"] (aC gj):=by walk_at "n"
theorem nS (D:Def K mg "_law_closed" gj ["_law_rings"]) (T:Txt K mg Z):bK P w K mg base (br P w) "_law_closed" 1 ["_law_rings"] qN:=by
 refine D.c6 dE (λvs H Q E h=>?_) (λf cz A o s H vs Q E hr h=>?_)
 ·obtain ⟨a,as,R,rfl,_⟩:=h;rfl
 ·obtain ⟨a,as,R,rfl,gd,wC,nd,rev,q⟩:=h;refine ⟨_,(ah (aF (i:=1) dE.nd rfl (by walk_at "L") (cu ag))
   (ah (bN zai rfl (bq (pv 0)) (aE (i:=2) dE.nd rfl (by walk_at "L"))
   (ar (bN zai rfl (bg rfl T.range (aa (aG bJ (by rfl) T.len cQ (aa (pv 2) ag)) ag)) (aE (i:=3) dE.nd rfl (by walk_at "L"))
   (ar (dY (jg zaw zaV zaW cT (pv 1) (aa (dq (aa (aB au (pv 2) (av bO (pv 3) af) (λ_ _=>rfl)) (aa (aB au (pv 2) (pv 3) (λ_ _=>rfl)) ag))) ag)))))))
   (ah (bU (aM lH (wZ rfl hr.units T.set T.len (pv 1)) (aG bJ (by rfl) T.len cQ (aa (pv 1) ag)) (aN _)) (ar (aK dv)) aX)
   (ar (aK (eW (kO hr.units) (bH (tg:=["_law_way"]) (fr:=[("_law_ways",1)]) (by walk_at "blk_ok") rfl (bq (pv 1)) (λ_ _ _ _ _=>(aE (i:=0) (show [("_law_way":Str),("_law_ways":Str)].Nodup by decide +kernel) rfl (by walk_at "L"))) (λ_ _ _ _ _=>(gw (aM (Ap hr.units) (dq (aa (aB (sU (K:=K) rfl) (pv 0) af (λ_ _=>rfl)) (aa (aB (sU (K:=K) rfl) (pv 0) af (λ_ _=>rfl)) ag))) (pv 1) (by with_unfolding_all rfl)))) (λ_ _ _ _ _=>(pv 0))) (cu ag) (aN _))))))),?_⟩
  try dsimp only [cE]
  have len:=gd.len;rw [ZK] at len;have sm:∀ y∈R.flatMap hU,y.1<12/\y.2<12:=λy hy=>by
   obtain ⟨g,hg,hy⟩:=zbN.mp hy;obtain ⟨f1,f2,f3⟩:=wC g hg;obtain ⟨k,hk,rfl⟩:=zaB.mp hy;have hk:=zaj.mp hk;have gp:∀ k,k<g.length->at' g k∈g:=λk hk=>by
    unfold at';rw [ZP,ZJ hk];exact Z4 hk
   exact ⟨f3 _ (gp _ (zaK _ f1)),f3 _ (gp _ hk)⟩
  have QM:(R.flatMap hU).length<=300:=C0 nd sm;walk_at "";refine ⟨Z7 _,λwl Et=>?_⟩;have e0:ao H (upd H wl (.lst [])):=ao.upd Et;have h0:upd H wl (.lst []) wl=some (.lst (([]:XL).map V.ref)):=ae;generalize upd H wl (.lst [])=H0 at e0 h0 ⊢;walk_at "";refine cH (bM (UV rfl ⟨a,rfl,⟨_,aH.of (e0 _ _ gd.top)⟩,?_⟩));refine dJ (K:=K) (a:=a) (xs:=as.map V.ref) (λm σ H1=>∃ v2 v3 ps,σ=[some (.ref a),some (.ref wl),v2,v3]/\ao H H1/\H1 wl=some (.lst (ps.map V.ref))/\PR H1 ps (((R.take m).flatMap hU).map dn)) ⟨none,none,[],rfl,e0,h0,.nil⟩ (by rintro m σ H1 _ ⟨_,_,_,_,e,_⟩;exact aH.of (e _ _ gd.top)) ?_ ?_
  ·rintro m x σ H1 hx ⟨v2,v3,ps,rfl,e1,h1,Jf⟩;have hm:m<as.length:=by have:=(ZL.mp hx).1;rw [ZK] at this;exact this
   have OX:m<R.length:=by omega
   obtain ⟨r,l,Q7,jh,MY⟩:=gd.at (i:=m) (by rw [ZK];exact OX);rw [ZS,ZJ OX] at jh;cases jh
   have ex:x=V.ref r:=by rw [ZS,Q7] at hx;exact (ZO hx).symm
   subst ex;obtain ⟨f1,f2,f3⟩:=wC R[m] (Z4 OX);have tk:R.take (m+1)=R.take m++[R[m]]:=by rw [zbQ,ZJ OX];rfl
   have hle:((R.take (m+1)).flatMap hU).length<=300:=by
    have:=zaO List.length (show R.flatMap hU=(R.take (m+1)).flatMap hU++(R.drop (m+1)).flatMap hU by rw [<-zdu,zdO]);rw [ZV] at this;omega
   rw [tk,zdu] at hle ⊢;have ew:[R[m]].flatMap hU=hU R[m]:=by simp
   rw [ew] at hle ⊢;generalize R[m]=g at *;refine UF (cH ?_);refine aO (nE (aO (UV rfl (a7 ⟨_,_,rfl,.inl ⟨_,aH.of (e1 _ _ MY),rfl⟩,?_⟩))));rw [ZK,bu];refine a7 ⟨(g.length:Int),rfl,by omega,by omega,?_⟩;rw [zaE];refine cW (λk σ H2=>∃ v3 ps,σ=[some (.ref a),some (.ref wl),some (.ref r),v3]/\ao H H2/\H2 wl=some (.lst (ps.map V.ref))/\PR H2 ps (((R.take m).flatMap hU++(hU g).take k).map dn)) ⟨_,ps,rfl,e1,h1,by simpa using Jf⟩ ?_ ?_
   ·rintro k σ H2 hk ⟨Vj,Tv,rfl,e2,h2,Mt⟩;simp only [zbj];have rP:(hU g).length=g.length:=by unfold hU;simp
    rw [ZV,rP] at hle;have pl:=Mt.length;rw [ZK,ZV,Z9,rP] at pl;have j1:(k+g.length-1)%g.length<g.length:=zaK _ (by omega);have c1:(((k+g.length-1)%g.length:Nat):Int)=(k:Int)-1\/(((k+g.length-1)%g.length:Nat):Int)=(k:Int)-1+g.length:=by
     by_cases z:1<=k
     ·left;rw [show k+g.length-1=(k-1)+g.length by omega,zbT,zal (by omega)];omega
     ·right;rw [zal (by omega)];omega
    have ik:=lG (g:=g) (i:=(k:Int)) (j:=k) (by omega) (by omega) hk (.inl rfl);have QS:=lG (g:=g) (i:=(k:Int)-1) (by omega) (by omega) j1 c1;have JR:=e2 _ _ MY;walk_at "";refine ⟨.inl ⟨rfl,_,aH.of h2⟩,?_⟩;walk_at "";refine aT (aH.of JR) QS ?_;walk_at "";refine aT (aH.of JR) ik ?_;walk_at "";intro p hp;have Y1:p≠wl:=λz=>by rw [z,h2] at hp;cases hp
    have e3:ao H2 (upd H2 p (.tup [.int (at' g ((k+g.length-1)%g.length):Nat),.int (at' g k:Nat)])):=ao.upd hp;have h3:upd H2 p (.tup [.int (at' g ((k+g.length-1)%g.length):Nat),.int (at' g k:Nat)]) p=some (.tup [.int (at' g ((k+g.length-1)%g.length):Nat),.int (at' g k:Nat)]):=ae;generalize upd H2 p (.tup [.int (at' g ((k+g.length-1)%g.length):Nat),.int (at' g k:Nat)])=H3 at e3 h3 ⊢;refine a7 (eC (e3 _ _ h2) (by rw [ZK];exact aD (by omega)) ?_);refine ⟨_,Tv++[p],rfl,ao.fresh (e2.trans e3) Et,by rw [ae,Z6];rfl,?_⟩;have Zn:k<(hU g).length:=by omega
    have Yv:(hU g)[k]?=some (at' g ((k+g.length-1)%g.length),at' g k):=by unfold hU;rw [ZS,getElem?_range hk];rfl
    rw [zbQ,Yv,<-zdA,Z6];exact PR.lst (PR.snoc (Mt.same e3) h3) (e3 _ _ h2)
   ·rintro σ H2 ⟨Vj,Tv,rfl,e2,h2,Mt⟩;have rP:(hU g).length=g.length:=by unfold hU;simp
    rw [<-rP,zbn] at Mt;exact ⟨_,_,_,rfl,e2,h2,Mt⟩
  ·rintro σ H1 ⟨v2,v3,ps,rfl,e1,h1,Jf⟩;rw [ZK,len,zbn] at Jf;have pl:=Jf.length;rw [ZK] at pl;walk_at "";refine Ai (UV rfl ⟨wl,ps,_,rfl,aH.of h1,Jf,nd,sm,QM,?_⟩);walk_at "";refine ⟨_,_,rfl,.inl ⟨_,aH.of h1,rfl⟩,?_⟩;walk_at "";rw [ZK,pl];refine if2 (λh=>by omega) (λ_=>?_);walk_at "";refine bQ (bM (UV rfl ⟨wl,rfl,⟨_,aH.of h1⟩,λacc aY=>?_⟩));refine bT (K:=K) (a:=wl) (xs:=ps.map V.ref) (λm σ' ys H2=>∃ (v:Option V),σ'=[v,some (.ref wl)]/\ys=[]/\ao H1 H2/\H2 acc=some (.lst []))
    ⟨none,rfl,rfl,ao.upd aY,ae⟩ (by rintro m σ' ys H2 _ ⟨_,_,_,e,_⟩;exact aH.of (e _ _ h1)) ?_ ?_
   ·rintro m x σ' ys H2 hx hm ⟨v,rfl,rfl,e2,h2⟩;rw [ZK] at hm;have hb:ps[m]?=some ps[m]:=ZJ hm;obtain ⟨⟨i,j⟩,hd,Xa⟩:=PR.at Jf hb;rw [ZS] at hd;have Uk:m<(R.flatMap hU).length:=by omega
    rw [ZJ Uk] at hd;have ex:x=V.ref ps[m]:=by rw [ZS,hb] at hx;exact (ZO hx).symm
    subst ex;have xC:=e2 _ _ Xa;have Ew:(R.flatMap hU)[m]∈R.flatMap hU:=Z4 Uk;generalize (R.flatMap hU)[m]=z at hd Ew;obtain ⟨zx,zy⟩:=z;injection hd with hd;unfold dn at hd;injection hd with XE hd2;subst XE;subst hd2;have W5:=rev zx zy Ew;walk_at "";refine .inr (fN (SqT.of xC) rfl ?_);walk_at "";refine .inr (fN (SqT.of xC) rfl ?_);walk_at "";intro p hp;have e3:ao H2 (upd H2 p (.tup [.int (zy:Int),.int (zx:Int)])):=ao.upd hp;have h3:upd H2 p (.tup [.int (zy:Int),.int (zx:Int)]) p=some (.tup [.int (zy:Int),.int (zx:Int)]):=ae;generalize upd H2 p (.tup [.int (zy:Int),.int (zx:Int)])=H3 at e3 h3 ⊢;refine UV rfl ⟨p,wl,((zy:Int),(zx:Int)),ps,_,rfl,rfl,h3,(e2.trans e3) _ _ h1,Jf.same (e2.trans e3),false,?_,?_⟩
    ·rw [zad (show ((zy:Int),(zx:Int))∈(R.flatMap hU).map dn from zaB.mpr ⟨(zy,zx),W5,rfl⟩)];rfl
    ·exact bW (by rw [ZK];exact hm) ⟨_,rfl,rfl,e2.trans e3,e3 _ _ h2⟩
   ·rintro σ' ys H2 ⟨v,rfl,rfl,e2,h2⟩;walk_at "";refine ⟨Z7 _,λzl MP=>?_⟩;have e3:ao H2 (upd H2 zl (.lst [])):=ao.upd MP;have h3:upd H2 zl (.lst []) zl=some (.lst []):=ae;generalize upd H2 zl (.lst [])=H3 at e3 h3 ⊢;refine ⟨cg [],cg [],jO (e3 _ _ h2),jO h3,shaped_ints _,shaped_ints _,?_⟩;rw [ZU (by decide),tK,zad rfl];exact q H3 (e1.trans (e2.trans e3))
theorem iw:aI ["_law_script", "_law_head", "_law_points", "_law_handed", "_law_flat_here", "_law_found", "_law_ring"] ["_law_script"] (aC ny):=by walk_at "n"
theorem Jq (F:KY K "law" "law" ny fa fd) (T:Txt K mg Z) (oI:bK P w K mg base (br P w) "_law_numbers" 1 ["_law_script", "_law_many"] (nh K)) (tE:bK P w K mg base (br P w) "_law_cloud" 2 ["_law_head", "_law_many"] uO) (k6:bK P w K mg base (br P w) "_law_cloud_put" 3 ["_law_points", "_law_head"] B2)
  (iM:bK P w K mg base (br P w) "_law_refused" 10 ["_law_points"] (yh Z)) (vI:bK P w K mg base (br P w) "_law_flat" 2 ["_law_points"] uK) (l7:bK P w K mg base (br P w) "_law_all_flat" 2 ["_law_points"] yj) (c9:bK P w K mg base (br P w) "solid_lands" 8 ["points"] (jI Z))
  (iN:bK P w K mg base (br P w) "_law_numbers_right" 2 ["_law_ring", "_law_points"] qM) (jZ:bK P w K mg base (br P w) "_law_ring_right" 2 ["_law_ring", "_law_points"] qI) (p8:bK P w K mg base (br P w) "_law_closed" 1 ["_law_rings"] qN):qA P w K mg base (br P w) 11 fa fd ["_law_script"] (rX K Z.tab):=by
 refine F.okN iw (λvs H Q E h=>?_) (λcz A o s H vs Q E hr h=>?_)
 ·obtain ⟨a,ns,rfl,_⟩:=h;rfl
 ·obtain ⟨a,ns,rfl,hS,hlen,tb,kq⟩:=h;have tb:TB Z H:=tb;refine ⟨_,(ah (aF (i:=1) iw.nd rfl (by walk_at "L") (aA oI hr aQ (aa (pv 0) (aa af ag))))
   (ah (aF (i:=2) iw.nd rfl (by walk_at "L") (aA k6 hr aQ (aa (aA tE hr aQ (aa (pv 1) (aa (av cx af (av bo (aB au (pv 1) af (λ_ _=>rfl)) af)) ag))) (aa (dH iY (pv 1) (eU af) eV) ag))))
   (ah (bU (aM eQ (av bo (av bX (aB au (pv 1) af (λ_ _=>rfl)) af) af) af (aN _)) (ar (dY (jg zaw zaV zaW cT (pv 2) (aa (aB au (pv 2) (av bo (av bX (aB au (pv 1) af (λ_ _=>rfl)) af) (aG bJ (by rfl) T.len cQ (aa (pv 2) ag))) (λ_ _=>rfl)) ag)))) aX)
   (ah (bU (gP (dG (aA iM hr aQ (aa (dH iY (pv 2) eV (eU (av bo (av bX (aB au (pv 1) af (λ_ _=>rfl)) af) af))) ag)))) (ar (aK dv)) aX)
   (ah (aF (i:=3) iw.nd rfl (by walk_at "L") (eY tU (by rfl) T.list tV (aa (pv 2) ag)))
   (ah (aF (i:=4) iw.nd rfl (by walk_at "L") (aA vI hr aQ (aa (pv 2) ag)))
   (ah (bU (dG (aA l7 hr aQ (aa (pv 4) ag))) (ar (aK (w4 (aA iM hr aQ (aa (pv 3) ag)) (sC (eW (kO hr.units) (pv 3) (pv 2) (aN _)))))) aX)
   (ah (aF (i:=5) iw.nd rfl (by walk_at "L") (aA c9 hr aQ (aa (pv 3) ag)))
   (ah (bU (PW.pt (pw_or (gP (dG (aG i8 (by rfl) T.isinstance bY (aa (pv 5) (aa (jQ (v:=.ty "list") rfl T.list tV rfl) ag))))) (pw_or (aM (sG hr.units) (pv 3) (pv 2) (aN _)) (pw_or1 (aM (kO hr.units) (pv 5) (cu ag) (aN _)))))) (ar (aK dv)) aX)
   (ah (bN zai rfl (bq (pv 5)) (aE (i:=6) iw.nd rfl (by walk_at "L"))
   (ar (bU (PW.pt (pw_or (gP (dG (aA iN hr aQ (aa (pv 6) (aa (pv 4) ag))))) (pw_or1 (gP (dG (aA jZ hr aQ (aa (pv 6) (aa (pv 4) ag)))))))) (ar (aK dv)) aX)))
   (ah (bU (PW.pt (pw_or (aM (sG hr.units) (pv 5) (aG (tT hr.units) (by rfl) T.sorted rD (aa (pv 5) ag)) (aN _)) (pw_or1 (gP (dG (aA p8 hr aQ (aa (pv 5) ag))))))) (ar (aK dv)) aX)
   (ah (bN zai rfl (bq (pv 5)) (aE (i:=6) iw.nd rfl (by walk_at "L"))
   (ar (dY (CN zaw PySem.F.slot_list_clear PySem.F.type_list_clear C1 (pv 6)))))
   (ar (aK (eW (kO hr.units) (pv 3) (pv 2) (aN _)))))))))))))))),?_⟩
  try dsimp only [cE]
  walk_at "";refine ⟨a,ns,8,rfl,hS,hlen,by decide,by decide,λhd fs H1 e1 Zo h1 fl fr=>?_⟩;obtain ⟨x1,ON,p1,q1⟩:∃ x:Int,ja (fs.map V.int) 1=some (V.int x)/\0<=x/\x<10 ^ 60+7:=by
   have il:1<fs.length:=by omega
   have:=fr fs[1] (Z4 il);exact ⟨fs[1],eA (j:=1) (by rw [ZS,ZJ il];rfl),this.1,this.2⟩
  have em:∀ (x m:Int),0<m->0<=x%m/\x%m<m:=λx m h=>⟨zbA _ (by omega),zbe _ h⟩;walk_at "";refine aT (aH.of h1) ON ?_;walk_at "";obtain ⟨w1,w2⟩:=em x1 7 (by decide);obtain ⟨n,hn⟩:∃ n:Nat,3+x1%7=(n:Int):=⟨(3+x1%7).toNat,by omega⟩;rw [hn];refine ⟨hd,fs,n,rfl,h1,fl,fr,by omega,λct cs L H2 e2 XG gd lL Ad=>?_⟩;have h2:=e2 _ _ h1;walk_at "";refine nD (a:=hd) (i:=1) (n:=4) (r:=fs) rfl (aH.of h2) (by omega) λp3 Rb=>?_;have e3:ao H2 (upd H2 p3 (.lst ((fs.drop 4).map V.int))):=ao.upd Rb;have h3:upd H2 p3 (.lst ((fs.drop 4).map V.int)) p3=some (.lst ((fs.drop 4).map V.int)):=ae;generalize upd H2 p3 (.lst ((fs.drop 4).map V.int))=H3 at e3 h3 ⊢;walk_at "";refine ⟨p3,ct,cs,L,fs.drop 4,rfl,gd.same e3,Ad,by omega,h3,by rw [zca,fl],λx hx=>fr x (mem_of_mem_drop hx),λt bs P0 H4 e4 ht Ft lP RS=>?_⟩;have BA:=e2.trans (e3.trans e4);have h4:=BA _ _ h1;have Ou:TB Z H4:=cF.same tb (e1.trans BA);refine UF ?_;refine iD (λσ H5=>σ=[some (.ref a),some (.ref hd),some (.ref t),none,none,none,none]/\∃ bs P,fK H5 t bs P/\2<=P.length/\P.length<=12/\(∀ p∈P,Ps p)/\TB Z H5/\H5 hd=some (.lst (fs.map V.int))) ?_ (λTn hT=>?_)
  rotate_left
  ·walk_at "";refine aT (aH.of h4) ON ?_;walk_at "";refine if2 (λ_=>?_) (λ_=>?_)
   ·walk_at "";refine ⟨.inl ⟨rfl,_,aH.of Ft.1⟩,?_⟩;walk_at "";refine aT (aH.of h4) ON ?_;walk_at "";have bl:=Ft.2.1;have b0:(0:Int)<(bs.length:Int):=by omega
    obtain ⟨y1,y2⟩:=em (x1 / 28) (bs.length:Int) b0;refine ⟨_,_,rfl,.inl ⟨_,aH.of Ft.1,rfl⟩,?_⟩;rw [ZK];refine ⟨_,_,rfl,rfl,b0,?_⟩;obtain ⟨k,hk⟩:∃ k:Nat,x1 / 28%(bs.length:Int)=(k:Int):=⟨(x1 / 28%(bs.length:Int)).toNat,by omega⟩;rw [hk] at y2;dsimp only;rw [hk];have Uo:k<P0.length:=by omega
    obtain ⟨b,XU,HN,O5⟩:=fK.ix Ft Uo;refine aT (aH.of Ft.1) XU (a7 (eC Ft.1 (by rw [ZK];exact aD (by omega)) ?_));have Wi:hd≠t:=λz=>by
     have:=(e2.trans e3) _ _ h1;rw [z,ht] at this;cases this
    refine hT _ _ ⟨rfl,bs++[b],P0++[P0[k]],fK.snoc Ft O5,by rw [ZV];omega,by rw [ZV,zak];omega,λp hp=>?_,cF.upd Ou Ft.1,by rw [aq Wi];exact h4⟩;rcases ZZ.mp hp with z|z
    ·exact RS p z
    ·rw [ZT.mp z];exact RS _ (Z4 Uo)
   ·exact hT _ _ ⟨rfl,bs,P0,Ft,by omega,by omega,RS,Ou,h4⟩
  ·rintro σ H5 ⟨rfl,bs,P,pt,Zf,FV,hP,K1,h5⟩;walk_at "";refine ⟨_,rfl,?_⟩;dsimp only;show K3 _ _ _ _ _ _;walk_at "";refine aT (aH.of h5) ON ?_;walk_at "";obtain ⟨u1,u2⟩:=em (x1 / 11) 3 (by decide);obtain ⟨k,hk⟩:∃ k:Nat,x1 / 11%3=(k:Int):=⟨(x1 / 11%3).toNat,by omega⟩;refine ⟨_,rfl,?_⟩;rw [hk] at u2 ⊢;have bl:=pt.2.1;refine ⟨t,_,rfl,aH.of pt.1,λp6 Ra=>?_⟩;rw [rm (by rw [ZK];omega)];have e6:ao H5 (upd H5 p6 (.lst ((bs.map V.ref).take k))):=ao.upd Ra;have h6:upd H5 p6 (.lst ((bs.map V.ref).take k)) p6=some (.lst ((bs.take k).map V.ref)):=by rw [ae,map_take]
   generalize upd H5 p6 (.lst ((bs.map V.ref).take k))=H6 at e6 h6 ⊢;have V0:=fK.take (pt.same e6) k h6;have SV:TB Z H6:=cF.same K1 e6;have UM:∀ p∈P.take k,Ps p:=λp hp=>hP p (zea hp);obtain ⟨Yi,Yh⟩:=DH UM (by rw [Z9];omega);walk_at "";refine ⟨p6,_,_,rfl,V0,SV,by rw [Z9];omega,UM,Yi,Yh,λH7 VG Vv=>?_⟩;have Tu:=fK.ym VG SV (pt.same e6);walk_at "";refine ⟨t,_,rfl,.inl (aH.of Tu.1),λGb RC=>?_⟩;have e8:ao H7 (upd H7 Gb (.lst (bs.map V.ref))):=ao.upd RC;have h8:upd H7 Gb (.lst (bs.map V.ref)) Gb=some (.lst (bs.map V.ref)):=ae;generalize upd H7 Gb (.lst (bs.map V.ref))=H8 at e8 h8 ⊢;have OE:=Tu.same e8;have V8:fK H8 Gb bs P:=⟨h8,OE.2.1,OE.2.2⟩;have Vu:TB Z H8:=cF.same Vv e8;walk_at "";refine ⟨t,bs,P,rfl,OE,FV,hP,λfh R8 Tn S H9 e9 Zp SS fo=>?_⟩;have Tt:=OE.same e9;have Tx:=V8.same e9;have Ot:TB Z H9:=cF.same Vu e9;have tz:Tz Tn:=fo.sz;have tl:=fo.len;obtain ⟨f1,f2⟩:=DG hP fo;walk_at "";refine ⟨fh,R8,Tn,rfl,SS,tz,by omega,λEF mM al=>?_,λEF mM Ws=>?_⟩
   ·obtain ⟨Ym,Yl⟩:=f1 al;have CJ:=Tx.same mM;have uw:TB Z EF:=cF.same Ot mM;walk_at "";refine ⟨Gb,bs,P,rfl,CJ,uw,FV,hP,Ym,Yl,λmq Ae PK=>?_⟩;have Fz:=fK.ym Ae uw CJ;have Fo:=fK.ym Ae uw (Tt.same mM);walk_at "";refine ⟨l8 P,l8 P,Fz.su,Fo.su,dP _,dP _,?_⟩;rw [ZU (by decide),tL,zad rfl];exact kq _
   ·have CJ:=Tx.same mM;have Qj:=Tt.same mM;have uw:TB Z EF:=cF.same Ot mM;have Pz:=SS.same mM;walk_at "";refine ⟨Gb,bs,P,rfl,CJ,uw,FV,hP,λGi rs l Fs G mq Ta Ae PK O1 qc=>?_,λfp=>absurd (f2 fp) Ws⟩;have rg:=BC.yv hP FV fo Ta;have Fz:=fK.ym Ae uw CJ;have Fo:=fK.ym Ae uw Qj;have Py:=Tr.ym Ae uw Pz;have US:G.map (·.1)≠[]:=λz=>rg.ne (List.map_eq_nil_iff.mp z);have RX:=qc.len;rw [ZK] at RX;have Yb:=rg.wC;walk_at "";refine sv (.lst qc.top) (.ty _) Dg ?_;walk_at "";refine ⟨l8 P,l8 P,Fz.su,Fo.su,dP _,dP _,?_⟩;rw [ZW rfl,tL,zad rfl];walk_at "";refine ⟨Z7 _,λzl MP=>?_⟩;have gX:ao mq (upd mq zl (.lst [])):=ao.upd MP;have RV:upd mq zl (.lst []) zl=some (.lst []):=ae;generalize upd mq zl (.lst [])=Pm at gX RV ⊢;have AW:=qc.same gX;refine ⟨jj (G.map (·.1)),jj [],AW.su,.lst RV .nil,fM _,fM _,?_⟩;rw [ZU (by decide),vO,zah US];walk_at "";have ri:=rg.ri;rw [ri] at AW;have ok:=rg.ok;have Rl:(yv G).length=G.length:=by unfold yv;rw [ZK]
    have Hk:=Ta.Hk;rw [ri] at Hk;have nd:=rg.nd;have rev:=rg.rev;have ZE:yv G≠[]:=λz=>US (by rw [ri,z];rfl);generalize yv G=R at *;refine cH (bM (UV rfl ⟨Gi,rfl,⟨_,aH.of AW.top⟩,?_⟩));refine dJ (K:=K) (a:=Gi) (xs:=rs.map V.ref) (λm σ Ie=>∃ v6,σ=[some (.ref a),some (.ref hd),some (.ref t),some (.ref Gb),some (.ref fh),some (.ref Gi),v6]/\ao Pm Ie) ⟨none,rfl,ao.refl _⟩ (by rintro m σ Ie _ ⟨_,_,e⟩;exact aH.of (e _ _ AW.top)) ?_ ?_
    ·rintro m x σ Ie hx ⟨v6,rfl,Gw⟩;have hm:m<R.length:=by have:=(ZL.mp hx).1;rw [ZK] at this;omega
     obtain ⟨r,l',Q7,jh,MY⟩:=(AW.same Gw).at (i:=m) (by rw [ZK];exact hm);rw [ZS,ZJ hm] at jh;cases jh
     have ex:x=V.ref r:=by rw [ZS,Q7] at hx;exact (ZO hx).symm
     subst ex;obtain ⟨o1,o2,o3,o4⟩:=ok R[m] (Z4 hm);have LN:=(Py.same gX).same Gw;walk_at "";refine ⟨r,fh,R8,Tn,_,rfl,MY,LN,by omega,by rw [bu];exact o1.three,by rw [bu];exact o1.wC,?_,λx hx=>?_,o3,λLq xJ=>?_⟩
     ·exact nV o2 λx _ y _ e=>zdc e
     ·obtain ⟨n,hn,rfl⟩:=zaB.mp hx;exact ⟨n,rfl,o4 n hn⟩
     walk_at "";refine ⟨r,fh,R8,Tn,R[m],rfl,xJ _ _ MY,LN.same xJ,tz,by omega,o1,λEl Gv=>?_⟩;walk_at "";exact ⟨_,rfl,Gw.trans (xJ.trans Gv)⟩
    ·rintro σ Ie ⟨v6,rfl,Gw⟩;have DA:=AW.same Gw;walk_at "";refine ⟨Gi,rs,_,rfl,aH.of DA.top,DA.len,λi b l h1 h2=>aH.of (DA.row i b l h1 h2),by omega,λpp qd OV AJ Uc=>?_⟩;have gs:=cX.pick DA OV Uc;rw [Al OV AJ Hk] at gs;have xJ:ao Ie (upd Ie qd (.lst ((pick 0 rs pp).map V.ref))):=ao.upd Uc;generalize upd Ie qd (.lst ((pick 0 rs pp).map V.ref))=Lq at xJ gs ⊢;have Kh:=DA.same xJ;refine ⟨jj (R.map cK.ri),jj (R.map cK.ri),Kh.su,gs.su,fM _,fM _,?_⟩;rw [ZW rfl,vO,zad rfl];walk_at "";refine ⟨Gi,rs,R,rfl,Kh,λg hg=>?_,nd,rev,λEl Gv=>?_⟩
     ·obtain ⟨o1,_,_,o4⟩:=ok g hg;have:=o1.three;exact ⟨by omega,o1.wC,λx hx=>by have:=(o4 x hx).1;omega⟩
     have oJ:=Kh.same Gv;have j6:=gX.trans (Gw.trans (xJ.trans Gv));have Qi:=Fo.same j6;have Qn:=Fz.same j6;walk_at "";have hR:∀ r∈rs,∃ ns:Wp,ns≠[]/\El r=some (.lst (ns.map V.int)):=λr hr=>by
      obtain ⟨i,hi,rfl⟩:=zcf hr;have uk:i<R.length:=by omega
      refine ⟨cK.ri R[i],λz=>?_,oJ.row i _ _ (ZJ hi) (by rw [ZS,ZJ uk];rfl)⟩;have h3:=(ok R[i] (Z4 uk)).1.three;have:=zaO List.length z;rw [bu,zcM] at this;omega
     have Yf:Gi∉rs:=λz=>by
      obtain ⟨ns,n0,e2⟩:=hR _ z;rw [oJ.top] at e2;exact cN n0 (ZO e2)
     refine cH (bM (UV rfl ⟨Gi,rfl,⟨_,aH.of oJ.top⟩,?_⟩));refine dJ (K:=K) (a:=Gi) (xs:=rs.map V.ref) (λm σ BE=>∃ v6,σ=[some (.ref a),some (.ref hd),some (.ref t),some (.ref Gb),some (.ref fh),some (.ref Gi),v6]/\(∀ b o,b∉rs->El b=some o->BE b=some o)/\∀ r∈rs,∃ xs,BE r=some (.lst xs)) ⟨_,rfl,λb o _ e=>e,λr hr=>by obtain ⟨ns,_,e⟩:=hR r hr;exact ⟨_,e⟩⟩ (by rintro m σ BE _ ⟨_,_,e,_⟩;exact aH.of (e _ _ Yf oJ.top)) ?_ ?_
     ·rintro m x σ BE hx ⟨Vi,rfl,OM,QN⟩;have hm:m<rs.length:=by have:=(ZL.mp hx).1;rw [ZK] at this;exact this
      have ex:x=V.ref rs[m]:=by rw [ZS,ZJ hm] at hx;exact (ZO hx).symm
      subst ex;have Ew:=Z4 hm;generalize rs[m]=r at *;obtain ⟨xs,T5⟩:=QN r Ew;walk_at "";refine ⟨.inl ⟨rfl,_,aH.of T5⟩,r,xs,rfl,rfl,T5,_,rfl,λb o nb e=>?_,λb hb=>?_⟩
      ·rw [aq (λz=>nb (by rw [z];exact Ew))];exact OM b o nb e
      ·by_cases z:b=r
       ·rw [z];exact ⟨_,ae⟩
       ·obtain ⟨ys,e⟩:=QN b hb;exact ⟨ys,by rw [aq z];exact e⟩
     ·rintro σ BE ⟨Vi,rfl,OM,QN⟩;have Qh:=fK.but hR OM Qi;have Qm:=fK.but hR OM Qn;walk_at "";refine ⟨l8 P,l8 P,Qm.su,Qh.su,dP _,dP _,?_⟩;rw [ZU (by decide),tL,zad rfl];exact kq _
end KR
namespace KR
open PySem L2 Fr Gm cK
open Dt (b8 iI pd dw iF)
theorem yb1 {u:List Value} (h:u.length=1):∃ a,u=[a]:=match u,h with|[_],_=>⟨_,rfl⟩
theorem yb2 {u:List Value} (h:u.length=2):∃ a b,u=[a,b]:=match u,h with|[_,_],_=>⟨_,_,rfl⟩
theorem yb3 {u:List Value} (h:u.length=3):∃ a b c,u=[a,b,c]:=match u,h with|[_,_,_],_=>⟨_,_,_,rfl⟩
theorem yb4 {u:List Value} (h:u.length=4):∃ a b c d,u=[a,b,c,d]:=match u,h with|[_,_,_,_],_=>⟨_,_,_,_,rfl⟩
theorem yb5 {u:List Value} (h:u.length=5):∃ a b c d e,u=[a,b,c,d,e]:=match u,h with|[_,_,_,_,_],_=>⟨_,_,_,_,_,rfl⟩
theorem all_mk {l:PySem.W.OpenLaw} {h:Heap} {mg:W1} (lc lt:Addr) (X:K.In h) (G:h.Ns mainGlobals mg) (XC:mg "law"=some (.ref fa))
  (e_MapError:PySem.W.nsIn K mainGlobals "MapError"=some (some (.ref iP)))
  (e_Flat:PySem.W.nsIn K mainGlobals "Flat"=some (some (.ref cJ)))
  (e_NotInside:PySem.W.nsIn K mainGlobals "NotInside"=some (some (.ref gY)))
  (e_NoMap:PySem.W.nsIn K mainGlobals "NoMap"=some (some (.ref oT)))
  (e_NoSheet:PySem.W.nsIn K mainGlobals "NoSheet"=some (some (.ref jz)))
  (e_Parted:PySem.W.nsIn K mainGlobals "Parted"=some (some (.ref lj)))
  (e_VIEWS:PySem.W.nsIn K mainGlobals "VIEWS"=some (some (.ref oR)))
  (e_UP:PySem.W.nsIn K mainGlobals "UP"=some (some (.ref D5)))
  (e_lam:PySem.W.nsIn K mainGlobals "put_in_order"=some (some (.ref lf))) (c_lam:codeAt K lf lc lt=true)
  (d0:DefIn K "least_begun" fZ)
  (d1:DefIn K "steps" r8)
  (d2:DefIn K "common_divisor" dQ)
  (d3:DefIn K "below" r9)
  (d4:DefIn K "common_bottom" eJ)
  (d5:DefIn K "made_whole" gK)
  (d6:DefIn K "whole_spot" gJ)
  (d7:DefIn K "turn" wO)
  (d8:DefIn K "seen" wR)
  (d9:DefIn K "plane_through" eI)
  (d10:DefIn K "side" wQ)
  (d11:DefIn K "swung" r6)
  (d12:DefIn K "seen_flat" iz)
  (d13:DefIn K "is_rather" iA)
  (d14:DefIn K "next_corner" fY)
  (d15:DefIn K "ring_on" kJ)
  (d16:DefIn K "first_plane" f9)
  (d17:DefIn K "wrapped" kI)
  (d18:DefIn K "comes_ahead" gc)
  (d19:DefIn K "put_in_order" fw)
  (d20:DefIn K "lands_with_planes" cZ)
  (d21:DefIn K "solid_lands" fX)
  (d22:DefIn K "solid_map" iy)
  (d23:DefIn K "turned_over" fV)
  (d24:DefIn K "_law_whole" gL)
  (d25:DefIn K "_law_numbers" fy)
  (d26:DefIn K "_law_divisor" fA)
  (d27:DefIn K "_law_fraction" eK)
  (d28:DefIn K "_law_digit" gM)
  (d29:DefIn K "_law_cloud" gN)
  (d30:DefIn K "_law_cloud_put" dR)
  (d31:DefIn K "_law_flat" iB)
  (d32:DefIn K "_law_square" gh)
  (d33:DefIn K "_law_height" gi)
  (d34:DefIn K "_law_all_flat" eM)
  (d35:DefIn K "_law_refused" fx)
  (d36:DefIn K "_law_numbers_right" cM)
  (d37:DefIn K "_law_along" gO)
  (d38:DefIn K "_law_ring_right" dF)
  (d39:DefIn K "_law_closed" gj)
  (d40:DefIn K "law" ny)
  (dnb:DefIn K "neighbours_behind" cY)
  (z0:PySem.W.nsIn K mainGlobals "abs"=some none)
  (z1:PySem.W.nsIn K mainGlobals "len"=some none)
  (z2:PySem.W.nsIn K mainGlobals "isinstance"=some none)
  (z3:PySem.W.nsIn K mainGlobals "int"=some none)
  (z4:PySem.W.nsIn K mainGlobals "bool"=some none)
  (z5:PySem.W.nsIn K mainGlobals "tuple"=some none)
  (z6:PySem.W.nsIn K mainGlobals "enumerate"=some none)
  (z7:PySem.W.nsIn K mainGlobals "range"=some none)
  (z8:PySem.W.nsIn K mainGlobals "min"=some none)
  (z9:PySem.W.nsIn K mainGlobals "max"=some none)
  (z10:PySem.W.nsIn K mainGlobals "list"=some none)
  (z11:PySem.W.nsIn K mainGlobals "zip"=some none)
  (z12:PySem.W.nsIn K mainGlobals "sorted"=some none)
  (z13:PySem.W.nsIn K mainGlobals "all"=some none)
  (z14:PySem.W.nsIn K mainGlobals "sum"=some none)
  (z15:PySem.W.nsIn K mainGlobals "set"=some none)
  (z16:PySem.W.nsIn K mainGlobals "dict"=some none)
  (z17:PySem.W.nsIn K mainGlobals "ValueError"=some none)
  (x_Flat:PySem.W.excIn K cJ [.type "ValueError",.type "Exception",.type "BaseException",.type "object"] "ValueError.__new__"=true)
  (t1_Flat:PySem.W.findIn K (.ref cJ) "__getattribute__"=some (some (.builtin "BaseException.__getattribute__"))) (t7_Flat:PySem.W.findIn K (.ref cJ) "__getattr__"=some none) (t8_Flat:PySem.W.mroIn K cJ (.type "BaseException")=some true) {GB:ClassData} (t2_Flat:PySem.W.clsIn K cJ=some GB) (t3_Flat:PySem.W.findIn K (.ref cJ) "__class__"=some (some (.builtin "object.__class__"))) (t6_Flat:PySem.W.mroIn K cJ (.type "object")=some true)
  (t4:PySem.W.specialIn K (.builtin "object.__class__") "__get__"=some (some (.builtin "getset_descriptor.__get__"))) (t5:PySem.W.takesIn K (.builtin "object.__class__")=some true)
  (f_m1:PySem.W.exmOne K (.ref cJ) (.ref iP)=some true)
  (f_m2:PySem.W.kitOne K (.ref cJ) (.ref cJ)=some true)
  (f_m3:PySem.W.kitAny K (.ref cJ) [.ref oT,.ref jz,.ref gY,.ref lj]=some false)
  (f_m5:PySem.W.kitOne K (.ref cJ) (.type "ValueError")=some true)
  (f_vw:mw K oR=true)
  (f_up:gW K (.ref D5) [0,0,1,0]=true)
  : ∃ fd:FuncData,(∀ (s:Shared) (v:Value),BindsTo s fd ⟨[v],[]⟩ [("_law_script",v)])/\∀ base:Heap,K.In base->base.Ns mainGlobals mg->Bm mg base->qA l.prog w K mg base (br l.prog w) 11 fa fd ["_law_script"] (rX K lt):=by
 obtain ⟨fn,Y3,ann,YW,Y4,WH,YA,V6,YG,YE,an,ln,cn,kn⟩:=d40.ex;have e:=XC.symm.trans (zbR X G an);cases e
 have lm:∀ f,mg "put_in_order"=some (.ref f)->codeAt K f lc lt=true:=λf hf=>by
  have e:=hf.symm.trans (zbR X G e_lam);cases e
  exact c_lam
 have T:Txt K mg ⟨iP,cJ,gY,oT,jz,lj,oR,D5,lc,lt⟩:=⟨zaq X G z0,zaq X G z1,zaq X G z2,zaq X G z3,zaq X G z4,zaq X G z5,zaq X G z6,zaq X G z7,zaq X G z8,zaq X G z9,zaq X G z10,zaq X G z11,zaq X G z12,zaq X G z13,zaq X G z14,zaq X G z15,zaq X G z16,zaq X G z17,zbR X G e_MapError,zbR X G e_Flat,zbR X G e_NotInside,zbR X G e_NoMap,zbR X G e_NoSheet,zbR X G e_Parted,zbR X G e_VIEWS,zbR X G e_UP,x_Flat,⟨t1_Flat,t7_Flat,t8_Flat,by rw [t2_Flat];rfl,t3_Flat,t4,t5,t6_Flat⟩,lm,f_m1,f_m2,f_m3,f_m5,f_vw,f_up⟩;refine ⟨PySem.W.fnOf "law" "law" (fR ny) (dk ny) (aC ny) .none WH YA V6 ann YG YE,λs v=>.of_eq rfl,λbase hK hG hB=>?_⟩;have K0:Def K mg "neighbours_behind" cY ["rings"]:=dnb.gC X G λ_ _ _ _ _ _ _ hl=>(by obtain ⟨_,rfl⟩:=yb1 hl;rfl)
 have qr:=nM (P:=l.prog) (w:=w) (base:=base) (d0.gC X G λ_ _ _ _ _ _ _ hl=>(by obtain ⟨_,rfl⟩:=yb1 hl;rfl)) T;have GW:=CT (P:=l.prog) (w:=w) (base:=base) (d1.gC X G λ_ _ _ _ _ _ _ hl=>(by obtain ⟨_,rfl⟩:=yb1 hl;rfl)) T;have lA:=jS (P:=l.prog) (w:=w) (base:=base) (d2.gC X G λ_ _ _ _ _ _ _ hl=>(by obtain ⟨_,_,rfl⟩:=yb2 hl;rfl)) T;have GX:=CU (P:=l.prog) (w:=w) (base:=base) (d3.gC X G λ_ _ _ _ _ _ _ hl=>(by obtain ⟨_,_,rfl⟩:=yb2 hl;rfl)) T;have hJ:=kQ (P:=l.prog) (w:=w) (base:=base) (d4.gC X G λ_ _ _ _ _ _ _ hl=>(by obtain ⟨_,rfl⟩:=yb1 hl;rfl)) T lA;have t8:=pM (P:=l.prog) (w:=w) (base:=base) (d5.gC X G λ_ _ _ _ _ _ _ hl=>(by obtain ⟨_,rfl⟩:=yb1 hl;rfl)) T hJ;have t6:=pL (P:=l.prog) (w:=w) (base:=base) (d6.gC X G λ_ _ _ _ _ _ _ hl=>(by obtain ⟨_,rfl⟩:=yb1 hl;rfl)) T hJ t8;have Ej:=FE (P:=l.prog) (w:=w) (base:=base) (d7.gC X G λ_ _ _ _ _ _ _ hl=>(by obtain ⟨_,_,_,rfl⟩:=yb3 hl;rfl)) T;have Ek:=FI (P:=l.prog) (w:=w) (base:=base) (d8.gC X G λ_ _ _ _ _ _ _ hl=>(by obtain ⟨_,_,rfl⟩:=yb2 hl;rfl)) T;have mf:=kP (P:=l.prog) (w:=w) (base:=base) (d9.gC X G λ_ _ _ _ _ _ _ hl=>(by obtain ⟨_,_,_,rfl⟩:=yb3 hl;rfl)) T Ej Ek;have xT:=FG (P:=l.prog) (w:=w) (base:=base) (d10.gC X G λ_ _ _ _ _ _ _ hl=>(by obtain ⟨_,_,rfl⟩:=yb2 hl;rfl)) T;have zO:=CS (P:=l.prog) (w:=w) (base:=base) (d11.gC X G λ_ _ _ _ _ _ _ hl=>(by obtain ⟨_,_,_,_,rfl⟩:=yb4 hl;rfl)) T mf xT;have lQ:=sJ (P:=l.prog) (w:=w) (base:=base) (d12.gC X G λ_ _ _ _ _ _ _ hl=>(by obtain ⟨_,_,rfl⟩:=yb2 hl;rfl)) T Ek xT;have wo:=sL (P:=l.prog) (w:=w) (base:=base) (d13.gC X G λ_ _ _ _ _ _ _ hl=>(by obtain ⟨_,_,_,_,rfl⟩:=yb4 hl;rfl)) T Ej;have jo:=nK (P:=l.prog) (w:=w) (base:=base) (d14.gC X G λ_ _ _ _ _ _ _ hl=>(by obtain ⟨_,_,rfl⟩:=yb2 hl;rfl)) T wo;have Bs:=xb (P:=l.prog) (w:=w) (base:=base) (d15.gC X G λ_ _ _ _ _ _ _ hl=>(by obtain ⟨_,_,_,rfl⟩:=yb3 hl;rfl)) T lQ jo;have qu:=nN (P:=l.prog) (w:=w) (base:=base) (d16.gC X G λ_ _ _ _ _ _ _ hl=>(by obtain ⟨_,rfl⟩:=yb1 hl;rfl)) T xT zO lQ jo;have Br:=xa (P:=l.prog) (w:=w) (base:=base) (d17.gC X G λ_ _ _ _ _ _ _ hl=>(by obtain ⟨_,rfl⟩:=yb1 hl;rfl)) T GW zO Bs qu;have qw:=nO (P:=l.prog) (w:=w) (base:=base) (d18.gC X G λ_ _ _ _ _ _ _ hl=>(by obtain ⟨_,_,rfl⟩:=yb2 hl;rfl)) T GX;have pe:=lT (P:=l.prog) (w:=w) (base:=base) (d19.gC X G λ_ _ _ _ _ _ _ hl=>(by obtain ⟨_,rfl⟩:=yb1 hl;rfl)) T hB qw;have eS:=iG (P:=l.prog) (w:=w) (base:=base) (d20.gC X G λ_ _ _ _ _ _ _ hl=>(by obtain ⟨_,rfl⟩:=yb1 hl;rfl)) T qr t6 Br pe;have gu:=nJ (P:=l.prog) (w:=w) (base:=base) (d21.gC X G λ_ _ _ _ _ _ _ hl=>(by obtain ⟨_,rfl⟩:=yb1 hl;rfl)) T eS;have wm:=sI (P:=l.prog) (w:=w) (base:=base) (d22.gC X G λ_ _ _ _ _ _ _ hl=>(by obtain ⟨_,rfl⟩:=yb1 hl;rfl)) K0 T gu;have qp:=nI (P:=l.prog) (w:=w) (base:=base) (d23.gC X G λ_ _ _ _ _ _ _ hl=>(by obtain ⟨_,rfl⟩:=yb1 hl;rfl)) T eS;have t9:=pN (P:=l.prog) (w:=w) (base:=base) (d24.gC X G λ_ _ _ _ _ _ _ hl=>(by obtain ⟨_,rfl⟩:=yb1 hl;rfl)) T;have pq:=lV (P:=l.prog) (w:=w) (base:=base) (d25.gC X G λ_ _ _ _ _ _ _ hl=>(by obtain ⟨_,_,rfl⟩:=yb2 hl;rfl)) T;have iU:=lX (P:=l.prog) (w:=w) (base:=base) (d26.gC X G λ_ _ _ _ _ _ _ hl=>(by obtain ⟨_,_,rfl⟩:=yb2 hl;rfl)) T;have mh:=kR (P:=l.prog) (w:=w) (base:=base) (d27.gC X G λ_ _ _ _ _ _ _ hl=>(by obtain ⟨_,_,rfl⟩:=yb2 hl;rfl)) T iU;have uc:=pO (P:=l.prog) (w:=w) (base:=base) (d28.gC X G λ_ _ _ _ _ _ _ hl=>(by obtain ⟨_,_,_,rfl⟩:=yb3 hl;rfl)) T;have ud:=pP (P:=l.prog) (w:=w) (base:=base) (d29.gC X G λ_ _ _ _ _ _ _ hl=>(by obtain ⟨_,_,rfl⟩:=yb2 hl;rfl)) T uc;have lB:=jT (P:=l.prog) (w:=w) (base:=base) (d30.gC X G λ_ _ _ _ _ _ _ hl=>(by obtain ⟨_,_,rfl⟩:=yb2 hl;rfl)) T mh;have wq:=sM (P:=l.prog) (w:=w) (base:=base) (d31.gC X G λ_ _ _ _ _ _ _ hl=>(by obtain ⟨_,rfl⟩:=yb1 hl;rfl)) T iU;have jq:=nQ (P:=l.prog) (w:=w) (base:=base) (d32.gC X G λ_ _ _ _ _ _ _ hl=>(by obtain ⟨_,_,_,rfl⟩:=yb3 hl;rfl)) T;have jr:=nR (P:=l.prog) (w:=w) (base:=base) (d33.gC X G λ_ _ _ _ _ _ _ hl=>(by obtain ⟨_,_,_,rfl⟩:=yb3 hl;rfl)) T;have mj:=kT (P:=l.prog) (w:=w) (base:=base) (d34.gC X G λ_ _ _ _ _ _ _ hl=>(by obtain ⟨_,rfl⟩:=yb1 hl;rfl)) T jq jr;have pk:=lU (P:=l.prog) (w:=w) (base:=base) (d35.gC X G λ_ _ _ _ _ _ _ hl=>(by obtain ⟨_,rfl⟩:=yb1 hl;rfl)) T gu wm qp;have iT:=hV (P:=l.prog) (w:=w) (base:=base) (d36.gC X G λ_ _ _ _ _ _ _ hl=>(by obtain ⟨_,_,rfl⟩:=yb2 hl;rfl)) T t9;have ue:=pQ (P:=l.prog) (w:=w) (base:=base) (d37.gC X G λ_ _ _ _ _ _ _ hl=>(by obtain ⟨_,_,rfl⟩:=yb2 hl;rfl)) T;have kg:=ju (P:=l.prog) (w:=w) (base:=base) (d38.gC X G λ_ _ _ _ _ _ _ hl=>(by obtain ⟨_,_,rfl⟩:=yb2 hl;rfl)) T jq jr ue;have qz:=nS (P:=l.prog) (w:=w) (base:=base) (d39.gC X G λ_ _ _ _ _ _ _ hl=>(by obtain ⟨_,rfl⟩:=yb1 hl;rfl)) T;exact Jq (xF (st:=ny) ln cn kn) T pq ud lB pk wq mj gu iT kg qz
theorem walk {l:PySem.W.OpenLaw} {XP:(Str->Option Value)->Heap->Prop} {d:DefRec} {K:Params->ZB} (lc lt:Addr) (hn:l.most=some 63) (J4:d.params.defaults=[])
  (hY:∀ (w:World) (h:Heap),YP w h->(K w.params).In h/\h.get? lt=some (PySem.W.tabObj #[])) (Nq:∀ w:World,(K w.params).lookup lt=none) (hC:∀ w:World,PySem.W.codeHdIn (K w.params) lc lt=true)
  (F:∀ (w:World) (mg:W1) (fa:Addr) (h:Heap),(K w.params).In h->h.Ns mainGlobals mg->mg d.name=some (.ref fa)->
   ∃ fd:FuncData,(∀ (s:Shared) (u:Value),BindsTo s fd ⟨[u],[]⟩ [("_law_script",u)])/\∀ base:Heap,(K w.params).In base->base.Ns mainGlobals mg->Bm mg base->qA l.prog w (K w.params) mg base (br l.prog w) 11 fa fd ["_law_script"] (rX (K w.params) lt)) :
  PySem.W.WalkO q loose XP YP l.row.toRowW d [] (λf vs=>PySem.call f vs):=
 L2.BK (n:=63) (k:=11) (x:= "_law_script") (CX:=λw=>br l.prog w) (sp:=λw=>rX (K w.params) lt) hn (by decide) J4 ⟨rfl,by decide,by decide⟩ hY Nq hC F (λ_ _ a ns hl hS ht=>⟨a,ns,rfl,hS,hl,⟨_,ht,.inl rfl⟩,λ_=>rfl⟩) λ_ _ _ _ _ z=>A8 z
end KR
namespace PySem.W.Fast
def tw1004416216774802109:=trivial
def tw10093008832024727599:=trivial
def tw10193604712829306510:=trivial
def tw1025764810586857552:=trivial
def tw1028206214608435178:=trivial
def tw10316065767719421427:=trivial
def tw10387621166670867386:=trivial
def tw10402557009999188466:=trivial
def tw10536990080758759496:=trivial
def tw10669342200712659708:=trivial
def tw1068921578237699334:=trivial
def tw10778128213390446511:=trivial
def tw10838870916185138874:=trivial
def tw10880701407435617103:=trivial
def tw10891347960195670560:=trivial
def tw11068238423683271248:=trivial
def tw11079309482875830142:=trivial
def tw11084533542797516095:=trivial
def tw11094224311811432305:=trivial
def tw11100740822686966969:=trivial
def tw11138713537963526656:=trivial
def tw11144162527833068490:=trivial
def tw1117709753934118405:=trivial
def tw11263142873732160536:=trivial
def tw11337289126264168449:=trivial
def tw11351931979521524082:=trivial
def tw1141123160081574861:=trivial
def tw11426873705580834040:=trivial
def tw11475344556593519051:=trivial
def tw11543604153621636589:=trivial
def tw11586872216950042326:=trivial
def tw11638952382747985991:=trivial
def tw11795509351741237962:=trivial
def tw11823915425155015474:=trivial
def tw11934332527400342079:=trivial
def tw11980362654358824528:=trivial
def tw12017107965967570722:=trivial
def tw12052570562146966062:=trivial
def tw12137145592731646601:=trivial
def tw12141420481121434531:=trivial
def tw12171579379435722730:=trivial
def tw122184465591688412:=trivial
def tw12228181565177729281:=trivial
def tw12232716568805522641:=trivial
def tw12261105163477828369:=trivial
def tw12350891723621477857:=trivial
def tw1240485028450910444:=trivial
def tw12412786812572710780:=trivial
def tw12455110966110737758:=trivial
def tw12468104058351702821:=trivial
def tw12607164766816321874:=trivial
def tw12619761432402253460:=trivial
def tw12770028205434382618:=trivial
def tw12776890848516342738:=trivial
def tw12982310365183005994:=trivial
def tw13017924458848627798:=trivial
def tw13028330219282469799:=trivial
def tw13030020359398254725:=trivial
def tw13032692616632297418:=trivial
def tw1320870280644367074:=trivial
def tw13212212468799663475:=trivial
def tw13269894183028043777:=trivial
def tw13288285926414972146:=trivial
def tw13347105440086689469:=trivial
def tw1344454979759843412:=trivial
def tw1351308137055906463:=trivial
def tw13520310012888117602:=trivial
def tw13604015059687183676:=trivial
def tw13709800560793202802:=trivial
def tw13796917805233497268:=trivial
def tw14077114737959436139:=trivial
def tw14086431329682486706:=trivial
def tw14090814307883732240:=trivial
def tw14104162555696516699:=trivial
def tw14129001729490018271:=trivial
def tw14142235433026432191:=trivial
def tw14314145932507018787:=trivial
def tw14318479822359070349:=trivial
def tw14357401426798886580:=trivial
def tw14390466231185609980:=trivial
def tw14456470970416193390:=trivial
def tw14493483906151989441:=trivial
def tw14505961134420642398:=trivial
def tw14513644003540227175:=trivial
def tw14698291324399689755:=trivial
def tw14729520024649233878:=trivial
def tw1481833893124789996:=trivial
def tw14876841175630889615:=trivial
def tw14892150678999198356:=trivial
def tw14948929916124426737:=trivial
def tw14963117477290890232:=trivial
def tw15007851124388214030:=trivial
def tw15077831763271199248:=trivial
def tw1508180539824861014:=trivial
def tw15340507929180528287:=trivial
def tw15390216932145435004:=trivial
def tw15432010551318598800:=trivial
def tw15434834438001940261:=trivial
def tw15502712930417244544:=trivial
def tw15614382021120472729:=trivial
def tw1562284301084635174:=trivial
def tw15632314731789739182:=trivial
def tw15645971031505068118:=trivial
def tw15672944601606952148:=trivial
def tw1568897795122690267:=trivial
def tw15718837489730838304:=trivial
def tw15769044204393284726:=trivial
def tw15779604964699060608:=trivial
def tw15809354352854554434:=trivial
def tw16006315345329723099:=trivial
def tw16101703830113037425:=trivial
def tw16263483332638778200:=trivial
def tw16308219808162013990:=trivial
def tw16413269375566092270:=trivial
def tw16447167889725301530:=trivial
def tw1649523562131665922:=trivial
def tw16518857336771927377:=trivial
def tw16725430528770685967:=trivial
def tw16733195508880768422:=trivial
def tw16760375967755194640:=trivial
def tw16901797581877487510:=trivial
def tw16924457904653069468:=trivial
def tw16975371683666725271:=trivial
def tw17016137317951409976:=trivial
def tw17025705155326949298:=trivial
def tw17132481171964092445:=trivial
def tw17162257542668029441:=trivial
def tw17169620682841489639:=trivial
def tw17201140952452412097:=trivial
def tw1742406410759433733:=trivial
def tw17556697265960270859:=trivial
def tw17711237870215123018:=trivial
def tw17745143548040686699:=trivial
def tw17804352459617693093:=trivial
def tw17847419766617119238:=trivial
def tw1785409711220592526:=trivial
def tw18034535642976001629:=trivial
def tw18037086963512014707:=trivial
def tw18038930476883463614:=trivial
def tw18073821523029853686:=trivial
def tw18106096472219374199:=trivial
def tw18335769514855158895:=trivial
def tw1863403382565101976:=trivial
def tw1959477828744354694:=trivial
def tw2002329036447562436:=trivial
def tw2121498642464943993:=trivial
def tw2139986886824387515:=trivial
def tw2330133359446430661:=trivial
def tw2348013576295237774:=trivial
def tw2415937960430167687:=trivial
def tw2420555163846291034:=trivial
def tw2628261778350444010:=trivial
def tw2637897672501629284:=trivial
def tw2714174727530610176:=trivial
def tw272848843512142465:=trivial
def tw2822569851276992731:=trivial
def tw2836692063079135620:=trivial
def tw3053571427424786631:=trivial
def tw3088741675342272156:=trivial
def tw3246015776368001078:=trivial
def tw3267758704368116452:=trivial
def tw3411842664825347304:=trivial
def tw3429176451242322716:=trivial
def tw3433339491682042188:=trivial
def tw3506684749790001985:=trivial
def tw3549468377330785831:=trivial
def tw3573498496699066258:=trivial
def tw3624384831233870721:=trivial
def tw3690647898426426889:=trivial
def tw3693574191738156769:=trivial
def tw3711374862761127879:=trivial
def tw3714587700833066142:=trivial
def tw3774930468577916399:=trivial
def tw3891553346368483900:=trivial
def tw3931505266704458332:=trivial
def tw3965633746193437710:=trivial
def tw4200187065906296913:=trivial
def tw4254234463664796409:=trivial
def tw4313011227639375396:=trivial
def tw4368566693797830065:=trivial
def tw4379051204963502630:=trivial
def tw4423233342895449243:=trivial
def tw442344334073432663:=trivial
def tw4468643641496043421:=trivial
def tw4522251533259180292:=trivial
def tw466946782292279797:=trivial
def tw474321457692924190:=trivial
def tw4799812928134970235:=trivial
def tw4806741651767106661:=trivial
def tw4926180633108144767:=trivial
def tw4953442080489268743:=trivial
def tw4957688759653381461:=trivial
def tw4967714520538161516:=trivial
def tw5022948932853377411:=trivial
def tw502640108902246847:=trivial
def tw5048966325085001856:=trivial
def tw5098065299272682757:=trivial
def tw510794991251199083:=trivial
def tw5170545852497838434:=trivial
def tw5286158133907725287:=trivial
def tw5309017634543644689:=trivial
def tw5312892820479273409:=trivial
def tw5494606021914969254:=trivial
def tw556488524061930577:=trivial
def tw5654153131315543985:=trivial
def tw5723721523421172780:=trivial
def tw5727489347142172483:=trivial
def tw5757314466796862860:=trivial
def tw5818439786358976774:=trivial
def tw588210610636317334:=trivial
def tw5965404758003257947:=trivial
def tw6031002409875505305:=trivial
def tw6103543468284214287:=trivial
def tw619611405817129305:=trivial
def tw6484810610845633881:=trivial
def tw6524386367175060013:=trivial
def tw6622309156913174979:=trivial
def tw6675097791512844333:=trivial
def tw6677314691092708596:=trivial
def tw6684008502838576793:=trivial
def tw6695767962239488661:=trivial
def tw6769232992157647798:=trivial
def tw6836296300480035559:=trivial
def tw6902942607475436722:=trivial
def tw6939239841051327719:=trivial
def tw6998127786913325598:=trivial
def tw7023699255349879263:=trivial
def tw710440560312780472:=trivial
def tw7111255017506702555:=trivial
def tw7134262122977493017:=trivial
def tw7210316577696771201:=trivial
def tw724644424754540302:=trivial
def tw7302901092599569352:=trivial
def tw7321196181317972357:=trivial
def tw7385978454385563713:=trivial
def tw7401920247372898171:=trivial
def tw748166539524251394:=trivial
def tw7512268767347535118:=trivial
def tw7622176962176657455:=trivial
def tw773822633500178760:=trivial
def tw7740799303147948471:=trivial
def tw7811622132301202799:=trivial
def tw7854472616745638196:=trivial
def tw7869021089933186390:=trivial
def tw8008418686360009746:=trivial
def tw8235743191077431686:=trivial
def tw8347060281135523234:=trivial
def tw8379220236306397968:=trivial
def tw8384784927670041294:=trivial
def tw8403694060234276391:=trivial
def tw8452861824864422192:=trivial
def tw8462756910207925455:=trivial
def tw8533041375008730953:=trivial
def tw8567053655475381271:=trivial
def tw8690149010043798436:=trivial
def tw8724271767603986409:=trivial
def tw8821217962768428108:=trivial
def tw8848297842890551152:=trivial
def tw8859037905965595487:=trivial
def tw8908876493243932721:=trivial
def tw8936664312632844673:=trivial
def tw8962883605400575800:=trivial
def tw8995224642293072730:=trivial
def tw9155326222178415969:=trivial
def tw9165107223755499157:=trivial
def tw9166216168582470727:=trivial
def tw9172952105900012047:=trivial
def tw9366123482425179401:=trivial
def tw9426196191430538112:=trivial
def tw9435609942798523225:=trivial
def tw9573788330185414172:=trivial
def tw960842959571936119:=trivial
def tw968115211873528421:=trivial
def tw970264485160453319:=trivial
def tw9766060564745110446:=trivial
def tw97694432892662001:=trivial
def tw9855683240995985500:=trivial
def tw9895748710745138136:=trivial
def tw9896898734445584998:=trivial
def tw9949554559419689386:=trivial
def tw4022028660016198881:=trivial
def tw3695555814020133170:=trivial
def tw15734267555838064247:=trivial
def tw3490066051552789622:=trivial
def tw6617509854888051640:=trivial
def tw4832591026488888954:=trivial
def tw16208630754303364605:=trivial
def tw15006851446429140541:=trivial
def tw16786953275357868768:=trivial
def tw7319079068077310370:=trivial
def tw10459278166217015664:=trivial
def tw10313374163599123133:=trivial
def tw7327508076756543743:=trivial
def tw15639943811440513067:=trivial
def tw16749500408346620686:=trivial
def tw230310688076662338:=trivial
def tw7343884316897507674:=trivial
def tw7334838080688809505:=trivial
def tw16822013940504501723:=trivial
def tw8105604391517170223:=trivial
def tw4366200897936406402:=trivial
def tw2917478446762416093:=trivial
def tw12298075059936487451:=trivial
def tw11621268229965574915:=trivial
def tw4772991875372330786:=trivial
def tw7991762476726332058:=trivial
def tw16067152423842390409:=trivial
def tw15374211730703523752:=trivial
def tw6122400246491375124:=trivial
def tw12744148383349639787:=trivial
def tw18146290393003196703:=trivial
def tw4393249725772980757:=trivial
def tw10765177973628953114:=trivial
def tw15841028584465212759:=trivial
def tw2837549530869494709:=trivial
def tw17677055751326545024:=trivial
def tw9987135216280167693:=trivial
def tw16150523287013878198:=trivial
def tw3184464912516584303:=trivial
def tw17640023899900788956:=trivial
def tw6159259862943162787:=trivial
def tw15765897211039514183:=trivial
def tw3384443006429115686:=trivial
def tw12983706470424453820:=trivial
def tw18233512143137811620:=trivial
def tw7069935389101797605:=trivial
def tw6220768960054382697:=trivial
def tw5377988248972175038:=trivial
def tw10837078071075645779:=trivial
def tw13853321436934200299:=trivial
def tw11771210252524159704:=trivial
def tw3447572728546297977:=trivial
def tw17119544282795686167:=trivial
def tw13212991357485344855:=trivial
def tw6034011969596843380:=trivial
def tw3388048140961125607:=trivial
def tw4518977604585655407:=trivial
def tw2977110394020437188:=trivial
def tw2441801183870165595:=trivial
def tw9711817651239398639:=trivial
def tw15157765614996667469:=trivial
def tw9823273259680754654:=trivial
def tw2298424258852392473:=trivial
def tw4015965146279759972:=trivial
def tw8602161539347369536:=trivial
def tw16675656738851842221:=trivial
def tw7220611399438505637:=trivial
def tw12516335790166854495:=trivial
def tw2608974637496464360:=trivial
def tw16544976817292348534:=trivial
def tw15144506519729038759:=trivial
def tw4557457034143485505:=trivial
def tw12855426238927396749:=trivial
def tw10867318722258035203:=trivial
def tw13515026298681283342:=trivial
def tw5195499930477686850:=trivial
def tw149922004924820670:=trivial
def tw17566380447468406139:=trivial
def tw14575127257596000775:=trivial
def tw15907563128493508653:=trivial
def tw9050595497608968914:=trivial
def tw16384082683484636408:=trivial
def tw7488122245321514005:=trivial
def tw17655352780382228175:=trivial
def tw9000950303125424994:=trivial
def tw1170056645618583678:=trivial
def tw10653306058566781253:=trivial
def tw5471931412334140754:=trivial
def tw16028375520682901947:=trivial
end PySem.W.Fast
local macro_rules | `(tactic| walk_at "d")=>`(tactic| (refine' L2.DefIn.mk0 ?a ?l ?c ?k;(case' a=>k_is);(case' l=>k_is);(case' c=>k_is);(case' k=>k_is)))
open PySem PySem.W PyProof.Rows
set_option maxRecDepth 100000 in
set_option maxHeartbeats 0 in
theorem PySem.Challenge.cw_standup_k81_whole_lands_of_solids_holds : PySem.Challenge.rw_standup_k81_whole_lands_of_solids.Holds := by
 w_on;o_law;k_head;(case hw=>w_witness2)
 k_fill
 refine KR.walk (l:=PySem.Challenge.rw_standup_k81_whole_lands_of_solids) 254 252 rfl rfl (λw h Y=>⟨PySem.W.km_in_of Y,PySem.W.km_tabs_of Y _ zac⟩) (λw=>by kernel_rfl) (λw=>by kernel_rfl) ?F
 case F=>
  intro w mg fa h KX G Na
  refine' KR.all_mk 254 252 KX G Na ?e_MapError ?e_Flat ?e_NotInside ?e_NoMap ?e_NoSheet ?e_Parted ?e_VIEWS ?e_UP ?e_lam ?c_lam ?d0 ?d1 ?d2 ?d3 ?d4 ?d5 ?d6 ?d7 ?d8 ?d9 ?d10 ?d11 ?d12 ?d13 ?d14 ?d15 ?d16 ?d17 ?d18 ?d19 ?d20 ?d21 ?d22 ?d23 ?d24 ?d25 ?d26 ?d27 ?d28 ?d29 ?d30 ?d31 ?d32 ?d33 ?d34 ?d35 ?d36 ?d37 ?d38 ?d39 ?d40 ?dnb ?z0 ?z1 ?z2 ?z3 ?z4 ?z5 ?z6 ?z7 ?z8 ?z9 ?z10 ?z11 ?z12 ?z13 ?z14 ?z15 ?z16 ?z17 ?x_Flat ?t1_Flat ?t7_Flat ?t8_Flat ?t2_Flat ?t3_Flat ?t6_Flat ?t4 ?t5 ?f_m1 ?f_m2 ?f_m3 ?f_m5 ?f_vw ?f_up
  (case e_MapError=>k_is)
  (case e_Flat=>k_is)
  (case e_NotInside=>k_is)
  (case e_NoMap=>k_is)
  (case e_NoSheet=>k_is)
  (case e_Parted=>k_is)
  (case e_VIEWS=>k_is)
  (case e_UP=>k_is)
  (case e_lam=>k_is)
  (case c_lam=>kernel_rfl)
  (case d0=>walk_at "d")
  (case d1=>walk_at "d")
  (case d2=>walk_at "d")
  (case d3=>walk_at "d")
  (case d4=>walk_at "d")
  (case d5=>walk_at "d")
  (case d6=>walk_at "d")
  (case d7=>walk_at "d")
  (case d8=>walk_at "d")
  (case d9=>walk_at "d")
  (case d10=>walk_at "d")
  (case d11=>walk_at "d")
  (case d12=>walk_at "d")
  (case d13=>walk_at "d")
  (case d14=>walk_at "d")
  (case d15=>walk_at "d")
  (case d16=>walk_at "d")
  (case d17=>walk_at "d")
  (case d18=>walk_at "d")
  (case d19=>walk_at "d")
  (case d20=>walk_at "d")
  (case d21=>walk_at "d")
  (case d22=>walk_at "d")
  (case d23=>walk_at "d")
  (case d24=>walk_at "d")
  (case d25=>walk_at "d")
  (case d26=>walk_at "d")
  (case d27=>walk_at "d")
  (case d28=>walk_at "d")
  (case d29=>walk_at "d")
  (case d30=>walk_at "d")
  (case d31=>walk_at "d")
  (case d32=>walk_at "d")
  (case d33=>walk_at "d")
  (case d34=>walk_at "d")
  (case d35=>walk_at "d")
  (case d36=>walk_at "d")
  (case d37=>walk_at "d")
  (case d38=>walk_at "d")
  (case d39=>walk_at "d")
  (case d40=>walk_at "d")
  (case dnb=>walk_at "d")
  (case z0=>k_is)
  (case z1=>k_is)
  (case z2=>k_is)
  (case z3=>k_is)
  (case z4=>k_is)
  (case z5=>k_is)
  (case z6=>k_is)
  (case z7=>k_is)
  (case z8=>k_is)
  (case z9=>k_is)
  (case z10=>k_is)
  (case z11=>k_is)
  (case z12=>k_is)
  (case z13=>k_is)
  (case z14=>k_is)
  (case z15=>k_is)
  (case z16=>k_is)
  (case z17=>k_is)
  (case x_Flat=>k_exc)
  (case t1_Flat=>k_is)
  (case t7_Flat=>k_is)
  (case t8_Flat=>k_is)
  (case t2_Flat=>k_is)
  (case t3_Flat=>k_is)
  (case t6_Flat=>k_is)
  (case t4=>k_is)
  (case t5=>k_is)
  (case f_m1=>kts_exm)
  (case f_m2=>kit_is)
  (case f_m3=>kit_is)
  (case f_m5=>kit_is)
  (case f_vw=>kernel_rfl)
  (case f_up=>kernel_rfl)
