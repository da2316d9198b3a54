import PyProof.Rows.All
import Wide.All
import OpenK.AllK
import Wide.FinOn
import Lean
import PyProof.EqAt
import PyProof.EqKinds
import PyProof.TupleCall
import PyProof.Rows.Catch
import KE.KRevIter
import KE.KDictList
import KE.KStateDown
import KE.KIntText
import PyProof.Rows.TupDisplay
import PyProof.InstStoreFacts
import PyProof.ExcInit
import PyProof.Rows.SetFrom
import PyProof.Walks
import KE.KSortKey
import KE.KLam
import PyProof.AttrMissHeap
import KE.KDictOf
import PyProof.DictValues
import PySem.Challenge.RW_standup_k35_whole_trees_of_maps
open List
set_option Elab.async false
set_option linter.all false
set_option maxRecDepth 100000
set_option maxHeartbeats 4000000
theorem qe1{A0:Type}{P:A0->Prop}{q:Prop}(h:∃x0,P x0)(k:∀x0,P x0->q):q:=by obtain⟨x0,h⟩:=h;exact k _ h
theorem qe2{A0 A1:Type}{P:A0->A1->Prop}{q:Prop}(h:∃x0 x1,P x0 x1)(k:∀x0 x1,P x0 x1->q):q:=by obtain⟨x0,x1,h⟩:=h;exact k _ _ h
theorem qe3{A0 A1 A2:Type}{P:A0->A1->A2->Prop}{q:Prop}(h:∃x0 x1 x2,P x0 x1 x2)(k:∀x0 x1 x2,P x0 x1 x2->q):q:=by obtain⟨x0,x1,x2,h⟩:=h;exact k _ _ _ h
theorem qe4{A0 A1 A2 A3:Type}{P:A0->A1->A2->A3->Prop}{q:Prop}(h:∃x0 x1 x2 x3,P x0 x1 x2 x3)(k:∀x0 x1 x2 x3,P x0 x1 x2 x3->q):q:=by obtain⟨x0,x1,x2,x3,h⟩:=h;exact k _ _ _ _ h
theorem qe5{A0 A1 A2 A3 A4:Type}{P:A0->A1->A2->A3->A4->Prop}{q:Prop}(h:∃x0 x1 x2 x3 x4,P x0 x1 x2 x3 x4)(k:∀x0 x1 x2 x3 x4,P x0 x1 x2 x3 x4->q):q:=by obtain⟨x0,x1,x2,x3,x4,h⟩:=h;exact k _ _ _ _ _ h
theorem qe6{A0 A1 A2 A3 A4 A5:Type}{P:A0->A1->A2->A3->A4->A5->Prop}{q:Prop}(h:∃x0 x1 x2 x3 x4 x5,P x0 x1 x2 x3 x4 x5)(k:∀x0 x1 x2 x3 x4 x5,P x0 x1 x2 x3 x4 x5->q):q:=by obtain⟨x0,x1,x2,x3,x4,x5,h⟩:=h;exact k _ _ _ _ _ _ h
theorem qe7{A0 A1 A2 A3 A4 A5 A6:Type}{P:A0->A1->A2->A3->A4->A5->A6->Prop}{q:Prop}(h:∃x0 x1 x2 x3 x4 x5 x6,P x0 x1 x2 x3 x4 x5 x6)(k:∀x0 x1 x2 x3 x4 x5 x6,P x0 x1 x2 x3 x4 x5 x6->q):q:=by obtain⟨x0,x1,x2,x3,x4,x5,x6,h⟩:=h;exact k _ _ _ _ _ _ _ h
theorem qe8{A0 A1 A2 A3 A4 A5 A6 A7:Type}{P:A0->A1->A2->A3->A4->A5->A6->A7->Prop}{q:Prop}(h:∃x0 x1 x2 x3 x4 x5 x6 x7,P x0 x1 x2 x3 x4 x5 x6 x7)(k:∀x0 x1 x2 x3 x4 x5 x6 x7,P x0 x1 x2 x3 x4 x5 x6 x7->q):q:=by obtain⟨x0,x1,x2,x3,x4,x5,x6,x7,h⟩:=h;exact k _ _ _ _ _ _ _ _ h
theorem qe9{A0 A1 A2 A3 A4 A5 A6 A7 A8:Type}{P:A0->A1->A2->A3->A4->A5->A6->A7->A8->Prop}{q:Prop}(h:∃x0 x1 x2 x3 x4 x5 x6 x7 x8,P x0 x1 x2 x3 x4 x5 x6 x7 x8)(k:∀x0 x1 x2 x3 x4 x5 x6 x7 x8,P x0 x1 x2 x3 x4 x5 x6 x7 x8->q):q:=by obtain⟨x0,x1,x2,x3,x4,x5,x6,x7,x8,h⟩:=h;exact k _ _ _ _ _ _ _ _ _ h
theorem qa2{A0 A1 q:Prop}(h:A0/\A1)(k:A0->A1->q):q:=by obtain⟨x0,x1⟩:=h;exact k x0 x1
theorem qa3{A0 A1 A2 q:Prop}(h:A0/\A1/\A2)(k:A0->A1->A2->q):q:=by obtain⟨x0,x1,x2⟩:=h;exact k x0 x1 x2
theorem qa4{A0 A1 A2 A3 q:Prop}(h:A0/\A1/\A2/\A3)(k:A0->A1->A2->A3->q):q:=by obtain⟨x0,x1,x2,x3⟩:=h;exact k x0 x1 x2 x3
theorem qa5{A0 A1 A2 A3 A4 q:Prop}(h:A0/\A1/\A2/\A3/\A4)(k:A0->A1->A2->A3->A4->q):q:=by obtain⟨x0,x1,x2,x3,x4⟩:=h;exact k x0 x1 x2 x3 x4
theorem qa6{A0 A1 A2 A3 A4 A5 q:Prop}(h:A0/\A1/\A2/\A3/\A4/\A5)(k:A0->A1->A2->A3->A4->A5->q):q:=by obtain⟨x0,x1,x2,x3,x4,x5⟩:=h;exact k x0 x1 x2 x3 x4 x5
theorem qa7{A0 A1 A2 A3 A4 A5 A6 q:Prop}(h:A0/\A1/\A2/\A3/\A4/\A5/\A6)(k:A0->A1->A2->A3->A4->A5->A6->q):q:=by obtain⟨x0,x1,x2,x3,x4,x5,x6⟩:=h;exact k x0 x1 x2 x3 x4 x5 x6
theorem qa8{A0 A1 A2 A3 A4 A5 A6 A7 q:Prop}(h:A0/\A1/\A2/\A3/\A4/\A5/\A6/\A7)(k:A0->A1->A2->A3->A4->A5->A6->A7->q):q:=by obtain⟨x0,x1,x2,x3,x4,x5,x6,x7⟩:=h;exact k x0 x1 x2 x3 x4 x5 x6 x7
theorem qa9{A0 A1 A2 A3 A4 A5 A6 A7 A8 q:Prop}(h:A0/\A1/\A2/\A3/\A4/\A5/\A6/\A7/\A8)(k:A0->A1->A2->A3->A4->A5->A6->A7->A8->q):q:=by obtain⟨x0,x1,x2,x3,x4,x5,x6,x7,x8⟩:=h;exact k x0 x1 x2 x3 x4 x5 x6 x7 x8
theorem qa10{A0 A1 A2 A3 A4 A5 A6 A7 A8 A9 q:Prop}(h:A0/\A1/\A2/\A3/\A4/\A5/\A6/\A7/\A8/\A9)(k:A0->A1->A2->A3->A4->A5->A6->A7->A8->A9->q):q:=by obtain⟨x0,x1,x2,x3,x4,x5,x6,x7,x8,x9⟩:=h;exact k x0 x1 x2 x3 x4 x5 x6 x7 x8 x9
theorem qa11{A0 A1 A2 A3 A4 A5 A6 A7 A8 A9 A10 q:Prop}(h:A0/\A1/\A2/\A3/\A4/\A5/\A6/\A7/\A8/\A9/\A10)(k:A0->A1->A2->A3->A4->A5->A6->A7->A8->A9->A10->q):q:=by obtain⟨x0,x1,x2,x3,x4,x5,x6,x7,x8,x9,x10⟩:=h;exact k x0 x1 x2 x3 x4 x5 x6 x7 x8 x9 x10
theorem qa12{A0 A1 A2 A3 A4 A5 A6 A7 A8 A9 A10 A11 q:Prop}(h:A0/\A1/\A2/\A3/\A4/\A5/\A6/\A7/\A8/\A9/\A10/\A11)(k:A0->A1->A2->A3->A4->A5->A6->A7->A8->A9->A10->A11->q):q:=by obtain⟨x0,x1,x2,x3,x4,x5,x6,x7,x8,x9,x10,x11⟩:=h;exact k x0 x1 x2 x3 x4 x5 x6 x7 x8 x9 x10 x11
theorem qa13{A0 A1 A2 A3 A4 A5 A6 A7 A8 A9 A10 A11 A12 q:Prop}(h:A0/\A1/\A2/\A3/\A4/\A5/\A6/\A7/\A8/\A9/\A10/\A11/\A12)(k:A0->A1->A2->A3->A4->A5->A6->A7->A8->A9->A10->A11->A12->q):q:=by obtain⟨x0,x1,x2,x3,x4,x5,x6,x7,x8,x9,x10,x11,x12⟩:=h;exact k x0 x1 x2 x3 x4 x5 x6 x7 x8 x9 x10 x11 x12
theorem qa14{A0 A1 A2 A3 A4 A5 A6 A7 A8 A9 A10 A11 A12 A13 q:Prop}(h:A0/\A1/\A2/\A3/\A4/\A5/\A6/\A7/\A8/\A9/\A10/\A11/\A12/\A13)(k:A0->A1->A2->A3->A4->A5->A6->A7->A8->A9->A10->A11->A12->A13->q):q:=by obtain⟨x0,x1,x2,x3,x4,x5,x6,x7,x8,x9,x10,x11,x12,x13⟩:=h;exact k x0 x1 x2 x3 x4 x5 x6 x7 x8 x9 x10 x11 x12 x13
theorem qa15{A0 A1 A2 A3 A4 A5 A6 A7 A8 A9 A10 A11 A12 A13 A14 q:Prop}(h:A0/\A1/\A2/\A3/\A4/\A5/\A6/\A7/\A8/\A9/\A10/\A11/\A12/\A13/\A14)(k:A0->A1->A2->A3->A4->A5->A6->A7->A8->A9->A10->A11->A12->A13->A14->q):q:=by obtain⟨x0,x1,x2,x3,x4,x5,x6,x7,x8,x9,x10,x11,x12,x13,x14⟩:=h;exact k x0 x1 x2 x3 x4 x5 x6 x7 x8 x9 x10 x11 x12 x13 x14
theorem qa16{A0 A1 A2 A3 A4 A5 A6 A7 A8 A9 A10 A11 A12 A13 A14 A15 q:Prop}(h:A0/\A1/\A2/\A3/\A4/\A5/\A6/\A7/\A8/\A9/\A10/\A11/\A12/\A13/\A14/\A15)(k:A0->A1->A2->A3->A4->A5->A6->A7->A8->A9->A10->A11->A12->A13->A14->A15->q):q:=by obtain⟨x0,x1,x2,x3,x4,x5,x6,x7,x8,x9,x10,x11,x12,x13,x14,x15⟩:=h;exact k x0 x1 x2 x3 x4 x5 x6 x7 x8 x9 x10 x11 x12 x13 x14 x15
open Lean in
def pq:Nat->Syntax->MacroM (TSyntax `rcasesPat)
 | 0,_=>Macro.throwUnsupported
 | n+1,s=>match s with
  | `(#[$xs,*])=>do
   let ys<-xs.getElems.mapM fun x=>do `(Lean.Parser.Tactic.rcasesPatLo|$(<-pq n x):rcasesPat)
   `(rcasesPat|⟨$ys,*⟩)
  | `(_)=>`(rcasesPat|_)
  | `($x:ident)=>`(rcasesPat|$x:ident)
  | _=>Macro.throwUnsupported
open Lean in
def pr:Nat->Syntax->MacroM Term
 | 0,_=>Macro.throwUnsupported
 | n+1,s=>match s with
  | `(rcasesPat|⟨$xs,*⟩)=>do
   let ys<-xs.getElems.mapM fun x=>if x.raw[1].getNumArgs==0&&x.raw[0][0].getNumArgs==1 then pr n x.raw[0][0][0] else Macro.throwUnsupported
   `(#[$ys,*])
  | `(rcasesPat|_)=>`(_)
  | `(rcasesPat|$x:ident)=>`($x:ident)
  | _=>Macro.throwUnsupported
open Lean in
def pe:Nat->Array Term->Term->MacroM (TSyntax `tactic)
 | 0,_,_=>Macro.throwUnsupported
 | k+1,ps,e=>do
  let n:=ps.size
  let mut xs:Array Ident:=#[]
  let mut po:Array (TSyntax `tactic):=#[]
  for i in [0:n] do
   let y:=mkIdent (.mkSimple s!"_q{k}_{i}")
   match ps[i]! with
   | `($x:ident)=>
    if x.getId==`rfl then po:=po.push (<-`(tactic| subst $y:ident))
    xs:=xs.push (if x.getId==`rfl then y else x)
   | `(_)=>xs:=xs.push y
   | `(#[$ys,*])=>
    xs:=xs.push y;po:=po.push (<-pe k ys.getElems y)
   | _=>Macro.throwUnsupported
  let h:=mkIdent (.mkSimple s!"_q{k}")
  let mut a:TSyntax `tactic<-`(tactic| fail)
  for i in [0:min n 10] do
   let f:=mkIdent (.mkSimple s!"qe{i}")
   let g:=mkIdent (.mkSimple s!"qa{n-i}")
   let u:=xs[0:i].toArray
   let v:=xs[i:n].toArray
   let b<-if i==0 then `(tactic| refine $g $e fun $v* =>?_) else if i+1==n then `(tactic| refine $f $e fun $xs* =>?_) else `(tactic| refine $f $e fun $u* $h=>$g $h fun $v* =>?_)
   a<-`(tactic| first | with_reducible $b:tactic | $a:tactic)
  let c<-match e with
   | `($x:ident)=>if xs.any (·.getId==x.getId) then `(tactic| skip) else `(tactic| (try clear $x))
   | _=>`(tactic| skip)
  `(tactic| ($a:tactic;(try clear $h);$c:tactic;$[$po:tactic];*))
noncomputable section
local macro_rules | `(tactic| let $d:letDecl)=>`(tactic| have $d:letDecl)
local macro_rules | `(tactic| let $p:term:=$e)=>do
 let q<-`(tactic| obtain $(<-pq 9 p.raw):rcasesPat:=$e)
 match p with
 | `(#[$xs,*])=>`(tactic| first | $(<-pe 9 xs.getElems e):tactic | $q:tactic)
 | _=>pure q
local macro_rules | `(#[$xs,*])=>if xs.elemsAndSeps.size%2==0 then Lean.Macro.throwUnsupported else `(⟨$xs,*⟩)
local macro_rules | `(())=>`(by lia)
set_option hygiene false
local macro_rules | `($x:ident)=>match x.getId with
 | `A!=>`(by walk_at "L")
 | `A?=>`(by simp)
 | `B!=>`(by decide)
 | `B?=>`(by decide +kernel)
 | `C!=>`(by rfl)
 | `C?=>`(λ_ _=>rfl)
 | `D!=>`(by walk_at "blk_ok")
 | `H!=>`(λ_ _ _ _ _ _ us c=>by obtain⟨a,rfl⟩:=tW c;rfl)
 | `H?=>`(λ_ _ _ _ _ _ us c=>by obtain⟨a,b,rfl⟩:=Ln c;rfl)
 | `G!=>`(λ_ _ _ _ _ _ us c=>by obtain⟨a,b,c,rfl⟩:=IY c;rfl)
 | `G?=>`(λ_ _ _ _ _ _ us c=>by obtain⟨a,b,c,d,rfl⟩:=XH c;rfl) | .str p s=>if p.isAnonymous then Lean.Macro.throwUnsupported else
  let q:=Lean.mkIdentFrom x p
  match s with
  | "z"=>`($(Lean.mkIdentFrom x (.str p "length")))
  | "y"=>`($(q).heap.objs.size)
  | "x"=>`($(q).objs.size)
  | "c"=>`($(q).map V.int)
  | "d"=>`($(q).map V.ref)
  | "e"=>`(some (.ref $q))
  | "f"=>`(some (.int $q))
  | "h"=>`(some (.int ($(q) : Int)))
  | _=>Lean.Macro.throwUnsupported
 | _=>Lean.Macro.throwUnsupported
local macro_rules | `($x.$y:ident)=>match y.getId with
 | .str p s=>
  let m:=Lean.mkIdentFrom y
  match s with
  | "z"=>`($(x).$(m (.str p "length")))
  | "y"=>`($(x).$(m (p++`heap.objs.size)))
  | "x"=>`($(x).$(m (p++`objs.size)))
  | "c"=>`($(x).$(m (.str p "map")) V.int)
  | "d"=>`($(x).$(m (.str p "map")) V.ref)
  | _=>Lean.Macro.throwUnsupported
 | _=>Lean.Macro.throwUnsupported
local macro_rules | `(W! $x*)=>`(cE P w K mg base (bV P w) $x*)
local macro_rules | `(tactic| exists $a,$x:ident,$y:ident)=>`(tactic| refine $a (λvs H Q E h=>?_) λf $x A o s H vs Q E $y h=>?_)
set_option hygiene true
local macro_rules | `(tactic| ext $p*)=>if p.size==0 then `(tactic| walk_at "") else do
 let r<-`(tactic| rintro $p*)
 let mut t:Array (Lean.TSyntax `tactic):=#[]
 for x in p do
  let y:=Lean.mkIdent `_q9
  match x with
  | `(rintroPat|$z:rcasesPat)=>match <-pr 9 z with
   | `(#[$xs,*])=>t:=(t.push (<-`(tactic| intro $y:ident))).push (<-pe 9 xs.getElems y)
   | `($z:ident)=>
    t:=t.push (<-`(tactic| intro $(if z.getId==`rfl then y else z):ident))
    if z.getId==`rfl then t:=t.push (<-`(tactic| subst $y:ident))
   | _=>t:=t.push (<-`(tactic| intro _))
  | _=>Lean.Macro.throwUnsupported
 `(tactic| first | ($[$t:tactic];*) | $r:tactic)
local macro_rules | `(tactic| ext ($p:rcasesPatMed : $e))=>`(tactic| obtain $p:rcasesPatMed:=$e)
local macro_rules | `(tactic| erw[$r,*])=>match r.getElems.back? with
 | some k=>match k with
  | `(Lean.Parser.Tactic.rwRule|$t:term)=>do
   let q:=r.getElems.pop
   `(tactic| (rw[$q,*];exact $t))
  | _=>Lean.Macro.throwUnsupported
 | _=>Lean.Macro.throwUnsupported
def zaa:=@List.length_map
def zab:=@if_neg
def zac:=@List.getElem?_eq_some_iff
def zad:=@if_pos
def zae:=@PySem.wpAny_bind
def zaf:=@List.getElem?_eq_getElem
def zag:=@List.mem_cons_of_mem
def zah:=@List.mem_of_getElem?
def zai:=@Nat.le_refl
def zaj:=@List.mem_singleton
def zak:=@List.getD_eq_getElem?_getD
def zal:=@List.mem_cons_self
def zam:=@List.mem_append
def zan:=@PySem.Heap.lt_size
def zao:=@List.getElem?_map
def zap:=@List.mem_map
def zaq:=@Option.some.inj
def zar:=@List.nodup_cons
def zas:=@List.mem_cons
def zat:=@PySem.sizeLine_eq
def zau:=@Int.toNat_natCast
def zav:=@PySem.Heap.get?_push_of_some
def zaw:=@List.map_append
def zax:=@PySem.wpAny_pure
def zay:=@List.length_append
def zaz:=@Nat.add_mod_right
def zaA:=@congrArg
def zaB:=@Classical.byContradiction
def zaC:=@Bool.false_ne_true
def zaD:=@Int.eq_ofNat_of_zero_le
def zaE:=@PySem.PassesOwn.never
def zaF:=@List.mem_append_right
def zaG:=@Nat.lt_of_lt_of_le
def zaH:=@List.mem_iff_getElem
def zaI:=@Nat.le_trans
def zaJ:=@List.mem_append_left
def zaK:=@List.mem_flatMap
def zaL:=@List.getElem?_append_right
def zaM:=@List.size_toArray
def zaN:=@List.mem_iff_getElem?
def zaO:=@List.getElem?_append_left
def zaP:=@PyProof.Rows.callWith_type1
def zaQ:=@decide_eq_false
def zaR:=@List.not_mem_nil
def zaS:=@Nat.zero_le
def zaT:=@List.mem_flatten
def zaU:=@List.mem_range
def zaV:=@decide_eq_true
def zaW:=@Nat.ne_of_lt
def zaX:=@PySem.Heap.get?_push_size
def zaY:=@Nat.mod_eq_of_lt
def zaZ:=@Ne.symm
def zba:=@Int.emod_lt_of_pos
def zbb:=@List.length_take
def zbc:=@PySem.F.plainAttrs_list
def zbd:=@List.length_cons
def zbe:=@List.pairwise_iff_getElem
def zbf:=@Nat.lt_irrefl
def zbg:=@List.map_cons
def zbh:=@List.nodup_append
def zbi:=@Int.emod_nonneg
def zbj:=@Nat.lt_of_le_of_lt
def zbk:=@Int.zero_add
def zbl:=@List.length_singleton
def zbm:=@List.mem_cons
def zbn:=@PySem.wpAny_mono
def zbo:=@Nat.lt_succ_of_lt
def zbp:=@List.take_length
def zbq:=@Nat.lt_succ_self
def zbr:=@Nat.mod_lt
def zbs:=@PySem.W.mg_none_of
def zbt:=@or_false
def zbu:=@Array.length_toList
def zbv:=@PySem.F.slot_list_append
def zbw:=@PySem.F.type_list_append
def zbx:=@List.length_range
def zby:=@PySem.Heap.get?_update_other
def zbz:=@List.flatten_cons
def zbA:=@Prod.ext
def zbB:=@List.Pairwise.map
def zbC:=@Bool.false_eq_true
def zbD:=@Int.mul_zero
def zbE:=@Int.toNat_of_nonneg
def zbF:=@List.length_drop
def zbG:=@Int.natAbs_mul
def zbH:=@List.idxOf_lt_length_of_mem
def zbI:=@PySem.Heap.get?_update_self
def zbJ:=@PySem.wpAny_loadPart'
def zbK:=@Nat.pow_le_pow_right
def zbL:=@List.getElem_mem
def zbM:=@Nat.ne_of_gt
def zbN:=@List.length_set
def zbO:=@List.getElem?_eq_none
def zbP:=@List.length_pos_iff
def zbQ:=@Nat.zero_add
def zbR:=@PySem.Around.under_plainId
def zbS:=@List.map_congr_left
def zbT:=@Nat.mod_mod
def zbU:=@Nat.mul_le_mul
def zbV:=@Nat.mul_le_mul_right
def zbW:=@PySem.wpAny_holding
def zbX:=@PySem.W.kia_one
def zbY:=@Nat.le_mul_of_pos_left
def zbZ:=@Nat.pow_le_pow_left
def zca:=@List.pairwise_map
def zcb:=@List.pairwise_flatten
def zcc:=@Int.mul_fdiv_cancel_left
def zcd:=@List.Pairwise.imp_of_mem
def zce:=@List.getElem?_range
def zcf:=@PySem.Calls.spliced_cons
def zcg:=@List.drop_eq_getElem_cons
def zch:=@Nat.le_add_right
def zci:=@PySem.wpAny_truthy_bool
def zcj:=@PySem.Calls.spliced_nil
def zck:=@List.append_assoc
def zcl:=@List.length_pos_of_mem
def zcm:=@List.range_succ
def zcn:=@List.flatMap_append
def zco:=@List.flatten_append
def zcp:=@Int.mul_comm
def zcq:=@List.getElem_inj
def zcr:=@List.ext_getElem
def zcs:=@PySem.F.plain_extend_loop
def zct:=@PySem.SeqAt.EqAt.int_int
def zcu:=@Nat.add_sub_cancel
def zcv:=@List.getElem?_set
def zcw:=@PySem.plainId_quiet
def zcx:=@Nat.add_zero
def zcy:=@List.flatMap_cons
def zcz:=@List.getElem_range
def zcA:=@PySem.sizeLine_eq
def zcB:=@List.getElem_map
def zcC:=@PySem.wpAny_typeNameOfWhole_keyiter
def zcD:=@decide_eq_true_eq
def zcE:=@List.take_of_length_le
def zcF:=@Nat.lt_trichotomy
def zcG:=@PySem.codeAny_builtin
def zcH:=@PySem.wpAny_updateSeq
def zcI:=@List.mem_of_mem_take
def zcJ:=@Nat.le_of_lt
def zcK:=@Nat.mul_comm
def zcL:=@Array.getD_eq_getD_getElem?
def zcM:=@List.cons_append
def zcN:=@List.take_append_drop
def zcO:=@PySem.F.plain_min_loop
def zcP:=@List.append_nil
def zcQ:=@if_false
def zcR:=@Int.one_mul
def zcS:=@Int.add_zero
abbrev cp:=List<|List Int
abbrev b9:=List Int
abbrev b6:=List<|PySem.Addr×PySem.Obj
abbrev bz:=PySem.Value->PySem.Shared->Prop
abbrev bx:=PySem.Str->Option PySem.Value
abbrev bp:=List PySem.Addr
abbrev bf:=List PySem.Value
abbrev zcT:=PySem.W.Frag
def zcU:=@PySem.F.slot_dict_keyiterator_next
def zcV:=@List.perm_append_singleton
def zcW:=@Nat.add_mul_mod_self_left
def zcX:=@PySem.wpAny_passesOwn
def zcY:=@List.flatten_singleton
def zcZ:=@PySem.wpAny_typeNameOf_keyiter
def zda:=@PySem.mem_of_lookup
def zdb:=@List.replicate_succ
def zdc:=@PySem.wpAny_call_entry
def zdd:=@PySem.wpAny_seqItems
def zde:=@Nat.le_mul_of_pos_right
def zdf:=@PySem.wpAny_callSpecial?_slot
def zdg:=@List.filter_cons
def zdh:=@PySem.call_meets
def zdi:=@Nat.add_comm
def zdj:=@List.nodup_cons
def zdk:=@List.idxOf_cons
def zdl:=@Nat.sub_self
def zdm:=@PySem.wpAny_execs_nil
def zdn:=@PySem.wpAny_specialOf
def zdo:=@List.sum_cons
def zdp:=@beq_false_of_ne
def zdq:=@List.erase_cons_head
def zdr:=@List.getElem_idxOf
def zds:=@Bool.beq_eq_decide_eq
def zdt:=@PySem.builtinLookup_eq_fast
def zdu:=@List.perm_ext_iff_of_nodup
def zdv:=@PySem.wpAny_newObj_type
def zdw:=@List.map_map
def zdx:=@Int.mul_one
def zdy:=@Nat.le_succ
def zdz:=@List.mem_append
def zdA:=@PySem.wpAny_of_eq
def zdB:=@Array.toArray_toList
def zdC:=@List.length_replicate
def zdD:=@PySem.Heap.size_update
def zdE:=@Nat.mul_le_mul_left
def zdF:=@Option.isSome_iff_exists
def zdG:=@List.map_singleton
def zdH:=@List.map_take
def zdI:=@List.idxOf_lt_length_iff
def zdJ:=@List.mem_filter
def zdK:=@List.getElem?_set_ne
def zdL:=@PySem.W.KasT.kasWp_bind
def zdM:=@Nat.mod_add_mod
def zdN:=@List.mem_of_mem_drop
def zdO:=@Rat.intCast_mul
def zdP:=@PySem.wpAny_Call_Name_kw
def zdQ:=@List.length_nil
def zdR:=@List.erase_append_right
def zdS:=@List.filter_cons_of_pos
def zdT:=@List.filter_cons_of_neg
def zdU:=@List.filterMap_cons
def zdV:=@PySem.wpAny_pyIter_rangeiter
def zdW:=@Nat.lt_trans
def zdX:=@PySem.Heap.get?_push_ne
def zdY:=@List.nodup_append
def zdZ:=@List.range_succ_eq_map
def zea:=@Array.getElem?_eq_none
def zeb:=@Nat.mod_self
def zec:=@not_or
def zed:=@Int.zero_mul
def zee:=@not_false_eq_true
def zef:=@Array.getElem?_toList
def zeg:=@PySem.wpAny_isOneOf_keyiter
def zeh:=@List.nodup_iff_pairwise_ne
def zei:=@Bool.and_eq_true
def zej:=@Int.ediv_le_self
def zek:=@Nat.add_assoc
def zel:=@List.append_of_mem
def zem:=@PySem.F.slot_list_lt
def zen:=@PySem.wpAny_letGo
def zeo:=@List.getElem_set
def zep:=@PySem.wpAny_field
def zeq:=@Nat.add_mul
def zer:=@List.mem_or_eq_of_mem_set
def zes:=@Bool.eq_iff_iff
def zet:=@Nat.div_add_mod
def zeu:=@PySem.F.slot_zip_next
def zew:=@PySem.typeLookup_type
def zex:=@Rat.intCast_inj
def zey:=@Int.ediv_nonneg
def zez:=@beq_eq_false_iff_ne
def zeA:=@List.countP_eq_zero
def zeB:=@Nat.succ_mul
def zeC:=@List.ext_getElem?
def zeD:=@Nat.lt_or_ge
def zeE:=@Nat.sub_zero
def zeF:=@Nat.zero_mod
def zeG:=@List.map_set
def zeH:=@List.nodup_nil
def zeI:=@List.take_succ
def zeK:=@List.mem_filterMap
def zeM:=@List.nil_append
def zeN:=@List.find?_cons
def zeP:=@Int.natAbs_neg
def zeR:=@List.mem_filter
def zeT:=@List.Perm.refl
def zeV:=@List.length_zipWith
def zeW:=@Int.lt_of_le_of_lt
def zeY:=@of_decide_eq_true
def zeZ:=@Nat.le_succ_of_le
def zfa:=@Nat.le_of_succ_le
def zfb:=@Nat.one_mul
def zfc:=@Int.emod_eq_of_lt
def zff:=@Int.mul_assoc
def zfp:=@if_true
namespace L2
open PySem PySem.Spec PyProof.Rows
abbrev Key:=Sum Int Str
noncomputable def vA:Key->Value->Bool
 | .inl k,v=>Value.isInt k v
 | .inr x,v=>Value.isStrOf x v
noncomputable def TN(w:World):Key->Int
 | .inl k=>hashInt k
 | .inr x=>hashStr w x
theorem cW:∀{k:Key} {v:Value},vA k v=true->(∃i t,k=Sum.inl i/\v=Value.int i t)\/(∃x t,k=Sum.inr x/\v=Value.str x t)
 | .inl i,v,h=>by let#[t,e]:=Value.isInt_shape h;exact .inl #[i,t,rfl,e]
 | .inr x,v,h=>by let#[t,e]:=Value.isStrOf_shape h;exact .inr #[x,t,rfl,e]
theorem EE(i:Int)(t:Tok):vA (.inl i) (.int i t)=true:=by simp[vA,Value.isInt]
theorem ED(x:Str)(t:Tok):vA (.inr x) (.str x t)=true:=by simp[vA,Value.isStrOf]
theorem Nv(a b:Int):decide ((Sum.inl a:Key)=Sum.inl b)=(a==b):=by by_cases e:a=b;subst e;simp;let h:¬(Sum.inl a:Key)=Sum.inl b:=λq=>e<|Sum.inl.inj q;erw[zaQ h,(zez.mpr e).symm]
theorem Nr(a b:Str):decide ((Sum.inr a:Key)=Sum.inr b)=decide (a=b):=by by_cases e:a=b;subst e;simp;let h:¬(Sum.inr a:Key)=Sum.inr b:=λq=>e<|Sum.inr.inj q;rw[zaQ h,zaQ e]
theorem Nu(a:Int)(b:Str):decide ((Sum.inl a:Key)=Sum.inr b)=false:=zaQ (λq=>nomatch q)
theorem Nt(a:Str)(b:Int):decide ((Sum.inr a:Key)=Sum.inl b)=false:=zaQ (λq=>nomatch q)
noncomputable def c9(prog:Program)(w:World):PySem.KeyKind prog w Key where
 is:=vA
 hash:=TN w
 inj:=λv a b g f=>by ext(⟨i,t,rfl,rfl⟩|⟨x,t,rfl,rfl⟩:cW g);ext(⟨j,u,rfl,e⟩|⟨y,u,rfl,e⟩:cW f);injection e with c _;rw[c];exact nomatch e;ext(⟨j,u,rfl,e⟩|⟨y,u,rfl,e⟩:cW f);exact nomatch e;injection e with c _;rw[c]
 byValue:=λk v h=>by ext(⟨i,t,rfl,rfl⟩|⟨x,t,rfl,rfl⟩:cW h)<;>rfl
 pyHash:=λd h=>by ext(⟨i,t,rfl,rfl⟩|⟨x,t,rfl,rfl⟩:cW d);exact wpAny_pyHash_int h;exact wpAny_pyHash_str h
 eqBool:=λl d h=>by ext(⟨i,t,rfl,rfl⟩|⟨x,t,rfl,rfl⟩:cW l);ext(⟨j,u,rfl,rfl⟩|⟨y,u,rfl,rfl⟩:cW d);rw[Nv]at h;exact wpAny_eqBool_int h;rw[Nu]at h;exact SeqAt.EqAt.int_str i t y u _ _ _ _ h;ext(⟨j,u,rfl,rfl⟩|⟨y,u,rfl,rfl⟩:cW d);rw[Nt]at h;exact SeqAt.EqAt.str_int x t j u _ _ _ _ h;rw[Nr]at h;exact wpAny_eqBool_str h
 «strs»:=λk x t v h=>by ext(⟨i,u,rfl,e⟩|⟨y,u,rfl,e⟩:cW h);exact nomatch e;injection e with c _;subst c;cases v<;>rfl
theorem zQ(prog:Program)(w:World)(i:Int)(t:Tok):(c9 prog w).is (.inl i) (.int i t)=true:=EE i t
theorem zP(prog:Program)(w:World)(x:Str)(t:Tok):(c9 prog w).is (.inr x) (.str x t)=true:=ED x t
inductive V where
 | gW|bl (b:Bool) | int (i:Int) | str (x:Str) | Fb (b:Array UInt8) | Ji (b:UInt64) | ref (a:Addr) | ty (n:String)
 deriving DecidableEq
noncomputable def RelV:V->Value->Prop
 | .gW,u=>u=Value.none
 | .bl b,u=>u=Value.bool b
 | .int i,u=>∃t,u=Value.int i t
 | .str x,u=>∃t,u=Value.str x t
 | .Fb b,u=>∃t,u=Value.bytes b t
 | .Ji b,u=>∃t,u=Value.float b t
 | .ref a,u=>u=Value.ref a
 | .ty n,u=>u=Value.type n
abbrev Vals:List V->bf->Prop:=Paired RelV
theorem Vals.length(r:Vals xs us):xs.z=us.z:=Paired.length r
theorem Vals.get:∀{xs:List V} {a:bf} {i:Nat} {x:V},Vals xs a->xs[i]?=some x->∃u,a[i]?=some u/\RelV x u
 | _,_,_,_,.nil,e=>by simp at e
 | _,_,0,_,.cons r _,e=>by simp at e;subst e;exact#[_,rfl,r]
 | _,_,i+1,x,.cons _ t,e=>by let#[u,b,c]:=Vals.get t (by simpa using e);exact#[u,by simpa using b,c]
theorem Vals.set{x:V}{u:Value}(r:RelV x u):∀{xs:List V} {a:bf} (i:Nat),Vals xs a->Vals (xs.set i x) (a.set i u)
 | _,_,_,.nil=>.nil
 | _,_,0,.cons _ t=>.cons r t
 | _,_,i+1,.cons q t=>.cons q<|Vals.set r i t
theorem Vals.append:∀{xs ys:List V} {b a:bf},Vals xs b->Vals ys a->Vals (xs++ys) (b++a)
 | _,_,_,_,.nil,s=>s
 | _,_,_,_,.cons r t,s=>.cons r<|Vals.append t s
theorem Vals.take:∀{xs:List V} {a:bf} (n:Nat),Vals xs a->Vals (xs.take n) (a.take n)
 | _,_,0,_=>.nil
 | _,_,_+1,.nil=>.nil
 | _,_,n+1,.cons r t=>.cons r<|Vals.take n t
theorem Vals.drop:∀{xs:List V} {a:bf} (n:Nat),Vals xs a->Vals (xs.drop n) (a.drop n)
 | _,_,0,r=>r
 | _,_,_+1,.nil=>.nil
 | _,_,n+1,.cons _ t=>Vals.drop n t
noncomputable def tN:Option V->Option Value->Prop
 | some v,some u=>RelV v u
 | none,none=>True
 | _,_=>False
noncomputable def KV{κ:Type}:List (κ×V)->List (κ×Value)->Prop:=Paired λ(p:κ×V) (q:κ×Value)=>p.1=q.1/\RelV p.2 q.2
noncomputable def kV:Key->V
 | .inl i=>.int i
 | .inr x=>.str x
inductive HO where
 | lst (xs:List V)
 | tup (xs:List V)
 | dK (aT:List (Key×V)) | dT (aT:List (List Key×V))
 | set (S:Int->Bool) (n:Nat)
 | ins (C dx:Addr) (fs:List (Str×V))
 | own (x:Addr)
 | xd (fs:List (Str×V))
 | met (f x:Addr)
 | RY (lo hi:Int)
 | lA (o:Obj) (u:HO)
 | Lr (ps:Array Value)
 | ext (φ:Heap->Prop)
abbrev Hp:=Addr->Option HO
noncomputable def upd(H:Hp)(a:Addr)(o:HO):Hp:=λb=>if b=a then some o else H b
theorem ah:upd H a o a=some o:=by unfold upd;rw[zad rfl]
theorem aG(h:b≠a):upd H a o b=H b:=by unfold upd;rw[zab h]
theorem Qe{H:Hp}{a b:Addr}{o u:HO}(h:H a=some o)(h':H b=some u)(d:o≠u):a≠b:=by ext e;subst e;rw[h]at h';exact d<|zaq h'
theorem bo{H:Hp}{a b:Addr}{o:HO}(h:H a=some o)(h':H b=none):a≠b:=by ext e;subst e;rw[h]at h';cases h'
section
variable (P:Program) (w:World)
noncomputable def bM(H:Hp)(h:Heap)(a:Addr):HO->Prop
 | .lst xs=>xs.z<=sizeLine/\∃(c:bf) (n:Nat),Vals xs c/\h.get? a=some { cls:=.type "list",data:=.seq c.toArray n }
 | .tup xs=>xs.z<=sizeLine/\∃c:bf,Vals xs c/\IsTup h a c.toArray
 | .dK aT=>aT.z<=sizeLine/\(a==sysModules)=false/\∃vs,KV aT vs/\h.DictOf (c9 P w) a vs
 | .dT aT=>aT.z<=sizeLine/\(a==sysModules)=false/\∃xs:List (List Key×Addr×Value),
   Paired (λ(p:List Key×V) (q:List Key×Addr×Value)=>p.1=q.1/\H q.2.1=some (.tup<|p.1.map kV)/\RelV p.2 q.2.2) aT xs/\
   ∃o e i,h.get? a=some o/\o.ExactDict/\o.data=.dict e i/\e.toList=xs.map (entryOfKey<|tupleKind<|c9 P w)/\(xs.map (·.1)).Nodup
 | .set S n=>h.SetOf (intKind P w) a S n
 | .ins C dx fs=>H dx=some (.own a)/\fs.z<=1000/\dx≠a/\h.get? a=some (PySem.W.instObj C dx)/\
   ∃b,h.Ns1 dx b/\(∀f,tN (fs.lookup f)<|b f)/\PySem.Within b (fs.map (·.1))
 | .own _=>∃o,h.get? a=some o
 | .xd fs=>∃b,h.Ns1 a b/\∀f,tN (fs.lookup f)<|b f
 | .RY lo hi=>∃t u v,h.get? a=some { cls:=.type "range",data:=.fields #[.int lo t,.int hi u,.int 1 v,] }
 | .lA o u=>h.get? a=some o/\bM H h a u
 | .Lr ps=>h.get? a=some { cls:=.none,data:=.fields ps }
 | .met f x=>h.get? a=some (PySem.W.methodObj (.ref f)<|.ref x)
 | .ext φ=>φ h/\(∃o,h.get? a=some o)/\∀d g:Heap,φ d->(∀o,d.get? a=some o->g.get? a=some o)->φ g
noncomputable def lE(H:Hp)(h:Heap):Prop:=∀a o,H a=some o->bM P w H h a o
end
section
variable {P:Program} {w:World} {H H':Hp} {h h':Heap} {a:Addr} {o:HO}
theorem bM.lt(x:bM P w H h a o):a<h.x:=by
 cases o with
 | lst xs=>obtain⟨_,_,_,_,e⟩:=x;exact zan e
 | tup xs=>obtain⟨_,_,_,p⟩:=x;exact p.lt
 | dK b=>obtain⟨_,_,_,_,o,_,_,e,_⟩:=x;exact zan e
 | dT b=>obtain⟨_,_,_,_,o,_,_,e,_⟩:=x;exact zan e
 | set S n=>obtain⟨o,_,_,_,e,_⟩:=x;exact zan e
 | ins C j c=>obtain⟨_,_,_,e,_⟩:=x;exact zan e
 | own y=>obtain⟨_,e⟩:=x;exact zan e
 | xd c=>obtain⟨_,⟨_,_,_,e,_⟩,_⟩:=x;exact zan e
 | RY lo i=>obtain⟨_,_,_,e⟩:=x;exact zan e
 | lA g u=>obtain⟨e,_⟩:=x;exact zan e
 | Lr d=>exact zan<|show h.get? a=some _ from x
 | met f y=>exact zan<|show h.get? a=some _ from x
 | ext k=>obtain⟨_,⟨_,e⟩,_⟩:=x;exact zan e
theorem Paired.xt{e d:Type}{F G:e->d->Prop}:∀{l₁:List e} {c:List d},Paired F l₁ c->(∀a b,F a b->G a b)->Paired G l₁ c
 | _,_,.nil,_=>.nil
 | _,_,.cons r t,f=>.cons (f _ _ r)<|Paired.xt t f
theorem bM.jW(x:bM P w H h a o)(k:∀b u,(b=a\/H b=some (.own a))->h.get? b=some u->h'.get? b=some u)(A:∀b,H b=some (.own a)->H' b=some (.own a))(I:∀b xs,H b=some (.tup xs)->H' b=some (.tup xs)):bM P w H' h' a o:=by
 induction o with
 | lst xs=>obtain⟨z,s,n,r,e⟩:=x;exact#[z,s,n,r,k _ _ (.inl rfl) e]
 | tup xs=>obtain⟨z,s,r,g,e,c⟩:=x;exact#[z,s,r,g,k _ _ (.inl rfl) e,c]
 | dK B=>obtain⟨z,y,vs,r,g,i,j,e,c⟩:=x;exact#[z,y,vs,r,g,i,j,k _ _ (.inl rfl) e,c]
 | dT B=>
  let#[z,y,xs,r,g,i,j,e,c]:=x;exact#[z,y,xs,Paired.xt r λp q z=>#[z.1,I _ _ z.2.1,z.2.2],g,i,j,k _ _ (.inl rfl) e,c]
 | set S n=>obtain⟨g,i,j,t,e,c⟩:=x;exact#[g,i,j,t,k _ _ (.inl rfl) e,c]
 | ins C K D=>
  let#[d,z,E,e,l,#[m,i,j,F,c],r]:=x;exact#[A _ d,z,E,k _ _ (.inl rfl) e,l,#[m,i,j,k _ _ (.inr d) F,c],r]
 | own y=>obtain⟨g,e⟩:=x;exact#[g,k _ _ (.inl rfl) e]
 | xd D=>obtain⟨l,⟨m,i,j,e,c⟩,r⟩:=x;exact#[l,#[m,i,j,k _ _ (.inl rfl) e,c],r]
 | RY lo N=>obtain⟨t,u,v,e⟩:=x;exact#[t,u,v,k _ _ (.inl rfl) e]
 | lA g u G=>obtain⟨e,q⟩:=x;exact#[k _ _ (.inl rfl) e,G q]
 | Lr M=>
  let e:=x;exact k a _ (.inl rfl) e
 | met f y=>
  let e:=x;exact k a _ (.inl rfl) e
 | ext L=>obtain⟨p,⟨o,e⟩,st⟩:=x;exact#[st _ _ p λo q=>k _ _ (.inl rfl) q,#[o,k _ _ (.inl rfl) e],st]
theorem lE.lt(x:lE P w H h)(e:H a=some o):a<h.x:=(x a o e).lt
theorem lE.fresh(x:lE P w H h)(e:h.x<=a):H a=none:=by
 cases q:H a with
 | none=>rfl
 | some u=>exact absurd (zaG (x.lt q) e)<|zbf _
theorem lE.kept(x:lE P w H h)(k:∀b u,h.get? b=some u->h'.get? b=some u):lE P w H h':=λa o e=>
 (x a o e).jW (λb u _ q=>k b u q) (λ_ q=>q) λ_ _ q=>q
theorem lE.laid(x:lE P w H h)(k:∀b u,h.get? b=some u->h'.get? b=some u)(i:h.x<=a)(d:bM P w (upd H a o) h' a o):lE P w (upd H a o) h':=λb u e=>by let f:=x.fresh i;by_cases g:b=a;subst g;rw[ah]at e;cases e;exact d;rw[aG g]at e;exact(x b u e).jW (λc v _ q=>k c v q) (λc q=>by erw[aG<|bo q f,q]) λc xs q=>by erw[aG<|bo q f,q]
end
noncomputable def Rd(H:Hp)(a:Addr)(u:HO):Prop:=H a=some u\/∃o,H a=some (.lA o u)
theorem Rd.ok(r:Rd H a u)(x:lE P w H h):bM P w H h a u:=by ext(r|⟨o,r⟩:r);exact x a u r;let#[_,q]:=x a _ r;exact q
noncomputable def RI:Option HO->Prop
 | some (.lst _)=>True
 | some (.dK _)=>True
 | some (.dT _)=>True
 | some (.set _ _)=>True
 | some (.ins _ _ _)=>True
 | some (.ext _)=>True
 | _=>False
theorem lE.write(p:lE P w H h)(j:RI<|H x)(i:e=x\/H e=some (.own x))(k:∀b u,b≠e->h.get? b=some u->h'.get? b=some u)(o:∃u,h'.get? e=some u)(g:bM P w (upd H x o') h' x o'):lE P w (upd H x o') h':=λb u q=>by
 let m:∀c y,H c=some (.own y)->c≠x:=λc y r z=>by subst z;rwa[r]at j
 let s:∀c xs,H c=some (.tup xs)->c≠x:=λc xs r z=>by subst z;rwa[r]at j
 by_cases a:b=x;subst a;rw[ah]at q;cases q;exact g;rw[aG a]at q;by_cases f:b=e;let l:H b=some (.own x):=by ext(z|z:i);exact absurd (f.trans z) a;erw[f,z]
 rw[q]at l;cases l;let#[v,n]:=o;exact#[v,by erw[f,n]];refine(p b u q).jW (λc v d r=>k c v ?_ r) (λc r=>by erw[aG<|m c b r,r]) λc xs r=>by erw[aG<|s c xs r,r]
 ext(rfl|d:d);exact f;ext rfl;ext(z|z:i);exact m c b d z;rw[d]at z;cases z;exact a rfl
structure Un(fs ex:bp)(H H':Hp)(h h':Heap):Prop where
 keep:∀b o,h.get? b=some o->H b=none->b∉fs->b∉ex->h'.get? b=some o
 slot:∀b o,h.get? b=some o->H b=none->b∈fs->b∉ex->∃sl,h'.get? b=some { o with slots:=sl }
 free:∀b o,h.get? b=some o->H b=none->b∉ex->H' b=none
 there:∀b o,h.get? b=some o->b∉ex->∃o',h'.get? b=some o'
 tX:∀b xs,H b=some (.tup xs)->H' b=some (.tup xs)
 tm:∀b o u,H b=some (.lA o u)->H' b=some (.lA o u)
 tY:∀b ps,H b=some (.Lr ps)->∃more,H' b=some (.Lr<|ps++more)
section
variable {fs Rb ex ex':bp} {H H1 H2:Hp} {h h1 h2 h':Heap} {a x e:Addr} {o:HO}
theorem Un.any(u:Un fs ex H H1 h h1)(q:h.get? b=some ob)(n:H b=none)(c:b∉ex):∃f,h1.get? b=some { ob with slots:=f }:=by by_cases d:b∈fs;exact u.slot b ob q n d c;exact#[ob.slots,u.keep b ob q n d c]
theorem Un.kept(k:∀b u,h.get? b=some u->h'.get? b=some u):Un fs ex H H h h':=
 #[λb c q _ _ _=>k b c q,λb c q _ _ _=>#[c.slots,k b c q],λ_ _ _ n _=>n,λb c q _=>#[c,k b c q],λ_ _ q=>q,λ_ _ _ q=>q,λ_ d q=>#[#[],by rw[q];simp]]
theorem Un.refl:Un fs ex H H h h:=Un.kept λ_ _ q=>q
theorem Un.laid(k:∀b u,h.get? b=some u->h'.get? b=some u)(d:h.x<=a)(c:H a=none):Un fs ex H (upd H a o) h h' where
 keep:=λb u q _ _ _=>k b u q
 slot:=λb u q _ _ _=>#[u.slots,k b u q]
 free:=λb u q n _=>by erw[aG<|zaW<|zaG (zan q) d,n]
 there:=λb u q _=>#[u,k b u q]
 tX:=λb xs q=>by erw[aG<|bo q c,q]
 tm:=λb u xs q=>by erw[aG<|bo q c,q]
 tY:=λb f q=>#[#[],by rw[aG<|bo q c,q];simp]
theorem Un.write(d:RI<|H x)(j:e=x\/H e=some (.own x))(k:∀b u,b≠e->h.get? b=some u->h'.get? b=some u)(l:∃u,h'.get? e=some u):Un fs ex H (upd H x o) h h':=by
 let f:∀b,H b=none->b≠x:=λb n z=>by subst z;rwa[n]at d
 let g:∀b,H b=none->b≠e:=λb n z=>by subst z;ext(r|r:j);exact f b n r;rw[n]at r;cases r
 let c:∀b u,H b=some u->¬RI (some u)->b≠x:=λb u q nm z=>by subst z;rw[q]at d;exact nm d
 refine#[λb u q n _ _=>k b u (g b n) q,λb u q n _ _=>#[u.slots,k b u (g b n) q],λb u q n _=>by erw[aG<|f b n,n],λb u q _=>?_,
  λb xs q=>by erw[aG<|c b _ q λz=>z,q],λb u xs q=>by erw[aG<|c b _ q λz=>z,q],λb m q=>#[#[],by rw[aG<|c b _ q λz=>z,q];simp]]
 by_cases i:b=e;subst i;exact l;exact#[u,k b u i q]
end
noncomputable def RW(h:Heap)(H:Hp):bp:=(List.range h.x).filter λa=>(H a).isSome
noncomputable def xK(h:Heap)(H:Hp):Heap:=PySem.W.hideAll h<|RW h H
theorem EL(h:Heap)(H:Hp):(xK h H).x=h.x:=PySem.W.hideAll_size _ _
theorem HQ(e:h.get? b=some o)(n:H b=none):(xK h H).get? b=some o:=
 PySem.W.hideAll_get _ e λa=>by let q:=(zdJ.mp a).2;rw[n]at q;simp at q
theorem Ke(e:(xK h H).get? b=some o):h.get? b=some o/\H b=none:=by
 let a:=PySem.W.of_hideAll (RW h H) e;refine#[a,?_];cases q:H b with
 | none=>rfl
 | some x=>
  let c:b∈RW h H:=zdJ.mpr #[zaU.mpr<|zan a,by simp[q]];let z:(xK h H).get? b=none:=PySem.W.hideAll_none (RW h H) c;rw[z]at e;cases e
noncomputable def K9(g h:Heap)(L:Addr):b6:=(List.range h.x).filterMap λa=>if a=L\/(g.get? a).isSome=true then none else(h.get? a).map λo=>(a,o)
noncomputable def rest(g h:Heap)(L d:Addr):b6:=(K9 g h L).filter λp=>decide<|p.1≠d
structure Mod(K:zcT)(mg:bx)(base:Heap):Prop where
 Qr:K.In base
 glob:base.Ns mainGlobals mg
 blt:∃mb,base.Ns builtinsNs mb/\∀x:Str,x≠ "__name__"->mb x=bootBuiltins x
 nolimit:base.NoLimit
structure Cx where
 prog:Program
 w:World
 K:zcT
 mg:Str->Option Value
 base:Heap
 A:Around
 N:List Str
 s₀:Shared
 H₀:Hp
 env:Env
 outer:List Env
 stack:List Env
 ex:bp
 fn:Str->Bool
 calm:Bool
 pn:b6
 xe:Value->Shared->Prop
noncomputable def lJ(l:List Env):bp:=l.filterMap (·.frame)
abbrev Cx.fs(X:Cx):bp:=lJ X.outer
noncomputable def SO(a:Scope)(x:Str):Prop:=a.names.lookup x=some .local\/a.names.lookup x=some .cell\/a.names.lookup x=some .free
noncomputable def Loc(a:Scope)(x:Str):Prop:=a.names.lookup x=some .local\/a.names.lookup x=some .cell
noncomputable def Look(env:Env)(h:Heap)(m:bx)(x:Str)(u:Value):Prop:=
 (env.kindOf x=some .local/\m x=some u)\/((env.kindOf x=some .cell\/env.kindOf x=some .free)/\∃c,env.cells.lookup x=some c/\h.IsCell c (some u))
structure Cx.Ok(X:Cx):Prop where
 mod:Mod X.K X.mg X.base
 kind:X.env.scope.kind=.function
 glob:X.env.globals=mainGlobals
 blt:X.env.builtins=builtinsNs
 above:X.s₀.y<=X.env.locals
 inj:∀x y c,X.env.cells.lookup x=some c->X.env.cells.lookup y=some c->x=y
 has:∀x,(X.env.kindOf x=some .cell\/X.env.kindOf x=some .free)->∃c,X.env.cells.lookup x=some c
 O7:∀x c,X.fn x=true->X.env.cells.lookup x=some c->X.s₀.y<=c
 hd:X.calm=true->X.A.handled=none
 frames:X.A.frames=some X.stack
 wd:X.stack=X.outer\/(X.stack=X.env::X.outer/\X.env.frame=some X.env.locals)
 UQ:∀b∈X.ex,b≠X.env.locals/\∀x c,X.env.cells.lookup x=some c->c≠b
 bs:∀b o,X.base.get? b=some o->X.s₀.heap.get? b=some o/\X.H₀ b=none
 Mm:X.base.x<=X.s₀.y
 Es:∀b o,X.base.get? b=some o->b∉X.ex
 Ic:∀b∈X.ex,b∉X.fs
 o5:X.s₀.heap.FunFrames X.base X.outer
 Ob:∀b∈X.fs,X.H₀ b=none
structure Inv(X:Cx)(pins:b6)(σ:List<|Option V)(H:Hp)(s:Shared):Prop where
 ok:X.Ok
 os:s.os=X.s₀.os
 bare:AllBare s.gens
 base:Un X.fs X.ex X.H₀ H X.s₀.heap s.heap
 loc:∃m,s.heap.Ns X.env.locals m/\∀(i:Nat) (x:Str) (v:V),X.N[i]?=some x->σ[i]?=some (some v)->SO X.env.scope x->∃u,RelV v u/\Look X.env s.heap m x u
 cell:∀x c,X.env.cells.lookup x=some c->∃v,s.heap.IsCell c v
 free:H X.env.locals=none
 iA:∀x c,X.env.cells.lookup x=some c->H c=none
 pin:∀p∈X.pn++pins,s.heap.get? p.1=some p.2/\H p.1=none/\p.1≠X.env.locals/\p.1∉X.fs/\∀v,p.2.data≠.cell v
 bW:lE X.prog X.w H s.heap
 len:σ.z=X.N.z
section
variable {X:Cx} {pins:b6} {σ:List (Option V)} {H H':Hp} {s:Shared} {h':Heap}
theorem Cx.Ok.Ts(a:X.Ok)(e:X.base.get? b=some o):b∉X.fs:=λc=>by let:=(a.o5.mem c).1;rw[e]at this;cases this
theorem Inv.bs(I:Inv X pins σ H s):∀b o,X.base.get? b=some o->s.heap.get? b=some o/\H b=none:=λb o e=>
 #[I.base.keep b o (I.ok.bs b o e).1 (I.ok.bs b o e).2 (I.ok.Ts e)<|I.ok.Es b o e,I.base.free b o (I.ok.bs b o e).1 (I.ok.bs b o e).2<|I.ok.Es b o e]
theorem Inv.bk(I:Inv X pins σ H s):∀b o,X.base.get? b=some o->s.heap.get? b=some o:=λb o e=>(I.bs b o e).1
theorem Inv.mod(I:Inv X pins σ H s):Mod X.K X.mg X.base:=I.ok.mod
theorem Inv.vB(I:Inv X pins σ H s):X.K.In s.heap:=I.ok.mod.Qr.keeps I.bk
theorem Inv.lt(I:Inv X pins σ H s):X.env.locals<s.y:=let ⟨_,hn,_⟩:=I.loc;hn.lt
theorem Inv.sz(I:Inv X pins σ H s):X.s₀.y<=s.y:=zaI I.ok.above<|zcJ I.lt
theorem Inv.Tr(I:Inv X pins σ H s){a:Addr}(h:s.y<=a):a∉X.fs:=λb=>by let#[_,o,c,_]:=I.ok.o5.mem b;exact absurd (zaG (zan c)<|zaI I.sz h)<|zbf _
theorem Inv.Ow(I:Inv X pins σ H s):∀x c,X.env.cells.lookup x=some c->c≠X.env.locals:=λx c e z=>by let#[v,o,a,b]:=I.cell x c e;let#[m,#[h,g,i,d,f,_],_]:=I.loc;rw[z,d]at a;cases a;rw[f]at b;cases b
theorem Inv.o5(I:Inv X pins σ H s):s.heap.FunFrames X.base X.outer:=by
 let all:∀(l:List Env),(∀b∈lJ l,b∈X.fs)->X.s₀.heap.FunFrames X.base l->s.heap.FunFrames X.base l:=by
  ext l;induction l with
  | nil=>intro _ _;trivial
  | cons env r m=>
   ext f i;let#[k,#[L,o,d,j,g,n],h]:=i;let c:=f L (by unfold lJ;erw[zdU,d,zal]);let#[p,e]:=I.base.slot L o g (I.ok.Ob L c) c λz=>I.ok.Ic L z c;exact#[k,#[L,_,d,j,e,n],m (λb a=>f b<|by unfold lJ;erw[zdU,d,zag _ a]) h]
 exact all X.outer (λ_ a=>a) I.ok.o5
theorem Inv.stack(I:Inv X pins σ H s):s.heap.FunFrames X.base X.stack:=by ext(e|⟨e,b⟩:I.ok.wd);rw[e];exact I.o5;rw[e];let#[m,a,_]:=I.loc;refine .cons (by rw[I.ok.kind];decide) b a ?_ I.o5;exact Heap.get?_none_of_le<|zaI I.ok.Mm I.ok.above
theorem Inv.mh(I:Inv X pins σ H s):∀b∈lJ X.stack,b∈X.env.locals::X.fs:=λb a=>by ext(e|⟨e,c⟩:I.ok.wd);rw[e]at a;exact zag _ a;rw[e]at a;unfold lJ at a;rwa[zdU,c]at a
theorem Inv.vZ(I:Inv X pins σ H s):∀b∈lJ X.stack,H b=none:=λb a=>by ext(e|a:zas.mp<|I.mh b a);rw[e];exact I.free;let#[_,o,c,_]:=I.ok.o5.mem a;exact I.base.free b o c (I.ok.Ob b a) λz=>I.ok.Ic b z a
theorem Inv.step{F:Array GenState}{t':Nat}{S:Drawn}{ch:bp}(I:Inv X pins σ H s)(t:∀b∈ch,(b∈X.ex\/X.s₀.y<=b)/\b≠X.env.locals/\(∀x c,X.env.cells.lookup x=some c->c≠b)/\∀p∈X.pn++pins,p.1≠b)(keep:∀b o,b≠X.env.locals->b∉X.fs->b∉ch->s.heap.get? b=some o->H b=none->h'.get? b=some o)(slot:∀b o,b≠X.env.locals->b∈X.fs->b∉ch->s.heap.get? b=some o->H b=none->∃D,h'.get? b=some { o with slots:=D })(free:∀b o,b∉ch->s.heap.get? b=some o->H b=none->H' b=none)(there:∀b o,b∉ch->s.heap.get? b=some o->∃A,h'.get? b=some A)(tX:∀b xs,H b=some (.tup xs)->H' b=some (.tup xs))(tm:∀b o u,H b=some (.lA o u)->H' b=some (.lA o u))(tY:∀b C,H b=some (.Lr C)->∃more,H' b=some (.Lr<|C++more))(ns:∀m,s.heap.Ns X.env.locals m->h'.Ns X.env.locals m)(W:lE X.prog X.w H' h')(P:AllBare F) :
  Inv X pins σ H' { s with heap:=h',gens:=F,drawn:=S,toks:=t' }:=by
 let K:∀b o,X.s₀.heap.get? b=some o->b≠X.env.locals:=λb o e=>zaW<|zaG (zan e) I.ok.above;let B:∀b o,X.s₀.heap.get? b=some o->b∉X.ex->b∉ch:=λb o e a g=>by ext(z|z:(t b g).1);exact a z;exact absurd (zaG (zan e) z)<|zbf _
 let cellK:∀x c,X.env.cells.lookup x=some c->∀v,s.heap.IsCell c v->h'.IsCell c v:=λx c e v ⟨o,h,E⟩=>by let j:c∉ch:=λz=>(t c z).2.2.1 x c e rfl;by_cases M:c∈X.fs;let#[D,q]:=slot c o (I.Ow x c e) M j h<|I.iA x c e;exact#[_,q,E];exact#[o,keep c o (I.Ow x c e) M j h<|I.iA x c e,E]
 refine#[I.ok,I.os,P,#[λb o e n g a=>?_,λb o e n g a=>?_,λb o e n a=>?_,λb o e a=>?_,λb xs e=>tX b xs<|I.base.tX b xs e,λb o xs e=>tm b o xs<|I.base.tm b o xs e,λb C e=>?_],?_,λx c e=>?_,?_,λx c e=>?_,λp L=>?_,W,I.len];exact keep b o (K b o e) g (B b o e a) (I.base.keep b o e n g a)<|I.base.free b o e n a;let#[D,f]:=I.base.slot b o e n g a;let#[Y,y]:=slot b _ (K b o e) g (B b o e a) f<|I.base.free b o e n a;exact#[Y,y];let#[A,f]:=I.base.there b o e a;exact free b A (B b o e a) f<|I.base.free b o e n a;let#[A,f]:=I.base.there b o e a;exact there b A (B b o e a) f;let#[T,f]:=I.base.tY b C e;let#[R,y]:=tY b _ f;exact#[T++R,by rw[y,Array.append_assoc]];let#[m,U,Q]:=I.loc;refine#[m,ns m U,λi x v f y O=>?_];let#[u,r,l]:=Q i x v f y O;refine#[u,r,?_];ext(l|⟨k,c,e,z⟩:l);exact .inl l;exact .inr #[k,c,e,cellK x c e _ z];let#[v,z]:=I.cell x c e;exact#[v,cellK x c e v z];let#[m,#[o,_,_,h,_],_]:=I.loc;exact free _ o (λz=>(t _ z).2.1 rfl) h I.free;let#[v,o,h,E]:=I.cell x c e;exact free c o (λz=>(t c z).2.2.1 x c e rfl) h<|I.iA x c e;let#[e,n,G,N,d]:=I.pin p L;let j:p.1∉ch:=λz=>(t p.1 z).2.2.2 p L rfl;exact#[keep p.1 p.2 G N j e n,free p.1 p.2 j e n,G,N,d]
theorem Inv.un(I:Inv X pins σ H s)(u:Un X.fs [] H H' s.heap h')(i:lE X.prog X.w H' h'):Inv X pins σ H' { s with heap:=h',toks:=t' }:=by let#[m,#[o,l,p,d,r],_]:=id I.loc;let#[q,j]:=u.any d I.free A?;exact I.step (ch:=[]) (λ_ z=>nomatch z) (λb o _ a _ e n=>u.keep b o e n a A?) (λb o _ a _ e n=>u.slot b o e n a A?) (λb o _ e n=>u.free b o e n A?) (λb o _ e=>u.there b o e A?) u.tX u.tm u.tY (λv f=>by let#[t,h,k,c,g]:=f;rw[d]at c;cases c;exact#[_,h,k,j,g]) i I.bare
theorem Inv.call(I:Inv X pins σ H s)(u:Un (lJ X.stack) ch H H' s.heap h')(t:lE X.prog X.w H' h')(q:AllBare g')(h:∀b∈ch,(b∈X.ex\/X.s₀.y<=b)/\b≠X.env.locals/\(∀x c,X.env.cells.lookup x=some c->c≠b)/\∀p∈X.pn++pins,p.1≠b) :
  Inv X pins σ H' { s with heap:=h',gens:=g',drawn:=d',toks:=t' }:=by
 let#[m,#[o,y,A,g,r],_]:=id I.loc;let#[B,d]:=u.any g I.free λz=>(h _ z).2.1 rfl;exact I.step h (λb o d i a e n=>u.keep b o e n (λz=>(zas.mp<|I.mh b z).elim d i) a) (λb o _ _ a e n=>u.any e n a) (λb o a e n=>u.free b o e n a) (λb o a e=>u.there b o e a) u.tX u.tm u.tY (λD j=>by let#[C,l,v,f,k]:=j;rw[g]at f;cases f;exact#[_,l,v,d,k]) t q
theorem Inv.turned(I:Inv X pins σ H s)(k:∀b o,b≠it->s.heap.get? b=some o->h'.get? b=some o)(w:H it=none)(f:it≠X.env.locals)(g:it∈X.ex\/X.s₀.y<=it)(y:∀x c,X.env.cells.lookup x=some c->c≠it)(A:∀p∈X.pn++pins,p.1≠it):Inv X pins σ H { s with heap:=h',toks:=t' }:=by
 let d:∀b u,H b=some u->b≠it:=λb u e z=>by rw[z,w]at e;cases e
 refine I.step (ch:=[it]) (λb i=>?_) (λb o _ _ a e _=>k b o (λz=>a<|by simp[z]) e) (λb o _ _ a e _=>#[o.slots,k b o (λz=>a<|by simp[z]) e]) (λ_ _ _ _ n=>n)
  (λb o a e=>#[o,k b o (λz=>a<|by simp[z]) e]) (λ_ _ e=>e) (λ_ _ _ e=>e) (λb B e=>#[#[],by rw[e];simp]) (λm l=>?_) (λb u e=>?_) I.bare
 let e:b=it:=by simpa using i
 subst e;exact#[g,f,y,A];let#[o,h,t,j,r]:=l;exact#[o,h,t,k _ o (zaZ f) j,r];refine(I.bW b u e).jW (λc v a q=>k c v ?_ q) (λ_ q=>q) λ_ _ q=>q;ext(z|z:a);rw[z];exact d b u e;exact d c _ z
theorem Inv.tok(I:Inv X pins σ H s)(t:Nat):Inv X pins σ H { s with toks:=t }:=I.un Un.refl I.bW
theorem Inv.kept(I:Inv X pins σ H s)(k:∀b u,s.heap.get? b=some u->h'.get? b=some u):Inv X pins σ H { s with heap:=h',toks:=t' }:=I.un (Un.kept k)<|I.bW.kept k
theorem Inv.laid{a:Addr}{o:HO}{t':Nat}(I:Inv X pins σ H s)(k:∀b u,s.heap.get? b=some u->h'.get? b=some u)(d:s.y<=a)(c:bM X.prog X.w (upd H a o) h' a o) :
  Inv X pins σ (upd H a o) { s with heap:=h',toks:=t' }:=I.un (Un.laid k d<|I.bW.fresh d)<|I.bW.laid k d c
theorem Inv.write(I:Inv X pins σ H s)(f:RI<|H x)(c:e=x\/H e=some (.own x))(k:∀b u,b≠e->s.heap.get? b=some u->h'.get? b=some u)(d:∃u,h'.get? e=some u)(a:bM X.prog X.w (upd H x o) h' x o):Inv X pins σ (upd H x o) { s with heap:=h',toks:=t' }:=I.un (Un.write f c k d)<|I.bW.write f c k d a
theorem Inv.qy(I:Inv X pins σ H s)(h:∀p∈LK,s.heap.get? p.1=some p.2/\H p.1=none/\p.1≠X.env.locals/\p.1∉X.fs/\∀v,p.2.data≠.cell v):Inv X LK σ H s:=
 #[I.ok,I.os,I.bare,I.base,I.loc,I.cell,I.free,I.iA,λp a=>(zam.mp a).elim (λz=>I.pin p<|zaJ _ z)<|h p,I.bW,I.len]
theorem zN{N:List Str}(e:N.Nodup){i j:Nat}{x:Str}(a:N[i]?=some x)(b:N[j]?=some x):i=j:=by let#[f,d]:=zac.mp a;let#[g,c]:=zac.mp b;exact(zcq e).mp<|d.trans c.symm
theorem uZ(I:Inv X pins σ H s)(hN:X.N.Nodup)(K:X.N[i]?=some x)(t:Loc X.env.scope x)(r:RelV v u)(h:∀S,Inv X pins (σ.set i<|some v) H S->(∃a,Heap.SameBut a s.heap S.heap/\(a=X.env.locals\/X.env.cells.lookup x=some a))->Q Unit.unit S)(hf:X.fn x=true\/X.env.scope.names.lookup x=some .local:=by first|exact .inl rfl|exact .inr rfl|assumption):wpAny M A (storeName X.env x u) Q E s:=by
 let#[m,hn,hl]:=id I.loc;let UB:(X.env.scope.kind==.class || (X.env.scope.kind==.module&&X.env.locals != X.env.globals))=false:=by rw[I.ok.kind];rfl
 let D:i<σ.z:=by erw[I.len,(zac.mp K).1]
 let Z:=I.Ow;let tracked:∀{a:Addr} {h':Heap},(∃o,s.heap.get? a=some o/\H a=none)->Heap.SameBut a s.heap h'->lE X.prog X.w H h':=λ{a h'} ha f b ob e=>by let#[_,_,Dx]:=ha;refine(I.bW b ob e).jW (λc P l q=>(f.2 c ?_).trans q) (λ_ q=>q) λ_ _ q=>q;ext rfl;ext(rfl|l:l);rw[Dx]at e;cases e;rw[Dx]at l;cases l
 ext(C|C:t);refine wpAny_storeName_local C hn (λh' Sl f=>?_) UB;let#[oL,_,_,Zl,_]:=id hn;refine h _ #[I.ok,I.os,I.bare,#[λb o e n F t=>?_,λb o e n F t=>?_,I.base.free,λb o e t=>?_,I.base.tX,I.base.tm,I.base.tY],#[_,Sl,λj y Y g B T=>?_],λy c e=>?_,I.free,I.iA,λp hp=>?_,tracked #[oL,Zl,I.free] f,by simpa using I.len] #[_,f,.inl rfl];exact(f.2 b<|zaW<|zaG (zan e) I.ok.above).trans<|I.base.keep b o e n F t;let#[W,g]:=I.base.slot b o e n F t;exact#[W,(f.2 b<|zaW<|zaG (zan e) I.ok.above).trans g];let#[o',g]:=I.base.there b o e t;exact#[o',(f.2 b<|zaW<|zaG (zan e) I.ok.above).trans g];by_cases G:j=i;subst G;rw[K]at g;cases g;rw[getElem?_set_self D]at B;cases B;exact#[u,r,.inl #[C,by simp]];rw[zdK<|zaZ G]at B;let#[u',U,q]:=hl j y Y g B T;refine#[u',U,?_];ext(⟨k,e⟩|⟨k,c,e,z⟩:q);refine .inl #[k,?_];let:y≠x:=λe=>G<|zN hN g<|e▸K;simp[this,e];exact .inr #[k,c,e,z.sameBut f<|Z y c e];let#[P,z]:=I.cell y c e;exact#[P,z.sameBut f<|Z y c e];let#[e,n,O,nf,d]:=I.pin p hp;exact#[(f.2 p.1 O).trans e,n,O,nf,d];let R:X.fn x=true:=by ext(z|z:hf);exact z;rw[z]at C;cases C
 let#[c,l]:=I.ok.has x<|.inl C;let#[P,z]:=I.cell x c l;refine wpAny_storeName_cell I.ok.kind C l z<|λh' nR f=>?_;let#[oc,WE,Ua]:=id z;refine h { s with heap:=h' } #[I.ok,I.os,I.bare,#[λb o e n F t=>?_,λb o e n F t=>?_,I.base.free,λb o e t=>?_,I.base.tX,I.base.tm,I.base.tY],#[m,hn.sameBut f<|zaZ<|Z x c l,λj y Y g B T=>?_],λy L e=>?_,I.free,I.iA,λp hp=>?_,tracked #[oc,WE,I.iA x c l] f,by simpa using I.len] #[c,f,.inr l];exact(f.2 b<|zaW<|zaG (zan e)<|I.ok.O7 x c R l).trans<|I.base.keep b o e n F t;let#[W,g]:=I.base.slot b o e n F t;exact#[W,(f.2 b<|zaW<|zaG (zan e)<|I.ok.O7 x c R l).trans g];let#[o',g]:=I.base.there b o e t;exact#[o',(f.2 b<|zaW<|zaG (zan e)<|I.ok.O7 x c R l).trans g];by_cases G:j=i;subst G;rw[K]at g;cases g;rw[getElem?_set_self D]at B;cases B;exact#[u,r,.inr #[.inl C,c,l,nR]];rw[zdK<|zaZ G]at B;let#[u',U,q]:=hl j y Y g B T;refine#[u',U,?_];ext(q|⟨k,L,e,z'⟩:q);exact .inl q;refine .inr #[k,L,e,z'.sameBut f ?_];ext rfl;exact G<|zN hN g<|I.ok.inj _ _ _ e l▸K;by_cases QW:L=c;subst QW;exact#[_,nR];let#[w2,z2]:=I.cell y L e;exact#[w2,z2.sameBut f QW];let#[e,n,O,nf,d]:=I.pin p hp;refine#[(f.2 p.1 ?_).trans e,n,O,nf,d];ext q;rw[q,WE]at e;let q':=zaq e;exact d P (by erw[<-q',Ua])
theorem rj(I:Inv X pins σ H s)(e:X.N.Nodup)(f:X.N[i]?=some x)(b:Loc X.env.scope x)(r:RelV v u)(h:∀a,Inv X pins (σ.set i<|some v) H a->Q Unit.unit a)(d:X.fn x=true\/X.env.scope.names.lookup x=some .local:=by first|exact .inl rfl|exact .inr rfl|assumption):wpAny M A (storeName X.env x u) Q E s:=
 uZ I e f b r (λa c _=>h a c) d
theorem Inv.Mk(I:Inv X pins σ H s)(f:s'.os=s.os)(u:Un (lJ X.stack) ch H H' s.heap s'.heap)(d:lE X.prog X.w H' s'.heap)(a:AllBare s'.gens)(g:∀b∈ch,(b∈X.ex\/X.s₀.y<=b)/\b≠X.env.locals/\(∀x c,X.env.cells.lookup x=some c->c≠b)/\∀p∈X.pn++pins,p.1≠b):Inv X pins σ H' s':=by let#[h',h,i,t',j]:=s';let e:=f;subst e;exact I.call u d a g
end
abbrev XK:=Value->Option Addr->Hp->Prop
abbrev St:=List<|Option V
abbrev VK:=V->Hp->Prop
abbrev TE:=St->Hp->VK->Prop
abbrev TT:=St->Hp->(Bool->Hp->Prop)->Prop
abbrev TA:=St->Hp->(List V->Hp->Prop)->Prop
structure Ends where
 nx:St->Hp->Prop
 rt:VK
 bk:St->Hp->Prop:=λ_ _=>False
 ct:St->Hp->Prop:=λ_ _=>False
abbrev TS:=Ends->St->Hp->Prop
noncomputable def EP(X:Cx)(pins:b6)(b:St)(Q:VK)(u:Value)(c:Shared):Prop:=∃v a,Inv X pins b a c/\RelV v u/\Q v a
noncomputable def TP(X:Cx)(pins:b6)(c:St)(Q:Bool->Hp->Prop)(b:Bool)(d:Shared):Prop:=∃a,Inv X pins c a d/\Q b a
noncomputable def AP(X:Cx)(pins:b6)(b:St)(Q:List V->Hp->Prop)(d:bf)(c:Shared):Prop:=∃vs a,Inv X pins b a c/\Vals vs d/\Q vs a
noncomputable def SP(X:Cx)(pins:b6)(D:Ends)(f:Flow)(c:Shared):Prop:=
 match f with
 | .next=>∃a b,Inv X pins a b c/\D.nx a b
 | .brk=>∃a b,Inv X pins a b c/\D.bk a b
 | .cont=>∃a b,Inv X pins a b c/\D.ct a b
 | .ret u=>∃v a b,Inv X pins a b c/\RelV v u/\D.rt v b
noncomputable def PE(X:Cx)(e:Expr)(t:TE):Prop:=
 ∀(pins:b6) (s:Shared) (a:St) (H:Hp) (Q:VK),Inv X pins a H s->t a H Q->wpAny (model X.prog X.w) X.A (eval e X.env) (EP X pins a Q) X.xe s
noncomputable def PT(X:Cx)(e:Expr)(t:TT):Prop:=
 ∀(pins:b6) (s:Shared) (a:St) (H:Hp) (Q:Bool->Hp->Prop),Inv X pins a H s->t a H Q->wpAny (model X.prog X.w) X.A (isTrue e X.env<|eval e X.env) (TP X pins a Q) X.xe s
noncomputable def PW(X:Cx)(e:Expr)(t:TT):Prop:=
 ∀(whole:Sem Value) (pins:b6) (s:Shared) (a:St) (H:Hp) (Q:Bool->Hp->Prop),Inv X pins a H s->t a H Q->wpAny (model X.prog X.w) X.A (isTrue e X.env whole) (TP X pins a Q) X.xe s
theorem PW.pt(h:PW X e t):PT X e t:=h _
noncomputable def PA(X:Cx)(c:List Expr)(t:TA):Prop:=
 ∀(a:Pos) (pins:b6) (s:Shared) (b:St) (H:Hp) (Q:List V->Hp->Prop),Inv X pins b H s->t b H Q->wpAny (model X.prog X.w) X.A (spliced<|backTo a<|starEach c X.env) (AP X pins b Q) X.xe s
noncomputable def PS(X:Cx)(st:Stmt)(t:TS):Prop:=
 ∀(pins:b6) (s:Shared) (a:St) (H:Hp) (D:Ends),Inv X pins a H s->t D a H->wpAny (model X.prog X.w) X.A (exec st X.env) (SP X pins D) X.xe s
noncomputable def AL(X:Cx)(st:List Stmt)(t:TS):Prop:=
 ∀(pins:b6) (s:Shared) (σ:St) (H:Hp) (D:Ends),Inv X pins σ H s->t D σ H->wpAny (model X.prog X.w) X.A (execs st X.env) (SP X pins D) X.xe s
theorem dM{b:Type}{t:Sem b}{Q Q' : b->Shared->Prop}{M:Model}{A:Around}{s:Shared}(h:wpAny M A t Q E s)(c:∀a s,Q a s->Q' a s):wpAny M A t Q' E s:=zbn h c λ_ _ x=>x
section
variable {X:Cx}
theorem bin{a b:Expr}{m k:TE}(p:PE X a m)(n:PE X b k){pins:b6}{s:Shared}{d:St}{H:Hp}{R:V->V->Hp->Prop}(I:Inv X pins d H s)(h:m d H λx j=>k d j λy c=>R x y c){l:Type}{Q:l->Shared->Prop}{f:Value->Value->Sem l}(z:∀v u i x y c,Inv X pins d c i->RelV x v->RelV y u->R x y c->wpAny (model X.prog X.w) X.A (f v u) Q X.xe i) :
  wpAny (model X.prog X.w) X.A (eval a X.env) (λv e=>wpAny (model X.prog X.w) X.A (eval b X.env) (λu g=>wpAny (model X.prog X.w) X.A (f v u) Q X.xe g) X.xe e) X.xe s:=by
 refine dM (p pins s d H _ I h) λv D ⟨x,j,q,t,o⟩=>?_;refine dM (n pins D d j _ q o) λu i ⟨y,c,C,r,B⟩=>?_;exact z v u i x y c C t r B
noncomputable def eX(i:Nat):TE:=λa H Q=>∃v,a[i]?=some (some v)/\Q v H
noncomputable def tC(v:V):TE:=λ_ H Q=>Q v H
theorem M1{i:Nat}{x:Str}{d:Pos}(w:X.N[i]?=some x)(n:SO X.env.scope x)(f:(x==("__debug__":Str))=false:=by decide)(t:(x==("__classdict__":Str))=false:=by decide):PE X (.Name x d)<|eX i:=by ext pins s o H Q I h;let#[v,e,h]:=h;let#[m,q,p]:=I.loc;let#[u,r,l]:=p i x v w e n;let a:EP X pins o Q u s:=#[v,H,I,r,h];ext(⟨b,k⟩|⟨b,c,j,g⟩:l);exact wpAny_Name (wpAny_loadName_local I.ok.kind b q k a) f;ext(b|b:b);exact wpAny_Name (wpAny_loadName_cell I.ok.kind b j g a) f;exact wpAny_Name (wpAny_loadName_free I.ok.kind b j g a t) f
theorem aj{i j pos}:PE X (.Constant (.int i) j pos)<|tC<|.int i:=λ_ _ _ H _ I h=>wpAny_Constant_int #[.int i,H,I.tok _,#[_,rfl],h]
theorem vk{b j pos}:PE X (.Constant (.bool b) j pos)<|tC<|.bl b:=λ_ _ _ H _ I h=>Constant_bool #[.bl b,H,I,rfl,h]
theorem GV{x j pos}:PE X (.Constant (.str x) j pos)<|tC<|.str x:=λ_ _ _ H _ I h=>Calls.Constant_str #[.str x,H,I.tok _,#[_,rfl],h]
noncomputable def Gl(X:Cx)(x:Str):Prop:=X.env.kindOf x=some .globalImplicit
theorem qH{s:Shared}{e:St}{x:Str}{a:Pos}(I:Inv X pins e H s)(b:Gl X x)(c:X.mg x=some u)(h:Q u s)(d:(x==("__debug__":Str))=false:=by decide):wpAny (model X.prog X.w) X.A (eval (.Name x a) X.env) Q E s:=
 Calls.Name_function_global I.ok.kind b (Calls.loadGlobal_global (by erw[I.ok.glob,I.mod.glob.keeps I.bk]) c h) d
theorem eJ{E:bz}{pins:b6}{s:Shared}{e:St}{H:Hp}{x:Str}{u:Value}{a:Pos}{Q:bz}(I:Inv X pins e H s)(f:Gl X x)(c:X.mg x=none)(d:bootBuiltins x=some u)(h:Q u s)(g:x≠ "__name__":=by decide)(j:(x==("__debug__":Str))=false:=by decide):wpAny (model X.prog X.w) X.A (eval (.Name x a) X.env) Q E s:=by let#[k,b,i]:=I.mod.blt;exact Calls.Name_function_global I.ok.kind f (Calls.loadGlobal_builtin (by erw[I.ok.glob,I.mod.glob.keeps I.bk]) c (by erw[I.ok.blt,b.keeps I.bk]) ((i x g).trans d) h) j
theorem C3{x:Str}{a:Pos}(b:Gl X x)(d:X.mg x=none)(e:bootBuiltins x=some u)(r:RelV v u)(c:x≠ "__name__":=by decide)(f:(x==("__debug__":Str))=false:=by decide):PE X (.Name x a)<|tC v:=
 λ_ _ _ H _ I h=>eJ I b d e #[v,H,I,r,h] c f
variable {a b:Expr} {ta tb:TE} {pos:Pos}
noncomputable def PC(X:Cx)(op:CmpOp)(a b:Expr)(t:TE):Prop:=
 ∀(pins:b6) (s:Shared) (e:St) (H:Hp) (Q:VK),Inv X pins e H s->t e H Q->
  wpAny (model X.prog X.w) X.A (eval a X.env) (λv d=>wpAny (model X.prog X.w) X.A (eval b X.env) (λu c=>wpAny (model X.prog X.w) X.A (compareOp op v u) (EP X pins e Q) X.xe c) X.xe d) X.xe s
theorem He(b:Expr)(h:op≠.In)(e:op≠.NotIn):behindInMarks op b=false:=by
 let d:(op==CmpOp.In)=false:=by cases op<;>first|rfl|exact absurd rfl h
 let c:(op==CmpOp.NotIn)=false:=by cases op<;>first|rfl|exact absurd rfl e
 cases b<;>simp[behindInMarks,d,c]
noncomputable def tB(t:TE):TT:=λd H Q=>t d H λx e=>∃c,x=.bl c/\Q c e
theorem GL(h:PC X op a b t)(e:behindInMarks op b=false:=by first|exact He _ B! B! | rfl):PT X (.Compare a [op] [b] pos)<|tB t:=by ext pins s g H Q I j;refine wpAny_isTrue_Compare1 (dM (h pins s g H _ I j) λv p e=>dM e λu n k=>dM k λc o ⟨x,l,i,m,f⟩=>?_) e;let#[d,rfl,q]:=f;cases m;exact zci #[l,i,q]
theorem MX(h:PE X e t)(c:∀whole,isTrue e X.env whole=(do let v <-whole;standAt e.pos;holding [v] (truthy v)):=by ext _;rfl):PT X e<|tB t:=by ext pins s g H Q I j;refine isTrue_plain (dM (h pins s g H _ I j) λv m ⟨x,k,i,l,f⟩=>?_)<|c _;let#[d,rfl,q]:=f;cases l;exact zci #[k,i,q]
variable {tA RX:TT} {rest:List Expr}
noncomputable def Pt(t u:TT):TT:=λd H Q=>t d H λc e=>if c=true then u d e Q else Q false e
noncomputable def VH(t u:TT):TT:=λd H Q=>t d H λc e=>if c=true then Q true e else u d e Q
noncomputable def Pm(t:TT):TT:=λd H Q=>t d H λc e=>Q (!c) e
theorem pw_and1(d:PT X a tA):PW X (.BoolOp .And [a] pos) tA:=by
 ext i pins s f H Q I h;refine isTrue_and<|dM (d pins s f H Q I h) λc g e=>?_;cases c with
 | true=>exact isTrue_and_nil e
 | false=>exact e
theorem pw_or1(d:PT X a tA):PW X (.BoolOp .Or [a] pos) tA:=by
 ext i pins s f H Q I h;refine isTrue_or<|dM (d pins s f H Q I h) λc g e=>?_;cases c with
 | false=>exact isTrue_or_nil e
 | true=>exact e
theorem pw_and(k:PT X a tA)(i:PW X (.BoolOp .And (b::rest) pos) RX):PW X (.BoolOp .And (a::b::rest) pos)<|Pt tA RX:=by
 ext l pins s e H Q I h;refine isTrue_and<|dM (k pins s e H _ I h) λc j ⟨f,g,d⟩=>?_;cases c with
 | true=>exact i l pins j e f Q g d
 | false=>exact#[f,g,d]
theorem pw_or(k:PT X a tA)(i:PW X (.BoolOp .Or (b::rest) pos) RX):PW X (.BoolOp .Or (a::b::rest) pos)<|VH tA RX:=by
 ext l pins s e H Q I h;refine isTrue_or<|dM (k pins s e H _ I h) λc j ⟨f,g,d⟩=>?_;cases c with
 | true=>exact#[f,g,d]
 | false=>exact i l pins j e f Q g d
theorem MY(d:PT X a tA):PT X (.UnaryOp .Not a pos)<|Pm tA:=by ext pins s e H Q I h;exact isTrue_not<|d pins s e H (λc f=>Q (!c) f) I h
noncomputable def Lx(ta tb:TE):TE:=λd H Q=>ta d H λx e=>∃c,x=.bl c/\if c=true then tb d e Q else Q (.bl false) e
noncomputable def Pk(ta tb:TE):TE:=λd H Q=>ta d H λx e=>∃c,x=.bl c/\if c=true then Q (.bl true) e else tb d e Q
noncomputable def Ls(ta:TE):TE:=λd H Q=>ta d H λx e=>∃c,x=.bl c/\Q (.bl<|!c) e
theorem GW{op}(h:PE X a t):PE X (.BoolOp op [a] pos) t:=λpins s c H Q I d=>BoolOp_one<|h pins s c H Q I d
theorem M4(ha:PE X a ta)(hb:PE X (.BoolOp .And (b::rest) pos) tb):PE X (.BoolOp .And (a::b::rest) pos) (Lx ta tb):=by
 intro pins s σ H Q I h;refine BoolOp_and (dM (ha pins s σ H _ I h) λv s1 ⟨x,H1,I1,r1,q1⟩=>?_);obtain⟨c,rfl,q1⟩:=q1;cases r1
 refine zci ?_;cases c with
 | true=>exact hb pins s1 σ H1 Q I1 q1
 | false=>exact⟨.bl false,H1,I1,rfl,q1⟩
theorem P5(ha:PE X a ta)(hb:PE X (.BoolOp .Or (b::rest) pos) tb):PE X (.BoolOp .Or (a::b::rest) pos) (Pk ta tb):=by
 intro pins s σ H Q I h;refine BoolOp_or (dM (ha pins s σ H _ I h) λv s1 ⟨x,H1,I1,r1,q1⟩=>?_);obtain⟨c,rfl,q1⟩:=q1;cases r1
 refine zci ?_;cases c with
 | false=>exact hb pins s1 σ H1 Q I1 q1
 | true=>exact⟨.bl true,H1,I1,rfl,q1⟩
theorem GX(ha:PE X a ta):PE X (.UnaryOp .Not a pos) (Ls ta):=by
 intro pins s σ H Q I h;refine UnaryOp_ (dM (ha pins s σ H _ I h) λv s1 ⟨x,H1,I1,r1,q1⟩=>?_);obtain⟨c,rfl,q1⟩:=q1;cases r1
 exact not_of (zci ⟨.bl (!c),H1,I1,rfl,q1⟩)
end
noncomputable def aK(K:zcT)(H:Hp)(a:Addr)(xs:List V):Prop:=
 Rd H a (.lst xs)\/
  ∃(o:Obj) (b:Array Value) (n:Nat),K.lookup a=some o/\o.cls=.type "list"/\o.dict=none/\o.data=.seq b n/\b.size<=sizeLine/\Vals xs b.toList
noncomputable def SqT(K:zcT)(H:Hp)(a:Addr)(xs:List V):Prop:=
 Rd H a (.tup xs)\/
  ∃(o:Obj) (b:Array Value) (n:Nat),K.lookup a=some o/\o.cls=.type "tuple"/\o.data=.seq b n/\b.size<=sizeLine/\Vals xs b.toList
noncomputable def Vk:Value->Option V
 | .none=>some .gW
 | .bool b=>some<|.bl b
 | .int i _=>i.f
 | .str x _=>some<|.str x
 | .bytes b _=>some<|.Fb b
 | .float b _=>some<|.Ji b
 | .ref a=>a.e
 | .type n=>some<|.ty n
 | _=>none
theorem RelV.abs(r:RelV x u):Vk u=some x:=by
 cases x with
 | gW=>cases r;rfl
 | bl _=>cases r;rfl
 | int _=>obtain⟨t,rfl⟩:=r;rfl
 | str _=>obtain⟨t,rfl⟩:=r;rfl
 | Fb _=>obtain⟨t,rfl⟩:=r;rfl
 | Ji _=>obtain⟨t,rfl⟩:=r;rfl
 | ref _=>cases r;rfl
 | ty _=>cases r;rfl
theorem RelV.inj(r:RelV x u)(q:RelV y u):x=y:=zaq<|r.abs.symm.trans q.abs
theorem Vals.inj:∀{xs ys:List V} {a:bf},Vals xs a->Vals ys a->xs=ys
 | _,_,_,.nil,.nil=>rfl
 | _,_,_,.cons r t,.cons r' t'=>by rw[r.inj r',Vals.inj t t']
section
variable {X:Cx} {pins:b6} {σ:St} {H:Hp} {s:Shared} {a:Addr} {xs ys:List V}
theorem aK.of{K:zcT}(h:H a=some (.lst xs)):aK K H a xs:=.inl<|.inl h
theorem SqT.of{K:zcT}(h:H a=some (.tup xs)):SqT K H a xs:=.inl<|.inl h
theorem Inv.list(I:Inv X pins σ H s)(h:aK X.K H a xs):∃b:bf,Vals xs b/\PlainL s.heap a b.toArray/\xs.z<=sizeLine:=by ext(h|⟨o,b,n,f,c,g,d,i,r⟩:h);let#[z,b,n,r,e]:=h.ok I.bW;exact#[b,r,#[_,n,e,rfl,rfl,rfl],z];refine#[b.toList,r,#[o,n,I.vB a o f,c,g,by simpa using d],?_];let e:=r.z;simp[zbu]at e;lia
theorem Inv.tuple(I:Inv X pins σ H s)(h:SqT X.K H a xs):∃b:bf,Vals xs b/\IsTup s.heap a b.toArray/\xs.z<=sizeLine:=by ext(h|⟨o,b,n,f,c,d,g,r⟩:h);let#[z,b,r,p]:=h.ok I.bW;exact#[b,r,p,z];refine#[b.toList,r,#[o,I.vB a o f,c,n,by simpa using d],?_];let e:=r.z;simp[zbu]at e;lia
theorem Inv.nM(I:Inv X pins σ H s)(h:aK X.K H a xs)(h':aK X.K H a ys):xs=ys:=by
 let#[f,r,#[o,n,e,_,_,d],_]:=I.list h;let#[its',g,#[k,j,c,_,_,b],_]:=I.list h';rw[e]at c;cases c;rw[d]at b;injection b with i _;let:f=its':=by simpa using zaA Array.toList i
 subst this;exact r.inj g
end
abbrev Cx.qS(X:Cx)(E:bz):Cx:={ X with xe:=E }
abbrev Cx.Kf(X:Cx):Cx:=X.qS λ_ _=>False
theorem Cx.Ok.qS{X:Cx}(a:X.Ok)(E:bz):(X.qS E).Ok:=
 #[a.mod,a.kind,a.glob,a.blt,a.above,a.inj,a.has,a.O7,a.hd,a.frames,a.wd,a.UQ,a.bs,a.Mm,a.Es,a.Ic,a.o5,a.Ob]
theorem Cx.Ok.jr{X:Cx}{E:bz}(a:(X.qS E).Ok):X.Ok:=
 #[a.mod,a.kind,a.glob,a.blt,a.above,a.inj,a.has,a.O7,a.hd,a.frames,a.wd,a.UQ,a.bs,a.Mm,a.Es,a.Ic,a.o5,a.Ob]
section
variable {X:Cx} {pins:b6} {σ:St} {H:Hp} {s:Shared} {E:bz}
theorem Inv.qS(I:Inv X pins σ H s)(E:bz):Inv (X.qS E) pins σ H s:=#[I.ok.qS E,I.os,I.bare,I.base,I.loc,I.cell,I.free,I.iA,I.pin,I.bW,I.len]
theorem Inv.jr(I:Inv (X.qS E) pins σ H s):Inv X pins σ H s:=#[I.ok.jr,I.os,I.bare,I.base,I.loc,I.cell,I.free,I.iA,I.pin,I.bW,I.len]
theorem SP.jr(h:SP (X.qS E) pins D f s'):SP X pins D f s':=by
 cases f with
 | next=>obtain⟨a,b,I,q⟩:=h;exact#[a,b,I.jr,q]
 | brk=>obtain⟨a,b,I,q⟩:=h;exact#[a,b,I.jr,q]
 | cont=>obtain⟨a,b,I,q⟩:=h;exact#[a,b,I.jr,q]
 | ret u=>obtain⟨v,a,b,I,r,q⟩:=h;exact#[v,a,b,I.jr,r,q]
theorem AL.Kf{st:List Stmt}{t:TS}(h:AL X.Kf st t):AL X st t:=λpins s σ H D I a=>
 zbn (h pins s σ H D (I.qS _) a) (λ_ _ q=>q.jr) λ_ _ z=>False.elim z
end
section
variable {X:Cx} {st:Stmt} {rest:List Stmt} {t u:TS} {e:Expr} {te:TE} {pos:Pos}
noncomputable def Lu:TS:=λD a H=>D.nx a H
noncomputable def Mz(t u:TS):TS:=λD a H=>t { D with nx:=u D } a H
theorem bA:AL X [] Lu:=λ_ _ a H _ I h=>zdm #[a,H,I,h]
theorem ae(b:PS X st t)(i:AL X rest u):AL X (st::rest)<|Mz t u:=by
 ext pins s j H D I h;refine wpAny_execs_cons<|dM (b pins s j H { D with nx:=u D } I h) λf d q=>?_;cases f with
 | next=>
  let#[a,g,c,q]:=q;exact i pins d a g D c q
 | ret v=>exact q
 | brk=>exact q
 | cont=>exact q
theorem ao(a:PS X st t):AL X [st] t:=by
 ext pins s b H D I h;refine wpAny_execs_cons<|dM (a pins s b H D I h) λf c q=>?_;cases f with
 | next=>exact zdm q
 | ret v=>exact q
 | brk=>exact q
 | cont=>exact q
theorem Inv.quiet{a:St}{s:Shared}(I:Inv X pins a H s):interactive X.env=false:=by simp[interactive,I.ok.kind]
noncomputable def Lv(te:TE):TS:=λD a H=>te a H λ_ b=>D.nx a b
theorem eQ(d:PE X e te)(b:swapsWith e none pos.line X.env=pure false:=by rfl):PS X (.Expr e pos)<|Lv te:=by ext pins s a H D I h;exact wpAny_Expr_any (dM (d pins s a H _ I h) λv i ⟨x,f,g,j,c⟩=>#[a,f,g,c]) I.quiet b
noncomputable def MA(te:TE):TS:=λD a H=>te a H D.rt
theorem aU(c:PE X e te):PS X (.Return (some e) pos)<|MA te:=by ext pins s a H D I h;exact wpAny_Return_some<|dM (c pins s a H _ I h) λv i ⟨x,d,f,g,b⟩=>#[x,a,d,f,g,b]
noncomputable def Pn(c:TT)(t u:TS):TS:=λD a H=>c a H λb d=>if b=true then t D a d else u D a d
theorem cN(hc:PT X c tc)(ha:AL X a t)(hb:AL X b u):PS X (.If c a b pos)<|Pn tc t u:=by
 ext pins s σ H D I h;refine wpAny_If<|dM (hc pins s σ H _ I h) λd s1 ⟨H1,I1,q1⟩=>?_;cases d with
 | true=>exact ha pins s1 σ H1 D I1 q1
 | false=>exact hb pins s1 σ H1 D I1 q1
noncomputable def MB:TS:=λ_ _ _=>False
theorem GN:PS X st MB:=λ_ _ _ _ _ _ h=>h.elim
end
abbrev TG:=V->St->Hp->(St->Hp->Prop)->Prop
abbrev Jl:=List V->St->Hp->(St->Hp->Prop)->Prop
noncomputable def PG(X:Cx)(target:Expr)(t:TG):Prop:=
 ∀(pins:b6) (s:Shared) (c:St) (H:Hp) (v:V) (u:Value) (Q:St->Hp->Prop),Inv X pins c H s->RelV v u->t v c H Q->
  wpAny (model X.prog X.w) X.A (assign target X.env u) (λ_ d=>∃a b,Inv X pins a b d/\Q a b) X.xe s
noncomputable def RF(X:Cx)(e:List Expr)(t:Jl):Prop:=
 ∀(pins:b6) (s:Shared) (d:St) (H:Hp) (vs:List V) (c:bf) (Q:St->Hp->Prop),Inv X pins d H s->Vals vs c->t vs d H Q->
  wpAny (model X.prog X.w) X.A (assignInOrder ((assignEach e X.env).map (·.2)) c) (λ_ f=>∃a b,Inv X pins a b f/\Q a b) X.xe s
abbrev Lc:=V->V->V->Hp->(Hp->Prop)->Prop
noncomputable def RE(X:Cx)(t:Lc):Prop:=
 ∀(pins:b6) (s:Shared) (c:St) (H:Hp) (o i v:V) (d a u:Value) (Q:Hp->Prop),Inv X pins c H s->RelV o d->RelV i a->RelV v u->t o i v H Q->
  wpAny (model X.prog X.w) X.A (setItem d a u) (λ_ e=>∃b,Inv X pins c b e/\Q b) X.xe s
section
variable {X:Cx} {pos:Pos}
noncomputable def jU(i:Nat):TG:=λv a H Q=>Q (a.set i<|some v) H
theorem aC(hN:X.N.Nodup)(hi:X.N[i]?=some x)(hx:Loc X.env.scope x)(hf:X.fn x=true\/X.env.scope.names.lookup x=some .local:=by first|exact .inl rfl|exact .inr rfl|assumption):PG X (.Name x pos)<|jU i:=by ext pins s σ H v u Q I r h;exact wpAny_assign_Name<|rj I hN hi hx r (λs' I'=>#[_,H,I',h]) hf
noncomputable def N9:Jl:=λvs a H Q=>vs=[]/\Q a H
noncomputable def DB(t:TG)(u:Jl):Jl:=λvs c H Q=>∃v r,vs=v::r/\t v c H λa b=>u r a b Q
theorem fh:RF X [] N9:=by ext pins s a H vs b Q I r h;let#[e,h]:=h;subst e;cases r;exact assignInOrder_nil #[a,H,I,h]
theorem bC(h1:PG X e t)(h2:RF X es u)(hs:(assignEach (e::es) X.env).map (·.2)=assign e X.env::(assignEach es X.env).map (·.2):=by rfl):RF X (e::es)<|DB t u:=by
 ext pins s σ H vs us Q I r h;let#[v,vr,e1,h]:=h;subst e1;cases r with
 | cons r rr=>
  rw[hs];refine assignInOrder_cons<|dM (h1 pins s σ H _ _ _ I r h) λ_ s1 ⟨σ1,H1,I1,q1⟩=>?_;exact h2 pins s1 σ1 H1 _ _ Q I1 rr q1
noncomputable def KN(K:zcT)(n:Nat)(t:Jl):TG:=λv b H Q=>∃a xs,v=.ref a/\SqT K H a xs/\xs.z=n/\t xs b H Q
theorem kE{k:Nat}{n:Nat}(hc:X.calm=true)(h:RF X es t)(hn:(assignEach es X.env).z=n:=by rfl)(NN:(assignEach es X.env).findIdx? (·.1)=none:=by rfl):PG X (.Tuple es k pos)<|KN X.K n t:=by ext pins s σ H v u Q I r hw;let#[a,xs,e1,hq,hl,hw]:=hw;subst e1;cases r;let#[aX,rv,ht,hz]:=I.tuple hq;refine assign_Tuple_tuple (I.ok.hd hc) ht (by simp[hn,<-hl,rv.z]) NN λh' hx=>?_;let I1:Inv X pins σ H { s with heap:=h' }:=I.kept λb o e=>hx b o (zaW<|zan e) e;exact h pins _ σ H xs _ Q I1 (by simpa using rv) hw
noncomputable def Q7(f b:TE)(t:Lc):TG:=λv a H Q=>f a H λo d=>b a d λi e=>t o i v e λc=>Q a c
theorem h9(g:PE X o to)(p:PE X i ti)(d:RE X t)(n:∀v,assign (.Subscript o i pos) X.env v=(do
   let a <-holding [v] (eval o X.env);let b <-holding [v,a] (eval i X.env)
   standAt pos
   holding [v,a,b] (setItem a b v)
   release [v,a,b] []):=by ext _;rfl):PG X (.Subscript o i pos)<|Q7 to ti t:=by
 ext pins s c H v u Q I r h;rw[n];refine zae<|zbW<|dM (g pins s c H _ I h) λa z ⟨x,B,l,C,f⟩=>?_;refine zae<|zbW<|dM (p pins z c B _ l f) λb k ⟨y,D,q,w,m⟩=>?_;refine zae<|wpAny_standAt<|zae<|zbW<|dM (d pins k c D x y v a b u _ q C w r m) λ_ E ⟨A,e,j⟩=>?_;exact wpAny_release #[c,A,e,j]
noncomputable def FT(c:TE)(g:TG):TS:=λD a H=>c a H λx b=>g x a b D.nx
theorem fV(d:PE X e te)(k:PG X tg g)(c:swapsWithSole [tg] e pos.line X.env=pure false:=by rfl)(j:swappedStores [tg] e X.env=pure none:=by rfl)(b:(assignEach [tg] X.env).map (·.2)=[assign tg X.env]:=by rfl):PS X (.Assign [tg] e pos)<|FT te g:=by ext pins s a H D I h;refine wpAny_Assign_stores (dM (d pins s a H _ I h) λv l ⟨x,m,i,n,f⟩=>?_) c j;erw[b,dM (k pins l a m x v _ i n f) λ_ o q=>q]
theorem aw(o:X.N.Nodup)(j:X.N[i]?=some x)(a:Loc X.env.scope x)(c:PE X e te)(b:swapsWith e (some<|.Name x pos') pos.line X.env=pure false:=by rfl)(l:X.fn x=true\/X.env.scope.names.lookup x=some .local:=by first|exact .inl rfl|exact .inr rfl|assumption) :
  PS X (.Assign [.Name x pos'] e pos) (FT te<|jU i):=by
 ext pins s f H D I h;refine wpAny_Assign_Name (dM (c pins s f H _ I h) λv q ⟨y,m,g,n,d⟩=>?_) b;exact rj g o j a n (λp k=>#[_,m,k,d]) l
end
noncomputable def FK(c:TT)(h:TS):TS:=λD a H=>∃W:Nat->St->Hp->Prop,(∃m,W m a H)/\∀m a H,W m a H->
 c a H λb f=>if b=true then ∃N:St->Hp->Prop,(∀d e,N d e->∃g,g<m/\W g d e)/\h { D with nx:=N,ct:=N,bk:=D.nx } a f else D.nx a f
theorem i7(r:PassesOwn (model X.prog X.w) X.A X.env X.xe)(G:PT X c tc)(y:AL X body tb):PS X (.While c body [] pos)<|FK tc tb:=by
 ext pins s F H D I h;let#[W,#[K,M],turn]:=h;refine wpAny_While<|codeAny_whileLoop (λn E=>∃e u,Inv X pins e u E/\W n e u) ?_ K #[F,H,I,M];ext n L ⟨d,x,B,C⟩;refine zcX r<|dM (G pins L d x _ B<|turn n d x C) λb z ⟨p,t,j⟩=>?_;cases b with
 | true=>
  let#[N,q,j]:=j;rw[zad rfl];refine zcX r<|dM (y pins z d p _ t j) λf O i=>?_;cases f with
  | next=>
   let#[a,g,m,n3]:=i;let#[o,k,l]:=q a g n3;exact#[o,k,a,g,m,l]
  | cont=>
   let#[a,g,m,n3]:=i;let#[o,k,l]:=q a g n3;exact#[o,k,a,g,m,l]
  | brk=>exact i
  | ret v=>exact i
 | false=>
  erw[zab zaC,zdm #[d,p,t,j]]
structure It where
 go:Nat->Hp->Prop
 A6:Nat->Hp->V->Hp->Prop
 stop:Nat->Hp->Prop
noncomputable def qh(X:Cx)(pins:b6)(H:Hp)(b:Addr):Prop:=
 H b=none/\b≠X.env.locals/\b∉X.fs/\(b∈X.ex\/X.s₀.y<=b)/\(∀x c,X.env.cells.lookup x=some c->c≠b)/\∀p∈X.pn++pins,p.1≠b
theorem Inv.xV{X:Cx}{pins:b6}{g:St}{H d:Hp}{s:Shared}{b:Addr}(I:Inv X pins g H s)(a:s.y<=b)(f:d b=none):qh X pins d b:=by refine#[f,zbM<|zaG I.lt a,I.Tr a,.inr<|zaI I.sz a,λx c e z=>?_,λp h z=>?_];let#[v,q]:=I.cell x c e;exact absurd (zaG q.lt<|by erw[z,a])<|zbf _;exact absurd (zaG (zan (I.pin p h).1)<|by erw[z,a])<|zbf _
structure Turn(P:Program)(w:World)(K:zcT)(tg:Expr)(J:It)(fp:bp)(it:Addr)(tn:Nat->Heap->Prop):Prop where
 mem:it∈fp
 obj:∀i h,tn i h->∀b∈fp,∃o,h.get? b=some o/\∀v,o.data≠.cell v
 keep:∀i h h',tn i h->(∀b∈fp,∀o,h.get? b=some o->h'.get? b=some o)->tn i h'
 item:∀(X:Cx),X.prog=P->X.w=w->X.K=K->X.calm=true->∀(i:Nat) (pins:b6) (s:Shared) (σ:St) (H:Hp) (E:bz),Inv X pins σ H s->(∀b∈fp,qh X pins H b)->tn i s.heap->J.go i H->
  wpAny (model P w) X.A (pyNext<|.ref it) (λr s1=>∃u,r=some u/\
   wpAny (model P w) X.A (letOwnedTupleGo tg (.ref it) u) (λ_ s2=>∃x H',Inv X pins σ H' s2/\RelV x u/\J.A6 i H x H'/\tn (i+1) s2.heap/\∀b∈fp,H' b=none) E s1) E s
 done:∀(X:Cx),X.prog=P->X.w=w->X.K=K->X.calm=true->∀(i:Nat) (pins:b6) (s:Shared) (σ:St) (H:Hp) (E:bz),Inv X pins σ H s->(∀b∈fp,qh X pins H b)->tn i s.heap->J.stop i H->
  wpAny (model P w) X.A (pyNext<|.ref it) (λr s1=>r=none/\Inv X pins σ H s1) E s
 self:∀(A:Around) (i:Nat) (s:Shared) (Q:bz) (E:bz),tn i s.heap->Q (.ref it) s->wpAny (model P w) A (pyIter<|.ref it) Q E s
abbrev TI:=St->Hp->(It->Hp->Prop)->Prop
noncomputable def Vp(X:Cx)(pins:b6)(f:St)(tg:Expr)(R:It->Hp->Prop)(g:Value)(d:Shared):Prop:=
 ∃(it:Addr) (c:bp) (e:Nat->Heap->Prop) (J:It) (a:Hp),g=.ref it/\Inv X pins f a d/\Turn X.prog X.w X.K tg J c it e/\e 0 d.heap/\(∀b∈c,qh X pins a b)/\R J a
noncomputable def PI(X:Cx)(tg iter:Expr)(c:TI):Prop:=
 ∀(pins:b6) (s:Shared) (a:St) (H:Hp) (R:It->Hp->Prop),Inv X pins a H s->c a H R->
  wpAny (model X.prog X.w) X.A (eval iter X.env) (λv b=>wpAny (model X.prog X.w) X.A (pyIter v) (Vp X pins a tg R) X.xe b) X.xe s
theorem DA(d:s.heap.get? it=some o)(b:o.cls=.type n)(e:o.data=.fields vs)(c:["enumerate", "zip", "dict_itemiterator", "dict_reverseitemiterator", "odict_iterator", "itertools.zip_longest", "itertools.pairwise"].contains n=false)(a:Q Unit.unit s):wpAny M A (letOwnedTupleGo tg (.ref it) u) Q E s:=by
 unfold letOwnedTupleGo;cases tg<;>first
  | exact zax a
  | (cases u<;>first
    | exact zax a
    | (
       refine zae<|wpAny_load d ?_;rw[b,e];show wpAny M A (if(["enumerate", "zip", "dict_itemiterator", "dict_reverseitemiterator", "odict_iterator", "itertools.zip_longest", "itertools.pairwise"].contains n&&vs[0]?==some (rawInt _))=true then _ else _) Q E s;erw[zab (by ext h;rw[c,Bool.false_and]at h;cases h),zax a]))
noncomputable def Fu(K:zcT)(a:Addr):It:=
 #[λi H=>∃xs x,aK K H a xs/\xs[i]?=some x,λi H x b=>b=H/\∀xs,aK K H a xs->xs[i]?=some x,λi H=>∃xs,aK K H a xs/\xs.z<=i]
noncomputable def Fc(lo:Int)(n:Nat):It:=#[λi _=>i<n,λi H x a=>a=H/\x=.int (lo+i),λi _=>n<=i]
theorem D9{P:Program}{w:World}{K:zcT}{tg:Expr}(a it:Addr):Turn P w K tg (Fu K a) [it] it (λi h=>h.IsListIter it a i) where
 mem:=by simp
 obj:=λi h st b f=>by
  let e:b=it:=by simpa using f
  subst e;let#[o,e,c,d]:=st;exact#[o,e,λv z=>by rw[d]at z;cases z]
 keep:=λi h h' st k=>st.at λo e=>k it A? o e
 item:=by ext X m l q G i pins s F H E I g st r;subst m l q;let#[xs,x,j,t]:=r;let#[T,A,p,Q]:=I.list j;let#[u,O,S]:=A.get t;let#[f0,C,U,n,y,B]:=g it A?;refine wpAny_pyNext_list_item st p.isList (by simpa using O) λh' D L=>?_;let M:Inv X pins F H { s with heap:=h' }:=I.turned (λb o f e=>(L.2 b f).trans e) f0 C n y B;let#[o,e,c,d]:=id D;exact#[u,rfl,DA e c d B! #[x,H,M,S,#[rfl,λys R=>by erw[I.nM R j,t]],D,λb f=>(g b f).1]]
 done:=by ext X m l q G i pins s F H E I g st r;subst m l q;let#[xs,j,t]:=r;let#[T,A,p,Q]:=I.list j;let#[f0,C,U,n,y,B]:=g it A?;let W:=A.z;exact wpAny_pyNext_list_end (I.ok.hd G) st p.isList (by simp;lia) λh' N=>#[rfl,I.turned (λb o f e=>N b o f e) f0 C n y B]
 self:=λ_ _ _ _ _ st h=>wpAny_pyIter_listiter st h
theorem A7{P:Program}{w:World}{K:zcT}{tg:Expr}(it:Addr)(lo:Int)(n:Nat):Turn P w K tg (Fc lo n) [it] it (λi h=>IsRangeIter h it (lo+(i:Nat)*1) ((n:Int)-(i:Nat)) 1) where
 mem:=by simp
 obj:=λi h st b a=>by
  let e:b=it:=by simpa using a
  subst e;exact#[_,st,λv z=>by let F:Data.fields _=Data.cell v:=z;cases F]
 keep:=λi h h' st k=>k it A? _ st
 item:=by ext X f d j p i pins s y H E I c st l;subst f d j;let#[f0,r,G,g,m,q]:=c it A?;let W:=Walks.range (prog:=X.prog) (w:=X.w) (I.ok.hd p) it lo 1 n;refine W.item i s _ _ l st λv h' x A u D=>?_;let#[t,rfl]:=A;let B:Inv X pins y H { s with heap:=h',toks:=x }:=I.turned (λb o a e=>D b o (by simpa using a) e) f0 r g m q;refine#[_,rfl,DA (s:={ s with heap:=h',toks:=x }) (n:= "range_iterator") u rfl rfl B! #[.int<|lo+i,H,B,#[t,?_],#[rfl,rfl],u,λb a=>(c b a).1]];rw[zdx]
 done:=by ext X f d j p i pins s y H E I c st l;subst f d j;let#[f0,r,G,g,m,q]:=c it A?;exact wpAny_pyNext_range_end (I.ok.hd p) st (by let:n<=i:=l;lia) λh' C=>#[rfl,I.turned (t':=s.toks) (λb o a e=>C b o a e) f0 r g m q]
 self:=λ_ _ _ _ _ st h=>zdV st h
section
variable {X:Cx} {tg:Expr}
noncomputable def Af(K:zcT)(c:TE):TI:=λd H R=>c d H λx b=>∃a,x=.ref a/\(∃xs,aK K b a xs)/\R (Fu K a) b
theorem bL(j:PE X l tl):PI X tg l<|Af X.K tl:=by
 ext pins s i H R I h;refine dM (j pins s i H _ I h) λv d ⟨x,k,c,m,g⟩=>?_;let#[a,e,#[xs,n],q]:=g;subst e;cases m;let#[t,r,p,u]:=c.list n;refine wpAny_pyIter_list p.isList ?_;refine#[d.y,[d.y],_,_,k,rfl,c.kept λb o e=>zav _ e,D9 a _,#[_,zaX _ rfl,rfl,rfl],λb f=>?_,q];let e:b=d.y:=by simpa using f
 subst e;exact c.xV (zai _)<|c.bW.fresh<|zai _
theorem zu{c:St}{s:Shared}{R:It->Hp->Prop}{lo a:Int}{t u v:Tok}{f:Nat}(I:Inv X pins c H s)(h1 : -(2 ^ 62)<=lo)(j:lo<2 ^ 62)(h3 : -(2 ^ 62)<=a)(k:a<2 ^ 62)(q:R (Fc lo (a-lo).toNat) H):wpAny (model X.prog X.w) X.A (pyIter<|.ref s.y) (Vp X pins c tg R) E { s with heap:=s.heap.push { cls:=.type "range",data:=.fields #[.int lo t,.int a u,.int 1 v,] },toks:=f }:=by
 refine wpAny_pyIter_range (IsRange.new ..) (small_one h1 j h3 k) ?_;let d:Inv X pins c H { s with heap:=s.heap.push { cls:=.type "range",data:=.fields #[.int lo t,.int a u,.int 1 v,] },toks:=f }:=I.kept λb o e=>zav _ e;refine#[(s.heap.push { cls:=.type "range",data:=.fields #[.int lo t,.int a u,.int 1 v,] }).x,[(s.heap.push { cls:=.type "range",data:=.fields #[.int lo t,.int a u,.int 1 v,] }).x],_,_,H,rfl,
  d.kept λb o e=>zav _ e,A7 _ lo (a-lo).toNat,?_,λb g=>?_,q]
 let h:lo+((0:Nat):Int)*1=lo:=by simp
 let i:(((a-lo).toNat:Nat):Int)-((0:Nat):Int)=Builtin.Range.rangeSize lo a 1:=by rw[rangeSize_one];split<;>lia
 rw[h,i];exact zaX _ rfl;let e:b=(s.heap.push { cls:=.type "range",data:=.fields #[.int lo t,.int a u,.int 1 v,] }).x:=by simpa using g
 subst e;exact d.xV (zai _)<|d.bW.fresh<|zai _
noncomputable def LP(c:TA):TI:=λa H R=>c a H λvs b=>∃j:Int,vs=[.int j]/\-(2 ^ 62)<=j/\j<2 ^ 62/\R (Fc 0 j.toNat) b
noncomputable def Qx(c:TA):TI:=λa H R=>c a H λvs b=>∃i j:Int,vs=[.int i,.int j]/\(-(2 ^ 62)<=i/\i<2 ^ 62/\-(2 ^ 62)<=j/\j<2 ^ 62)/\R (Fc i (j-i).toNat) b
theorem bw(hg:Gl X "range")(hm:X.mg "range"=none)(ha:PA X [a] ta)(hs:starEach [a] X.env=[(false,eval a X.env)]:=by rfl):PI X tg (.Call (.Name "range" p) [a] [] pos) (LP ta):=by
 intro pins s σ H R I h;refine Call_ (eJ I hg hm boot_range (zaP (dM (ha pos pins s σ H _ I h) λus s1 ⟨vs,H1,I1,r1,q1⟩=>?_) hs rfl));obtain⟨j,e,q1,q2,q⟩:=q1;subst e;cases r1 with
 | cons r rr=>
  cases rr
  obtain⟨t,rfl⟩:=r;exact call_range_1 (zu I1 (by lia) (by lia) q1 q2 (by simpa using q))
theorem oR{k:TA}{p c:Pos}(y:Gl X "range")(o:X.mg "range"=none)(u:PA X [a,b] k)(l:starEach [a,b] X.env=[(false,eval a X.env),(false,eval b X.env)]:=by rfl)(g:starEach [b] X.env=[(false,eval b X.env)]:=by rfl) :
  PI X tg (.Call (.Name "range" p) [a,b] [] c) (Qx k):=by
 ext pins s n H R I h;refine Call_ (eJ I y o boot_range<|zaP (dM (u c pins s n H _ I h) λB C ⟨vs,D,v,A,d⟩=>?_) (by rw[l,g])<|by rw[g];rfl);let#[i,j,e,#[d,w,m,z],q]:=d;subst e;cases A with
 | cons r f=>
  cases f with
  | cons x f=>
   cases f;let#[t,rfl]:=r;let#[t',rfl]:=x;exact call_range_2<|zu v d w m z q
noncomputable def Po(h:TI)(g:TG)(f:TS):TS:=λD a H=>h a H λJ k=>∃W:Nat->Nat->St->Hp->Prop,(∃m,W 0 m a k)/\∀i m a H,W i m a H->
 (J.stop i H/\D.nx a H)\/(J.go i H/\∃N:St->Hp->Prop,(∀b c,N b c->∃e,e<m/\W (i+1) e b c)/\∀x c,J.A6 i H x c->g x a c λd j=>f { D with nx:=N,ct:=N,bk:=D.nx } d j)
noncomputable def rZ(a:bp)(h:Heap):b6:=a.filterMap λb=>(h.get? b).map λo=>(b,o)
theorem jF(a:b∈fp)(e:h.get? b=some o):(b,o)∈rZ fp h:=zeK.mpr #[b,a,by rw[e];rfl]
theorem Er(c:p∈rZ fp h):p.1∈fp/\h.get? p.1=some p.2:=by
 let#[b,a,e]:=zeK.mp c;cases q:h.get? b with
 | none=>rw[q]at e;cases e
 | some o=>
  rw[q]at e;let d:=zaq e;subst d;exact#[a,q]
theorem Inv.pinned{f:St}{s:Shared}(I:Inv X pins f H s)(h:∀b∈fp,qh X pins H b)(g:∀b∈fp,∃o,s.heap.get? b=some o/\∀v,o.data≠.cell v):Inv X (pins++rZ fp s.heap) f H s:=
 I.qy λp j=>(zam.mp j).elim (λz=>I.pin p<|zaF _ z) λz=>by let#[a,e]:=Er z;let#[f0,k,i,_]:=h p.1 a;let#[o,c,d]:=g p.1 a;rw[e]at c;cases c;exact#[e,f0,k,i,d]
theorem Inv.mS{a:St}{s:Shared}(I:Inv X (pins++pl) a H s):Inv X pins a H s:=I.qy λp b=>I.pin p<|zaF _<|zaJ _ b
theorem bN{iter:Expr}{body:List Stmt}{wi:TI}{g:TG}{P:TS}{G:Pos}(B:PassesOwn (model X.prog X.w) X.A X.env X.xe)(hc:X.calm=true)(hi:PI X tg iter wi)(hg:PG X tg g)(l:AL X body P)(hs:∀x,foldedSetIterable iter X.env x=pure x:=by ext _;rfl):PS X (.For tg iter body [] G)<|Po wi g P:=by
 ext pins s U H D I h;refine wpAny_For (dM (hi pins s U H _ I h) λv s1 h1=>dM h1 λTQ s2 h2=>?_) hs;let#[it,y,tn,J,H2,e,I2,T,OJ,f2,W,#[m0,w0],turn]:=h2;subst e;let L:∀{q:Hp},(∀b∈y,q b=none)->∀b∈y,qh X pins q b:=λhn b l=>#[hn b l,(f2 b l).2];refine codeAny_forLoop_any (λn S=>∃i j q,Inv X pins j q S/\tn i S.heap/\(∀b∈y,q b=none)/\W i n j q) ?_ m0 #[0,U,H2,I2,OJ,λb l=>(f2 b l).1,w0];ext n Y ⟨i,p,C,I3,Q,Z,w3⟩;ext(⟨stop,qn⟩|⟨go,N,hN,step⟩:turn i n p C w3);refine zcX B<|dM (T.done X rfl rfl rfl hc i pins Y p C X.xe I3 (L Z) Q stop) λr s4 ⟨K,I4⟩=>?_;subst K;exact zdm #[p,C,I4,qn];refine zcX B<|dM (T.item X rfl rfl rfl hc i pins Y p C X.xe I3 (L Z) Q go) λr s4 ⟨u,K,h4⟩=>?_;subst K;refine zcX B<|dM h4 λ_ R ⟨x,H5,I5,r5,y5,F,Z2⟩=>?_;let M:=I5.pinned (L Z2)<|T.obj _ _ F;refine zcX B<|dM (hg _ R p H5 x u _ M r5<|step x H5 y5) λ_ s6 ⟨O,H6,I6,q6⟩=>?_;refine zcX B<|dM (l _ s6 O H6 _ I6 q6) λf E t=>?_;let again:∀{a:St} {k:Hp},Inv X (pins++rZ y R.heap) a k E->N a k->∃m,m<n/\∃i j q,Inv X pins j q E/\tn i E.heap/\(∀b∈y,q b=none)/\W i m j q:=λ{a k} c z=>by let#[m',hm,w7]:=hN a k z;refine#[m',hm,i+1,a,k,c.mS,T.keep _ _ _ F λb l o e=>(c.pin (b,o)<|zaF _<|zaF _<|jF l e).1,λb l=>?_,w7];let#[o,e,d]:=T.obj _ _ F b l;exact(c.pin (b,o)<|zaF _<|zaF _<|jF l e).2.1
 cases f with
 | next=>obtain⟨a,k,c,z⟩:=t;exact again c z
 | cont=>obtain⟨a,k,c,z⟩:=t;exact again c z
 | brk=>obtain⟨a,k,c,t⟩:=t;exact#[a,k,c.mS,t]
 | ret v=>obtain⟨x7,a,k,c,r7,t⟩:=t;exact#[x7,a,k,c.mS,r7,t]
end
theorem fe{K:zcT}{a:Addr}{xs:List V}{g:TG}{l:TS}{D:Ends}{b:St}{H:Hp}(c:Nat->St->Hp->Prop)(v:c 0 b H)(t:∀i b H,i<=xs.z->c i b H->aK K H a xs)(o:∀i x b H,xs[i]?=some x->c i b H->g x b H λd j=>l { D with nx:=c<|i+1,ct:=c<|i+1,bk:=D.nx } d j)(u:∀b H,c xs.z b H->D.nx b H) :
  ∃W:Nat->Nat->St->Hp->Prop,(∃m,W 0 m b H)/\∀i m b H,W i m b H->
   ((Fu K a).stop i H/\D.nx b H)\/((Fu K a).go i H/\∃N:St->Hp->Prop,(∀f h,N f h->∃n,n<m/\W (i+1) n f h)/\∀x h,(Fu K a).A6 i H x h->g x b h λd j=>l { D with nx:=N,ct:=N,bk:=D.nx } d j):=by
 refine#[λi m b H=>m=xs.z-i/\i<=xs.z/\c i b H,#[xs.z,by simp,zaS _,v],?_];ext i m b H ⟨rfl,r,p⟩;let q:=t i b H r p;by_cases k:i<xs.z;refine .inr #[#[xs,xs[i],q,by simp[k]],c<|i+1,λf h s=>#[xs.z-(i+1),(),rfl,k,s],λx h y=>?_];let#[e,y]:=y;subst e;exact o i x b _ (y xs q) p;let e:i=xs.z:=();subst e;exact .inl #[#[xs,q,zai _],u b H p]
theorem bY{lo:Int}{n:Nat}{g:TG}{k:TS}{D:Ends}{a:St}(d:Nat->St->Hp->Prop)(r:d 0 a H)(o:∀i a H,i<n->d i a H->g (.int<|lo+i) a H λb j=>k { D with nx:=d<|i+1,ct:=d<|i+1,bk:=D.nx } b j)(s:∀a H,d n a H->D.nx a H) :
  ∃W:Nat->Nat->St->Hp->Prop,(∃m,W 0 m a H)/\∀i m a H,W i m a H->
   ((Fc lo n).stop i H/\D.nx a H)\/((Fc lo n).go i H/\∃N:St->Hp->Prop,(∀c f,N c f->∃l,l<m/\W (i+1) l c f)/\∀x f,(Fc lo n).A6 i H x f->g x a f λb j=>k { D with nx:=N,ct:=N,bk:=D.nx } b j):=by
 refine#[λi m a H=>m=n-i/\i<=n/\d i a H,#[n,by simp,zaS _,r],?_];ext i m a H ⟨rfl,t,p⟩;by_cases h:i<n;refine .inr #[h,d<|i+1,λc f q=>#[n-(i+1),(),rfl,h,q],λx f y=>?_];let#[e,y]:=y;subst e y;exact o i a _ h p;let e:i=n:=();subst e;exact .inl #[zai _,s a H p]
abbrev R2:=V->V->Hp->VK->Prop
noncomputable def pE(X:Cx)(f:Value->Value->Sem Value)(r:R2):Prop:=
 ∀(pins:b6) (s:Shared) (a:St) (H:Hp) (x y:V) (v u:Value) (Q:VK),Inv X pins a H s->RelV x v->RelV y u->r x y H Q->
  wpAny (model X.prog X.w) X.A (f v u) (EP X pins a Q) X.xe s
noncomputable def Vn(X:Cx)(f:Value->Sem Value)(r:V->Hp->VK->Prop):Prop:=
 ∀(pins:b6) (s:Shared) (a:St) (H:Hp) (x:V) (v:Value) (Q:VK),Inv X pins a H s->RelV x v->r x H Q->
  wpAny (model X.prog X.w) X.A (f v) (EP X pins a Q) X.xe s
noncomputable def fJ(X:Cx)(f:Value)(r:List V->Hp->VK->Prop):Prop:=
 ∀(pins:b6) (s:Shared) (b:St) (H:Hp) (xs:List V) (a:bf) (Q:VK),Inv X pins b H s->Vals xs a->r xs H Q->
  wpAny (model X.prog X.w) X.A (call f a) (EP X pins b Q) X.xe s
noncomputable def Cm(r:R2)(e b:TE):TE:=λa H Q=>e a H λx c=>b a c λy d=>r x y d Q
noncomputable def SY(r:V->Hp->VK->Prop)(c:TE):TE:=λa H Q=>c a H λx b=>r x b Q
noncomputable def rI(C:Int->Int->Prop)(g:Int->Int->V):R2:=λx y H Q=>∃i j,x=.int i/\y=.int j/\C i j/\Q (g i j) H
noncomputable def Fm(g:Int->Int->V):R2:=λx y H Q=>∃i j,x=.int i/\y=.int j/\Q (g i j) H
noncomputable def rU(g:Int->V):V->Hp->VK->Prop:=λx H Q=>∃i,x=.int i/\Q (g i) H
theorem OA(m:PE X a ta)(k:PE X b tb){pins:b6}{s:Shared}{c:St}{H:Hp}{R:V->V->Hp->Prop}(I:Inv X pins c H s)(h:ta c H λx j=>tb c j λy d=>R x y d){Q:bz}{f:Value->Value->Sem Value}(t:∀v u i x y d,Inv X pins c d i->RelV x v->RelV y u->R x y d->wpAny (model X.prog X.w) X.A (f v u) Q X.xe i) :
  wpAny (model X.prog X.w) X.A (eval a X.env) (λv e=>wpAny (model X.prog X.w) X.A (eval b X.env) (λu g=>wpAny (model X.prog X.w) X.A (f v u) Q X.xe g) X.xe e) X.xe s:=by
 refine dM (m pins s c H _ I h) λv r ⟨x,j,n,z,l⟩=>?_;refine dM (k pins r c j _ n l) λu i ⟨y,d,p,q,o⟩=>?_;exact t v u i x y d p z q o
theorem aA(d:pE X (binaryOp op) r)(e:PE X a ta)(c:PE X b tb):PE X (.BinOp a op b pos)<|Cm r ta tb:=by ext pins s f H Q I h;exact wpAny_BinOp<|OA e c I h λv u g x y k j l i q=>d pins g f k x y v u Q j l i q
theorem zG(ho:Vn X (unaryOp op) r)(ha:PE X a ta):PE X (.UnaryOp op a pos)<|SY r ta:=by ext pins s σ H Q I h;exact UnaryOp_<|dM (ha pins s σ H _ I h) λv s1 ⟨x,H1,I1,r1,q1⟩=>ho pins s1 σ H1 x v Q I1 r1 q1
theorem P8{C:Int->Int->Prop}{g:Int->Int->Int}(rule:∀(i j:Int) (t u:Tok) (s:Shared) (Q:bz) (E:bz),C i j->Q (.int (g i j) s.toks) { s with toks:=s.toks+1 }->wpAny (model X.prog X.w) X.A (f (.int i t)<|.int j u) Q E s) :
  pE X f (rI C λi j=>.int<|g i j):=by
 ext pins s d H x y v u Q I c a h;let#[i,j,rfl,rfl,b,q]:=h;let#[t,rfl]:=c;let#[t',rfl]:=a;exact rule i j t t' s _ _ b #[.int<|g i j,H,I.tok _,#[_,rfl],q]
theorem P7{g:Int->Int->Int}(rule:∀(i j:Int) (t u:Tok) (s:Shared) (Q:bz) (E:bz),Q (.int (g i j) s.toks) { s with toks:=s.toks+1 }->wpAny (model X.prog X.w) X.A (f (.int i t)<|.int j u) Q E s) :
  pE X f (Fm λi j=>.int<|g i j):=by
 ext pins s c H x y v u Q I b a h;let#[i,j,rfl,rfl,q]:=h;let#[t,rfl]:=b;let#[t',rfl]:=a;exact rule i j t t' s _ _ #[.int<|g i j,H,I.tok _,#[_,rfl],q]
theorem P9{g:Int->Int->Bool}(rule:∀(i j:Int) (t u:Tok) (s:Shared) (Q:bz) (E:bz),Q (.bool<|g i j) s->wpAny (model X.prog X.w) X.A (f (.int i t)<|.int j u) Q E s) :
  pE X f (Fm λi j=>.bl<|g i j):=by
 ext pins s c H x y v u Q I b a h;let#[i,j,rfl,rfl,q]:=h;let#[t,rfl]:=b;let#[t',rfl]:=a;exact rule i j t t' s _ _ #[.bl<|g i j,H,I,rfl,q]
noncomputable def Vu(i j:Int):Prop:=0<=j/\j<=1000000/\i.natAbs<2 ^ 64
theorem bD:pE X (binaryOp .Add)<|Fm λi j=>.int<|i+j:=P7 λ_ _ _ _ _ _ _ q=>add_int q
theorem eF:pE X (binaryOp .Sub)<|Fm λi j=>.int<|i-j:=P7 λ_ _ _ _ _ _ _ q=>sub_int q
theorem bO:pE X (binaryOp .Mod)<|rI (λ_ j=>0<j) λi j=>.int<|i%j:=P8 λi j _ _ _ _ _ a q=>by let b:=a;exact mod_int' () (by erw[Int.fmod_eq_emod_of_nonneg i (),q])
theorem G0:pE X (binaryOp .Pow)<|rI Vu λi j=>.int<|i ^ j.toNat:=P8 λ_ _ _ _ _ _ _ a q=>pow_int_small a.1 a.2.1 a.2.2 q
theorem XM{g:Int->Int}(rule:∀(i:Int) (t:Tok) (s:Shared) (Q:bz) (E:bz),Q (.int (g i) s.toks) { s with toks:=s.toks+1 }->wpAny (model X.prog X.w) X.A (f<|.int i t) Q E s) :
  Vn X f (rU λi=>.int<|g i):=by
 ext pins s b H x v Q I a h;let#[i,rfl,q]:=h;let#[t,rfl]:=a;exact rule i t s _ _ #[.int<|g i,H,I.tok _,#[_,rfl],q]
theorem qW:Vn X (unaryOp .USub)<|rU λi=>.int<|-i:=XM λ_ _ _ _ _ q=>neg_int q
noncomputable def Px:V->V->Bool
 | .gW,.gW=>true | .gW,.int _=>true | .int _,.gW=>true | .gW,.bl _=>true | .bl _,.gW=>true | .gW,.str _=>true | .str _,.gW=>true
 | .int _,.int _=>true | .bl _,.bl _=>true | .str _,.str _=>true | .Fb _,.Fb _=>true
 | .int _,.str _=>true | .str _,.int _=>true | .bl _,.str _=>true | .str _,.bl _=>true
 | _,_=>false
noncomputable def Td:R2:=λx y H Q=>Px x y=true/\Q (.bl<|decide<|x=y) H
noncomputable def Tb:R2:=λx y H Q=>Px x y=true/\Q (.bl<|!decide (x=y)) H
theorem oh:decide (V.int i=V.int j)=(i==j):=by rw[zes];simp
theorem B3:decide (V.bl i=V.bl j)=(i==j):=by rw[zes];simp
theorem DR:decide (V.str i=V.str j)=(i==j):=by rw[zes];simp
theorem DS:decide (V.Fb i=V.Fb j)=(i.toList==j.toList):=by rw[zes];cases i;cases j;simp
theorem bK{a:St}{s:Shared}{k b:Bool}(I:Inv X pins a H s)(q:Q (.bl k) H)(e:k=b):EP X pins a Q (.bool b) s:=by subst e;exact#[.bl k,H,I,rfl,q]
theorem eG:pE X (compareOp .Eq) Td:=by
 ext pins s d H x y v u Q I c a h;let#[b,q]:=h;cases x with
 | gW=>
  cases c;cases y with
  | gW=>cases a;exact PySem.EqNone.eq_none_none<|bK I q A?
  | bl j=>cases a;exact PySem.EqNone.eq_none_bool<|bK I q A?
  | int j=>obtain⟨t',rfl⟩:=a;exact PySem.EqNone.eq_none_int<|bK I q A?
  | str j=>obtain⟨t',rfl⟩:=a;exact PySem.EqNone.eq_none_str<|bK I q A?
  | _=>exact absurd (show false=true from b) zaC
 | bl i=>
  cases c;cases y with
  | gW=>cases a;exact PySem.EqNone.eq_bool_none<|bK I q A?
  | bl j=>cases a;exact eq_bool<|bK I q B3
  | str j=>obtain⟨t',rfl⟩:=a;exact PySem.EqMixed.eq_bool_str<|bK I q A?
  | _=>exact absurd (show false=true from b) zaC
 | int i=>
  let#[t,rfl]:=c;cases y with
  | gW=>cases a;exact PySem.EqNone.eq_int_none<|bK I q A?
  | int j=>obtain⟨t',rfl⟩:=a;exact eq_int<|bK I q oh
  | str j=>obtain⟨t',rfl⟩:=a;exact PySem.EqMixed.eq_int_str<|bK I q A?
  | _=>exact absurd (show false=true from b) zaC
 | str i=>
  let#[t,rfl]:=c;cases y with
  | gW=>cases a;exact PySem.EqNone.eq_str_none<|bK I q A?
  | bl j=>cases a;exact PySem.EqMixed.eq_str_bool<|bK I q A?
  | int j=>obtain⟨t',rfl⟩:=a;exact PySem.EqMixed.eq_str_int<|bK I q A?
  | str j=>obtain⟨t',rfl⟩:=a;exact eq_str<|bK I q DR
  | _=>exact absurd (show false=true from b) zaC
 | Fb i=>
  let#[t,rfl]:=c;cases y with
  | Fb j=>obtain⟨t',rfl⟩:=a;exact PySem.W.eq_bytes<|bK I q DS
  | _=>exact absurd (show false=true from b) zaC
 | _=>cases y<;>exact absurd (show false=true from b) zaC
theorem jS:pE X (compareOp .NotEq) Tb:=by
 ext pins s d H x y v u Q I c a h;let#[b,q]:=h;cases x with
 | gW=>
  cases c;cases y with
  | gW=>cases a;exact PySem.EqNone.ne_none_none<|bK I q A?
  | bl j=>cases a;exact PySem.EqNone.ne_none_bool<|bK I q A?
  | int j=>obtain⟨t',rfl⟩:=a;exact PySem.EqNone.ne_none_int<|bK I q A?
  | str j=>obtain⟨t',rfl⟩:=a;exact PySem.EqNone.ne_none_str<|bK I q A?
  | _=>exact absurd (show false=true from b) zaC
 | bl i=>
  cases c;cases y with
  | gW=>cases a;exact PySem.EqNone.ne_bool_none<|bK I q A?
  | bl j=>cases a;exact ne_bool<|bK I q<|zaA not B3
  | str j=>obtain⟨t',rfl⟩:=a;exact PySem.EqMixed.ne_bool_str<|bK I q A?
  | _=>exact absurd (show false=true from b) zaC
 | int i=>
  let#[t,rfl]:=c;cases y with
  | gW=>cases a;exact PySem.EqNone.ne_int_none<|bK I q A?
  | int j=>obtain⟨t',rfl⟩:=a;exact ne_int<|bK I q<|zaA not oh
  | str j=>obtain⟨t',rfl⟩:=a;exact PySem.EqMixed.ne_int_str<|bK I q A?
  | _=>exact absurd (show false=true from b) zaC
 | str i=>
  let#[t,rfl]:=c;cases y with
  | gW=>cases a;exact PySem.EqNone.ne_str_none<|bK I q A?
  | bl j=>cases a;exact PySem.EqMixed.ne_str_bool<|bK I q A?
  | int j=>obtain⟨t',rfl⟩:=a;exact PySem.EqMixed.ne_str_int<|bK I q A?
  | str j=>obtain⟨t',rfl⟩:=a;exact ne_str<|bK I q<|zaA not DR
  | _=>exact absurd (show false=true from b) zaC
 | Fb i=>
  let#[t,rfl]:=c;cases y with
  | Fb j=>obtain⟨t',rfl⟩:=a;exact PySem.W.ne_bytes<|bK I q<|zaA not DS
  | _=>exact absurd (show false=true from b) zaC
 | _=>cases y<;>exact absurd (show false=true from b) zaC
theorem lV:pE X (compareOp .Lt)<|Fm λi j=>.bl<|decide<|i<j:=P9 λ_ _ _ _ _ _ _ q=>lt_int q
theorem C4:pE X (compareOp .Gt)<|Fm λi j=>.bl<|decide<|j<i:=P9 λ_ _ _ _ _ _ _ q=>gt_int q
theorem aV(b:Expr)(h:op≠.In:=by decide)(d:op≠.NotIn:=by decide):behindInMarks op b=false:=by
 let c:(op==CmpOp.In)=false:=by cases op<;>first|rfl|exact absurd rfl h
 let a:(op==CmpOp.NotIn)=false:=by cases op<;>first|rfl|exact absurd rfl d
 cases b<;>simp[behindInMarks,c,a]
theorem jB(d:pE X (compareOp op) r)(f:PE X a ta)(c:PE X b tb)(e:behindInMarks op b=false):PE X (.Compare a [op] [b] pos)<|Cm r ta tb:=by ext pins s g H Q I h;exact wpAny_Compare1 (OA f c I h λv u i x y l k m j q=>d pins i g l x y v u Q k m j q) e
noncomputable def FO(t:TE):TT:=λa H Q=>t a H λx b=>∃k,x=.bl k/\Q k b
theorem aQ(j:pE X (compareOp op) r)(t:PE X a ta)(g:PE X b tb)(l:behindInMarks op b=false):PT X (.Compare a [op] [b] pos)<|FO<|Cm r ta tb:=by
 ext pins s d H Q I h;refine wpAny_isTrue_Compare1 (dM (t pins s d H _ I h) λv B ⟨x,D,p,E,i⟩=>dM (g pins B d D _ p i) λu o ⟨y,F,w,A,q⟩=>
  dM (j pins o d F x y v u _ w E A q) λc G ⟨z,C,f,n,k,e,m⟩=>?_) l
 subst e;cases n;exact zci #[C,f,m]
theorem sI:(sizeLine:Nat)<2 ^ 63:=by rw[zcA];decide
theorem vals1(r:Vals [x] us):∃u,us=[u]/\RelV x u:=by
 cases r with
 | cons a b=>cases b;exact#[_,rfl,a]
theorem vals2(r:Vals [x,y] us):∃u a,us=[u,a]/\RelV x u/\RelV y a:=by
 cases r with
 | cons c d=>
  cases d with
  | cons b e=>cases e;exact#[_,_,rfl,c,b]
theorem AH:fJ X (.builtin "abs") (λxs H Q=>∃i,xs=[.int i]/\Q (.int<|if i<0 then -i else i) H):=by ext pins s c H xs b Q I r h;let#[i,rfl,q]:=h;let#[u,rfl,t,rfl]:=vals1 r;exact call_abs_int λu a=>#[.int (if i<0 then -i else i),H,I.tok _,#[_,rfl],q]
theorem vN(b:X.calm=true):fJ X (.builtin "max") (λxs H Q=>∃i j,xs=[.int i,.int j]/\Q (.int<|if j > i then j else i) H):=by ext pins s e H xs d Q I r h;let#[i,j,rfl,q]:=h;let#[u,f,rfl,#[t,rfl],#[t',rfl]]:=vals2 r;refine max_two_ints (I.ok.hd b) λh' c k=>#[_,H,I.kept k,?_,q];by_cases a:j > i;rw[zad a,zad a];exact#[_,rfl];erw[zab a,zab a,#[_,rfl]]
theorem pD(b:X.calm=true):fJ X (.builtin "min") (λxs H Q=>∃i j,xs=[.int i,.int j]/\Q (.int<|if j<i then j else i) H):=by ext pins s e H xs d Q I r h;let#[i,j,rfl,q]:=h;let#[u,f,rfl,#[t,rfl],#[t',rfl]]:=vals2 r;refine min_two_ints (I.ok.hd b) λh' c k=>#[_,H,I.kept k,?_,q];by_cases a:j<i;rw[zad a,zad a];exact#[_,rfl];erw[zab a,zab a,#[_,rfl]]
theorem E8:fJ X (.type "int") (λxs H Q=>(∃i,xs=[.int i]/\Q (.int i) H)\/∃k,xs=[.bl k]/\Q (.int<|if k then 1 else 0) H):=by ext pins s c H xs b Q I r h;ext(⟨i,rfl,q⟩|⟨k,rfl,q⟩:h);let#[u,rfl,t,rfl]:=vals1 r;exact call_int_int #[.int i,H,I,#[_,rfl],q];let#[u,rfl,a]:=vals1 r;cases a;exact call_int_bool #[.int (if k then 1 else 0),H,I.tok _,#[_,rfl],q]
noncomputable def RK(K:zcT)(x:V)(H:Hp)(n:Nat):Prop:=
 match x with
 | .str y=>y.z<=sizeLine/\n=y.z
 | .Fb y=>y.size<=sizeLine/\n=y.size
 | .ref p=>(∃xs,aK K H p xs/\n=xs.z)\/∃xs,SqT K H p xs/\n=xs.z
 | _=>False
theorem aN:fJ X (.builtin "len") (λxs H Q=>∃x n,xs=[x]/\RK X.K x H n/\Q (.int n) H):=by
 ext pins s m H xs l Q I r h;let#[x,n,rfl,e,q]:=h;let#[u,rfl,f]:=vals1 r;let o:=sI;let k:sizeLine=16777216:=zcA;cases x with
 | str y=>
  let#[t,rfl]:=f;obtain⟨j,a⟩:y.z<=sizeLine/\n=y.z:=e;subst a;exact len_str () #[.int _,H,I.tok _,#[_,rfl],q]
 | Fb y=>
  let#[t,rfl]:=f;obtain⟨j,a⟩:y.size<=sizeLine/\n=y.size:=e;subst a;exact PySem.W.len_bytes () #[.int _,H,I.tok _,#[_,rfl],q]
 | ref p=>
  cases f;let a:(∃xs,aK X.K H p xs/\n=xs.z)\/∃xs,SqT X.K H p xs/\n=xs.z:=e;ext(⟨xs,b,a⟩|⟨xs,b,a⟩:a);subst a;let#[g,d,c,i]:=I.list b;let hlen:=d.z;exact Calls.call_len_list c.isList (by simp only[zaM];lia) #[.int xs.z,H,I.tok _,#[_,by simp only[zaM];rw[hlen]],q];subst a;let#[g,d,c,i]:=I.tuple b;let hlen:=d.z;exact len_tuple c (by simp[zaM];lia) #[.int xs.z,H,I.tok _,#[_,by simp only[zaM];rw[hlen]],q]
 | _=>exact(show False from e).elim
structure OD(h:Heap)(x dx C:Addr)(mA:bx):Prop where
 obj:h.get? x=some (PySem.W.instObj C dx)
 ns:h.Ns1 dx mA
 ne:dx≠x
theorem Ey{h:Heap}{c:bx}(n:h.Ns1 dx c):∃d,h.get? dx=some d/\∀name,PySem.W.lookIn name d=some (c name):=by
 let#[o,b,p,f,k,j,_,g]:=n;refine#[o,f,λname=>?_];let e:=g name;unfold nsFind findBy at e;rw[<-Array.find?_toList]at e;unfold PySem.W.lookIn;rw[k];dsimp only;split;rename_i y q;rw[q]at e;exact zaA some e;rename_i q;rw[q]at e;let a:b.toList.any (·.refKey)=false:=by rw[any_eq_false];ext y m;let#[z,t,l]:=j y<|Array.mem_toList_iff.mp m;simp[DictEntry.refKey,l]
 let i:¬b.toList.any (·.refKey)=true:=by erw[a,zaC]
 erw[zab i,zaA some e]
theorem OD.look(I:OD h x dx C mA):∃a,PySem.W.InstAt h x (PySem.W.instObj C dx) C (some a)/\∀name,PySem.W.lookIn name a=some (mA name):=
 let ⟨a,ho,hl⟩:=Ey I.ns
 #[a,#[I.obj,rfl,rfl,ho],hl]
theorem tN.some_of(r:tN (some v) o):∃u,o=some u/\RelV v u:=by
 cases o with
 | none=>exact(show False from r).elim
 | some u=>exact#[u,rfl,r]
theorem Kw(c:lE P w H h)(e:H a=some (.ins C dx fs)):∃b,OD h a dx C b/\(∀f,tN (fs.lookup f)<|b f)/\PySem.Within b (fs.map (·.1))/\fs.z<=1000/\H dx=some (.own a):=by let#[d,z,i,g,b,n,r,q]:=(show bM P w H h a (.ins C dx fs)from c a _ e);exact#[b,#[g,n,i],r,q,z,d]
structure Vs(K:zcT)(C:Addr):Prop where
 pg:PySem.W.plainGet K C Str.empty=true
 hd:PySem.W.hasDictIn K C=true
 po:PySem.W.plainOver K C=true
 sa:PySem.W.findIn K (.ref C) "__setattr__"=some (some<|.builtin "object.__setattr__")
theorem Vs.get{K:zcT}{C:Addr}(c:Vs K C)(f:Str):PySem.W.plainGet K C f=true:=c.pg
section
variable {X:Cx} {pins:b6} {σ:St} {H:Hp} {s:Shared} {A:Around} {E:bz} {Q:bz} {c:Value} {b:Bool}
inductive ou(K:zcT)(H:Hp):V->Value->Prop where
 | gW:ou K H .gW (.type "NoneType")
 | bl (x:Bool):ou K H (.bl x) (.type "bool")
 | int (i:Int):ou K H (.int i) (.type "int")
 | str (x:Str):ou K H (.str x) (.type "str")
 | Ji (x:UInt64):ou K H (.Ji x) (.type "float")
 | lst {a:Addr} {xs:List V} (e:H a=some (.lst xs)):ou K H (.ref a) (.type "list")
 | lA {a:Addr} {o:Obj} {xs:List V} (e:H a=some (.lA o (.lst xs))):ou K H (.ref a) (.type "list")
 | tup {a:Addr} {xs:List V} (e:H a=some (.tup xs)):ou K H (.ref a) (.type "tuple")
 | dK {a:Addr} {aT:List (Key×V)} (e:H a=some (.dK aT)):ou K H (.ref a) (.type "dict")
 | dT {a:Addr} {aT:List (List Key×V)} (e:H a=some (.dT aT)):ou K H (.ref a) (.type "dict")
 | ins {a C dx:Addr} {fs:List (Str×V)} (e:H a=some (.ins C dx fs)) (cl:Vs K C) (ha:PySem.W.findIn K (.ref C) "__class__"=some (some (.builtin "object.__class__")))
   (hn:PySem.W.specialIn K (.builtin "object.__class__") "__get__"=some (some (.builtin "getset_descriptor.__get__"))) (Sf:PySem.W.takesIn K (.builtin "object.__class__")=some true)
   (hm:PySem.W.mroIn K C (.type "object")=some true):ou K H (.ref a) (.ref C)
theorem EF(I:Inv X pins σ H s)(f:RelV x u)(L:ou X.K H x t)(e:PySem.W.kitOne X.K t c=some b)(h:∀D,Q (.bool b) { s with toks:=D }) :
  wpAny (model X.prog X.w) A (call (.builtin "isinstance") [u,c]) Q E s:=by
 cases L with
 | gW=>cases(show u=Value.none from f);exact zbX PySem.W.kitx_none I.vB True.intro e (λz=>nomatch z) h
 | bl y=>cases(show u=Value.bool y from f);exact zbX PySem.W.kitx_bool I.vB True.intro e (λz=>nomatch z) h
 | int i=>obtain⟨t,q⟩:=(show ∃t,u=Value.int i t from f);cases q;exact zbX PySem.W.kitx_int I.vB True.intro e (λz=>nomatch z) h
 | str y=>obtain⟨t,q⟩:=(show ∃t,u=Value.str y t from f);cases q;exact zbX PySem.W.kitx_str I.vB True.intro e (λz=>nomatch z) h
 | Ji y=>obtain⟨t,q⟩:=(show ∃t,u=Value.float y t from f);cases q;exact zbX PySem.W.kitx_float I.vB True.intro e (λz=>nomatch z) h
 | @lst a xs d=>
  cases(show u=Value.ref a from f);let#[_,_,n,_,g]:=(show bM X.prog X.w H s.heap a (.lst xs)from I.bW a _ d);exact zbX PySem.W.kitx_list I.vB #[_,g,rfl] e (λz=>nomatch z) h
 | @lA a r xs d=>
  cases(show u=Value.ref a from f);let#[_,_,_,n,_,g]:=(show bM X.prog X.w H s.heap a (.lA r<|.lst xs)from I.bW a _ d);exact zbX PySem.W.kitx_list I.vB #[_,g,rfl] e (λz=>nomatch z) h
 | @tup a xs d=>
  cases(show u=Value.ref a from f);let#[_,_,_,p]:=(show bM X.prog X.w H s.heap a (.tup xs)from I.bW a _ d);let#[o,g,j,_]:=p;exact zbX PySem.W.kitx_tuple I.vB #[o,g,j] e (λz=>nomatch z) h
 | @dK a k d=>
  cases(show u=Value.ref a from f);let#[_,_,vs,_,p]:=(show bM X.prog X.w H s.heap a (.dK k)from I.bW a _ d);let#[o,l,B,g,j,_]:=p;exact zbX PySem.W.kitx_dict I.vB #[o,g,j.1] e (λz=>nomatch z) h
 | @dT a k d=>
  cases(show u=Value.ref a from f);let#[_,_,xs,_,o,l,B,g,j,_]:=(show bM X.prog X.w H s.heap a (.dT k)from I.bW a _ d);exact zbX PySem.W.kitx_dict I.vB #[o,g,j.1] e (λz=>nomatch z) h
 | @ins a C P R d cl v F G m=>
  cases(show u=Value.ref a from f);let#[M,O,_]:=Kw I.bW d;let#[N,J,_]:=O.look;exact zbX (PySem.W.kitx_own (cl.get _) cl.hd v F G m) I.vB J e (λz=>nomatch z) h
end
structure gC(k:Nat)(A:Around):Prop where
 hd:A.handled=none
 dp:A.depth+3*k+5<recursionLimit
 un:A.units+16*k+200<cLine
theorem gC.mono(r:gC k A)(h:j<=k):gC j A:=#[r.hd,by let:=r.dp;lia,by let:=r.un;lia]
theorem gC.deeper(r:gC (k+1) A)(env:Env):gC k<|A.deeper env:=
 #[r.hd,by let:=r.dp;show A.depth+1+3*k+5<_;lia,by let:=r.un;show A.units+3+16*k+200<_;lia]
theorem gC.depth(r:gC k A):A.depth<recursionLimit:=by let:=r.dp;lia
theorem gC.units(r:gC k A):A.units+64<cLine:=by let:=r.un;lia
theorem gC.Mu(r:gC k A):A.units<cLine:=by let:=r.un;lia
noncomputable def yN:TA:=λ_ H Q=>Q [] H
noncomputable def j7(d:TE)(tr:TA):TA:=λa H Q=>d a H λx b=>tr a b λxs c=>Q (x::xs) c
theorem af:PA X [] yN:=λ_ _ _ _ H Q I h=>zcj #[[],H,I,.nil,h]
theorem aa(f:PE X e te)(j:PA X es t)(c:starEach (e::es) X.env=(false,eval e X.env)::starEach es X.env:=by rfl):PA X (e::es)<|j7 te t:=by ext a pins s b H Q I h;rw[c];refine zcf<|dM (f pins s b H _ I h) λu m ⟨x,n,g,o,d⟩=>?_;exact dM (j a pins m b n _ g d) λq r ⟨xs,p,k,l,i⟩=>#[x::xs,p,k,.cons o l,i]
noncomputable def My(t:TA):TE:=λb H Q=>t b H λxs a=>xs.z<=sizeLine/\∀p,a p=none->Q (.ref p) (upd a p<|.tup xs)
noncomputable def JA(t:TA):TE:=λb H Q=>t b H λxs a=>xs.z<=sizeLine/\∀p,a p=none->Q (.ref p) (upd a p<|.lst xs)
theorem dF{x1}(h:PA X es t):PE X (.Tuple es x1 pos)<|My t:=by ext pins s f H Q I i;refine wpAny_Tuple_spliced<|dM (h pos pins s f H _ I i) λd c ⟨xs,g,a,r,z,q⟩=>#[by erw[<-r.z,z],?_];let j:=a.bW.fresh<|zai _;refine#[.ref c.y,upd g c.y<|.tup xs,a.laid (λb u e=>zav _ e) (zai _) ?_,rfl,q _ j];exact#[z,d,r,#[_,zaX _ rfl,rfl,_,rfl]]
theorem bH(h:PA X es t):PE X (.List es pos)<|JA t:=by ext pins s σ H Q I hq;refine wpAny_List_spliced<|dM (h pos pins s σ H _ I hq) λus s1 ⟨xs,H1,I1,r,z,q⟩=>#[by erw[<-r.z,z],?_];let hf:=I1.bW.fresh<|zai _;refine#[.ref s1.y,upd H1 s1.y<|.lst xs,I1.laid (λb u e=>zav _ e) (zai _) ?_,rfl,q _ hf];exact#[z,us,0,r,zaX _ rfl]
abbrev Sp:=List V->Hp->VK->XK->Prop
abbrev Cf:=List Env->Hp->Shared->XK->Value->Shared->Prop
structure Ll(P:Program)(w:World)(K:zcT)(mg:bx)(base:Heap)(A:Around)(outer:List Env)(s:Shared)(H:Hp):Prop where
 frames:A.frames=some outer
 mod:Mod K mg base
 bs:∀b o,base.get? b=some o->s.heap.get? b=some o/\H b=none
 Mm:base.x<=s.y
 o5:s.heap.FunFrames base outer
 Ob:∀b∈lJ outer,H b=none
 bW:lE P w H s.heap
 bare:AllBare s.gens
noncomputable def CE(outer:List Env)(P:Program)(w:World)(H:Hp)(s:Shared)(Q:VK)(u:Value)(a:Shared):Prop:=
 ∃v b,a.os=s.os/\AllBare a.gens/\Un (lJ outer) [] H b s.heap a.heap/\lE P w b a.heap/\RelV v u/\Q v b
noncomputable def CR(b:Cf)(outer:List Env)(P:Program)(w:World)(H:Hp)(s:Shared)(Q:VK)(E:XK)(r:Result)(a:Shared):Prop:=
 match r with
 | .ok (.ret u)=>CE outer P w H s Q u a
 | .ok _=>False
 | .error e=>b outer H s E e a
structure uT(P:Program)(w:World)(K:zcT)(mg:bx)(base:Heap)(CX:Cf)(k:Nat)(f:Addr)(fd:FuncData)(ps:List Str)(sp:Sp):Prop where
 len:∀vs H Q E,sp vs H Q E->vs.z=ps.z
 run:∀(A:Around) (outer:List Env) (s:Shared) (H:Hp) (args:Args) (us:bf) (vs:List V) (Q:VK) (E:XK),gC k A->Ll P w K mg base A outer s H->BindsTo s fd args (ps.zip us)->Vals vs us->sp vs H Q E->
  codeAny (model P w) A (.call (.ref f) args) (CR CX outer P w H s Q E) s
section
variable {X:Cx} {pins:b6} {σ:St} {H:Hp} {s s':Shared}
theorem Inv.Rg(I:Inv X pins σ H s):Ll X.prog X.w X.K X.mg X.base X.A X.stack s H:=
 #[I.ok.frames,I.ok.mod,I.bs,zaI I.ok.Mm I.sz,I.stack,I.vZ,I.bW,I.bare]
theorem Inv.after(I:Inv X pins σ H s)(h:CE X.stack X.prog X.w H s Q u s'):EP X pins σ Q u s':=by let#[v,e,a,bare,un,c,r,q]:=h;let#[i,g,d,t,f]:=s';obtain rfl:f=s.os:=a;exact#[v,e,I.call un c bare<|λb z=>absurd z A?,r,q]
end
noncomputable def FR(c:Sp)(d:List V)(E:XK)(t:TA):TE:=λa H Q=>t a H λvs b=>c (vs++d) b Q E
noncomputable def Binds(K:zcT)(d:FuncData)(c:List Str)(b:bf):Prop:=
 ∀(s:Shared) (a:bf),K.In s.heap->(a++b).z=c.z->BindsTo s d #[a,[]] (c.zip<|a++b)
theorem Binds.all{K:zcT}{d:FuncData}{b:List Str}(h:∀a:bf,a.z=b.z->bindArgs d #[a,[]]=pure (b.zip a)):Binds K d b []:=λs a _ c=>by rw[zcP]at c ⊢;exact .of_eq<|h a c
noncomputable def Passes(b:Cf)(X:Cx)(E:XK):Prop:=∀(pins:b6) (c:St) (H:Hp) (s:Shared) (e:Value) (a:Shared),Inv X pins c H s->b X.stack H s E e a->X.xe e a
section
variable {X:Cx} {CX:Cf} {k:Nat} {f C:Addr} {fd:FuncData} {ps:List Str} {sp:Sp} {Ma:List V} {ds:bf} {E:XK} {x m:Str} {p pos apos:Pos} {e o:Expr} {es:List Expr} {ta:TE} {t:TA}
theorem MH{b:St}{s:Shared}(F:uT X.prog X.w X.K X.mg X.base CX k f fd ps sp)(l:gC k X.A)(i:Binds X.K fd ps ds)(j:Vals Ma ds)(d:Passes CX X E)(I:Inv X pins b H s)(r:Vals vs us)(h:sp (vs++Ma) H Q E):wpAny (model X.prog X.w) X.A (call (.ref f) us) (EP X pins b Q) X.xe s:=by
 let c:=r.append j;let g:(us++ds).z=ps.z:=by erw[<-c.z,F.len _ _ _ _ h]
 refine wpAny_call<|codeAny_mono (F.run X.A X.stack s H #[us,[]] (us++ds) (vs++Ma) Q E l I.Rg (i s us I.vB g) c h) λr n a=>?_;cases r with
 | error e=>exact d pins b H s e n I a
 | ok fl=>
  cases fl with
  | ret u=>exact I.after a
  | next=>exact False.elim a
  | brk=>exact False.elim a
  | cont=>exact False.elim a
theorem Ka(F:uT X.prog X.w X.K X.mg X.base CX k f fd ps sp)(l:gC k X.A)(n:Gl X x)(g:X.mg x=f.e)(v:PySem.W.keepIn X.K (.ref f)=true)(c:Binds X.K fd ps ds)(y:Vals Ma ds)(b:Passes CX X E)(j:PA X (e::es) t)(u:(x==("__debug__":Str))=false:=by decide)(d:starEach (e::es) X.env=(false,eval e X.env)::starEach es X.env:=by rfl)(z:(backTo pos<|starEach es X.env).any (·.1)=false:=by rfl) :
  PE X (.Call (.Name x p) (e::es) [] pos) (FR sp Ma E t):=by
 ext pins s i H Q I h;refine zdP<|qH I n g ?_ u;refine PySem.W.callWith_K I.ok.mod.Qr v (dM (j pos pins s i H _ I h) λB D ⟨vs,G,a,r,q⟩=>#[a.vB,?_]) d z;exact MH F l c y b a r q
end
structure aS(N P:List Str)(sc:Scope):Prop where
 kind:sc.kind=.function
 co:sc.isCoroutine=false
 gen:sc.isGenerator=false
 nd:N.Nodup
 pre:N.take P.z=P
 par:∀x∈P,sc.names.lookup x=some .local\/sc.names.lookup x=some .cell
 Nc:∀y∈sc.names,y.2≠.free
theorem vR{kindOf:Str->Option NameKind}{x:Str}:∀{binds:List<|Str×Value} {m:bx},(∀v,(x,v)∉binds)->bindL kindOf binds m x=m x
 | [],_,_=>rfl
 | (n,v)::r,m,h=>by
  unfold bindL;rw[vR λw a=>h w<|zag _ a];split;let:x≠n:=by ext rfl;exact h v zal
  simp[this];rfl
theorem vT{kindOf:Str->Option NameKind}{x:Str}:∀{binds:List<|Str×Value} {m:bx},(∀v,(x,v)∉binds)->bindC kindOf binds m x=m x
 | [],_,_=>rfl
 | (n,v)::r,m,h=>by
  unfold bindC;rw[vT λw a=>h w<|zag _ a];split;rfl;let:x≠n:=by ext rfl;exact h v zal
  simp[this]
theorem vS{kindOf:Str->Option NameKind}{x:Str}{v:Value}:∀{P:List Str} {vs:bf} {i:Nat} {m:bx},P.Nodup->P[i]?=some x->vs[i]?=some v->kindOf x=some .local->
  bindL kindOf (P.zip vs) m x=some v
 | [],_,_,_,_,h,_,_=>by simp at h
 | _::_,[],_,_,_,_,h,_=>by simp at h
 | p::P,w::vs,0,m,nd,h1,h2,hk=>by simp at h1 h2;subst h1;subst h2;show bindL kindOf ((p,w)::P.zip vs) m p=_;unfold bindL;rw[vR λv a=>(zar.mp nd).1 (of_mem_zip a).1,zad hk];simp
 | p::P,w::vs,i+1,m,nd,h1,h2,hk=>by unfold bindL;exact vS (zar.mp nd).2 (by simpa using h1) (by simpa using h2) hk
theorem vU{kindOf:Str->Option NameKind}{x:Str}{v:Value}:∀{P:List Str} {vs:bf} {i:Nat} {m:bx},P.Nodup->P[i]?=some x->vs[i]?=some v->kindOf x≠some .local->
  bindC kindOf (P.zip vs) m x=some v
 | [],_,_,_,_,h,_,_=>by simp at h
 | _::_,[],_,_,_,_,h,_=>by simp at h
 | p::P,w::vs,0,m,nd,h1,h2,hk=>by simp at h1 h2;subst h1;subst h2;show bindC kindOf ((p,w)::P.zip vs) m p=_;unfold bindC;rw[vT λv a=>(zar.mp nd).1 (of_mem_zip a).1,zab hk];simp
 | p::P,w::vs,i+1,m,nd,h1,h2,hk=>by unfold bindC;exact vU (zar.mp nd).2 (by simpa using h1) (by simpa using h2) hk
noncomputable def start(N:List Str)(vs:List V):St:=vs.map some++List.replicate (N.z-vs.z) none
noncomputable def om(c:Cf)(P:Program)(w:World)(K:zcT)(mg:bx)(base:Heap)(N:List Str)(qual:Str)(scope:Scope)(f:Addr)(a:Value)(A:Around)(outer:List Env)(s:Shared)(H:Hp)(E:XK):Cx where
 prog:=P
 w:=w
 K:=K
 mg:=mg
 base:=base
 A:=A.deeper<|envOfC qual scope s.y f a
 N:=N
 s₀:=s
 H₀:=H
 env:=envOfC qual scope s.y f a
 outer:=outer
 stack:=envOfC qual scope s.y f a::outer
 ex:=[]
 calm:=true
 fn:=λ_=>true
 pn:=[]
 xe:=λe d=>wpAny (model P w) (A.deeper<|envOfC qual scope s.y f a) (leaving (envOfC qual scope s.y f a) e) (λ_ b=>c outer H s E e b) (λg b=>c outer H s E g b) d
theorem AF{a:Scope}{n:Nat}{x:Str}(h:a.names.lookup x=some .cell):∃c,(cellsFrom n a.names []).lookup x=some c:=by let q:=PySem.W.cellsFrom_some a.names n []<|.inl h;exact zdF.mp q
theorem EG{D:Cf}{P:Program}{w:World}{K:zcT}{mg:bx}{base:Heap}{N l:List Str}{qual:Str}{scope:Scope}{f:Addr}{n:Value}{A:Around}{outer:List Env}{s L:Shared}{H:Hp}{E:XK}{B:bf}{vs:List V}(S:aS N l scope)(O:A.handled=none)(g:Ll P w K mg base A outer s H)(R:vs.z=l.z)(r:Vals vs B)(x:InCallC s s.y (bindL (envOfC qual scope s.y f n).kindOf (l.zip B) λ_=>none) (cellsFrom (s.y+1) scope.names []) (bindC (envOfC qual scope s.y f n).kindOf (l.zip B) λ_=>none) L) :
  Inv (om D P w K mg base N qual scope f n A outer s H E) [] (start N vs) H L:=by
 let W:l.z<=N.z:=by let:=zaA List.length S.pre;rw[zbb]at this;lia
 let#[o,T,rfl,F]:=x.done;let C:∀b:Addr,b∉(om D P w K mg base N qual scope f n A outer s H E).ex:=λb z=>absurd (show b∈([]:bp)from z) A?;refine#[#[g.mod,S.kind,rfl,rfl,zai _,λy z c o d=>?_,λy j=>?_,λy c _ h=>?_,λ_=>O,Around.frames_deeper g.frames,.inr #[rfl,rfl],λb z=>absurd z<|C b,g.bs,g.Mm,λb _ _=>C b,λb z=>absurd z<|C b,g.o5,g.Ob],
  rfl,g.bare,Un.kept F,#[_,x.toInCall.ns,λi y v o d U=>?_],λy c h=>#[_,x.cell y c h],g.bW.fresh<|zai _,λy c h=>?_,λp m=>absurd (show p∈([]:b6)from m) A?,g.bW.kept F,?_]
 exact name_of_addr x.apart (zda o)<|zda d;let j:=j;ext(j|j:j);exact AF j;exact absurd rfl<|S.Nc _<|zda j;exact zcJ<|x.above y c<|zda h;let t:i<vs.z:=by unfold start at d;by_cases t:i<vs.z;exact t;rw[zaL<|by simpa using t]at d;rw[getElem?_replicate]at d;split at d<;>cases d
 let M:vs[i]?=some v:=by
  unfold start at d;rw[zaO (by simpa using t),zao]at d;cases e:vs[i]? with
  | none=>rw[e]at d;cases d
  | some a=>rw[e]at d;cases d;rfl
 let#[u,I,Q]:=r.get M;let m:l[i]?=some y:=by erw[<-S.pre,getElem?_take_of_lt (),o]
 let G:l.Nodup:=by erw[<-S.pre,S.nd.sublist<|take_sublist _ _]
 refine#[u,Q,?_];ext(k|k:S.par y<|zah m);exact .inl #[k,vS G m I k];let#[c,e]:=AF k;refine .inr #[.inl k,c,e,?_];let q:=x.cell y c e;rw[vU G m I<|by show scope.names.lookup y≠_;rw[k];decide]at q;exact q;exact g.bW.fresh<|zcJ<|x.above y c<|zda h;unfold start;show _=N.z;rw[zay,zaa,zdC];lia
theorem Ib{m:Cf}{P:Program}{w:World}{K:zcT}{mg:bx}{base:Heap}{k:Nat}{f:Addr}{name qual:Str}{params:Arguments}{body:List Stmt}{scope:Scope}{M kV j R d ct oc:Value}{T Z:Option Addr}{I8:Array<|Option Value}{N p:List Str}{F:Sp}(lk:K.lookup f=some #[oc,Z,.func<|PySem.W.fnOf name qual params body scope M kV j R T d ct,I8])(jc:PySem.W.codeIn K d qual=true)(S:aS N p scope)(l:∀vs H Q E,F vs H Q E->vs.z=p.z)(sW:∀(A:Around) (outer:List Env) (s:Shared) (H:Hp) (vs:List V) (Q:VK) (E:XK),gC k (A.deeper<|envOfC qual scope s.y f d)->F vs H Q E->
   ∃t,AL (om m P w K mg base N qual scope f d A outer s H E) body t/\t { nx:=λ_ c=>Q .gW c,rt:=Q } (start N vs) H) :
  uT P w K mg base m (k+1) f (PySem.W.fnOf name qual params body scope M kV j R T d ct) p F:=by
 refine#[l,λA outer s H args Y vs Q E C h hb r G=>?_];let hl:=l _ _ _ _ G;let O:=h.mod.Qr.keeps λb o e=>(h.bs b o e).1;let B:=h.mod.nolimit.keeps λb o e=>(h.bs b o e).1;let U:∀y∈p.zip Y,scope.names.lookup y.1=some .local\/(scope.names.lookup y.1=some .cell/\((cellsFrom (s.y+1) scope.names []).lookup y.1).isSome=true):=λ⟨n,v⟩ hy=>by ext(q|q:S.par n (of_mem_zip hy).1);exact .inl q;exact .inr #[q,PySem.W.cellsFrom_some _ _ _<|.inl q]
 refine codeAny_call_function C.depth (O _ _ lk) rfl S.co S.gen rfl (PySem.W.codeRec_of O jc)<|hb _ _ _ _ ?_;refine wpAny_newFunctionEnv_cells S.kind U λenv X L x=>?_;subst X;refine#[B.keeps x.toInCall.keep,codeAny_func ?_];let#[t,ht,hq]:=sW A outer s H vs Q E (C.deeper _) G;let I:Inv (om m P w K mg base N qual scope f d A outer s H E) [] (start N vs) H L:=EG S C.hd h hl r x;refine zbn (ht [] L (start N vs) H _ I hq) (λfl z g=>?_) λe z g=>g;let i:∀{a:St} {c:Hp} {v:V} {u:Value},Inv (om m P w K mg base N qual scope f d A outer s H E) [] a c z->RelV v u->Q v c->CE outer P w H s Q u z:=
  λ{a c v u} J D q=>#[v,c,J.os,J.bare,J.base,J.bW,D,q]
 cases fl with
 | ret u=>
  let#[v,a,c,J,D,q]:=g;exact i J D q
 | next=>
  let#[a,c,J,q]:=g;exact i (v:=V.gW) (u:=Value.none) J rfl q
 | brk=>
  let#[_,_,_,q]:=g;exact False.elim q
 | cont=>
  let#[_,_,_,q]:=g;exact False.elim q
section
variable {X:Cx} {x:Str} {p pos:Pos} {e:Expr} {es:List Expr} {t:TA} {id T:String} {r:List V->Hp->VK->Prop}
noncomputable def Pq(r:List V->Hp->VK->Prop)(t:TA):TE:=λa H Q=>t a H λvs b=>r vs b Q
theorem aE(k:fJ X (.builtin id) r)(l:Gl X x)(f:X.mg x=none)(g:bootBuiltins x=some (.builtin id))(i:PA X (e::es) t)(n:x≠ "__name__":=by decide)(m:(x==("__debug__":Str))=false:=by decide)(b:starEach (e::es) X.env=(false,eval e X.env)::starEach es X.env:=by rfl)(v:(backTo pos<|starEach es X.env).any (·.1)=false:=by rfl):PE X (.Call (.Name x p) (e::es) [] pos)<|Pq r t:=by ext pins s a H Q I h;refine zdP<|eJ I l f g ?_ n m;exact PyProof.Rows.callWith_builtin1 (dM (i pos pins s a H _ I h) λd o ⟨vs,q,j,u,c⟩=>k pins o a q vs d Q j u c) b v
theorem i8(k:fJ X (.type T) r)(l:Gl X x)(f:X.mg x=none)(g:bootBuiltins x=some (.type T))(i:PA X (e::es) t)(n:x≠ "__name__":=by decide)(m:(x==("__debug__":Str))=false:=by decide)(b:starEach (e::es) X.env=(false,eval e X.env)::starEach es X.env:=by rfl)(v:(backTo pos<|starEach es X.env).any (·.1)=false:=by rfl):PE X (.Call (.Name x p) (e::es) [] pos)<|Pq r t:=by ext pins s a H Q I h;refine zdP<|eJ I l f g ?_ n m;exact zaP (dM (i pos pins s a H _ I h) λd o ⟨vs,q,j,u,c⟩=>k pins o a q vs d Q j u c) b v
end
end L2
namespace HT
open PySem PyProof.Rows
noncomputable def de:b9->b9->Bool
 | [],[]=>false
 | [],_::_=>true
 | _::_,[]=>false
 | x::xs,y::ys=>if x=y then de xs ys else decide (x<y)
theorem iq(x y:Int)(xs ys:b9):de (x::xs) (y::ys)=if x=y then de xs ys else decide (x<y):=rfl
theorem ux:de [] []=false:=rfl
theorem sJ(y:Int)(ys:b9):de [] (y::ys)=true:=rfl
theorem sL(x:Int)(xs:b9):de (x::xs) []=false:=rfl
theorem Ih(A:Around)(s:Shared)(a:Int)(t:Tok)(c:Int)(u:Tok):∃e,SeqAt.EqAt A s (.int a t) (.int c u) e/\(e=true↔a=c):=
 #[(a==c),zct a t c u,by simp]
theorem Gp(A:Around)(s:Shared)(a:Int)(t:Tok)(c:Int)(u:Tok)(prog:Program)(w:World)(E:bz)(Q:bz)(h:Q (.bool<|decide<|a<c) s) :
  wpAny (model prog w) A (richCompare .Lt (.int a t)<|.int c u) Q E s:=
 (PyProof.Rows.lt_int h:wpAny (model prog w) A (compareOp .Lt (.int a t)<|.int c u) Q E s)
noncomputable def vg(n d:Nat):Option Int->Nat
 | none=>d
 | some v=>if v<0 then(v+(n:Int)).toNat else min v.toNat n
end HT
namespace L2
open PySem PySem.Spec PyProof.Rows
abbrev TO:=St->Hp->(Option Int->Hp->Prop)->Prop
noncomputable def PO(X:Cx)(e:Option Expr)(t:TO):Prop:=
 ∀(pins:b6) (s:Shared) (a:St) (H:Hp) (Q:Option Int->Hp->Prop),Inv X pins a H s->t a H Q->
  wpAny (model X.prog X.w) X.A (evalPart e X.env) (λu c=>∃o b,Inv X pins a b c/\IsPart u o/\Q o b) X.xe s
noncomputable def gJ:TO:=λ_ H Q=>Q none H
noncomputable def rh(t:TE):TO:=λa H Q=>t a H λx b=>∃i,x=.int i/\Q (some i) b
theorem intsAre_of:∀{a:bf},Vals ns.c a->IntsAre a ns:=by
 induction ns with
 | nil=>intro a r;rw[map_nil]at r;cases r;exact .nil
 | cons n ns c=>
  ext a r;rw[zbg]at r;cases r with
  | cons d b=>
   let#[t,e]:=d;subst e;exact .cons n t<|c b
section
variable {te:TE} {lo hi:Option Expr} {tl th:TO}
theorem bR:PO X none gJ:=by ext pins s a H Q I h;erw[evalPart_none,zax #[none,H,I,.none,h]]
theorem bX(h:PE X e te):PO X (some e)<|rh te:=by ext pins s b H Q I d;rw[evalPart_some];refine dM (h pins s b H _ I d) λu j ⟨x,f,c,g,a⟩=>?_;let#[i,rfl,q]:=a;let#[t,rfl]:=g;exact#[some i,f,c,.int i t,q]
noncomputable def Vo(X:Cx)(r:V->Option Int->Option Int->Hp->VK->Prop):Prop:=
 ∀(pins:b6) (s:Shared) (d:St) (H:Hp) (x:V) (v a c:Value) (lo hi:Option Int) (b:Addr) (Q:VK),Inv X pins d H s->RelV x v->s.heap.IsSliceOf b a c .none->IsPart a lo->IsPart c hi->r x lo hi H Q->
  ∃T id,typeLookup (.type T) "__getitem__"=pure (some<|.builtin id)/\s.TypeIs v T/\wpAny (model X.prog X.w) X.A (getItem v<|.ref b) (EP X pins d Q) X.xe s
noncomputable def IZ(r:V->Option Int->Option Int->Hp->VK->Prop)(te:TE)(tl th:TO):TE:=λa H Q=>te a H λx c=>tl a c λl d=>th a d λu b=>r x l u b Q
theorem bG(F:Vo X r)(i:PE X e te)(y:PO X lo tl)(B:PO X hi th):PE X (.Subscript e (.Slice lo hi none p2) pos)<|IZ r te tl th:=by ext pins s a H Q I h;refine Subscript_<|dM (i pins s a H _ I h) λv K ⟨x,L,t,A,j⟩=>?_;refine wpAny_Slice<|dM (y pins K a L _ t j) λd p ⟨l,z,G,m,E⟩=>dM (B pins p a z _ G E) λf c ⟨u,g,D,n,o⟩=>?_;rw[evalPart_none];refine zax ?_;let k:Inv X pins a g { c with heap:=c.heap.push { cls:=.type "slice",data:=.fields #[d,f,.none,] } }:=D.kept λb N q=>zav _ q;let#[T,id,C,M,w]:=F pins { c with heap:=c.heap.push { cls:=.type "slice",data:=.fields #[d,f,.none,] } } a g x v d f l u c.y Q k A (Heap.IsSliceOf.new ..) m n o;exact tail_any M C w (by with_unfolding_all rfl)
noncomputable def mJ(xs:List V)(lo hi:Option Int):List V:=(xs.drop<|HT.vg xs.z 0 lo).take<|HT.vg xs.z xs.z hi-HT.vg xs.z 0 lo
theorem AB(xs:List V)(lo hi:Option Int):(mJ xs lo hi).z<=xs.z:=by unfold mJ;rw[zbb,zbF];lia
end
noncomputable def Dl(n:Nat)(i:Int):Option Nat:=if 0<=i then(if i<n then some i.toNat else none)else if -(n:Int)<=i then some (i+n).toNat else none
noncomputable def j6{a:Type}(xs:List a)(i:Int):Option a:=(Dl xs.z i).bind λj=>xs[j]?
theorem Dk(h:Dl n i=some j):seqIndex? i n=some j/\j<n/\-(n:Int)<=i/\i<n:=by unfold Dl at h;by_cases b:0<=i;rw[zad b]at h;by_cases a:i<n;rw[zad a]at h;let e:=zaq h;exact#[by rw[seqIndex_of b a,e],(),(),a];rw[zab a]at h;cases h;rw[zab b]at h;by_cases a : -(n:Int)<=i;rw[zad a]at h;let e:=zaq h;exact#[by rw[seqIndex_neg () a,e],(),a,()];rw[zab a]at h;cases h
theorem D3{a:Type}{xs:List a}{i:Int}{v:a}(h:j6 xs i=some v):∃j,seqIndex? i xs.z=some j/\xs[j]?=some v/\j<xs.z/\-(xs.z:Int)<=i/\i<xs.z:=by
 unfold j6 at h;cases e:Dl xs.z i with
 | none=>rw[e]at h;cases h
 | some j=>
  rw[e]at h;let#[b,c,d,f]:=Dk e;exact#[j,b,h,c,d,f]
theorem cz{a:Type}{xs:List a}{j:Nat}{v:a}(h:xs[j]?=some v):j6 xs (j:Int)=some v:=by
 let b:=(zac.mp h).1;let e:Dl xs.z (j:Int)=some j:=by unfold Dl;rw[zad (),zad ()];simp
 unfold j6;erw[e,h]
theorem IG(xs:List α)(v:α):j6 (xs++[v]) (-1)=some v:=by
 let a:(xs++[v]).z=xs.z+1:=by simp
 let e:Dl (xs++[v]).z (-1)=some xs.z:=by unfold Dl;rw[a,zab B!,zad ()];congr 1;lia
 unfold j6;rw[e];show(xs++[v])[xs.z]?=some v;simp
noncomputable def Lf(b:Expr):Prop:=∀o i,subscripted b false o i=operate [o,i] (getItem o i)
noncomputable def RL(X:Cx)(r:R2):Prop:=
 ∀(value slice:Expr) (pins:b6) (s:Shared) (a:St) (H:Hp) (x y:V) (v u:Value) (Q:VK),Inv X pins a H s->RelV x v->RelV y u->r x y H Q->
  subscripted slice false v u=operate [v,u] (getItem v u)->wpAny (model X.prog X.w) X.A (subscriptTail value slice v u) (EP X pins a Q) X.xe s
noncomputable def XC(X:Cx)(id:String)(r:V->List V->Hp->VK->Prop):Prop:=
 ∀(pins:b6) (s:Shared) (b:St) (H:Hp) (x:V) (xs:List V) (v:Value) (a:bf) (Q:VK),Inv X pins b H s->RelV x v->Vals xs a->r x xs H Q->
  wpAny (model X.prog X.w) X.A (call (.builtin id)<|v::a) (EP X pins b Q) X.xe s
section
variable {X:Cx} {a b:Expr} {ta tb:TE} {pos:Pos}
theorem aP(j:RL X r)(e:PE X a ta)(d:PE X b tb)(c:Lf b):PE X (.Subscript a b pos)<|Cm r ta tb:=by ext pins s f H Q I h;exact Subscript_<|OA e d I h λv u g x y l k m i q=>j a b pins g f l x y v u Q k m i q<|c _ _
noncomputable def JY(K:zcT):R2:=λx y H Q=>∃p xs i v,x=.ref p/\y=.int i/\aK K H p xs/\j6 xs i=some v/\Q v H
noncomputable def JX(K:zcT):R2:=λx y H Q=>∃p xs i v,x=.ref p/\y=.int i/\SqT K H p xs/\j6 xs i=some v/\Q v H
theorem aB:RL X<|JY X.K:=by
 ext value slice pins s C H x y v u Q I L D h g;let#[p,xs,i,z,rfl,rfl,G,m,q]:=h;cases L;let#[t,rfl]:=D;let#[E,r,e,M]:=I.list G;let#[j,d,A,O,B,F]:=D3 m;let#[w,k,o]:=r.get A;let n:=r.z;let N:=sI;let c:EP X pins C Q w s:=#[z,H,I,o,q];by_cases l:0<=i;let f:i.toNat=j:=by rw[seqIndex_of l F]at d;exact zaq d
 exact item_listR e.isList l () (by rw[f];simpa using k) c g;let f:(i+(E.toArray.size:Int)).toNat=j:=by rw[seqIndex_neg () B]at d;erw[zaM,<-n,zaq d]
 exact subscriptTail_builtinR e.isList.typeIs slot_list_getitem.lookup
  (wpAny_getItem_list_neg e.isList () (by rw[zaM]<;>lia) () (by rw[f];simpa using k) #[rfl,c]) g
theorem oW:RL X<|JX X.K:=by
 ext value slice pins s o H x y v u Q I C A h e;let#[p,xs,i,z,rfl,rfl,B,g,q]:=h;cases C;let#[t,rfl]:=A;let#[L,r,d,E]:=I.tuple B;let#[j,n,m,G,D,M]:=D3 g;let#[w,f,l]:=r.get m;let k:=r.z;let F:=sI;let c:EP X pins o Q w s:=#[z,H,I,l,q];exact subscriptTail_builtinR d.typeIs slot_tuple_getitem.lookup
  (getItem_tuple d () () (by erw[zaM,<-k,n]) (by simpa using f) #[rfl,c]) e
theorem Bz(c:bf)(n j:Nat)(u:Value):Obj.mapSeq (·.setIfInBounds j u) { cls:=.type "list",data:=.seq c.toArray n }={ cls:=.type "list",data:=.seq (c.set j u).toArray n }:=by simp[Obj.mapSeq]
theorem Inv.lst{pins:b6}{d:St}{H:Hp}{s:Shared}{p:Addr}{xs:List V}(I:Inv X pins d H s)(h:H p=some (.lst xs)) :
  ∃(c:bf) (n:Nat),Vals xs c/\s.heap.get? p=some { cls:=.type "list",data:=.seq c.toArray n }/\xs.z<=sizeLine:=by
 let#[z,c,n,r,e]:=I.bW p _ h;exact#[c,n,r,e,z]
theorem Inv.Ni{pins:b6}{d:St}{H:Hp}{s:Shared}{p:Addr}{xs ys:List V}{i its':bf}{n c:Nat}{f:Obj->Obj}(I:Inv X pins d H s)(h:H p=some (.lst xs))(k:s.heap.get? p=some { cls:=.type "list",data:=.seq i.toArray n })(g:f { cls:=.type "list",data:=.seq i.toArray n }={ cls:=.type "list",data:=.seq its'.toArray c })(r:Vals ys its')(l:ys.z<=sizeLine)(t:Nat) :
  Inv X pins d (upd H p<|.lst ys) { s with heap:=s.heap.update p f,toks:=t }:=by
 let e:(s.heap.update p f).get? p=some { cls:=.type "list",data:=.seq its'.toArray c }:=by rw[zbI f k (by rw[g]<;>rfl),g]
 refine I.write (by rw[h];trivial) (.inl rfl) (λb u j q=>(zby _ _<|zaZ j).trans q) #[_,e] ?_;exact#[l,its',c,r,e]
noncomputable def PV:V->V->V->Hp->(Hp->Prop)->Prop:=λo i v H Q=>∃p xs k j,o=.ref p/\i=.int k/\H p=some (.lst xs)/\Dl xs.z k=some j/\Q (upd H p<|.lst<|xs.set j v)
theorem set_list:RE X PV:=by
 ext pins s σ H o i v ov iv u Q I ro ri rv h;let#[p,xs,k,j,rfl,rfl,hp,hj,q]:=h;cases ro;let#[t,rfl]:=ri;let#[aX,n,r,ho,hz]:=I.lst hp;let#[h1,h2,h3,h4]:=Dk hj;let hl:=r.z;let hn:=sI;let I':=
  I.Ni hp ho (Bz aX n j u) (r.set rv j) (by erw[zbN,hz]) s.toks
 by_cases h0:0<=k;let hk:k.toNat=j:=by rw[seqIndex_of h0 h4]at h1;exact zaq h1
 exact PySem.W.ki_setAt ho h0 () (by erw[zaM,<-hl,h4]) (by erw[hk,#[_,I',q]]);let hk:(k+(aX.toArray.size:Int)).toNat=j:=by rw[seqIndex_neg () h3]at h1;erw[zaM,<-hl,zaq h1]
 exact PySem.W.ki_setBack ho () (by erw[zaM,<-hl,h3]) () (by erw[hk,#[_,I',q]])
theorem wF(lo c:Option Int)(n:Nat):(sliceBounds lo c none n).1=((HT.vg n 0 lo:Nat):Int)/\(sliceBounds lo c none n).2.1=((HT.vg n n c:Nat):Int)/\(sliceBounds lo c none n).2.2=1:=by
 refine#[?_,?_,rfl];cases lo with
 | none=>simp[sliceBounds,HT.vg]
 | some i=>
  simp[sliceBounds,HT.vg,Option.getD_none,show(1:Int) > 0 by decide,zfp];by_cases h:i<0;simp[h,zfp]<;>lia;simp[h,zcQ]<;>lia
 cases c with
 | none=>simp[sliceBounds,HT.vg]
 | some i=>
  simp[sliceBounds,HT.vg,Option.getD_none,show(1:Int) > 0 by decide,zfp];by_cases h:i<0;simp[h,zfp]<;>lia;simp[h,zcQ]<;>lia
theorem tZ(c:bf)(lo d:Option Int):slicePick c.toArray lo d none=((c.drop<|HT.vg c.z 0 lo).take<|HT.vg c.z c.z d-HT.vg c.z 0 lo).toArray:=by let#[e,g,f]:=wF lo d c.toArray.size;unfold slicePick;rw[e,g,f];simp only[sliceRange_one,pick_run,zaM]<;>rfl
noncomputable def wY(K:zcT):V->Option Int->Option Int->Hp->VK->Prop:=λx lo c H Q=>∃a xs,x=.ref a/\aK K H a xs/\∀p,H p=none->Q (.ref p) (upd H p<|.lst<|mJ xs lo c)
theorem cg:Vo X<|wY X.K:=by ext pins s l H x v n p lo d o Q I k f i j h;let#[a,xs,rfl,e,q]:=h;cases k;let#[t,r,c,g]:=I.list e;let hlen:=r.z;refine#["list",_,slot_list_getitem.lookup,c.isList.typeIs,?_];refine wpAny_getItem_list_slice c.isList f i j .none A? ?_ (by rw[zaM]<;>lia);rw[tZ,<-hlen];refine#[.ref s.y,_,I.laid (λb m q=>zav _ q) (zai _) ?_,rfl,q _<|I.bW.fresh<|zai _];exact#[zaI (AB xs lo d) g,_,0,(r.drop<|HT.vg xs.z 0 lo).take<|HT.vg xs.z xs.z d-HT.vg xs.z 0 lo,zaX _ rfl]
noncomputable def nV:V->Bool
 | .gW=>true
 | .bl _=>true
 | .int _=>true
 | .str _=>true
 | _=>false
noncomputable def KP:V->V->Bool
 | .gW,.gW=>true
 | .bl a,.bl b=>a==b
 | .bl a,.int b=>(if a then 1 else 0)==b
 | .int a,.bl b=>a==(if b then 1 else 0)
 | .int a,.int b=>a==b
 | .str a,.str b=>a==b
 | _,_=>false
theorem Oe(e:RelV y u)(c:RelV x v)(f:nV y=true)(d:nV x=true):SeqAt.EqAt A s u v<|KP y x:=by
 cases y with
 | gW=>
  cases e;cases x with
  | gW=>cases c;exact SeqAt.EqAt.same _
  | bl b=>cases c;exact SeqAt.EqAt.none_bool b
  | int b=>obtain⟨t,rfl⟩:=c;exact SeqAt.EqAt.none_int b t
  | str b=>obtain⟨t,rfl⟩:=c;exact SeqAt.EqAt.none_str b t
  | _=>exact absurd (show false=true from d) zaC
 | bl a=>
  cases e;cases x with
  | gW=>cases c;exact SeqAt.EqAt.bool_none a
  | bl b=>cases c;exact SeqAt.EqAt.bool_bool a b
  | int b=>obtain⟨t,rfl⟩:=c;exact SeqAt.EqAt.bool_int a b t
  | str b=>obtain⟨t,rfl⟩:=c;exact SeqAt.EqAt.bool_str a b t
  | _=>exact absurd (show false=true from d) zaC
 | int a=>
  let#[t',rfl]:=e;cases x with
  | gW=>cases c;exact SeqAt.EqAt.int_none a t'
  | bl b=>cases c;exact SeqAt.EqAt.int_bool a t' b
  | int b=>obtain⟨t,rfl⟩:=c;exact zct a t' b t
  | str b=>obtain⟨t,rfl⟩:=c;exact SeqAt.EqAt.int_str a t' b t
  | _=>exact absurd (show false=true from d) zaC
 | str a=>
  let#[t',rfl]:=e;cases x with
  | gW=>cases c;exact SeqAt.EqAt.str_none a t'
  | bl b=>cases c;exact SeqAt.EqAt.str_bool a t' b
  | int b=>obtain⟨t,rfl⟩:=c;exact SeqAt.EqAt.str_int a t' b t
  | str b=>obtain⟨t,rfl⟩:=c;exact SeqAt.EqAt.str_str a t' b t
  | _=>exact absurd (show false=true from d) zaC
 | _=>exact absurd (show false=true from f) zaC
noncomputable def BX(x:V)(u:Value):Bool:=match u with
 | .none=>KP .gW x
 | .bool b=>KP (.bl b) x
 | .int i _=>KP (.int i) x
 | .str z _=>KP (.str z) x
 | _=>false
theorem Ig(r:RelV y u)(f:nV y=true):BX x u=KP y x:=by
 cases y with
 | gW=>cases r;rfl
 | bl b=>cases r;rfl
 | int i=>obtain⟨t,rfl⟩:=r;rfl
 | str z=>obtain⟨t,rfl⟩:=r;rfl
 | _=>exact absurd (show false=true from f) zaC
theorem ot{x:V}:∀{xs:List V} {c:bf},Vals xs c->xs.all nV=true->c.any (BX x)=xs.any λy=>KP y x
 | _,_,.nil,_=>rfl
 | y::xs,u::c,.cons r t,f=>by rw[all_cons,zei]at f;rw[any_cons,any_cons,Ig r f.1,ot t f.2]
theorem kH{A:Around}{s:Shared}{x:V}{v:Value}(g:RelV x v)(e:nV x=true):∀{xs:List V} {d:bf},Vals xs d->xs.all nV=true->∀u∈d,SeqAt.EqAt A s u v (BX x u)
 | _,_,.nil,_=>λu c=>by cases c
 | y::xs,u::d,.cons r t,f=>λh c=>by rw[all_cons,zei]at f;ext(rfl|c:zas.mp c);rw[Ig r f.1];exact Oe r g f.1 e;exact kH g e t f.2 h c
noncomputable def Sd(x:V)(xs:List V):Bool:=xs.any λy=>KP y x
noncomputable def Tc(K:zcT)(neg:Bool):R2:=λx y H Q=>∃p xs,y=.ref p/\(aK K H p xs\/SqT K H p xs)/\nV x=true/\xs.all nV=true/\Q (.bl<|if neg then !Sd x xs else Sd x xs) H
theorem En:pE X (compareOp .In)<|Tc X.K false:=by ext pins s m H x y v u Q I j k h;let#[p,xs,rfl,d,i,e,q]:=h;cases k;ext(d|d:d);let#[c,r,f,l]:=I.list d;refine SeqAt.in_listAt (BX x) f.isList (λw g=>kH j i r e w<|by simpa using g) #[.bl _,H,I,rfl,?_];rw[show c.toArray.any (BX x)=c.any (BX x)by simp,ot r e];exact q;let#[c,r,f,l]:=I.tuple d;refine SeqAt.in_tupleAt (BX x) f (λw g=>kH j i r e w<|by simpa using g) #[.bl _,H,I,rfl,?_];erw[show c.toArray.any (BX x)=c.any (BX x)by simp,ot r e,q]
theorem w9:pE X (compareOp .NotIn)<|Tc X.K true:=by ext pins s m H x y v u Q I j k h;let#[p,xs,rfl,d,i,e,q]:=h;cases k;ext(d|d:d);let#[c,r,f,l]:=I.list d;refine SeqAt.notIn_listAt (BX x) f.isList (λw g=>kH j i r e w<|by simpa using g) #[.bl _,H,I,rfl,?_];rw[show c.toArray.any (BX x)=c.any (BX x)by simp,ot r e];exact q;let#[c,r,f,l]:=I.tuple d;refine SeqAt.notIn_tupleAt (BX x) f (λw g=>kH j i r e w<|by simpa using g) #[.bl _,H,I,rfl,?_];erw[show c.toArray.any (BX x)=c.any (BX x)by simp,ot r e,q]
theorem yd:fJ X (.type "list") (λxs H Q=>∃p ys,xs=[.ref p]/\(aK X.K H p ys\/SqT X.K H p ys)/\∀l,H l=none->Q (.ref l) (upd H l<|.lst ys)):=by
 ext pins s z H xs B Q I r h;let#[p,ys,rfl,k,q]:=h;let#[u,rfl,A]:=vals1 r;cases A;let j:∀(c:bf),Vals ys c->ys.z<=sizeLine->∀(h':Heap) (f:Nat),(∀b y,s.heap.get? b=some y->h'.get? b=some y)->
   h'.get? s.y=some { cls:=.type "list",dict:=none,data:=.seq c.toArray f,slots:=#[] }->EP X pins z Q (.ref s.y) { s with heap:=h' }:=λc d g h' f i e=>
  #[.ref s.y,_,I.laid i (zai _)<|show bM X.prog X.w _ h' _ (.lst ys)from#[g,c,f,d,e],rfl,q _<|I.bW.fresh<|zai _]
 ext(k|k:k);let#[c,d,t,g]:=I.list k;let hlen:=d.z;let#[o,m,x,n,v]:=t.isList;exact call_list_seq p (.inl rfl) m x v (λh' f i e=>j c d g h' f i e) (by simp[zaM]<;>lia);let#[c,d,t,g]:=I.tuple k;let hlen:=d.z;let#[o,m,x,n,v]:=t;exact call_list_seq p (.inr rfl) m x v (λh' f i e=>j c d g h' f i e) (by simp[zaM]<;>lia)
noncomputable def Pg(K:zcT)(T:String)(x:V)(H:Hp):Prop:=match x with
 | .str _=>T = "str"
 | .int _=>T = "int"
 | .ref p=>(T = "list"/\∃xs,aK K H p xs)\/(T = "tuple"/\∃o,K.lookup p=some o/\o.cls=.type "tuple"/\o.dict=none)\/
   (T = "dict"/\((∃c,H p=some (.dK c))\/∃c,H p=some (.dT c)))\/(T = "set"/\∃S n,H p=some (.set S n))
 | _=>False
theorem FE{l:St}{s:Shared}{T:String}(I:Inv X pins l H s)(r:RelV x v)(f:Pg X.K T x H) :
  s.TypeIs v T/\∀a,v=.ref a->∃k,s.heap.get? a=some k/\k.dict=none:=by
 cases x with
 | str z=>
  let#[t,rfl]:=r;cases(show T = "str" from f);exact#[typeIs_str s z t,λ_ e=>nomatch e]
 | int i=>
  let#[t,rfl]:=r;cases(show T = "int" from f);exact#[typeIs_int s i t,λ_ e=>nomatch e]
 | ref p=>
  cases r;ext(⟨rfl,xs,u⟩|⟨rfl,o,d,m,h⟩|⟨rfl,d⟩|⟨rfl,S,n,d⟩:f);let#[w,_,j,_]:=I.list u;refine#[j.isList.typeIs,λa e=>?_];cases e;let#[o,n,e,c,h,_]:=j;exact#[o,e,h];refine#[#[o,I.vB p o d,m],λa e=>?_];cases e;exact#[o,I.vB _ o d,h];let z:∃o,s.heap.get? p=some o/\o.ExactDict:=by ext(⟨q,d⟩|⟨q,d⟩:d);let#[_,_,_,_,o,_,_,e,ex,_]:=I.bW p _ d;exact#[o,e,ex];let#[_,_,_,_,o,_,_,e,ex,_]:=I.bW p _ d;exact#[o,e,ex]
  let#[o,e,ex]:=z;refine#[#[o,e,ex.1],λa g=>?_];cases g;exact#[o,e,ex.2.1];let#[o,_,_,_,e,ex,_]:=I.bW p _ d;refine#[#[o,e,ex.1],λa g=>?_];cases g;exact#[o,e,ex.2.1]
 | _=>exact False.elim f
noncomputable def Pr(K:zcT)(T:String)(r:V->List V->Hp->VK->Prop)(e:TE):TE:=λd H Q=>e d H λx c=>Pg K T x c/\r x [] c Q
noncomputable def VI(K:zcT)(T:String)(r:V->List V->Hp->VK->Prop)(f:TE)(t:TA):TE:=λc H Q=>f c H λx d=>Pg K T x d/\t c d λxs e=>r x xs e Q
variable {o e:Expr} {es:List Expr} {to:TE} {t:TA} {name:Str} {apos oo:Pos} {T id:String} {r:V->List V->Hp->VK->Prop}
theorem M3(n:PlainAttrs T)(slot:Slot T name id)(m:typeOf (.builtin id)=pure (.type "method_descriptor"))(k:XC X id r)(j:PE X o to)(l:attributeBase o name X.env (eval o X.env)=eval o X.env:=by rfl)(w:(apos.endLine==oo.line)=true:=by rfl):PE X (.Call (.Attribute o name apos) [] [] oo)<|Pr X.K T r to:=by ext pins s c H Q I h;refine wpAny_Call_method0_late l w<|dM (j pins s c H _ I h) λv p ⟨x,u,d,f,y,i⟩=>?_;let#[g,q]:=FE d f y;exact#[T,id,n,slot,m,g,q,Calls.callWith_builtin rfl<|PySem.evalArgs_none<|k pins p c u x [] v [] Q d f .nil i]
theorem iG(u:PlainAttrs T)(slot:Slot T name id)(E:typeOf (.builtin id)=pure (.type "method_descriptor"))(m:XC X id r)(k:PE X o to)(n:PA X (e::es) t)(D:attributeBase o name X.env (eval o X.env)=eval o X.env:=by rfl)(q:((backTo oo<|starEach (e::es) X.env).all (λx=>!x.1)&&(backToKw oo<|keywordEach [] X.env).all (λx=>x.1.isSome)
  &&decide ((e::es).z+([]:List Keyword).z+(if([]:List Keyword).isEmpty then 0 else 1)<30))=true:=by rfl)(M:(apos.endLine==oo.line)=true:=by rfl)(i:starEach (e::es) X.env=(false,eval e X.env)::starEach es X.env:=by rfl)(C:(backTo oo<|starEach es X.env).any (·.1)=false:=by rfl) :
  PE X (.Call (.Attribute o name apos) (e::es) [] oo) (VI X.K T r to t):=by
 ext pins s c H Q I h;refine wpAny_Call_method_late D q M rfl<|dM (k pins s c H _ I h) λv G ⟨x,L,d,g,N,j⟩=>?_;let#[A,y]:=FE d g N;refine#[T,id,u,slot,E,A,y,?_];let f:=n oo pins G c L _ d j;rw[i]at f ⊢;refine Calls.callWith_builtin (by show(false || (backTo oo<|starEach es X.env).any (·.1))=false;rw[C]<;>rfl)<|Calls.evalArgs_plain ?_;exact dM f λl p ⟨vs,z,F,w,B⟩=>m pins p c z x vs v l Q F g w B
end
noncomputable def RJ(X:Cx)(id:String)(r:V->List V->Hp->VK->Prop):Prop:=
 ∀(pins:b6) (s:Shared) (b:St) (H:Hp) (x:V) (xs:List V) (v:Value) (a:bf) (Q:VK),Inv X pins b H s->RelV x v->Vals xs a->r x xs H Q->
  wpAny (model X.prog X.w) X.A (call (.builtin id)<|v::a) (EP X pins b Q) X.xe s
theorem Vals.one:∀{x:V} {a:bf},Vals [x] a->∃u,a=[u]/\RelV x u
 | _,_,.cons r .nil=>#[_,rfl,r]
theorem Vals.zero:∀{a:bf},Vals [] a->a=[]
 | _,.nil=>rfl
theorem Vals.dropLast(h:Vals xs us):Vals xs.dropLast us.dropLast:=by
 induction h with
 | nil=>exact .nil
 | cons r t a=>
  cases t with
  | nil=>exact .nil
  | cons q t'=>exact .cons r a
theorem Vals.eraseIdx:∀{xs:List V} {a:bf} (i:Nat),Vals xs a->Vals (xs.eraseIdx i) (a.eraseIdx i)
 | _,_,_,.nil=>.nil
 | _,_,0,.cons _ t=>t
 | _,_,i+1,.cons r t=>.cons r<|Vals.eraseIdx i t
theorem Vals.rep{xs:List V}{a:bf}(h:Vals xs a):∀k:Nat,Vals (List.replicate k xs).flatten (List.replicate k a).flatten
 | 0=>.nil
 | k+1=>by erw[zdb,zdb,zbz,zbz,Vals.append h<|Vals.rep h k]
theorem BW{c:Type}(l:List c):l.eraseIdx (l.z-1)=l.dropLast:=by
 induction l with
 | nil=>rfl
 | cons a r d=>
  cases r with
  | nil=>rfl
  | cons b r=>
   let e:(a::b::r).z-1=((b::r).z-1)+1:=(by let f:(a::b::r).z=r.z+2:=rfl;let g:(b::r).z=r.z+1:=rfl;lia);rw[e,eraseIdx_cons_succ,d];all_goals rfl
theorem foldl_rep(aX:bf):∀(k:Nat) (acc:bf),
  List.foldl (λx1 x2=>x1++x2) acc.toArray (List.replicate k aX.toArray)=(acc++(List.replicate k aX).flatten).toArray
 | 0,acc=>by simp
 | k+1,acc=>by
  let e:acc.toArray++aX.toArray=(acc++aX).toArray:=by simp
  let e2:(acc++aX)++(List.replicate k aX).flatten=acc++(List.replicate (k+1) aX).flatten:=by rw[zdb,zbz,zck]
  rw[<-e2,<-foldl_rep aX k (acc++aX),<-e,zdb,foldl_cons]
section
variable {X:Cx} {pins:b6} {σ:St} {H:Hp} {s:Shared} {l b:Addr} {xs ys zs:List V}
theorem Inv.Ko{a its':bf}{n:Nat}{f:Array Value->Array Value}{t':Nat}(I:Inv X pins σ H s)(d:H l=some (.lst xs))(e:s.heap.get? l=some { cls:=.type "list",data:=.seq a.toArray n })(h:f a.toArray=its'.toArray)(i:Vals ys its')(g:ys.z<=sizeLine) :
  Inv X pins σ (upd H l<|.lst ys) { s with heap:=s.heap.update l<|Obj.mapSeq f,toks:=t' }:=by
 let q:=PySem.IsL.update e f;rw[h]at q;refine I.write (by erw[d,trivial]) (.inl rfl) (λk u c j=>(zby s.heap (Obj.mapSeq f)<|zaZ c).trans j) #[_,q] ?_;exact#[g,its',_,i,q]
theorem Inv.Qo(I:Inv X pins σ H s)(a:Vals ys aX)(c:ys.z<=sizeLine) :
  Inv X pins σ (upd H s.y<|.lst ys) { s with heap:=s.heap.push { cls:=.type "list",data:=.seq aX.toArray },toks:=t' }:=
 I.laid (λ_ _ q=>zav _ q) (zai _) #[c,aX,0,a,zaX _ rfl]
theorem Inv.fresh(I:Inv X pins σ H s):H s.y=none:=I.bW.fresh<|zai _
theorem Inv.uw(I:Inv X pins σ H s)(c:H l=some (.lst xs)):xs.z<=sizeLine/\∃(a:bf) (n:Nat),Vals xs a/\xs.z=a.z/\s.heap.get? l=some { cls:=.type "list",data:=.seq a.toArray n }:=by let#[z,a,n,r,e]:=I.bW l _ c;exact#[z,a,n,r,r.z,e]
theorem zM(h:n<=sizeLine):Builtin.List.listTooLong n=false:=by unfold Builtin.List.listTooLong;exact zaQ ()
end
noncomputable def CQ:V->List V->Hp->VK->Prop:=λx vs H Q=>∃l xs y,x=.ref l/\vs=[y]/\H l=some (.lst xs)/\xs.z<sizeLine/\Q .gW (upd H l<|.lst<|xs++[y])
theorem dr:RJ X "list.append" CQ:=by ext pins s i H x vs v g Q I f b h;let#[l,xs,y,rfl,rfl,a,k,q]:=h;cases f;let#[u,rfl,c]:=b.one;let#[z,d,n,r,j,e]:=I.uw a;refine zdh F.slot_list_append #[_,e,rfl] F.entry_list_append (F.args_list_append_2 _ _) (PySem.list_append l d.toArray n u<|by rw[zaM];lia) #[e,?_];refine#[.gW,_,I.Ko a e A? (r.append<|.cons c .nil) ?_,rfl,q];rw[zay,zbl];lia
noncomputable def CP:V->List V->Hp->VK->Prop:=λx vs H Q=>∃l b xs zs,x=.ref l/\vs=[.ref b]/\H l=some (.lst xs)/\H b=some (.lst zs)/\xs.z+zs.z<=sizeLine/\Q .gW (upd H l<|.lst<|xs++zs)
theorem Eu:RJ X "list.extend" CP:=by
 ext pins s A H x vs v t Q I o k h;let#[l,b,xs,zs,rfl,rfl,d,g,y,q]:=h;cases o;let#[u,rfl,m]:=k.one;cases m;let#[z,a,n,r,w,e]:=I.uw d;let#[B,c,n2,i,p,j]:=I.uw g;let hsz:a.toArray.size+c.toArray.size<=sizeLine:=by rw[zaM,zaM];lia
 let f:¬(!a.toArray.isEmpty&&Builtin.List.listTooLong (a.toArray.size+c.toArray.size))=true:=by erw[zM hsz,Bool.and_false,zaC]
 refine zdh F.slot_list_extend #[_,e,rfl] F.entry_list_extend (F.args_list_extend_2 _ _)
  (AutoSeq1.list_extend_list_list_0 l a.toArray n b c.toArray n2 f (by rw[zaM];lia) ()) #[e,j,?_]
 refine#[.gW,_,I.Ko d e A? (r.append i) ?_,rfl,q];rw[zay];lia
noncomputable def Ta:V->List V->Hp->VK->Prop:=λx vs H Q=>∃l xs y,x=.ref l/\vs=[]/\H l=some (.lst xs)/\xs[xs.z-1]?=some y/\Q y (upd H l<|.lst xs.dropLast)
theorem Nh:RJ X "list.pop" Ta:=by
 ext pins s p H x vs v o Q I k g h;let#[l,xs,y,rfl,rfl,b,m,q]:=h;cases k;let c:=g.zero;subst c;let#[z,a,n,r,d,e]:=I.uw b;let#[u,j,i]:=r.get m;let f:a.toArray[a.toArray.size-1]?=some u:=by show a.toArray[a.z-1]?=some u;erw[<-zef,<-d,j]
 refine zdh F.slot_list_pop #[_,e,rfl] F.entry_list_pop (F.args_list_pop_1 _) (MeetsSeq.list_pop_last l a.toArray n u f<|by rw[zaM];lia) #[e,?_];refine#[y,_,I.Ko b e ?_ r.dropLast ?_,i,q];rw[zaM,eraseIdxIfInBounds_toArray,BW];rw[length_dropLast];lia
noncomputable def P1:R2:=λx y H Q=>∃l b xs zs,x=.ref l/\y=.ref b/\H l=some (.lst xs)/\H b=some (.lst zs)/\xs.z+zs.z<=sizeLine/\∀p,H p=none->Q (.ref p) (upd H p<|.lst<|xs++zs)
theorem dY:pE X (binaryOp .Add) P1:=by
 ext pins s p H x y v u Q I m f h;let#[l,b,xs,zs,rfl,rfl,d,j,A,q]:=h;cases m;cases f;let#[z,c,n,r,t,e]:=I.uw d;let#[w,a,n2,k,o,i]:=I.uw j;refine PySem.P.add_list e i ?_ (by rw[zaM,zaM];lia);let g:c.toArray++a.toArray=(c++a).toArray:=by simp
 erw[g,#[.ref _,_,I.Qo (r.append k) (by rw[zay];lia),rfl,q _ I.fresh]]
noncomputable def S9:R2:=λx y H Q=>∃l k xs,x=.ref l/\y=.int k/\H l=some (.lst xs)/\-(2 ^ 63)<=k/\k<2 ^ 63/\xs.z*k.toNat<=sizeLine/\
 ∀p,H p=none->Q (.ref p) (upd H p<|.lst (List.replicate k.toNat xs).flatten)
theorem len_rep{a:Type}(xs:List a)(k:Nat):(List.replicate k xs).flatten.z=k*xs.z:=by
 induction k with
 | zero=>simp
 | succ k b=>rw[zdb,zbz,zay,b,zeB,zdi]
theorem M8:pE X (binaryOp .Mult) S9:=by
 ext pins s K H x y v u Q I E B h;let#[l,k,xs,rfl,rfl,A,w,p,f,q]:=h;cases E;let#[t,rfl]:=B;let#[z,b,n,r,o,e]:=I.uw A;let hlen:b.toArray.size*k.toNat<=sizeLine:=by erw[zaM,<-o,f]
 let g:¬b.toArray.size*k.toNat > (2 ^ 63-1) / 8:=by
  let:(sizeLine:Nat)<=(2 ^ 63-1) / 8:=by decide
  lia
 let D:¬(!Builtin.List.listFitsIndex k)=true:=by erw[fitsIndex_both w p,zaC]
 let i:¬Builtin.List.listTooLong (b.toArray.size*k.toNat)=true:=by erw[zM hlen,zaC]
 let C:List.foldl (λd c=>d++c) #[] (List.replicate (if b.toArray.isEmpty=true then 0 else k.toNat) b.toArray)=(List.replicate k.toNat b).flatten.toArray:=by
  let f0:∀m:Nat,List.foldl (λd c=>d++c) #[] (List.replicate m b.toArray)=(List.replicate m b).flatten.toArray:=λm=>by let:=foldl_rep b m [];rwa[zeM]at this
  rw[f0];cases b with
  | nil=>simp
  | cons a G=>rw[zab A?]
 refine wpAny_binaryOp_repeat_ref B! #[_,e,rfl] (λj=>typeIs_int j k t) noFill_list_mul F.fills_int_mul F.slot_int_rmul repeat_list F.slot_int_index.lookup
  (zdh F.slot_int_rmul (typeIs_int s k t) F.entry_int_rmul (F.args_int_rmul_2 _ _) (int___rmul___int_list k t l b.toArray n)
   #[e,rfl,#[_,e,rfl],zdh F.slot_list_mul #[_,e,rfl] F.entry_list_mul (F.args_list_mul_2 _ _) (AutoListH.list___mul___list_int_3 l b.toArray n k t D g i) #[e,?_]])
 erw[C,#[.ref _,_,I.Qo (r.rep k.toNat) (by erw[len_rep,zcK,f]),rfl,q _ I.fresh]]
section
variable {κ:Type} [DecidableEq κ]
noncomputable def iJ(b:List<|κ×V)(k:κ):Option V:=(b.find? λa=>decide<|a.1=k).map (·.2)
noncomputable def dV(aT:List<|κ×V)(k:κ)(v:V):List<|κ×V:=
 if(aT.any λkv=>decide<|kv.1=k)=true then aT.map (λkv=>if kv.1=k then(kv.1,v)else kv)else aT++[(k,v)]
theorem gX{p:κ×V}{k:κ}(e:p.1=k):iJ (p::r) k=some p.2:=by simp[iJ,zeN,e]
theorem fO{p:κ×V}{k:κ}(e:¬p.1=k):iJ (p::r) k=iJ r k:=by simp[iJ,zeN,e]
theorem qV(k:κ):∀a:List (κ×V),(a.any λb=>decide<|b.1=k)=(iJ a k).isSome
 | []=>rfl
 | p::r=>by rw[any_cons];by_cases e:p.1=k;simp[gX e,zaV e,Bool.true_or,Option.isSome_some];erw[fO e,zaQ e,Bool.false_or,qV k r]
theorem kL(a:List<|κ×V)(k:κ)(v:V):(dV a k v).z<=a.z+1:=by unfold dV;split;rw[zaa];lia;rw[zay,zbd,zdQ];lia
theorem nj{k:κ}(v:V)(h:iJ aT k=none):dV aT k v=aT++[(k,v)]:=by unfold dV;erw[qV,h,zab B!]
theorem tN.oX(r:tN o u):o.isSome=u.isSome:=by
 cases o with
 | none=>cases u with
  | none=>rfl
  | some _=>exact(show False from r).elim
 | some _=>cases u with
  | none=>exact(show False from r).elim
  | some _=>rfl
theorem KV.val(r:KV aT vs)(k:κ):tN (iJ aT k)<|valueAt vs k:=by
 unfold KV at r;induction r with
 | nil=>exact True.intro
 | @cons p q ps qs h t ih=>
  let#[h1,h2]:=h;by_cases e:p.1=k;let e':=h1.symm.trans e;let b:valueAt (q::qs) k=some q.2:=by simp[valueAt,zeN,e']
  rw[gX e,b];exact h2;let e':¬q.1=k:=λz=>e<|h1.trans z;let b:valueAt (q::qs) k=valueAt qs k:=by simp[valueAt,zeN,e']
  erw[fO e,b,ih]
theorem KV.any(r:KV aT vs)(k:κ):(aT.any λkv=>decide<|kv.1=k)=vs.any λkv=>decide<|kv.1=k:=by
 unfold KV at r;induction r with
 | nil=>rfl
 | cons h t ih=>rw[any_cons,any_cons,ih,h.1]
theorem KV.MR(r:KV aT vs)(k:κ)(f:RelV y u) :
  KV (aT.map λa=>if a.1=k then(a.1,y)else a) (vs.map λa=>if a.1=k then(a.1,u)else a):=by
 unfold KV at r ⊢;induction r with
 | nil=>exact .nil
 | @cons p q g i h t d=>
  rw[zbg,zbg];refine .cons ?_ d;let#[b,c]:=h;by_cases e:p.1=k;rw[zad e,zad<|b.symm.trans e];exact#[b,f];erw[zab e,zab<|λz=>e<|b.trans z,#[b,c]]
theorem KV.put(r:KV aT vs)(k:κ)(ry:RelV y u):KV (dV aT k y)<|stored vs k u:=by unfold dV stored;rw[r.any k];by_cases e:(vs.any λkv=>decide<|kv.1=k)=true;rw[zad e,zad e];exact r.MR k ry;erw[zab e,zab e,Paired.snoc r #[rfl,ry]]
theorem KV.length{a:List<|κ×V}{vs:List<|κ×Value}(r:KV a vs):a.z=vs.z:=Paired.length r
end
theorem Ad(r:RelV (kV k) u):(c9 P w).is k u=true:=by
 cases k with
 | inl i=>obtain⟨t,e⟩:=(show ∃t,u=Value.int i t from r);subst e;exact zQ P w i t
 | inr x=>obtain⟨t,e⟩:=(show ∃t,u=Value.str x t from r);subst e;exact zP P w x t
theorem vC{P:Program}{w:World}:∀{a:List Key} {b:bf},Vals (a.map kV) b->ItemsAre (c9 P w) a b
 | [],_,r=>by rw[map_nil]at r;cases r;exact .nil
 | k::a,_,r=>by
  rw[zbg]at r;cases r with
  | cons h t=>exact .cons (Ad h)<|vC t
abbrev KT(H:Hp):List (List Key×V)->List (List Key×Addr×Value)->Prop:=Paired λp q=>p.1=q.1/\H q.2.1=some (.tup<|p.1.map kV)/\RelV p.2 q.2.2
theorem KT.val(r:KT H aT xs)(k:List Key):tN (iJ aT k)<|(atKey xs k).map (·.2):=by
 induction r with
 | nil=>exact True.intro
 | @cons p q ps qs h t ih=>
  let#[h1,_,h2]:=h;by_cases e:p.1=k;let e':=h1.symm.trans e;let b:atKey (q::qs) k=some q.2:=by simp[atKey,zeN,e']
  rw[gX e,b];exact h2;let e':¬q.1=k:=λz=>e<|h1.trans z;let b:atKey (q::qs) k=atKey qs k:=by simp[atKey,zeN,e']
  erw[fO e,b,ih]
theorem KT.MR(r:KT H aT xs)(k:List Key)(g:RelV y u) :
  KT H (aT.map λb=>if b.1=k then(b.1,y)else b) (xs.map<|putAt k u):=by
 induction r with
 | nil=>exact .nil
 | @cons p q i j h t d=>
  rw[zbg,zbg];refine .cons ?_ d;let#[a,c,f]:=h;unfold putAt;by_cases e:p.1=k;rw[zad e,zad<|a.symm.trans e];exact#[a,c,g];erw[zab e,zab<|λz=>e<|a.trans z,#[a,c,f]]
theorem KT.put(r:KT H aT xs)(k:List Key)(hb:H b=some (.tup<|k.map kV))(ry:RelV y u) :
  KT H (dV aT k y) (storedH xs k b u):=by
 let e:(aT.any λkv=>decide<|kv.1=k)=(atKey xs k).isSome:=by rw[qV,(r.val k).oX,Option.isSome_map]
 unfold dV storedH;rw[e];by_cases q:(atKey xs k).isSome=true;rw[zad q,zad q];exact r.MR k ry;erw[zab q,zab q,Paired.snoc r #[rfl,hb,ry]]
theorem KT.keeps(r:KT H aT xs)(a:∀b ys,H b=some (.tup ys)->H' b=some (.tup ys)):KT H' aT xs:=
 Paired.xt r λ_ _ z=>#[z.1,a _ _ z.2.1,z.2.2]
theorem LC(b:lE P w H h)(e:Rd H a u):bM P w H h a u:=e.ok b
theorem Au(b:lE P w H h)(e:Rd H a<|.dK aT):aT.z<=sizeLine/\(a==sysModules)=false/\∃vs,KV aT vs/\h.DictOf (c9 P w) a vs:=
 show bM P w H h a (.dK aT)from LC b e
theorem Mc(b:lE P w H h)(e:H a=some (.dK aT)):aT.z<=sizeLine/\(a==sysModules)=false/\∃vs,KV aT vs/\h.DictOf (c9 P w) a vs:=Au b<|.inl e
theorem xI(g:lE P w H h)(e:H a=some (.tup<|ks.map kV)):(tupleKind<|c9 P w).is h ks a:=by let#[_,f,r,o,b,c,n,d]:=(show bM P w H h a (.tup<|ks.map kV)from g a _ e);exact#[o,f.toArray,n,b,c,d,by simpa using vC r]
theorem DG(ok:lE P w H h)(e:Rd H a<|.dT aT):aT.z<=sizeLine/\(a==sysModules)=false/\
  ∃xs,KT H aT xs/\h.DictOfH (tupleKind<|c9 P w) a xs:=by
 let#[z,y,xs,r,o,es,ep,h1,h2,h3,h4,h5]:=(show bM P w H h a (.dT aT)from LC ok e);refine#[z,y,xs,r,o,es,ep,h1,h2,h3,h4,λx hx=>?_,h5];let all:∀{l:List<|List Key×V} {m:List<|List Key×Addr×Value},KT H l m->∀x∈m,(tupleKind<|c9 P w).is h x.1 x.2.1:=by
  ext l m q;induction q with
  | nil=>intro x hx;exact nomatch hx
  | @cons p q ps qs hq t ih=>
   ext x hx;ext(e|hx:zas.mp hx);subst e;exact xI ok (by erw[<-hq.1,hq.2.1]);exact ih x hx
 exact all r x hx
theorem DH(b:lE P w H h)(e:H a=some (.dT aT)):aT.z<=sizeLine/\(a==sysModules)=false/\
  ∃xs,KT H aT xs/\h.DictOfH (tupleKind<|c9 P w) a xs:=DG b<|.inl e
noncomputable def k7(H:Hp)(a:Addr)(y:V)(r:Option V):Prop:=
 (∃c k,Rd H a (.dK c)/\y=kV k/\r=iJ c k)\/∃c k b,Rd H a (.dT c)/\y=.ref b/\H b=some (.tup<|k.map kV)/\r=iJ c k
noncomputable def tU(H:Hp)(a:Addr)(y v:V)(d:Hp):Prop:=
 (∃c k,H a=some (.dK c)/\y=kV k/\c.z<sizeLine/\d=upd H a (.dK<|dV c k v))\/
 ∃c k b,H a=some (.dT c)/\y=.ref b/\H b=some (.tup<|k.map kV)/\c.z<sizeLine/\d=upd H a (.dT<|dV c k v)
theorem k7.k{k:Key}(e:H a=some (.dK aT)):k7 H a (kV k)<|iJ aT k:=.inl #[aT,k,.inl e,rfl,rfl]
theorem k7.t{H:Hp}{a b:Addr}{c:List<|List Key×V}{k:List Key}(e:H a=some (.dT c))(d:H b=some (.tup<|k.map kV)):k7 H a (.ref b)<|iJ c k:=.inr #[c,k,b,.inl e,rfl,d,rfl]
theorem tU.k{k:Key}(e:H a=some (.dK aT))(b:aT.z<sizeLine):tU H a (kV k) v<|upd H a<|.dK<|dV aT k v:=.inl #[aT,k,e,rfl,b,rfl]
theorem tU.t{H:Hp}{a b:Addr}{c:List<|List Key×V}{k:List Key}{v:V}(e:H a=some (.dT c))(f:H b=some (.tup<|k.map kV))(d:c.z<sizeLine) :
  tU H a (.ref b) v (upd H a<|.dT<|dV c k v):=.inr #[c,k,b,e,rfl,f,d,rfl]
section
variable {X:Cx} {pins:b6} {σ:St} {H:Hp} {s:Shared} {a:Addr} {y v:V} {u r:Value} {o:Option V} {A:Around} {E:bz}
theorem Inv.big(I:Inv X pins σ H s):sysModules<s.y:=by let h:=(I.mod.glob.keeps I.bk).lt;exact zdW B! h
theorem EV(D:A.units+1<cLine)(I:Inv X pins σ H s)(g:k7 H a y<|some v)(m:RelV y u)(h:∀d n,Inv X pins σ H n->RelV v d->Q d n) :
  wpAny (model X.prog X.w) A (getItem (.ref a) u) Q E s:=by
 ext(⟨C,k,e,i,l⟩|⟨C,k,b,e,i,q,l⟩:g);subst i;let#[z,B,vs,c,dd]:=Au I.bW e;let#[d,f,j]:=tN.some_of (by erw[l,c.val k]);exact wpAny_getItem_of (Ad m) dd.mapOf f<|h d _ (I.tok _) j;subst i;cases(show u=Value.ref b from m);let#[z,B,xs,c,dd]:=DG I.bW e;let#[d,f,j]:=tN.some_of (by erw[l,c.val k]);let#[p,t,x]:=Option.map_eq_some_iff.mp f;refine wpAny_getItem_heap (tupleKind_room_in1 D) (xI I.bW q) dd t ?_;erw[x,h d _ (I.tok _) j]
theorem K1(p:A.units+1<cLine)(I:Inv X pins σ H s)(g:k7 H a y o)(i:RelV y u)(h:∀j,Inv X pins σ H j->Q (.bool<|!o.isSome) j) :
  wpAny (model X.prog X.w) A (compareOp .NotIn u<|.ref a) Q E s:=by
 ext(⟨n,k,e,d,l⟩|⟨n,k,b,e,d,m,l⟩:g);subst d;let#[z,f,vs,c,dd]:=Au I.bW e;refine wpAny_notIn_of (Ad i) f dd.mapOf ?_;rw[<-(c.val k).oX,<-l];exact h _<|I.tok _;subst d;cases(show u=Value.ref b from i);let#[z,f,xs,c,dd]:=DG I.bW e;refine wpAny_notIn_heap (tupleKind_room_in1 p) (xI I.bW m) f dd ?_;let q:=(c.val k).oX;rw[Option.isSome_map]at q;erw[<-q,<-l,h _<|I.tok _]
theorem xZ(I:Inv X pins σ H s)(g:RI<|H a)(d:Heap.SameBut a s.heap h')(f:∃q,h'.get? a=some q)(c:bM X.prog X.w (upd H a ob) h' a ob) :
  Inv X pins σ (upd H a ob) { s with heap:=h',toks:=t' }:=
 I.write g (.inl rfl) (λb q e z=>(d.2 b e).trans z) f c
theorem Ip(z:aT.z<=sizeLine)(c:(a==sysModules)=false)(b:KV aT vs)(dd:h'.DictOf (c9 P w) a vs) :
  bM P w H' h' a (.dK aT):=#[z,c,vs,b,dd]
theorem EU(R:A.units+1<cLine)(I:Inv X pins σ H s)(g:tU H a y v H')(F:RelV y u)(G:RelV v r)(h:∀D,Inv X pins σ H' D->Q Unit.unit D) :
  wpAny (model X.prog X.w) A (setItem (.ref a) u r) Q E s:=by
 ext(⟨f,k,e,x,l,t⟩|⟨f,k,b,e,x,C,l,t⟩:g);subst x t;let#[z,p,vs,d,dd]:=Mc I.bW e;let P:vs.z<=sizeLine:=by erw[<-d.z,z]
 let n:(dV f k v).z<=sizeLine:=by let:=kL f k v;lia
 refine wpAny_setItem_pairs (Ad F) dd λh' i m=>h _ ?_;let L:∃q,h'.get? a=some q:=let ⟨q,_,_,j,_⟩:=i;#[q,j]
 exact xZ I (by erw[e,True.intro]) m L<|Ip n p (d.put k G) i;subst x t;cases(show u=Value.ref b from F);let#[z,p,xs,d,dd]:=DH I.bW e;let P:xs.z<=sizeLine:=by erw[<-Paired.length d,z]
 let n:(dV f k v).z<=sizeLine:=by let:=kL f k v;lia
 refine wpAny_setItem_heap (tupleKind_room_in1 R) (xI I.bW C) dd λh' i m=>h _ ?_;let#[q,K,M,j,N,S,O,_,T]:=i;refine xZ I (by erw[e,True.intro]) m #[q,j] #[n,p,_,(d.put k C G).keeps λc ys B=>?_,q,K,M,j,N,S,O,T];erw[aG (Qe B e<|λz=>nomatch z),B]
end
section
variable {X:Cx} {pins:b6} {σ:St} {H:Hp} {s:Shared} {a:Addr} {aT:List (Key×V)} {k:Key} {u:Value} {A:Around} {E:bz}
theorem Ro(I:Inv X pins σ H s)(e:Rd H a<|.dK aT)(h:∀t c,Inv X pins σ H c->Q (.int aT.z t) c):wpAny (model X.prog X.w) A (call (.builtin "len") [.ref a]) Q E s:=by let#[z,d,vs,b,dd]:=Au I.bW e;refine call_len_dict d dd (by rw[<-b.z];rw[zcA]at z;lia) ?_;erw[<-b.z,h _ _<|I.tok _]
end
noncomputable def RH(i:Expr):Prop:=∀a b,subscripted i false a b=operate [a,b] (getItem a b)
theorem JD{A:Around}{s:Shared}{env:Env}{g:Pos}{T id:String}(l:typeLookup (.type T) "__getitem__"=pure (some<|.builtin id))(k:RH slice)(h:wpAny (model prog w) A (eval value env) (λo c=>wpAny (model prog w) A (eval slice env) (λi a=>a.TypeIs o T/\wpAny (model prog w) A (getItem o i) Q E a) E c) E s) :
  wpAny (model prog w) A (eval (.Subscript value slice g) env) Q E s:=by
 refine Subscript_<|zbn h (λo c h₁=>zbn h₁ (λi a b=>?_) λ_ _ x=>x) λ_ _ x=>x;let#[j,b]:=b;unfold subscriptTail;refine zae ?_;rw[getitemInPython_of_ne j.not_modules];refine zae<|zdn j l ?_;let e:wpAny (model prog w) A (subscripted slice false o i) (λr d=>wpAny (model prog w) A (letTemporaryGo value o r >>= λ_=>pure r) Q E d) E a:=by erw[k o i,wpAny_operating<|zbn b (λr d f=>zae<|wpAny_letTemporaryGo<|zax f) λ_ _ x=>x]
 first
  | exact zax<|zae e
  | exact zae<|zax<|zae e
  | exact zae e
theorem Av{c:St}{s:Shared}{o:Option V}(I:Inv X pins c H s)(g:k7 H a y o):s.TypeIs (.ref a) "dict":=by ext(⟨d,k,e,_,_⟩|⟨d,k,b,e,_,_,_⟩:g);let#[_,_,vs,_,dd]:=Au I.bW e;exact dd.typeIs;let#[_,_,xs,_,dd]:=DG I.bW e;exact dd.typeIs
noncomputable def FQ(d f:TE):TE:=λb H Q=>d b H λx e=>f b e λy c=>∃a v,x=.ref a/\k7 c a y (some v)/\Q v c
noncomputable def Cn(f d:TE):TE:=λb H Q=>f b H λy e=>d b e λx c=>∃a o,x=.ref a/\k7 c a y o/\Q (.bl<|!o.isSome) c
noncomputable def LA(d i e:TE):TS:=λD b H=>e b H λv g=>d b g λx h=>i b h λy f=>∃a c,x=.ref a/\tU f a y v c/\D.nx b c
theorem qA(w:X.A.units+1<cLine)(j:PE X o td)(n:PE X i ty)(d:RH i):PE X (.Subscript o i pos)<|FQ td ty:=by ext pins s b H Q I h;refine JD PySem.F.slot_dict_getitem.lookup d<|dM (j pins s b H _ I h) λu q ⟨x,r,k,z,f⟩=>dM (n pins q b r _ k f) λB D ⟨y,t,c,m,a,v,ex,g,l⟩=>?_;subst ex;obtain rfl:u=Value.ref a:=z;exact#[Av c g,EV w c g m λC E e p=>#[v,t,e,p,l]]
theorem vn(t:X.A.units+1<cLine)(m:PE X i ty)(e:PE X o td):PC X .NotIn i o<|Cn ty td:=by ext pins s b H Q I h;refine dM (m pins s b H _ I h) λw p ⟨y,q,j,l,d⟩=>dM (e pins p b q _ j d) λu z ⟨x,r,n,v,a,f,ex,g,k⟩=>?_;subst ex;obtain rfl:u=Value.ref a:=v;exact K1 t n g l λB c=>#[.bl<|!f.isSome,r,c,rfl,k]
theorem qv(q:X.A.units+1<cLine)(e:PE X o td)(B:PE X i ty)(k:PE X value tv)(c:swapsWith value (some<|.Subscript o i pos') pos.line X.env=pure false) :
  PS X (.Assign [.Subscript o i pos'] value pos) (LA td ty tv):=by
 ext pins s b H D I h;refine wpAny_Assign_Subscript (dM (k pins s b H _ I h) λr E ⟨v,G,m,F,d⟩=>dM (e pins E b G _ m d) λu l ⟨x,p,C,K,w⟩=>dM (B pins l b p _ C w) λM N ⟨y,O,t,z,a,n,ex,g,j⟩=>?_) c;subst ex;obtain rfl:u=Value.ref a:=K;exact EU q t g z F λL f=>#[b,n,f,j]
theorem Iq(h:Heap)(a:sysModules<h.x):bM P w H (h.push { cls:=.type "dict",data:=.dict #[] }) h.x<|.dK []:=
 #[zaS _,zez.mpr<|zaZ<|zaW a,[],.nil,Heap.DictOf.new h]
theorem Il(h:Heap)(a:sysModules<h.x):bM P w H (h.push { cls:=.type "dict",data:=.dict #[] }) h.x<|.dT []:=
 #[zaS _,zez.mpr<|zaZ<|zaW a,[],.nil,_,#[],0,zaX _ rfl,#[rfl,rfl,rfl],rfl,rfl,zeH]
noncomputable def MC:TE:=λ_ H Q=>∀p,H p=none->Q (.ref p) (upd H p<|.dT [])
theorem se:PE X (.Dict [] [] pos) MC:=λpins s a H Q I h=>
 wpAny_Dict_empty #[.ref s.y,_,I.laid (λ_ _ q=>zav _ q) (zai _)<|Il s.heap I.big,rfl,h _<|I.bW.fresh<|zai _]
noncomputable def Bc:List (TE×TE)->St->Hp->(List (V×V)->Hp->Prop)->Prop
 | [],_,H,Q=>Q [] H
 | (tk,tv)::r,σ,H,Q=>tk σ H λx b=>tv σ b λy a=>Bc r σ a λc d=>Q ((x,y)::c) d
abbrev VV:List (V×V)->List (Value×Value)->Prop:=Paired λp q=>RelV p.1 q.1/\RelV p.2 q.2
noncomputable def SR(X:Cx)(a:Pos)(keys:List<|Option Expr)(values:List Expr)(e:List<|TE×TE):Prop:=
 ∀(pins:b6) (s:Shared) (b:St) (H:Hp) (Q:List (V×V)->Hp->Prop),Inv X pins b H s->Bc e b H Q->
  wpAny (model X.prog X.w) X.A (evalPairs<|pairTrees keys values X.env a) (λvs f=>∃c d,Inv X pins b d f/\VV c vs/\Q c d) X.xe s
theorem J3:SR X pos [] [] []:=λpins s a H Q I h=>pairTrees_nil_walk #[[],H,I,.nil,h]
theorem GQ(p:PE X k tk)(m:PE X v tv)(n:SR X pos ks vs Jx) :
  SR X pos (some k::ks) (v::vs) ((tk,tv)::Jx):=λpins s a H Q I h=>
 pairTrees_cons_walk (dM (p pins s a H _ I h) λu q ⟨x,t,i,z,e⟩=>dM (m pins q a t _ i e) λB g ⟨y,w,o,l,j⟩=>
  dM (n pins g a w _ o j) λA C ⟨d,r,c,b,f⟩=>#[(x,y)::d,r,c,.cons #[z,l] b,f])
noncomputable def kF(c more:List<|Key×V):List<|Key×V:=more.foldl (λa b=>dV a b.1 b.2) c
theorem KV.merge:∀{more:List<|Key×V} {b:List<|Key×Value} {a:List<|Key×V} {vs:List<|Key×Value},KV more b->KV a vs->KV (kF a more) (merged vs b):=by
 ext more b a vs r;unfold KV at r;induction r generalizing a vs with
 | nil=>intro q;exact q
 | @cons p q f g h t d=>
  ext c;let e:KV (dV a p.1 p.2)<|stored vs q.1 q.2:=by let:=c.put p.1 h.2;erw[<-h.1,this]
  exact d e
theorem lX:∀(more a:List<|Key×V),(kF a more).z<=a.z+more.z
 | [],a=>by show a.z<=a.z+0;lia
 | p::r,a=>by let b:=lX r<|dV a p.1 p.2;let c:=kL a p.1 p.2;show(kF (dV a p.1 p.2) r).z<=_;rw[zbd];lia
theorem tJ{P:Program}{w:World}:∀{e:List<|Key×V} {g:List<|Value×Value},VV (e.map λf=>(kV f.1,f.2)) g->∃d,Carries (c9 P w) g d/\KV e d
 | [],_,r=>by rw[map_nil]at r;cases r;exact#[[],True.intro,.nil]
 | p::e,_,r=>by
  rw[zbg]at r;cases r with
  | @cons a b i bs h t=>
   let#[d,c,q]:=tJ t;let#[b1,b2]:=b;exact#[(p.1,b2)::d,#[Ad h.1,rfl,c],.cons #[rfl,h.2] q]
noncomputable def Pp(f:List<|TE×TE):TE:=λe H Q=>∀p,H p=none->Bc f e (upd H p<|.dK []) λd c=>c p=some (.dK [])/\∃a:List (Key×V),d=a.map (λb=>(kV b.1,b.2))/\a.z<=15/\Q (.ref p) (upd c p<|.dK<|kF [] a)
theorem J4(h:SR X pos keys values Jx)(k:keys.all (·.isSome)=true)(o:keys.z=values.z)(A:keys≠[])(m:keys.z<=15):PE X (.Dict keys values pos)<|Pp Jx:=by
 ext pins s v H Q I q;let y:=I.bW.fresh<|zai s.y;let l:=I.laid (t':=s.toks) (λ_ _ q=>zav _ q) (zai _)<|Iq s.heap I.big;refine wpAny_Dict_walk (knd:=c9 X.prog X.w) k o A m<|dM (h pins _ v _ _ l<|q _ y) λF C ⟨E,D,f,a,e,d,n,lk,x⟩=>?_;subst n;let#[p,c,rk]:=tJ a;let#[z,r,B,i,dd]:=Mc f.bW e;cases i;refine#[p,c,dd,λh' b g=>#[.ref s.y,_,?_,rfl,x]];let t:(kF [] d).z<=sizeLine:=by let u:=lX d [];rw[zdQ]at u;rw[zcA];lia
 let j:∃q,h'.get? s.y=some q:=let ⟨q,_,_,hq,_⟩:=b;#[q,hq]
 exact xZ f (by erw[e,True.intro]) g j<|Ip t r (rk.merge .nil) b
end L2
namespace XF
open PySem PySem.W PySem.Calls PyProof.Rows
theorem qg:∀(ns:b9) (vs:bf),WellAll P h vs (ns.map WData.int)->IntsAre vs ns:=by
 ext ns;induction ns with
 | nil=>
  ext vs w;rw[map_nil]at w;cases w;exact .nil
 | cons n ns c=>
  ext vs w;rw[zbg]at w;cases w with
  | cons a b=>
   cases a;exact .cons _ _<|c _ b
theorem Ed{l:OpenLaw}{n:Nat}(s:l.most=some n){P:Params}{h:Heap}(f:l.row.toRowW.claim.pre args=true)(i:WellAll P h vals args) :
  ∃a vs ns,vals=[Value.ref a]/\args=[WData.list<|ns.map WData.int]/\h.get? a=some { cls:=.type "list",data:=.seq vs.toArray }/\IntsAre vs ns/\ns.z<=n:=by
 let t:=(pre_splitW f).1;let e:l.pre.holds [] { args:=args }=true:=(pre_splitW f).2;let#[d,r,rfl,g,u]:=hasAllW_cons t;obtain rfl:=hasAllW_nil u;let#[xs,rfl,v]:=hasW_list g;let#[ns,rfl]:=items_int v;let hlen:ns.z<=n:=by
  unfold OpenLaw.pre at e;let c:(WTm.not<|.lt (.lit<|.int (n:Int))<|.len<|.arg 0).holds [] { args:=[.list<|ns.map .int] }=true:=by let c:=(holds_andW e).1;rwa[s]at c
  let b:=condW_of c<|w_not<|w_lt w_lit<|w_len_list<|w_arg rfl;rw[zaa]at b;refine Nat.le_of_not_lt λq=>?_;let p:(n:Int)<((ns.z:Nat):Int):=();first
   | (rw[zaV p]at b;exact absurd b B!)
   | (simp at b;lia)
 cases i with
 | cons m o=>
  cases o;cases m with
  | list j k=>exact#[_,_,ns,rfl,rfl,j,qg ns _ k,hlen]
theorem Ek(l:OpenLaw)(args:List WData):l.row.toRowW.claim.post args (.bool true) args=true:=
 postW_of
  (show WShape.has [] (.bool true) .bool=true by first|rfl|decide|simp[WShape.has,WShape.arms,WShape.armsAll])
  (show(WTm.eq .res<|.lit<|.bool true).value [] { args:=args,res:=some<|.bool true,after:=args }=some (.bool<|true==true)from w_eq_bool (w_res rfl) w_lit) rfl
theorem AK{l:OpenLaw}{n:Nat}{j:(Str->Option Value)->Heap->Prop}{d:DefRec}(E:l.most=some n)(F:d.params.defaults=[])(call:∀(w:World) (s₀ b:Shared) (mg h:bx) (fa:Addr) (o:Obj) (i e c:Value) (a:Addr) (vs:bf) (ns:b9),
   Ground q loose [] j w s₀ mg h b.heap->YP w b.heap->
   b.heap.get? fa=some o->o.data=.func (docDef d.name d.params d.body d.scope i e c)->b.heap.CodeRec e d.name->mg d.name=fa.e->
   b.heap.get? a=some { cls:=.type "list",data:=.seq vs.toArray }->IntsAre vs ns->ns.z<=n->b.gens=#[]->
   codeAny (model l.prog w) callerA (.call (.ref fa) #[[.ref a],[]]) (λr g=>r=.ok (.ret<|.bool true)/\OldK b.heap g.heap/\g.os=b.os/\AllBare g.gens) b) :
  WalkO q loose j YP l.row.toRowW d [] (λf vs=>PySem.call f vs):=by
 ext w s₀ b mg h G Y fa o i e c t kV p y A k C u args vals L z M D m K;obtain rfl:t=.none:=Dflts.none k F;obtain rfl:kV=.none:=Dflts.noKw k;let#[a,vs,ns,rfl,rfl,v,hints,hlen]:=Ed E z m;refine enter_call<|codeAny_mono (call w s₀ b mg h fa o i e c a vs ns G Y p (fd_plain y) A C v hints hlen u) λr g I=>?_;let#[rfl,x,H,B]:=I;exact#[.inl #[.bool true,.bool true,[],rfl,λ_=>rfl,.bool true,Ek l _,λ_=>#[List.Pairwise.nil,λ_ s=>(nomatch s)]],x,H,B]
end XF
namespace L2
open PySem PySem.Spec PyProof.Rows
theorem oA:∀{vs:bf} {ns:b9},IntsAre vs ns->Vals ns.c vs
 | _,_,.nil=>.nil
 | _,_,.cons n t h=>.cons #[t,rfl]<|oA h
noncomputable def OC(H:Hp):Prop:=∀b,H b=none\/∃o xs,H b=some (.lA o<|.lst xs)
theorem HB{P:Program}{w:World}{K:zcT}{mg A:bx}{B:Cf}{k:Nat}{fa a:Addr}{E:FuncData}{x:Str}{Q:Sp}{c:Shared}{vs:bf}{ns:b9}(N:K.In c.heap)(D:c.heap.Ns mainGlobals mg)(f:c.heap.Ns builtinsNs A)(ZM:∀x:Str,x≠ "__name__"->A x=bootBuiltins x)(Uh:c.heap.NoLimit)(hg:c.gens=#[])(j:c.heap.get? a=some { cls:=.type "list",data:=.seq vs.toArray })(R:IntsAre vs ns)(M:ns.z<=sizeLine)(Z:gC k callerA)(F:∀base:Heap,K.In base->base.Ns mainGlobals mg->uT P w K mg base B k fa E [x] Q)(QX:∀(s:Shared) (u:Value),BindsTo s E #[[u],[]] [(x,u)])(U:∀H:Hp,OC H->aK K H a ns.c->Q [.ref a] H (λv _=>v=.bl true) λ_ _ _=>False)(W:∀H e g,B [] H c (λ_ _ _=>False) e g->False) :
  codeAny (model P w) callerA (.call (.ref fa) #[[.ref a],[]]) (λr g=>r=.ok (.ret<|.bool true)/\OldK c.heap g.heap/\g.os=c.os/\AllBare g.gens) c:=by
 let G:=oA R;let TF:=R.z;let core:∀H:Hp,OC H->aK K H a ns.c->lE P w H c.heap->(∀b,H b≠none->b=a)->(H a≠none->K.lookup a=none)->
   codeAny (model P w) callerA (.call (.ref fa) #[[.ref a],[]]) (λr g=>r=.ok (.ret<|.bool true)/\OldK c.heap g.heap/\g.os=c.os/\AllBare g.gens) c:=by
  ext H I hS S L hK;let T:∀{b:Addr} {o:Obj},c.heap.get? b=some o->H b=none->(xK c.heap H).get? b=some o:=λe n=>HQ e n;let Qc:∀{b:Addr} {o:Obj} {p:Array DictEntry} {t:Nat},c.heap.get? b=some o->o.data=.dict p t->H b=none:=λ{b o p t} e d=>by
   cases q:H b with
   | none=>rfl
   | some u=>
    let y:=L b (by rw[q];simp);subst y;rw[j]at e;cases e;let Y:=d;cases Y
  let l:∀{b:Addr} {m:bx},c.heap.Ns b m->(xK c.heap H).Ns b m:=λ{b m} ⟨o,p,t,e,d,r⟩=>#[o,p,t,T e<|Qc e d,d,r];let C:K.In<|xK c.heap H:=λb o e=>T (N b o e) (by
   cases q:H b with
   | none=>rfl
   | some u=>
    let y:=L b (by rw[q];simp);subst y;rw[hK<|by rw[q];simp]at e;cases e)
  let hM:Mod K mg<|xK c.heap H:=#[C,l D,#[A,l f,ZM],let ⟨mc,h1,h2⟩:=Uh;#[mc,l h1,h2]];let X:Ll P w K mg (xK c.heap H) callerA [] c H:=#[rfl,hM,λb o e=>Ke e,Nat.le_of_eq<|EL _ _,trivial,λb f=>absurd (show b∈([]:bp)from f) A?,S,.of_eq hg];refine codeAny_mono ((F _ C<|l D).run callerA [] c H #[[.ref a],[]] [.ref a] [.ref a] _ _ Z X (QX c<|.ref a) (.cons rfl .nil)<|U H I hS) λr g h=>?_;cases r with
  | error e=>exact(W H e g h).elim
  | ok fl=>
   cases fl with
   | next=>exact False.elim h
   | brk=>exact False.elim h
   | cont=>exact False.elim h
   | ret u=>
    let#[v,H',os,bare,un,T9,r',q]:=h;let q':=q;subst q';obtain rfl:u=Value.bool true:=r';refine#[rfl,OldK.of_keep λb o e=>?_,os,bare];cases q:H b with
    | none=>exact un.keep b o e q (by ext z;exact absurd (show b∈([]:bp)from z) A?) A?
    | some u=>
     ext(z|⟨ob,xs,z⟩:I b);rw[q]at z;cases z;let z2:=un.tm b ob _ z;let#[O,_]:=S b _ z;let#[e2,_]:=T9 b _ z2;rw[e]at O;cases O;exact e2
 cases hk:K.lookup a with
 | some o=>
  let e:=N a o hk;rw[j]at e;cases e;refine core (λ_=>none) (λ_=>.inl rfl) (.inr #[_,vs.toArray,_,hk,rfl,rfl,rfl,by erw[zaM,TF,M],by simpa using G]) (λb u z=>by let i:=z;cases i) (λb z=>absurd rfl z) λz=>absurd rfl z
 | none=>
  refine core (λb=>if b=a then some (.lA { cls:=.type "list",data:=.seq vs.toArray }<|.lst ns.c)else none) (λb=>?_) (.inl<|.inr #[{ cls:=.type "list",data:=.seq vs.toArray },zad rfl]) (λb u z=>?_) (λb z=>?_) λ_=>hk;by_cases f:b=a;exact .inr #[_,_,zad f];exact .inl<|zab f;by_cases f:b=a;let i:=(zad f).symm.trans z;cases i;subst f;exact#[j,by erw[zaa,M],vs,_,G,j];let i:=(zab f).symm.trans z;cases i;by_cases f:b=a;exact f;exact absurd (zab f) z
theorem Ju{l:PySem.W.OpenLaw}{n k:Nat}{q:Program}{loose:List Str}{D:(Str->Option Value)->Heap->Prop}{r:World->Heap->Prop}{d:DefRec}{K:Params->zcT}{m:World->Cf}{t:World->Sp}{x:Str}(Q:l.most=some n)(M:n<=sizeLine)(R:d.params.defaults=[])(P:gC k callerA)(B:∀(w:World) (h:Heap),r w h->(K w.params).In h)(F:∀(w:World) (mg:bx) (fa:Addr) (h:Heap),(K w.params).In h->h.Ns mainGlobals mg->mg d.name=fa.e->
   ∃j:FuncData,(∀(s:Shared) (u:Value),BindsTo s j #[[u],[]] [(x,u)])/\
    ∀base:Heap,(K w.params).In base->base.Ns mainGlobals mg->uT l.prog w (K w.params) mg base (m w) k fa j [x] (t w))(z:∀(w:World) (H:Hp) (a:Addr) (ns:b9),ns.z<=n->OC H->aK (K w.params) H a ns.c->t w [.ref a] H (λv _=>v=.bl true) λ_ _ _=>False)(C:∀(w:World) (H:Hp) (s:Shared) (e:Value) (i:Shared),m w [] H s (λ_ _ _=>False) e i->False) :
  PySem.W.WalkO q loose D r l.row.toRowW d [] (λf vs=>PySem.call f vs):=by
 refine XF.AK Q R λw s₀ c mg mb fa o pm X y a vs ns G Y U Z jc N I hints hlen E=>?_;let p:=B w _ Y;let#[j,A,O]:=F w mg fa _ p G.T.g N;exact HB p G.T.g G.T.b G.T.builtins G.T.nolimit E I hints (zaI hlen M) P O A (λH S L=>z w H a ns hlen S L) λH e i=>C w H c e i
noncomputable def gS(s:Stmt):Arguments:=match s with
 | .FunctionDef _ a _ _ _ _ _ _ _ _=>a
 | _=>{ posonlyargs:=[],args:=[],vararg:=none,kwonlyargs:=[],kw_defaults:=[],kwarg:=none,defaults:=[] }
noncomputable def fB(s:Stmt):List Stmt:=match s with
 | .FunctionDef _ _ b _ _ _ _ _ _ _=>b
 | _=>[]
noncomputable def aH(s:Stmt):Scope:=match s with
 | .FunctionDef _ _ _ _ _ _ sc _ _ _=>sc
 | _=>{ kind:=.function,names:=[],isGenerator:=false,isCoroutine:=false }
abbrev E0:XK:=λ_ _ _=>False
structure OF(K:zcT)(x qual:Str)(st:Stmt)(f:Addr)(fd:FuncData):Prop where
 ex:∃(oc:Value) (od:Option Addr) (kV doc pm:Value) (an:Option Addr) (dQ ct:Value) (I8:Array<|Option Value),
  fd=PySem.W.fnOf x qual (gS st) (fB st) (aH st) .none kV doc pm an dQ ct/\K.lookup f=some #[oc,od,.func fd,I8]/\PySem.W.codeIn K dQ qual=true
 kp:PySem.W.keepIn K (.ref f)=true
section
variable {P:Program} {w:World} {K:zcT} {mg:bx} {base:Heap}
theorem OF.binds{x qual:Str}{st:Stmt}{g:FuncData}(F:OF K x qual st f g)(h:∀(kV a d:Value) (e:Option Addr) (b ct:Value) (c:bf),c.z=ps.z->bindArgs (PySem.W.fnOf x qual (gS st) (fB st) (aH st) .none kV a d e b ct) #[c,[]]=pure (ps.zip c)):Binds K g ps []:=by let#[k,i,kV,a,d,e,b,ct,j,rfl,lk,l]:=F.ex;exact .all<|h kV a d e b ct
theorem BO{x qual:Str}{st:Stmt}{f:Addr}{i:Value}{g e:Option Addr}{h:Array<|Option Value}{kV a d b ct:Value}(l:K.lookup f=some #[i,g,.func<|PySem.W.fnOf x qual (gS st) (fB st) (aH st) .none kV a d e b ct,h])(c:PySem.W.codeIn K b qual=true)(k:PySem.W.keepIn K (.ref f)=true):OF K x qual st f<|PySem.W.fnOf x qual (gS st) (fB st) (aH st) .none kV a d e b ct:=#[#[i,g,kV,a,d,e,b,ct,h,rfl,l,c],k]
end
theorem lY(hr:gC k A):A.units+1<cLine:=zbj (Nat.add_le_add_left (by decide:1<=64) _) hr.units
section
variable {X:Cx}
theorem pv(i:Nat){x:Str}{a:Pos}(e:X.N[i]?=some x:=by rfl)(b:SO X.env.scope x:=by first|exact Or.inl rfl|exact Or.inr (Or.inl rfl) | exact Or.inr<|Or.inr rfl)(c:(x==("__debug__":Str))=false:=by decide)(d:(x==("__classdict__":Str))=false:=by decide):PE X (.Name x a)<|eX i:=M1 e b c d
theorem E7:fJ X (.builtin "len") (λxs H Q=>∃a aT,xs=[V.ref a]/\H a=some (.dK aT)/\Q (.int aT.z) H):=by ext pins s σ H xs us Q I r h;let#[a,aT,rfl,ha,q]:=h;let#[u,rfl,ru]:=vals1 r;cases ru;exact Ro I (.inl ha) λt s' I'=>#[.int aT.z,H,I',#[t,rfl],q]
end
theorem Kv{A B:Prop}(h:B):if false=true then A else B:=by erw[zab zaC,h]
theorem Nz{A B:Prop}(h:A):if true=true then A else B:=by erw[zad rfl,h]
noncomputable def ai(H a:Hp):Prop:=∀b o,H b=some o->a b=some o
theorem ai.trans(a:ai H H1)(b:ai H1 H2):ai H H2:=λc o h=>b c o<|a c o h
theorem ai.free(e:ai H H')(h:H' l=Option.none):H l=Option.none:=by
 cases q:H l with
 | none=>rfl
 | some o=>
  rw[e l o q]at h;cases h
theorem ai.seq{K:zcT}{H b:Hp}{a:Addr}{xs:List V}(e:ai H b)(h:aK K H a xs):aK K b a xs:=by ext((h|⟨o,h⟩) | h:h);exact .inl<|.inl<|e _ _ h;exact .inl<|.inr #[o,e _ _ h];exact .inr h
end L2
namespace L2
open PySem PySem.Spec PyProof.Rows
noncomputable def Sz(n:Nat)(x:Int):Prop:=x.natAbs<2 ^ n
theorem Sz.mono(h:Sz m x)(a:m<=n):Sz n x:=zaG h<|zbK B! a
theorem Sz.le(h:Sz n y)(a:x.natAbs<=y.natAbs):Sz n x:=zbj a h
theorem Sz.mul(a:Sz m x)(b:Sz n y):Sz (m+n)<|x*y:=by unfold Sz at *;erw[zbG,Nat.pow_add,Nat.mul_lt_mul'' a b]
theorem Sz.neg(a:Sz n x):Sz n<|-x:=by unfold Sz at *;erw[zeP,a]
theorem Sz.sC(a:Sz m x)(b:Sz n y)(c:m+n<=134217728:=by decide):IntMulOk x y:=
 PySem.IntMulOk.of_le (PySem.intBits_le_iff.mpr a) (PySem.intBits_le_iff.mpr b) c
theorem fj:pE X (binaryOp .Mult)<|rI IntMulOk λi j=>.int<|i*j:=P8 λ_ _ _ _ _ _ _ a q=>mul_int q a
noncomputable def IX(_ j:Int):Prop:=j≠0/\Sz 9000 j
theorem IX.np(h:IX i j):Builtin.divisionGoesByPylong i j=false:=by refine PyProof.noPylong_of_log2 ?_;let a:j.natAbs≠0:=λe=>h.1<|Int.natAbs_eq_zero.mp e;exact(Nat.log2_lt a).mpr h.2
theorem xf:pE X (binaryOp .FloorDiv)<|rI IX λi j=>.int<|i.fdiv j:=P8 λ_ _ _ _ _ _ _ a q=>floordiv_int a.1 q<|.inl a.np
noncomputable def RS(_ j:Int):Prop:=0<j/\Sz 9000 j
theorem ie:pE X (binaryOp .FloorDiv)<|rI RS λi j=>.int<|i / j:=P8 λi j _ _ _ _ _ hc q=>by let h1:=hc.1;exact floordiv_int () (by erw[Int.fdiv_eq_ediv_of_nonneg i (),q])<|.inl<|IX.np #[(),hc.2]
structure cE(P:Program)(w:World)(K:zcT)(mg:bx)(base:Heap)(CX:Cf)(x:Str)(k:Nat)(ps:List Str)(sp:Sp):Prop where
 ex:∃f fd,uT P w K mg base CX k f fd ps sp/\mg x=f.e/\PySem.W.keepIn K (.ref f)=true/\Binds K fd ps []
section
variable {X:Cx} {CX:Cf} {k j:Nat} {ps:List Str} {sp:Sp} {E:XK} {x:Str} {p pos:Pos} {e:Expr} {es:List Expr} {t:TA}
theorem az(h:cE X.prog X.w X.K X.mg X.base CX x k ps sp)(o:gC j X.A)(a:Passes CX X E)(n:PA X (e::es) t)(i:k<=j:=by decide)(b:Gl X x:=by rfl)(c:(x==("__debug__":Str))=false:=by decide)(l:starEach (e::es) X.env=(false,eval e X.env)::starEach es X.env:=by rfl)(q:(backTo pos<|starEach es X.env).any (·.1)=false:=by rfl) :
  PE X (.Call (.Name x p) (e::es) [] pos) (FR sp [] E t):=by
 let#[f,r,F,m,d,g]:=h.ex;exact Ka F (o.mono i) b m d g .nil a n c l q
end
inductive Lm:V->Value->Prop where
 | ty (n:String):Lm (.ty n) (.type n)
 | ref (a:Addr):Lm (.ref a) (.ref a)
noncomputable def LJ(K:zcT):List V->Hp->VK->Prop:=λxs H Q=>∃x c t u b,xs=[x,c]/\ou K H x t/\Lm c u/\PySem.W.kitOne K t u=some b/\Q (.bl b) H
theorem vO:fJ X (.builtin "isinstance")<|LJ X.K:=by
 ext pins s m H xs l Q I r h;let#[x,c,t,u,b,rfl,j,d,e,q]:=h;let#[n,a,rfl,i,g]:=vals2 r;let f:a=u:=by cases d<;>(cases g;rfl)
 subst f;exact EF I i j e λk=>#[.bl b,H,I.tok _,rfl,q]
section
variable {X:Cx} {pins:b6} {σ:St} {H:Hp} {s:Shared} {h':Heap}
theorem Inv.iY{t':Nat}{ch:bp}{a:Addr}{o:HO}(I:Inv X pins σ H s)(k:∀b u,b∉ch->s.heap.get? b=some u->h'.get? b=some u)(h:∀b∈ch,qh X pins H b)(l:s.y<=a)(i:bM X.prog X.w (upd H a o) h' a o):Inv X pins σ (upd H a o) { s with heap:=h',toks:=t' }:=by
 let f:=I.bW.fresh l;let j:∀b u,H b=some u->b∉ch:=λb u e z=>by rw[(h b z).1]at e;cases e
 refine I.step (λb g=>?_) (λb o _ _ d e _=>k b o d e) (λb o _ _ d e _=>#[o.slots,k b o d e]) (λb u _ e n=>?_) (λb o d e=>#[o,k b o d e])
  (λb xs e=>by erw[aG<|bo e f,e]) (λb u v e=>by erw[aG<|bo e f,e]) (λb E e=>#[#[],by rw[aG<|bo e f,e];simp]) (λm x=>?_) (λb u e=>?_) I.bare
 let#[f0,D,F,y,B,C]:=h b g;exact#[y,D,B,C];rw[aG<|zaW<|zaG (zan e) l];exact n;let#[o,p,A,t,r]:=x;exact#[o,p,A,k _ o (λz=>(h _ z).2.1 rfl) t,r];by_cases g:b=a;subst g;rw[ah]at e;cases e;exact i;rw[aG g]at e;refine(I.bW b u e).jW (λc v d q=>k c v ?_ q) (λc q=>by erw[aG<|bo q f,q]) λc xs q=>by erw[aG<|bo q f,q]
 ext(z|z:d);rw[z];exact j b u e;exact j c _ z
theorem Inv.Ck{t':Nat}{ch:bp}(I:Inv X pins σ H s)(k:∀b u,b∉ch->s.heap.get? b=some u->h'.get? b=some u)(d:∀b∈ch,qh X pins H b):Inv X pins σ H { s with heap:=h',toks:=t' }:=by
 let f:∀b u,H b=some u->b∉ch:=λb u e z=>by rw[(d b z).1]at e;cases e
 refine I.step (λb i=>?_) (λb o _ _ a e _=>k b o a e) (λb o _ _ a e _=>#[o.slots,k b o a e]) (λb u _ e n=>n) (λb o a e=>#[o,k b o a e])
  (λb xs e=>e) (λb u v e=>e) (λb y e=>#[#[],by rw[e];simp]) (λm l=>?_) (λb u e=>?_) I.bare
 let#[f0,x,A,p,g,w]:=d b i;exact#[p,x,g,w];let#[o,h,t,j,r]:=l;exact#[o,h,t,k _ o (λz=>(d _ z).2.1 rfl) j,r];refine(I.bW b u e).jW (λc v a q=>k c v ?_ q) (λc q=>q) λc xs q=>q;ext(z|z:a);rw[z];exact f b u e;exact f c _ z
end
noncomputable def RN(K:zcT)(a:Addr):It:=
 #[λi H=>∃xs x,aK K H a xs/\xs[i]?=some x,
  λi H x b=>∃p y,H p=none/\x=.ref p/\(∀xs,aK K H a xs->xs[i]?=some y)/\b=upd H p (.tup [.int i,y]),
  λi H=>∃xs,aK K H a xs/\xs.z<=i]
theorem Ea{P:Program}{w:World}{K:zcT}{elts:List Expr}{kx:Nat}{px:Pos}(a e it:Addr)(G:e≠it) :
  Turn P w K (.Tuple elts kx px) (RN K a) [e,it] e (λi h=>(∃g,IsEnum h e it (i:Nat) g)/\h.IsListIter it a i) where
 mem:=by simp
 obj:=λi h st b j=>by
  let#[#[g,l],f]:=st;ext(rfl|j:zas.mp j);exact#[_,l,λv z=>by cases z];obtain rfl:b=it:=by simpa using j
  let#[o,e1,c,d]:=f;exact#[o,e1,λv z=>by rw[d]at z;cases z]
 keep:=λi h h' st k=>by let#[#[g,l],f]:=st;exact#[#[g,k e A? _ l],f.at λo q=>k it A? o q]
 item:=by
  ext X y t A L i pins s σ H E I n st B;subst y t A;let#[#[g,l],f]:=st;let#[xs,x,r,D]:=B;let#[aX,F,p,W]:=I.list r;let#[u,T,ru]:=F.get D;let M:=zan l;let Uq:it<s.y:=by let#[_,q,_]:=id f;exact zan q
  refine wpAny_pyNext_enum_item l f p.isList (by simpa using T) G λh' N S U hsz Q=>#[_,rfl,?_];refine wpAny_letOwnedTupleGo_enum N λC BL m=>?_;replace m:Heap.SameBut e h' C:=m;let hn:=I.bW.fresh<|zai _;let R:∀b o,b∉[e,it]->s.heap.get? b=some o->C.get? b=some o:=λb o j q=>(m.2 b λz=>j<|by simp[z]).trans<|Q b o (λz=>j<|by simp[z]) (λz=>j<|by simp[z]) q;let Z:=(m.2 _<|zbM M).trans U;refine#[.ref s.y,upd H s.y<|.tup [.int i,x],Inv.iY (s:=s) (h':=C) (t':=s.toks+1) I R n (zai _) #[by simp[zbd,zdQ];rw[zcA];decide,[.int i s.toks,u],.cons #[_,rfl]<|.cons ru .nil,#[_,Z,rfl,_,rfl]],rfl,
   #[_,x,hn,rfl,λys Y=>by erw[I.nM Y r,D],rfl],#[#[_,BL],S.at λo q=>(m.2 it<|zaZ G).trans q],λb j=>?_]
  rw[aG ?_];exact(n b j).1;ext(rfl|j:zas.mp j);exact zaW M;obtain rfl:b=it:=by simpa using j
  exact zaW Uq
 done:=by ext X y t A L i pins s σ H E I n st B;subst y t A;let#[#[g,l],f]:=st;let#[xs,r,D]:=B;let#[aX,F,p,W]:=I.list r;let hl:=F.z;exact wpAny_pyNext_enum_end (I.ok.hd L) l f p.isList (by simp;lia) λh' O=>#[rfl,Inv.Ck I (λb o j q=>O b o (λz=>j<|by simp[z]) q) n]
 self:=λ_ _ _ _ _ st h=>by let#[#[g,l],f]:=st;exact wpAny_pyIter_enum l h
noncomputable def Qy(K:zcT)(d:TA):TI:=λc H R=>d c H λvs b=>∃a,vs=[.ref a]/\(∃xs,aK K b a xs)/\R (RN K a) b
theorem ny{X:Cx}{l:Expr}{k:TA}{p d:Pos}{elts:List Expr}{B:Nat}{C:Pos}(w:X.mg "enumerate"=none)(x:PA X [l] k)(y:Gl X "enumerate":=by rfl)(r:starEach [l] X.env=[(false,eval l X.env)]:=by rfl) :
  PI X (.Tuple elts B C) (.Call (.Name "enumerate" p) [l] [] d) (Qy X.K k):=by
 ext pins s m H R I h;refine Call_<|eJ I y w boot_enumerate<|zaP (dM (x d pins s m H _ I h) λG f ⟨vs,n,c,A,t⟩=>?_) r rfl;let#[a,rfl,#[xs,F],q]:=t;let#[u,rfl,E]:=vals1 A;cases E;let#[N,M,v,L]:=c.list F;refine call_enumerate_list v.isList λh' j i hsz z=>?_;refine wpAny_pyIter_enum j ?_;let D:Inv X pins m n { f with heap:=h' }:=c.kept λb o e=>z b o e;refine#[_,[f.y+1,f.y],_,_,n,rfl,D,Ea a _ _<|Nat.succ_ne_self _,#[#[_,j],i],λb g=>?_,q];ext(rfl|g:zas.mp g);exact c.xV (zdy _)<|c.bW.fresh<|zdy _;obtain rfl:b=f.y:=by simpa using g
 exact c.xV (zai _)<|c.bW.fresh<|zai _
theorem kR{K:zcT}{a:Addr}{xs:List V}{g:TG}{l:TS}{D:Ends}{b:St}{H:Hp}(c:Nat->St->Hp->Prop)(z:c 0 b H)(v:∀i b H,i<=xs.z->c i b H->aK K H a xs)(o:∀i x p b H,xs[i]?=some x->c i b H->H p=none->g (.ref p) b (upd H p<|.tup [.int i,x]) λd j=>l { D with nx:=c<|i+1,ct:=c<|i+1,bk:=D.nx } d j)(w:∀b H,c xs.z b H->D.nx b H) :
  ∃W:Nat->Nat->St->Hp->Prop,(∃m,W 0 m b H)/\∀i m b H,W i m b H->
   ((RN K a).stop i H/\D.nx b H)\/((RN K a).go i H/\∃N:St->Hp->Prop,(∀f h,N f h->∃n,n<m/\W (i+1) n f h)/\∀x h,(RN K a).A6 i H x h->g x b h λd j=>l { D with nx:=N,ct:=N,bk:=D.nx } d j):=by
 refine#[λi m b H=>m=xs.z-i/\i<=xs.z/\c i b H,#[xs.z,by simp,zaS _,z],?_];ext i m b H ⟨rfl,t,p⟩;let q:=v i b H t p;by_cases k:i<xs.z;refine .inr #[#[xs,xs[i],q,by simp[k]],c<|i+1,λf h u=>#[xs.z-(i+1),(),rfl,k,u],λx h y=>?_];let#[r,y,s,rfl,A,rfl]:=y;exact o i y r b H (A xs q) p s;let e:i=xs.z:=();subst e;exact .inl #[#[xs,q,zai _],w b H p]
theorem dy(h:σ[i]?=some (some v))(q:Q v H):eX i σ H Q:=#[v,h,q]
theorem r_c(q:Q v H):tC v σ H Q:=q
theorem di(h:ta σ H λx b=>tb σ b λy a=>r x y a Q):Cm r ta tb σ H Q:=h
theorem Gr(h:ta σ H λx a=>r x a Q):SY r ta σ H Q:=h
theorem gw(q:Q (g i j) H):Fm g (.int i) (.int j) H Q:=#[i,j,rfl,rfl,q]
theorem zv(c:C i j)(q:Q (g i j) H):rI C g (.int i) (.int j) H Q:=#[i,j,rfl,rfl,c,q]
theorem Gu(q:Q (g i) H):rU g (.int i) H Q:=#[i,rfl,q]
theorem CM(q:Q (.bl<|decide<|i=j) H):Td (.int i) (.int j) H Q:=#[rfl,by erw[oh,zds,q]]
theorem Gy(q:Q (.bl<|!decide (i=j)) H):Tb (.int i) (.int j) H Q:=#[rfl,by erw[oh,zds,q]]
theorem c4(h:t { D with nx:=u D } σ H):Mz t u D σ H:=h
theorem Bo(h:D.nx σ H):Lu D σ H:=h
theorem cB(h:te σ H λx a=>g x σ a D.nx):FT te g D σ H:=h
theorem dm(h:R (σ.set i<|some v) H):jU i v σ H R:=h
theorem ni(h:te σ H D.rt):MA te D σ H:=h
theorem oP(h:te σ H λ_ a=>D.nx σ a):Lv te D σ H:=h
theorem GA(h:c σ H λb a=>if b=true then t D σ a else u D σ a):Pn c t u D σ H:=h
theorem oM(h:t σ H λx a=>∃k,x=.bl k/\R k a):FO t σ H R:=h
theorem S8(h:t σ H λx a=>∃k,x=.bl k/\R k a):tB t σ H R:=h
theorem MU{k:Bool}{R:Bool->Prop}(h:R k):∃a,V.bl k=.bl a/\R a:=#[k,rfl,h]
theorem Gx(h:t σ H λc a=>R (!c) a):Pm t σ H R:=h
theorem GH(h:t σ H λc a=>if c=true then u σ a R else R false a):Pt t u σ H R:=h
theorem JS(h:t σ H λc a=>if c=true then R true a else u σ a R):VH t u σ H R:=h
theorem Bs(h:ta σ H λx a=>∃c,x=.bl c/\if c=true then tb σ a Q else Q (.bl false) a):Lx ta tb σ H Q:=h
theorem Gv(h:ta σ H λx a=>∃c,x=.bl c/\if c=true then Q (.bl true) a else tb σ a Q):Pk ta tb σ H Q:=h
theorem Bm(h:ta σ H λx a=>∃c,x=.bl c/\Q (.bl<|!c) a):Ls ta σ H Q:=h
theorem bj(h:R [] H):yN σ H R:=h
theorem aJ(h:ta σ H λx b=>tr σ b λxs a=>R (x::xs) a):j7 ta tr σ H R:=h
theorem mv(h:t σ H λvs a=>sp (vs++[]) a Q E):FR sp [] E t σ H Q:=h
theorem i5(h:t σ H λvs a=>r vs a Q):Pq r t σ H Q:=h
theorem pJ(h:t σ H λxs a=>xs.z<=sizeLine/\∀p,a p=none->Q (.ref p) (upd a p<|.tup xs)):My t σ H Q:=h
theorem rV(h:t σ H λxs a=>xs.z<=sizeLine/\∀p,a p=none->Q (.ref p) (upd a p<|.lst xs)):JA t σ H Q:=h
theorem cM(h:wi a H λJ j=>∃W:Nat->Nat->St->Hp->Prop,(∃m,W 0 m a j)/\∀i m a H,W i m a H->
 (J.stop i H/\D.nx a H)\/(J.go i H/\∃N:St->Hp->Prop,(∀c b,N c b->∃e,e<m/\W (i+1) e c b)/\∀x b,J.A6 i H x b->g x a b λd f=>tb { D with nx:=N,ct:=N,bk:=D.nx } d f)):Po wi g tb D a H:=h
theorem LN{A B:Prop}(h:A):if true=true then A else B:=Nz h
theorem Se{A B:Prop}(h:B):if false=true then A else B:=Kv h
theorem if2{c A B:Prop}[Decidable c](a:c->A)(b:¬c->B):if decide c=true then A else B:=by by_cases h:c;rw[zaV h];exact Nz<|a h;erw[zaQ h,Kv<|b h]
theorem jK{c A B:Prop}[Decidable c](a:¬c->A)(b:c->B):if(!decide c)=true then A else B:=by by_cases h:c;rw[zaV h];exact Kv<|b h;erw[zaQ h,Nz<|a h]
theorem ID:bootBuiltins "abs"=some (.builtin "abs"):=by decide +kernel
theorem bh:bootBuiltins "len"=some (.builtin "len"):=by decide +kernel
theorem l9:bootBuiltins "isinstance"=some (.builtin "isinstance"):=by decide +kernel
theorem IC:bootBuiltins "int"=some (.type "int"):=by decide +kernel
theorem K5:bootBuiltins "bool"=some (.type "bool"):=by decide +kernel
theorem yg:bootBuiltins "list"=some (.type "list"):=by decide +kernel
structure Def(K:zcT)(mg:bx)(x:Str)(st:Stmt)(ps:List Str):Prop where
 ex:∃f fd,OF K x x st f fd/\mg x=f.e/\Binds K fd ps []
theorem ai.upd(h:H p=none):ai H<|upd H p o:=λb u e=>by erw[aG<|bo e h,e]
section
variable {σ:St} {H:Hp} {Q:VK} {K:zcT}
theorem CL(h:SqT K H p xs)(a:j6 xs i=some v)(q:Q v H):JX K (.ref p) (.int i) H Q:=#[p,xs,i,v,rfl,rfl,h,a,q]
theorem aR(h:aK K H p xs)(a:j6 xs i=some v)(q:Q v H):JY K (.ref p) (.int i) H Q:=#[p,xs,i,v,rfl,rfl,h,a,q]
theorem Gz(d:ou K H x t)(a:Lm c u)(e:PySem.W.kitOne K t u=some b)(q:Q (.bl b) H):LJ K [x,c] H Q:=#[x,c,t,u,b,rfl,d,a,e,q]
theorem fE(h:SqT K H a xs)(b:xs.z=n)(q:t xs σ H R):KN K n t (.ref a) σ H R:=#[a,xs,rfl,h,b,q]
theorem gK(q:t v σ H λa b=>u vs a b R):DB t u (v::vs) σ H R:=#[v,vs,rfl,q]
theorem oO(q:R σ H):N9 [] σ H R:=#[rfl,q]
theorem Kt:PySem.W.kitOne K (.type "int") (.type "int")=some true:=by simp[PySem.W.kitOne]
end
end L2
namespace Fr
structure Vq(a b t u:Int):Prop where
 pos:0<u
 co:Int.gcd t u=1
 eq:t*b=a*u
 ta:t.natAbs<=a.natAbs
 ub:u.natAbs<=b.natAbs
theorem vH(a b:Int):((Int.gcd a b:Nat):Int) ∣ a:=Int.gcd_dvd_left _ _
theorem vG(a b:Int):((Int.gcd a b:Nat):Int) ∣ b:=Int.gcd_dvd_right _ _
theorem qM(a:Int)(c:b≠0):0<Int.gcd a b:=Int.gcd_pos_of_ne_zero_right _ c
theorem Hm(s:b≠0)(j:d=if b<0 then -((Int.gcd a b:Nat):Int)else((Int.gcd a b:Nat):Int)):Vq a b (a.fdiv d)<|b.fdiv d:=by
 let l:=qM a s;let#[x,i]:=vH a b;let#[y,e]:=vG a b;generalize t:Int.gcd a b=g at *;let q:(g:Int)≠0:=();let o:Int.gcd x y=1:=by
  let k:Int.gcd a b=g*Int.gcd x y:=by rw[i,e,Int.gcd_mul_left];simp
  rw[t]at k;exact Nat.eq_of_mul_eq_mul_left l ()
 let n:x.natAbs<=a.natAbs:=by rw[i,zbG];simp;exact zbY _ l
 let p:y.natAbs<=b.natAbs:=by rw[e,zbG];simp;exact zbY _ l
 by_cases r:b<0;rw[zad r]at j;let f:a.fdiv d=-x:=by
  rw[j,i];let:(g:Int)*x=-(g:Int)*(-x):=by rw[Int.neg_mul_neg]
  erw[this,zcc _ ()]
 let c:b.fdiv d=-y:=by
  rw[j,e];let:(g:Int)*y=-(g:Int)*(-y):=by rw[Int.neg_mul_neg]
  erw[this,zcc _ ()]
 let m:y<0:=by ext(h|h|h:Int.lt_trichotomy y 0);exact h;rw[h]at e;lia;let:=Int.mul_pos (show(0:Int)<g by lia) h;lia
 refine#[by rw[c];lia,by erw[f,c,Int.gcd_neg,Int.neg_gcd,o],?_,by erw[f,zeP,n],by erw[c,zeP,p]];rw[f,c];let k:x*b=a*y:=by
  calc x*b=x*(g*y):=by rw[<-e]
   _=(g*x)*y:=by rw[Int.mul_left_comm,zff]
   _=a*y:=by rw[<-i]
 rw[Int.neg_mul,Int.mul_neg,k];rw[zab r]at j;let f:a.fdiv d=x:=by erw[j,i,zcc _ q]
 let c:b.fdiv d=y:=by erw[j,e,zcc _ q]
 let m:0<y:=by ext(h|h|h:Int.lt_trichotomy y 0);let:=Int.mul_neg_of_pos_of_neg (show(0:Int)<g by lia) h;lia;rw[h]at e;lia;exact h
 refine#[by erw[c,m],by erw[f,c,o],?_,by erw[f,n],by erw[c,p]];rw[f,c]
 calc x*b=x*(g*y):=by rw[<-e]
  _=(g*x)*y:=by rw[Int.mul_left_comm,zff]
  _=a*y:=by rw[<-i]
theorem HX(a b:Int)(c:0<=a)(d:0<b):Int.gcd b (a%b)=Int.gcd a b:=by let#[m,rfl]:=zaD c;let#[n,rfl]:=zaD<|Int.le_of_lt d;show Nat.gcd _ _=Nat.gcd _ _;simp only[Int.natAbs_natCast,show((m:Int)%(n:Int)).natAbs=m%n by erw[<-Int.natCast_emod,Int.natAbs_natCast _]];rw[Nat.gcd_comm n<|m%n,<-Nat.gcd_rec,Nat.gcd_comm]
theorem KL(a b:Int):Int.gcd (if a<0 then -a else a) (if b<0 then -b else b)=Int.gcd a b:=by split<;>split<;>simp[Int.gcd_neg,Int.neg_gcd]
theorem KJ(a:Int)(b:0<=a):((Int.gcd a 0:Nat):Int)=a:=by simp[Int.gcd];lia
end Fr
namespace L2
open PySem PySem.Spec PyProof.Rows
theorem lh(e:St->Hp->Prop)(f:St->Hp->Nat)(k:e a H)(j:∀a H,e a H->c a H λb h=>if b=true then ∃N:St->Hp->Prop,(∀d g,N d g->∃i,i<f a H/\(i=f d g/\e d g))/\tb { D with nx:=N,ct:=N,bk:=D.nx } a h else D.nx a h):FK c tb D a H:=
 #[λm a H=>m=f a H/\e a H,#[_,rfl,k],by ext m a H ⟨rfl,p⟩;exact j a H p]
theorem w_turn{tb:TS}{bk:St->Hp->Prop}{σ:St}{Pv:St->Hp->Prop}{μ:St->Hp->Nat}{m:Nat}(h:tb { nx:=λσ' H'=>Pv σ' H'/\μ σ' H'<m,rt:=r,bk:=bk,ct:=λσ' H'=>Pv σ' H'/\μ σ' H'<m } σ H) :
  ∃N:St->Hp->Prop,(∀σ' H',N σ' H'->∃m',m'<m/\(m'=μ σ' H'/\Pv σ' H'))/\tb { nx:=N,rt:=r,bk:=bk,ct:=N } σ H:=#[_,λ_ _ p=>#[_,p.2,rfl,p.1],h]
theorem NG{A B:Prop}(h:B):if(!true)=true then A else B:=Kv h
theorem F2:2<=sizeLine:=by rw[zcA];decide
theorem S2:3<=sizeLine:=by rw[zcA];decide
theorem eg{a:Cf}{P:Program}{w:World}{K:zcT}{mg:bx}{base:Heap}{N:List Str}{q:Str}{c:Scope}{f:Addr}{b:Value}{A:Around}{o:List Env}{s:Shared}{H:Hp}{E:XK}:(om a P w K mg base N q c f b A o s H E).K=K:=rfl
section
variable {K:zcT}
theorem Nq:PySem.W.kitOne K (.type "int") (.type "bool")=some false:=by kernel_rfl
end
theorem mulL(h1 : -(2 ^ 64)<a)(c:a<2 ^ 64):IntMulOk a b:=.of_left<|intBits_le_64 h1 c
theorem mulR(h1 : -(2 ^ 64)<b)(c:b<2 ^ 64):IntMulOk a b:=.of_right<|intBits_le_64 h1 c
theorem Sz.XZ(h1 : -(2 ^ 64)<x)(b:x<2 ^ 64)(a:64<=n):Sz n x:=Sz.mono (by unfold Sz;lia) a
theorem qP(a:0<j)(b:j<2 ^ 64):RS i j:=#[a,Sz.XZ () b B!]
theorem C2(f:pE X (binaryOp op)<|rI C g)(k:PE X a<|tC<|.int i)(d:PE X b<|tC<|.int j)(c:C i j)(e:g i j=.int v):PE X (.BinOp a op b pos)<|tC<|.int v:=
 λpins s l H Q I h=>aA f k d pins s l H Q I #[i,j,rfl,rfl,c,by erw[e,h]]
theorem zH(d:pE X (binaryOp op)<|Fm g)(f:PE X a<|tC<|.int i)(c:PE X b<|tC<|.int j)(e:g i j=.int v):PE X (.BinOp a op b pos)<|tC<|.int v:=
 λpins s k H Q I h=>aA d f c pins s k H Q I #[i,j,rfl,rfl,by erw[e,h]]
end L2
namespace Kd
open PySem
noncomputable def Kp{b:Type}:Sem b->Prop
 | .pure _=>True
 | .raise _=>True
 | .unsupported _=>True
 | .finish _=>True
 | .rule _ k=>Kp<|k Unit.unit
 | .at _ k=>Kp<|k Unit.unit
 | .load _ _ k=>∀o,Kp<|k o
 | .update _ _ f k=>(∀o,(f o).dict=o.dict)/\Kp (k Unit.unit)
 | .alloc _ k=>∀a,Kp<|k a
 | .loadIfAlive _ k=>∀o,Kp<|k o
 | .point _ k=>Kp<|k Unit.unit
 | .register _ _=>True
 | .fresh k=>∀t,Kp<|k t
 | .ask k=>∀x,Kp<|k x
 | .choose _ _ k=>∀x,Kp<|k x
 | .os _ _ k=>∀x,Kp<|k x
 | .call ..=>False
 | .handled _ k=>∀x,Kp<|k x
 | .newGen _ k=>∀x,Kp<|k x
 | .genState _ k=>∀x,Kp<|k x
 | .resume ..=>False
 | .yield ..=>True
 | .stack k=>∀x,Kp<|k x
 | .fork ..=>True
 | .thread k=>∀x,Kp<|k x
 | .await ..=>True
noncomputable def Dc(e:Addr)(D:Option Addr)(h:Heap):Prop:=∃o,h.objs[e]?=some o/\o.dict=D
theorem Dc.upd(x:Dc e D h)(d:∀o,(f o).dict=o.dict):Dc e D<|h.update a f:=by
 let#[o,b,c]:=x;cases h with
 | mk objs l=>
  unfold Heap.update;by_cases q:a=e;exact#[f o,by simp only[Array.getElem?_modify,zad q];simp only at b;rw[b];rfl,by rw[d,c]];exact#[o,by simp[Array.getElem?_modify,zab q];exact b,c]
theorem Dc.push(x:Dc e D h)(o:Obj):Dc e D<|h.push o:=by
 let#[d,a,b]:=x;cases h with
 | mk objs l=>
  unfold Heap.push;let c:=(Array.getElem?_eq_some_iff.mp a).1;exact#[d,by simp[Array.getElem?_push,zab<|zaW c];exact a,b]
theorem Dc.of(a:h.get? e=some o)(b:o.dict=D):Dc e D h:=#[o,(Heap.get?_some_iff.mp a).1,b]
theorem Qq:∀{t:Sem α} {Q:α->Pos->Shared->Prop} {E:Value->Pos->Shared->Prop} {p:Pos} {s:Shared},Kp t->Dc e D s.heap->Sem.wp M Γ t Q E p s->
  Sem.wp M Γ t (λa p g=>Q a p g/\Dc e D g.heap) (λv p g=>E v p g/\Dc e D g.heap) p s:=by
 ext t;induction t with
 | pure a=>intro Q E p s _ d h;exact#[h,d]
 | raise v=>intro Q E p s _ d h;exact#[h,d]
 | unsupported _=>intro Q E p s _ d h;exact h
 | finish _=>intro Q E p s _ d h;exact h
 | rule _ k c=>intro Q E p s b d h;exact c Unit.unit b d h
 | «at» _ k c=>intro Q E p s b d h;exact c Unit.unit b d h
 | load a _ k c=>intro Q E p s b d h;let#[o,j,h]:=h;exact#[o,j,c o (b o) d h]
 | update a _ f k c=>intro Q E p s b d h;exact#[h.1,c Unit.unit b.2 (d.upd b.1) h.2]
 | alloc o k c=>intro Q E p s b d h;exact c _ (b _) (d.push o) h
 | loadIfAlive a k c=>intro Q E p s b d h;exact c _ (b _) d h
 | point _ k c=>intro Q E p s b d h;exact c Unit.unit b d h
 | register _ _ _=>intro Q E p s _ d h;exact h
 | fresh k c=>intro Q E p s b d h;exact c _ (b _) d h
 | ask k c=>intro Q E p s b d h;exact c _ (b _) d h
 | choose _ _ k c=>intro Q E p s b d h;exact#[h.1,c _ (b _) d h.2]
 | os _ _ k c=>intro Q E p s b d h;exact c _ (b _) d h
 | call=>intro Q E p s b d h;exact b.elim
 | handled _ k c=>intro Q E p s b d h;exact c _ (b _) d h
 | newGen _ k c=>intro Q E p s b d h;exact c _ (b _) d h
 | genState _ k c=>intro Q E p s b d h;let#[st,i,h]:=h;exact#[st,i,c _ (b _) d h]
 | resume=>intro Q E p s b d h;exact b.elim
 | yield=>intro Q E p s _ d h;exact h
 | stack k c=>intro Q E p s b d h;exact c _ (b _) d h
 | fork=>intro Q E p s _ d h;exact h
 | thread k c=>intro Q E p s b d h;exact c _ (b _) d h
 | await=>intro Q E p s _ d h;exact h
theorem HG{f:Type}{M:Model}{A:Around}{D:Option Addr}{t:Sem f}{Q:f->Shared->Prop}{s:Shared}(k:Kp t)(d:Dc e D s.heap)(h:wpAny M A t Q E s) :
  wpAny M A t (λa b=>Q a b/\Dc e D b.heap) (λv b=>E v b/\Dc e D b.heap) s:=λg p c=>Qq k d<|h g p c
theorem Kp.bind{d e:Type}{f:d->Sem e}(g:∀a,Kp<|f a):∀{m:Sem d},Kp m->Kp (m >>= f):=by
 ext m;show Kp m->Kp (Sem.bind m f);induction m with
 | pure a=>intro _;exact g a
 | raise v=>intro _;trivial
 | unsupported _=>intro _;trivial
 | finish _=>intro _;trivial
 | rule _ k c=>intro b;exact c Unit.unit b
 | «at» _ k c=>intro b;exact c Unit.unit b
 | load a _ k c=>intro b o;exact c o<|b o
 | update a _ f k c=>intro b;exact#[b.1,c Unit.unit b.2]
 | alloc o k c=>intro b a;exact c a<|b a
 | loadIfAlive a k c=>intro b o;exact c o<|b o
 | point _ k c=>intro b;exact c Unit.unit b
 | register _ _ _=>intro _;trivial
 | fresh k c=>intro b x;exact c x<|b x
 | ask k c=>intro b x;exact c x<|b x
 | choose _ _ k c=>intro b x;exact c x<|b x
 | os _ _ k c=>intro b x;exact c x<|b x
 | call=>intro b;exact b.elim
 | handled _ k c=>intro b x;exact c x<|b x
 | newGen _ k c=>intro b x;exact c x<|b x
 | genState _ k c=>intro b x;exact c x<|b x
 | resume=>intro b;exact b.elim
 | yield=>intro _;trivial
 | stack k c=>intro b x;exact c x<|b x
 | fork=>intro _;trivial
 | thread k c=>intro b x;exact c x<|b x
 | await=>intro _;trivial
theorem xG(a:Addr):Kp<|load a:=λ_=>trivial
theorem Ab(v:Value):Kp<|fieldsOf v:=by unfold fieldsOf;split;refine Kp.bind (λo=>?_)<|xG _;split;trivial;trivial;trivial
theorem nP(v:Value)(i:Nat):Kp<|field v i:=by unfold field;refine Kp.bind (λo=>?_)<|Ab v;split;trivial;trivial
theorem kM(v:Value)(i:Nat)(x:Value):Kp<|setField v i x:=by unfold setField;split;unfold updateField;refine Kp.bind (λo=>?_)<|xG _;split;split;exact#[λo=>by cases o with|mk c d dt sl=>cases dt<;>rfl,trivial];trivial;trivial;trivial
theorem xE(v:Value)(f:Option Addr):Kp<|setFlight v f:=by unfold setFlight;refine Kp.bind (λo=>?_)<|nP v 1;split;exact kM ..;trivial
theorem xF(b:String)(vs:bf):Kp<|newFields b vs:=by
 unfold newFields newObj;dsimp only;let h:Kp<|newObjAsIs (.type b)<|.fields vs.toArray:=by unfold newObjAsIs;exact λa=>trivial
 split;exact trivial;exact h
theorem HE:Kp stack:=λ_=>trivial
theorem Kr:Kp frameEnvs:=λ_=>trivial
theorem HF(f:Addr)(b:Bool):Kp<|entryPlaceOf f b:=by unfold entryPlaceOf;refine Kp.bind (λo=>?_) HE;split;trivial;trivial
theorem EC(env:Env)(outer:List Env):Kp<|behindIsImport env outer:=by unfold behindIsImport;split;trivial;split;trivial;refine Kp.bind (λx=>?_)<|nP _ _;trivial
theorem Ks(env:Env)(b:Bool)(l:List Env):Kp<|keptBack env b l:=by unfold keptBack;split;split;trivial;exact λ_=>trivial;trivial
theorem Aa:∀l:List Env,Kp (readyFrames l)
 | []=>trivial
 | env::outer=>by unfold readyFrames;split;refine Kp.bind (λo=>?_)<|xG _;split;trivial;refine Kp.bind (λi=>Kp.bind (λb=>Kp.bind (λ_=>Aa outer) ?_)<|Ks ..)<|EC ..;exact#[λo=>rfl,trivial];trivial
theorem BF(env:Env):Kp<|frameOf env:=by unfold frameOf;refine Kp.bind (λl=>Kp.bind (λo=>?_) ?_) Kr;split;trivial;trivial;unfold frameObject;split;trivial;refine Kp.bind (λx=>?_)<|Aa _;trivial
theorem Kq(v:Value)(env:Env):Kp<|noteFrame v env:=by
 unfold noteFrame;split;refine Kp.bind (λo=>?_)<|nP v 1;let a:∀f,Kp (do setField v 1 (<-EntryCells.newEntry o (<-frameOf env) .none (rawInt f) .none (<-entryPlaceOf f (o != .none)))):=λf=>by refine Kp.bind (λx=>?_)<|BF env;refine Kp.bind (λy=>?_)<|HF _ _;unfold EntryCells.newEntry;refine Kp.bind (λz=>?_)<|xF _ _;exact kM ..
 split;refine Kp.bind (λh=>?_)<|nP _ _;split;trivial;exact Kp.bind (λ_=>a _)<|kM ..;exact a _;trivial
theorem sP(env:Env)(v:Value):Kp<|leaving env v:=by unfold leaving;exact Kp.bind (λ_=>xE ..)<|Kq ..
end Kd
namespace L2
open PySem PySem.Spec PySem.W PySem.Calls PyProof.Rows
theorem bM.there(x:bM P w H h a o):∃b,h.get? a=some b:=by
 induction o with
 | lst xs=>obtain⟨_,_,_,_,e⟩:=x;exact#[_,e]
 | tup xs=>obtain⟨_,_,_,b,e,_⟩:=x;exact#[b,e]
 | dK d=>obtain⟨_,_,_,_,o,_,_,e,_⟩:=x;exact#[o,e]
 | dT d=>obtain⟨_,_,_,_,o,_,_,e,_⟩:=x;exact#[o,e]
 | set S n=>obtain⟨b,_,_,_,e,_⟩:=x;exact#[b,e]
 | ins C k g=>obtain⟨_,_,_,e,_⟩:=x;exact#[_,e]
 | own y=>exact x
 | xd g=>obtain⟨_,⟨c,_,_,e,_⟩,_⟩:=x;exact#[c,e]
 | RY lo j=>obtain⟨_,_,_,e⟩:=x;exact#[_,e]
 | lA b u l=>obtain⟨e,_⟩:=x;exact#[b,e]
 | Lr i=>exact#[_,x]
 | met f y=>exact#[_,x]
 | ext m=>obtain⟨_,e,_⟩:=x;exact e
noncomputable def AV(B:Heap)(fr:bp)(h:Heap):Prop:=∀b o,h.get? b=some o->b∉fr->∃a,B.get? b=some a
section
variable {X:Cx} {pins:b6} {σ:St} {H:Hp} {s:Shared} {B h':Heap}
theorem Inv.DC(I:Inv X pins σ H s)(w:X.ex=[])(b1:B.StaysIn s.heap)(b2:B.StaysIn h')(F:AV B (lJ X.stack) X.s₀.heap)(ct:∀b o,H b=some o->∃a,B.get? b=some a)(Q:∀p∈X.pn++pins,∃a,B.get? p.1=some a)(j:s.heap.UpToSlots h'):Inv X pins σ H { s with heap:=h',toks:=t' }:=by
 let t:∀{b o a},s.heap.get? b=some o->B.get? b=some a->h'.get? b=some o:=λ{b o a} e q=>by let:=b1 b a q;rw[e]at this;cases this;exact b2 b _ q
 let G:∀b o,X.s₀.heap.get? b=some o->b∉X.fs->b∉lJ X.stack:=λb o e f z=>by ext(q|q:zas.mp<|I.mh b z);exact absurd (zaG (zan e) I.ok.above) (by erw[q,zbf _]);exact f q
 let D:∀b:Addr,b∉X.ex:=λb z=>by rw[w]at z;cases z
 let fr:∀b∈X.fs,∃o,s.heap.get? b=some o/\∀vs,o.data≠.fields vs:=λb f=>(I.o5.mem f).2;let cellK:∀{c v},s.heap.IsCell c v->h'.IsCell c v:=λ{c v} ⟨o,K,C⟩=>by
  let#[N,e]:=j c o K λvs z=>by rw[C]at z;cases z
  exact#[_,e,C]
 refine#[I.ok,I.os,I.bare,#[λb o e n f _=>?_,λb o e n f _=>?_,I.base.free,λb o e _=>?_,I.base.tX,I.base.tm,I.base.tY],?_,λx c e=>?_,I.free,I.iA,λp E=>?_,λb u e=>?_,I.len];let#[a,q]:=F b o e<|G b o e f;exact t (I.base.keep b o e n f<|D b) q;let#[N,q]:=I.base.slot b o e n f<|D b;let#[A,g,h]:=fr b f;let#[F2,y]:=j b A g h;rw[q]at g;cases g;exact#[F2,y];by_cases f:b∈X.fs;let#[A,g,h]:=fr b f;let#[F2,y]:=j b A g h;exact#[_,y];let#[a,q]:=F b o e<|G b o e f;exact#[a,b2 b a q];let#[m,T,M]:=I.loc;refine#[m,j.ns T,λi x v P S L=>?_];let#[u,r,l]:=M i x v P S L;refine#[u,r,?_];ext(l|⟨k,c,e,z⟩:l);exact .inl l;exact .inr #[k,c,e,cellK z];let#[v,z]:=I.cell x c e;exact#[v,cellK z];let#[e,n,O,h,d]:=I.pin p E;let#[a,q]:=Q p E;exact#[t e q,n,O,h,d];refine(I.bW b u e).jW (λc v R q=>?_) (λ_ q=>q) λ_ _ q=>q;ext(z|z:R);subst z;let#[a,g]:=ct c u e;exact t q g;let#[a,g]:=ct c _ z;exact t q g
end
structure IW(P:Program)(w:World)(outer:List Env)(H:Hp)(s:Shared)(a:Addr)(cls:Value)(D:Option Addr)(H':Hp)(s':Shared):Prop where
 os:s'.os=s.os
 bare:AllBare s'.gens
 un:Un (lJ outer) [] H H' s.heap s'.heap
 bW:lE P w H' s'.heap
 ER:∃B a0,Heap.FlyingW B outer a cls a0 s'.heap/\AV B (lJ outer) s.heap/\∀b o,H' b=some o->∃ob,B.get? b=some ob
 new:H' a=none
 fresh:s.heap.get? a=none
 dct:Kd.Dc a D s'.heap
noncomputable def bV(P:Program)(w:World):Cf:=λouter H s E e c=>∃a cls D b,e=.ref a/\IW P w outer H s a cls D b c/\E cls D b
theorem BB(b:A.frames=some (env::outer))(c:env.frame=some L)(g:Heap.FlyingW base (env::outer) e cls a0 s.heap)(h:Kd.Dc e D s.heap)(i:∀h',Heap.FlyingW base outer e cls a0 h'->s.heap.UpToSlots h'->Kd.Dc e D h'->Q Unit.unit { s with heap:=h' }):wpAny M A (leaving env<|.ref e) Q E s:=
 zbn (Kd.HG (Kd.sP _ _) h<|wpAny_leaves_onW (Q:=λ_ a=>∃h',a={ s with heap:=h' }/\Heap.FlyingW base outer e cls a0 h'/\s.heap.UpToSlots h') b c g λh' f u=>#[h',rfl,f,u])
  (λ_ a ⟨⟨h',q,f,u⟩,d⟩=>by subst q;exact i h' f u d) λ_ _ z=>z.1
theorem uy(j:A.frames=some (env::outer))(i:s.heap.FunFrames base<|env::outer)(o:env.frame=some L)(a:s.heap.get? e=some oe)(h:base.StaysIn s.heap)(c:base.get? e=none)(k:oe.data=.fields vs)(g:vs[1]?=some .none)(m:vs[0]?=some a0)(n:∀h',Heap.FlyingW base outer e oe.cls a0 h'->s.heap.UpToSlots h'->Kd.Dc e oe.dict h'->Q Unit.unit { s with heap:=h' }):wpAny M A (leaving env<|.ref e) Q E s:=
 zbn (Kd.HG (Kd.sP _ _) (Kd.Dc.of a rfl)<|wpAny_leaving_firstW (Q:=λ_ b=>∃h',b={ s with heap:=h' }/\Heap.LeftW base (env::outer) e oe.cls a0 s.heap h') j i o a h c k g m λh' l=>#[h',rfl,l])
  (λ_ b ⟨⟨h',q,k1,⟨_,_,k2⟩,k3,f⟩,d⟩=>by subst q;exact n h' #[k1,c,k2,k3] f d) λ_ _ z=>z.1
section
variable {X:Cx} {pins:b6} {σ:St} {H:Hp} {s:Shared}
structure Body(X:Cx):Prop where
 ex:X.ex=[]
 pn:X.pn=[]
 wd:X.stack=X.env::X.outer
 fr:X.env.frame=some X.env.locals
theorem DY{a:Cf}{P:Program}{w:World}{K:Frag}{mg:bx}{base:Heap}{N:List Str}{qual:Str}{scope:Scope}{f:Addr}{b:Value}{A:Around}{outer:List Env}{s:Shared}{H:Hp}{E:XK} :
  Body (om a P w K mg base N qual scope f b A outer s H E):=#[rfl,rfl,rfl,rfl]
theorem Inv.none_of(I:Inv X pins σ H s)(e:s.heap.get? a=none):H a=none:=by
 cases q:H a with
 | none=>rfl
 | some o=>
  let#[b,z]:=(I.bW a o q).there;rw[e]at z;cases z
theorem Inv.HZ(I:Inv X pins σ H s)(b:X.ex=[])(e:s.heap.get? a=none):X.s₀.heap.get? a=none:=by
 cases q:X.s₀.heap.get? a with
 | none=>rfl
 | some o=>
  let#[c,z]:=I.base.there a o q (by rw[b];simp);rw[e]at z;cases z
theorem leave_new(I:Inv X pins σ H s)(hb:Body X)(kp:∀b o,s.heap.get? b=some o->h'.get? b=some o)(nw:s.heap.get? e=none)(he:h'.get? e=some oe)(hd:oe.data=.fields vs)(h1:vs[1]?=some .none)(h0:vs[0]?=some a0)(q:E oe.cls oe.dict H) :
  wpAny (model X.prog X.w) X.A (leaving X.env<|.ref e) (λ_ JJ=>bV X.prog X.w X.outer X.H₀ X.s₀ E (.ref e) JJ) E' { s with heap:=h' }:=by
 let Sq:∀env∈X.stack,∀b,env.frame=some b->b∈X.stack.filterMap (·.frame):=λenv he b hb=>zeK.mpr #[env,he,hb];let HP:(hideAll s.heap<|lJ X.stack).StaysIn s.heap:=λb o q=>of_hideAll _ q;let qK:X.A.frames=some (X.env::X.outer):=by erw[<-hb.wd,I.ok.frames]
 let hl:s.heap.FunFrames (hideAll s.heap<|lJ X.stack)<|X.env::X.outer:=by erw[<-hb.wd,funFrames_hide I.stack Sq]
 let cv:∀{b o},s.heap.get? b=some o->b∉lJ X.stack->(hideAll s.heap<|lJ X.stack).get? b=some o:=λe n=>hideAll_get _ e n;let Ss:(hideAll s.heap<|lJ X.stack).get? e=none:=by
  cases hq:(hideAll s.heap<|lJ X.stack).get? e with
  | none=>rfl
  | some o'=>have:=HP e o' hq;rw[nw]at this;cases this
 refine uy qK (hl.of_keeps λb o hb _=>#[o,kp b o hb,rfl]) hb.fr he (λb o hq=>kp b o<|HP b o hq) Ss hd h1 h0 λh2 ER up dc=>?_;let XJ:=(Heap.UpToSlots.of_keeps kp).trans up;let c0:AV (hideAll s.heap<|lJ X.stack) (lJ X.stack) X.s₀.heap:=λb o e n=>by let#[o',z]:=I.base.there b o e (by rw[hb.ex];simp);exact#[o',cv z n]
 let ct:∀b o,H b=some o->∃ob,(hideAll s.heap<|lJ X.stack).get? b=some ob:=λb o e=>by let#[ob,z]:=(I.bW b o e).there;exact#[ob,cv z λm=>by rw[I.vZ b m]at e;cases e]
 let J:Inv X [] σ H { s with heap:=h2,toks:=s.toks }:=Inv.DC (I.qy λp hp=>by cases hp) hb.ex HP ER.1 c0 ct (λp hp=>by rw[hb.pn]at hp;cases hp) XJ;refine#[e,oe.cls,oe.dict,H,rfl,#[J.os,J.bare,?_,J.bW,#[_,_,ER,?_,ct],I.none_of nw,I.HZ hb.ex nw,dc],q];let:=J.base;rwa[hb.ex]at this;ext b o e' n;refine c0 b o e' λm=>?_;rw[hb.wd]at m;unfold lJ at m;rw[zdU,hb.fr]at m;ext(z|z:zas.mp m);exact absurd (zaG (zan e') I.ok.above) (by erw[z,zbf _]);exact n z
theorem BD(I:Inv X pins σ H s)(c:Body X)(a:Heap.MadeExcOf s.heap h' e cls vs)(q:E cls none H) :
  wpAny (model X.prog X.w) X.A (leaving X.env<|.ref e) (λ_ b=>bV X.prog X.w X.outer X.H₀ X.s₀ E (.ref e) b) E' { s with heap:=h' }:=by
 let#[t,d,f,g]:=a.there;exact leave_new I c a.keeps a.new d rfl rfl rfl q
theorem IW.inv(I:Inv X pins σ H s)(F:IW X.prog X.w X.stack H s a cls D H' s'):Inv X pins σ H' s':=
 I.Mk F.os F.un F.bW F.bare λb z=>by cases z
theorem BC(I:Inv X pins σ H s)(c:Body X)(F:IW X.prog X.w X.stack H s a cls D H' s')(q:E cls D H') :
  wpAny (model X.prog X.w) X.A (leaving X.env<|.ref a) (λ_ t=>bV X.prog X.w X.outer X.H₀ X.s₀ E (.ref a) t) E' s':=by
 let#[B,C,j,k,ct]:=F.ER;let v:X.A.frames=some (X.env::X.outer):=by erw[<-c.wd,I.ok.frames]
 let u:=F.inv I;let f:=j;rw[c.wd]at f;refine BB v c.fr f F.dct λx g r l=>?_;let h:AV B (lJ X.stack) X.s₀.heap:=λb o e n=>by let#[y,z]:=I.base.there b o e (by rw[c.ex];simp);exact k b y z n
 let J:Inv X [] σ H' { s' with heap:=x,toks:=s'.toks }:=Inv.DC (u.qy λp d=>by cases d) c.ex j.1 g.1 h ct (λp d=>by rw[c.pn]at d;cases d) r;refine#[a,cls,D,H',rfl,#[J.os,J.bare,?_,J.bW,#[_,_,g,?_,ct],F.new,I.HZ c.ex F.fresh,l],q];let:=J.base;rwa[c.ex]at this;ext b o i n;refine h b o i λm=>?_;rw[c.wd]at m;unfold lJ at m;rw[zdU,c.fr]at m;ext(z|z:zas.mp m);exact absurd (zaG (zan i) I.ok.above) (by erw[z,zbf _]);exact n z
end
theorem P6{P:Program}{w:World}{K:Frag}{mg:bx}{base:Heap}{N:List Str}{qual:Str}{scope:Scope}{f:Addr}{b:Value}{A:Around}{outer:List Env}{s:Shared}{H:Hp}{E:XK} :
  Passes (bV P w) (om (bV P w) P w K mg base N qual scope f b A outer s H E) E:=by
 ext pins c i g e d I ⟨a,cls,D,h,rfl,F,q⟩;exact BC I DY F q
theorem aZ:Passes (bV P w) X E0:=by ext pins d f b e g I ⟨a,cls,D,c,rfl,F,q⟩;exact q.elim
theorem KO{K:Frag}{h:Heap}{C:Addr}{e:bf}{newId:String}(X:K.In h)(q:excIn K C e newId=true) :
  ∃bm N nm a bs hdct sn sub ab col dd k0 k1 k2 k3 k5 mN,h.get? C=some (excClassObj nm a C N bs bm hdct sn sub ab col dd k0 k1 k2 k3 k5 newId)/\h.Ns N mN/\mN "__init__"=none/\OwnTail h e bm:=by
 unfold excIn at q;split at q;rename_i dd k o i;split at q;rename_i u bm k0 k1 k2 k3 n k5 c g;simp[zei,beq_iff_eq,Bool.not_eq_true']at q;let#[#[#[#[#[j,s],f],t],b],d]:=q;subst j s;let#[nm,bs,r,ns,a,p,sn,sub,ab,col,del]:=k;dsimp only at c f b d;subst c f;let#[l]:=o;let m:=g;subst m;exact#[bm,ns,nm,a,bs,p,sn,sub,ab,col,dd,k0,k1,k2,k3,k5,_,X _ _ i,.of_isNs<|isNs_of_in X b,nsMap_none_of_in X b d,tail_of_in X t];cases q;cases q
noncomputable def FP(c:XK)(C:Addr)(d:TA):TS:=λ_ a H=>d a H λvs b=>vs.z<=sizeLine/\c (.ref C) none b
theorem zB{x:Str}{R newId B:String}{M d f:Pos}{j:TA}{l:XK}(i:ExcBaseFacts R newId B RC)(S:excIn X.K C RC newId=true)(o:X.mg x=C.e)(L:X.calm=true)(r:PA X (e::es) j)(F:∀pins s c H h' a vs,Inv X pins c H s->Heap.MadeExcOf s.heap h' a (.ref C) vs->l (.ref C) none H->X.xe (.ref a) { s with heap:=h' })(t:Gl X x:=by rfl)(v:(x==("__debug__":Str))=false:=by decide)(g:starEach (e::es) X.env=(false,eval e X.env)::starEach es X.env:=by rfl)(O:(backTo d<|starEach es X.env).any (·.1)=false:=by rfl) :
  PS X (.Raise (some<|.Call (.Name x M) (e::es) [] d) none f) (FP l C j):=by
 ext pins s c H D I h;let#[w,N,nm,q,bs,hdct,sn,sub,ab,col,dd,k0,k1,k2,k3,k5,mN,Q,E,G,T]:=KO I.ok.mod.Qr S;refine wpAny_Raise_call_subT (nm:=nm) (q:=q) (N:=N) (bs:=bs) (bm:=w) (hdct:=hdct) (sn:=sn) (sub:=sub) (ab:=ab) (col:=col) (dd:=dd) (k0:=k0) (k1:=k1) (k2:=k2) (k3:=k3) (k5:=k5)
  i (mN:=mN) (T.hasType i.hasBase) (I.ok.hd L) (by rw[g];show(false || (backTo d<|starEach es X.env).any (·.1))=false;rw[O];rfl) G (qH I t o #[rfl,?_] v)
 let k:=r d pins s c H _ I h;rw[g]at k ⊢;refine Calls.evalArgs_plain<|zbn k (λn p z=>?_) λ_ _ y=>y;let#[vs,P,b,A,u,m]:=z;exact#[rfl,by erw[<-A.z,u],b.bk _ _ Q,E.keeps b.bk,T.keeps b.bk,λh' a mk=>F pins p c P h' a n b mk m]
theorem Gq{P:Program}{w:World}{K:Frag}{mg:bx}{base:Heap}{N:List Str}{qual:Str}{scope:Scope}{f:Addr}{d:Value}{A:Around}{outer:List Env}{b:Shared}{e:Hp}{E:XK}{C:Addr} :
  ∀pins s c H h' a vs,Inv (om (bV P w) P w K mg base N qual scope f d A outer b e E) pins c H s->Heap.MadeExcOf s.heap h' a (.ref C) vs->E (.ref C) none H->
   (om (bV P w) P w K mg base N qual scope f d A outer b e E).xe (.ref a) { s with heap:=h' }:=λpins s c H h' a vs I mk q=>BD I DY mk q
section
variable {X:Cx} {pins:b6} {σ:St} {H:Hp} {s:Shared}
noncomputable def Cx.marked(X:Cx)(a:Addr):Cx:={ X with A:=X.A.mark<|a.e,calm:=false,xe:=λ_ _=>False }
theorem Inv.mark(I:Inv X pins σ H s):Inv (X.marked a) pins σ H s:=
 #[#[I.ok.mod,I.ok.kind,I.ok.glob,I.ok.blt,I.ok.above,I.ok.inj,I.ok.has,I.ok.O7,(λz=>absurd (show false=true from z) zaC),I.ok.frames,I.ok.wd,I.ok.UQ,I.ok.bs,I.ok.Mm,I.ok.Es,I.ok.Ic,I.ok.o5,I.ok.Ob],I.os,I.bare,I.base,I.loc,I.cell,I.free,I.iA,I.pin,I.bW,I.len]
theorem Inv.unmark(J:X.Ok)(I:Inv (X.marked a) pins σ H s):Inv X pins σ H s:=#[J,I.os,I.bare,I.base,I.loc,I.cell,I.free,I.iA,I.pin,I.bW,I.len]
end
noncomputable def EX(X:Cx)(pins:b6)(f:St)(g:XK)(e:Value)(h:Shared):Prop:=
 ∃a cls D b c d,e=.ref a/\Inv X pins f d c/\IW X.prog X.w X.stack d c a cls D b h/\g cls D b
section
variable {X:Cx} {k j:Nat} {ps:List Str} {sp:Sp} {x:Str} {p pos:Pos} {e:Expr} {es:List Expr} {t:TA}
theorem Rz(h:cE X.prog X.w X.K X.mg X.base (bV X.prog X.w) x k ps sp)(P:gC j X.A)(B:PA X.Kf (e::es) t)(M:k<=j:=by decide)(E:Gl X x:=by rfl)(L:(x==("__debug__":Str))=false:=by decide)(v:starEach (e::es) X.env=(false,eval e X.env)::starEach es X.env:=by rfl)(T:(backTo pos<|starEach es X.env).any (·.1)=false:=by rfl){pins:b6}{s:Shared}{c:St}{H:Hp}{Q:VK}{l:XK}(I:Inv X pins c H s)(C:t c H λvs i=>sp (vs++[]) i Q l) :
  wpAny (model X.prog X.w) X.A (eval (.Call (.Name x p) (e::es) [] pos) X.env) (EP X pins c Q) (EX X pins c l) s:=by
 let#[f,Z,F,y,O,o]:=h.ex;refine zdP<|qH I E y ?_ L;refine PySem.W.callWith_K I.ok.mod.Qr O (zbn (B pos pins s c H _ (I.qS _) C) (λg m ⟨vs,i,b,r,q⟩=>#[b.vB,?_]) λ_ _ z=>False.elim z) v T;let b:=b.jr;dsimp only at q;rw[zcP]at q;let G:g.z=ps.z:=by erw[<-r.z,F.len _ _ _ _ q]
 let n:=o m g b.vB (by erw[zcP,G]);rw[zcP]at n;refine wpAny_call<|codeAny_mono (F.run X.A X.stack m i #[g,[]] g vs Q l (P.mono M) b.Rg n r q) λN U d=>?_;cases N with
 | error Y=>
  let#[a,cls,D,R,rfl,fl,S]:=d;exact#[a,cls,D,R,m,i,rfl,b,fl,S]
 | ok fl=>
  cases fl with
  | ret u=>exact b.after d
  | next=>exact False.elim d
  | brk=>exact False.elim d
  | cont=>exact False.elim d
end
section
variable {P:Program} {w:World} {K:zcT} {mg:bx} {base:Heap}
theorem Def.dZ{x:Str}{st:Stmt}{k:Nat}{c:Sp}(D:Def K mg x st ps)(S:aS N ps<|aH st)(b:∀vs H Q E,c vs H Q E->vs.z=ps.z)(l:∀(f:Addr) (a:Value) (A:Around) (outer:List Env) (s:Shared) (H:Hp) (vs:List V) (Q:VK) (E:XK),gC k (A.deeper<|envOfC x (aH st) s.y f a)->c vs H Q E->
   ∃t,AL (om (bV P w) P w K mg base N x (aH st) f a A outer s H E).Kf (fB st) t/\t { nx:=λ_ p=>Q .gW p,rt:=Q } (start N vs) H):W! x (k+1) ps c:=by
 let#[f,y,F,i,g]:=D.ex;let n:=F.kp;let#[u,r,kV,d,z,B,a,ct,v,rfl,lk,j]:=F.ex;refine#[#[f,_,Ib lk j S b λA o s H vs Q E m e=>?_,i,n,g]];let#[t,h,q]:=l f a A o s H vs Q E m e;exact#[t,h.Kf,q]
theorem Def.N6{x:Str}{st:Stmt}{k:Nat}{c:Sp}(D:Def K mg x st ps)(S:aS N ps<|aH st)(b:∀vs H Q E,c vs H Q E->vs.z=ps.z)(j:∀(f:Addr) (a:Value) (A:Around) (outer:List Env) (s:Shared) (H:Hp) (vs:List V) (Q:VK) (E:XK),gC k (A.deeper<|envOfC x (aH st) s.y f a)->c vs H Q E->
   ∃t,AL (om (bV P w) P w K mg base N x (aH st) f a A outer s H E) (fB st) t/\t { nx:=λ_ n=>Q .gW n,rt:=Q } (start N vs) H):W! x (k+1) ps c:=by
 let#[f,u,F,h,g]:=D.ex;let m:=F.kp;let#[q,p,kV,d,v,y,a,ct,r,rfl,lk,i]:=F.ex;exact#[#[f,_,Ib lk i S b λA o s H vs Q E l e=>j f a A o s H vs Q E l e,h,m,g]]
theorem OF.okN{x:Str}{st:Stmt}{d:FuncData}{k:Nat}{c:Sp}(F:OF K x x st f d)(S:aS N ps<|aH st)(b:∀vs H Q E,c vs H Q E->vs.z=ps.z)(j:∀(a:Value) (A:Around) (outer:List Env) (s:Shared) (H:Hp) (vs:List V) (Q:VK) (E:XK),gC k (A.deeper<|envOfC x (aH st) s.y f a)->c vs H Q E->
   ∃t,AL (om (bV P w) P w K mg base N x (aH st) f a A outer s H E).Kf (fB st) t/\t { nx:=λ_ m=>Q .gW m,rt:=Q } (start N vs) H):uT P w K mg base (bV P w) (k+1) f d ps c:=by
 let#[p,n,kV,e,u,v,a,ct,r,rfl,lk,i]:=F.ex;refine Ib lk i S b λA o s H vs Q E l g=>?_;let#[t,h,q]:=j a A o s H vs Q E l g;exact#[t,h.Kf,q]
end
theorem EW(h:bV P w o H s (λ_ _ _=>False) e s'):False:=by let#[_,_,_,_,_,_,z]:=h;exact z
theorem AI{a:Cf}{P:Program}{w:World}{K:Frag}{mg:bx}{base:Heap}{N:List Str}{qual:Str}{scope:Scope}{f:Addr}{b:Value}{A:Around}{outer:List Env}{s:Shared}{H:Hp}{E:XK} :
  Body (om a P w K mg base N qual scope f b A outer s H E).Kf:=#[rfl,rfl,rfl,rfl]
theorem wU(h:ta σ H λvs a=>vs.z<=sizeLine/\Ex (.ref C) none a):FP Ex C ta D σ H:=h
noncomputable def PY(K:Frag):R2:=λx y H Q=>∃p q a b c d,x=.ref p/\y=.ref q/\SqT K H p [.int a,.int b]/\SqT K H q [.int c,.int d]/\Q (.bl<|!decide (a=c/\b=d)) H
theorem M9(t:X.A.units<cLine):pE X (compareOp .NotEq)<|PY X.K:=by
 ext pins s N H x y v u Q I G B h;let#[p,q,a,b,c,d,rfl,rfl,C,F,k]:=h;cases G;cases B;let#[S,r,l,_]:=I.tuple C;let#[P,n,m,_]:=I.tuple F;let#[R,O,rfl,#[z,rfl],#[E,rfl]]:=vals2 r;let#[L,M,rfl,#[i,rfl],#[o,rfl]]:=vals2 n;refine SeqAt.RcNeAt.tuples (e:=λj=>if j=0 then a==c else b==d) l m t (λj f g=>?_) X.prog X.w X.xe _<|bK I k ?_;let D:j=0\/j=1:=by let:j<2:=f;lia
 ext(rfl|rfl:D);exact zct a z c i;exact zct b E d o;show(!decide (a=c/\b=d))=(!((List.range 2).all (λj=>if j=0 then a==c else b==d)&&(2==2)));let e:(List.range 2).all (λj=>if j=0 then a==c else b==d)=((a==c)&&(b==d)):=by rw[show List.range 2=[0,1]from rfl];simp
 rw[e];by_cases f:a=c<;>by_cases g:b=d<;>simp[f,g]
theorem PN{K:Frag}{H:Hp}{Q:VK}{p q:Addr}{a b c d:Int}(e:SqT K H p [.int a,.int b])(f:SqT K H q [.int c,.int d])(k:Q (.bl<|!decide (a=c/\b=d)) H):PY K (.ref p) (.ref q) H Q:=#[p,q,a,b,c,d,rfl,rfl,e,f,k]
theorem FD{X:Cx}{k:Nat}(a:gC k X.A):X.A.units<cLine:=a.Mu
noncomputable def AllIn(cells:List<|Str×Addr):List (Str×Addr)->Prop
 | []=>True
 | p::r=>cells.lookup p.1=some p.2/\AllIn cells r
theorem AllIn.get{cells:List<|Str×Addr}:∀{cl:List<|Str×Addr},AllIn cells cl->∀{x c},cl.lookup x=some c->cells.lookup x=some c
 | [],_,x,c,e=>by cases e
 | (n,d)::r,h,x,c,e=>by
  rw[lookup_cons]at e;cases q:x==n with
  | true=>
   rw[q]at e;cases e;let z:x=n:=by simpa using q
   subst z;exact h.1
  | false=>rw[q]at e;exact AllIn.get h.2 e
noncomputable def IS(X:Cx)(a:List Expr)(t:TT):Prop:=
 ∀(pins:b6) (s:Shared) (b:St) (H:Hp) (Q:Bool->Hp->Prop),Inv X pins b H s->t b H Q->
  wpAny (model X.prog X.w) X.A (forIn a true λc r=>if r=true then do let d <-isTrue c X.env (eval c X.env);pure (ForInStep.yield d)else pure (ForInStep.yield r)) (TP X pins b Q) X.xe s
noncomputable def qZ:TT:=λ_ H Q=>Q true H
theorem bB:IS X [] qZ:=λ_ _ _ H _ I h=>wpAny_tests_nil #[H,I,h]
theorem kz(h:PT X c t):IS X [c] t:=λpins s a H Q I b=>wpAny_tests_one<|h pins s a H Q I b
theorem EY{j target iter:Expr}{i:List Expr}{scope:Scope}{l:Pos}{it k:Value}{env:Env}(I:Nat->Shared->Prop)(turn:∀n s,I n s->wpAny (model prog w) A (pyNext it) (λr a=>match r with
   | none=>R (.ok .next) a
   | some v=>wpAny (model prog w) A (letOwnedTupleGo target it v) (λ_ u=>wpAny (model prog w) A (assign target env v) (λ_ f=>
     wpAny (model prog w) A (forIn i true λc r=>if r=true then do let q <-isTrue c env (eval c env);pure (ForInStep.yield q)else pure (ForInStep.yield r)) (λq b=>
      if q=true then wpAny (model prog w) A (eval j env) (λx d=>wpAny (model prog w) A (call (.builtin "list.append") [k,x]) (λ_ g=>∃m,m<n/\I m g) (λ_ _=>False) d) (λ_ _=>False) b
      else ∃m,m<n/\I m b) (λ_ _=>False) f) (λ_ _=>False) u) (λ_ _=>False) a) (λ_ _=>False) s)(n:Nat)(h:I n s):codeAny (model prog w) A (.compLoop (.ListComp j [#[target,iter,i,0]] scope l) 0 it k env) R s:=by
 refine codeAny_loop rfl I (λn s B=>?_) n h;show wpAny _ A ((compTurn (.ListComp j [#[target,iter,i,0]] scope l) 0 it k env).onRaise<|λx=>do noteFrame x env;theTreesLotGoes x) _ _ s;refine wpAny_noted ?_;rw[compTurn_list];refine zae<|wpAny_standAt<|zae<|zbn (turn n s B) (λr a h₁=>?_) λ_ _ z=>False.elim z;cases r with
 | none=>exact zax h₁
 | some v=>
  refine zae<|zbn h₁ (λ_ u y=>zae<|zbn y (λ_ f o=>zae<|zbn o (λq b e=>?_) λ_ _ z=>False.elim z) λ_ _ z=>False.elim z) λ_ _ z=>False.elim z;cases q with
  | false=>exact zax #[rfl,e]
  | true=>
   exact zae<|zae<|zbn e (λx d p=>zae<|zbn p (λ_ g t=>zax<|zax #[rfl,t]) λ_ _ z=>False.elim z) λ_ _ z=>False.elim z
noncomputable def Cx.block(X:Cx)(scope:Scope)(cl:List<|Str×Addr)(C:Addr)(N:List Str)(a:bp)(pins:b6)(s:Shared)(H:Hp):Cx:=
 { X with N:=N,s₀:=s,H₀:=H,env:=compEnvC scope cl C X.env,outer:=X.stack,ex:=a,fn:=λ_=>false,pn:=X.pn++pins,xe:=λ_ _=>False }
noncomputable def iI(n:Nat)(fr:List Nat)(a:St):St:=List.replicate n none++fr.map λi=>(a[i]?).join
structure qR(X:Cx)(scope:Scope)(cl:List<|Str×Addr)(tg:List Str)(fr:List<|Str×Nat):Prop where
 kind:scope.kind=.function
 Nd:∀y∈scope.names,y.2≠.cell
 names:∀y∈scope.names,y.2=.local->scope.names.lookup y.1=some .local
 Rt:closureFor scope X.env=pure cl
 Mo:AllIn X.env.cells cl
 has:((relabel scope X.env).names.all λp=>!(p.2==.cell || p.2==.free) || (cl.lookup p.1).isSome)=true
 Z0:∀p∈fr,X.N[p.2]?=some p.1/\SO X.env.scope p.1/\(cl.lookup p.1).isSome=true/\((relabel scope X.env).names.lookup p.1==some .cell || (relabel scope X.env).names.lookup p.1==some .free)=true
 Xg:∀p∈fr,(X.env.kindOf p.1==some .local)=false
section
variable {X:Cx} {pins:b6} {σ:St} {H:Hp} {s:Shared} {scope:Scope} {cl:List (Str×Addr)} {tg:List Str} {fr:List (Str×Nat)}
theorem lookup_mem{κ a:Type}[BEq κ][LawfulBEq κ]:∀{l:List<|κ×a} {x:κ} {v:a},l.lookup x=some v->(x,v)∈l
 | [],_,_,e=>by cases e
 | (k,u)::r,x,v,e=>by
  rw[lookup_cons]at e;cases q:x==k with
  | true=>
   rw[q]at e;cases e;let z:x=k:=by simpa using q
   subst z;exact zal
  | false=>rw[q]at e;exact zag _<|lookup_mem e
theorem AJ{C:Addr}{g:bp}{h':Heap}{t':Nat}{m:bx}(B:qR X scope cl tg fr)(I:Inv X pins σ H s)(t:∀b∈g,qh X pins H b/\b<s.y)(K:s.y<=C)(hn:h'.Ns C m)(k:∀b o,s.heap.get? b=some o->h'.get? b=some o){j:Hp}(N:Un (lJ X.stack) g H j s.heap h')(bW:lE X.prog X.w j h')(Dx:j C=none) :
  Inv (X.block scope cl C (tg++fr.map (·.1)) g pins s H) [] (iI tg.z (fr.map (·.2)) σ) j { s with heap:=h',toks:=t' }:=by
 let cells:∀{x c},cl.lookup x=some c->X.env.cells.lookup x=some c:=λe=>B.Mo.get e;let cC:∀x c,X.env.cells.lookup x=some c->c≠C:=λx c e z=>by let#[v,o,D,_]:=I.cell x c e;exact absurd (zaG (zan D) K) (by erw[z,zbf _])
 let cellK:∀{c v},s.heap.IsCell c v->h'.IsCell c v:=λ{c v} ⟨o,e,d⟩=>#[o,k c o e,d];let R:∀x c,X.env.cells.lookup x=some c->c∉g/\j c=none:=λx c e=>by let h:c∉g:=λz=>(t c z).1.2.2.2.2.1 x c e rfl;let#[v,o,D,_]:=I.cell x c e;exact#[h,N.free c o D (I.iA x c e) h]
 let U:∀p∈X.pn++pins,p.1∉g/\j p.1=none:=λp A=>by let h:p.1∉g:=λz=>(t p.1 z).1.2.2.2.2.2 p A rfl;let#[e,n,_]:=I.pin p A;exact#[h,N.free p.1 _ e n h]
 let XU:∀b∈lJ X.stack,b<s.y:=λb f=>by let#[_,o,D,_]:=I.stack.mem f;exact zan D
 refine#[#[I.ok.mod,B.kind,I.ok.glob,I.ok.blt,K,λx y c O a=>I.ok.inj x y c (cells O)<|cells a,λx hx=>?_,λx c z=>absurd (show false=true from z) zaC,I.ok.hd,I.ok.frames,.inl rfl,λb f=>?_,λb o e=>#[?_,?_],?_,λb o e z=>?_,λb f z=>?_,I.stack,I.vZ],
  rfl,I.bare,N,#[m,hn,λi x v O a h3=>?_],λx c e=>?_,Dx,λx c e=>(R x c<|cells e).2,λp A=>?_,bW,?_]
 let e:=hx;let mem:∃G,(x,G)∈(relabel scope X.env).names/\(G==NameKind.cell || G==NameKind.free)=true:=by ext(e|e:e);exact#[_,lookup_mem e,rfl];exact#[_,lookup_mem e,rfl]
 let#[G,Y,F]:=mem;let z:=List.all_eq_true.mp B.has _ Y;simp only[F,Bool.not_true,Bool.false_or]at z;exact zdF.mp z;exact#[λz=>absurd (zaG (t b f).2 K) (by erw[z,zbf _]),λx c e z=>(R x c<|cells e).1<|z▸f];exact(I.bs b o e).1;exact(I.bs b o e).2;exact zaI I.ok.Mm I.sz;ext(q|q:(t b z).1.2.2.2.1);exact I.ok.Es b o e q;exact absurd (zaG (zan (I.ok.bs b o e).1) q)<|zbf _;let z':=z;ext(q|q:zas.mp<|I.mh b z');exact(t b f).1.2.1 q;exact(t b f).1.2.2.1 q;let S:tg.z<=i:=by refine Nat.le_of_not_lt λz=>?_;unfold iI at a;rw[zaO (by simpa using z),getElem?_replicate,zad z]at a;cases a
 let E:(fr.map (·.1))[i-tg.z]?=some x:=by let z:(tg++fr.map (·.1))[i]?=some x:=O;rw[zaL S]at z;exact z
 let P:((fr.map (·.2)).map λi=>(σ[i]?).join)[i-tg.z]?=some (some v):=by unfold iI at a;rw[zaL<|by simpa using S]at a;simpa using a
 rw[zao]at E;rw[zao,zao]at P;cases q:fr[i-tg.z]? with
 | none=>rw[q]at E;cases E
 | some p=>
  rw[q]at E P;let ex:p.1=x:=zaq E;let L:(σ[p.2]?).join=some v:=zaq P;subst ex;let#[f1,f2,W,f4]:=B.Z0 p<|zah q;let M:σ[p.2]?=some (some v):=by
   cases z:σ[p.2]? with
   | none=>rw[z]at L;cases L
   | some w'=>rw[z]at L;exact zaA some L
  let#[m0,Zr,Zw]:=I.loc;let#[u,r,l]:=Zw p.2 p.1 v f1 M f2;refine#[u,r,?_];let#[c,T]:=zdF.mp W;let F:=B.Xg p<|zah q;ext(⟨kl,_⟩|⟨_,c',Z,z⟩:l);rw[kl]at F;cases F;let Q:=cells T;rw[Z]at Q;cases Q;exact .inr #[(Bool.or_eq_true_iff.mp f4).imp eq_of_beq eq_of_beq,c,T,cellK z]
 let#[v,z]:=I.cell x c<|cells e;exact#[v,cellK z];rw[zcP]at A;let#[e,n,ne,h,d]:=I.pin p A;refine#[k _ _ e,(U p A).2,λz=>absurd (zaG (zan e) K) (by erw[z,zbf _]),λz=>?_,d];ext(q|q:zas.mp<|I.mh _ z);exact ne q;exact h q;unfold iI;show _=(tg++fr.map (·.1)).z;simp
end
noncomputable def pG(p:TI)(g:TG)(s:TT)(q:TE)(n:Nat)(fr:List Nat):TE:=λj H Q=>p j H λJ k=>∀a,k a=none->∃W:Nat->Nat->St->List V->Hp->Prop,(∃m,W 0 m (iI n fr j) []<|upd k a<|.lst [])/\
 ∀i m e ys f,W i m e ys f->((J.stop i f/\Q (.ref a) f)\/(J.go i f/\∀x l,J.A6 i f x l->g x e l λc r=>s c r λb o=>
  if b=true then q c o λy h=>h a=some (.lst ys)/\ys.z<sizeLine/\∃d,d<m/\W (i+1) d c (ys++[y]) (upd h a<|.lst<|ys++[y])else ∃d,d<m/\W (i+1) d c ys o))
section
variable {X:Cx} {scope:Scope} {cl:List (Str×Addr)} {tg:List Str} {fr:List (Str×Nat)} {elt target iter:Expr} {ifs:List Expr} {wi:TI} {g:TG} {tt:TT} {te:TE} {pos:Pos}
theorem vL(B:qR X scope cl tg fr)(hc:X.calm=true)(hi:PI X target iter wi)(hg:∀C f pins s H,PG (X.block scope cl C (tg++fr.map (·.1)) f pins s H) target g)(ht:∀C f pins s H,IS (X.block scope cl C (tg++fr.map (·.1)) f pins s H) ifs tt)(he:∀C f pins s H,PE (X.block scope cl C (tg++fr.map (·.1)) f pins s H) elt te){pins:b6}{Z:St}{H:Hp}{s:Shared}{Q:VK}(I:Inv X pins Z H s)(hw:pG wi g tt te tg.z (fr.map (·.2)) Z H Q){RR:Value->Addr->Result->Shared->Prop}(ZR:∀D C O t m,Inv X pins Z t O->O.heap.Ns C m->t C=none->C≠X.env.locals->X.s₀.y<=C->(∀x c,X.env.cells.lookup x=some c->c≠C)->(∀p∈X.pn++pins,p.1≠C)->Q (.ref D) t->RR (.ref D) C (.ok .next) O) :
  wpAny (model X.prog X.w) X.A (eval iter X.env) (λxv O=>wpAny (model X.prog X.w) X.A (pyIter xv) (λit a=>wpAny (model X.prog X.w) X.A (newList []) (λR Y=>
   wpAny (model X.prog X.w) X.A (newFunctionEnv scope X.env.globals cl [] X.env.qual none .none<|some X.env) (λRw s4=>
    codeAny (model X.prog X.w) X.A (.compStart (.ListComp elt [#[target,iter,ifs,0]] scope pos) 0 it R { Rw with scope:=relabel scope X.env }) (RR R Rw.locals) s4) X.xe Y) X.xe a) X.xe O) X.xe s:=by
 refine zbn (hi pins s Z H _ I hw) (λxv O h1=>zbn h1 (λTQ a h2=>?_) λ_ _ z=>z) λ_ _ z=>z;let#[it,f,tn,J,F,rfl,K,T,SW,f2,Y6]:=h2;let Ji:∀b∈f,b<a.y:=λb h=>by let#[o,e,_]:=T.obj _ _ SW b h;exact zan e
 refine zdv<|wpAny_newFunctionEnv B.Nd (by ext y hy;simp at hy) (λh3 BJ Sg=>?_) B.kind;dsimp only at BJ Sg ⊢;generalize hP:a.heap.push { cls:=.type "list",dict:=none,data:=.seq ([]:bf).toArray }=E at BJ Sg ⊢;let hC:E.x=a.y+1:=by rw[<-hP,Heap.size_push]
 let G:a.y<E.x:=by erw[hC,zbq _]
 let k3:∀b o,a.heap.get? b=some o->h3.get? b=some o:=λb o e=>by let l:=zan e;refine Sg.extBut b o (zaW<|zdW l G)<|zav _<|hP▸zav _ e
 let hD:=K.bW.fresh<|zai _;let bq:=Sg.extBut _ _ (zaW G)<|zav _<|hP▸zaX _ rfl;let#[W,#[m0,w0],turn]:=Y6 _ hD;let XN:Un (lJ X.stack) f F (upd F a.y<|.lst []) a.heap h3:=Un.laid k3 (zai _) hD;let Yl:lE X.prog X.w (upd F a.y<|.lst []) h3:=K.bW.laid k3 (zai _) #[zaS _,[],0,.nil,bq];let fC:upd F a.y (.lst []) E.x=none:=by erw[aG<|zbM G,K.bW.fresh<|zcJ G]
 let YG:=K.lt;let nL:=zbM<|zdW YG G;let X0:X.s₀.y<=E.x:=zaI K.sz<|zcJ G;let cC:∀x c,X.env.cells.lookup x=some c->c≠E.x:=λx c e z=>by let#[v,o,ho,_]:=K.cell x c e;exact absurd (zdW (zan ho) G) (by erw[z,zbf _])
 let pC:∀p∈X.pn++pins,p.1≠E.x:=λp QL z=>by exact absurd (zdW (zan (K.pin p QL).1) G) (by erw[z,zbf _])
 let J0:=AJ (t':=a.toks+([]:List<|Str×Value).z) B K (λb h=>#[f2 b h,Ji b h]) (zcJ G) BJ k3 XN Yl fC;let UO:∀{H':Hp} {pl:b6},(∀b∈f,H' b=none)->(∀p∈pl,p.1∉f)->∀b∈f,qh (X.block scope cl E.x (tg++fr.map (·.1)) f pins a F) pl H' b:=λhn vD b h=>by let#[g0,g1,g2,g3,g4,g5]:=f2 b h;refine#[hn b h,λz=>?_,λz=>?_,.inl h,λx c e=>g4 x c<|B.Mo.get e,λp QL z=>?_];let z':=z;exact absurd (zdW (Ji b h) G) (by erw[z',zbf _]);ext(q|q:zas.mp<|K.mh b z);exact g1 q;exact g2 q;ext(q|q:zam.mp QL);exact g5 p q z;exact vD p q<|z▸h
 let loop:∀Y:Shared,Y={ a with heap:=h3,toks:=a.toks+([]:List<|Str×Value).z }->
   codeAny (model X.prog X.w) X.A (.compLoop (.ListComp elt [#[target,iter,ifs,0]] scope pos) 0 (.ref it) (.ref a.y)<|compEnvC scope cl E.x X.env) (RR (.ref a.y) E.x) Y:=by
  ext Y rfl;refine EY (λn S=>∃i j ys t,Inv (X.block scope cl E.x (tg++fr.map (·.1)) f pins a F) [] j t S/\tn i S.heap/\(∀b∈f,t b=none)/\W i n j ys t) ?_ m0
   #[0,_,[],_,J0,T.keep _ _ _ SW λb h o e=>k3 b o e,λb h=>?_,w0]
  ext n S ⟨i,j,ys,t,J5,t5,f5,w5⟩;ext(⟨stop,q⟩|⟨go,step⟩:turn i n j ys t w5);refine zbn (T.done (X.block scope cl E.x (tg++fr.map (·.1)) f pins a F) rfl rfl rfl hc i [] S j t (λ_ _=>False) J5 (UO f5 A?) t5 stop) (λr s6 ⟨hr,N⟩=>?_) λ_ _ z=>z;subst hr;let#[m6,Zp,_]:=N.loc;exact ZR _ _ _ t m6 (K.Mk (ch:=f) N.os N.base N.bW N.bare λb h=>by let#[g0,g1,g2,g3,g4,g5]:=f2 b h;exact#[g3,g1,g4,g5]) Zp N.free nL X0 cC pC q;refine zbn (T.item (X.block scope cl E.x (tg++fr.map (·.1)) f pins a F) rfl rfl rfl hc i [] S j t (λ_ _=>False) J5 (UO f5 A?) t5 go) (λr s6 ⟨u,hr,h6⟩=>?_) λ_ _ z=>z;subst hr;refine zbn h6 (λ_ s7 ⟨x,H7,J7,r7,y7,t7,f7⟩=>?_) λ_ _ z=>z;let ac:=J7.pinned (UO f7 A?)<|T.obj _ _ t7;let again:∀{k:St} {P:Hp} {M:Shared} {Pb:List V},Inv (X.block scope cl E.x (tg++fr.map (·.1)) f pins a F) ([]++rZ f s7.heap) k P M->(∃L,L<n/\W (i+1) L k Pb P)->
    ∃L,L<n/\∃i j ys t,Inv (X.block scope cl E.x (tg++fr.map (·.1)) f pins a F) [] j t M/\tn i M.heap/\(∀b∈f,t b=none)/\W i L j ys t:=λ{k P M Pb} U ⟨L,hm,w8⟩=>by
   refine#[L,hm,i+1,k,Pb,P,U.mS,T.keep _ _ _ t7 λb h o e=>(U.pin (b,o)<|zaF _<|zaF _<|jF h e).1,λb h=>?_,w8];let#[o,e,d]:=T.obj _ _ t7 b h;exact(U.pin (b,o)<|zaF _<|zaF _<|jF h e).2.1
  refine zbn (hg _ _ _ _ _ _ s7 j H7 x u _ ac r7<|step x H7 y7) (λ_ M ⟨k,P,U,q8⟩=>?_) λ_ _ z=>z;refine zbn (ht _ _ _ _ _ _ M k P _ U q8) (λb s9 ⟨H9,J9,q9⟩=>?_) λ_ _ z=>z;cases b with
  | false=>
   rw[zab zaC]at q9 ⊢;exact again J9 q9
  | true=>
   rw[zad rfl]at q9 ⊢;refine zbn (he _ _ _ _ _ _ s9 k H9 _ J9 q9) (λy S3 ⟨v,D4,ag,X7,UE,Uk,VZ⟩=>?_) λ_ _ z=>z;refine zbn (dr (X:=X.block scope cl E.x (tg++fr.map (·.1)) f pins a F) _ S3 k D4 (.ref a.y) [v] (.ref a.y) [y] (λ_ Lk=>∃L,L<n/\W (i+1) L k (ys++[v]) Lk) ag rfl (.cons X7 .nil) #[_,ys,v,rfl,rfl,UE,Uk,VZ]) (λ_ al ⟨_,Lk,ad,_,X9⟩=>?_) λ_ _ z=>z;exact again ad X9
  let l:=Ji b h;erw[aG<|zaW l,(f2 b h).1]
 exact codeAny_compStart_list (loop _ rfl)<|T.self X.A 0 _ _ _ (T.keep _ _ _ SW λb h o e=>k3 b o e)<|loop _ rfl
theorem dG(B:qR X scope cl tg fr)(hc:X.calm=true)(hi:PI X target iter wi)(hg:∀C fp pins s H,PG (X.block scope cl C (tg++fr.map (·.1)) fp pins s H) target g)(ht:∀C fp pins s H,IS (X.block scope cl C (tg++fr.map (·.1)) fp pins s H) ifs tt)(he:∀C fp pins s H,PE (X.block scope cl C (tg++fr.map (·.1)) fp pins s H) elt te)(hs:∀x,foldedSetIterable iter X.env x=pure x:=by ext _;rfl):PE X (.ListComp elt [#[target,iter,ifs,0]] scope pos)<|pG wi g tt te tg.z<|fr.map (·.2):=by ext pins s σ H Q I hw;rw[eval_ListComp];refine wpAny_comprehension_free rfl hs B.Rt B.kind B.names<|vL B hc hi hg ht he I hw λD C s1 H5 m J hn f0 f1 f2 f3 f4 q=>?_;refine#[m,hn,λh' sb=>#[.ref D,H5,?_,rfl,q]];exact J.turned (λb o hb e=>(sb.2 b hb).trans e) f0 f1 (.inr f2) f3 f4
theorem eC{i:Nat}{y:Str}{d h:Pos}(K:X.N.Nodup)(F:X.N[i]?=some y)(E:Loc X.env.scope y)(B:qR X scope cl tg fr)(P:X.calm=true)(O:PI X target iter wi)(A:∀C c pins s H,PG (X.block scope cl C (tg++fr.map (·.1)) c pins s H) target g)(U:∀C c pins s H,IS (X.block scope cl C (tg++fr.map (·.1)) c pins s H) ifs tt)(r:∀C c pins s H,PE (X.block scope cl C (tg++fr.map (·.1)) c pins s H) elt te)(k:∀x,foldedSetIterable iter X.env x=pure x:=by ext _;rfl)(l:swapsWith (.ListComp elt [#[target,iter,ifs,0]] scope pos) (some<|.Name y d) h.line X.env=pure true:=by rfl)(L:X.fn y=true\/X.env.scope.names.lookup y=some .local:=by first|exact .inl rfl|exact .inr rfl|assumption) :
  PS X (.Assign [.Name y d] (.ListComp elt [#[target,iter,ifs,0]] scope pos) h) (FT (pG wi g tt te tg.z<|fr.map (·.2))<|jU i):=by
 ext pins s σ H D I w;rw[exec_Assign_Name_used _ _ _ _ l];refine zae<|wpAny_standAt<|zae ?_;refine zae<|zbn (wpAny_comprehension_free rfl k B.Rt B.kind B.names<|vL B P O A U r I w λR C s1 G m J S f0 j T f M q=>?_) (λ_ s' W=>zax<|zax W) λ_ _ z=>z
 refine wpAny_assign_Name<|uZ (v:=.ref R) J K F E rfl (λZ t ⟨a,p,u⟩=>?_) L;let Y:C≠a:=by ext(z|z:u);rw[z];exact j;exact zaZ<|f y a z
 refine#[m,S.sameBut p Y,λh' Q=>#[_,G,?_,q]];exact t.turned (λb o n e=>(Q.2 b n).trans e) f0 j (.inr T) f M
end
noncomputable def JU(K:Frag):List V->Hp->VK->Prop:=λvs H Q=>∃(a:Addr) (ns:b9),vs=[.ref a]/\aK K H a ns.c/\ns.z<64/\∀(b:b9) p,b.Perm ns->b.Pairwise (·<=·)->H p=none->Q (.ref p) (upd H p<|.lst b.c)
theorem AG:fJ X (.builtin "sorted")<|JU X.K:=by
 ext pins s D H xs A Q I r h;let#[a,ns,rfl,n,B,q]:=h;let#[u,rfl,x]:=vals1 r;cases x;let#[l,k,p,C]:=I.list n;let v:=intsAre_of k;let f:=k.z;rw[zaa]at f;refine sorted_ints p.isList v () λc d j i y=>?_;let lo:=j.z;let#[t,k1]:=sortedAll_at s.heap l c;let z:=i.length_eq;let m:(d.c).z<=sizeLine:=by rw[zaa,zat];lia
 let g:bM X.prog X.w (upd H (s.y+1)<|.lst d.c) (sortedAll s.heap l c) (s.y+1)<|.lst d.c:=#[m,c.toList,t,oA j,by simpa[seqObj]using k1];exact#[.ref<|s.y+1,_,I.laid (λb o e=>sortedAll_old e) (zdy _) g,rfl,q d _ i y<|I.bW.fresh<|zdy _]
mutual
inductive A4(H:Hp):V->PyData->Prop where
 | int (i:Int):A4 H (.int i) (.int i)
 | lst {a:Addr} {vs:List V} {ds:List PyData}:H a=some (.lst vs)->fZ H vs ds->A4 H (.ref a) (.list ds)
 | tup {a:Addr} {vs:List V} {ds:List PyData}:H a=some (.tup vs)->fZ H vs ds->A4 H (.ref a) (.tuple ds)
inductive fZ(H:Hp):List V->List PyData->Prop where
 | nil:fZ H [] []
 | cons {v:V} {vs:List V} {d:PyData} {ds:List PyData}:A4 H v d->fZ H vs ds->fZ H (v::vs) (d::ds)
end
section
variable {X:Cx} {pins:b6} {σ:St} {H:Hp} {s:Shared}
mutual
theorem A4.reads(I:Inv X pins σ H s):∀{v:V} {d:PyData} {u:Value},A4 H v d->RelV v u->∃f,Reads s.heap u d f
 | _,_,u,.int i,r=>by let#[t,rfl]:=r;exact#[_,.int i t]
 | _,_,u,.lst (a:=a) (vs:=vs) e h,r=>by cases(show u=Value.ref a from r);let#[_,l,n,c,g]:=(show bM X.prog X.w H s.heap a (.lst vs)from I.bW a _ e);let#[f,b]:=fZ.reads I h c;exact#[_,.list g rfl rfl<|by simpa using b]
 | _,_,u,.tup (a:=a) (vs:=vs) e h,r=>by cases(show u=Value.ref a from r);let#[_,l,c,o,g,j,n,k]:=(show bM X.prog X.w H s.heap a (.tup vs)from I.bW a _ e);let#[f,b]:=fZ.reads I h c;exact#[_,.tuple g j k<|by simpa using b]
theorem fZ.reads(I:Inv X pins σ H s):∀{vs:List V} {c:List PyData} {a:bf},fZ H vs c->Vals vs a->∃b,ReadsAll s.heap a c b
 | _,_,_,.nil,.nil=>#[_,.nil]
 | _,_,_,.cons h t,.cons r q=>by let#[b,d]:=A4.reads I h r;let#[bs,e]:=fZ.reads I t q;exact#[_,.cons d e]
end
end
noncomputable def P0(neg:Bool):R2:=λx y H Q=>∃b a,A4 H x b/\A4 H y a/\SeqAt.shaped b=true/\SeqAt.shaped a=true/\Q (.bl<|if neg then !PyData.eqv b a else PyData.eqv b a) H
theorem G7(i:X.A.units+64<cLine):pE X (compareOp .Eq)<|P0 false:=by ext pins s k H x y v u Q I j d h;let#[m,n,e,a,c,b,q]:=h;let#[l,g]:=A4.reads I e j;let#[bs,f]:=A4.reads I a d;exact SeqAt.compareEq_shaped g f c b i<|bK I q rfl
theorem G6(i:X.A.units+64<cLine):pE X (compareOp .NotEq)<|P0 true:=by ext pins s k H x y v u Q I j d h;let#[m,n,e,a,c,b,q]:=h;let#[l,g]:=A4.reads I e j;let#[bs,f]:=A4.reads I a d;exact SeqAt.compareNe_shaped g f c b i<|bK I q rfl
noncomputable def fH(l:b9):PyData:=.list<|l.map .int
noncomputable def pR(L:cp):PyData:=.list<|L.map fH
noncomputable def l7(p:Int×Int):PyData:=.tuple [.int p.1,.int p.2]
noncomputable def kT(L:List<|Int×Int):PyData:=.list<|L.map l7
theorem lay_ints:∀l:b9,PyData.canLayAll0 (l.map .int)=true/\PyData.depthAll (l.map .int)=0
 | []=>#[by simp[PyData.canLayAll0],by simp[PyData.depthAll]]
 | i::l=>by let#[a,b]:=lay_ints l;simp[PyData.canLayAll0,PyData.depthAll,PyData.canLay0,PyData.depth,a,b]
theorem zZ:∀L:cp,PyData.canLayAll0 (L.map fH)=true/\PyData.depthAll (L.map fH)<=1
 | []=>#[by simp[PyData.canLayAll0],by simp[PyData.depthAll]]
 | l::L=>by let#[a,d]:=zZ L;let#[b,c]:=lay_ints l;simp[PyData.canLayAll0,PyData.depthAll,PyData.canLay0,PyData.depth,fH,a,b,c];lia
theorem vz:∀L:List (Int×Int),PyData.canLayAll0 (L.map l7)=true/\PyData.depthAll (L.map l7)<=1
 | []=>#[by simp[PyData.canLayAll0],by simp[PyData.depthAll]]
 | p::L=>by let#[a,b]:=vz L;simp[PyData.canLayAll0,PyData.depthAll,PyData.canLay0,PyData.depth,l7,a];lia
theorem pI(L:cp):SeqAt.shaped (pR L)=true:=by let#[h1,h2]:=zZ L;unfold SeqAt.shaped pR;simp[PyData.canLay0,PyData.depth,h1];lia
theorem mX(L:List<|Int×Int):SeqAt.shaped (kT L)=true:=by let#[a,b]:=vz L;unfold SeqAt.shaped kT;simp[PyData.canLay0,PyData.depth,a];lia
theorem tD:∀l m:b9,PyData.eqvAll (l.map .int) (m.map .int)=decide (l=m)
 | [],[]=>by simp[PyData.eqvAll]
 | [],_::_=>by simp[PyData.eqvAll]
 | _::_,[]=>by simp[PyData.eqvAll]
 | i::l,j::m=>by simp[zbg,PyData.eqvAll,PyData.eqv,tD l m];by_cases a:i=j<;>by_cases b:l=m<;>simp[a,b]
theorem vJ:∀L M:cp,PyData.eqvAll (L.map fH) (M.map fH)=decide (L=M)
 | [],[]=>by simp[PyData.eqvAll]
 | [],_::_=>by simp[PyData.eqvAll]
 | _::_,[]=>by simp[PyData.eqvAll]
 | i::l,j::m=>by
  rw[zbg,zbg,PyData.eqvAll,vJ l m];let e:PyData.eqv (fH i) (fH j)=decide (i=j):=by unfold fH;erw[PyData.eqv,tD i j]
  rw[e];by_cases a:i=j<;>by_cases b:l=m<;>simp[a,b]
theorem Ie(L M:cp):PyData.eqv (pR L) (pR M)=decide (L=M):=by unfold pR;erw[PyData.eqv,vJ L M]
theorem DE:∀L M:List (Int×Int),PyData.eqvAll (L.map l7) (M.map l7)=decide (L=M)
 | [],[]=>by simp[PyData.eqvAll]
 | [],_::_=>by simp[PyData.eqvAll]
 | _::_,[]=>by simp[PyData.eqvAll]
 | (a,b)::l,(c,d)::m=>by
  rw[zbg,zbg,PyData.eqvAll,DE l m];let e:PyData.eqv (l7 (a,b)) (l7 (c,d))=(decide (a=c)&&decide (b=d)):=by unfold l7;simp[PyData.eqv,PyData.eqvAll,Bool.and_true];by_cases f:a=c<;>by_cases g:b=d<;>simp[f,g]
  rw[e];by_cases f:a=c<;>by_cases g:b=d<;>by_cases h:l=m<;>simp[f,g,h]
theorem ES(L M:List<|Int×Int):PyData.eqv (kT L) (kT M)=decide (L=M):=by unfold kT;erw[PyData.eqv,DE L M]
theorem mP:bootBuiltins "min"=some (.builtin "min"):=by decide +kernel
theorem vP:bootBuiltins "sorted"=some (.builtin "sorted"):=by decide +kernel
theorem aW{a:Type}{p:a->Prop}:∀x∈([]:List a),p x:=λ_ h=>by cases h
theorem aq{b:Type}{p:b->Prop}{a:b}{l:List b}(h:p a)(t:∀x∈l,p x):∀x∈a::l,p x:=List.forall_mem_cons.mpr #[h,t]
section
variable {σ:St} {H:Hp} {Q:VK} {D:Ends} {K:Frag}
theorem Ej(h:to σ H λx a=>Pg K T x a/\t σ a λxs b=>r x xs b Q):VI K T r to t σ H Q:=h
theorem GG(h:to σ H λx a=>Pg K T x a/\r x [] a Q):Pr K T r to σ H Q:=h
theorem mq(h:R true H):qZ σ H R:=h
theorem eE(h:H l=some (.lst xs))(a:xs.z<sizeLine)(q:Q .gW<|upd H l<|.lst<|xs++[y]):CQ (.ref l) [y] H Q:=#[l,xs,y,rfl,rfl,h,a,q]
theorem GC(h:H l=some (.lst xs))(c:H b=some (.lst zs))(a:xs.z+zs.z<=sizeLine)(q:Q .gW<|upd H l<|.lst<|xs++zs):CP (.ref l) [.ref b] H Q:=#[l,b,xs,zs,rfl,rfl,h,c,a,q]
theorem PQ{p:Addr}{x:Int}{ns:b9}{neg:Bool}(h:aK K H p ns.c)(q:Q (.bl<|if neg then !decide (x∈ns)else decide (x∈ns)) H):Tc K neg (.int x) (.ref p) H Q:=by
 let e:Sd (.int x) ns.c=decide (x∈ns):=by
  unfold Sd;rw[any_map];let:(λy=>KP y<|V.int x) ∘ V.int=λy=>y==x:=by funext y;rfl
  rw[this];clear this q h;induction ns with
  | nil=>simp
  | cons a l d=>
   rw[any_cons,d];by_cases b:a=x;subst b;simp;let c:¬x=a:=λz=>b z.symm;simp[b,c]
 refine#[p,_,rfl,.inl h,rfl,?_,by erw[e,q]];rw[all_map];simp[nV]
theorem cZ(b:i<n)(h:A):∃a,a<n-i/\(a=n-(i+1)/\i+1<=n/\A):=#[_,(),rfl,b,h]
theorem dJ{R:Hp->Prop}{d:Addr}{lo:Int}{n:Nat}{g:TG}{t:TT}{s:TE}(f:Nat->St->List V->Hp->Prop)(w:f 0 σ [] H)(u:∀i σ ys H,i<n->f i σ ys H->g (.int<|lo+i) σ H λa o=>t a o λb l=>if b=true then s a l λy h=>h d=some (.lst ys)/\ys.z<sizeLine/\∃c,c<n-i/\(c=n-(i+1)/\i+1<=n/\f (i+1) a (ys++[y]) (upd h d<|.lst<|ys++[y]))else ∃c,c<n-i/\(c=n-(i+1)/\i+1<=n/\f (i+1) a ys l))(v:∀σ ys H,f n σ ys H->R H) :
  ∃W:Nat->Nat->St->List V->Hp->Prop,(∃m,W 0 m σ [] H)/\∀i m j ys k,W i m j ys k->(((Fc lo n).stop i k/\R k)\/((Fc lo n).go i k/\∀x r,(Fc lo n).A6 i k x r->g x j r λa o=>t a o λb l=>
   if b=true then s a l λy h=>h d=some (.lst ys)/\ys.z<sizeLine/\∃c,c<m/\W (i+1) c a (ys++[y]) (upd h d<|.lst<|ys++[y])else ∃c,c<m/\W (i+1) c a ys l)):=by
 refine#[λi m σ ys H=>m=n-i/\i<=n/\f i σ ys H,#[n,by simp,zaS _,w],?_];ext i m σ ys H ⟨rfl,z,p⟩;by_cases q:i<n;refine .inr #[q,λx A y=>?_];let#[e,y]:=y;subst e y;exact u i σ ys _ q p;let e:i=n:=();subst e;exact .inl #[zai _,v σ ys H p]
theorem cU{R:Hp->Prop}{f a:Addr}{xs:List V}{g:TG}{t:TT}{s:TE}(h:Nat->St->List V->Hp->Prop)(B:h 0 σ [] H)(w:∀i σ ys H,i<=xs.z->h i σ ys H->aK K H a xs)(v:∀i x σ ys H,xs[i]?=some x->i<xs.z->h i σ ys H->g x σ H λc o=>t c o λb k=>if b=true then s c k λy l=>l f=some (.lst ys)/\ys.z<sizeLine/\∃d,d<xs.z-i/\(d=xs.z-(i+1)/\i+1<=xs.z/\h (i+1) c (ys++[y]) (upd l f<|.lst<|ys++[y]))else ∃d,d<xs.z-i/\(d=xs.z-(i+1)/\i+1<=xs.z/\h (i+1) c ys k))(z:∀σ ys H,h xs.z σ ys H->R H) :
  ∃W:Nat->Nat->St->List V->Hp->Prop,(∃m,W 0 m σ [] H)/\∀i m n ys j,W i m n ys j->(((Fu K a).stop i j/\R j)\/((Fu K a).go i j/\∀x u,(Fu K a).A6 i j x u->g x n u λc o=>t c o λb k=>
   if b=true then s c k λy l=>l f=some (.lst ys)/\ys.z<sizeLine/\∃d,d<m/\W (i+1) d c (ys++[y]) (upd l f<|.lst<|ys++[y])else ∃d,d<m/\W (i+1) d c ys k)):=by
 refine#[λi m σ ys H=>m=xs.z-i/\i<=xs.z/\h i σ ys H,#[xs.z,by simp,zaS _,B],?_];ext i m σ ys H ⟨rfl,A,p⟩;let q:=w i σ ys H A p;by_cases r:i<xs.z;refine .inr #[#[xs,xs[i],q,by simp[r]],λx C y=>?_];let#[e,y]:=y;subst e;exact v i x σ ys _ (y xs q) r p;let e:i=xs.z:=();subst e;exact .inl #[#[xs,q,zai _],z σ ys H p]
theorem cA(h:wi σ H λJ l=>∀a,l a=none->∃W:Nat->Nat->St->List V->Hp->Prop,(∃m,W 0 m (iI n fr σ) []<|upd l a<|.lst [])/\
 ∀i m e ys f,W i m e ys f->((J.stop i f/\Q (.ref a) f)\/(J.go i f/\∀x k,J.A6 i f x k->g x e k λc p=>tt c p λb o=>
  if b=true then te c o λy j=>j a=some (.lst ys)/\ys.z<sizeLine/\∃d,d<m/\W (i+1) d c (ys++[y]) (upd j a<|.lst<|ys++[y])else ∃d,d<m/\W (i+1) d c ys o))):pG wi g tt te n fr σ H Q:=h
end
end L2
namespace Gm
open PySem L2
noncomputable def put(l:b9)(k:Nat)(x:Int):b9:=l.take k++x::l.drop k
theorem i6(l:b9)(k:Nat)(x:Int):(put l k x).Perm<|x::l:=by unfold put;refine List.perm_middle.trans ?_;rw[zcN]
theorem jE:y∈put l k x↔y=x\/y∈l:=by rw[(i6 l k x).mem_iff,zbm]
theorem vt(h:x∉l)(n:l.Nodup):(put l k x).Nodup:=(i6 l k x).nodup_iff.mpr<|zar.mpr #[h,n]
structure av(L:cp):Prop where
 nd:∀(i:Nat) (l:b9),L[i]?=some l->l.Nodup
 rg:∀(i:Nat) (l:b9),L[i]?=some l->∀x∈l,0<=x/\x<L.z/\x≠i
 sy:∀(i:Nat) (l:b9),L[i]?=some l->∀x∈l,∀j:Nat,x=j->∀m,L[j]?=some m->(i:Int)∈m
structure aO(H:Hp)(p:Addr)(as:bp)(L:cp):Prop where
 top:H p=some (.lst as.d)
 len:as.z=L.z
 row:∀(i:Nat) (a:Addr) (l:b9),as[i]?=some a->L[i]?=some l->H a=some (.lst l.c)
theorem aO.at(g:aO H p as L)(b:i<L.z):∃a l,as[i]?=some a/\L[i]?=some l/\H a=some (.lst l.c):=by
 let c:i<as.z:=by erw[g.len,b]
 exact#[as[i],L[i],by simp[c],by simp[b],g.row i _ _ (by simp[c])<|by simp[b]]
theorem aO.same(g:aO H p as L)(e:ai H H'):aO H' p as L:=#[e _ _ g.top,g.len,λi a l b c=>e _ _<|g.row i a l b c]
theorem aO.set(g:aO H p as L)(h:(p::as).Nodup)(e:as[i]?=some a):aO (upd H a<|.lst l'.c) p as<|L.set i l':=by
 let n:p≠a:=λz=>(zar.mp h).1<|z▸zah e;refine#[by erw[aG n,g.top],by erw[zbN,g.len],λj b l d c=>?_];by_cases f:j=i;subst f;rw[e]at d;cases d;rw[zcv,zad rfl]at c;split at c;cases c;exact ah;cases c;rw[zdK<|λz=>f z.symm]at c;let k:b≠a:=λz=>by subst z;let#[q,m]:=zac.mp d;let#[r,o]:=zac.mp e;exact f<|(zcq (zar.mp h).2).mp<|m.trans o.symm
 erw[aG k,g.row j b l d c]
theorem aO.ix(g:aO H p as L){i:Nat}(b:as[i]?=some a):j6 as.d (i:Int)=some (V.ref a):=cz (by rw[zao,b];rfl)
theorem zt{H:Hp}:∀l:b9,fZ H l.c (l.map PyData.int)
 | []=>.nil
 | i::l=>.cons (.int i)<|zt l
theorem nh(h:H a=some (.lst l.c)):A4 H (.ref a)<|fH l:=.lst h<|zt l
theorem zp:∀{c:bp} {L:cp},c.z=L.z->(∀(i:Nat) (a:Addr) (l:b9),c[i]?=some a->L[i]?=some l->H a=some (.lst l.c))->fZ H c.d (L.map fH)
 | [],[],_,_=>.nil
 | [],_::_,h,_=>by simp at h
 | _::_,[],h,_=>by simp at h
 | a::c,l::L,h,r=>.cons (nh<|r 0 a l rfl rfl) (zp (by simpa using h) λi b m d e=>r (i+1) b m (by simpa using d)<|by simpa using e)
theorem aO.PL(g:aO H p as L):A4 H (.ref p)<|pR L:=.lst g.top<|zp g.len g.row
theorem ai.fresh(e:ai H H')(h:H a=none):ai H<|upd H' a o:=λb u q=>by erw[aG (λz=>by rw[z,h]at q;cases q),e b u q]
inductive Reach(L:cp)(s:Int):Int->Prop where
 | here:Reach L s s
 | step {i:Nat} {l:b9} {x:Int}:Reach L s i->L[i]?=some l->x∈l->Reach L s x
theorem dH{α:Type}[BEq α][LawfulBEq α]:∀{l r:List α},l.Nodup->(∀x∈l,x∈r)->l.z<=r.z
 | [],_,_,_=>zaS _
 | x::l,r,n,h=>by
  let hx:=h x zal;let n2:=zar.mp n;let ih:=dH n2.2 λy hy=>by let ne:y≠x:=λz=>n2.1<|z▸hy;exact(mem_erase_of_ne ne).mpr<|h y<|zag _ hy
  rw[length_erase_of_mem hx]at ih;let:=zcl hx;rw[zbd];lia
theorem cG{n:Nat}{l:b9}(h:l.Nodup)(r:∀x∈l,0<=x/\x<n):l.z<=n:=by
 let:=dH (r:=(List.range n).map λi:Nat=>(i:Int)) h λx a=>by let:=r x a;exact zap.mpr #[x.toNat,zaU.mpr (),()]
 simpa using this
theorem len_eq{a:Type}[BEq a][LawfulBEq a]{l r:List a}(b:l.Nodup)(c:r.Nodup)(h:∀x,x∈l↔x∈r):l.z=r.z:=
 Nat.le_antisymm (dH b λx=>(h x).mp) (dH c λx=>(h x).mpr)
theorem aI(h:n<=1000):n<sizeLine:=by rw[zat];lia
noncomputable def ud(i:Nat)(l:b9):Nat->b9
 | 0=>[]
 | j+1=>ud i l j++(if((i+1+j:Nat):Int)∈l then [((i+1+j:Nat):Int)]else [])
noncomputable def cI(L:cp):Nat->List (Int×Int)
 | 0=>[]
 | k+1=>cI L k++(ud k (L.getD k [])<|L.z-(k+1)).map λx=>((k:Int),x)
theorem kG{i:Nat}{l:b9}:∀{j:Nat} {x:Int},x∈ud i l j↔(i:Int)<x/\x<(i+1+j:Nat)/\x∈l
 | 0,x=>by simp[ud,zaR,false_iff];ext h;lia
 | j+1,x=>by rw[ud,zdz,kG];by_cases h:((i+1+j:Nat):Int)∈l;rw[zad h,mem_singleton];constructor;rintro (⟨h1,h2,h3⟩|rfl);exact#[h1,(),h3];exact#[(),(),h];ext⟨h1,h2,h3⟩;by_cases e:x=((i+1+j:Nat):Int);exact .inr e;exact .inl #[h1,(),h3];rw[zab h];simp only[zaR,zbt];constructor;ext⟨h1,h2,h3⟩;exact#[h1,(),h3];ext⟨h1,h2,h3⟩;let:x≠((i+1+j:Nat):Int):=λz=>h<|z▸h3;exact#[h1,(),h3]
theorem ka{i:Nat}{l:b9}:∀j,(ud i l j).Pairwise (·<·)
 | 0=>.nil
 | j+1=>by rw[ud,pairwise_append];refine#[ka j,by split<;>simp,λa d b c=>?_];let:=kG.mp d;split at c;rw[mem_singleton]at c;lia;cases c
theorem rE:∀{l r:b9},l.Pairwise (·<·)->r.Pairwise (·<·)->(∀x,x∈l↔x∈r)->l=r
 | [],[],_,_,_=>rfl
 | [],b::r,_,_,h=>absurd ((h b).mpr zal) A?
 | a::l,[],_,_,h=>absurd ((h a).mp zal) A?
 | a::l,b::r,hl,hr,h=>by
  let#[c,f]:=List.pairwise_cons.mp hl;let#[d,g]:=List.pairwise_cons.mp hr;let e:a=b:=by ext(z|z:zas.mp<|(h a).mp zal);exact z;ext(y|y:zas.mp<|(h b).mpr zal);exact y.symm;let:=d a z;let:=c b y;lia
  subst e;rw[rE f g λx=>?_];constructor;ext z;ext(y|y:zas.mp<|(h x).mp<|zag _ z);let:=c x z;lia;exact y;ext z;ext(y|y:zas.mp<|(h x).mpr<|zag _ z);let:=d x z;lia;exact y
theorem strict{l:b9}(h:l.Pairwise (·<=·))(n:l.Nodup):l.Pairwise (·<·):=by let:=h.and n;exact this.imp λ⟨x,y⟩=>()
theorem MK{i n:Nat}{l s:b9}(p:s.Perm l)(h:s.Pairwise (·<=·))(n1:l.Nodup)(r:∀x∈l,x<n)(d:i<n):s.filter (λx=>decide<|(i:Int)<x)=ud i l (n-(i+1)):=by refine rE ((strict h<|p.nodup_iff.mpr n1).filter _) (ka _) λx=>?_;rw[zeR,kG,p.mem_iff];simp[zcD];constructor;ext⟨a,b⟩;let:=r x a;exact#[b,(),a];ext⟨a,b,c⟩;exact#[c,a]
theorem zW{i:Nat}{l:b9}:∀j,(ud i l j).z<=j
 | 0=>zai _
 | j+1=>by rw[ud,zay];let:=zW (i:=i) (l:=l) j;split<;>simp<;>lia
theorem zX{L:cp}:∀k,(cI L k).z<=k*L.z
 | 0=>zaS _
 | k+1=>by rw[cI,zay,zaa];let:=zX (L:=L) k;let:=zW (i:=k) (l:=L.getD k [])<|L.z-(k+1);rw[zeB];lia
abbrev PR(H:Hp):bp->List (Int×Int)->Prop:=Paired λa x=>H a=some (.tup [.int x.1,.int x.2])
theorem PR.lst{H:Hp}{t:Addr}{xs zs:List V}{b:bp}{T:List<|Int×Int}(h:PR H b T)(c:H t=some (.lst xs)):PR (upd H t<|.lst zs) b T:=
 Paired.xt h λa x e=>by erw[aG (λz=>by rw[z,c]at e;cases e),e]
theorem PR.same(h:PR H ps T)(e:ai H H'):PR H' ps T:=Paired.xt h λa x q=>e _ _ q
theorem PR.app{H:Hp}:∀{b a:bp} {T U:List<|Int×Int},PR H b T->PR H a U->PR H (b++a) (T++U)
 | _,_,_,_,.nil,h=>h
 | _,_,_,_,.cons r t,h=>.cons r<|PR.app t h
theorem PR.PL{H:Hp}:∀{a:bp} {T:List<|Int×Int},PR H a T->fZ H a.d (T.map l7)
 | _,_,.nil=>.nil
 | _,_,.cons r t=>.cons (.tup r<|.cons (.int _)<|.cons (.int _) .nil)<|PR.PL t
theorem PR.len(h:PR H ps T):ps.z=T.z:=Paired.length h
structure Fl(L:cp)(s:Int)(ks ws:b9):Prop where
 nd:ks.Nodup
 nw:ws.Nodup
 st:s∈ks
 re:∀x∈ks,Reach L s x
 sub:∀x∈ws,x∈ks
 cl:∀(i:Nat) (l:b9),(i:Int)∈ks->(i:Int)∉ws->L[i]?=some l->∀x∈l,x∈ks
section
variable {L:cp} {s:Int} {ks ws:b9} {pl k:Nat} {l:b9} {x:Int}
theorem wB:(l++[x]).Nodup↔x∉l/\l.Nodup:=by rw[(zcV x l).nodup_iff,zdj]
theorem yL(h:l[k]?=some x)(a:y∈l.take (k+1)):y∈l.take k\/y=x:=by rw[zeI,h]at a;simpa using a
theorem qU:∀(ks:b9) (x:Int),(iJ (ks.map λx=>((Sum.inl x:Key),V.bl true))<|.inl x).isSome=decide (x∈ks)
 | [],x=>rfl
 | y::ks,x=>by rw[zbg];by_cases e:y=x;subst e;rw[gX rfl];simp;rw[fO<|λz=>e<|Sum.inl.inj z,qU ks x];let a:¬x=y:=λz=>e z.symm;simp[a]
theorem GJ(h:x∉ks):dV (ks.map λx=>((Sum.inl x:Key),V.bl true)) (.inl x) (.bl true)=(ks++[x]).map λx=>((Sum.inl x:Key),V.bl true):=by rw[nj,zaw];rfl;let:=qU ks x;rw[zaQ h]at this;exact Option.isNone_iff_eq_none.mp (by rw[<-Option.not_isSome,this];rfl)
end
theorem shaped_ints(l:b9):SeqAt.shaped (fH l)=true:=by let#[a,b]:=lay_ints l;unfold SeqAt.shaped fH;simp[PyData.canLay0,PyData.depth,a,b]
theorem DD(l m:b9):PyData.eqv (fH l) (fH m)=decide (l=m):=by unfold fH;erw[PyData.eqv,tD l m]
theorem PM(q:Q (.bl<|!decide (i=j)) H):Tb (.bl i) (.bl j) H Q:=#[rfl,by erw[B3,zds,q]]
end Gm
namespace L2
open PySem PySem.Spec PySem.W PySem.Calls PyProof.Rows
section
variable {X:Cx} {K:Frag}
theorem nQ(h:X.K=K):RL X<|JY K:=h▸aB
theorem Dj(h:X.K=K):RL X<|JX K:=h▸oW
theorem E6(h:X.K=K):fJ X (.builtin "len") (λxs H Q=>∃x n,xs=[x]/\RK K x H n/\Q (.int n) H):=by subst h;exact aN
theorem iW(h:X.K=K):fJ X (.type "list") (λxs H Q=>∃p ys,xs=[.ref p]/\(aK K H p ys\/SqT K H p ys)/\∀l,H l=none->Q (.ref l) (upd H l<|.lst ys)):=by subst h;exact yd
end
end L2
namespace L2
open PySem PySem.Spec PySem.W PySem.Calls PyProof.Rows HT
section
open PySem.SeqAt
open PySem.AutoSeq1 (wpAny_loadPart')
open PySem.MeetsSeq PySem.MeetsSeq2 PySem.MeetsSeq3
theorem qI(h:IntsAre vs ns)(b:i<ns.z):∃t,vs[i]?=some (.int ns[i] t):=by
 induction h generalizing i with
 | nil=>simp at b
 | cons a t r c=>
  cases i with
  | zero=>exact#[t,rfl]
  | succ i=>
   let#[u,d]:=c (by simpa using b);exact#[u,by simpa using d]
theorem Km(l b:Addr)(c vs:Array Value)(n1 n2:Nat)(F B:Option Addr)(I z:Array<|Option Value)(ns a:b9)(D:IntsAre c.toList ns)(G:IntsAre vs.toList a)(k:Nat) :
  ∀i:Nat,c.size-i=k->i<=ns.z->i<=a.z->Meets (Builtin.«list.__eq__.loop» #[[.ref l,.ref b,rawInt i,rawInt 0],[]])
   (λA R s=>s.heap.get? l=some { cls:=.type "list",dict:=F,data:=.seq c n1,slots:=I }/\
    s.heap.get? b=some { cls:=.type "list",dict:=B,data:=.seq vs n2,slots:=z }/\R (.ok<|.ret<|.bool<|de (ns.drop i)<|a.drop i) s):=by
 let U:c.size=ns.z:=by rw[<-D.z];simp
 let W:vs.size=a.z:=by rw[<-G.z];simp
 let stop:∀i,i<=ns.z->i<=a.z->¬(i<ns.z/\i<a.z)->de (ns.drop i) (a.drop i)=decide (c.size<vs.size):=λi n m K=>by by_cases q:i<ns.z;let v:a.drop i=[]:=drop_eq_nil_of_le ();rw[v,zcg q,sL];exact(zaQ ()).symm;let v:ns.drop i=[]:=drop_eq_nil_of_le ();rw[v];by_cases M:i<a.z;rw[zcg M,sJ];exact(zaV ()).symm;erw[drop_eq_nil_of_le (),ux,(zaQ ()).symm]
 let ends:∀i,i<=ns.z->i<=a.z->¬(i<ns.z/\i<a.z)->Meets (Builtin.«list.__eq__.loop» #[[.ref l,.ref b,rawInt i,rawInt 0],[]])
   (λA R s=>s.heap.get? l=some { cls:=.type "list",dict:=F,data:=.seq c n1,slots:=I }/\
    s.heap.get? b=some { cls:=.type "list",dict:=B,data:=.seq vs n2,slots:=z }/\R (.ok<|.ret<|.bool<|de (ns.drop i)<|a.drop i) s):=by
  ext i n m K prog w A R s h;let e:=stop i n m K;let#[x,g,d,u,r]:=s;let#[j,f,h]:=h;rw[e]at h
  wp_walk using zbJ f,zbJ j
  by_cases q:i<c.size;let o:c[((i:Nat):Int).toNat]?=some c[i]:=by simp[q]
  let p:vs[((i:Nat):Int).toNat]?=none:=by simp;lia
  rw[o,p]
  wp_walk using zbJ f,zbJ j
  exact h;let o:c[((i:Nat):Int).toNat]?=none:=by simp;lia
  rw[o]
  wp_walk using zbJ f,zbJ j
  exact h
 induction k with
 | zero=>exact λi N n m=>ends i n m ()
 | succ k T=>
  ext i N n m;by_cases E:i<a.z;let H:i<ns.z:=();ext prog w A R s h;let#[x,g,d,u,r]:=s;let#[j,f,h]:=h;let#[t,Q]:=qI D H;let#[y,S]:=qI G E;let o:c[((i:Nat):Int).toNat]?=some (.int ns[i] t):=by simpa using Q
  let p:vs[((i:Nat):Int).toNat]?=some (.int a[i] y):=by simpa using S
  rw[zcg H,zcg E,iq]at h
  wp_walk using zbJ f,zbJ j
  rw[o,p];let#[e,L,C]:=Ih A.in1 #[x,g,d,u,r] ns[i] t a[i] y;refine zae<|L prog w _ _ ?_;let O:((i:Int)+1)=((i+1:Nat):Int):=();cases e with
  | true=>
   rw[zad<|C.mp rfl]at h
   wp_walk
   rw[O];refine#[zcw plain_eq_loop _,zcG entry_eq_loop ?_];erw[zbR plain_eq_loop _,T (i+1) () () () prog w A R _ #[j,f,h]]
  | false=>
   rw[zab<|λq=>absurd (C.mpr q) zaC]at h
   wp_walk using zbJ f,zbJ j
   rw[o,p];let P:=Gp A.in1 #[x,g,d,u,r] ns[i] t a[i] y prog w
   wp_walk using P
   exact h
  exact ends i n m ()
theorem nK(l b:Addr)(a vs:Array Value)(n1 n2:Nat)(i m:Option Addr)(k f:Array<|Option Value)(ns c:b9)(n:IntsAre a.toList ns)(o:IntsAre vs.toList c) :
  Meets (Builtin.«list.__lt__» #[[.ref l,.ref b],[]])
   (λA R s=>s.heap.get? l=some { cls:=.type "list",dict:=i,data:=.seq a n1,slots:=k }/\
    s.heap.get? b=some { cls:=.type "list",dict:=m,data:=.seq vs n2,slots:=f }/\R (.ok<|.ret<|.bool<|de ns c) s):=by
 ext prog w A R s h;let#[t,g,d,q,p]:=s;let#[j,e,h]:=h;let r:=AutoSeq1.sub_list_list
 wp_walk using zbJ e,zbJ j
 refine#[zcw plain_eq_loop _,zcG entry_eq_loop ?_];erw[zbR plain_eq_loop _,Km l b a vs n1 n2 i m k f ns c n o _ 0 rfl (zaS _) (zaS _) prog w A R _ #[j,e,h]]
end
theorem Hk(m:s.heap.IsList l us)(g:s.heap.IsList b vs)(i:IntsAre us.toList ns)(j:IntsAre vs.toList ms)(o:A.units<cLine)(h:Q (.bool<|de ns ms) s) :
  wpAny (model prog w) A (compareOp .Lt (.ref l)<|.ref b) Q E s:=by
 let#[#[t,k,r,f],a,k1,n1,c]:=id m;let#[#[u,p,q,n],e,k2,n2,d]:=id g;dsimp only at k1 c k2 d;subst k1 c k2 d;exact richCompare_meets_room (op:=.Lt) #[_,a,rfl] #[_,e,rfl] zem PySem.F.entry_list_lt (PySem.F.args_list_lt_2 _ _) (nK l b us vs n1 n2 k p f n ns ms i j)
  #[a,e,show Value.bool (de ns ms)≠Value.notImplemented/\Q (.bool<|de ns ms) s from#[nofun,h]] o
theorem zK(k:s.heap.IsList l us)(f:s.heap.IsList b vs)(g:IntsAre us.toList ns)(i:IntsAre vs.toList ms)(o:A.units<cLine)(h:Q (de ns ms) s) :
  wpAny (model prog w) A (oneLt' true (.ref l)<|.ref b) Q E s:=by
 let#[#[t,j,r,e],a,k1,n1,c]:=id k;let#[#[u,p,q,m],n,k2,n2,d]:=id f;dsimp only at k1 c k2 d;subst k1 c k2 d;rw[oneLt'_eq];simp[zfp];refine zae<|wpAny_cRoomFor o ?_;refine zae<|wpAny_callSpecialIfBound?_slot #[_,a,rfl] zem<|zdh zem #[_,a,rfl] PySem.F.entry_list_lt (PySem.F.args_list_lt_2 _ _) (nK l b us vs n1 n2 j p e m ns ms g i) #[a,n,?_];exact zci h
theorem xC:∀a:b9,de a a=false
 | []=>rfl
 | x::a=>by erw[iq,zad rfl,xC a]
theorem lex_trans:∀{a b c:b9},de a b=true->de b c=true->de a c=true
 | [],[],_,h,_=>by cases h
 | [],_::_,[],_,h=>by cases h
 | [],_::_,_::_,_,_=>rfl
 | _::_,[],_,h,_=>by cases h
 | _::_,_::_,[],_,h=>by cases h
 | x::a,y::b,z::c,h1,h2=>by rw[iq]at h1 h2 ⊢;by_cases e:x=y;subst e;by_cases d:x=z;subst d;rw[zad rfl]at h1 h2 ⊢;exact lex_trans h1 h2;rw[zab d]at h2 ⊢;exact h2;rw[zab e]at h1;let g:=zeY h1;by_cases d:y=z;subst d;rw[zab e];exact h1;rw[zab d]at h2;let f:=zeY h2;erw[zab (),zaV ()]
theorem nO:∀{a b:b9},de a b=false->de b a=false->a=b
 | [],[],_,_=>rfl
 | [],_::_,h,_=>by cases h
 | _::_,[],_,h=>by cases h
 | x::a,y::b,h1,h2=>by rw[iq]at h1 h2;by_cases e:x=y;subst e;rw[zad rfl]at h1 h2;rw[nO h1 h2];rw[zab e]at h1;rw[zab<|λz=>e z.symm]at h2;let d:=of_decide_eq_false h1;let c:=of_decide_eq_false h2;lia
theorem Hu{a b:b9}(h:de a b=true):de b a=false:=by
 cases q:de b a with
 | false=>rfl
 | true=>have:=lex_trans h q;rw[xC]at this;cases this
noncomputable def Le(a b:b9):Prop:=de b a=false
theorem Le.refl(a:b9):Le a a:=xC a
theorem Le.trans(g:Le a b)(d:Le b c):Le a c:=by
 unfold Le at *;cases q:de c a with
 | false=>rfl
 | true=>
  by_cases e:de a b=true;let:=lex_trans q e;rw[d]at this;cases this;let f:=nO (by simpa using e) g;subst f;rw[d]at q;cases q
theorem Le.of_lt{a b:b9}(h:de a b=true):Le a b:=Hu h
theorem Le.Ve(c:Le a b)(d:Le b a):a=b:=nO d c
end L2
namespace L2
open PySem PySem.Spec PySem.W PySem.Calls PyProof.Rows
noncomputable def yy(a:Nat->Nat->(Bool->Shared->Prop)->Shared->Prop)(n:Nat)(f:Nat->b9)(s:Shared):Prop:=∀i j C,i<n->j<n->C (HT.de (f i)<|f j) s->a i j C s
structure Arr(n:Nat)(p:Array Nat):Prop where
 size:p.size=n
 perm:p.Perm (List.toArray<|List.range n)
noncomputable def kf(f:Nat->b9)(p:Array Nat)(i:Nat):b9:=f<|p.getD i 0
theorem Arr.lt(h:Arr n p)(a:i<n):p.getD i 0<n:=by
 let e:p.getD i 0=p[i]'(by erw[h.size,a]):=by simp[Array.getD,h.size,a]
 let m:p[i]'(by erw[h.size,a])∈p:=Array.getElem_mem _;let:=(h.perm.mem_iff).mp m;rw[e];simpa using this
theorem kf_at(h:p[i]?=q[j]?):kf f p i=kf f q j:=by unfold kf;rw[zcL,zcL,h]
theorem Arr.rev(h:Arr n p)(i j:Nat):Arr n<|kas_rev p i j:=#[by unfold kas_rev;erw[mirror_size,h.size],(mirror_perm _ _ _ _).trans h.perm]
theorem Arr.bub(h:Arr n p)(i j:Nat):Arr n<|bubble p i j:=#[by erw[bubble_size,h.size],(bubble_perm _ _ _).trans h.perm]
theorem xH(h:Arr n p)(a:j<=n)(k:Nat):kf f (kas_rev p i j) k=if i<=k/\k<j then kf f p (i+j-1-k)else kf f p k:=by let e:=getElem?_mirror_all (i:=i) (by erw[h.size,a]) k;by_cases q:i<=k/\k<j;rw[zad q]at e ⊢;exact kf_at e;rw[zab q]at e ⊢;exact kf_at e
noncomputable def Up(f:Nat->b9)(p:Array Nat)(m:Nat):Prop:=∀i,i+1<m->Le (kf f p i) (kf f p<|i+1)
noncomputable def Dn(f:Nat->b9)(p:Array Nat)(m:Nat):Prop:=∀i,i+1<m->Le (kf f p<|i+1) (kf f p i)
theorem Up.le(h:Up f p m)(c:i<=j)(a:j<m):Le (kf f p i)<|kf f p j:=by
 induction j with
 | zero=>
      obtain rfl:i=0:=();exact Le.refl _
 | succ j b=>
  by_cases e:i=j+1;rw[e];exact Le.refl _;exact(b () ()).trans<|h j a
theorem Dn.le(h:Dn f p m)(c:i<=j)(a:j<m):Le (kf f p j)<|kf f p i:=by
 induction j with
 | zero=>
      obtain rfl:i=0:=();exact Le.refl _
 | succ j b=>
  by_cases e:i=j+1;rw[e];exact Le.refl _;exact(h j a).trans<|b () ()
theorem B8(d:yy cmp n f s){p:Array Nat}(c:Arr n p){Q:Nat->Shared->Prop}:∀(b m:Nat),1<=m->m+b<=n->Up f p m->(∀a,m<=a->a<=m+b->Up f p a->(a=m+b\/HT.de (kf f p a) (kf f p<|a-1)=true)->Q a s)->(kas_asc p b m).kasWp cmp Q s
 | 0,m,_,_,u,k=>k m (zai _) (zai _) u<|.inl rfl
 | b+1,m,h1,h2,u,k=>by
  refine d _ _ _ (c.lt ()) (c.lt ()) ?_;show(if _ then _ else _:KasT Nat).kasWp cmp Q s;cases q:HT.de (f<|p.getD m 0) (f<|p.getD (m-1) 0)with
  | true=>rw[zad rfl];exact k m (zai _) () u<|.inr q
  | false=>
   rw[zab B!];refine B8 d c b (m+1) () () (λi o=>?_) λa l j h g=>k a () () h<|g.imp (λz=>()) id;by_cases e:i+1=m;let:i=m-1:=();rw[e,this];exact q;exact u i ()
noncomputable def Flt(f:Nat->b9)(p:Array Nat)(m q:Nat):Prop:=∀i,m-(q+1)<=i->i<m->kf f p i=kf f p (m-1)
theorem rS(a:Arr n p)(b:m<=n)(c:q+1<=m)(h:Flt f p m q)(k:Nat):kf f (kas_rev p (m-(q+1)) m) k=kf f p k:=by rw[xH a b];by_cases e:m-(q+1)<=k/\k<m;rw[zad e,h _ () (),<-h k e.1 e.2];rw[zab e]
theorem qO(v:yy cmp n f s){Q:Array Nat×Nat×Nat->Shared->Prop}:∀(o:Nat) (p:Array Nat) (m q:Nat),Arr n p->1<=m->m+o<=n->q+1<=m->Dn f p m->Flt f p m q->
  (∀g h l,Arr n g->1<=h->h<=m+o->l+1<=h->Dn f g h->Flt f g h l->Q (g,h,l) s)->(kas_desc o p m q).kasWp cmp Q s
 | 0,p,m,q,hp,h1,_,hq,d,fl,k=>k p m q hp h1 (zai _) hq d fl
 | o+1,p,m,q,hp,h1,h2,hq,d,fl,k=>by
  refine v _ _ _ (hp.lt ()) (hp.lt ()) ?_;show(if _ then _ else _:KasT _).kasWp cmp Q s;cases c:HT.de (f<|p.getD m 0) (f<|p.getD (m-1) 0)with
  | true=>
   rw[zad rfl];let B:∀g,(∀j,kf f g j=kf f p j)->Dn f g (m+1):=λg e i C=>by
    rw[e,e];by_cases z:i+1=m;let:i=m-1:=();rw[z,this];exact Le.of_lt c;exact d i ()
   let y:∀g,Flt f g (m+1) 0:=λg i a b=>by
    let:i=m:=();rw[this];rfl
   by_cases z:q > 0;rw[zad z];refine qO v o _ (m+1) 0 (hp.rev _ _) () () () (B _ λj=>rS hp () hq fl j) (y _) λg h l t r A u x w=>k g h l t r () u x w;rw[zab z];refine qO v o _ (m+1) 0 hp () () () (B _ λ_=>rfl) (y _) λg h l t r A u x w=>k g h l t r () u x w
  | false=>
   rw[zab B!];refine v _ _ _ (hp.lt ()) (hp.lt ()) ?_;show(if _ then _ else _:KasT _).kasWp cmp Q s;cases c2:HT.de (f<|p.getD (m-1) 0) (f<|p.getD m 0)with
   | true=>rw[zad rfl];exact k p m q hp h1 () hq d fl
   | false=>
    rw[zab B!];let e:kf f p m=kf f p (m-1):=nO c c2;refine qO v o p (m+1) (q+1) hp () () () (λi C=>?_) (λi a b=>?_) λg h l t r A u x w=>k g h l t r () u x w;by_cases z:i+1=m;let:i=m-1:=();rw[z,this,e];exact Le.refl _;exact d i ();rw[zcu];by_cases z:i=m;rw[z];rw[fl i () (),e]
theorem yM(g:yy cmp n f s)(b:Arr n p)(h:1<=m)(e:m<=n)(d:Dn f p m)(k:∀a c,Arr n c->a<=n->1<=a->Up f c a->Q (a,c) s):(kas_tail3 m n p).kasWp cmp Q s:=by unfold kas_tail3;rw[zdL];refine B8 g (b.rev 0 m) (n-m) m h () (λi q=>?_) λa o l j _=>k a _ (b.rev 0 m) () () j;erw[xH b e,xH b e,zad (),zad (),d.le () ()]
theorem pQ(h:yy cmp n f s)(r:Arr n p)(w:m+1<=n)(v:1<=m)(d:Dn f p<|m+1)(k:∀c g,Arr n g->c<=n->1<=c->Up f g c->Q (c,g) s):(kas_descPart m n p).kasWp cmp Q s:=by
 unfold kas_descPart;rw[zdL];refine qO h (n-(m+1)) p (m+1) 0 r () () () d (λi a b=>?_) λg c u e j x l q o=>?_;let:i=m:=();rw[this];rfl;by_cases z:u > 0;rw[zad z];refine yM h (e.rev _ _) j () (λi t=>?_) k;rw[rS e () l o,rS e () l o];exact q i t;erw[zab z,yM h e j () q k]
theorem Iv(g:yy cmp n f s)(a:Arr n p)(v:1<=n)(k:∀o q,Arr n q->o<=n->1<=o->Up f q o->Q (o,q) s):(kas_count n p).kasWp cmp Q s:=by
 unfold kas_count;rw[zdL];refine B8 g a (n-1) 1 (zai _) () (λi d=>()) λm b w l t=>?_;by_cases z:m=n;rw[zad<|by simpa using z];exact k m p a () b l;rw[zab<|by simpa using z];let st:=t.resolve_left ();by_cases y:m > 1;rw[zad y];refine g _ _ _ (a.lt ()) (a.lt ()) ?_;show(if _ then _ else _:KasT _).kasWp cmp Q s;cases c:HT.de (f<|p.getD 0 0) (f<|p.getD (m-1) 0)with
 | true=>rw[zad rfl];exact k m p a () b l
 | false=>
  rw[zab B!];let h:∀i,i<m->kf f p i=kf f p (m-1):=λi d=>Le.Ve (l.le () ())<|Le.trans (show Le (kf f p<|m-1) (kf f p 0)from c)<|l.le (zaS _) d;let r:∀j,kf f (kas_rev p 0 m) j=kf f p j:=λj=>by rw[xH a ()];by_cases e:0<=j/\j<m;rw[zad e,h _ (),<-h j e.2];rw[zab e]
  refine pQ g (a.rev 0 m) () b (λi d=>?_) k;rw[r,r];by_cases e:i+1=m;let:i=m-1:=();rw[e,this];exact Le.of_lt st;erw[h i (),h (i+1) (),Le.refl _]
 rw[zab y];refine pQ g a () b (λi d=>?_) k;let:i+1=m:=();let u:i=m-1:=();erw[this,u,Le.of_lt st]
theorem rY(g:yy cmp n f s){p:Array Nat}(e:Arr n p){k:Nat}(h:k<n)(u:Up f p k){Q:Nat->Shared->Prop}:∀(d l r:Nat),r-l<=d->l<=r->r<=k->(∀i,i<l->Le (kf f p i) (kf f p k))->(∀i,r<=i->i<k->Le (kf f p k) (kf f p i))->
  (∀l',l'<=k->(∀i,i<l'->Le (kf f p i) (kf f p k))->(∀i,l'<=i->i<k->Le (kf f p k) (kf f p i))->Q l' s)->(kas_place p k d l r).kasWp cmp Q s
 | 0,l,r,h1,h2,h3,h4,h5,q=>q l () h4 λi a b=>h5 i () b
 | d+1,l,r,h1,h2,h3,h4,h5,q=>by
  unfold kas_place;by_cases z:l>=r;rw[zad z];exact q l () h4 λi a b=>h5 i () b;rw[zab z];refine g _ _ _ (e.lt h) (e.lt ()) ?_;show(if _ then _ else _:KasT _).kasWp cmp Q s;cases c:HT.de (f<|p.getD k 0) (f<|p.getD ((l+r) / 2) 0)with
  | true=>
   erw[zad rfl,rY g e h u d l ((l+r) / 2) () () () h4 (λi a b=>Le.trans (Le.of_lt c)<|u.le a b) q]
  | false=>
   erw[zab B!,rY g e h u d ((l+r) / 2+1) r () () h3 (λi a=>Le.trans (u.le () ())<|show Le (kf f p<|(l+r) / 2) (kf f p k)from c) h5 q]
theorem IF(m:yy cmp n f s){Q:Array Nat->Shared->Prop}:∀(d:Nat) (p:Array Nat) (k:Nat),Arr n p->k+d=n->Up f p k->(∀g,Arr n g->Up f g n->Q g s)->(kas_bin d p k).kasWp cmp Q s
 | 0,p,k,hp,h1,u,q=>q p hp (by erw[<-h1,u])
 | d+1,p,k,hp,h1,u,q=>by
  unfold kas_bin;rw[zdL];refine rY m hp () u k 0 k () (zaS _) (zai _) (λi h=>()) (λi a b=>()) λl v lo t=>?_;let o:∀j,kf f (bubble p k<|k-l) j=if j=l then kf f p k else if l<j/\j<=k then kf f p (j-1)else kf f p j:=λj=>by
   let e:=getElem?_bubble (src:=k) (by rw[hp.size];lia) (k-l) () j;let r:k-(k-l)=l:=();rw[r]at e;by_cases a:j=l;rw[zad a]at e ⊢;exact kf_at e;rw[zab a]at e ⊢;by_cases b:l<j/\j<=k;rw[zad b]at e ⊢;exact kf_at e;rw[zab b]at e ⊢;exact kf_at e
  refine IF m d _ (k+1) (hp.bub _ _) () (λi w=>?_) q;rw[o,o];by_cases a:i+1<l;rw[zab (),zab (),zab (),zab ()];exact u i ();by_cases b:i+1=l;rw[zab (),zab (),zad b];exact lo i ();by_cases c:i=l;rw[zad c,zab (),zad ()];rw[zcu];exact t i () ();rw[zab c,zad (),zab (),zad ()];let:i+1-1=(i-1)+1:=();erw[this,u (i-1) ()]
theorem JE(a:yy cmp n f s)(c:1<=n)(q:∀p,Arr n p->Up f p n->Q p s):(kas_sort n).kasWp cmp Q s:=by
 unfold kas_sort;rw[zdL];refine Iv a #[by simp,Array.Perm.refl _] c λm p b g d u=>?_;by_cases z:m<n;rw[zad z];let e:max m 1=m:=();rw[e];exact IF a (n-m) p m b () u q;rw[zab z];let e:m=n:=();exact q p b<|e▸u
theorem Vd(n:Nat):Arr n<|List.toArray<|List.range n:=#[by simp,Array.Perm.refl _]
noncomputable def iX(h:Heap)(vs:bf)(f:Nat->b9):Prop:=∀i,i<vs.z->∃b a,vs[i]?=b.e/\h.IsList b a/\IntsAre a.toList (f i)
theorem iX.keep(r:iX h vs f)(k:∀(i:Nat) (b:Addr),vs[i]?=b.e->∀o,h.get? b=some o->h'.get? b=some o):iX h' vs f:=λi c=>by let#[b,a,e,l,q]:=r i c;exact#[b,a,e,l.at λo z=>k i b e o z,q]
noncomputable def i9(vs:bf)(p:Array Nat):Array Value:=List.toArray<|p.toList.map λi=>vs.getD i Value.none
theorem vo(vs:bf):i9 vs (List.toArray<|List.range vs.z)=vs.toArray:=by unfold i9;congr 1;apply zeC;ext i;rw[zao];by_cases h:i<vs.z;simp[h];simp[h]
theorem Ci:∀l:bf,(l.zip l).map (λx=>x.snd)=l
 | []=>rfl
 | x::l=>by rw[zip_cons_cons,zbg,Ci l]
noncomputable def zS(h:Heap)(a:Addr)(vs:bf):Heap:=((h.update a<|Obj.mapSeq λ_=>#[]).push<|seqObj "tuple" vs.toArray 0).push<|seqObj "list" #[] 0
theorem Ki(c:b≠a)(e:h.get? b=some o):(zS h a vs).get? b=some o:=by let l:=zan e;unfold zS;rw[zdX,zdX,Heap.get?_update_ne _ _ _ _ c];exact e;rw[zdD];exact zaW l;erw[size_push',zdD,zaW<|zbo l]
theorem K8(a:iX s.heap vs f)(p:A.units<cLine):yy (kas_cmp prog w A oneType'<|pairsOf vs) vs.z f s:=by
 ext i j C h k c;let#[b1,r,b,o,e]:=a i h;let#[b2,q,m,l,g]:=a j k;rw[<-kas_ask_eq];unfold kas_ask;let d:vs.getD i Value.none=.ref b1:=by rw[zak,b];rfl
 let n:vs.getD j Value.none=.ref b2:=by rw[zak,m];rfl
 erw[d,n,keyLt'_oneType,zK o l e g p c]
theorem JF(r:s.heap.get? a=some (seqObj "list" vs.toArray n))(U:vs.z<64)(S:A.units<cLine)(Z:iX s.heap vs f)(O:∀(i:Nat) (b:Addr),vs[i]?=b.e->b≠a)(k:∀p:Array Nat,Arr vs.z p->Up f p vs.z->P (.done<|.ret .none) { s with heap:=sortedHeap s.heap a vs (i9 vs p) }) :
  wpAny (model prog w) A (Builtin.«list.sort» #[[.ref a],[]]) P E s:=by
 let j:vs.z<=sizeLine:=by rw[zcA];lia
 obtain⟨t,C⟩:∃t,(s.heap.update a<|Obj.mapSeq λ_=>#[]).get? a=some (seqObj "list" #[] t):=#[_,get?_update_seq r<|λ_=>#[]];let m:(zS s.heap a vs).get? a=some (seqObj "list" #[] t):=zav _<|zav _ C;let B:iX (zS s.heap a vs) vs f:=Z.keep λi b e o z=>Ki (O i b e) z;rw[list_sort_plain];refine zae<|listItems_at r rfl<|zae<|listUpdate_at r rfl (zae<|seqEpoch_at C rfl<|zae<|wpAny_newTuple (zae<|wpAny_newList (zbW ?_)<|zaS _) j) (by erw[zaM,j])<|zaS _;dsimp only;by_cases d:vs.toArray.size<2;rw[zad d,zad d];refine zae<|zax ?_;rw[StateT.run_pure];refine zae<|zax<|zae<|seqEpoch_at m rfl ?_;let x:(arrOf<|SortSt.mk' general' (vs.toArray.zip vs.toArray) #[] 7 none).map (·.2)=i9 vs (List.toArray<|List.range vs.z):=by rw[vo];show(vs.toArray.zip vs.toArray).map (·.2)=vs.toArray;apply Array.ext';simp;exact Ci vs
 dsimp only;rw[x];refine zae (listUpdate_at m rfl ?_ (zaS _)<|by erw[vo,zaM,zeZ j]);simp only[bne_self_eq_false,zbC,zcQ];refine zax<|k _ (Vd _) λi y=>?_;rw[zaM]at d;lia;rw[zab d,zab d];let D:2<=vs.z:=by rw[zaM]at d;lia
 refine zae<|kas_kind (T:=.type "list") D (λv K=>?_) rfl rfl ?_;let#[i,y,rfl]:=zaH.mp K;let#[b,us,e,l,q]:=B i y;rw[zaf y]at e;rw[zaq e];let#[o,Y,z2,z3]:=l;ext A' Q' E' c R I;exact wpAny_typeOf (T:= "list") #[o,R _ _ Y,z2] I;let Z3:SortSt.mk' oneType' (vs.toArray.zip vs.toArray) #[] 7 none=kas_st oneType' (pairsOf vs) (List.toArray<|List.range vs.z):=by let e:=kas_range<|pairsOf vs;rw[pairsOf_size]at e;unfold kas_st;rw[e];rfl
 let g:=kas_runs (prog:=prog) (w:=w) (A:=A) (κ:=oneType') (it:=pairsOf vs) (E:=E) (Q:=λ_ h c=>c={ s with heap:=zS s.heap a vs }/\∃p:Array Nat,Arr vs.z p/\Up f p vs.z/\arrOf h=p.map (kas_item<|pairsOf vs)/\failedOf h=none)
  (G:=λp c=>c={ s with heap:=zS s.heap a vs }/\Arr vs.z p/\Up f p vs.z) D U (λM h c a1 H a3 u=>#[u.1,M,u.2.1,u.2.2,H,a3]) (JE (K8 (s:={ s with heap:=zS s.heap a vs }) B S) () λp X h3=>#[rfl,X,h3])
 rw[<-Z3]at g;refine zae<|zbn g ?_ λ_ _ e=>e;ext⟨⟨⟩,h⟩ c ⟨rfl,p,F,L,N,W⟩;let x:(arrOf h).map (·.2)=i9 vs p:=by unfold i9;apply Array.toList_inj.mp;rw[N,Array.map_map,Array.toList_map];refine zbS λi _=>?_;rw[Function.comp_apply,kas_item_eq]
 rw[x];let zo:(i9 vs p).size=vs.z:=by unfold i9;rw[zaM,zaa,zbu,F.size]
 refine zae (seqEpoch_at m rfl<|zae<|listUpdate_at m rfl ?_ (zaS _)<|by erw[zo,zeZ j]);rw[W];simp only[bne_self_eq_false,zbC,zcQ];exact zax<|k p F L
theorem Ec(x:s.heap.IsList l vs.toArray)(B:vs.z<64)(y:A.in1.in1.units<cLine)(n:iX s.heap vs f)(k:∀p:Array Nat,Arr vs.z p->Up f p vs.z->Q (.ref<|s.y+1) { s with heap:=sortedAll s.heap vs (i9 vs p) }) :
  wpAny (model prog w) A (call (.builtin "sorted") [.ref l]) Q E s:=by
 let j:vs.z<=sizeLine:=by rw[zcA];lia
 refine Calls.call_function_entry kind_sorted plain_sorted entry_sorted (args_sorted1 _) ?_;unfold Builtin.«sorted»;refine zae<|zax<|zae<|collect_list x (zae<|wpAny_newList ?_ j) j;generalize g:(s.heap.push<|seqObj "list" #[] 0).update s.y (Obj.mapSeq (·++vs.toArray))=a;let c:a.x=s.y+1:=by rw[<-g,zdD,size_push']
 let m:(a.push<|seqObj "list" vs.toArray 0).get? (s.y+1)=some (seqObj "list" vs.toArray 0):=by erw[<-c,zaX _ rfl]
 let h:∀b o,s.heap.get? b=some o->(a.push<|seqObj "list" vs.toArray 0).get? b=some o:=λb o q=>by let d:=zan q;erw[zdX _ _ _ (by erw[c,zaW<|zbo d]),<-g,Heap.get?_update_ne _ _ _ _<|zaW d,zdX _ _ _<|zaW d,q]
 rw[c];refine zae<|zbW<|zdc slot_list_sort #[_,m,rfl] entry_list_sort (JF m B y (n.keep λi b e o z=>h b o z) (λi b e=>?_) λp t v=>#[_,rfl,?_])<|args_list_sort _;let#[u,_]:=zac.mp e;let#[D,C,r,#[o,z,_],_]:=n i u;rw[e]at r;cases r;exact zaW<|zbo<|zan z;refine zax #[_,rfl,?_];let:=k p t v;unfold sortedAll at this;rwa[g]at this
section
variable {A:Around} {R:Result->Shared->Prop} {n:Nat} {P:Nat->Value->Prop} {St:Nat->Heap->Prop} {Kp:Heap->Prop} {bt:Nat->Nat->Bool}
noncomputable def Mp(prog:Program)(w:World)(A:Around)(P:Nat->Value->Prop)(Kp:Heap->Prop)(bt:Nat->Nat->Bool):Prop:=
 ∀(i j:Nat) (x y:Value) (t:Shared) (Q E:bz),P i x->P j y->Kp t.heap->Q (.bool<|bt i j) t->wpAny (model prog w) A (richCompare .Lt x y) Q E t
theorem BE(W:Walks prog w A.in1 I fp wr n P St)(N:Mp prog w A.in1 P Kp bt)(H:S∉fp)(D:∀h h',Kp h->(∀b o,b∉wr->b≠S->h.get? b=some o->h'.get? b=some o)->Kp h') :
  ∀(k j:Nat) (t:Shared) (x:Value) (c:Nat),n-(j+1)=k->j+1<=n->St (j+1) t.heap->Kp t.heap->P (argBest bt j) x->t.heap.get? S=some { cls:=.type "list",dict:=none,data:=.seq #[x,x,] c,slots:=#[] }->
  (∀v h' i,P (argBest bt<|n-1) v->(∀b o,b∉wr->b≠S->t.heap.get? b=some o->h'.get? b=some o)->R (.ok<|.ret v) { t with heap:=h',toks:=i })->codeAny (model prog w) A (.builtin "min.loop" #[[.ref I,.none,.ref S],[]]) R t:=by
 let B:S∉wr:=λz=>H<|W.sub _ z;let nm:(toString "min"++toString ".loop" : String) = "min.loop":=by decide
 ext k;induction k with
 | zero=>
  ext j t x c L M st G l d g;let E:j+1=n:=();refine zcG F.entry_min_loop ?_;rw[zbR zcO _];refine zae<|zdd d rfl ?_;refine zae<|wpAny_tryCatch<|W.done t _ _ (E▸st) λh' i a=>?_;let f:=a S _ B d;refine zae<|zcH f rfl<|zae<|zen<|zax<|g x _ i (by erw[<-E,l]) λb o b1 b2 e=>?_;erw[zby _ _<|zaZ b2,a b o b1 e]
 | succ k K=>
  ext j t x c L M st G l d g;let y:j+1<n:=();refine zcG F.entry_min_loop ?_;rw[zbR zcO _];refine zae<|zdd d rfl ?_;refine zae<|wpAny_tryCatch<|W.item (j+1) t _ _ y st λv h' i pv C a=>?_;let f:=a S _ B d;let m:=D _ _ G λb o b1 _ e=>a b o b1 e;show wpAny _ A.in1 (tryCatch (holding [v,v]<|richCompare .Lt v x >>= _) _ >>= _) _ _ _;refine zae<|wpAny_tryCatch<|zbW<|zae<|N (j+1) (argBest bt j) v x _ _ _ pv l m<|zae<|zbW<|zci<|zae<|zen<|zax ?_;cases hb:bt (j+1) (argBest bt j)with
  | true=>
   simp[zfp];refine zae<|zcH f rfl<|zae<|zen ?_;rw[nm];let r:∀b o,b≠S->h'.get? b=some o->(h'.update S<|Obj.mapSeq λ_=>#[v,v,]).get? b=some o:=λb o b2 e=>by erw[zby _ _<|zaZ b2,e]
   refine zax #[zcw zcO _,K (j+1) _ v _ () y (W.frame _ _ _ C λb O o e=>r b o (λz=>H<|z▸O) e) (D _ _ m λb o _ b2 e=>r b o b2 e) (by simp[argBest,hb,zfp];exact pv) (zbI _ f rfl) λp u q s k2=>?_];exact g p u q s λb o b1 b2 e=>k2 b o b1 b2<|r b o b2<|a b o b1 e
  | false=>
   simp[zbC,zcQ];refine zae<|zen ?_;erw[nm,zax #[zcw zcO _,K (j+1) _ x c () y C m (by simp[argBest,hb,zbC,zcQ];exact l) f λp u q s k2=>g p u q s λb o b1 b2 e=>k2 b o b1 b2<|a b o b1 e]]
theorem zY(W:Walks prog w A.in1 I fp wr n P St)(y:Mp prog w A.in1 P Kp bt)(f:S∉fp)(a:∀h h',Kp h->(∀b o,b∉wr->b≠S->h.get? b=some o->h'.get? b=some o)->Kp h')(k:0<n)(st:St 0 t.heap)(s:Kp t.heap)(j:t.heap.get? S=some { cls:=.type "list",dict:=none,data:=.seq #[] c,slots:=#[] })(u:∀v h' i,P (argBest bt<|n-1) v->(∀b o,b∉wr->b≠S->t.heap.get? b=some o->h'.get? b=some o)->R (.ok<|.ret v) { t with heap:=h',toks:=i }):codeAny (model prog w) A (.builtin "min.loop" #[[.ref I,.none,.ref S],[]]) R t:=by
 let p:S∉wr:=λz=>f<|W.sub _ z;let nm:(toString "min"++toString ".loop" : String) = "min.loop":=by decide
 refine zcG F.entry_min_loop ?_;rw[zbR zcO _];refine zae<|zdd j rfl ?_;refine zae<|wpAny_tryCatch<|W.item 0 t _ _ k st λv h' i pv x g=>?_;let l:=g S _ p j;show wpAny _ A.in1 (updateSeq S (λ_=>#[v,v,]) >>= _) _ _ _;refine zae<|zcH l rfl ?_;rw[nm];let d:∀b o,b≠S->h'.get? b=some o->(h'.update S<|Obj.mapSeq λ_=>#[v,v,]).get? b=some o:=λb o b2 e=>by erw[zby _ _<|zaZ b2,e]
 let m:=a _ _ s λb o b1 _ e=>g b o b1 e;exact zax #[zcw zcO _,BE W y f a _ 0 _ v _ rfl k (W.frame _ _ _ x λb C o e=>d b o (λz=>f<|z▸C) e) (a _ _ m λb o _ b2 e=>d b o b2 e) pv (zbI _ l rfl)
  λq D r B k2=>u q D r B λb o b1 b2 e=>k2 b o b1 b2<|d b o b2<|g b o b1 e]
end
theorem DZ(f:Nat->b9):∀k,argBest (λi j=>HT.de (f i)<|f j) k<=k/\∀j,j<=k->Le (f<|argBest (λi j=>HT.de (f i)<|f j) k) (f j)
 | 0=>#[zai _,λj b=>by
                    obtain rfl:j=0:=();exact Le.refl _]
 | k+1=>by
  let#[c,a]:=DZ f k;unfold argBest;cases q:HT.de (f<|k+1) (f<|argBest (λi j=>HT.de (f i)<|f j) k)with
  | true=>
   rw[zad rfl];refine#[zai _,λj b=>?_];by_cases e:j=k+1;rw[e];exact Le.refl _;exact Le.trans (Le.of_lt q)<|a j ()
  | false=>
   rw[zab B!];refine#[(),λj b=>?_];by_cases e:j=k+1;rw[e];exact q;exact a j ()
theorem Hv(P:A.handled=none)(m:s.heap.IsList l vs.toArray)(U:A.in1.units<cLine)(I:iX s.heap vs f)(h0:0<vs.z)(k:∀(i:Nat) (v:Value) h' u,vs[i]?=some v->(∀j,j<vs.z->Le (f i) (f j))->(∀b o,s.heap.get? b=some o->h'.get? b=some o)->Q v { s with heap:=h',toks:=u }) :
  wpAny (model prog w) A (call (.builtin "min") [.ref l]) Q E s:=by
 let nm:(toString "min"++toString ".loop" : String) = "min.loop":=by decide
 let B:l<s.y:=by let#[_,e,_]:=id m;exact zan e
 let a:∀(i:Nat) (b:Addr),vs[i]?=b.e->b<s.y:=λi b e=>by let#[b',us,C,#[o,z,_],_]:=I i (zac.mp e).1;rw[e]at C;cases C;exact zan z
 refine call_function_tree F.kind_min F.plain_min F.entry_min (F.args_min1 _) ?_;refine zae<|zdA (show Builtin.Builtins.bindParams "min" ["key", "default"] 0 #[[],[]]=pure [none,none]from rfl)<|zae<|zax<|zae<|wpAny_pyIter_list m<|zae<|zdv ?_;rw[nm];generalize d:s.heap.push { cls:=.type "list_iterator",data:=.fields #[.ref l,.int 0 0,] }=g;let c:g.x=s.y+1:=by rw[<-d,Heap.size_push]
 let p:∀b o,s.heap.get? b=some o->g.get? b=some o:=λb o e=>d▸zav _ e;let N:g.IsListIter s.y l 0:=d▸#[_,zaX _ rfl,rfl,rfl];refine zax #[zcw zcO _,zY (Kp:=λh=>iX h vs f) (bt:=λi j=>HT.de (f i)<|f j) (W:=Walks.list (A:=A.in1) P s.y l (zaW B) vs.toArray) (S:=g.x)
  (λi j x y t Q' E' Y M K q=>?_) (λz=>?_) (λh h' r n=>?_) (by simpa using h0) #[N.at λo e=>zav _ e,m.at λo e=>zav _<|p _ _ e] (I.keep λi b _ o e=>zav _<|p _ _ e) (zaX _ rfl) λv h' u pv n=>?_]
 let G:vs[i]?=some x:=by simpa using Y
 let D:vs[j]?=some y:=by simpa using M
 let#[b1,u1,H,Z,O]:=K i (zac.mp G).1;let#[b2,u2,L,R,X]:=K j (zac.mp D).1;rw[G]at H;rw[D]at L;cases H;cases L;exact Hk Z R O X U q;let:g.x=s.y\/g.x=l:=by simpa using z
 ext(e|e:this);exact absurd (c.symm.trans e)<|Nat.succ_ne_self _;exact absurd (c.symm.trans e)<|zbM<|zbo B;refine r.keep λi b e o z=>n b o (λy=>?_) (λy=>?_) z;let:b=s.y:=by simpa using y
 exact absurd (a i b e) (by erw[this,zbf _]);exact absurd (a i b e) (by erw[y,c,Nat.lt_asymm<|zbq _]);let Yb:vs[argBest (λi j=>HT.de (f i)<|f j)<|vs.z-1]?=some v:=by simpa using pv
 let T:=DZ f<|vs.z-1;refine k _ v h' u Yb (λj hj=>T.2 j ()) λb o e=>n b o ?_ ?_<|zav _<|p b o e;ext z;let:b=s.y:=by simpa using z
 exact absurd (zan e) (by erw[this,zbf _]);ext z;exact absurd (zan e) (by erw[z,c,Nat.lt_asymm<|zbq _])
theorem yQ:∀(l:b9) (x:Int),(l++[x]).sum=l.sum+x
 | [],x=>by simp
 | y::l,x=>by rw[zcM,zdo,zdo,yQ l x];lia
theorem oY:∀(l:b9) (y:Int) (m:Nat) (h:m<l.z),m<l.idxOf y->l[m]≠y
 | [],_,m,h,_=>by simp at h
 | z::l,y,m,h,hm=>by
  rw[zdk]at hm;by_cases e:z=y;rw[e]at hm;simp at hm;let e2:=zdp e;rw[e2]at hm;cases m with
  | zero=>exact e
  | succ m=>
   let h2:m<l.z:=by simpa using h
   let h3:m<l.idxOf y:=by simpa using hm
   exact oY l y m h2 h3
theorem CB{k:St}{s:Shared}(I:Inv X pins k H s):∀{b:bp} {L:cp} {c:bf},Vals b.d c->b.z=L.z->(∀(i:Nat) (a:Addr) (l:b9),b[i]?=some a->L[i]?=some l->aK X.K H a l.c)->iX s.heap c (λi=>L.getD i []):=by
 ext b L c f r h i q;let z:=f.z;rw[zaa]at z;let d:i<b.z:=();let g:i<L.z:=();let#[u,o,m]:=f.get (show(b.d)[i]?=some (V.ref b[i])by simp[d]);cases m;let#[n,p,j,_]:=I.list (h i b[i] L[i] (by simp[d])<|by simp[g]);refine#[b[i],n.toArray,o,j.isList,?_];let e:L.getD i []=L[i]:=by simp[g]
 dsimp only;erw[e,intsAre_of p]
noncomputable def pick{a:Type}(d:a)(L:List a)(p:Array Nat):List a:=p.toList.map λi=>L.getD i d
noncomputable def GI(K:Frag):List V->Hp->VK->Prop:=λvs H Q=>∃(a:Addr) (c:bp) (L:cp),vs=[.ref a]/\aK K H a c.d/\c.z=L.z/\(∀(i:Nat) (b:Addr) (l:b9),c[i]?=some b->L[i]?=some l->aK K H b l.c)/\c.z<64/\
 ∀(p:Array Nat) (q:Addr),Arr L.z p->Up (λi=>L.getD i []) p L.z->H q=none->Q (.ref q) (upd H q<|.lst<|(pick 0 c p).d)
theorem x5(t:X.A.units+64<cLine):fJ X (.builtin "sorted")<|GI X.K:=by
 ext pins s Y H xs T Q I r h;let#[a,c,L,rfl,C,f,y,W,q]:=h;let#[u,rfl,m]:=vals1 r;cases m;let#[d,k,D,U]:=I.list C;let z:=k.z;rw[zaa]at z;refine Ec D.isList () (by simp[Around.in1_units];lia) (CB I k f y) λp g F=>?_;let#[E,k1]:=sortedAll_at s.heap d<|i9 d p;let G:Arr L.z p:=by erw[<-f,z,g]
 let B:((pick 0 c p).d).z<=sizeLine:=by unfold pick;rw[zaa,zaa,zbu,g.size,zat];lia
 let M:Vals ((pick 0 c p).d) (i9 d p).toList:=by
  let O:∀l:List Nat,(∀i∈l,i<d.z)->Vals ((l.map λi=>c.getD i 0).d) (l.map λi=>d.getD i Value.none):=by
   ext l;induction l with
   | nil=>intro _;exact .nil
   | cons i l S=>
    ext h;refine .cons ?_<|S λj P=>h j<|zag _ P;let v:=h i zal;let x:i<c.z:=();let#[u,t,m]:=k.get (show(c.d)[i]?=some (V.ref c[i])by simp[x]);let N:c.getD i 0=c[i]:=by simp[x]
    let R:d.getD i Value.none=u:=by rw[zak,t];rfl
    dsimp only;erw[N,R,m]
  refine O _ λi v=>?_;let:=(g.perm.mem_iff).mp<|Array.mem_toList_iff.mp v;simpa using this
 let n:bM X.prog X.w (upd H (s.y+1)<|.lst<|(pick 0 c p).d) (sortedAll s.heap d<|i9 d p) (s.y+1)<|.lst<|(pick 0 c p).d:=#[B,(i9 d p).toList,E,M,by simpa[seqObj]using k1];exact#[.ref<|s.y+1,_,I.laid (λb o e=>sortedAll_old e) (zdy _) n,rfl,q p _ G (by erw[<-f,z,F])<|I.bW.fresh<|zdy _]
noncomputable def PZ(K:Frag):List V->Hp->VK->Prop:=λvs H Q=>∃(a:Addr) (c:bp) (L:cp),vs=[.ref a]/\aK K H a c.d/\c.z=L.z/\(∀(i:Nat) (b:Addr) (l:b9),c[i]?=some b->L[i]?=some l->aK K H b l.c)/\0<c.z/\
 ∀(i:Nat) (b:Addr) (l:b9),c[i]?=some b->L[i]?=some l->(∀m∈L,Le l m)->Q (.ref b) H
theorem E4(C:X.calm=true)(c:X.A.units+64<cLine):fJ X (.builtin "min")<|PZ X.K:=by
 ext pins s M H xs E Q I r h;let#[a,b,L,rfl,p,w,n,O,q]:=h;let#[u,rfl,f]:=vals1 r;cases f;let#[P,e,t,F]:=I.list p;let z:=e.z;rw[zaa]at z;refine Hv (I.ok.hd C) t.isList (by simp[Around.in1_units];lia) (CB I e w n) () λi v h' G g d x=>?_;let N:=(zac.mp g).1;let l:i<b.z:=();let k:i<L.z:=();let#[u,c,f]:=e.get (show(b.d)[i]?=some (V.ref b[i])by simp[l]);rw[g]at c;cases c;cases f;refine#[.ref b[i],H,I.kept x,rfl,q i b[i] L[i] (by simp[l]) (by simp[k]) λm o=>?_];let#[j,B,rfl]:=zaH.mp o;let:=d j ();let y:L.getD i []=L[i]:=by simp[k]
 let D:L.getD j []=L[j]:=by simp[B]
 rwa[y,D]at this
noncomputable def LH(K:Frag):List V->Hp->VK->Prop:=λvs H Q=>∃(a:Addr) (ns:b9),vs=[.ref a]/\aK K H a ns.c/\ns≠[]/\∀m,m∈ns->(∀x∈ns,m<=x)->Q (.int m) H
theorem pB(p:X.calm=true):fJ X (.builtin "min")<|LH X.K:=by
 ext pins s E H xs A Q I r h;let#[a,ns,rfl,i,z,q]:=h;let#[u,rfl,y]:=vals1 r;cases y;let#[F,w,k,B]:=I.list i;let f:=intsAre_of w;let#[xs,e]:=f.allInts.items;let b:ns=xs.toList.map (·.1):=by rw[<-f.numsOf,<-nums_intItems,<-e]
 let c:=k.isList;rw[e]at c;let n:0<xs.size:=by let:=zbP.mpr z;rwa[b,zaa,zbu]at this
 refine min_intList (I.ok.hd p) c n λv h' C g m=>?_;let#[t,rfl]:=intItems_at g;let#[D,l]:=argBest_lt (numAt xs)<|xs.size-1;refine#[.int _,H,I.kept m,#[t,rfl],q _ ?_ λx d=>?_];rw[b,numAt_eq];exact getD_mem (by rw[zaa,zbu];lia);rw[b]at d;let#[j,o,rfl]:=mem_getD d;rw[zaa,zbu]at o;erw[<-numAt_eq,l j ()]
noncomputable def MV(K:Frag):V->List V->Hp->VK->Prop:=λx vs H Q=>∃(l:Addr) (ns:b9) (y:Int),x=.ref l/\vs=[.int y]/\H l=some (.lst ns.c)/\y∈ns/\Q (.int (ns.idxOf y:Nat)) H
theorem Hj:RJ X "list.index"<|MV X.K:=by
 ext pins s N H x vs v G Q I E D h;let#[l,ns,y,rfl,rfl,B,p,q]:=h;cases E;let#[u,rfl,t,rfl]:=D.one;let#[z,c,n,r,L,e]:=I.uw B;let g:=intsAre_of r;let O:=g.z;let M:=sI;let j:=zbH p;rw[zaa]at z;refine let C:Value->Bool:=λv=>match v with | .int i _=>i==y|_=>false;?_
 let a:∀m (d:m<ns.z),∃t,c[m]?=some (.int ns[m] t):=λm d=>qI g d;refine zdh F.slot_list_index #[_,e,rfl] F.entry_list_index (F.args_list_index_2 _ _) (SeqAt.list_indexAt l c.toArray n none #[] (.int y t) C (ns.idxOf y) (by rw[zaM];lia) () ?_ ?_) #[e,?_,?_];let#[f,b]:=a _ j;let:c.toArray[ns.idxOf y]'(by rw[zaM];lia)=.int ns[ns.idxOf y] f:=by let:=(zac.mp b).2;simpa using this
 rw[this];show(ns[ns.idxOf y]==y)=true;rw[zdr j];simp;ext m d A;let#[f,b]:=a m ();let:c.toArray[m]=.int (ns[m]'()) f:=by let:=(zac.mp b).2;simpa using this
 rw[this];show(ns[m]'()==y)=false;exact zdp<|oY ns y m () A;ext w o;let k:w∈c:=by simpa using o
 let#[m,d,rfl]:=zaH.mp k;let#[f,b]:=a m ();rw[(zac.mp b).2];exact zct _ _ _ _;exact#[.int (ns.idxOf y:Nat),H,I.tok _,#[_,rfl],q]
section
variable {X:Cx} {K:Frag}
theorem mV(h:X.K=K):Vo X<|wY K:=h▸cg
end
end L2
namespace Gm
open PySem L2
noncomputable def cy(r:b9)(j:Nat):Int:=r.getD (j%r.z) 0
theorem bP(h:i%r.z=j%r.z):cy r i=cy r j:=by unfold cy;rw[h]
theorem fI(h:j<r.z):cy r j=r[j]:=by unfold cy;rw[zaY h];simp[h]
theorem eL(h:0<r.z):cy r j∈r:=by
 let a:=zbr j h;let:cy r j=r[j%r.z]:=by unfold cy;simp[a]
 erw[this,zbL _]
theorem gG{i:Int}{j:Nat}(h1 : -(r.z:Int)<=i)(f:i<r.z)(e:(j:Int)=i\/(j:Int)=i+r.z):j6 r.c i=some (V.int<|cy r j):=by
 unfold j6 Dl;rw[zaa];by_cases b:0<=i;rw[zad b,zad f];let c:i.toNat<r.z:=();let d:j%r.z=i.toNat:=by
  ext(e|e:e);rw[zaY ()];lia;let:j=i.toNat+r.z:=();rw[this,zaz,zaY c]
 show(r.c)[i.toNat]?=_;unfold cy;rw[d];simp[c];rw[zab b,zad h1];let g:(i+(r.z:Int)).toNat=j:=();let a:j<r.z:=();show(r.c)[(i+(r.z:Int)).toNat]?=_;rw[g,fI a];simp[a]
theorem Oq(b:r.z=q.z)(h:∀j,cy r j=cy q j):r=q:=by refine zcr b λi a c=>?_;let:=h i;rwa[fI a,fI c]at this
noncomputable def c5(r:b9)(k:Nat):b9:=r.drop k++r.take k
theorem c8(h:k<=r.z):(c5 r k).z=r.z:=by unfold c5;simp;lia
theorem uK{a b n:Nat}(c:a<n)(d:b<n):(a+b)%n=if a+b<n then a+b else a+b-n:=by by_cases h:a+b<n;rw[zad h,zaY h];rw[zab h,Nat.mod_eq_sub_mod (),zaY ()]
theorem iV(h:k<r.z)(j:Nat):cy (c5 r k) j=cy r (j+k):=by
 let a:=zbr j (show 0<r.z by lia);let e:(j+k)%r.z=if j%r.z+k<r.z then j%r.z+k else j%r.z+k-r.z:=by rw[<-uK a h,zdM]
 unfold cy;rw[c8 (),e];unfold c5;rw[zak,zak];congr 1;by_cases c:j%r.z+k<r.z;rw[zad c,zaO (by rw[zbF];lia),getElem?_drop,zdi];rw[zab c,zaL (by rw[zbF];lia),zbF,getElem?_take,zad ()];congr 1;lia
theorem CC(b:k<r.z)(c:i<r.z):c5 (c5 r k) i=c5 r ((i+k)%r.z):=by let a:(c5 r k).z=r.z:=c8 ();let d:=zbr (i+k) (show 0<r.z by lia);refine Oq (by rw[c8 (by rw[a];lia),a,c8 ()]) λj=>?_;rw[iV (by erw[a,c]),iV b,iV d];refine bP ?_;rw[zek,Nat.add_mod_mod]
abbrev ak:=Int×Int
noncomputable def XS(L:cp)(a:Int):b9:=L.getD a.toNat []
noncomputable def pre(l:b9)(x:Int):Int:=cy l<|l.idxOf x+l.z-1
structure Dt(L:cp)(d:ak):Prop where
 lo:0<=d.1
 hi:d.1<L.z
 mem:d.2∈XS L d.1
noncomputable def nx(L:cp)(d:ak):ak:=(d.2,pre (XS L d.2) d.1)
theorem aD(c:0<=a)(b:a<L.z):L[a.toNat]?=some (XS L a):=by
 unfold XS;let:a.toNat<L.z:=();simp[this]
theorem CU(h:x∈l):pre l x∈l:=eL<|zcl h
theorem md(h:i<n):(i+n-1)%n=if i=0 then n-1 else i-1:=by
 by_cases e:i=0;rw[zad e,e,zbQ,zaY ()];rw[zab e];let:i+n-1=(i-1)+n:=();rw[this,zaz,zaY ()]
theorem qw(n:l.Nodup)(d:x∈l)(m:y∈l)(h:pre l x=pre l y):x=y:=by
 let a:=zbH d;let c:=zbH m;let b:0<l.z:=();unfold pre cy at h;let mx:=zbr (l.idxOf x+l.z-1) b;let g:=zbr (l.idxOf y+l.z-1) b;let j:l.getD ((l.idxOf x+l.z-1)%l.z) 0=l[(l.idxOf x+l.z-1)%l.z]:=by simp[mx]
 let f:l.getD ((l.idxOf y+l.z-1)%l.z) 0=l[(l.idxOf y+l.z-1)%l.z]:=by simp[g]
 rw[j,f]at h;let e:=(zcq n).mp h;rw[md a,md c]at e;let o:l.idxOf x=l.idxOf y:=by split at e<;>split at e<;>lia
 let k:=zdr a;let i:=zdr c;rw[<-k,<-i];congr 1
theorem K7(h:x∈l):j6 l.c ((l.idxOf x:Int)-1)=some (V.int<|pre l x):=by let a:=zbH h;exact gG () ()<|.inr ()
theorem Dt.back(h:Dt L d)(m:av L):0<=d.2/\d.2<L.z/\d.2≠d.1/\d.1∈XS L d.2:=by let r:=aD h.lo h.hi;let g:=m.rg _ _ r _ h.mem;let a:=zbE h.lo;refine#[g.1,g.2.1,by rw[a]at g;exact g.2.2,?_];let:=m.sy _ _ r _ h.mem d.2.toNat () _<|aD g.1 g.2.1;rwa [a]at this
theorem Dt.nx(h:Dt L d)(m:av L):Dt L<|nx L d:=by let#[a,b,c,f]:=h.back m;exact#[a,b,CU f]
theorem fF(m:av L)(k:Dt L d)(l:Dt L e)(h:Gm.nx L d=Gm.nx L e):d=e:=by let#[a,b,c,f]:=k.back m;let#[o,p,n,i]:=l.back m;unfold Gm.nx at h;let g:d.2=e.2:=zaA Prod.fst h;let j:pre (XS L d.2) d.1=pre (XS L e.2) e.1:=zaA Prod.snd h;rw[<-g]at j i;exact zbA (qw (m.nd _ _<|aD a b) f i j) g
noncomputable def eN(L:cp):Nat->List ak
 | 0=>[]
 | k+1=>eN L k++(XS L k).map λx=>((k:Int),x)
theorem ly:∀{k:Nat},d∈eN L k↔0<=d.1/\d.1<k/\d.2∈XS L d.1
 | 0=>by simp[eN,zaR,false_iff];ext h;lia
 | k+1=>by rw[eN,zdz,ly,mem_map];constructor;rintro (⟨b,c,a⟩|⟨x,hx,rfl⟩);exact#[b,(),a];exact#[by simp,by simp;lia,hx];ext⟨b,c,a⟩;by_cases e:d.1=k;right;rw[e]at a;exact#[d.2,a,zbA e.symm rfl];left;exact#[b,(),a]
theorem bJ(m:av L):∀{k:Nat},k<=L.z->(eN L k).Nodup
 | 0,_=>.nil
 | k+1,h=>by rw[eN,zdY];refine#[bJ m (),?_,λa d b c z=>?_];let n:=m.nd _ _<|aD (a:=(k:Int)) () ();exact zbB _ (λx y e z=>e<|zaA Prod.snd z) n;let:=(ly.mp d).2.1;let#[x,_,rfl]:=zap.mp c;rw[z]at this;simp at this
theorem Dd:∀{k:Nat},k<=L.z->((eN L k).z:Int)=((L.take k).map<|λl=>(l.z:Int)).sum
 | 0,_=>by simp[eN]
 | k+1,h=>by
  let a:k<L.z:=();let e:XS L (k:Int)=L[k]:=by unfold XS;simp[a]
  rw[eN,zay,zaa,show L.take (k+1)=L.take k++[L[k]]by rw[zeI,zaf a];rfl,zaw,zdG,yQ,<-Dd (),e];lia
theorem Dt.all(h:Dt L d):d∈eN L L.z:=ly.mpr #[h.lo,h.hi,h.mem]
theorem Dt.of(h:d∈eN L L.z):Dt L d:=by let:=ly.mp h;exact#[this.1,this.2.1,this.2.2]
noncomputable def it(L:cp)(d:ak):Nat->ak
 | 0=>d
 | k+1=>Gm.nx L<|it L d k
theorem sR(m:av L)(h:Dt L d):∀k,Dt L (it L d k)
 | 0=>h
 | k+1=>(sR m h k).nx m
theorem sS(i:Nat):∀k,it L d (i+k)=it L (it L d i) k
 | 0=>rfl
 | k+1=>by show Gm.nx L (it L d<|i+k)=Gm.nx L (it L (it L d i) k);rw[sS i k]
theorem Dr(m:av L)(h:Dt L d){k:Nat}:∀i,it L d i=it L d (i+k)->it L d k=d
 | 0,e=>by rw[zbQ]at e;exact e.symm
 | i+1,e=>by rw[Nat.add_right_comm]at e;exact Dr m h i<|fF m (sR m h _) (sR m h _) e
noncomputable def kY(L:cp)(d:ak)(k:Nat):Prop:=∀i,0<i->i<k->it L d i≠d
noncomputable def tr(L:cp)(d:ak)(k:Nat):List ak:=(List.range k).map<|it L d
theorem qY(m:av L)(h:Dt L d)(n:kY L d k):(tr L d k).Nodup:=by unfold tr;refine zbB _ (R:=λa b=>a<b/\a<k/\b<k) (λa b c z=>?_) ?_;obtain⟨j,rfl⟩:∃j,b=a+j:=#[b-a,()];exact n j () ()<|Dr m h a z;let:=pairwise_lt_range (n:=k);refine zcd (λf e c=>#[c,zaU.mp f,zaU.mp e]) this
theorem sA(m:av L)(h:Dt L d)(n:kY L d k):k<=(eN L L.z).z:=by
 let:=dH (qY m h n) λx a=>by let#[i,_,rfl]:=zap.mp a;exact(sR m h i).all
 simpa[tr]using this
noncomputable def dj(r:b9)(j:Nat):ak:=(cy r j,cy r<|j+1)
structure Good(L:cp)(r:b9):Prop where
 two:2<=r.z
 dt:∀j,Dt L<|dj r j
 st:∀j,Gm.nx L (dj r j)=dj r (j+1)
noncomputable def sh(s:Nat)(r:b9):List ak:=(List.range r.z).map λj=>dj r<|j+s
theorem bU(h:i%r.z=j%r.z):dj r i=dj r j:=by unfold dj;rw[bP h,bP<|show(i+1)%r.z=(j+1)%r.z by rw[Nat.add_mod,h,<-Nat.add_mod]]
theorem JH(r:b9)(s:Nat):(sh (s+1) r).Perm<|sh s r:=by
 unfold sh;cases hn:r.z with
 | zero=>exact zeT _
 | succ n=>
  let c:(List.range<|n+1).map (λj=>dj r<|j+(s+1))=(List.range n).map (λj=>dj r<|j+(s+1))++[dj r<|n+(s+1)]:=by rw[zcm,zaw];rfl
  let a:(List.range<|n+1).map (λj=>dj r<|j+s)=dj r s::(List.range n).map (λj=>dj r<|j+(s+1)):=by rw[zdZ,zbg,zdw,zbQ];congr 1;refine zbS λj _=>?_;show dj r (j+1+s)=_;congr 1;lia
  let b:dj r (n+(s+1))=dj r s:=bU (by rw[hn,show n+(s+1)=s+(n+1)by lia,zaz]);erw[c,a,b,zcV _ _]
theorem f6(r:b9):∀s,(sh s r).Perm (sh 0 r)
 | 0=>zeT _
 | s+1=>(JH r s).trans<|f6 r s
theorem bE(a:0<r.z):d∈sh s r↔∃j,d=dj r j:=by rw[(f6 r s).mem_iff];unfold sh;rw[mem_map];constructor;ext⟨j,_,rfl⟩;exact#[_,rfl];ext⟨j,rfl⟩;exact#[j%r.z,zaU.mpr<|zbr _ a,bU<|by rw[zcx,zbT]]
theorem tF(h:k<r.z)(j:Nat):dj (c5 r k) j=dj r (j+k):=by unfold dj;rw[iV h,iV h];congr 2;lia
theorem Bh(h:k<r.z):sh 0 (c5 r k)=sh k r:=by unfold sh;erw[c8 (),zbS λj _=>tF h j]
theorem Good.c5(g:Good L r)(h:k<r.z):Good L<|Gm.c5 r k:=by refine#[by erw[c8 (),g.two],λj=>by erw[tF h,g.dt _],λj=>?_];rw[tF h,tF h,g.st];congr 1;lia
noncomputable def bg(L:cp)(d:ak)(k:Nat):b9:=(List.range k).map λi=>(it L d i).1
theorem NA(e:it L d k=d)(j:Nat):it L d (j+k)=it L d j:=by rw[zdi,sS,e]
theorem BG(e:it L d k=d)(j:Nat):it L d (j%k)=it L d j:=by
 let a:∀q,it L d (j%k+k*q)=it L d (j%k):=by
  ext q;induction q with
  | zero=>rfl
  | succ q b=>rw[Nat.mul_succ,<-zek,NA e,b]
 rw[<-a (j / k),Nat.mod_add_div]
theorem DU(b:0<k)(e:it L d k=d)(j:Nat):cy (bg L d k) j=(it L d j).1:=by
 let a:(bg L d k).z=k:=by unfold bg;simp
 let c:=zbr j b;unfold cy;rw[a];unfold bg;rw[zak,zao,zce c];show(it L d<|j%k).1=_;rw[BG e]
theorem jM(a:0<k)(e:it L d k=d)(j:Nat):dj (bg L d k) j=it L d j:=by unfold dj;rw[DU a e,DU a e];rfl
theorem vh(m:av L)(h:Dt L d)(a:0<k)(e:it L d k=d):Good L<|bg L d k:=by
 refine#[?_,λj=>by erw[jM a e,sR m h j],λj=>by rw[jM a e,jM a e];rfl];let b:(bg L d k).z=k:=by unfold bg;simp
 rw[b];by_cases z:k=1;subst z;let:=(h.back m).2.2.1;exact absurd (zaA Prod.fst e) this;lia
theorem Bk(m:av L)(h:Dt L d)(b:0<k)(e:it L d k=d)(n:kY L d k):(sh 0<|bg L d k).Nodup:=by
 let a:(bg L d k).z=k:=by unfold bg;simp
 let:sh 0 (bg L d k)=tr L d k:=by unfold sh tr;erw[a,zbS λj _=>by rw[jM b e,zcx]]
 erw[this,qY m h n]
noncomputable def IT(r:b9):Prop:=∀k,k<r.z->Le r (c5 r k)
theorem Ez(b:k<r.z)(h:∀j,j<r.z->Le (c5 r k) (c5 r j)):IT<|c5 r k:=λi a=>by rw[c8 ()]at a;erw[CC b a,h _<|zbr _ ()]
structure me(L R:cp):Prop where
 good:∀r∈R,Good L r
 least:∀r∈R,IT r
 sorted:R.Pairwise (λa b=>HT.de a b=true)
 nd:(R.flatMap<|sh 0).Nodup
 all:∀d,Dt L d->d∈R.flatMap (sh 0)
structure Lp(L R:cp)(ks:List ak):Prop where
 good:∀r∈R,Good L r
 least:∀r∈R,IT r
 nd:ks.Nodup
 pm:ks.Perm (R.flatMap<|sh 0)
 two:2*R.z<=ks.z
theorem Lp.start:Lp L [] []:=#[by simp,by simp,.nil,.nil,zai _]
theorem Lp.dt(p:Lp L R ks)(h:d∈ks):Dt L d:=by let#[r,a,b]:=zaK.mp<|p.pm.mem_iff.mp h;let#[j,rfl]:=(bE (by let:=(p.good r a).two;lia)).mp b;exact(p.good r a).dt j
theorem Lp.len(p:Lp L R ks):ks.z<=(eN L L.z).z:=dH p.nd λx a=>(p.dt a).all
theorem Lp.on(p:Lp L R ks)(h:d∈ks):∀t,it L d t∈ks:=by
 ext t;let#[r,b,c]:=zaK.mp<|p.pm.mem_iff.mp h;let g:=p.good r b;let a:0<r.z:=by let:=g.two;lia
 let#[j,rfl]:=(bE a).mp c;let e:it L (dj r j) t=dj r (j+t):=by
  induction t with
  | zero=>rfl
  | succ t f=>show Gm.nx L (it L (dj r j) t)=_;rw[f,g.st];rfl
 erw[e,p.pm.mem_iff.mpr<|zaK.mpr #[r,b,(bE a).mpr #[_,rfl]]]
theorem Lp.new(p:Lp L R ks)(a:0<k)(e:it L d k=d)(n:d∉ks)(j:Nat):it L d j∉ks:=by ext h;refine n ?_;let:=p.on h<|k*j-j;rw[<-sS,show j+(k*j-j)=k*j from by let:=zbY j a;lia,zcK]at this;let z:=BG e<|j*k;rw[Nat.mul_mod_left]at z;rwa[<-z]at this
theorem Lp.add(m:av L)(p:Lp L R ks)(h:Dt L d)(f:0<k)(e:it L d k=d)(u:kY L d k)(n:d∉ks)(t:c<k)(v:∀j,j<k->Le (Gm.c5 (bg L d k) c) (Gm.c5 (bg L d k) j)) :
  Lp L (R++[Gm.c5 (bg L d k) c]) (ks++sh (k-1) (bg L d k)):=by
 let o:(bg L d k).z=k:=by unfold bg;simp
 let g:=vh m h f e;let l:c<(bg L d k).z:=by erw[o,t]
 refine#[λr i=>?_,λr i=>?_,?_,?_,?_];ext(z|z:zam.mp i);exact p.good r z;rw[zaj.mp z];exact g.c5 l;ext(z|z:zam.mp i);exact p.least r z;rw[zaj.mp z];exact Ez l (by erw[o,v]);rw[zdY];refine#[p.nd,((f6 _ _).nodup_iff).mpr<|Bk m h f e u,λa s b q z=>?_];let#[j,rfl]:=(bE ()).mp q;rw[jM f e]at z;exact p.new f e n j<|z▸s;rw[zcn,flatMap_singleton,Bh l];exact p.pm.append<|(f6 _ _).trans (f6 _ _).symm;let:=g.two;let:=p.two;rw[zay,zay,zbl];unfold sh;rw[zaa,zbx];lia
theorem BR{R:cp}(h:(R.flatMap<|sh 0).Nodup)(n:∀r∈R,2<=r.z):R.Nodup:=by
 let:=(List.pairwise_flatMap.mp h).2;refine zcd (λ{a b} e f d z=>?_) this;subst z;let c:0<a.z:=by let:=n a e;lia
 exact d (dj a 0) ((bE c).mpr #[0,rfl]) (dj a 0) ((bE c).mpr #[0,rfl]) rfl
theorem CY{a:Type}{d:a}{L:List a}{p:Array Nat}(i:Nat):(pick d L p)[i]?=(p[i]?).map λj=>L.getD j d:=by unfold pick;simp
theorem range_getD{a:Type}{d:a}(L:List a):((List.range L.z).map λi=>L.getD i d)=L:=by apply zeC;ext i;rw[zao];by_cases h:i<L.z;simp[h];simp[h]
theorem oQ{a:Type}{d:a}{L:List a}{p:Array Nat}(h:Arr L.z p):(pick d L p).Perm L:=by
 let e:=range_getD (d:=d) L;let:p.toList.Perm<|List.range L.z:=by let:=h.perm;rw[Array.perm_iff_toList_perm]at this;simpa using this
 let q:=this.map λi=>L.getD i d;rwa[e]at q
theorem r8{a:Type}{d:a}{L:List a}{p:Array Nat}{n:Nat}(h:Arr n p):(pick d L p).z=n:=by unfold pick;simp[h.size]
theorem aO.pick(g:aO H t as R)(h:Arr R.z p)(s:H q=none):aO (upd H q<|.lst<|(pick 0 as p).d) q (pick 0 as p)<|pick [] R p:=by
 refine#[ah,by rw[r8 h,r8 h],λi a l b c=>?_];rw[CY]at b c;cases e:p[i]? with
 | none=>rw[e]at b;cases b
 | some j=>
  rw[e]at b c;let r:i<p.size:=by ext(z|z:zeD i p.size);exact z;rw[zea z]at e;cases e
  let d:j<R.z:=by let:=h.lt (by erw[<-h.size,r]);rwa[zcL,e]at this
  let f:j<as.z:=by erw[g.len,d]
  let m:as.getD j 0=as[j]:=by simp[f]
  let k:R.getD j []=R[j]:=by simp[d]
  let o:as.getD j 0=a:=zaq b;let n:R.getD j []=l:=zaq c;let:=g.row j as[j] R[j] (by simp[f]) (by simp[d]);rw[<-m,<-k,o,n]at this;erw[aG<|bo this s,this]
theorem Lp.lands(h:Lp L R ks)(f:Arr R.z p)(s:Up (λi=>R.getD i []) p R.z)(all:∀d,Dt L d->d∈ks):me L<|pick [] R p:=by
 let c:=oQ (d:=([]:b9)) f;let g:=((c.flatMap_right<|sh 0).nodup_iff).mpr<|(h.pm.nodup_iff).mp h.nd;let good:∀r∈pick [] R p,Good L r:=λr a=>h.good r<|c.mem_iff.mp a;refine#[good,λr a=>h.least r<|c.mem_iff.mp a,?_,g,λd u=>((c.flatMap_right<|sh 0).mem_iff).mpr<|h.pm.mem_iff.mp<|all d u];let n2:=BR g λr a=>(good r a).two;refine zbe.mpr λi j o t w=>?_;let v:=r8 (d:=([]:b9)) (L:=R) f;let b:∀k (l:k<(pick [] R p).z),(pick [] R p)[k]=kf (λi=>R.getD i []) p k:=λk l=>by
  let e:=CY (d:=([]:b9)) (L:=R) (p:=p) k;rw[zaf l]at e;unfold kf;rw[zcL];cases z:p[k]? with
  | none=>rw[z]at e;cases e
  | some m=>rw[z]at e;exact zaq e
 let n:Le (pick [] R p)[i] (pick [] R p)[j]:=by erw[b i o,b j t,s.le () ()]
 cases q:HT.de (pick [] R p)[i] (pick [] R p)[j]with
 | true=>rfl
 | false=>
  let:=(zcq n2).mp<|nO q n;lia
noncomputable def fL(d:ak):List Key:=[.inl d.1,.inl d.2]
noncomputable def kD(a:List ak):List<|List Key×V:=a.map λd=>(fL d,V.bl true)
theorem kO(h:fL d=fL e):d=e:=by unfold fL at h;simp[List.cons.injEq,Sum.inl.injEq,and_true]at h;exact zbA h.1 h.2
theorem oB:∀(a:List ak) (d:ak),(iJ (kD a)<|fL d).isSome=decide (d∈a)
 | [],d=>rfl
 | e::a,d=>by unfold kD;rw[zbg];by_cases z:e=d;subst z;rw[gX rfl];simp;rw[fO<|λy=>z<|kO y];let:=oB a d;unfold kD at this;rw[this];let b:¬d=e:=λy=>z y.symm;simp[b]
theorem GK(h:d∉ks):dV (kD ks) (fL d) (.bl true)=kD (ks++[d]):=by rw[nj];unfold kD;rw[zaw];rfl;let:=oB ks d;rw[zaQ h]at this;exact Option.isNone_iff_eq_none.mp (by rw[<-Option.not_isSome,this];rfl)
theorem Ny(a:List ak):(kD a).z=a.z:=by unfold kD;simp
theorem kU{r:b9}{k:Nat}(h:k<=r.z):mJ r.c (some (k:Int)) none=(r.drop k).c:=by unfold mJ HT.vg;rw[zaa];dsimp only;rw[zab (),show min ((k:Int).toNat) r.z=k by lia,zcE (by rw[zbF,zaa];lia),map_drop]
theorem ji{r:b9}{k:Nat}(h:k<=r.z):mJ r.c none (some (k:Int))=(r.take k).c:=by unfold mJ HT.vg;rw[zaa];dsimp only;rw[zab (),show min ((k:Int).toNat) r.z=k by lia,drop_zero,zeE,zdH]
theorem zw(h:ty σ H λy c=>td σ c λx b=>∃a o,x=.ref a/\k7 b a y o/\Q (.bl<|!o.isSome) b):Cn ty td σ H Q:=h
theorem Bq(h:tv σ H λv e=>td σ e λx d=>ty σ d λy c=>∃a b,x=.ref a/\tU c a y v b/\D.nx σ b):LA td ty tv D σ H:=h
theorem Ei{a:Addr}{i k n:Nat}{r:b9}(b:σ[i]?=some (a.e))(e:σ[k]?=some (n.h))(c:aK K H a r.c)(d:n<=r.z)(q:∀p,H p=none->Q (.ref p) (upd H p<|.lst<|(r.drop n).c)) :
  IZ (wY K) (eX i) (rh<|eX k) gJ σ H Q:=#[_,b,#[_,e,#[_,rfl,#[a,_,rfl,c,λp f=>by erw[kU d,q p f]]]]]
theorem JT{a:Addr}{i k n:Nat}{r:b9}(b:σ[i]?=some (a.e))(e:σ[k]?=some (n.h))(c:aK K H a r.c)(d:n<=r.z)(q:∀p,H p=none->Q (.ref p) (upd H p<|.lst<|(r.take n).c)) :
  IZ (wY K) (eX i) gJ (rh<|eX k) σ H Q:=#[_,b,#[_,e,#[_,rfl,#[a,_,rfl,c,λp f=>by erw[ji d,q p f]]]]]
theorem aO.snoc(g:aO H t bs R)(n:t∉bs)(h:b≠t)(f:H b=some (.lst l.c)):aO (upd H t<|.lst<|bs.d++[.ref b]) t (bs++[b])<|R++[l]:=by
 refine#[by erw[zaw,ah],by rw[zay,zay,g.len];rfl,λi a m c d=>?_];ext(e|e:zeD i bs.z);rw[zaO e]at c;rw[zaO<|by erw[<-g.len,e]]at d;let j:=zah c;let k:a≠t:=λz=>n (by erw[<-z,j]);rw[aG k];exact g.row i a m c d;rw[zaL e]at c;rw[zaL (by erw[<-g.len,e]),<-g.len]at d;let:i-bs.z=0:=by let:=(zac.mp c).1;rw[zbl]at this;lia
 rw[this]at c d;simp at c d;subst c d;erw[aG h,f]
theorem aO.other(h:aO H t bs R)(b:H g=some (.dT aT)):aO (upd H g o) t bs R:=by refine#[?_,h.len,λi a l c d=>?_];rw[aG (λz=>by let:=h.top;rw[z,b]at this;cases this)];exact h.top;let:=h.row i a l c d;erw[aG (λz=>by rw[z,b]at this;cases this),this]
theorem aO.fQ(g:aO H t bs R)(a:H b=none):b∉t::bs:=λz=>by
 ext(z|z:zas.mp z);rw[z,g.top]at a;cases a;let#[k,c,e]:=zaH.mp z;let d:k<R.z:=by erw[<-g.len,c]
 let:=g.row k b _ (by rw[zaf c,e])<|zaf d;rw[a]at this;cases this
theorem gN{b:Type}{A B:List b}{x:b}{j:Nat}(h:(A++B).Nodup)(e:B[j]?=some x):x∉A++B.take j:=by let#[g,c,d]:=zbh.mp h;ext z;ext(z|z:zam.mp z);exact d x z x (zah e) rfl;let#[k,ex]:=zac.mp e;let#[i,f,a]:=zaH.mp z;rw[getElem_take]at a;rw[zbb]at f;let:=(zcq c).mp<|a.trans ex.symm;lia
theorem cK(s:Nat)(r:b9):(sh s r).z=r.z:=by unfold sh;simp
theorem rG(h:j<r.z):(sh s r)[j]?=some (dj r<|j+s):=by unfold sh;simp[h]
theorem take_snoc{a:Type}{l:List a}{j:Nat}{x:a}(h:l[j]?=some x):l.take (j+1)=l.take j++[x]:=by rw[zeI,h];rfl
theorem gu{l:bp}{x:Addr}:(l++[x]).Nodup↔x∉l/\l.Nodup:=by rw[(zcV x l).nodup_iff,zdj]
noncomputable def fl(R:cp)(k:Nat):List ak:=(R.take k).flatMap λr=>sh (r.z-2) r
theorem tE{L:cp}(m:av L):∀{k:Nat},k<=L.z->(eN L k).z<=k*(L.z-1)
 | 0,_=>zaS _
 | k+1,h=>by
  let i:=tE m (k:=k) ();let e:=aD (L:=L) (a:=(k:Int)) () ();let n:(XS L (k:Int)).z<=L.z-1:=by
   let n1:=zar.mpr #[λz=>by let:=m.rg _ _ e _ z;rw[zau]at this;exact this.2.2 rfl,m.nd _ _ e];let:=cG (n:=L.z) n1 λx b=>by ext(z|z:zas.mp b);lia;let:=m.rg _ _ e _ z;exact#[this.1,this.2.1]
   rw[zbd]at this;lia
  rw[eN,zay,zaa,zeB];lia
theorem ET(m:av L)(h:L.z<=11):(eN L L.z).z<128:=by let a:=tE m<|zai L.z;let b:L.z*(L.z-1)<=11*10:=zbU h ();lia
theorem zh(a:i<r.z):c5 r i=cy r i::(r.drop (i+1)++r.take i):=by unfold c5;rw[zcg a,fI a];rfl
theorem MN(a:i<r.z)(b:j<r.z)(h:cy r i<cy r j):HT.de (c5 r i) (c5 r j)=true:=by erw[zh a,zh b,HT.iq,zab (),zaV h]
noncomputable def gc:Int->b9->Int->Int
 | p,[],_=>p
 | p,h::t,x=>if h=x then p else gc h t x
noncomputable def lst(l:b9):Int:=l.getD (l.z-1) 0
theorem sF(h:Int)(n:t≠[]):lst (h::t)=lst t:=by
 unfold lst;cases t with
 | nil=>exact absurd rfl n
 | cons a t=>simp
theorem jG(u:b9)(n:v≠[]):lst (u++v)=lst v:=by
 induction u with
 | nil=>rfl
 | cons h t a=>rw[zcM,sF h (by simp[n]),a]
theorem Kn(n:l≠[]):lst l∈l:=by
 unfold lst;let:l.z-1<l.z:=by let:=zbP.mpr n;lia
 simp[this]
theorem C0:∀{l:b9} {p x:Int},x∈l->gc p l x=if l.idxOf x=0 then p else l.getD (l.idxOf x-1) 0
 | [],_,_,h=>by cases h
 | h::t,p,x,hx=>by
  unfold gc;rw[zdk];by_cases e:h=x;rw[zad e,e];simp;rw[zab e];let a:=zdp e;rw[a];let b:=(zas.mp hx).resolve_left<|λz=>e z.symm;rw[C0 b];simp[cond_false,zab<|Nat.succ_ne_zero _];cases q:t.idxOf x with
  | zero=>simp
  | succ k=>simp
theorem nv(h:x∈l):pre l x=gc (lst l) l x:=by let ix:=zbH h;rw[C0 h];unfold pre cy lst;rw[md ix];split<;>rfl
theorem wZ:∀(l:b9) (p x:Int),gc p l x=p\/gc p l x∈l
 | [],p,x=>.inl rfl
 | h::t,p,x=>by unfold gc;by_cases e:h=x;rw[zad e];exact .inl rfl;rw[zab e];ext(z|z:wZ t h x);rw[z];exact .inr zal;exact .inr<|zag _ z
theorem vj:∀{l:b9} {p x y:Int},l.Nodup->p≠y->x∈l->x≠y->gc p (l.erase y) x=if gc p l x=y then gc p l y else gc p l x
 | [],_,_,_,_,_,h,_=>by cases h
 | h::t,p,x,y,n,hp,hx,qJ=>by
  let#[n1,n2]:=zar.mp n;by_cases e:h=y;subst e;rw[zdq];let b:=(zas.mp hx).resolve_left qJ;let d:gc p (h::t) x=gc h t x:=by show(if h=x then p else gc h t x)=_;rw[zab<|λz=>qJ z.symm]
  let c:gc p (h::t) h=p:=by show(if h=h then p else gc h t h)=_;rw[zad rfl]
  rw[d,c];cases t with
  | nil=>cases b
  | cons k s=>
   by_cases a:k=x;let b1:gc p (k::s) x=p:=by show(if k=x then p else gc k s x)=_;rw[zad a]
   let b2:gc h (k::s) x=h:=by show(if k=x then h else gc k s x)=_;rw[zad a]
   rw[b1,b2,zad rfl];let b1:gc p (k::s) x=gc k s x:=by show(if k=x then p else gc k s x)=_;rw[zab a]
   let b2:gc h (k::s) x=gc k s x:=by show(if k=x then h else gc k s x)=_;rw[zab a]
   rw[b1,b2,zab];ext z;ext(y|y:wZ s k x);rw[y]at z;exact n1 (by erw[<-z,zal]);rw[z]at y;exact n1<|zag _ y
  rw[erase_cons_tail<|by simpa using e];by_cases a:h=x;let b1:∀s,gc p (h::s) x=p:=λs=>by show(if h=x then p else gc h s x)=_;rw[zad a]
  rw[b1,b1,zab hp];let b:=(zas.mp hx).resolve_left<|λz=>a z.symm;let b1:∀s,gc p (h::s) x=gc h s x:=λs=>by show(if h=x then p else gc h s x)=_;rw[zab a]
  let b2:gc p (h::t) y=gc h t y:=by show(if h=y then p else gc h t y)=_;rw[zab e]
  erw[b1,b1,b2,vj n2 e b qJ]
theorem zF:∀{u:b9} {w:b9} {p x:Int},x∈u->gc p (u++w) x=gc p u x
 | [],_,_,_,h=>by cases h
 | h::t,w,p,x,hx=>by show(if h=x then p else gc h (t++w) x)=if h=x then p else gc h t x;by_cases e:h=x;rw[zad e,zad e];erw[zab e,zab e,zF<|(zas.mp hx).resolve_left<|λz=>e z.symm]
theorem C1:∀{u:b9} {p y:Int},y∉u->gc p (u++[y]) y=if u=[]then p else lst u
 | [],p,y,_=>by show(if y=y then p else gc y [] y)=_;rw[zad rfl,zad rfl]
 | h::t,p,y,n=>by let e:h≠y:=λz=>n (by erw[z,zal]);show(if h=y then p else gc h (t++[y]) y)=_;rw[zab e,zab A?,C1<|λz=>n<|zag _ z];by_cases q:t=[];subst q;rw[zad rfl];rfl;rw[zab q,sF h q]
theorem lq(n:l.Nodup)(a:x∈l)(i:y∈l)(f:x≠y):pre (l.erase y) x=if pre l x=y then pre l y else pre l x:=by
 let p:=(mem_erase_of_ne f).mpr a;rw[nv p,nv a,nv i];let#[u,v,rfl]:=zel i;let#[n1,n2,n3]:=zbh.mp n;let#[o,r]:=zar.mp n2;let c:y∉u:=λz=>n3 y z y zal rfl;let g:(u++y::v).erase y=u++v:=by rw[zdR _ c,zdq]
 by_cases q:v=[];subst q;rw[g,zcP];let d:x∈u:=by ext(z|z:zam.mp a);exact z;exact absurd (zaj.mp z) f
 let j:u≠[]:=λz=>by rw[z]at d;cases d
 rw[jG u A?,zF d,C1 c,zab j];show gc (lst u) u x=if gc y u x=y then lst u else gc y u x;cases u with
 | nil=>cases d
 | cons h t=>
  by_cases e:h=x;let b:∀q,gc q (h::t) x=q:=λq=>by show(if h=x then q else gc h t x)=_;rw[zad e]
  rw[b,b,zad rfl];let b:∀q,gc q (h::t) x=gc h t x:=λq=>by show(if h=x then q else gc h t x)=_;rw[zab e]
  rw[b,b,zab];ext z;ext(w|w:wZ t h x);rw[w]at z;exact c (by erw[<-z,zal]);rw[z]at w;exact c<|zag _ w
 let k:lst (u++y::v)=lst v:=by rw[jG u A?,sF y q]
 let m:lst ((u++y::v).erase y)=lst v:=by rw[g,jG u q]
 erw[k,m,vj n (λz=>o<|by erw[<-z,Kn q]) a f]
theorem nk(n:l.Nodup)(a:x∈l)(h:pre l x=x):l=[x]:=by
 let b:=zbH a;unfold pre cy at h;let mx:=zbr (l.idxOf x+l.z-1) (show 0<l.z by lia);let c:l.getD ((l.idxOf x+l.z-1)%l.z) 0=l[(l.idxOf x+l.z-1)%l.z]:=by simp[mx]
 rw[c]at h;let g:=zdr b;let e:=(zcq n).mp<|h.trans g.symm;rw[md b]at e;let d:l.z=1:=by split at e<;>lia
 match l,d,a with
 | [z],_,a=>rw[zaj.mp a]
theorem kP(h:∀x:Int,0<=x->x<L.z->(XS L x).Nodup/\∀y∈XS L x,0<=y/\y<L.z/\y≠x/\x∈XS L y):av L:=by
 let b:∀(i:Nat) (l:b9),L[i]?=some l->XS L (i:Int)=l/\(i:Int)<L.z:=λi l e=>by let p:=(zac.mp e).1;let:=aD (L:=L) (a:=(i:Int)) () ();rw[zau,e]at this;exact#[(zaq this).symm,()]
 refine#[λi l e=>?_,λi l e x c=>?_,λi l e x c j k m g=>?_];let#[f,d]:=b i l e;rw[<-f];exact(h i () d).1;let#[f,d]:=b i l e;rw[<-f]at c;let:=(h i () d).2 x c;exact#[this.1,this.2.1,this.2.2.1];let#[f,d]:=b i l e;let#[n,o]:=b j m g;rw[<-f]at c;let:=((h i () d).2 x c).2.2.2;rwa[k,n]at this
noncomputable def rem(L:cp)(a b:Int):cp:=(L.set a.toNat<|(XS L a).erase b).set b.toNat<|(XS L b).erase a
theorem fg:(rem L a b).z=L.z:=by unfold rem;simp
theorem mZ(m:av L)(h:Dt L (a,b))(j:0<=x):XS (rem L a b) x=if x=b then(XS L b).erase a else if x=a then(XS L a).erase b else XS L x:=by let#[i,b1,b2,g]:=h.back m;let d:=h.lo;let f:=h.hi;dsimp only at d f i b1 b2 g;show(rem L a b).getD x.toNat []=_;unfold rem;rw[zak,zcv];by_cases e:x=b;subst e;rw[zad rfl,zad rfl,zad<|by rw[zbN];lia];rfl;rw[zab (),zab e,zcv];by_cases c:x=a;subst c;rw[zad rfl,zad rfl,zad ()];rfl;rw[zab (),zab c,<-zak];rfl
theorem qp(m:av L)(h:Dt L (a,b)){x y:Int}(f:0<=x)(j:x<L.z):y∈XS (rem L a b) x↔y∈XS L x/\¬(x=a/\y=b)/\¬(x=b/\y=a):=by let#[o,b1,b2,n]:=h.back m;let k:=h.lo;let l:=h.hi;dsimp only at k l o b1 b2 n;rw[mZ m h f];by_cases e:x=b;subst e;rw[zad rfl,(m.nd _ _<|aD f j).mem_erase_iff];constructor;ext⟨c,d⟩;exact#[d,λz=>b2 z.1,λz=>c z.2];ext⟨c,d,i⟩;exact#[λz=>i #[rfl,z],c];rw[zab e];by_cases g:x=a;subst g;rw[zad rfl,(m.nd _ _<|aD f j).mem_erase_iff];constructor;ext⟨c,d⟩;exact#[d,λz=>c z.2,λz=>e z.1];ext⟨c,d,i⟩;exact#[λz=>d #[rfl,z],c];erw[zab g,#[λz=>#[z,λy=>g y.1,λy=>e y.1],λz=>z.1]]
theorem cQ(m:av L)(h:Dt L (a,b)):Dt (rem L a b) d↔Dt L d/\d≠(a,b)/\d≠(b,a):=by constructor;ext q;let c:=q.hi;rw[fg]at c;let:=(qp m h q.lo c).mp q.mem;exact#[#[q.lo,c,this.1],λz=>this.2.1 #[zaA Prod.fst z,zaA Prod.snd z],λz=>this.2.2 #[zaA Prod.fst z,zaA Prod.snd z]];ext⟨q,e,f⟩;refine#[q.lo,by erw[fg,q.hi],(qp m h q.lo q.hi).mpr #[q.mem,λz=>e<|zbA z.1 z.2,λz=>f<|zbA z.1 z.2]]
theorem ng(m:av L)(h:Dt L (a,b)):av<|rem L a b:=by refine kP λx f c=>?_;rw[fg]at c;let n:=m.nd _ _<|aD f c;refine#[?_,λy l=>?_];rw[mZ m h f];split;rename_i e;rw[<-e];exact n.erase _;split;rename_i e;rw[<-e];exact n.erase _;exact n;let q:=(qp m h f c).mp l;let#[g,i,j,k]:=Dt.back (d:=(x,y)) #[f,c,q.1] m;rw[fg];refine#[g,i,j,(qp m h g i).mpr #[k,λz=>q.2.2 #[z.2,z.1],λz=>q.2.1 #[z.2,z.1]]]
theorem oK(m:av L)(h:Dt L (a,b))(r:Dt (rem L a b) d) :
  nx (rem L a b) d=if nx L d=(b,a)then nx L (a,b)else if nx L d=(a,b)then nx L (b,a)else nx L d:=by
 let#[q,l,p]:=(cQ m h).mp r;let#[s,b1,b2,k]:=h.back m;let#[c,f,n,g]:=q.back m;let#[x,y]:=d;dsimp only at s b1 b2 k c f n g;let j:=h.mem;dsimp only at j;unfold nx;rw[mZ m h c];by_cases e:y=b;subst e;let t:x≠a:=λz=>l (by rw[z]);rw[zad rfl,lq (m.nd _ _<|aD c f) g k t];by_cases z:pre (XS L y) x=a;rw[zad z,z,zad rfl];rw[zab z,zab<|λw=>z<|zaA Prod.snd w,zab<|λw=>b2<|zaA Prod.fst w];rw[zab e];by_cases i:y=a;subst i;let o:x≠b:=λz=>p (by rw[z]);rw[zad rfl,lq (m.nd _ _<|aD c f) g j o,zab<|λw=>e<|zaA Prod.fst w];by_cases z:pre (XS L y) x=b;rw[zad z,z,zad rfl];rw[zab z,zab<|λw=>z<|zaA Prod.snd w];rw[zab i,zab<|λw=>e<|zaA Prod.fst w,zab<|λw=>i<|zaA Prod.fst w]
inductive Wk(f:ak->ak):ak->List ak->ak->Prop where
 | nil (x:ak):Wk f x [] x
 | cons {x y:ak} {l:List ak}:Wk f (f x) l y->Wk f x (x::l) y
theorem Wk.append(h:Wk f x l y)(k:Wk f y m z):Wk f x (l++m) z:=by
 induction h with
 | nil _=>exact k
 | cons _ a=>exact .cons<|a k
theorem Wk.split:∀{l:List ak} {x:ak},Wk f x (l++m) z->∃y,Wk f x l y/\Wk f y m z
 | [],x,h=>#[x,.nil x,h]
 | a::l,x,h=>by
  cases h with
  | cons h=>
   let#[y,b,c]:=Wk.split h;exact#[y,.cons b,c]
theorem Wk.nil_eq(h:Wk f x [] y):x=y:=by cases h;rfl
theorem Wk.hd(h:Wk f x (d::l) y):d=x:=by cases h;rfl
theorem Wk.tl(h:Wk f x (d::l) y):Wk f (f x) l y:=by cases h;assumption
theorem Wk.on(h:Wk f x l y):∀d∈l,f d∈l\/f d=y:=by
 induction h with
 | nil _=>intro d a;cases a
 | @cons x y l h b=>
  ext d a;ext(e|e:zas.mp a);subst e;cases h with
  | nil _=>exact .inr rfl
  | cons h=>exact .inl<|zag _ zal
  ext(q|q:b d e);exact .inl<|zag _ q;exact .inr q
theorem Wk.new(h:Wk f x l y)(n:l≠[])(i:y∉l)(b:∀d∈l,f d=y->g d=w)(c:∀d∈l,f d≠y->g d=f d):Wk g x l w:=by
 induction h with
 | nil _=>exact absurd rfl n
 | @cons x y l h k=>
  cases h with
  | nil _=>
   let:=b x zal rfl;erw[<-this,.cons<|.nil _]
  | @cons _ _ m h=>
   let j:f x≠y:=λq=>i (by erw[<-q,zag _ zal]);let e:=c x zal j;refine .cons ?_;erw[e,k A? (λq=>i<|zag _ q) (λd a=>b d<|zag _ a) λd a=>c d<|zag _ a]
theorem Wk.congr(h:Wk f x l y)(e:∀d∈l,g d=f d):Wk g x l y:=by
 induction h with
 | nil _=>exact .nil _
 | @cons x y l h a=>
  refine .cons ?_;erw[e x zal,a λd b=>e d<|zag _ b]
noncomputable def vV(f:ak->ak)(c:List ak):Prop:=∃x l,c=x::l/\Wk f x c x
theorem vV.ne(h:vV f c):c≠[]:=by let#[x,l,rfl,_]:=h;simp
theorem vV.on(h:vV f c)(a:d∈c):f d∈c:=by let#[x,l,rfl,k]:=h;ext(q|q:k.on d a);exact q;erw[q,zal]
theorem vV.turn(h:vV f c)(a:d∈c):∃v,(d::v).Perm c/\Wk f (f d) v d:=by let#[x,l,e,k]:=h;let#[u,v,rfl]:=zel a;let#[y,k1,k2]:=k.split;let:=k2.hd;subst this;exact#[v++u,by erw[<-zcM,perm_append_comm],k2.tl.append k1]
structure Dec(L:cp)(R:List<|List ak):Prop where
 jq:∀c∈R,vV (nx L) c
 nd:R.flatten.Nodup
 mem:∀d,d∈R.flatten↔Dt L d
theorem r9{a:Type}{x:a}{l:List a}(h:x∈l):∃r,l.Perm<|x::r:=by let#[u,v,rfl]:=zel h;exact#[u++v,perm_middle]
theorem Dec.perm(h:Dec L R)(p:R.Perm S):Dec L S:=
 #[λc a=>h.jq c<|p.mem_iff.mpr a,(p.flatten.nodup_iff).mp h.nd,λd=>by erw[<-p.flatten.mem_iff,h.mem d]]
theorem Dec.swap(h:Dec L<|c::R)(p:e.Perm c)(k:vV (nx L) e):Dec L<|e::R:=by
 let q:(e::R).flatten.Perm (c::R).flatten:=by erw[zbz,zbz,p.append_right _]
 refine#[λs a=>?_,q.nodup_iff.mpr h.nd,λd=>by erw[q.mem_iff,h.mem d]];ext(z|z:zas.mp a);rw[z];exact k;exact h.jq s<|zag _ z
theorem Dec.front(h:Dec L R)(f:Dt L d):∃v S,Dec L ((d::v)::S)/\R.z=S.z+1/\Wk (nx L) (nx L d) v d/\(∀c∈S,c∈R):=by let#[c,a,e]:=zaT.mp<|(h.mem d).mpr f;let#[S,p]:=r9 a;let#[v,pv,k]:=(h.jq c a).turn e;exact#[v,S,(h.perm p).swap pv #[d,v,rfl,.cons k],p.length_eq,k,λs b=>p.mem_iff.mpr<|zag _ b]
theorem m7(m:av L)(h:Dt L (a,b)):(eN L L.z).Perm ((a,b)::(b,a)::eN (rem L a b) (rem L a b).z)/\(eN L L.z).z=(eN (rem L a b) (rem L a b).z).z+2:=by
 let#[n,b1,b2,j]:=h.back m;let i:Dt L (b,a):=#[n,b1,j];let n2:((a,b)::(b,a)::eN (rem L a b) (rem L a b).z).Nodup:=by refine zar.mpr #[λz=>?_,zar.mpr #[λz=>?_,bJ (ng m h)<|zai _]];ext(z|z:zas.mp z);exact b2 (zaA Prod.fst z).symm;exact((cQ m h).mp<|Dt.of z).2.1 rfl;exact((cQ m h).mp<|Dt.of z).2.2 rfl
 let e:∀x,x∈eN L L.z↔x∈(a,b)::(b,a)::eN (rem L a b) (rem L a b).z:=λx=>by constructor;ext z;by_cases f:x=(a,b);rw[f];exact zal;by_cases g:x=(b,a);rw[g];exact zag _ zal;exact zag _<|zag _ ((cQ m h).mpr #[Dt.of z,f,g]).all;ext z;ext(z|z:zas.mp z);rw[z];exact h.all;ext(z|z:zas.mp z);rw[z];exact i.all;exact((cQ m h).mp<|Dt.of z).1.all
 let n1:=bJ m<|zai L.z;let l:=len_eq n1 n2 e;refine#[?_,by rw[l];rfl];exact(List.perm_iff_count.mpr λx=>by
  let c:∀{l:List ak},l.Nodup->l.count x=if x∈l then 1 else 0:=λ{l} k=>by by_cases d:x∈l;rw[zad d];let o:=List.nodup_iff_count.mp k x;let p:=List.count_pos_iff.mpr d;lia;rw[zab d,List.count_eq_zero.mpr d]
  rw[c n1,c n2];by_cases d:x∈eN L L.z;rw[zad d,zad<|(e x).mp d];rw[zab d,zab<|λz=>d<|(e x).mpr z])
theorem wQ(m:av L)(h:Dt L (a,b))(D:Dec L R) :
  (∃A B S,Dec (rem L a b) ((if A=[]then []else [A])++(if B=[]then []else [B])++S)/\R.z=S.z+1/\Wk (nx L) (nx L (a,b)) A (b,a)/\Wk (nx L) (nx L (b,a)) B (a,b))\/
  (∃A B S,Dec (rem L a b) ((A++B)::S)/\R.z=S.z+2/\A≠[]/\B≠[]/\Wk (nx<|rem L a b) (nx L (a,b)) A (nx L (b,a))/\Wk (nx<|rem L a b) (nx L (b,a)) B (nx L (a,b))/\(∀d∈A++B,Dt (rem L a b) d)):=by
 let#[b0,b1,b2,b3]:=h.back m;let hb:Dt L (b,a):=#[b0,b1,b3];let M:(a,b)≠(b,a):=λz=>b2 (zaA Prod.fst z).symm;let spec:∀d,Dt L d->d≠(a,b)->d≠(b,a)->nx (rem L a b) d=if nx L d=(b,a)then nx L (a,b)else if nx L d=(a,b)then nx L (b,a)else nx L d:=λd h0 h1 h2=>oK m h<|(cQ m h).mpr #[h0,h1,h2];let#[v,S,i,Qp,n,_]:=D.front h;let oU:=i.nd;rw[zbz,zcM,zdj,zdz]at oU;let#[j,H]:=oU;let#[Ys,Yy,Yr]:=zbh.mp H;let x:∀d∈v,Dt L d:=λd f=>(i.mem d).mp (by erw[zbz,zaJ _<|zag _ f]);by_cases q:(b,a)∈v;left;let#[A,B,rfl]:=zel q;let#[y,kA,l]:=n.split;let:=l.hd;subst this;let l:=l.tl;let#[nA,nB,nX]:=zbh.mp Ys;let#[Q,ad]:=zar.mp nB;let I:(b,a)∉A:=λz=>nX _ z _ zal rfl;let Vm:(a,b)∉A:=λz=>j<|.inl<|zaJ _ z;let P:(a,b)∉B:=λz=>j<|.inl<|zaF _<|zag _ z;refine#[A,B,S,#[λc g=>?_,?_,λd=>?_],Qp,kA,l];ext(g|g:zam.mp g);ext(g|g:zam.mp g);by_cases z:A=[];rw[zad z]at g;cases g;rw[zab z]at g;rw[zaj.mp g];let k2:Wk (nx<|rem L a b) (nx L (a,b)) A<|nx L (a,b):=kA.new z I (λd f e=>by rw[spec d (x d<|zaJ _ f) (λy=>Vm<|y▸f)<|λy=>I<|y▸f,zad e]) λd f e=>by rw[spec d (x d<|zaJ _ f) (λy=>Vm<|y▸f)<|λy=>I<|y▸f,zab e,zab];ext y;ext(w|w:kA.on d f);exact Vm<|y▸w;exact e w
 cases A with
 | nil=>exact absurd rfl z
 | cons p A=>have:=k2.hd;subst this;exact#[_,_,rfl,k2]
 by_cases z:B=[];rw[zad z]at g;cases g;rw[zab z]at g;rw[zaj.mp g];let dB:∀d∈B,Dt L d:=λd f=>x d<|zaF _<|zag _ f;let k2:Wk (nx<|rem L a b) (nx L (b,a)) B<|nx L (b,a):=l.new z P (λd f e=>by rw[spec d (dB d f) (λy=>P<|y▸f)<|λy=>Q<|y▸f,e,zab M,zad rfl]) λd f e=>by rw[spec d (dB d f) (λy=>P<|y▸f)<|λy=>Q<|y▸f,zab,zab e];ext y;ext(w|w:l.on d f);exact Q<|y▸w;exact e w
 cases B with
 | nil=>exact absurd rfl z
 | cons p B=>have:=k2.hd;subst this;exact#[_,_,rfl,k2]
 let cy:=i.jq c<|zag _ g;let Z:∀d∈c,d∈S.flatten:=λd f=>zaT.mpr #[c,g,f];let E:(a,b)∉c:=λz=>j<|.inr<|Z _ z;let o:(b,a)∉c:=λz=>Yr _ q _ (Z _ z) rfl;let#[p,r,rfl,k]:=id cy;refine#[p,r,rfl,k.congr λd f=>?_];let dd:=(i.mem d).mp (by erw[zbz,zaF _<|Z d f]);let C:=cy.on f;let Y:nx L d≠(b,a):=λy=>o (by erw[<-y,C]);let o2:nx L d≠(a,b):=λy=>E (by erw[<-y,C]);rw[spec d dd (λy=>E<|y▸f)<|λy=>o<|y▸f,zab Y,zab o2];let t:∀A:List ak,(if A=[]then([]:List<|List ak)else [A]).flatten=A:=λA=>by by_cases z:A=[];rw[zad z,z];rfl;rw[zab z];simp
 rw[zco,zco,t,t,zck];let:(A++(B++S.flatten)).Perm<|A++(B++S.flatten):=zeT _;let e:((A++(b,a)::B)++S.flatten).Perm<|(b,a)::(A++(B++S.flatten)):=by erw[zck,zcM,perm_middle]
 exact(zar.mp<|e.nodup_iff.mp H).2;let t:∀A:List ak,(if A=[]then([]:List<|List ak)else [A]).flatten=A:=λA=>by by_cases z:A=[];rw[zad z,z];rfl;rw[zab z];simp
 rw[zco,zco,t,t,zck,cQ m h,<-i.mem];let e:((A++(b,a)::B)++S.flatten).Perm<|(b,a)::(A++(B++S.flatten)):=by erw[zck,zcM,perm_middle]
 let e2:=zar.mp<|e.nodup_iff.mp H;rw[zbz,zcM];let e3:(a,b)∉A++(B++S.flatten):=λz=>j<|zam.mp<|e.mem_iff.mpr<|zag _ z;constructor;ext z;exact#[zag _<|e.mem_iff.mpr<|zag _ z,λy=>e3<|y▸z,λy=>e2.1<|y▸z];ext⟨z,z1,X⟩;ext(z|z:zas.mp z);exact absurd z z1;ext(z|z:zas.mp<|e.mem_iff.mp z);exact absurd z X;exact z;right;let q2:(b,a)∈S.flatten:=by let:=(i.mem (b,a)).mpr hb;rw[zbz,zcM]at this;ext(z|z:zas.mp this);exact absurd z.symm M;ext(z|z:zam.mp z);exact absurd z q;exact z
 let#[c,g,ZL]:=zaT.mp q2;let#[T,N]:=r9 g;let#[w,pw,F]:=(i.jq c<|zag _ g).turn ZL;let G:S.flatten.Perm<|((b,a)::w)++T.flatten:=by refine N.flatten.trans ?_;erw[zbz,pw.symm.append_right _]
 let nS:=G.nodup_iff.mp Yy;rw[zcM,zdj,zdz]at nS;let#[YB,ac]:=nS;let U:(a,b)∉S.flatten:=λz=>j<|.inr z;let Vi:(a,b)∉w:=λz=>U<|G.mem_iff.mpr<|zaJ _<|zag _ z;let W:(b,a)∉w:=λz=>YB<|.inl z;let Vj:(a,b)∉v:=λz=>j<|.inl z;let Xq:∀d∈w,Dt L d:=λd f=>(i.mem d).mp (by erw[zbz,zaF _<|G.mem_iff.mpr<|zaJ _<|zag _ f]);let v0:v≠[]:=λz=>by rw[z]at n;let:=n.nil_eq;exact b2<|zaA Prod.fst this
 let w0:w≠[]:=λz=>by rw[z]at F;let:=F.nil_eq;exact b2 (zaA Prod.fst this).symm
 let k1:Wk (nx<|rem L a b) (nx L (a,b)) v<|nx L (b,a):=n.new v0 Vj (λd f e=>by rw[spec d (x d f) (λy=>Vj<|y▸f)<|λy=>q<|y▸f,e,zab M,zad rfl]) λd f e=>by rw[spec d (x d f) (λy=>Vj<|y▸f)<|λy=>q<|y▸f,zab,zab e];ext y;ext(u|u:n.on d f);exact q<|y▸u;exact e u
 let k2:Wk (nx<|rem L a b) (nx L (b,a)) w<|nx L (a,b):=F.new w0 W (λd f e=>by rw[spec d (Xq d f) (λy=>Vi<|y▸f)<|λy=>W<|y▸f,zad e]) λd f e=>by rw[spec d (Xq d f) (λy=>Vi<|y▸f)<|λy=>W<|y▸f,zab e,zab];ext y;ext(u|u:F.on d f);exact Vi<|y▸u;exact e u
 let pe:((a,b)::(v++S.flatten)).Perm<|(a,b)::(b,a)::((v++w)++T.flatten):=by refine List.Perm.cons _ ?_;erw[zck,(G.append_left v).trans<|by erw[zcM,perm_middle]]
 let nA:=pe.nodup_iff.mp<|zar.mpr #[λz=>j<|zam.mp z,H];let#[Wl,YD]:=zar.mp nA;let#[Wj,YC]:=zar.mp YD;let K:∀d,d∈(v++w)++T.flatten↔Dt (rem L a b) d:=λd=>by rw[cQ m h,<-i.mem,zbz,zcM,pe.mem_iff];constructor;ext z;exact#[zag _<|zag _ z,λy=>Wl<|zag _<|y▸z,λy=>Wj<|y▸z];ext⟨z,z1,X⟩;ext(z|z:zas.mp z);exact absurd z z1;ext(z|z:zas.mp z);exact absurd z X;exact z
 refine#[v,w,T,#[λs hs=>?_,by erw[zbz,YC],λd=>by erw[zbz,K d]],by rw[Qp,N.length_eq];rfl,v0,w0,k1,k2,λd f=>(K d).mp<|zaJ _ f];ext(z|z:zas.mp hs);rw[z];let k:=k1.append k2;cases v with
 | nil=>exact absurd rfl v0
 | cons p v=>have:=k1.hd;subst this;exact#[_,_,rfl,k]
 let Ze:=N.mem_iff.mpr<|zag _ z;let cy:=i.jq s<|zag _ Ze;let O:∀d∈s,d∈T.flatten:=λd f=>zaT.mpr #[s,z,f];let E:(a,b)∉s:=λy=>Wl<|zag _<|zaF _<|O _ y;let o:(b,a)∉s:=λy=>Wj<|zaF _<|O _ y;let#[p,r,rfl,k]:=id cy;refine#[p,r,rfl,k.congr λd f=>?_];let dd:=((cQ m h).mp<|(K d).mp<|zaF _<|O d f).1;let C:=cy.on f;let Y:nx L d≠(b,a):=λy=>o (by erw[<-y,C]);let o2:nx L d≠(a,b):=λy=>E (by erw[<-y,C]);rw[spec d dd (λy=>E<|y▸f)<|λy=>o<|y▸f,zab Y,zab o2]
noncomputable def iso(L:cp):Nat:=L.countP (·.isEmpty)
noncomputable def kX(L:cp)(S:b9):Prop:=∀x:Int,0<=x->x<L.z->∃s∈S,Reach L s x
theorem Reach.one(h:Reach L s d.1)(q:Dt L d):Reach L s d.2:=by let e:=zbE q.lo;exact .step (by erw[e,h]) (aD q.lo q.hi) q.mem
theorem Reach.trans(h:Reach L s x)(k:Reach L x y):Reach L s y:=by
 induction k with
 | here=>exact h
 | step _ e a b=>exact .step b e a
theorem Reach.oj{i:Nat}{x:Int}(e:L[i]?=some l)(b:x∈l):Dt L ((i:Int),x):=by let c:=(zac.mp e).1;let:=aD (L:=L) (a:=(i:Int)) () ();rw[zau,e]at this;exact#[by simp,by simpa using c,by erw[<-zaq this,b]]
theorem Reach.off(m:av L)(h:Dt L (a,b))(r:Reach L s x):Reach (rem L a b) s x\/Reach (rem L a b) a x\/Reach (rem L a b) b x:=by
 induction r with
 | here=>exact .inl .here
 | step r e j k=>
  rename_i i l y;let d:=Reach.oj e j;by_cases g:((i:Int),y)=(a,b);let:y=b:=zaA Prod.snd g;rw[this];exact .inr<|.inr .here;by_cases f:((i:Int),y)=(b,a);let:y=a:=zaA Prod.snd f;rw[this];exact .inr<|.inl .here;let c:=(cQ m h).mpr #[d,g,f];ext(z|z|z:k);exact .inl<|Reach.one z c;exact .inr<|.inl<|Reach.one z c;exact .inr<|.inr<|Reach.one z c
theorem Reach.near(m:av L)(h:Dt L (a,b))(r:Reach L s x):Reach (rem L a b) s x\/Reach (rem L a b) s a\/Reach (rem L a b) s b:=by
 induction r with
 | here=>exact .inl .here
 | step r e g j=>
  rename_i i l y;let d:=Reach.oj e g;ext(z|z:j);by_cases f:((i:Int),y)=(a,b);let:(i:Int)=a:=zaA Prod.fst f;rw[this]at z;exact .inr<|.inl z;by_cases c:((i:Int),y)=(b,a);let:(i:Int)=b:=zaA Prod.fst c;rw[this]at z;exact .inr<|.inr z;exact .inl<|Reach.one z<|(cQ m h).mpr #[d,f,c];exact .inr z
theorem Wk.reach(h:Wk (nx L) x l y)(q:∀d∈l,Dt L d):Reach L x.1 y.1:=by
 induction h with
 | nil _=>exact .here
 | @cons x y l _ b=>
  let d:=q x zal;exact(Reach.one .here d).trans<|b λd a=>q d<|zag _ a
theorem kX.more(m:av L)(h:Dt L (a,b))(s:kX L S):∃t,kX (rem L a b)<|t::S:=by
 let#[n,b1,b2,l]:=h.back m;let#[d,j,k]:=s a h.lo h.hi;let pick:Reach (rem L a b) d a\/Reach (rem L a b) d b:=by ext(z|z|z:k.near m h);exact .inl z;exact .inl z;exact .inr z
 ext(p|p:pick);refine#[b,λx e c=>?_];rw[fg]at c;let#[f,i,g]:=s x e c;ext(z|z|z:g.off m h);exact#[f,zag _ i,z];exact#[d,zag _ j,p.trans z];exact#[b,zal,z];refine#[a,λx e c=>?_];rw[fg]at c;let#[f,i,g]:=s x e c;ext(z|z|z:g.off m h);exact#[f,zag _ i,z];exact#[a,zal,z];exact#[d,zag _ j,p.trans z]
theorem kX.Pu(m:av L)(h:Dt L (a,b))(k:Reach (rem L a b) a b)(j:Reach (rem L a b) b a)(s:kX L S):kX (rem L a b) S:=by
 let#[c,e,f]:=s a h.lo h.hi;let pick:Reach (rem L a b) c a:=by ext(z|z|z:f.near m h);exact z;exact z;exact z.trans j
 ext x g d;rw[fg]at d;let#[i,l,q]:=s x g d;ext(z|z|z:q.off m h);exact#[i,l,z];exact#[c,e,pick.trans z];exact#[c,e,(pick.trans k).trans z]
theorem wO(m:av L)(h:Dt L (a,b)):iso (rem L a b)=iso L+(if(XS L b).erase a=[]then 1 else 0)+(if(XS L a).erase b=[]then 1 else 0):=by
 let#[j,b1,b2,d]:=h.back m;let e:=h.lo;let f:=h.hi;let c:=h.mem;dsimp only at e f j b1 b2 d c;let i:a.toNat<L.z:=();let lb:b.toNat<L.z:=();let o:L[a.toNat]=XS L a:=by let:=aD e f;rw[zaf i]at this;exact zaq this
 let n:L[b.toNat]=XS L b:=by let:=aD j b1;rw[zaf lb]at this;exact zaq this
 let s:(XS L a).isEmpty=false:=by cases q:XS L a with|nil=>rw[q]at c;cases c|cons _ _=>rfl
 let p:(XS L b).isEmpty=false:=by cases q:XS L b with|nil=>rw[q]at d;cases d|cons _ _=>rfl
 let g:∀l:b9,(if l.isEmpty=true then 1 else 0)=(if l=[]then 1 else 0):=λl=>by cases l<;>simp
 unfold iso rem;let r:¬a.toNat=b.toNat:=();let k:(L.set a.toNat<|(XS L a).erase b)[b.toNat]'(by erw[zbN,lb])=XS L b:=by rw[zeo,zab r,n]
 rw[countP_set (by erw[zbN,lb]),countP_set i,k,o,s,p,g,g];simp[zbC,zcQ,zeE];lia
theorem gU(m:av L)(h:Dt L (a,b)):(XS L b).erase a=[]↔nx L (a,b)=(b,a):=by
 let#[d,b1,b2,c]:=h.back m;dsimp only at d b1 b2 c;let n:=m.nd _ _<|aD d b1;constructor;ext z;let:XS L b=[a]:=by let#[u,v,e]:=zel c;rw[e]at z n ⊢;let f:a∉u:=λy=>(zbh.mp n).2.2 a y a zal rfl;rw[zdR _ f,zdq]at z;let#[i,g]:=List.append_eq_nil_iff.mp z;rw[i,g];rfl
 unfold nx;rw[this];refine zbA rfl ?_;unfold pre cy;simp[Nat.mod_one];ext z;let e:=zaA Prod.snd z;rw[nk n c e];simp
theorem Wk.all{f:ak->ak}{x y:ak}{P:ak->Prop}(h:Wk f x l y)(b:P x)(s:∀d∈l,P d->P (f d)):∀d∈l,P d:=by
 induction h with
 | nil _=>intro d a;cases a
 | @cons x y l _ c=>
  ext d a;ext(e|e:zas.mp a);rw[e];exact b;exact c (s x zal b) (λd a=>s d<|zag _ a) d e
theorem vV.conn{f:ak->ak}{x y:ak}{P:ak->Prop}(h:vV f c)(a:x∈c)(e:y∈c)(g:P x)(s:∀d∈c,P d->P (f d)):P y:=by let#[v,p,k]:=h.turn a;let k2:Wk f x (x::v) x:=.cons k;exact k2.all g (λd b=>s d<|p.mem_iff.mp b) y<|p.mem_iff.mpr e
theorem jd{R:List<|List ak}(n:R.flatten.Nodup){c e:List ak}{d:ak}(k:c∈R)(h:e∈R)(a:d∈c)(g:d∈e):c=e:=by let p:=(zcb.mp n).2;let#[i,b,rfl]:=zaH.mp k;let#[j,f,rfl]:=zaH.mp h;let q:=zbe.mp p;ext(z|z|z:zcF i j);exact absurd rfl<|q i j b f z d a d g;subst z;rfl;exact absurd rfl<|q j i f b z d g d a
noncomputable def N0(c:List ak):ak:=c.headD (0,0)
noncomputable def rep(R:List<|List ak)(d:ak):ak:=((R.find? λc=>decide<|d∈c).map N0).getD (0,0)
theorem Bl(h:d∈R.flatten):∃c∈R,d∈c/\rep R d=N0 c:=by
 let#[c,b,f]:=zaT.mp h;unfold rep;cases q:R.find? λc=>decide (d∈c)with
 | none=>have:=List.find?_eq_none.mp q c b;simp[f]at this
 | some e=>
  let a:=find?_some q;exact#[e,mem_of_find?_eq_some q,by simpa using a,rfl]
theorem sV(h:c≠[]):N0 c∈c:=by cases c with|nil=>exact absurd rfl h|cons a l=>exact zal
theorem Dec.le(h:Dec L R)(k:Dec L S):R.z<=S.z:=by
 let g:∀c∈R,N0 c∈S.flatten:=λc a=>(k.mem _).mpr<|(h.mem _).mp<|zaT.mpr #[c,a,sV (h.jq c a).ne];let n:(R.map λc=>rep S<|N0 c).Nodup:=by let p:=(zcb.mp h.nd).2;refine zbB _ (λx y w=>w)<|zcd (λ{c e} a j q z=>?_) p;let#[f,b,m,i]:=Bl<|g c a;let#[u,l,t,s]:=Bl<|g e j;rw[i,s]at z;let r:=jd k.nd b l (sV (k.jq f b).ne) (by erw[z,sV (k.jq u l).ne]);subst r;let:=(k.jq f b).conn m t (sV (h.jq c a).ne) λd _ v=>(h.jq c a).on v;exact q _ this _ (sV (h.jq e j).ne) rfl
 let:=dH n λx o=>by let#[c,a,rfl]:=zap.mp o;let#[f,b,m,i]:=Bl<|g c a;erw[i,zap.mpr #[f,b,rfl]]
 simpa using this
theorem Dec.count(h:Dec L R)(k:Dec L S):R.z=S.z:=Nat.le_antisymm (h.le k)<|k.le h
theorem Lq{L:cp}{r:b9}(g:Good L r):∀(n s:Nat),Wk (nx L) (dj r s) ((List.range n).map λj=>dj r<|j+s) (dj r<|s+n)
 | 0,s=>.nil _
 | n+1,s=>by
  let a:(List.range<|n+1).map (λj=>dj r<|j+s)=dj r s::(List.range n).map (λj=>dj r<|j+(s+1)):=by rw[zdZ,zbg,zdw,zbQ];congr 1;refine zbS λj _=>?_;show dj r (j+1+s)=_;congr 1;lia
  rw[a];refine .cons ?_;erw[g.st,show s+(n+1)=s+1+n by lia,Lq g n<|s+1]
theorem Good.jq(g:Good L r):vV (nx L)<|sh 0 r:=by
 let k:=Lq g r.z 0;let e:dj r (0+r.z)=dj r 0:=bU (by rw[zbQ,zeb,zeF]);rw[e]at k;let b:=g.two;let a:Wk (nx L) (dj r 0) (sh 0 r)<|dj r 0:=k;cases q:sh 0 r with
 | nil=>have:=cK 0 r;rw[q]at this;simp at this;lia
 | cons x l=>
  rw[q]at a;let:=a.hd;subst this;exact#[_,_,rfl,a]
theorem du{L:cp}:∀{k:Nat} {d:ak},k<=L.z->(d∈cI L k↔0<=d.1/\d.1<k/\d.1<d.2/\d.2<L.z/\d.2∈XS L d.1)
 | 0,d,_=>by simp[cI,zaR,false_iff];ext h;lia
 | k+1,d,hk=>by rw[cI,zdz,du (),mem_map];let i:L.getD k []=XS L (k:Int):=rfl;rw[i];constructor;rintro (⟨b,f,a⟩|⟨x,hx,rfl⟩);exact#[b,(),a];let:=kG.mp hx;exact#[by simp,by simp;lia,this.1,by let:=this.2.1;lia,this.2.2];ext⟨b,f,a,g,c⟩;by_cases e:d.1=k;right;rw[e]at c a;exact#[d.2,kG.mpr #[a,(),c],zbA e.symm rfl];left;exact#[b,(),a,g,c]
theorem mw{L:cp}:∀{k:Nat},k<=L.z->(cI L k).Nodup
 | 0,_=>.nil
 | k+1,hk=>by rw[cI,zdY];refine#[mw (),?_,λa d b c z=>?_];exact zbB _ (λx y e z=>by let:=zaA Prod.snd z;dsimp only at this;lia)<|ka<|L.z-(k+1);let:=((du ()).mp d).2.1;let#[x,_,rfl]:=zap.mp c;rw[z]at this;simp at this
theorem Ar:∀(l:List ak) (p:ak->Bool),l.z=(l.filter p).z+(l.filter λd=>!p d).z
 | [],_=>rfl
 | x::l,p=>by
  let:=Ar l p;cases q:p x with
  | true=>rw[zdS q,zdT (by simp[q]),zbd,zbd];lia
  | false=>rw[zdT (by simp[q]),zdS (by simp[q]),zbd,zbd];lia
theorem dA(m:av L):(eN L L.z).z=2*(cI L L.z).z:=by
 let n:=bJ m<|zai L.z;let h:=mw<|zai L.z;let s:=Ar (eN L L.z) (λd:ak=>decide<|d.1<d.2);let r:((eN L L.z).filter λd=>decide<|d.1<d.2).z=(cI L L.z).z:=by refine len_eq (n.filter _) h λd=>?_;rw[zeR,du<|zai _];constructor;ext⟨a,b⟩;let q:=Dt.of a;exact#[q.lo,q.hi,by simpa using b,(q.back m).2.1,q.mem];ext⟨a,b,i,o,f⟩;exact#[Dt.all #[a,b,f],by simpa using i]
 let l:((eN L L.z).filter λd=>!decide (d.1<d.2)).z=((cI L L.z).map λd=>(d.2,d.1)).z:=by
  let k:((cI L L.z).map λd=>(d.2,d.1)).Nodup:=zbB _ (λx y p z=>p<|zbA (zaA Prod.snd z)<|zaA Prod.fst z) h;refine len_eq (n.filter _) k λd=>?_;rw[zeR,mem_map];constructor;ext⟨a,b⟩;let q:=Dt.of a;let#[g,b1,b2,c]:=q.back m;refine#[(d.2,d.1),(du<|zai _).mpr #[g,b1,?_,q.hi,c],rfl];let:¬d.1<d.2:=by simpa using b
  lia;ext⟨e,j,rfl⟩;let#[a,b,i,o,f]:=(du<|zai _).mp j;let#[g,b1,b2,c]:=Dt.back #[a,b,f] m;refine#[Dt.all #[g,b1,c],?_];let:¬e.2<e.1:=();simpa using this
 rw[zaa]at l;lia
theorem Lo{L:cp}{d:ak}:∀k,Wk (nx L) d (tr L d k) (it L d k)
 | 0=>.nil _
 | k+1=>by
  let e:tr L d (k+1)=tr L d k++[it L d k]:=by unfold tr;rw[zcm,zaw];rfl
  erw[e,(Lo k).append<|.cons<|.nil _]
theorem Mw(b:0<k)(e:it L d k=d):vV (nx L)<|tr L d k:=by
 let w:=Lo (L:=L) (d:=d) k;rw[e]at w;obtain⟨j,rfl⟩:∃j,k=j+1:=#[k-1,()];let a:tr L d (j+1)=d::(tr L d<|j+1).tail:=by unfold tr;rw[zdZ];rfl
 exact#[d,_,a,w]
theorem BV(m:av L)(h:Dt L d):∃k,0<k/\it L d k=d/\kY L d k:=by
 let f:∀n,(∃k,0<k/\it L d k=d/\kY L d k)\/kY L d (n+1):=by
  ext n;induction n with
  | zero=>exact .inr λi a b=>()
  | succ n c=>
   ext(z|z:c);exact .inl z;by_cases e:it L d (n+1)=d;exact .inl #[n+1,(),e,z];refine .inr λi a b=>?_;by_cases q:i=n+1;rw[q];exact e;exact z i a ()
 ext(z|z:f (eN L L.z).z);exact z;let:=sA m h z;lia
structure Dp(L:cp)(R:List<|List ak):Prop where
 jq:∀c∈R,vV (nx L) c
 nd:R.flatten.Nodup
 dt:∀d∈R.flatten,Dt L d
theorem Dp.start:Dp L []:=#[by simp,.nil,by simp]
theorem Dp.on(p:Dp L R)(h:d∈R.flatten):∀t,it L d t∈R.flatten
 | 0=>h
 | t+1=>by let#[c,a,b]:=zaT.mp<|p.on h t;exact zaT.mpr #[c,a,(p.jq c a).on b]
theorem Dp.new(p:Dp L R)(a:0<k)(e:it L d k=d)(n:d∉R.flatten)(j:Nat):it L d j∉R.flatten:=by ext h;refine n ?_;let:=p.on h<|k*j-j;rw[<-sS,show j+(k*j-j)=k*j from by let:=zbY j a;lia,zcK]at this;let z:=BG e<|j*k;rw[Nat.mul_mod_left]at z;rwa[<-z]at this
theorem Dp.add(m:av L)(p:Dp L R)(h:Dt L d)(b:0<k)(e:it L d k=d)(g:kY L d k)(n:d∉R.flatten):Dp L<|R++[tr L d k]:=by refine#[λc f=>?_,?_,λx a=>?_];ext(z|z:zam.mp f);exact p.jq c z;rw[zaj.mp z];exact Mw b e;rw[zco,zcY,zdY];refine#[p.nd,qY m h g,λx a y i z=>?_];let#[j,_,rfl]:=zap.mp i;exact p.new b e n j<|z▸a;rw[zco,zcY]at a;ext(z|z:zam.mp a);exact p.dt x z;let#[j,_,rfl]:=zap.mp z;exact sR m h j
theorem Dp.dec(p:Dp L R)(all:∀d,Dt L d->d∈R.flatten):Dec L R:=#[p.jq,p.nd,λd=>#[p.dt d,all d]]
end Gm
namespace L2
open PySem PySem.Spec PySem.W PySem.Calls PyProof.Rows
theorem vI:∀{l:b9} {y:Int},y∈l->l.erase y=l.eraseIdx (l.idxOf y)
 | [],_,h=>by cases h
 | z::l,y,h=>by by_cases e:z=y;subst e;rw[zdq,zdk];simp;let a:=zdp e;rw[erase_cons_tail (by simpa using e),zdk,a,vI<|(zas.mp h).resolve_left<|λw=>e w.symm];simp
theorem sE:∀(l:b9) (k:Nat),(l.eraseIdx k).c=(l.c).eraseIdx k
 | [],_=>rfl
 | _::_,0=>rfl
 | x::l,k+1=>by rw[eraseIdx_cons_succ,zbg,zbg,eraseIdx_cons_succ,sE l k]
noncomputable def B4(ns:b9):b9:=ns.foldl step_dedup []
theorem BS(ns:b9):firstMet (λi=>ns.getD i 0) ns.z=B4 ns:=by unfold firstMet B4;rw[show((List.range ns.z).map λi=>ns.getD i 0)=ns from Gm.range_getD ns]
theorem DT:∀(ns a:b9),a.Nodup->((ns.foldl step_dedup a).z=a.z+ns.z↔(a++ns).Nodup)
 | [],a,h=>by simp[h]
 | x::ns,a,h=>by
  rw[foldl_cons];by_cases e:x∈a;let b:step_dedup a x=a:=by unfold step_dedup;rw[zad<|by simpa using e]
  rw[b];constructor;ext z;let:=foldl_step_dedup_length_le a ns;rw[zbd]at z;lia;ext z;exact absurd rfl<|(zbh.mp z).2.2 x e x zal;let b:step_dedup a x=a++[x]:=by unfold step_dedup;rw[zab<|by simpa using e]
  rw[b];let n1:=(zcV x a).nodup_iff.mpr<|zar.mpr #[e,h];let:=DT ns (a++[x]) n1;rw[zay,zbl,zck,singleton_append]at this;rw[<-this,zbd];lia
theorem AA(ns:b9):(B4 ns).z=ns.z↔ns.Nodup:=by let:=DT ns [] .nil;rwa[zdQ,zbQ,zeM]at this
noncomputable def PX(K:Frag):List V->Hp->VK->Prop:=λvs H Q=>∃(a:Addr) (ns:b9),vs=[.ref a]/\aK K H a ns.c/\ns.z<=1000/\∀(p:Addr) (S:Int->Bool),H p=none->Q (.ref p) (upd H p<|.set S (B4 ns).z)
theorem E3(j:X.calm=true):fJ X (.type "set")<|PX X.K:=by
 ext pins s z H xs y Q I r h;let#[a,ns,rfl,g,k,q]:=h;let#[u,rfl,n]:=vals1 r;cases n;let#[t,m,i,v]:=I.list g;let d:=intsAre_of m;let c:=d.z;refine call_set_list (I.ok.hd j) i.isList (by simpa using d) (by erw[zaM,c,zbj (Nat.succ_le_succ k) B!]) λh' x f p=>?_;let l:t.toArray.size=ns.z:=by erw[zaM,c]
 rw[l,BS]at f;exact#[.ref s.y,_,I.laid (λb o e=>p b o (zan e) e) (zai _)<|show bM X.prog X.w _ h' s.y (.set _ (B4 ns).z)from f,rfl,q _ _<|I.bW.fresh<|zai _]
theorem E5:fJ X (.builtin "len") (λxs H Q=>∃a S n,xs=[V.ref a]/\H a=some (.set S n)/\Q (.int (n:Nat)) H):=by ext pins s m H xs l Q I r h;let#[a,S,n,rfl,f,q]:=h;let#[u,rfl,i]:=vals1 r;cases i;let#[o,d,t,v,e,b,j,_,_,c,k,g]:=(show s.heap.SetOf (intKind X.prog X.w) a S n from I.bW a _ f);let p:d.size<4096:=c;refine call_len_set e b j k () #[.int (n:Nat),H,I.tok _,#[_,by rw[g]],q]
noncomputable def JV:V->List V->Hp->VK->Prop:=λx vs H Q=>∃(l:Addr) (ns:b9) (y:Int),x=.ref l/\vs=[.int y]/\H l=some (.lst ns.c)/\y∈ns/\Q .gW (upd H l<|.lst<|(ns.erase y).c)
theorem vv:RJ X "list.remove" JV:=by
 ext pins s L H x vs v G Q I E D h;let#[l,ns,y,rfl,rfl,j,g,q]:=h;cases E;let#[u,rfl,t,rfl]:=D.one;let#[z,a,n,r,K,e]:=I.uw j;let o:IntsAre a ns:=intsAre_of r;let M:=o.z;let p:ns.idxOf y<ns.z:=zbH g;rw[zaa]at z;let b:∀m (d:m<ns.z),∃t,a[m]?=some (.int ns[m] t):=λm d=>qI o d;refine zdh F.slot_list_remove #[_,e,rfl] F.entry_list_remove (F.args_list_remove_2 _ _) (MeetsSeq.list_remove l a.toArray n (.int y t) (λv=>match v with | .int i _=>i==y|_=>false) (λw B=>?_) (ns.idxOf y) (by rw[zaM];lia) ?_ ?_<|by rw[zaM];lia) #[e,?_];let A:w∈a:=by simpa using B
 let#[m,d,rfl]:=zaH.mp A;let#[f,c]:=b m ();rw[(zac.mp c).2];exact MeetsSeq.EqGives.int _ _ _ _;let#[f,c]:=b _ p;let:a.toArray[ns.idxOf y]'(by rw[zaM];lia)=.int ns[ns.idxOf y] f:=by let:=(zac.mp c).2;simpa using this
 rw[this];show(ns[ns.idxOf y]==y)=true;rw[zdr p];simp;ext m d C;let#[f,c]:=b m ();let:a.toArray[m]=.int (ns[m]'()) f:=by let:=(zac.mp c).2;simpa using this
 rw[this];exact zdp<|oY ns y m () C;let k:(ns.erase y).c=((ns.c).eraseIdx<|ns.idxOf y):=by rw[vI g,sE]
 refine#[.gW,_,I.Ko (its':=a.eraseIdx<|ns.idxOf y) j e ?_ ?_ ?_,rfl,q];rw[eraseIdxIfInBounds_toArray];rw[k];exact r.eraseIdx _;rw[k,length_eraseIdx];split<;>(try rw[zaa])<;>lia
end L2
namespace Gm
open PySem L2
theorem tx(m:av L):∃R,Dec L R:=by
 let f:∀b:List ak,(∀d∈b,Dt L d)->∃R,Dp L R/\∀d∈b,d∈R.flatten:=by
  ext b;induction b with
  | nil=>intro _;exact#[[],Dp.start,by simp]
  | cons d b j=>
   ext h;let#[R,p,q]:=j λx a=>h x<|zag _ a;by_cases e:d∈R.flatten;refine#[R,p,λx a=>?_];ext(z|z:zas.mp a);rw[z];exact e;exact q x z;let dt:=h d zal;let#[k,k0,i,g]:=BV m dt;refine#[_,p.add m dt k0 i g e,λx a=>?_];rw[zco,zcY];ext(z|z:zas.mp a);rw[z];exact zaF _<|zap.mpr #[0,zaU.mpr k0,rfl];exact zaJ _<|q x z
 let#[R,p,q]:=f (eN L L.z) λd c=>Dt.of c;exact#[R,p.dec λd c=>q d c.all]
theorem Wk.last(h:Wk f x l y)(n:l≠[]):∃d∈l,f d=y:=by
 induction h with
 | nil _=>exact absurd rfl n
 | @cons x y l k a=>
  cases l with
  | nil=>exact#[x,zal,k.nil_eq]
  | cons p l=>
   let#[d,b,e]:=a A?;exact#[d,zag _ b,e]
theorem La(c:av M)(h:Dt M (a,b))(x:nx M (z1,a)=(a,b))(w:nx M (z2,b)=(b,a))(L:Dt (rem M a b) (z1,a))(H:Dt (rem M a b) (z2,b))(D:Dec (rem M a b) R)(D':Dec M R')(conn:∀P:ak->Prop,P (z1,a)->(∀d,Dt (rem M a b) d->P d->P (nx (rem M a b) d))->P (z2,b)):R'.z=R.z+1/\iso M=iso (rem M a b):=by
 let#[U,b1,b2,K]:=h.back c;let n:Dt M (b,a):=#[U,b1,K];let g:=(cQ c h).mp L;let i:=(cQ c h).mp H;let v:nx M (a,b)≠(b,a):=λz=>i.2.1 (fF c h i.1<|z.trans w.symm).symm;let s:nx M (b,a)≠(a,b):=λz=>g.2.2 (fF c n g.1<|z.trans x.symm).symm;let E:¬(XS M b).erase a=[]:=λz=>v<|(gU c h).mp z;let N:¬(XS M a).erase b=[]:=λz=>s<|(gU c n).mp z;let t:=wO c h;rw[zab E,zab N]at t;refine#[?_,t.symm];ext(⟨A,B,S,e,y,l,j⟩|⟨A,B,S,e,y,_⟩:wQ c h D');exfalso;let o:A≠[]:=λz=>by rw[z]at l;exact v l.nil_eq
 let r:B≠[]:=λz=>by rw[z]at j;exact s j.nil_eq
 rw[zab o,zab r]at e;let C:∀d∈A,Dt M d:=λd f=>((cQ c h).mp<|(e.mem d).mp<|zaT.mpr #[A,by simp,f]).1;let I:∀d∈B,Dt M d:=λd f=>((cQ c h).mp<|(e.mem d).mp<|zaT.mpr #[B,by simp,f]).1;let#[p,k,F]:=l.last o;let#[q,m,Q]:=j.last r;let O:=fF c (C p k) i.1<|F.trans w.symm;let T:=fF c (I q m) g.1<|Q.trans x.symm;rw[O]at k;rw[T]at m;let G:=e.jq B A?;let:=conn (λd=>d∈B) m λd _ f=>G.on f;let u:=e.nd;rw[zco,zco,zcY,zcY,zck]at u;exact(zbh.mp u).2.2 _ k _ (zaJ _ this) rfl;let:=D.count e;rw[zbd]at this;lia
theorem Hw(c:av M)(h:Dt M (a,b))(f:nx M (a,b)=(b,a))(v:nx M (z1,a)=(a,b))(s:Dt (rem M a b) (z1,a))(D:Dec (rem M a b) R)(D':Dec M R'):R'.z=R.z/\iso (rem M a b)=iso M+1:=by
 let#[u,b1,b2,r]:=h.back c;let k:Dt M (b,a):=#[u,b1,r];let n:=(cQ c h).mp s;let l:nx M (b,a)≠(a,b):=λz=>n.2.2 (fF c k n.1<|z.trans v.symm).symm;let t:¬(XS M a).erase b=[]:=λz=>l<|(gU c k).mp z;let o:=wO c h;rw[zad<|(gU c h).mpr f,zab t]at o;refine#[?_,o];ext(⟨A,B,S,d,q,i,j⟩|⟨A,B,S,d,q,e,m,i,j,dd⟩:wQ c h D');let e:A=[]:=by
  cases A with
  | nil=>rfl
  | cons p A=>
   let g:=i.hd;let dt:=(d.mem p).mp<|zaT.mpr #[p::A,by simp,zal];rw[g,f]at dt;exact absurd rfl ((cQ c h).mp dt).2.2
 let m:B≠[]:=λz=>by rw[z]at j;exact l j.nil_eq
 rw[zad e,zab m]at d;let:=D.count d;rw[zeM,singleton_append,zbd]at this;lia;cases A with
 | nil=>exact absurd rfl e
 | cons p A=>
  let g:=i.hd;let dt:=dd p A?;rw[g,f]at dt;exact absurd rfl ((cQ c h).mp dt).2.2
structure bS(L:cp):Prop where
 map:av L
 two:2<=L.z
 span:kX L [0]
 Jk:∃R,Dec L R/\(L.z:Int)+R.z+iso L=(cI L L.z).z+2
theorem Reach.mono(h:∀d,Dt L d->Dt M d)(r:Reach L s x):Reach M s x:=by
 induction r with
 | here=>exact .here
 | step r e a b=>
  rename_i i l y;exact Reach.one b<|h _<|Reach.oj e a
noncomputable def both(L:cp)(a b:Int)(A B:b9):cp:=(L.set a.toNat A).set b.toNat B
structure bZ(L:cp)(a b:Int)(A B:b9):Prop where
 map:av L
 a0:0<=a
 a1:a<L.z
 b0:0<=b
 b1:b<L.z
 ne:a≠b
 no:b∉XS L a
 pa:A.Perm (b::XS L a)
 pb:B.Perm (a::XS L b)
 ea:A.erase b=XS L a
 eb:B.erase a=XS L b
theorem bZ.OP(F:bZ L a b A B):a∉XS L b:=λz=>F.no (Dt.back (d:=(b,a)) #[F.b0,F.b1,z] F.map).2.2.2
theorem eM:(both L a b A B).z=L.z:=by unfold both;simp
theorem bZ.row(F:bZ L a b A B)(d:0<=x):XS (both L a b A B) x=if x=b then B else if x=a then A else XS L x:=by let:=F.a0;let:=F.a1;let:=F.b0;let:=F.b1;let:=F.ne;show(both L a b A B).getD x.toNat []=_;unfold both;rw[zak,zcv];by_cases e:x=b;subst e;rw[zad rfl,zad rfl,zad<|by rw[zbN];lia];rfl;rw[zab (),zab e,zcv];by_cases c:x=a;subst c;rw[zad rfl,zad rfl,zad ()];rfl;rw[zab (),zab c,<-zak];rfl
theorem bZ.mem(F:bZ L a b A B)(d:0<=x):y∈XS (both L a b A B) x↔y∈XS L x\/(x=a/\y=b)\/(x=b/\y=a):=by rw[F.row d];by_cases e:x=b;subst e;rw[zad rfl,F.pb.mem_iff,zbm];constructor;rintro (z|z);exact .inr<|.inr #[rfl,z];exact .inl z;rintro (z|z|z);exact .inr z;exact absurd z.1.symm F.ne;exact .inl z.2;rw[zab e];by_cases c:x=a;subst c;rw[zad rfl,F.pa.mem_iff,zbm];constructor;rintro (z|z);exact .inr<|.inl #[rfl,z];exact .inl z;rintro (z|z|z);exact .inr z;exact .inl z.2;exact absurd z.1 e;erw[zab c,#[.inl,λz=>z.elim id λz=>z.elim (λw=>absurd w.1 c) λw=>absurd w.1 e]]
theorem bZ.ir(F:bZ L a b A B):av<|both L a b A B:=by let:=F.a0;let:=F.a1;let:=F.b0;let:=F.b1;let g:=F.ne;refine kP λx c f=>?_;rw[eM]at f ⊢;let n:=F.map.nd _ _<|aD c f;refine#[?_,λy l=>?_];rw[F.row c];split;rename_i e;subst e;exact F.pb.nodup_iff.mpr<|zar.mpr #[F.OP,n];split;rename_i e;subst e;exact F.pa.nodup_iff.mpr<|zar.mpr #[F.no,n];exact n;ext(z|⟨z,w⟩|⟨z,w⟩:(F.mem c).mp l);let#[h,i,j,k]:=Dt.back (d:=(x,y)) #[c,f,z] F.map;exact#[h,i,j,(F.mem h).mpr<|.inl k];subst z w;exact#[F.b0,F.b1,g.symm,(F.mem F.b0).mpr<|.inr<|.inr #[rfl,rfl]];subst z w;exact#[F.a0,F.a1,g,(F.mem F.a0).mpr<|.inr<|.inl #[rfl,rfl]]
theorem bZ.dt(F:bZ L a b A B):Dt (both L a b A B) (a,b):=#[F.a0,by erw[eM,F.a1],(F.mem F.a0).mpr<|.inr<|.inl #[rfl,rfl]]
theorem bZ.rem(F:bZ L a b A B):rem (both L a b A B) a b=L:=by
 let d:=F.a0;let g:=F.a1;let f:=F.b0;let b1:=F.b1;let h:=F.ne;unfold Gm.rem;rw[F.row d,F.row f,zab h,zad rfl,zad rfl,F.ea,F.eb];unfold both;apply zeC;ext i;rw[zcv];by_cases e:b.toNat=i;rw[zad e];let:i<L.z:=();rw[zad (by simp;lia),<-e,aD f b1];rw[zab e,zcv];by_cases c:a.toNat=i;rw[zad c,zad (by simp;lia),<-c,aD d g];rw[zab c,zcv,zab e,zcv,zab c]
theorem bZ.sub(F:bZ L a b A B)(d:ak)(h:Dt L d):Dt (both L a b A B) d:=#[h.lo,by erw[eM,h.hi],(F.mem h.lo).mpr<|.inl h.mem]
theorem bZ.U6(F:bZ L a b A B):(cI (both L a b A B) L.z).z=(cI L L.z).z+1:=by let c:=(m7 F.ir F.dt).2;rw[F.rem]at c;let d:=dA F.ir;let e:=dA F.map;rw[eM]at c d;lia
theorem bZ.cq(F:bZ L a b A B)(s:bS L)(f:z1∈XS L a)(o:z2∈XS L b)(m:pre A z1=b)(q:pre B z2=a)(conn:∀P:ak->Prop,P (z1,a)->(∀d,Dt L d->P d->P (nx L d))->P (z2,b)):bS<|both L a b A B:=by
 let#[n,i,w,j]:=Dt.back (d:=(a,z1)) #[F.a0,F.a1,f] F.map;let#[l,h,y,k]:=Dt.back (d:=(b,z2)) #[F.b0,F.b1,o] F.map;let#[R,D,ch]:=s.Jk;let#[v,D']:=tx F.ir;let n1:nx (both L a b A B) (z1,a)=(a,b):=by unfold nx;rw[F.row F.a0,zab F.ne,zad rfl,m]
 let n2:nx (both L a b A B) (z2,b)=(b,a):=by unfold nx;rw[F.row F.b0,zad rfl,q]
 let#[p,c]:=La F.ir F.dt n1 n2 (by erw[F.rem,#[n,i,j]]) (by erw[F.rem,#[l,h,k]]) (by erw[F.rem,D]) D' (by erw[F.rem,conn]);rw[F.rem]at c;refine#[F.ir,by erw[eM,s.two],λx g e=>?_,v,D',?_];rw[eM]at e;let#[t,u,r]:=s.span x g e;exact#[t,u,r.mono F.sub];rw[eM,F.U6,p,c];lia
theorem gV:∀{l:b9} {k:Nat} {x:Int},x∉l->(put l k x).erase x=l:=λ{l k x} h=>by unfold put;rw[zdR _<|λz=>h<|zcI z,zdq,zcN]
theorem CZ:∀{l:b9} {p z x:Int},z∈l->x≠z->gc p (put l (l.idxOf z) x) z=x
 | [],_,_,_,h,_=>by cases h
 | h::t,p,z,x,hz,hx=>by
  rw[zdk];by_cases e:h=z;subst e;let:(h==h)=true:=by simp
  rw[this];show(if x=h then p else if h=h then x else gc h t h)=x;rw[zab hx,zad rfl];let a:=zdp e;rw[a];show(if h=z then p else gc h (put t (t.idxOf z) x) z)=x;erw[zab e,CZ ((zas.mp hz).resolve_left<|λw=>e w.symm) hx]
theorem gL(hz:z∈l)(hx:x∉l):pre (put l (l.idxOf z) x) z=x:=by erw[nv<|jE.mpr<|.inr hz,CZ hz<|λw=>hx<|w▸hz]
theorem Be{x:Int}(h:x∉l):(l++[x]).erase x=l:=by rw[zdR _ h,zdq,zcP]
theorem GO:pre ((y::l)++[x]) y=x:=by rw[nv A?,jG (y::l) A?];show(if y=y then lst [x]else _)=x;rw[zad rfl];rfl
theorem Reach.inv(r:Reach L s x):x=s\/∃(j:Nat) (l:b9),L[j]?=some l/\x∈l:=by
 cases r with
 | here=>exact .inl rfl
 | step r e a=>exact .inr #[_,_,e,a]
theorem bS.NC(s:bS L):iso L=0:=by
 unfold iso;refine zeA.mpr λl h=>?_;let#[i,f,rfl]:=zaH.mp h;let c:=zaf f;ext z;let d:L[i]=[]:=by simpa using z
 let k:=s.two;by_cases m:i=0;subst m;let#[t,b,r]:=s.span 1 () ();let:=zaj.mp b;subst this;let g:∀x,Reach L 0 x->x=0:=λx r=>by
  induction r with
  | here=>rfl
  | step r e a n=>
   rename_i j l y;let:j=0:=();subst this;rw[c]at e;cases e;rw[d]at a;cases a
 exact absurd (g 1 r) ();let#[t,b,r]:=s.span i () ();let:=zaj.mp b;subst this;ext(w|⟨j,l,e,a⟩:r.inv);lia;let:=s.map.sy _ _ e _ a i rfl _ c;rw[d]at this;cases this
theorem bS.three(s:bS L)(W:3<=L.z)(D:Dec L R)(p:c∈R):3<=c.z:=by
 let dt:∀d∈c,Dt L d:=λd G=>(D.mem d).mp<|zaT.mpr #[c,p,G];let#[x,l,e,k]:=D.jq c p;subst e;let a:=dt x zal;let#[P,b1,b2,K]:=a.back s.map;let k1:=k.tl;cases l with
 | nil=>exact absurd (zaA Prod.fst k1.nil_eq) b2
 | cons y l=>
  cases l with
  | cons w l=>simp
  | nil=>
   exfalso;let j:=k1.hd;let ex:=k1.tl.nil_eq;rw[<-j]at ex;let A:y.1=x.2:=by rw[j];rfl
   let o:y.2=x.1:=zaA Prod.fst ex;let E:pre (XS L x.2) x.1=x.1:=by
    let:y.2=pre (XS L x.2) x.1:=by rw[j];rfl
    rw[<-this,o]
   let F:pre (XS L x.1) x.2=x.2:=(by let:pre (XS L y.2) y.1=x.2:=zaA Prod.snd ex;rwa [A,o]at this);let n:=nk (s.map.nd _ _<|aD P b1) K E;let m:=nk (s.map.nd _ _<|aD a.lo a.hi) a.mem F;let g:∀u,Reach L 0 u->((u=x.1\/u=x.2)↔((0:Int)=x.1\/(0:Int)=x.2)):=λu r=>by
    induction r with
    | here=>exact Iff.rfl
    | step r e C N=>
     rename_i i l v;refine Iff.trans ?_ N;let d:=Reach.oj e C;let#[M,q,I,b]:=d.back s.map;let f:=d.mem;dsimp only at M q I b f;constructor;rintro (z|z);rw[z,m]at b;exact .inr<|zaj.mp b;rw[z,n]at b;exact .inl<|zaj.mp b;rintro (z|z);rw[z,m]at f;exact .inr<|zaj.mp f;rw[z,n]at f;exact .inl<|zaj.mp f
   let reach:∀u:Int,0<=u->u<L.z->Reach L 0 u:=λu O H=>by let#[t,B,r]:=s.span u O H;rwa[zaj.mp B]at r
   let h:=(g x.1<|reach x.1 a.lo a.hi).mp<|.inl rfl;let U:=a.lo;let T:=(g 0<|reach 0 () ()).mpr h;let Q:=(g 1<|reach 1 () ()).mpr h;let S:=(g 2<|reach 2 () ()).mpr h;lia
theorem tq:∀{R:List<|List ak},(∀c∈R,3<=c.z)->3*R.z<=R.flatten.z
 | [],_=>zai _
 | c::R,h=>by let:=tq λx a=>h x<|zag _ a;let:=h c zal;rw[zbz,zay,zbd];lia
theorem Dec.len(m:av L)(D:Dec L R):R.flatten.z=(eN L L.z).z:=
 len_eq D.nd (bJ m<|zai _) λd=>(D.mem d).trans #[λh=>h.all,λh=>Dt.of h]
noncomputable def iT(L:cp):cp:=L++[[]]
theorem gA(a:0<=x):XS (iT L) x=if x<L.z then XS L x else []:=by
 unfold XS iT;rw[zak,zak];by_cases h:x<L.z;rw[zad h,zaO ()];rw[zab h,zaL ()];cases q:([[]]:cp)[x.toNat-L.z]? with
 | none=>rfl
 | some l=>
  let:=zah q;rw[zaj.mp this];rfl
theorem jI:Dt (iT L) d↔Dt L d:=by constructor;ext h;let m:=h.mem;rw[gA h.lo]at m;by_cases z:d.1<L.z;rw[zad z]at m;exact#[h.lo,z,m];rw[zab z]at m;cases m;ext h;refine#[h.lo,by unfold iT;let:=h.hi;simp;lia,?_];erw[gA h.lo,zad h.hi,h.mem]
theorem nJ:(iT L).z=L.z+1:=by unfold iT;simp
theorem zV(m:av L):av<|iT L:=by refine kP λx a h=>?_;rw[gA a];by_cases z:x<L.z;rw[zad z];refine#[m.nd _ _<|aD a z,λy c=>?_];let#[b,e,f,g]:=Dt.back (d:=(x,y)) #[a,z,c] m;dsimp only at b e f g;rw[gA b,zad e,nJ];exact#[b,(),f,g];erw[zab z,#[.nil,λy c=>by cases c]]
theorem xB(m:av L)(h:Dt L d):nx (iT L) d=nx L d:=by let#[a,b1,b2,b]:=h.back m;unfold nx;rw[gA a,zad b1]
theorem Hq(m:av L)(D:Dec L R):Dec (iT L) R:=by refine#[λc a=>?_,D.nd,λd=>(D.mem d).trans jI.symm];let#[x,l,e,k]:=D.jq c a;exact#[x,l,e,k.congr λd b=>xB m<|(D.mem d).mp<|zaT.mpr #[c,a,b]]
theorem Hn:iso (iT L)=iso L+1:=by unfold iso iT;rw[countP_append];rfl
theorem Ho(m:av L):(eN (iT L) (iT L).z).z=(eN L L.z).z:=
 len_eq (bJ (zV m)<|zai _) (bJ m<|zai _) λd=>#[λh=>(jI.mp<|Dt.of h).all,λh=>(jI.mpr<|Dt.of h).all]
structure Pl(L:cp)(r:b9)(c1 cj:Nat)(dn:List Nat)(M:cp):Prop where
 sh:bS M
 len:M.z=L.z+1
 new:XS M (L.z:Int)=dn.map (cy r)
 hd:∃rest,dn=c1::rest
 keep:∀x:Int,0<=x->x<L.z->(∀c∈dn,cy r c≠x)->XS M x=XS L x
 sub:∀d,Dt L d->Dt M d
 le:c1<=cj
 top:cj<r.z
 i1:∀i,cj<=i->i+1<c1+r.z->nx M (dj r i)=dj r (i+1)
 i2:nx M (dj r<|c1+(r.z-1))=(cy r c1,(L.z:Int))
 i3:nx M (cy r c1,(L.z:Int))=((L.z:Int),cy r cj)
 i4:nx M ((L.z:Int),cy r cj)=dj r cj
theorem kS(n:(sh 0 r).Nodup)(h:i<j)(p:j<i+r.z):dj r i≠dj r j:=by
 ext z;let g:0<r.z:=();let o:dj r (i%r.z)=dj r i:=bU<|zbT _ _;let m:dj r (j%r.z)=dj r j:=bU<|zbT _ _;let f:=zbr i g;let l:=zbr j g;let d:∀k (e:k<r.z),(sh 0 r)[k]'(by erw[cK,e])=dj r k:=λk e=>by let:=rG (s:=0) e;rw[zaf<|by erw[cK,e]]at this;exact zaq this
 let q:i%r.z=j%r.z:=by refine(zcq (h₀:=by erw[cK,f]) (h₁:=by erw[cK,l]) n).mp ?_;rw[d _ f,d _ l,o,m,z]
 let:=zet i r.z;let:=zet j r.z;let a:r.z*(i / r.z)<r.z*(j / r.z):=();let b:i / r.z+1<=j / r.z:=Nat.lt_of_mul_lt_mul_left a;let c:=zdE r.z b;rw[Nat.mul_add,Nat.mul_one]at c;lia
theorem dU(g:Good L r)(m:av L):cy r (c+(r.z-1))∈XS L (cy r c)/\0<=cy r c/\cy r c<L.z/\dj r (c+(r.z-1))=(cy r<|c+(r.z-1),cy r c):=by
 let f:=g.two;let e:cy r (c+(r.z-1)+1)=cy r c:=bP (by rw[show c+(r.z-1)+1=c+r.z by lia,zaz]);let d:=g.dt<|c+(r.z-1);let b:=d.back m;let a:dj r (c+(r.z-1))=(cy r<|c+(r.z-1),cy r c):=by unfold dj;rw[e]
 rw[a]at b;exact#[b.2.2.2,b.1,b.2.1,a]
theorem mC{x:Int}(m:av L)(a:0<=x)(b:x<L.z):(L.z:Int)∉XS L x:=λz=>by let:=m.rg _ _ (aD a b) _ z;lia
theorem Pl.first(s:bS L)(g:Good L r)(nd:(Gm.sh 0 r).Nodup)(hc:c<r.z) :
  bZ (iT L) (cy r c) (L.z:Int) (put (XS L<|cy r c) ((XS L<|cy r c).idxOf<|cy r<|c+(r.z-1)) L.z) [cy r c]/\
  Pl L r c c [c] (both (iT L) (cy r c) (L.z:Int) (put (XS L<|cy r c) ((XS L<|cy r c).idxOf<|cy r<|c+(r.z-1)) L.z) [cy r c]):=by
 let ac:=g.two;let#[u,f,l,H]:=dU g s.map;generalize o:cy r c=x at u f l H ⊢;generalize hz:cy r (c+(r.z-1))=z at u H ⊢;let I:=mC s.map f l;let C:XS (iT L) x=XS L x:=by rw[gA f,zad l]
 let Q:XS (iT L) (L.z:Int)=[]:=by rw[gA (),zab ()]
 let F:bZ (iT L) x (L.z:Int) (put (XS L x) ((XS L x).idxOf z) L.z) [x]:=
  #[zV s.map,f,by rw[nJ];lia,(),by rw[nJ];lia,(),by erw[C,I],by erw[C,i6 _ _ _],by rw[Q],by erw[C,gV I],by rw[Q];simp]
 refine#[F,?_];generalize m:both (iT L) x (L.z:Int) (put (XS L x) ((XS L x).idxOf z) L.z) [x]=M at F ⊢;let a:=m▸F.ir;let k:=m▸F.dt;let b:=m▸F.rem;let A:∀{y:Int},0<=y->XS M y=if y=(L.z:Int)then [x]else if y=x then put (XS L x) ((XS L x).idxOf z) L.z else XS (iT L) y:=λh=>m▸F.row h;let K:M.z=L.z+1:=by rw[<-m,eM,nJ]
 let P:x≠(L.z:Int):=();let sub:∀d,Dt L d->Dt M d:=λd j=>m▸F.sub d (jI.mpr j);let B:nx M (z,x)=(x,(L.z:Int)):=by unfold nx;rw[A f,zab P,zad rfl,gL u I]
 let N:nx M (x,(L.z:Int))=((L.z:Int),x):=by unfold nx;rw[A (),zad rfl];refine zbA rfl ?_;unfold pre cy;simp[Nat.mod_one]
 let v:Dt L (z,x):=by let#[c0,W,c2,X]:=Dt.back (d:=(x,z)) #[f,l,u] s.map;exact#[c0,W,X]
 let Y:∀d,Dt L d->d≠(z,x)->nx M d=nx L d:=λd j uC=>by
  let n:=oK a k (by erw[b,jI.mpr j]);rw[b,xB s.map j]at n;let S:=sub d j;let n1:nx M d≠((L.z:Int),x):=λw=>by let:=fF a S k<|w.trans N.symm;rw[this]at j;exact mC s.map f l j.mem
  let n2:nx M d≠(x,(L.z:Int)):=λw=>uC<|fF a S (sub _ v)<|w.trans B.symm;rw[zab n1,zab n2]at n;exact n.symm
 let Tn:nx M ((L.z:Int),x)=nx L (z,x):=by let n:=oK a k (by erw[b,jI.mpr v]);rw[b,xB s.map v,B,zab<|λw=>P<|zaA Prod.fst w,zad rfl]at n;exact n.symm
 let#[R,D,ch]:=s.Jk;let#[R',D']:=tx a;let#[l1,Z]:=Hw a k N B (by erw[b,jI.mpr v]) (by erw[b,Hq s.map D]) D';rw[b,Hn]at Z;let T:(cI M M.z).z=(cI L L.z).z+1:=by let h1:=(m7 a k).2;rw[b,Ho s.map]at h1;let h2:=dA a;let h3:=dA s.map;lia
 let U:bS M:=by
  refine#[a,by let:=s.two;lia,λy p E=>?_,R',D',?_];by_cases e:y<L.z;let#[t,O,q]:=s.span y p e;exact#[t,O,q.mono sub];let ey:y=(L.z:Int):=by rw[K]at E;lia
  let#[t,O,q]:=s.span x f l;rw[ey];exact#[t,O,Reach.one (q.mono sub) k];rw[T,K,l1];lia
 let G:=H;refine#[U,K,by rw[A (),zad rfl,zdG,o],#[[],rfl],λy p E hy=>?_,sub,zai _,hc,λi ZA xM=>?_,?_,?_,?_];let:=hy c A?;rw[o]at this;rw[A p,zab (),zab<|λw=>this w.symm,gA p,zad E];rw[Y _ (g.dt i) (by erw[<-G,kS nd () ()]),g.st];rw[G,B,o];rw[o,N];erw[o,Tn,<-G,g.st,bU<|by rw[show c+(r.z-1)+1=c+r.z by lia,zaz]]
theorem Pl.next(s:bS L)(g:Good L r)(nd:(Gm.sh 0 r).Nodup)(p:Pl L r c1 cj dn M)(hc:cj<c)(xO:c<r.z)(un:∀e∈dn,cy r e≠cy r c) :
  bZ M (cy r c) (L.z:Int) (put (XS L<|cy r c) ((XS L<|cy r c).idxOf<|cy r<|c+(r.z-1)) L.z) (XS M (L.z:Int)++[cy r c])/\
  Pl L r c1 c (dn++[c]) (both M (cy r c) (L.z:Int) (put (XS L<|cy r c) ((XS L<|cy r c).idxOf<|cy r<|c+(r.z-1)) L.z)<|XS M (L.z:Int)++[cy r c]):=by
 let ac:=g.two;let le:=p.le;let#[q,j,E,C]:=dU g s.map;let m:=p.keep (cy r c) j E un;let Z:cy r c∉XS M (L.z:Int):=by rw[p.new];ext w;let#[e,B,h]:=zap.mp w;exact un e B h
 let W:=p.new;generalize o:cy r c=x at q j E C m Z ⊢;generalize hz:cy r (c+(r.z-1))=z at q C ⊢;let D:=mC s.map j E;let F:bZ M x (L.z:Int) (put (XS L x) ((XS L x).idxOf z) L.z)<|XS M (L.z:Int)++[x]:=
  #[p.sh.map,j,by rw[p.len];lia,(),by rw[p.len];lia,(),by erw[m,D],by erw[m,i6 _ _ _],zcV _ _,by erw[m,gV D],Be Z]
 refine#[F,?_];let#[rest,a]:=p.hd;let G:XS M (L.z:Int)=cy r c1::rest.map (cy r):=by rw[W,a];rfl
 let l:dj r (c-1)=(z,x):=by erw[<-C,(bU<|by rw[show c+(r.z-1)=(c-1)+r.z by lia,zaz]).symm]
 let Oj:=l▸g.dt (c-1);let A:Dt M (cy r c1,(L.z:Int)):=by let:=Dt.back (d:=((L.z:Int),cy r c1)) #[by simp,by rw[p.len];simp;lia,by erw[G,zal]] p.sh.map;exact#[this.1,this.2.1,this.2.2.2]
 let Q:=gL q D;let Y:pre (XS M (L.z:Int)++[x]) (cy r c1)=x:=by erw[G,GO]
 let conn:∀P:ak->Prop,P (z,x)->(∀d,Dt M d->P d->P (nx M d))->P (cy r c1,(L.z:Int)):=λP b I=>by
  let go:∀k,c-1+k<=c1+(r.z-1)->P (dj r<|c-1+k):=by
   ext k;induction k with
   | zero=>intro _;erw[zcx,l,b]
   | succ k ih=>
    ext hk;let:=I _ (p.sub _<|g.dt<|c-1+k)<|ih ();rwa[p.i1 (c-1+k) () ()]at this
  let:=go (c1+(r.z-1)-(c-1)) ();rw[show c-1+(c1+(r.z-1)-(c-1))=c1+(r.z-1)by lia]at this;let:=I _ (p.sub _<|g.dt _) this;rwa[p.i2]at this
 let H:=F.cq p.sh (by erw[m,q]) (by erw[G,zal]) Q Y conn;generalize f:both M x (L.z:Int) (put (XS L x) ((XS L x).idxOf z) L.z) (XS M (L.z:Int)++[x])=N at F H ⊢;let t:=f▸F.ir;let K:=f▸F.dt;let n:=f▸F.rem;let v:∀{y:Int},0<=y->XS N y=if y=(L.z:Int)then XS M (L.z:Int)++[x]else if y=x then put (XS L x) ((XS L x).idxOf z) L.z else XS M y:=λh=>f▸F.row h;let Nl:N.z=L.z+1:=by rw[<-f,eM,p.len]
 let R:x≠(L.z:Int):=();let u:∀d,Dt M d->Dt N d:=λd a=>f▸F.sub d a;let f1:nx N (z,x)=(x,(L.z:Int)):=by unfold nx;rw[v j,zab R,zad rfl,Q]
 let f2:nx N (cy r c1,(L.z:Int))=((L.z:Int),x):=by unfold nx;rw[v (),zad rfl,Y]
 let O:∀d,Dt M d->d≠(z,x)->d≠(cy r c1,(L.z:Int))->nx N d=nx M d:=λd a uC Ug=>by let b:=oK t K (by erw[n,a]);rw[n]at b;let T:=u d a;let n1:nx N d≠((L.z:Int),x):=λw=>Ug<|fF t T (u _ A)<|w.trans f2.symm;let n2:nx N d≠(x,(L.z:Int)):=λw=>uC<|fF t T (u _<|p.sub _ Oj)<|w.trans f1.symm;rw[zab n1,zab n2]at b;exact b.symm
 let Tn:nx N ((L.z:Int),x)=nx M (z,x):=by let b:=oK t K (by erw[n,p.sub _ Oj]);rw[n,f1,zab<|λw=>R<|zaA Prod.fst w,zad rfl]at b;exact b.symm
 let Wr:∀i,dj r i≠(cy r c1,(L.z:Int)):=λi w=>by let d:=g.dt i;let:=(d.back s.map).2.1;rw[w]at this;simp at this
 refine#[H,Nl,?_,#[rest++[c],by rw[a];rfl],λy S y1 U=>?_,λd a=>u d<|p.sub d a,(),xO,λi ZA xM=>?_,?_,?_,?_];rw[v (),zad rfl,W,zaw,zdG,o];let X:=U c A?;rw[o]at X;rw[v S,zab (),zab<|λw=>X w.symm];exact p.keep y S y1 λe B=>U e<|zaJ _ B;rw[O _ (p.sub _<|g.dt i) (by erw[<-l,(kS nd () ()).symm])<|Wr i];exact p.i1 i () xM;rw[O _ (p.sub _<|g.dt _) (by erw[<-l,(kS nd () ()).symm])<|Wr _];exact p.i2;rw[f2,o];rw[o,Tn,<-l,p.i1 (c-1) () (),show c-1+1=c by lia]
end Gm
namespace L2
open PySem PySem.Spec PySem.W PySem.Calls PyProof.Rows
theorem Oz:bootBuiltins "set"=some (.type "set"):=by decide +kernel
theorem GU{X:Cx}{K:Frag}(h:X.K=K){tg l:Expr}{a:TE}(b:PE X l a):PI X tg l<|Af K a:=h▸bL b
theorem Bt{st:Stmt}:PS X st<|λ_ _ _=>False:=λ_ _ _ _ _ _ h=>h.elim
end L2
namespace Gm
open PySem L2
theorem PR.at{H:Hp}:∀{b:bp} {T:List<|Int×Int},PR H b T->∀{i:Nat} {a:Addr},b[i]?=some a->∃x:Int×Int,T[i]?=some x/\H a=some (.tup [.int x.1,.int x.2])
 | _,_,.nil,_,_,e=>by simp at e
 | _,_,.cons r t,0,_,e=>by simp at e;subst e;exact#[_,rfl,r]
 | _,_,.cons r t,i+1,_,e=>by let#[x,c,d]:=PR.at t (by simpa using e);exact#[x,by simpa using c,d]
theorem Dm(k:Nat):it L (nx L d) k=it L d (k+1):=by rw[zdi,sS];rfl
theorem Fz(h:Wk (nx L) x l y):l=tr L x l.z/\y=it L x l.z:=by
 induction h with
 | nil x=>exact#[rfl,rfl]
 | @cons x y l _ c=>
  let#[a,b]:=c;refine#[?_,by erw[zbd,<-Dm,b]];rw[zbd];unfold tr;rw[zdZ,zbg,zdw];show x::l=x::_;congr 1;refine a.trans ?_;unfold tr;refine zbS λj _=>?_;exact Dm j
theorem JI(b:0<k)(e:it L d k=d):sh 0 (bg L d k)=tr L d k:=by
 let a:(bg L d k).z=k:=by unfold bg;simp
 unfold sh tr;erw[a,zbS λj _=>by rw[jM b e,zcx]]
theorem Dec.good(m:av L)(D:Dec L R)(a:c∈R):Good L (c.map (·.1))/\sh 0 (c.map (·.1))=c/\c.Nodup:=by
 let#[x,l,e,k]:=D.jq c a;let#[b,d]:=Fz k;let k0:0<c.z:=by rw[e];simp
 let g:=(D.mem x).mp<|zaT.mpr #[c,a,by erw[e,zal]];let h:c.map (·.1)=bg L x c.z:=by
  conv=>lhs;rw[b]
  unfold bg tr;rw[zdw];rfl
 let f:=(zcb.mp D.nd).1 c a;erw[h,#[vh m g k0 d.symm,(JI k0 d.symm).trans b.symm,f]]
theorem Good.on(g:Good L r){P:ak->Prop}(a:∀d,Dt L d->P d->P (nx L d)){i:Nat}(h:P<|dj r i)(j:Nat):P<|dj r j:=by
 let b:=g.two;let f:∀k,P<|dj r<|i+k:=by
  ext k;induction k with
  | zero=>exact h
  | succ k c=>have:=a _ (g.dt _) c;rwa[g.st]at this
 let:=f<|j+i*r.z-i;let e:i<=i*r.z:=zde i ();rw[show i+(j+i*r.z-i)=j+i*r.z by lia]at this;rw[bU (j:=j)<|by rw[Nat.add_mul_mod_self_right]]at this;exact this
end Gm
namespace L2
open PySem PySem.Spec PySem.W PySem.Calls PyProof.Rows
noncomputable def RM(K:Frag)(a b:Addr):It:=
 #[λi H=>∃xs ys x y,aK K H a xs/\aK K H b ys/\xs[i]?=some x/\ys[i]?=some y,
  λi H v c=>∃p x y,H p=none/\v=.ref p/\(∀xs,aK K H a xs->xs[i]?=some x)/\(∀ys,aK K H b ys->ys[i]?=some y)/\c=upd H p (.tup [x,y]),
  λi H=>∃xs ys,aK K H a xs/\aK K H b ys/\(xs.z<=i\/ys.z<=i)]
theorem FF{P:Program}{w:World}{K:Frag}{elts:List Expr}{kx:Nat}{px:Pos}{a b z TI TO g m:Addr}(D:ZipApart z TI TO g m a b) :
  Turn P w K (.Tuple elts kx px) (RM K a b) [z,TI,TO,g,m] z (λi h=>IsZip h z TI TO .none/\IsPair h TI (.ref g) (.ref m)/\(∃u v,IsPair h TO u v)/\h.IsListIter g a i/\h.IsListIter m b i) where
 mem:=by simp
 obj:=λi h st c e=>by let#[l,f,#[u,v,n],j,p]:=st;simp[zbm,zaR,zbt]at e;ext(rfl|rfl|rfl|rfl|rfl:e);exact#[_,l,λv q=>by cases q];exact#[_,f,λv q=>by cases q];exact#[_,n,λv q=>by cases q];let#[o,S,_,d]:=j;exact#[o,S,λv q=>by rw[d]at q;cases q];let#[o,S,_,d]:=p;exact#[o,S,λv q=>by rw[d]at q;cases q]
 keep:=λi h h' st k=>by let#[l,f,#[u,v,n],j,p]:=st;exact#[k z A? _ l,k TI A? _ f,#[u,v,k TO A? _ n],j.at λo q=>k g A? o q,p.at λo q=>k m A? o q]
 item:=by
  ext X G F O e i pins s σ H E I A st Q;subst G F O;let#[l,f,#[u,v,n],j,p]:=st;let#[xs,ys,x,y,B,t,U,T]:=Q;let#[ia,N,L,za]:=I.list B;let#[ib,C,M,zb]:=I.list t;let#[u1,Za,PD]:=N.get U;let#[u2,Y9,Pz]:=C.get T;let W:∀c∈[z,TI,TO,g,m],c<s.y:=λc e=>by simp[zbm,zaR,zbt]at e;ext(rfl|rfl|rfl|rfl|rfl:e);exact zan l;exact zan f;exact zan n;let#[_,q,_]:=id j;exact zan q;let#[_,q,_]:=id p;exact zan q
  refine wpAny_pyNext_zip_item D l f n j p L.isList M.isList (by simpa using Za) (by simpa using Y9) λh' k1 k2 k3 k4 hT hsz Y=>#[_,rfl,?_];refine wpAny_letOwnedTupleGo_zip k1 λZ BL r=>?_;let hn:=I.bW.fresh<|zai _;let nz:=zbM<|W z A?;let kk:∀c o,c∉[z,TI,TO,g,m]->s.heap.get? c=some o->Z.get? c=some o:=λc o e q=>by simp[zbm,zaR,zbt,zec]at e;exact(r.2 c e.1).trans<|Y c o e.1 e.2.2.1 e.2.2.2.1 e.2.2.2.2 q
  let UG:=(r.2 _ nz).trans hT;refine#[.ref s.y,upd H s.y<|.tup [x,y],Inv.iY (s:=s) (h':=Z) (t':=s.toks) I kk A (zai _) #[by simp[zbd,zdQ];rw[zcA];decide,[u1,u2],.cons PD<|.cons Pz .nil,#[_,UG,rfl,_,rfl]],rfl,
   #[_,x,y,hn,rfl,λPb R=>by erw[I.nM R B,U],λPb R=>by erw[I.nM R t,T],rfl],#[BL,?_,#[u1,u2,(r.2 _ D.TOz).trans k2],k3.at λo q=>(r.2 g D.i1z).trans q,k4.at λo q=>(r.2 m D.i2z).trans q],λc e=>?_]
  exact(r.2 _ D.TIz).trans<|Y TI _ D.TIz D.TITO D.TIi1 D.TIi2 f;erw[aG<|zaW<|W c e,(A c e).1]
 done:=by ext X G F O e i pins s σ H E I A st Q;subst G F O;let#[l,f,#[u,v,n],j,p]:=st;let#[xs,ys,B,t,Ah]:=Q;let#[ia,N,L,za]:=I.list B;let#[ib,C,M,zb]:=I.list t;let la:=N.z;let lb:=C.z;refine wpAny_pyNext_zip_end (I.ok.hd e) D l f n j p L.isList M.isList ?_ λh' eb=>#[rfl,Inv.Ck I (λc o e q=>?_) A];ext(q|q:Ah);left;simp;lia;right;simp;lia;simp[zbm,zaR,zbt,zec]at e;exact eb c o e.1 e.2.2.1 e.2.2.2.1 e.2.2.2.2 q
 self:=λ_ _ _ _ _ st h=>wpAny_pyIter_zip st.1 h
noncomputable def TV(K:Frag)(e:TA):TI:=λd H R=>e d H λvs c=>∃a b,vs=[.ref a,.ref b]/\(∃xs,aK K c a xs)/\(∃ys,aK K c b ys)/\R (RM K a b) c
theorem vQ:bootBuiltins "zip"=some (.type "zip"):=by decide +kernel
theorem GS{X:Cx}{l m:Expr}{w:TA}{p i:Pos}{elts:List Expr}{kx:Nat}{Z:Pos}(G:X.mg "zip"=none)(L:PA X [l,m] w)(M:Gl X "zip":=by rfl)(E:starEach [l,m] X.env=(false,eval l X.env)::starEach [m] X.env:=by rfl)(vD:(backTo i<|starEach [m] X.env).any (·.1)=false:=by rfl) :
  PI X (.Tuple elts kx Z) (.Call (.Name "zip" p) [l,m] [] i) (TV X.K w):=by
 ext pins s U H R I h;refine Call_<|eJ I M G vQ<|zaP (dM (L i pins s U H _ I h) λus d ⟨vs,H1,n,P,F⟩=>?_) E vD;let#[a,b,rfl,#[xs,W],#[ys,Q],q]:=F;let#[u1,u2,rfl,T,Y]:=vals2 P;cases T;cases Y;let#[ia,ra,v,za]:=n.list W;let#[ib,rb,y,zb]:=n.list Q;let r:a<d.y:=by let#[_,e,_]:=v.isList;exact zan e
 let t:b<d.y:=by let#[_,e,_]:=y.isList;exact zan e
 let f:∀{j k:Nat},j≠k->d.y+j≠d.y+k:=λh z=>h<|Nat.add_left_cancel z;let g:∀{c:Addr} (k:Nat),c<d.y->c≠d.y+k:=λk l=>zaW<|zaG l<|zch _ _;let D:ZipApart (d.y+4) (d.y+2) (d.y+3) d.y (d.y+1) a b:=
  #[f B!,f B!,f (j:=0) B!,f B!,f B!,f (k:=0) B!,f B!,f (k:=0) B!,f B!,f (j:=0) B!,g _ r,g _ r,g 0 r,g _ r,g _ t,g _ t,g 0 t,g _ t]
 refine call_zip_2 v.isList y.isList λh' x C B S O hsz N=>?_;refine wpAny_pyIter_zip x ?_;let I2:=n.kept (t':=d.toks) λc o e=>N c o e;refine#[_,[d.y+4,d.y+2,d.y+3,d.y,d.y+1],_,_,H1,rfl,I2,FF D,#[x,C,#[_,_,B],S,O],λc A=>?_,q];let u:d.y<=c:=by simp[zbm,zaR,zbt]at A;ext(rfl|rfl|rfl|rfl|rfl:A);exact zch _ _;exact zch _ _;exact zch _ _;exact zai _;exact zch _ _
 exact n.xV u<|n.bW.fresh u
end L2
namespace Gm
open PySem L2
noncomputable def dR(a b:b9):Prop:=a=b\/∃c,c<b.z/\a=c5 b c
theorem dR.len(h:dR a b):a.z=b.z:=by ext(rfl|⟨c,d,rfl⟩:h);rfl;exact c8<|zcJ d
end Gm
namespace L2
open PySem PySem.Spec PySem.W PySem.Calls PyProof.Rows
theorem yf:bootBuiltins "max"=some (.builtin "max"):=by decide +kernel
end L2
namespace Gm
open PySem L2
theorem dR.perm(h:dR a b):a.Perm b:=by ext(rfl|⟨c,d,rfl⟩:h);exact zeT _;unfold c5;exact(perm_append_comm).trans (by rw[zcN])
theorem av.Kc(m:av M)(g:L.z=M.z)(h:∀(i:Nat) (l k:b9),L[i]?=some l->M[i]?=some k->l.Perm k):av L:=by
 let a:∀(j:Nat) (x:b9),L[j]?=some x->∃y,M[j]?=some y/\x.Perm y:=λj x e=>by
  let f:j<M.z:=by erw[<-g,(zac.mp e).1]
  exact#[M[j],zaf f,h j x M[j] e<|zaf f]
 refine#[λj x e=>?_,λj x e y d=>?_,λj x e y d k p z q=>?_];let#[y,b,c]:=a j x e;exact c.nodup_iff.mpr<|m.nd _ _ b;let#[w,b,c]:=a j x e;rw[g];exact m.rg _ _ b y<|c.mem_iff.mp d;let#[w,b,c]:=a j x e;let#[r,n,o]:=a k z q;exact o.mem_iff.mpr<|m.sy _ _ b y (c.mem_iff.mp d) k p _ n
noncomputable def cO(L M:cp):Prop:=L.z=M.z/\∀(i:Nat) (l m:b9),L[i]?=some l->M[i]?=some m->dR l m
theorem cO.ir(h:cO L M)(m:av M):av L:=m.Kc h.1 λi l k b a=>(h.2 i l k b a).perm
theorem cO.mem(h:cO L M){x y:Int}(a:0<=x)(b:x<L.z):y∈XS L x↔y∈XS M x:=by let d:=aD a b;let c:=aD a (by erw[<-h.1,b]);exact(h.2 _ _ _ d c).perm.mem_iff
theorem dR.trans(h:dR a b)(k:dR b c):dR a c:=by ext(rfl|⟨j,d,rfl⟩:k);exact h;ext(rfl|⟨i,e,rfl⟩:h);exact .inr #[j,d,rfl];rw[c8<|zcJ d]at e;erw[CC d e,.inr #[_,zbr _ (),rfl]]
theorem cO.row(h:cO L M){x:Int}(a:0<=x)(b:x<L.z):dR (XS L x)<|XS M x:=h.2 _ _ _ (aD a b) (aD a<|by erw[<-h.1,b])
theorem cO.dt(h:cO L M)(k:Dt M d):Dt L d:=#[k.lo,by erw[h.1,k.hi],(h.mem k.lo<|by erw[h.1,k.hi]).mpr k.mem]
end Gm
namespace PySem
abbrev uL(h:Heap)(z TI TO a:Addr)(f:Bool):Prop:=
 h.get? z=some { cls:=.type "zip",dict:=none,data:=.fields #[rawInt a,.bool f,.bool false,.ref TI,.ref TO,],slots:=#[] }
theorem Fy(b:s.heap.get? a=some o)(h:Q (some o) s):wpAny (model prog w) A (loadIfAlive a) Q E s:=by
 let h':Q (s.heap.get? a) s:=by erw[b,h]
 exact λ_ _ _=>h'
theorem Cg(d:uL s.heap z TI TO a f)(g:s.heap.get? a=some oa)(h:∀h',uL h' z TI TO a true->Heap.SameBut z s.heap h'->Q false { s with heap:=h' }):wpAny (model prog w) A (Builtin.SmallTypes.ownedTupleIsFree<|.ref z) Q E s:=by
 unfold Builtin.SmallTypes.ownedTupleIsFree;refine zae<|zep d rfl rfl ?_;show wpAny _ _ (loadIfAlive ((a:Int).toNat) >>= _) _ _ _;rw[zau];refine zae<|Fy g ?_;simp only[Option.isNone_some,zbC,zcQ];refine zae<|zep d rfl (x:=.bool f) rfl ?_;cases f with
 | true=>
  erw[zab<|show ¬((Value.bool true != Value.bool true)=true)from zaC,zax<|h _ d<|Heap.SameBut.refl _ _]
 | false=>
  rw[zad<|show(Value.bool false != Value.bool true)=true from rfl];refine zae<|wpAny_setField_rec d A? λe c b=>?_;exact zax<|h _ c b
theorem Jq{z TI TO n p r q a:Addr}{f:Bool}{S:Obj}{k1 k2:Nat}{xs ys:Array Value}{x y:Value}{Q:bz}(D:ZipApart z TI TO n p r q)(t:uL s.heap z TI TO a f)(H:s.heap.get? a=some S)(F:IsPair s.heap TI (.ref n)<|.ref p)(P:s.heap.IsListIter n r k1)(N:s.heap.IsListIter p q k2)(M:s.heap.IsList r xs)(C:s.heap.IsList q ys)(R:xs[k1]?=some x)(O:ys[k2]?=some y)(T:∀h',uL h' z TI TO a true->h'.IsListIter n r (k1+1)->h'.IsListIter p q (k2+1)->IsPair h' s.y x y->h'.x=s.y+1->
   (∀c o,c≠z->c≠n->c≠p->s.heap.get? c=some o->h'.get? c=some o)->Q (.ref s.y) { s with heap:=h' }) :
  wpAny (model prog w) A (Builtin.«zip.__next__» #[[.ref z],[]]) (λu K=>∃v,u=.done (.ret v)/\Q v K) E s:=by
 show wpAny _ _ (field (.ref z) 2 >>= _) _ _ _;refine zae<|zep t rfl rfl ?_;refine zae<|zep t rfl rfl ?_;refine zae<|zdd F rfl ?_;refine zae<|Cg t H λh₁ l b=>?_;simp only[zbC,zcQ];refine zae ?_;rw[<-Array.forIn_toList];simp only[forIn_cons,forIn_nil];refine zae<|zae<|zbW ?_;refine zae<|wpAny_nextOf_list_item (P.extBut b.extBut D.i1z) (M.extBut b.extBut D.l1z) R λB i d=>zax<|zax ?_;refine zae<|zae<|zbW ?_;refine zae<|wpAny_nextOf_list_item ((N.extBut b.extBut D.i2z).extBut d.extBut D.i12.symm)
  ((C.extBut b.extBut D.l2z).extBut d.extBut D.l2i1) O λm j g=>zax<|zax<|zax ?_
 refine zae<|wpAny_newTuple (hsz:=by show 2<=sizeLine;rw[zcA];decide) ?_;refine zax #[_,rfl,?_];let hsz:m.x=s.y:=by rw[g.1,d.1,b.1]
 let h:=g.extBut _ _ D.i2z.symm<|d.extBut _ _ D.i1z.symm l;let k:=i.extBut g.extBut D.i12;rw[hsz];refine T _ (zav _ h) (k.at λo e=>zav _ e) (j.at λo e=>zav _ e) (by erw[<-hsz,zaX _ rfl]) (by rw[Heap.size_push,hsz]) λc o G I L e=>
  zav _ (g.extBut _ _ L<|d.extBut _ _ I<|b.extBut _ _ G e)
theorem Mr(r:A.handled=none)(D:ZipApart z TI TO i1 i2 l1 l2)(i:uL s.heap z TI TO a f)(n:s.heap.get? a=some oa)(l:IsPair s.heap TI (.ref i1)<|.ref i2)(j:s.heap.IsListIter i1 l1 k1)(y:s.heap.IsListIter i2 l2 k2)(p:s.heap.IsList l1 xs)(v:s.heap.IsList l2 ys)(u:xs[k1]?=none)(t:∀h' e,(∀c o,c≠z->c≠i1->c≠i2->s.heap.get? c=some o->h'.get? c=some o)->(∃o,h'.get? e=some o/\o.cls=.type "StopIteration")->E (.ref e) { s with heap:=h' }) :
  wpAny (model prog w) A (Builtin.«zip.__next__» #[[.ref z],[]]) Q E s:=by
 show wpAny _ _ (field (.ref z) 2 >>= _) _ _ _;refine zae<|zep i rfl rfl ?_;refine zae<|zep i rfl rfl ?_;refine zae<|zdd l rfl ?_;refine zae<|Cg i n λh₁ h b=>?_;simp only[zbC,zcQ];refine zae ?_;rw[<-Array.forIn_toList];simp only[forIn_cons,forIn_nil];refine zae<|zae<|zbW ?_;refine zae<|wpAny_nextOf_list_end r (j.extBut b.extBut D.i1z) (p.extBut b.extBut D.l1z) u λg e d k=>?_;exact t g e (λc o m q _ x=>d _ _ q<|b.extBut _ _ m x) k
theorem D6(D:ZipApart z TI TO i1 i2 l1 l2)(d:uL s.heap z TI TO a f)(l:s.heap.get? a=some oa)(j:IsPair s.heap TI (.ref i1)<|.ref i2)(e:s.heap.IsListIter i1 l1 k1)(q:s.heap.IsListIter i2 l2 k2)(m:s.heap.IsList l1 xs)(i:s.heap.IsList l2 ys)(g:xs[k1]?=some x)(v:ys[k2]?=some y)(r:∀h',uL h' z TI TO a true->h'.IsListIter i1 l1 (k1+1)->h'.IsListIter i2 l2 (k2+1)->IsPair h' s.y x y->h'.x=s.y+1->
   (∀c o,c≠z->c≠i1->c≠i2->s.heap.get? c=some o->h'.get? c=some o)->Q (some<|.ref s.y) { s with heap:=h' }) :
  wpAny (model prog w) A (pyNext<|.ref z) Q E s:=by
 let b:s.TypeIs (.ref z) "zip":=#[_,d,rfl];unfold pyNext;exact zae<|wpAny_attempt<|zdf b zeu<|zdc zeu b F.entry_zip_next
   (Jq D d l j e q m i g v λh' k h u n t p=>zax<|r h' k h u n t p)<|F.args_zip_next_1 _
theorem Fx(n:A.handled=none)(D:ZipApart z TI TO i1 i2 l1 l2)(d:uL s.heap z TI TO a f)(l:s.heap.get? a=some oa)(j:IsPair s.heap TI (.ref i1)<|.ref i2)(g:s.heap.IsListIter i1 l1 k1)(r:s.heap.IsListIter i2 l2 k2)(m:s.heap.IsList l1 xs)(h:s.heap.IsList l2 ys)(u:xs[k1]?=none)(t:∀h',(∀c o,c≠z->c≠i1->c≠i2->s.heap.get? c=some o->h'.get? c=some o)->Q none { s with heap:=h' }):wpAny (model prog w) A (pyNext<|.ref z) Q E s:=by
 let b:s.TypeIs (.ref z) "zip":=#[_,d,rfl];unfold pyNext;refine zae<|wpAny_attempt<|zdf b zeu<|zdc zeu b F.entry_zip_next (Mr n D d l j g r m h u λh' e q i=>?_)<|F.args_zip_next_1 _
 let#[o,k,p]:=i;refine zae<|wpAny_isInstance #[o,k,p] isSubtype_stop ?_;exact zax<|t _ q
structure tL(h:Heap)(z TI TO i1 i2 l1 l2 S:Addr)(i:Nat):Prop where
 own:(i=0/\IsZip h z TI TO .none/\∃a b,IsPair h TO a b)\/∃a f oa,uL h z TI TO a f/\h.get? a=some oa/\a∉[z,i1,i2,S]
 it:IsPair h TI (.ref i1) (.ref i2)
 one:h.IsListIter i1 l1 i
 two:h.IsListIter i2 l2 i
theorem tL.keep(x:tL h z TI TO i1 i2 l1 l2 S i)(c:∀b o,b≠S->h.get? b=some o->h'.get? b=some o)(k:S∉[z,TI,TO,i1,i2]):tL h' z TI TO i1 i2 l1 l2 S i:=by simp[zbm,zaR,zbt,zec]at k;let#[n1,n2,n3,m,n]:=k;refine#[?_,c _ _ (zaZ n2) x.it,x.one.at λo e=>c _ _ (zaZ m) e,x.two.at λo e=>c _ _ (zaZ n) e];ext(⟨e,d,a,b,g⟩|⟨a,f,l,d,g,j⟩:x.own);exact .inl #[e,c _ _ (zaZ n1) d,a,b,c _ _ (zaZ n3) g];refine .inr #[a,f,l,c _ _ (zaZ n1) d,c _ _ ?_ g,j];simp[zbm,zaR,zbt,zec]at j;exact j.2.2.2
structure Lb(xs ys:Array Value)(lo:Addr)(h:Heap)(as:bp):Prop where
 rise:as.Pairwise (·<·)
 above:∀a∈as,lo<=a
 pairs:∀(j:Nat) (a:Addr),as[j]?=some a->∃x y,xs[j]?=some x/\ys[j]?=some y/\IsPair h a x y
theorem Jp(D:ZipApart z TI TO i1 i2 l1 l2)(st:tL s.heap z TI TO i1 i2 l1 l2 S i)(N:S<s.y)(H:s.heap.IsList l1 xs)(F:s.heap.IsList l2 ys)(K:xs[i]?=some x)(I:ys[i]?=some y)(L:∀h',tL h' z TI TO i1 i2 l1 l2 S (i+1)->IsPair h' s.y x y->h'.x=s.y+1->
   (∀c o,c∉[z,TO,i1,i2]->s.heap.get? c=some o->h'.get? c=some o)->Q (some<|.ref s.y) { s with heap:=h' }) :
  wpAny (model prog w) A (pyNext<|.ref z) Q E s:=by
 let R:i1<s.y:=by let#[_,e,_]:=st.one;exact zan e
 let M:i2<s.y:=by let#[_,e,_]:=st.two;exact zan e
 let f:∀{c p q r t:Addr},c∉[p,q,r,t]->c≠p/\c≠q/\c≠r/\c≠t:=λh=>by simpa only [zbm,zaR,zbt,zec]using h
 let g:∀{c p q r t:Addr},c≠p->c≠q->c≠r->c≠t->c∉[p,q,r,t]:=λk j m O=>by simp[zbm,zaR,zbt,zec];exact#[k,j,m,O]
 ext(⟨rfl,k,a,b,j⟩|⟨a,fl,T,k,j,m⟩:st.own);refine wpAny_pyNext_zip_item D k st.it j st.one st.two H F K I λh' k1 k2 k3 v l hsz d=>L h' #[.inr #[_,false,_,k1,l,g (zbM<|zan k) (zbM R) (zbM M)<|zbM N],d _ _ D.TIz D.TITO D.TIi1 D.TIi2 st.it,k3,v] l hsz λc o C e=>?_;let#[n,G,u,B]:=f C;exact d c o n G u B e;let#[b1,b2,P,U]:=f m;refine D6 D k j st.it st.one st.two H F K I λh' k1 k3 v l hsz d=>L h' #[.inr #[a,true,T,k1,d _ _ b1 b2 P j,m],d _ _ D.TIz D.TIi1 D.TIi2 st.it,k3,v] l hsz λc o C e=>?_;let#[n,G,u,B]:=f C;exact d c o n u B e
theorem Mq(y:A.handled=none)(D:ZipApart z TI TO i1 i2 l1 l2)(st:tL s.heap z TI TO i1 i2 l1 l2 S i)(x:s.heap.IsList l1 xs)(u:s.heap.IsList l2 ys)(C:xs[i]?=none)(B:∀h',(∀c o,c∉[z,TO,i1,i2]->s.heap.get? c=some o->h'.get? c=some o)->Q none { s with heap:=h' }):wpAny (model prog w) A (pyNext<|.ref z) Q E s:=by
 let f:∀{c p q r t:Addr},c∉[p,q,r,t]->c≠p/\c≠q/\c≠r/\c≠t:=λh=>by simpa only [zbm,zaR,zbt,zec]using h
 ext(⟨rfl,d,a,b,n⟩|⟨a,fl,F,d,n,G⟩:st.own);refine wpAny_pyNext_zip_end y D d st.it n st.one st.two x u (.inl C) λh' m=>B h' λc o l e=>?_;let#[j,v,k,g]:=f l;exact m c o j v k g e;refine Fx y D d n st.it st.one st.two x u C λh' m=>B h' λc o l e=>?_;let#[j,v,k,g]:=f l;exact m c o j k g e
section
variable {prog:Program} {w:World} {A:Around} {s:Shared} {R:Result->Shared->Prop} {xs ys:Array Value}
theorem Jo(hh:A.handled=none)(D:ZipApart z TI TO i1 i2 l1 l2)(t:S∉[z,TI,TO,i1,i2])(Sy:l1≠S)(AZ:l2≠S)(qJ:xs.size=ys.size)(hn:xs.size<=sizeLine)(res:Value){h₁:Heap}(hR:∀h' r d c f,(∀b o,b≠S->b∉[z,TO,i1,i2]->h₁.get? b=some o->h'.get? b=some o)->h'.get? S=some { cls:=.type "list",dict:=none,data:=.seq d c,slots:=#[] }->f.z=xs.size->Lb xs ys h₁.x h' f->
   d.toList=f.map Value.ref->R (.ok<|.ret res) { s with heap:=h',toks:=r }) :
  ∀(k i:Nat) (h:Heap) (r c:Nat) (d:Array Value) (f:bp),xs.size-i=k->i<=xs.size->tL h z TI TO i1 i2 l1 l2 S i->h.IsList l1 xs->h.IsList l2 ys->(∀b o,b≠S->b∉[z,TO,i1,i2]->h₁.get? b=some o->h.get? b=some o)->
   h.get? S=some { cls:=.type "list",dict:=none,data:=.seq d c,slots:=#[] }->d.toList=f.map Value.ref->f.z=i->Lb xs ys h₁.x h f->h₁.x<=h.x->(∀c∈[z,TO,i1,i2],c<h₁.x)->S<h₁.x->
   codeAny (model prog w) A (.builtin "list.extend.loop" #[[.ref S,.ref z,res],[]]) R { s with heap:=h,toks:=r }:=by
 let X:S∉[z,TO,i1,i2]:=by simp[zbm,zaR,zbt,zec]at t ⊢;exact#[t.1,t.2.2.1,t.2.2.2.1,t.2.2.2.2]
 ext k;induction k with
 | zero=>
  ext i h r c d f hk hi U G E W v H B l hsz I O;let Sq:i=xs.size:=();refine zcG PySem.F.entry_extend_loop ?_;rw[zbR zcs _];refine zae<|Mq hh D U G E (by rw[zea];lia) λh' K=>?_;refine zax<|hR h' r d c f (λb o m C e=>K b o C<|W b o m C e) (K S _ X v) () #[l.rise,l.above,λj a g=>?_] H;let#[x,y,N,P,M]:=l.pairs j a g;refine#[x,y,N,P,K a _ (λL=>?_) M];exact absurd (I a L)<|Nat.not_lt.mpr<|l.above a<|zah g
 | succ k ih=>
  ext i h r c d f hk hi U G E W v H B l hsz I O;let Q:i<xs.size:=();let Y:i<ys.size:=();let Wz:d.size=i:=by rw[<-zbu,H,zaa,B]
  refine zcG PySem.F.entry_extend_loop ?_;rw[zbR zcs _];refine zae<|Jp (x:=xs[i]) (y:=ys[i]) D U (zan v) G E (by simp[Q]) (by simp[Y]) λh' T5 T hz u=>?_;dsimp only at T hz u ⊢;let Z:=u S _ X v;let q:∀b o,b≠S->h'.get? b=some o->(h'.update S<|Obj.mapSeq (·.push (Value.ref h.x))).get? b=some o:=λb o n e=>(zby _ _<|zaZ n).trans e;let Q3:=zan v;let Yq:l1∉[z,TO,i1,i2]:=by simp[zbm,zaR,zbt,zec];exact#[D.l1z,D.l1TO,D.l1i1,D.l1i2]
  let Yp:l2∉[z,TO,i1,i2]:=by simp[zbm,zaR,zbt,zec];exact#[D.l2z,D.l2TO,D.l2i1,D.l2i2]
  refine zae ?_;refine zcH Z rfl (zax #[zcw zcs _,ih (i+1) _ r _ (d.push<|Value.ref h.x) (f++[h.x]) () Q (T5.keep q t)
   (G.at λo e=>q l1 o Sy<|u l1 o Yq e) (E.at λo e=>q l2 o AZ<|u l2 o Yp e)
   (λb o m C e=>q b o m<|u b o C<|W b o m C e) (zbI _ Z rfl) (by rw[Array.toList_push,H,zaw];rfl) (by rw[zay,B];rfl) #[?_,?_,?_] ?_ I O]) (by rw[Wz];lia) (by show(d.push<|Value.ref h.x).size<=sizeLine+1;rw[Array.size_push,Wz];lia)
  refine List.pairwise_append.mpr #[l.rise,pairwise_singleton _ _,λa p b n=>?_];rw[zaj.mp n];let#[j,g]:=zaN.mp p;let#[_,_,_,_,e]:=l.pairs j a g;exact zan e;ext a p;ext(p|p:zam.mp p);exact l.above a p;rw[zaj.mp p];exact hsz;ext j b g;ext(m|m|m:zcF j f.z);rw[zaO m]at g;let#[x',y',N,P,M]:=l.pairs j b g;let n:=l.above b<|zah g;exact#[x',y',N,P,q b _ (zbM<|zaG O n)<|u b _ (λL=>absurd (I b L)<|Nat.not_lt.mpr n) M];subst m;let n:h.x=b:=by simpa using g
  subst n;exact#[xs[i],ys[i],by rw[B];simp[Q],by rw[B];simp[Y],q _ _ (zbM Q3) T];let QM:(f++[h.x])[j]?=none:=zbO (by rw[zay,zbl];lia);rw[QM]at g;cases g;let e:=q _ _ (zbM Q3) T;exact zaI hsz<|zcJ<|zan e
end
namespace F
theorem A5:typeLookup (.type "zip") "__len__"=pure none:=by rw[zew,zdt];kernel_rfl
theorem yG:typeLookup (.type "zip") "__length_hint__"=pure none:=by rw[zew,zdt];kernel_rfl
end F
section
variable {prog:Program} {w:World} {A:Around} {E:bz} {s:Shared} {xs ys:Array Value}
theorem D5(Q:A.handled=none)(D:ZipApart z TI TO i1 i2 l1 l2)(B:S∉[z,TI,TO,i1,i2])(v:l1≠S)(C:l2≠S)(U:xs.size=ys.size)(Z:xs.size<=sizeLine)(res:Value)(k:Nat)(p:IsZip s.heap z TI TO .none)(l:∃a b,IsPair s.heap TO a b)(I:IsPair s.heap TI (.ref i1)<|.ref i2)(G:s.heap.IsListIter i1 l1 0)(y:s.heap.IsListIter i2 l2 0)(O:s.heap.IsList l1 xs)(K:s.heap.IsList l2 ys)(r:s.heap.get? S=some { cls:=.type "list",data:=.seq #[] k })(P:∀h' W i c q,(∀b o,b≠S->b∉[z,TO,i1,i2]->s.heap.get? b=some o->h'.get? b=some o)->h'.get? S=some { cls:=.type "list",dict:=none,data:=.seq i c,slots:=#[] }->q.z=xs.size->Lb xs ys s.y h' q->
   i.toList=q.map Value.ref->R (.ok<|.ret res) { s with heap:=h',toks:=W }) :
  wpAny (model prog w) A.in1 (Builtin.List.listExtendWith (.ref S) (.ref z) res)
   (λu n=>match u with | .done f=>R (.ok f) n | .again c'=>c'.quiet=true/\codeAny (model prog w) A c' R n) (λe n=>R (.error e) n) s:=by
 let x:=B;simp[zbm,zaR,zbt,zec]at x;let#[n1,n2,n3,n4,T]:=x;let t:s.TypeIs (.ref z) "zip":=#[_,p,rfl];unfold Builtin.List.listExtendWith;refine zae<|wpAny_typeOf t ?_;let L:Builtin.List.listSameRef (.ref S) (.ref z)=false:=by simp[Builtin.List.listSameRef,n1]
 let X:(Value.type "zip"==Value.type "list")=false:=by decide
 let M:(Value.type "zip"==Value.type "tuple")=false:=by decide
 simp[L,X,M,Bool.or_false,zbC,zcQ];refine zae<|wpAny_pyIter_zip p ?_;refine zae<|zbW ?_;unfold Builtin.List.listLengthHint;refine zae<|zdn t F.A5 ?_;refine zae<|zdn t F.yG ?_;refine zax ?_;show wpAny _ A.in1 (rule "list.extend.makes-room" >>= λ_=>Builtin.List.listTouch (.ref S) >>= λ_=>
  again<|.builtin "list.extend.loop" #[[.ref S,.ref z,res],[]]) _ _ _
 refine zae<|wpAny_rule ?_;refine zae ?_;refine zae<|zcH r rfl ?_;let d:=zbI (Obj.mapSeq (·.push Value.none)) r rfl;refine zcH d rfl ?_;let h:=zbI (Obj.mapSeq (·.pop)) d rfl;let g:∀b o,b≠S->s.heap.get? b=some o->((s.heap.update S<|Obj.mapSeq (·.push Value.none)).update S<|Obj.mapSeq (·.pop)).get? b=some o:=λb o m e=>(zby _ _<|zaZ m).trans<|(zby _ _<|zaZ m).trans e;let#[a,b,l]:=l;refine zax #[zcw zcs _,Jo Q D B v C U Z res P xs.size 0 _ _ _ #[] [] (zeE _) (zaS _)
  #[.inl #[rfl,g _ _ (zaZ n1) p,a,b,g _ _ (zaZ n3) l],g _ _ (zaZ n2) I,G.at λo e=>g _ _ (zaZ n4) e,y.at λo e=>g _ _ (zaZ T) e] (O.at λo e=>g _ _ v e) (K.at λo e=>g _ _ C e)
  (λb o m _ e=>g b o m e) h rfl rfl #[List.Pairwise.nil,(λ_ N=>nomatch N),(λj a Y=>by simp at Y)] (by simp[zdD]) (λc H=>?_)<|zan r]
 simp[zbm,zaR,zbt]at H;ext(rfl|rfl|rfl|rfl:H);exact zan p;exact zan l;let#[_,e,_]:=G;exact zan e;let#[_,e,_]:=y;exact zan e
theorem uJ(I:A.handled=none)(D:ZipApart z TI TO i1 i2 l1 l2)(P:xs.size=ys.size)(T:xs.size<=sizeLine)(v:IsZip s.heap z TI TO .none)(j:∃a b,IsPair s.heap TO a b)(q:IsPair s.heap TI (.ref i1)<|.ref i2)(x:s.heap.IsListIter i1 l1 0)(u:s.heap.IsListIter i2 l2 0)(r:s.heap.IsList l1 xs)(p:s.heap.IsList l2 ys)(U:∀h' l f c i,(∀b o,b∉[z,TO,i1,i2]->s.heap.get? b=some o->h'.get? b=some o)->h'.get? s.y=some { cls:=.type "list",dict:=none,data:=.seq f c,slots:=#[] }->i.z=xs.size->Lb xs ys (s.y+1) h' i->
   f.toList=i.map Value.ref->Q (.ref s.y) { s with heap:=h',toks:=l }) :
  wpAny (model prog w) A (call (.type "list") [.ref z]) Q E s:=by
 refine callType_codes (Q₁:=λobj h=>obj=.ref s.y/\h={ s with heap:=s.heap.push { cls:=.type "list",data:=.seq #[] } }) PySem.F.called_list (PySem.F.typeCall_list_1 _) PySem.F.entry_list_init
  (code_list_new _ #[rfl,rfl]) λobj h h₁=>?_
 let#[rfl,rfl]:=h₁;let#[a,b,j]:=j;let k:(s.heap.push { cls:=.type "list",data:=.seq #[] }).get? s.y=some { cls:=.type "list",data:=.seq #[] }:=zaX _ rfl;let S:∀c∈[z,TI,TO,i1,i2],c<s.y:=λc y=>by simp[zbm,zaR,zbt]at y;ext(rfl|rfl|rfl|rfl|rfl:y);exact zan v;exact zan q;exact zan j;let#[_,e,_]:=x;exact zan e;let#[_,e,_]:=u;exact zan e
 let N:l1<s.y:=by let#[_,e,_]:=r;exact zan e
 let G:l2<s.y:=by let#[_,e,_]:=p;exact zan e
 let M:s.y∉[z,TI,TO,i1,i2]:=λH=>absurd (S _ H)<|zbf _;refine#[#[_,k,rfl],PySem.F.args_list_init_2 _ _,?_];show wpAny _ _ (do let n <-Builtin.List.listItems (.ref s.y);Builtin.List.listUpdate (.ref s.y) (λ_=>#[]);letGo n.toList.reverse;Builtin.List.listExtendWith (.ref s.y) (.ref z) .none) _ _ _;refine zae ?_;unfold Builtin.List.listItems;refine zae<|zdd k rfl<|zax ?_;show wpAny _ _ (updateSeq s.y (λ_=>#[]) >>= λ_=>letGo (#[]:Array Value).toList.reverse >>= λ_=>Builtin.List.listExtendWith (.ref s.y) (.ref z) .none) _ _ _;refine zae<|zcH k rfl ?_;let d:=zbI (Obj.mapSeq<|λ_=>(#[]:Array Value)) k rfl;generalize t:(s.heap.push { cls:=.type "list",data:=.seq #[] }).update s.y (Obj.mapSeq<|λ_=>(#[]:Array Value))=m at d;let hsz:m.x=s.y+1:=by rw[<-t];simp[zdD,Heap.size_push]
 let g:∀b o,s.heap.get? b=some o->m.get? b=some o:=λb o e=>by erw[<-t,(zby _ _<|zbM<|zan e).trans<|zav _ e]
 refine zae<|zen ?_;refine D5 (A:=A.in1) (s:={ s with heap:=m }) I D M (zaW N) (zaW G) P T .none _ (g _ _ v) #[a,b,g _ _ j] (g _ _ q) (x.at λo e=>g _ o e) (u.at λo e=>g _ o e) (r.at λo e=>g _ o e) (p.at λo e=>g _ o e) d λh' l f c i L R K B O=>?_;refine#[rfl,U h' l f c i (λb o C e=>L b o (zaW<|zan e) C<|g b o e) R K ?_ O];erw[<-hsz,B]
end
end PySem
namespace L2
open PySem PySem.Spec PySem.W PySem.Calls PyProof.Rows
section
variable {X:Cx} {pins:b6} {σ:St} {H H':Hp} {s:Shared} {h':Heap}
theorem Inv.TJ{t':Nat}{ch:bp}(I:Inv X pins σ H s)(k:∀b u,b∉ch->s.heap.get? b=some u->h'.get? b=some u)(h:∀b∈ch,qh X pins H b)(d:∀b u,H b=some u->H' b=some u)(g:∀b u,H' b=some u->H b=none->s.y<=b/\bM X.prog X.w H' h' b u):Inv X pins σ H' { s with heap:=h',toks:=t' }:=by
 let i:∀b u,H b=some u->b∉ch:=λb u e z=>by rw[(h b z).1]at e;cases e
 refine I.step (λb p=>?_) (λb o _ _ a e _=>k b o a e) (λb o _ _ a e _=>#[o.slots,k b o a e]) (λb u _ e n=>?_) (λb o a e=>#[o,k b o a e])
  (λb xs e=>d _ _ e) (λb u v e=>d _ _ e) (λb E e=>#[#[],by rw[d _ _ e];simp]) (λm x=>?_) (λb u e=>?_) I.bare
 let#[f0,D,F,y,B,C]:=h b p;exact#[y,D,B,C];cases q:H' b with
 | none=>rfl
 | some v=>exact absurd (zan e)<|Nat.not_lt.mpr (g b v q n).1
 let#[o,l,A,t,r]:=x;exact#[o,l,A,k _ o (λz=>(h _ z).2.1 rfl) t,r];cases q:H b with
 | none=>exact(g b u e q).2
 | some v=>
  let j:=d b v q;rw[e]at j;cases j;refine(I.bW b u q).jW (λc v a f=>k c v ?_ f) (λc f=>d _ _ f) λc xs f=>d _ _ f;ext(z|z:a);rw[z];exact i b u q;exact i c _ z
end
noncomputable def sN:bp->List (V×V)->Hp->Hp
 | a::as,p::ps,H=>upd (sN as ps H) a<|.tup [p.1,p.2]
 | _,_,H=>H
theorem sM:∀{as:bp} {ps:List<|V×V} {H:Hp} {b:Addr},b∉as->sN as ps H b=H b
 | [],_,_,_,_=>by simp[sN]
 | _::_,[],_,_,_=>by simp[sN]
 | a::as,p::ps,H,b,h=>by let nb:b≠a:=λe=>h (by erw[e,zal]);rw[sN,aG nb,sM λe=>h<|zag _ e]
theorem De:∀{c:bp} {d:List<|V×V} {H:Hp} {j:Nat} {a:Addr} {p:V×V},c.Nodup->c[j]?=some a->d[j]?=some p->sN c d H a=some (.tup [p.1,p.2])
 | [],_,_,_,_,_,_,h,_=>by simp at h
 | _::_,[],_,_,_,_,_,_,h=>by simp at h
 | a::c,p::d,H,0,b,q,_,h1,h2=>by
  let l:a=b:=by simpa using h1
  let i:p=q:=by simpa using h2
  subst l i;rw[sN,ah]
 | a::c,p::d,H,j+1,b,q,hn,h1,h2=>by
  let g:c[j]?=some b:=by simpa using h1
  let m:d[j]?=some q:=by simpa using h2
  let f:=zar.mp hn;let k:b≠a:=λe=>f.1 (by erw[<-e,zah g]);rw[sN,aG k,De f.2 g m]
theorem uV:∀(a:bp),Vals a.d (a.map Value.ref)
 | []=>.nil
 | _::a=>.cons rfl<|uV a
noncomputable def yO(K:Frag)(g:TA):TE:=λf H Q=>g f H λvs c=>∃a b xs ys,vs=[.ref a,.ref b]/\aK K c a xs/\aK K c b ys/\xs.z=ys.z/\
 ∀(l:Addr) (e:bp) (d:Hp),ai c d->c l=none->d l=some (.lst e.d)->e.z=xs.z->
  (∀(j:Nat) (a:Addr),e[j]?=some a->c a=none/\a≠l/\∃x y,xs[j]?=some x/\ys[j]?=some y/\d a=some (.tup [x,y]))->Q (.ref l) d
theorem jO:bootBuiltins "list"=some (.type "list"):=by decide +kernel
theorem Bu{ta:TA}{p p2 t ug:Pos}(T:X.calm=true)(i:X.mg "zip"=none)(Jd:X.mg "list"=none)(ha:PA X [l,m] ta)(hg:Gl X "zip":=by rfl)(NY:Gl X "list":=by rfl)(he:starEach [l,m] X.env=(false,eval l X.env)::starEach [m] X.env:=by rfl)(vD:(backTo t<|starEach [m] X.env).any (·.1)=false:=by rfl)(BL:starEach [.Call (.Name "zip" p) [l,m] [] t] X.env=(false,eval (.Call (.Name "zip" p) [l,m] [] t) X.env)::starEach [] X.env:=by rfl) :
  PE X (.Call (.Name "list" p2) [.Call (.Name "zip" p) [l,m] [] t] [] ug) (yO X.K ta):=by
 ext pins s W H Q I h;refine Call_<|eJ I NY Jd jO<|zaP ?_ BL rfl;rw[BL];refine zcf ?_;refine Call_<|eJ I hg i vQ<|zaP (dM (ha t pins s W H _ I h) λus d ⟨vs,E,G,r1,q1⟩=>?_) he vD;let#[a,b,xs,ys,rfl,Kz,Ky,qJ,q]:=q1;let#[u1,u2,rfl,PD,Pz]:=vals2 r1;cases PD;cases Pz;let#[ia,ra,pa,za]:=G.list Kz;let#[ib,rb,pb,zb]:=G.list Ky;let la:=ra.z;let lb:=rb.z;let P:a<d.y:=by let#[_,e,_]:=pa.isList;exact zan e
 let U:b<d.y:=by let#[_,e,_]:=pb.isList;exact zan e
 let y:∀{j k:Nat},j≠k->d.y+j≠d.y+k:=λh z=>h<|Nat.add_left_cancel z;let B:∀{c:Addr} (k:Nat),c<d.y->c≠d.y+k:=λk l=>zaW<|zaG l<|zch _ _;let D:ZipApart (d.y+4) (d.y+2) (d.y+3) d.y (d.y+1) a b:=
  #[y B!,y B!,y (j:=0) B!,y B!,y B!,y (k:=0) B!,y B!,y (k:=0) B!,y B!,y (j:=0) B!,B _ P,B _ P,B 0 P,B _ P,B _ U,B _ U,B 0 U,B _ U]
 refine call_zip_2 pa.isList pb.isList λh' hz AY EN h1 h2 hsz hk=>?_;refine zcj ?_;let L:Inv X pins W E { d with heap:=h' }:=G.kept λc o e=>hk c o e;let#[Y2,VY,Yi,_]:=L.list Kz;let#[Y1,VX,Yh,_]:=L.list Ky;let ag:=VY.z;let ad:=VX.z;refine uJ (ys:=Y1.toArray) (L.ok.hd T) D (by simp only[zaM];lia) (by simp only[zaM];lia) hz #[_,_,EN] AY h1 h2 Yi.isList Yh.isList λZ tk ac c f Zx hS hl Y bq=>?_;let So:f.z=xs.z:=by rw[hl,zaM];lia
 let Zo:=Y.rise.imp<|λe=>zaW e;let N:∀x,h'.x<=x->E x=none:=λx O=>L.bW.fresh O;let R:=Y.above;let W0:h'.x∉f:=λi=>absurd (R _ i)<|Nat.not_le.mpr<|zbq _;let QC:∀x u,E x=some u->x∉f/\x≠h'.x:=λx u e=>by constructor;ext i;let g:=N x<|zfa<|R x i;rw[e]at g;cases g;ext i;let g:=N x<|Nat.le_of_eq i.symm;rw[e]at g;cases g
 let O0:∀(j:Nat) (x:Addr),f[j]?=some x->∃v w C F,xs[j]?=some v/\ys[j]?=some w/\RelV v C/\RelV w F/\IsPair Z x C F:=λj x r=>by
  let#[C,F,A,g,e3]:=Y.pairs j x r;let WI:j<xs.z:=by let:=(zac.mp r).1;lia
  let#[u1,f1,S]:=VY.get (show xs[j]?=some xs[j]by simp[WI]);let#[u2,f2,M]:=VX.get (show ys[j]?=some (ys[j]'())by simp[show j<ys.z by lia]);rw[getElem?_toArray]at A g;rw[A]at f1;rw[g]at f2;cases f1;cases f2;exact#[_,_,C,F,by simp[WI],by simp[show j<ys.z by lia],S,M,e3]
 let W6:∀(j:Nat) (x:Addr) (v w:V),f[j]?=some x->xs[j]?=some v->ys[j]?=some w->upd (sN f (xs.zip ys) E) h'.x (.lst f.d) x=some (.tup [v,w]):=λj x v w r hv hw=>by let nx:x≠h'.x:=λe=>W0 (by erw[<-e,zah r]);erw[aG nx,De (p:=(v,w)) Zo r<|by erw[getElem?_zip_eq_some,#[hv,hw]]]
 let AZ:∀x u,E x=some u->upd (sN f (xs.zip ys) E) h'.x (.lst f.d) x=some u:=λx u e=>by let#[A,g]:=QC x u e;erw[aG g,sM A,e]
 let I3:Inv X pins W (upd (sN f (xs.zip ys) E) h'.x<|.lst f.d) { d with heap:=Z,toks:=tk }:=by
  refine Inv.TJ (s:={ d with heap:=h' }) (ch:=[d.y+4,d.y+3,d.y,d.y+1]) L (λb u hb e=>Zx b u hb e) (λc T=>?_) AZ λx u e n=>?_;let le:d.y<=c:=by simp only[zbm,zaR,zbt]at T;ext(rfl|rfl|rfl|rfl:T);exact zch _ _;exact zch _ _;exact zai _;exact zch _ _
  exact G.xV le<|G.bW.fresh le;by_cases O:x=h'.x;subst O;rw[ah]at e;cases e;refine#[zai _,show bM X.prog X.w _ Z _ (.lst f.d)from#[by erw[zaa,So,za],f.map Value.ref,c,uV f,?_]];rw[<-bq,zdB];exact hS;by_cases i:x∈f;let#[j,r]:=zaN.mp i;let#[v,w,C,F,A,g,S,M,hP]:=O0 j x r;rw[W6 j x v w r A g]at e;cases e;exact#[zfa<|R x i,by simp only[zbd,zdQ];rw[zcA];decide,[C,F],.cons S<|.cons M .nil,#[_,hP,rfl,_,rfl]];rw[aG O,sM i,n]at e;cases e
 refine#[.ref h'.x,_,I3,rfl,q _ f _ (λx u e=>AZ x u e) (N _<|zai _) ah So λj x r=>?_];let#[v,w,C,F,A,g,S,M,hP]:=O0 j x r;let i:=zah r;exact#[N x<|zfa<|R x i,λe=>W0<|e▸i,v,w,A,g,W6 j x v w r A g]
end L2
namespace Gm
open PySem L2
theorem Lp.perm(p:Lp L R ks)(h:Dg.Perm ks):Lp L R Dg:=
 #[p.good,p.least,h.nodup_iff.mpr p.nd,h.trans p.pm,by erw[h.length_eq,p.two]]
theorem PR.mk{H:Hp}:∀{c:bp} {T:List<|Int×Int},c.z=T.z->(∀(j:Nat) (a:Addr) (d:Int×Int),c[j]?=some a->T[j]?=some d->H a=some (.tup [.int d.1,.int d.2]))->PR H c T
 | [],[],_,_=>.nil
 | [],_::_,h,_=>by simp at h
 | _::_,[],h,_=>by simp at h
 | a::c,d::T,h,f=>.cons (f 0 a d rfl rfl) (PR.mk (by simpa using h) λj b e g i=>f (j+1) b e (by simpa using g)<|by simpa using i)
theorem JO(h:j<r.z):(c5 r 1)[j]?=some (cy r<|j+1):=by
 let e:(c5 r 1).z=r.z:=c8 ();let a:cy (c5 r 1) j=(c5 r 1)[j]'():=fI ();by_cases b:1<r.z;rw[iV b]at a;rw[a];exact zaf _;let c:r.z=1:=();let d:j=0:=();subst d
 match r,c with
 | [x],_=>unfold c5 cy;simp
theorem RD(h:j<r.z):r[j]?=some (cy r j):=by erw[fI h,zaf _]
theorem Br{a:Addr}{i n:Nat}{m:Int}{r:b9}(b:σ[i]?=some (a.e))(c:aK K H a r.c)(d:n<=r.z)(q:∀p,H p=none->Q (.ref p) (upd H p<|.lst<|(r.drop n).c))(e:m=(n:Int):=by rfl) :
  IZ (wY K) (eX i) (rh<|tC<|.int m) gJ σ H Q:=by
 subst e;exact#[_,b,#[_,rfl,#[a,_,rfl,c,λp f=>by erw[kU d,q p f]]]]
theorem GD{a:Addr}{i n:Nat}{m:Int}{r:b9}(b:σ[i]?=some (a.e))(c:aK K H a r.c)(d:n<=r.z)(q:∀p,H p=none->Q (.ref p) (upd H p<|.lst<|(r.take n).c))(e:m=(n:Int):=by rfl) :
  IZ (wY K) (eX i) gJ (rh<|tC<|.int m) σ H Q:=by
 subst e;exact#[_,b,#[_,rfl,#[a,_,rfl,c,λp f=>by erw[ji d,q p f]]]]
theorem Eh(h:ta σ H λvs c=>∃a b xs ys,vs=[.ref a,.ref b]/\aK K c a xs/\aK K c b ys/\xs.z=ys.z/\
  ∀(l:Addr) (e:bp) (d:Hp),ai c d->c l=none->d l=some (.lst e.d)->e.z=xs.z->
   (∀(j:Nat) (a:Addr),e[j]?=some a->c a=none/\a≠l/\∃x y,xs[j]?=some x/\ys[j]?=some y/\d a=some (.tup [x,y]))->Q (.ref l) d):yO K ta σ H Q:=h
end Gm
namespace L2
open PySem PySem.Spec PySem.W PySem.Calls PyProof.Rows
noncomputable def JW(K:Frag):R2:=λx y H Q=>∃(p l:Addr) (d:Int×Int) (a:bp) (T:List<|Int×Int),x=.ref p/\y=.ref l/\H p=some (.tup [.int d.1,.int d.2])/\H l=some (.lst a.d)/\Gm.PR H a T/\Q (.bl<|!decide (d∈T)) H
theorem Em(hu:X.A.units+64<cLine):pE X (compareOp .NotIn)<|JW X.K:=by
 ext pins s σ H x y v u Q I rx ry h;let#[p,l,d,o,T,rfl,rfl,E,hl,pr,q]:=h;cases rx;cases ry;let#[z,f,n,r,_,e]:=I.uw hl;let#[z2,ip,rp,op,U,hc,n2,hd]:=(show bM X.prog X.w H s.heap p (.tup [.int d.1,.int d.2])from I.bW p _ E);let#[u1,u2,rfl,#[F,rfl],#[N,rfl]]:=vals2 rp;let tp:s.heap.IsTuple p #[.int d.1 F,.int d.2 N,]:=#[op,U,hc,n2,hd];refine let t:Value->Bool:=λv=>match v with | .ref b=>@decide (H b=some (.tup [.int d.1,.int d.2])) (Classical.propDecidable _) | _=>false;?_
 let C:∀{o:bp} {T:List<|Int×Int} {f:bf},Gm.PR H o T->Vals o.d f->f.any t=decide (d∈T)/\∀y∈f,SeqAt.EqAt X.A.in1 s y (.ref p)<|t y:=by
  ext o T f pr;induction pr generalizing f with
  | nil=>intro m;cases m;exact#[rfl,λy k=>by cases k]
  | @cons b x o T B _ ih=>
   ext m;cases m with
   | @cons _ u _ us ru m=>
    cases ru;let#[S,i2]:=ih m;let L:t (.ref b)=decide (x=d):=(by show @decide (H b=some (.tup [.int d.1,.int d.2])) (Classical.propDecidable _)=_;by_cases q:x=d;subst q;rw[@zaV _ (Classical.propDecidable _) B,zaV rfl];refine(@zaQ _ (Classical.propDecidable _) ?_).trans (zaQ q).symm;ext w;rw[B]at w;injection w with w;injection w with w;injection w with c a;injection c with c;injection a with a _;injection a with a;exact q<|zbA c a);refine#[?_,λy k=>?_];rw[any_cons,S,L];by_cases q:x=d;subst q;simp;let Y:¬d=x:=λw=>q w.symm;simp[q,Y];ext(w|w:zas.mp k);subst w;rw[L];by_cases O:b=p;subst O;let:x=d:=(by rw[B]at E;injection E with w;injection w with w;injection w with c a;injection c with c;injection a with a _;injection a with a;exact zbA c a);rw[zaV this];exact SeqAt.EqAt.same _;let#[_,ib,P,ob,Uc,xO,n3,D]:=(show bM X.prog X.w H s.heap b (.tup [.int x.1,.int x.2])from I.bW b _ B);let#[c,a,rfl,#[G,rfl],#[M,rfl]]:=vals2 P;let R:s.heap.IsTuple b #[.int x.1 G,.int x.2 M,]:=#[ob,Uc,xO,n3,D];let Z:=SeqAt.RcAt.tuples (A:=X.A.in1) (e:=λj=>if j=0 then x.1==d.1 else x.2==d.2) R tp (by simp only[Around.in1_units];lia) (λj g i=>by let hj:j=0\/j=1:=(by let:j<2:=g;lia);ext(rfl|rfl:hj);exact zct x.1 G d.1 F;exact zct x.2 M d.2 N);let W:((List.range<|min 2 2).all (λj=>if j=0 then x.1==d.1 else x.2==d.2)&&(2:Nat)==2)=decide (x=d):=(by let e:(List.range<|min 2 2).all (λj=>if j=0 then x.1==d.1 else x.2==d.2)=((x.1==d.1)&&(x.2==d.2)):=(by rw[show List.range (min 2 2)=[0,1]from rfl];simp);rw[e];by_cases g:x.1=d.1;by_cases i:x.2=d.2;rw[zaV<|zbA g i];simp[g,i];rw[zaQ<|λw=>i<|zaA Prod.snd w];simp[i];rw[zaQ<|λw=>g<|zaA Prod.fst w];simp[g]);let X6:=W▸Z;exact SeqAt.EqAt.of_refs O X6;exact i2 y w
 let#[k1,k2]:=C pr r;refine SeqAt.notIn_listAt t #[_,e,rfl,n,rfl] (λy k=>k2 y<|by simpa using k) #[.bl<|!decide (d∈T),H,I,?_,q];show Value.bool (!f.toArray.any t)=Value.bool (!decide (d∈T));rw[<-k1];simp
section
variable {K:Frag} {σ:St} {H:Hp} {Q:VK}
theorem h8{b a:TE}{t:Lc}{Q:St->Hp->Prop}(h:b σ H λo e=>a σ e λi d=>t o i v d λc=>Q σ c):Q7 b a t v σ H Q:=h
theorem K2(xs:List V):mJ xs none none=xs:=by unfold mJ HT.vg;simp
theorem GF(b:σ[i]?=some (a.e))(c:aK K H a xs)(q:∀p,H p=none->Q (.ref p) (upd H p<|.lst xs)) :
  IZ (wY K) (eX i) gJ gJ σ H Q:=#[_,b,#[a,_,rfl,c,λp d=>by erw[K2,q p d]]]
theorem jJ{n:Nat}{k:Int}(a:0<=k)(b:k<n):Dl n k=some k.toNat:=by unfold Dl;rw[zad a,zad b]
end
end L2
namespace Gm
open PySem L2
theorem Jz(c:av L){d:ak}(e:0<=d.1)(b:d.1<L.z)(f:0<=d.2)(b1:d.2<L.z)(g:d.1≠d.2) :
  ((if d.2<d.1 then d.2 else d.1),(if d.2 > d.1 then d.2 else d.1))∈cI L L.z↔d.2∈XS L d.1:=by
 rw[du<|zai _];by_cases h:d.2<d.1;rw[zad h,zab ()];constructor;ext⟨_,_,_,_,a⟩;exact(Dt.back #[f,b1,a] c).2.2.2;ext a;exact#[f,b1,h,b,(Dt.back #[e,b,a] c).2.2.2];rw[zab h,zad ()];constructor;ext⟨_,_,_,_,a⟩;exact a;ext a;exact#[e,b,(),b1,a]
theorem Iy(P:∀(f:St) (h:Hp) (b:Addr) (l:b9) (s:VK),f[0]?=some (b.e)->h b=some (.lst l.c)->(∀c,h c=none->s (.ref c) (upd h c<|.lst l.c))->te f h s)(M:σ[i]?=some (p.e))(j:aO H p as L)(hn:L.z<=1000)(q:∀d cs h,ai H h->aO h d cs L->(d::cs).Nodup->(∀b∈d::cs,H b=none)->Q (.ref d) h):pG (Af K<|eX i) (jU 0) qZ te 1 [] σ H Q:=by
 refine cA ?_;refine#[_,M,p,rfl,#[_,aK.of j.top],λd D=>?_];refine cU (λi f ys g=>∃(bs:bp) (v:Option V),f=[v]/\ys=bs.d/\ai H g/\bs.z=i/\aO g d bs (L.take i)/\(d::bs).Nodup/\∀b∈d::bs,H b=none)
  #[[],none,rfl,rfl,ai.upd D,rfl,#[ah,rfl,λi a l z=>by simp at z],by simp,by simpa using D] (λi f ys g _ ⟨_,_,_,_,e,_⟩=>aK.of<|e _ _ j.top) ?_ ?_
 ext i x f ys g E n ⟨bs,v,rfl,rfl,r,rfl,B,w,k⟩;let#[b,l,I,N,T]:=j.at (by rwa[zaa,j.len]at n);obtain rfl:x=V.ref b:=by rw[zao,I]at E;exact(zaq E).symm
 let U:=n;rw[zaa,j.len]at U;refine dm ?_;refine mq ?_;refine LN<|P _ _ b l _ rfl (r _ _ T) λc o=>?_;let A:=B.fQ o;let m:ai g<|upd g c<|.lst l.c:=ai.upd o;let u:upd g c (.lst l.c) c=some (.lst l.c):=ah;let G:=r.free o;generalize upd g c (.lst l.c)=Y at m u ⊢;let t:=B.same m;let C:c≠d:=λz=>A<|z▸zal;refine#[t.top,by erw[zaa,aI ()],cZ n #[bs++[c],_,rfl,by simp,ai.fresh (r.trans m)<|k _ zal,by simp,?_,?_,λy R=>?_]];rw[take_snoc N];exact t.snoc (zar.mp w).1 C u;let#[n1,n2]:=zar.mp w;refine zar.mpr #[λz=>?_,gu.mpr #[λz=>A<|zag _ z,n2]];ext(z|z:zam.mp z);exact n1 z;exact C (zaj.mp z).symm;ext(z|z:zas.mp R);rw[z];exact k _ zal;ext(z|z:zam.mp z);exact k y<|zag _ z;rw[zaj.mp z];exact G;ext f ys O ⟨cs,v,rfl,rfl,W,Z,F,X,S⟩;rw[zaa,j.len,zbp]at F;exact q d cs O W F X S
theorem wX(f:σ[i]?=some (p.e))(k:aO H p as L)(g:L.z<=1000)(q:∀a cs c,ai H c->aO c a cs L->(a::cs).Nodup->(∀b∈a::cs,H b=none)->Q (.ref a) c) :
  pG (Af K<|eX i) (jU 0) qZ (Pq (λxs H Q=>∃p ys,xs=[V.ref p]/\(aK K H p ys\/SqT K H p ys)/\∀(l:Addr),H l=none->Q (V.ref l) (upd H l<|HO.lst ys))<|j7 (eX 0) yN) 1 [] σ H Q:=
 Iy (λe c b l m d h j=>#[_,d,b,_,rfl,.inl<|aK.of h,j]) f k g q
end Gm
namespace L2
open PySem PySem.Spec PySem.W PySem.Calls PyProof.Rows
section
variable {K:Frag} {σ:St} {H:Hp} {Q:VK}
theorem AE{R:Hp->Prop}{f a b:Addr}{xs ys:List V}{n:Nat}{g:TG}{z:TT}{w:TE}(P:n=min xs.z ys.z)(h:Nat->St->List V->Hp->Prop)(O:h 0 σ [] H)(D:∀i σ zs H,i<=n->h i σ zs H->aK K H a xs/\aK K H b ys)(B:∀i x y p σ zs H,xs[i]?=some x->ys[i]?=some y->i<n->h i σ zs H->H p=none->g (.ref p) σ (upd H p<|.tup [x,y]) λc s=>z c s λb k=>if b=true then w c k λy l=>l f=some (.lst zs)/\zs.z<sizeLine/\∃d,d<n-i/\(d=n-(i+1)/\i+1<=n/\h (i+1) c (zs++[y]) (upd l f<|.lst<|zs++[y]))else ∃d,d<n-i/\(d=n-(i+1)/\i+1<=n/\h (i+1) c zs k))(F:∀σ zs H,h n σ zs H->R H) :
  ∃W:Nat->Nat->St->List V->Hp->Prop,(∃m,W 0 m σ [] H)/\∀i m o zs j,W i m o zs j->(((RM K a b).stop i j/\R j)\/((RM K a b).go i j/\∀x A,(RM K a b).A6 i j x A->g x o A λc s=>z c s λb k=>
   if b=true then w c k λy l=>l f=some (.lst zs)/\zs.z<sizeLine/\∃d,d<m/\W (i+1) d c (zs++[y]) (upd l f<|.lst<|zs++[y])else ∃d,d<m/\W (i+1) d c zs k)):=by
 refine#[λi m σ zs H=>m=n-i/\i<=n/\h i σ zs H,#[n,by simp,zaS _,O],?_];ext i m σ zs H ⟨rfl,N,p⟩;let#[q,t]:=D i σ zs H N p;by_cases L:i<n;let I:i<xs.z:=();let E:i<ys.z:=();refine .inr #[#[xs,ys,xs[i],ys[i],q,t,by simp[I],by simp[E]],λx S y=>?_];let#[r,u,v,M,rfl,G,C,rfl]:=y;exact B i u v r σ zs H (G xs q) (C ys t) L p M;let e:i=n:=();exact .inl #[#[xs,ys,q,t,()],F σ zs H<|e▸p]
end
end L2
namespace Gm
open PySem L2
noncomputable def kN(a:List<|ak×Int):List<|List Key×V:=a.map λp=>(fL p.1,V.int p.2)
theorem Nx(a:List<|ak×Int):(kN a).z=a.z:=by unfold kN;simp
theorem uX:∀{a:List<|ak×Int} {d:ak},d∉a.map (·.1)->iJ (kN a) (fL d)=none
 | [],_,_=>rfl
 | p::a,d,h=>by unfold kN;erw[zbg,fO (λy=>h<|by erw[<-kO y,zal]),uX λz=>h<|zag _ z]
theorem uW:∀{a:List<|ak×Int} {d:ak} {n:Int},(a.map (·.1)).Nodup->(d,n)∈a->iJ (kN a) (fL d)=n.f
 | [],_,_,_,h=>by cases h
 | p::a,d,n,hn,h=>by unfold kN;rw[zbg];let#[b,c]:=zar.mp hn;by_cases e:p.1=d;rw[gX<|zaA fL e];ext(z|z:zas.mp h);rw[<-z];exact absurd (show p.1∈a.map (·.1)by erw[e,zap.mpr #[_,z,rfl]]) b;rw[fO<|λy=>e<|kO y];ext(z|z:zas.mp h);exact absurd (by rw[<-z]) e;exact uW c z
theorem P2(h:d∉ks.map (·.1)):dV (kN ks) (fL d) (.int n)=kN (ks++[(d,n)]):=by rw[nj _<|uX h];unfold kN;rw[zaw];rfl
noncomputable def lk(s:b9->Nat)(R:cp):Nat->List (ak×Int)
 | 0=>[]
 | k+1=>lk s R k++(sh (s<|R.getD k [])<|R.getD k []).map λd=>(d,(k:Int))
theorem qG{s:b9->Nat}{R:cp}:∀{k:Nat},k<=R.z->(lk s R k).map (·.1)=(R.take k).flatMap λr=>sh (s r) r
 | 0,_=>rfl
 | k+1,h=>by
  let e:R.take (k+1)=R.take k++[R.getD k []]:=by rw[zeI,zak,zaf ()];rfl
  rw[lk,zaw,qG (),zdw,e,zcn,flatMap_singleton];congr 1;exact map_id _
theorem Ht{s:b9->Nat}{R:cp}:∀{k i:Nat} {r:b9} {d:ak},i<k->R[i]?=some r->d∈sh (s r) r->(d,(i:Int))∈lk s R k
 | 0,_,_,_,h,_,_=>()
 | k+1,i,r,d,h,hr,hd=>by
  rw[lk,zdz];by_cases e:i=k;subst e;let a:R.getD i []=r:=by rw[zak,hr];rfl
  rw[a];exact .inr<|zap.mpr #[d,hd,rfl];exact .inl<|Ht () hr hd
theorem fY{s:b9->Nat}:∀(R:cp),(R.flatMap λr=>sh (s r) r).Perm (R.flatMap<|sh 0)
 | []=>.nil
 | r::R=>by erw[zcy,zcy,(f6 r _).append<|fY R]
noncomputable def lo(R:cp)(d:ak):Int:=(R.findIdx λr=>decide (d∈sh 0 r):Nat)
theorem C9(h:(R.flatMap<|sh 0).Nodup){i:Nat}(a:R[i]?=some r)(c:d∈sh 0 r):lo R d=i:=by
 induction R generalizing i with
 | nil=>simp at a
 | cons q R g=>
  rw[zcy,zdY]at h;let#[l,f,j]:=h;unfold lo;rw[findIdx_cons];cases i with
  | zero=>
   let e:q=r:=by simpa using a
   subst e;rw[zaV c];rfl
  | succ i=>
   let b:R[i]?=some r:=by simpa using a
   let k:d∉sh 0 q:=λz=>j d z d (zaK.mpr #[r,zah b,c]) rfl;rw[zaQ k];let:=g f b;unfold lo at this;show((R.findIdx (λr=>decide<|d∈sh 0 r)+1:Nat):Int)=_;lia
theorem Nk(b:me L R)(e:Dt L d):iJ (kN<|lk s R R.z) (fL d)=some (.int<|lo R d):=by let#[r,f,c]:=zaK.mp<|b.all d e;let#[i,a]:=zaN.mp f;rw[C9 b.nd a c];refine uW ?_<|Ht (zac.mp a).1 a<|(f6 r _).mem_iff.mpr c;erw[qG<|zai _,zbp,(fY R).nodup_iff.mpr b.nd]
noncomputable def ja(R:cp)(s:Nat)(r:b9):b9:=(sh s r).map λd=>lo R (d.2,d.1)
theorem eR(R:cp)(s:Nat)(r:b9):(ja R s r).z=r.z:=by unfold ja;rw[zaa,cK]
theorem oS(h:j<r.z):(ja R s r)[j]?=some (lo R ((dj r<|j+s).2,(dj r<|j+s).1)):=by unfold ja;rw[zao,rG h];rfl
theorem GZ(d:0<r.z)(j:Nat):cy (ja R s r) j=lo R ((dj r<|j+s).2,(dj r<|j+s).1):=by
 let c:j%r.z<r.z:=zbr _ d;let f:cy (ja R s r) j=cy (ja R s r) (j%r.z):=bP (by rw[eR,zbT]);let a:j%r.z<(ja R s r).z:=by erw[eR,c]
 rw[f,fI a];let b:=oS (R:=R) (s:=s) c;rw[zaf a]at b;rw[zaq b];let e:dj r (j%r.z+s)=dj r (j+s):=bU (by rw[zdM]);rw[e]
noncomputable def tS(D:cp):Prop:=∀(k:Nat) (l:b9),D[k]?=some l->(k:Int)∉l/\l.Nodup
theorem yh(a:av L)(h:Dt L d):Dt L (d.2,d.1):=by let:=h.back a;exact#[this.1,this.2.1,this.2.2.2]
theorem oV(a:me L R):(R.flatMap<|sh 0).z<=(eN L L.z).z:=
 dH a.nd λx b=>by let#[r,d,c]:=zaK.mp b;let g:=a.good r d;let#[j,rfl]:=(bE (by let:=g.two;lia)).mp c;exact(g.dt j).all
theorem Gf(b:me L R)(a:r∈R):r.z<=(eN L L.z).z:=by
 let c:=oV b;let d:(sh 0 r).z<=(R.flatMap<|sh 0).z:=by
  clear c b;induction R with
  | nil=>cases a
  | cons q R e=>
   rw[zcy,zay];ext(z|z:zas.mp a);rw[z];lia;let:=e z;lia
 rw[cK]at d;lia
theorem EA(c:me L R):2*R.z<=(eN L L.z).z:=by
 refine zaI ?_<|oV c;let h:∀S:cp,(∀r∈S,2<=r.z)->2*S.z<=(S.flatMap<|sh 0).z:=by
  ext S;induction S with
  | nil=>intro _;simp
  | cons q S d=>
   ext b;rw[zcy,zay,cK,zbd];let e:=b q zal;let f:=d λr a=>b r<|zag _ a;lia
 exact h R λr a=>(c.good r a).two
theorem lB{a b:Type}(f:a->List b)(R:List a)(i:Nat):((R.take i).flatMap f).Sublist<|R.flatMap f:=by
 let e:R.flatMap f=(R.take i).flatMap f++(R.drop i).flatMap f:=by rw[<-zcn,zcN]
 erw[e,sublist_append_left _ _]
end Gm
namespace L2
open PySem
theorem nD(e:X.K=K){a:Pos}{k:Nat}{t:Jl}{n:Nat}(b:X.calm=true)(h:RF X es t)(c:(assignEach es X.env).z=n:=by rfl)(d:(assignEach es X.env).findIdx? (·.1)=none:=by rfl):PG X (.Tuple es k a)<|KN K n t:=by subst e;exact kE b h c d
theorem wW(h:td σ H λx c=>ty σ c λy b=>∃a v,x=.ref a/\k7 b a y (some v)/\Q v b):FQ td ty σ H Q:=h
end L2
namespace Gm
open PySem L2
inductive dW(L:cp)(S:b9)(s:Int):Int->Prop where
 | here:dW L S s s
 | step {i:Nat} {l:b9} {x:Int}:dW L S s i->L[i]?=some l->x∈l->x∉S->dW L S s x
theorem dW.rg(h:dW L S s x)(m:av L)(b:0<=s/\s<L.z):0<=x/\x<L.z:=by
 cases h with
 | here=>exact b
 | step _ e a _=>
  let:=m.rg _ _ e x a;exact#[this.1,this.2.1]
structure Fv(L:cp)(S:b9)(s:Int)(ks ws:b9):Prop where
 nd:ks.Nodup
 nw:ws.Nodup
 st:s∈ks
 re:∀x∈ks,dW L S s x
 sub:∀x∈ws,x∈ks
 cl:∀(i:Nat) (l:b9),(i:Int)∈ks->(i:Int)∉ws->L[i]?=some l->∀x∈l,x∉S->x∈ks
structure Jn(L:cp)(S:b9)(s:Int)(ks ws:b9)(pl:Nat)(l:b9)(k:Nat):Prop where
 nd:ks.Nodup
 nw:ws.Nodup
 st:s∈ks
 re:∀x∈ks,dW L S s x
 sub:∀x∈ws,x∈ks
 pk:(pl:Int)∈ks
 cl:∀(i:Nat) (m:b9),(i:Int)∈ks->(i:Int)∉ws->i≠pl->L[i]?=some m->∀x∈m,x∉S->x∈ks
 tk:∀x∈l.take k,x∉S->x∈ks
section
variable {L:cp} {S:b9} {s:Int} {ks ws:b9} {pl k:Nat} {l:b9} {x:Int}
theorem Fv.start:Fv L S s [s] [s]:=#[by simp,by simp,by simp,λx h=>by erw[zaj.mp h,.here],λx h=>h,λi l a b=>absurd a b]
theorem Fv.pop(h:Fv L S s ks<|ws++[(pl:Int)]):Jn L S s ks ws pl l 0:=
 #[h.nd,(wB.mp h.nw).2,h.st,h.re,λx a=>h.sub x<|zaJ _ a,h.sub _ A?,λi m b c e d x a=>h.cl i m b (λz=>by ext(z|z:zam.mp z);exact c z;let:=zaj.mp z;lia) d x a,λx a=>by simp at a]
theorem Jn.add(h:Jn L S s ks ws pl l k)(e:l[k]?=some x)(n:x∉ks)(o:x∉S)(f:L[pl]?=some l):Jn L S s (ks++[x]) (ws++[x]) pl l<|k+1:=by refine#[wB.mpr #[n,h.nd],wB.mpr #[λz=>n<|h.sub _ z,h.nw],zaJ _ h.st,λy a=>?_,λy a=>?_,zaJ _ h.pk,λi m d c g j y a b=>?_,λy a b=>?_];ext(z|z:zam.mp a);exact h.re y z;rw[zaj.mp z];exact .step (h.re _ h.pk) f (zah e) o;ext(z|z:zam.mp a);exact zaJ _<|h.sub y z;exact zaF _ z;refine zaJ _<|h.cl i m ?_ (λz=>c<|zaJ _ z) g j y a b;ext(z|z:zam.mp d);exact z;exact absurd (zaF _ z) c;ext(z|z:yL e a);exact zaJ _<|h.tk y z b;erw[z,zaF _ A?]
theorem Jn.skip(h:Jn L S s ks ws pl l k)(e:l[k]?=some x)(n:x∈ks\/x∈S):Jn L S s ks ws pl l<|k+1:=
 #[h.nd,h.nw,h.st,h.re,h.sub,h.pk,h.cl,λy b a=>by ext(z|z:yL e b);exact h.tk y z a;ext(n|n:n);rw[z];exact n;exact absurd (z▸n) a]
theorem Jn.done(h:Jn L S s ks ws pl l l.z)(f:L[pl]?=some l):Fv L S s ks ws:=
 #[h.nd,h.nw,h.st,h.re,h.sub,λi m d g a x b c=>by by_cases e:i=pl;subst e;rw[f]at a;cases a;exact h.tk x (by erw[zbp,b]) c;exact h.cl i m d g e a x b c]
theorem Fv.all(h:Fv L S s ks [])(x:Int):x∈ks↔dW L S s x:=by
 refine#[h.re x,λr=>?_];induction r with
 | here=>exact h.st
 | step _ e a b c=>exact h.cl _ _ c A? e _ a b
theorem Fv.len(m:av L)(c:0<=s/\s<L.z)(b:ks.Nodup)(d:∀x∈ks,dW L S s x):ks.z<=L.z:=cG b λx a=>(d x a).rg m c
end
noncomputable def fR(n:Nat):b9:=(List.range n).map λi:Nat=>(i:Int)
theorem ig:x∈fR n↔0<=x/\x<n:=by unfold fR;rw[mem_map];constructor;ext⟨i,a,rfl⟩;let:=zaU.mp a;lia;intro#[h1,h2];exact#[x.toNat,zaU.mpr (),()]
theorem mR(n:Nat):(fR n).Nodup:=zbB _ (λa b h z=>h ()) nodup_range
theorem Jv(h:i<n):(fR n)[i]?=some (i:Int):=by unfold fR;simp[h]
theorem gg(n:Nat):(fR n).z=n:=by unfold fR;simp
noncomputable def left(n:Nat)(S:b9):b9:=(fR n).filter λx=>!decide (x∈S)
open Classical in
noncomputable def rn (L:cp) (S:b9) (s:Int):Nat:=((fR L.z).filter λx=>decide<|dW L S s x).z
noncomputable def V3 (L:cp) (S:b9):Bool:=match left L.z S with | []=>false|s::r=>decide<|rn L S s<(s::r).z
noncomputable def twos(n a:Nat):cp:=(List.range<|n-(a+1)).map λj:Nat=>[(a:Int),(a:Int)+1+(j:Int)]
noncomputable def Bg(n:Nat):Nat->cp
 | 0=>[]::(fR n).map λi=>[i]
 | k+1=>Bg n k++twos n k
theorem aO.uI(g:aO H t bs R)(k:aO H c cs M)(j:H u=none):aO (upd H u<|.lst<|bs.d++cs.d) u (bs++cs)<|R++M:=by let n1:=g.fQ j;let n2:=k.fQ j;refine#[by erw[zaw,ah],by rw[zay,zay,g.len,k.len],λi a l b f=>?_];ext(d|d:zeD i bs.z);rw[zaO d]at b;rw[zaO<|by erw[<-g.len,d]]at f;let h:a≠u:=λe=>n1 (by erw[<-e,zag _<|zah b]);rw[aG h];exact g.row i a l b f;rw[zaL d]at b;rw[zaL (by erw[<-g.len,d]),<-g.len]at f;let h:a≠u:=λe=>n2 (by erw[<-e,zag _<|zah b]);erw[aG h,k.row _ a l b f]
theorem Gh(m:av L)(h:Dt L (a,b))(D:Dec L R)(s:kX L S) :
  ∃j k,Dec (rem L a b) j/\kX (rem L a b) k/\((j.z+iso (rem L a b)=R.z+iso L+1/\k.z=S.z+1)\/(j.z+1+iso (rem L a b)=R.z+iso L/\k.z=S.z)):=by
 let#[M,b1,b2,I]:=h.back m;let v:Dt L (b,a):=#[M,b1,I];let i:=wO m h;let l:=gU m h;let n:=gU m v;ext(⟨A,B,T,D',w,f,e⟩|⟨A,B,T,D',w,x,C,f,e,dd⟩:wQ m h D);let#[t0,E]:=s.more m h;let r:A=[]↔nx L (a,b)=(b,a):=by
  constructor;ext z;rw[z]at f;exact f.nil_eq;ext z;cases A with
  | nil=>rfl
  | cons p A=>
   let c:=f.hd;let dt:=(D'.mem p).mp<|zaT.mpr #[p::A,by simp,zal];rw[c,z]at dt;exact absurd rfl ((cQ m h).mp dt).2.2
 let t:B=[]↔nx L (b,a)=(a,b):=by
  constructor;ext z;rw[z]at e;exact e.nil_eq;ext z;cases B with
  | nil=>rfl
  | cons p B=>
   let c:=e.hd;let dt:=(D'.mem p).mp<|zaT.mpr #[p::B,by simp,zal];rw[c,z]at dt;exact absurd rfl ((cQ m h).mp dt).2.1
 let u:∀A:List ak,((if A=[]then []else [A]):List<|List ak).z=if A=[]then 0 else 1:=λA=>by by_cases z:A=[];rw[zad z,zad z];rfl;rw[zab z,zab z];rfl
 let H:(if A=[]then 0 else 1)+(if(XS L b).erase a=[]then 1 else 0)=1:=by by_cases z:A=[];rw[zad z,zad<|l.mpr<|r.mp z];rw[zab z,zab<|λy=>z<|r.mpr<|l.mp y]
 let O:(if B=[]then 0 else 1)+(if(XS L a).erase b=[]then 1 else 0)=1:=by by_cases z:B=[];rw[zad z,zad<|n.mpr<|t.mp z];rw[zab z,zab<|λy=>z<|t.mpr<|n.mp y]
 refine#[_,_,D',E,.inl #[?_,rfl]];rw[zay,zay,u,u,i];lia;let o:∀d∈A,Dt (rem L a b) d:=λd g=>dd d<|zaJ _ g;let q:∀d∈B,Dt (rem L a b) d:=λd g=>dd d<|zaF _ g;let F:=f.reach o;let G:=e.reach q;let K:¬(XS L b).erase a=[]:=λz=>by
  cases A with
  | nil=>exact x rfl
  | cons p A=>
   let c:=f.hd;let dt:=o p zal;rw[c,l.mp z]at dt;exact((cQ m h).mp dt).2.2 rfl
 let N:¬(XS L a).erase b=[]:=λz=>by
  cases B with
  | nil=>exact C rfl
  | cons p B=>
   let c:=e.hd;let dt:=q p zal;rw[c,n.mp z]at dt;exact((cQ m h).mp dt).2.1 rfl
 rw[zab K,zab N]at i;refine#[_,_,D',s.Pu m h G F,.inr #[?_,rfl]];rw[zbd,i];lia
structure Jm(L:cp):Prop where
 map:av L
 Jk:∃R S,Dec L R/\kX L S/\2*(L.z+R.z+iso L)=(eN L L.z).z+4*S.z
theorem bS.Yf(s:bS L):Jm L:=by let#[R,D,e]:=s.Jk;let:=dA s.map;exact#[s.map,R,[0],D,s.span,by simp[zbd,zdQ];lia]
theorem Jm.rem(f:Jm L)(h:Dt L (a,b)):Jm<|rem L a b:=by let#[R,S,D,s,e]:=f.Jk;let#[i,g,D',d,c]:=Gh f.map h D s;let:=(m7 f.map h).2;refine#[ng f.map h,i,g,D',d,?_];rw[fg]at *;lia
theorem mE{p:Int->Bool}{x:Int}(a:p x=false):∀(l:b9),(l.erase x).filter p=l.filter p
 | []=>rfl
 | y::l=>by rw[erase_cons];by_cases e:y=x;subst e;rw[zad<|beq_self_eq_true _,zdg,a];rfl;rw[zab (by simpa using e),zdg,zdg,mE a l]
theorem Jm.sub(K:ak->Bool)(r:∀x y,K (x,y)=K (y,x)):∀(N:Nat) {L:cp},Jm L->(eN L L.z).z=N->
  ∃M,Jm M/\M.z=L.z/\∀x:Int,0<=x->XS M x=(XS L x).filter λy=>K (x,y):=by
 ext N;induction N using Nat.strongRecOn with
 | _ N p=>
 ext L f t;by_cases q:∀d,Dt L d->K d=true;refine#[L,f,rfl,λx c=>?_];by_cases o:x<L.z;exact(List.filter_eq_self.mpr λy s=>q (x,y) #[c,o,s]).symm;let:XS L x=[]:=by unfold XS;rw[zak,zbO ()];rfl
 rw[this];rfl;have⟨d,j⟩:∃d,¬(Dt L d->K d=true):=Classical.not_forall.mp q;let h:=zaB λz=>j λy=>absurd y z;let k:K d=false:=by
  cases e:K d with
  | false=>rfl
  | true=>exact absurd (λ_=>e) j
 let#[a,b]:=d;let u:=(m7 f.map h).2;let#[M,l,m,n]:=p _ () (f.rem h) rfl;refine#[M,l,m.trans fg,λx c=>?_];rw[n x c,mZ f.map h c];by_cases g:x=b;subst g;rw[zad rfl];exact mE (by erw[r,k]) _;rw[zab g];by_cases i:x=a;subst i;rw[zad rfl];exact mE k _;rw[zab i]
theorem vX:∀(L:cp),(∀l∈L,l=[]\/l.z=2)->(L.map List.length).sum+2*L.countP (·.isEmpty)=2*L.z
 | [],_=>by simp
 | l::L,h=>by let b:=vX L λl a=>h l<|zag _ a;rw[zbd,zbg,zdo,countP_cons];ext(z|z:h l zal);subst z;simp[zdQ,isEmpty_nil,zfp];lia;rw[zab<|by cases l with|nil=>simp at z|cons _ _=>simp];lia
theorem KS(L:cp):(eN L L.z).z=(L.map List.length).sum:=by
 let h:=Dd (k:=L.z)<|zai _;rw[zbp]at h;let g:∀(l:cp),(l.map λl=>(l.z:Int)).sum=((l.map List.length).sum:Nat):=λl=>by
  induction l with
  | nil=>rfl
  | cons a l b=>rw[zbg,zbg,zdo,zdo,b];simp
 rw[g]at h;exact Int.ofNat.inj h
theorem IH(L:cp):(List.range L.z).map (λi=>L.getD i [])=L:=by refine zcr A? λi a b=>?_;simp at a ⊢;simp[a]
theorem FZ{x:Int}(s:kX L S)(B:0<=x)(D:x<L.z)(f:XS L x≠[])(m:av L):iso L+1<=S.z:=by
 let#[g,o,r]:=s x B D;let E:XS L g≠[]:=λz=>by
  ext(e|⟨j,l,N,M⟩:r.inv);rw[e]at f;exact f z
  
  let:∀y,Reach L g y->y=g:=λy n=>by
   induction n with
   | here=>rfl
   | step n e c F=>
    rename_i i l' y;let:XS L g=l':=by erw[<-F,(by unfold XS;simp[e])]
    rw[z]at this;rw[<-this]at c;cases c
  rw[this x r]at f;exact f z
 refine let I:b9:=((List.range L.z).filter λi=>(L.getD i []).isEmpty).map λi:Nat=>(i:Int);?_;let G:I.z=iso L:=by show(((List.range L.z).filter λi=>(L.getD i []).isEmpty).map λi:Nat=>(i:Int)).z=_;rw[zaa,<-countP_eq_length_filter];unfold iso;let:=zaA (List.countP (·.isEmpty))<|IH L;rwa[countP_map]at this
 let k:∀y,y∈I->0<=y/\y<L.z/\XS L y=[]:=λy c=>by let#[i,C,rfl]:=zap.mp c;let#[A,v]:=zdJ.mp C;let:=zaU.mp A;exact#[(),(),by unfold XS;simpa using v]
 let:=dH (zar.mpr #[λz=>E (k _ z).2.2,(zbB _ (λa b h z=>h ())<|List.nodup_range.filter _)]) λy c=>by
  ext(z|z:zas.mp c);rw[z];exact o;let#[q,p,w]:=k y z;let#[t,H,rt]:=s y q p;cases rt with
  | here=>exact H
  | step K e u=>
   rename_i i l;let d:=Reach.oj e u;let:=(d.back m).2.2.2;rw[w]at this;cases this
 rwa[zbd,G]at this
theorem two_pre(n:l.Nodup)(h:∀z,z∈l↔z=a\/z=b)(f:a≠b):l.z=2/\pre l a=b/\pre l b=a:=by
 let d:=len_eq (r:=[a,b]) n (by simp[f]) λz=>by rw[h z];simp
 match l,d with
 | [x,y],_=>
  let c:x≠y:=by simpa using n
  let e:=(h x).mp A?;let g:=(h y).mp A?;refine#[rfl,?_];ext(rfl|rfl:e)<;>ext(rfl|rfl:g);exact absurd rfl c;let b1:(x==y)=false:=by simpa using c
  constructor<;>simp[pre,cy,zdk,b1];let b1:(x==y)=false:=by simpa using c
  constructor<;>simp[pre,cy,zdk,b1];exact absurd rfl c
theorem Ia(n:[a,b,c,d].Nodup):pre [a,b,c,d] a=d/\pre [a,b,c,d] b=a/\pre [a,b,c,d] c=b/\pre [a,b,c,d] d=c:=by
 simp at n;let#[#[e,h,i],#[m,k],o]:=n;let b1:(a==b)=false:=by simpa using e
 let b2:(a==c)=false:=by simpa using h
 let l:(a==d)=false:=by simpa using i
 let g:(b==c)=false:=by simpa using m
 let j:(b==d)=false:=by simpa using k
 let f:(c==d)=false:=by simpa using o
 refine#[?_,?_,?_,?_]<;>simp[pre,cy,zdk,b1,b2,l,g,j,f]
theorem BU{P:Int->Bool}{s l:b9}(h:s.Sublist l):l.Nodup->(∀y∈l,P y=true↔y∈s)->l.filter P=s:=by
 induction h with
 | slnil=>intro _ _;rfl
 | @cons s l a h c=>
  ext n k;let#[n1,n2]:=zar.mp n;let:¬P a=true:=λz=>n1<|h.subset<|(k a zal).mp z;erw[zdT this,c n2 λy b=>k y<|zag _ b]
 | @cons_cons s l a h c=>
  ext n k;let#[n1,n2]:=zar.mp n;rw[zdS<|(k a zal).mpr zal,c n2 λy b=>(k y<|zag _ b).trans #[λz=>(zas.mp z).resolve_left λe=>n1<|e▸b,λz=>zag _ z]]
noncomputable def lp(v:Int)(p:b9)(j:Nat):Int:=if j=0 then v else p.getD (j-1) v
noncomputable def On(v:Int)(p:b9)(d:ak):Prop:=∃j,j<=p.z/\(d=(lp v p j,lp v p<|j+1)\/d=(lp v p<|j+1,lp v p j))
section
variable {v:Int} {p:b9}
theorem xx:lp v p 0=v:=rfl
theorem kK(b:1<=i)(a:i<=p.z):lp v p i=p[i-1]'():=by unfold lp;rw[zab (),zak,zaf (),Option.getD_some]
theorem jH:lp v p (p.z+1)=v:=by unfold lp;rw[zab (),zak,zbO (),Option.getD_none]
theorem xA(b:1<=i)(a:i<=p.z):lp v p i∈p:=by erw[kK b a,zbL _]
theorem pO(a:v∉p)(c:1<=i)(b:i<=p.z):lp v p i≠v:=λz=>a<|z▸xA c b
theorem BA(n:p.Nodup)(b:1<=i)(a:i<=p.z)(k0:1<=j)(k1:j<=p.z)(e:lp v p i=lp v p j):i=j:=by rw[kK b a,kK k0 k1]at e;let:=(zcq n).mp e;lia
theorem zU(h:j<=p.z+1):lp v p j=v\/lp v p j∈p:=by by_cases b:j=0;exact .inl (by rw[b];rfl);by_cases a:j=p.z+1;exact .inl (by erw[a,jH]);exact .inr<|xA () ()
theorem On.sw(h:On v p (x,y)):On v p (y,x):=by let#[j,a,e]:=h;refine#[j,a,?_];ext(e|e:e);right;exact zbA (zaA Prod.snd e)<|zaA Prod.fst e;left;exact zbA (zaA Prod.snd e)<|zaA Prod.fst e
theorem On.fst(h:On v p d):d.1=v\/d.1∈p:=by let#[j,a,e]:=h;ext(e|e:e)<;>rw[e];exact zU ();exact zU (j:=j+1) ()
theorem On.mid(n:p.Nodup)(f:v∉p)(c:1<=i)(b:i<=p.z)(y:Int):On v p (lp v p i,y)↔y=lp v p (i-1)\/y=lp v p (i+1):=by constructor;rintro⟨j,g,e|e⟩;let a:=zaA Prod.fst e;let d:=zaA Prod.snd e;by_cases z:j=0;rw[z]at a;exact absurd a<|pO f c b;let:=BA n c b () g a;rw[this];exact .inr d;let a:lp v p i=lp v p (j+1):=zaA Prod.fst e;let d:y=lp v p j:=zaA Prod.snd e;by_cases z:j+1=p.z+1;rw[z,jH]at a;exact absurd a<|pO f c b;let:=BA n c b () () a;left;rw[d,this];rfl;rintro (e|e);exact#[i-1,(),.inr<|by rw[e,show i-1+1=i by lia]];exact#[i,(),.inl<|by rw[e]]
theorem nH(n:p.Nodup)(a:v∉p)(b:2<=p.z)(d:1<=i)(c:i<=p.z):lp v p (i-1)≠lp v p (i+1):=λe=>by by_cases z:i=1;subst z;exact pO a () b e.symm;by_cases y:i=p.z;rw[y,jH]at e;exact pO a () () e;let:=BA n () () () () e;lia
theorem On.at(c:v∉p)(f:1<=p.z)(y:Int):On v p (v,y)↔y=lp v p 1\/y=lp v p p.z:=by constructor;rintro⟨j,d,e|e⟩;let b:=zaA Prod.fst e;let a:=zaA Prod.snd e;by_cases z:j=0;subst z;exact .inl a;exact absurd b.symm<|pO c () d;let b:v=lp v p (j+1):=zaA Prod.fst e;let a:y=lp v p j:=zaA Prod.snd e;by_cases z:j=p.z;subst z;exact .inr a;exact absurd b.symm<|pO c () ();rintro (e|e);exact#[0,(),.inl<|by rw[e];rfl];exact#[p.z,(),.inr<|by rw[e,jH]]
end
theorem along(n:p.Nodup)(f:v∉p)(e:2<=p.z)(b:∀i,1<=i->i<=p.z->(XS M<|lp v p i).Nodup)(a:∀i,1<=i->i<=p.z->∀y,y∈XS M (lp v p i)↔y=lp v p (i-1)\/y=lp v p (i+1)){C:ak->Prop}(c:∀d,C d->C (nx M d))(h:C (v,lp v p 1)):∀j,j<=p.z->C (lp v p j,lp v p<|j+1)
 | 0,_=>h
 | j+1,hj=>by
  let g:=c _<|along n f e b a c h j ();let t:=(two_pre (b (j+1) () hj) (a (j+1) () hj)<|nH n f e () hj).2.1;let:nx M (lp v p j,lp v p<|j+1)=(lp v p<|j+1,lp v p<|j+1+1):=by show(_,_)=_;exact zbA rfl t
  rwa[this]at g
theorem IP(n:p.Nodup)(g:v∉p)(e:2<=p.z)(b:∀i,1<=i->i<=p.z->(XS M<|lp v p i).Nodup)(a:∀i,1<=i->i<=p.z->∀y,y∈XS M (lp v p i)↔y=lp v p (i-1)\/y=lp v p (i+1)){C:ak->Prop}(c:∀d,C d->C (nx M d))(h:C (v,lp v p p.z)):∀k,k<=p.z->C (lp v p<|p.z-k+1,lp v p<|p.z-k)
 | 0,_=>by erw[zeE,jH,h]
 | k+1,hk=>by let f:=c _<|IP n g e b a c h k ();let t:=(two_pre (b (p.z-k) () ()) (a (p.z-k) () ())<|nH n g e () ()).2.2;let:nx M (lp v p<|p.z-k+1,lp v p<|p.z-k)=(lp v p<|p.z-k,lp v p<|p.z-k-1):=zbA rfl t;rw[this]at f;erw[show p.z-(k+1)+1=p.z-k by lia,show p.z-(k+1)=p.z-k-1 by lia,f]
theorem G8(D:Dec L R)(hc:c∈R)(all:∀d,Dt L d->d∈c):R.z<=1:=by
 match R,D,hc with
 | [],_,_=>simp
 | [_],_,_=>simp
 | c1::c2::R,D,hc=>
  exfalso;let w:∀e∈c1::c2::R,∃d∈e,d∈c:=λe he=>by let#[x,l,rfl,_]:=D.jq e he;exact#[x,zal,all x<|(D.mem x).mp<|zaT.mpr #[_,he,zal]]
  let#[d1,m1,n1]:=w c1 A?;let#[d2,m2,n2]:=w c2 A?;let e1:=jd D.nd A? hc m1 n1;let e2:=jd D.nd A? hc m2 n2;let:=D.nd;rw[zbz,zbz]at this;exact(zbh.mp this).2.2 d1 m1 d1 (zaJ _<|by erw[e2,<-e1,m1]) rfl
theorem Jm.Rr(f:Jm L){v o n1 n2 n3:Int}(F:0<=v)(v1:v<L.z)(Q:[o,n1,n2,n3].Sublist<|XS L v)(N:p.Nodup)(G:q.Nodup)(t:v∉p)(w:v∉q)(pq:∀x∈p,x∉q)(p2:2<=p.z)(U:2<=q.z)(H:lp v p 1=o)(K:lp v p p.z=n2)(X:lp v q 1=n1)(P:lp v q q.z=n3)(dp:∀i,1<=i->i<p.z->Dt L (lp v p i,lp v p<|i+1))(dq:∀i,1<=i->i<q.z->Dt L (lp v q i,lp v q<|i+1)):False:=by
 let Qa:=f.map.nd _ _<|aD F v1;let n4:=Q.nodup Qa;let g:∀x∈[o,n1,n2,n3],Dt L (v,x):=λx hx=>#[F,v1,Q.subset hx];let back:∀x y,Dt L (x,y)->Dt L (y,x):=λx y h=>by let#[b0,b1,_,W]:=h.back f.map;exact#[b0,b1,W]
 let V6:∀d,On v p d->Dt L d:=by
  ext d ⟨j,E,e⟩;let:Dt L (lp v p j,lp v p<|j+1):=by by_cases z:j=0;subst z;rw[xx,H];exact g _ A?;by_cases y:j=p.z;rw[y,jH,K];exact back _ _<|g _ A?;exact dp j () ()
  ext(e|e:e)<;>rw[e];exact this;exact back _ _ this
 let V5:∀d,On v q d->Dt L d:=by
  ext d ⟨j,E,e⟩;let:Dt L (lp v q j,lp v q<|j+1):=by by_cases z:j=0;subst z;rw[xx,X];exact g _ A?;by_cases y:j=q.z;rw[y,jH,P];exact back _ _<|g _ A?;exact dq j () ()
  ext(e|e:e)<;>rw[e];exact this;exact back _ _ this
 let T:∀d,Decidable<|On v p d\/On v q d:=λd=>Classical.propDecidable _;let#[M,fM,lM,rM]:=Jm.sub (λd=>@decide _<|T d) (λx y=>by let:(On v p (x,y)\/On v q (x,y))↔(On v p (y,x)\/On v q (y,x)):=#[λh=>h.imp On.sw On.sw,λh=>h.imp On.sw On.sw];exact decide_eq_decide.mpr this) _ f rfl;let mem:∀x y:Int,0<=x->x<L.z->(y∈XS M x↔On v p (x,y)\/On v q (x,y)):=λx y A I=>by erw[rM x A,zeR,decide_eq_true_iff,#[λh=>h.2,λh=>#[(h.elim (V6 _)<|V5 _).mem,h]]]
 let O:∀x:Int,0<=x->x<L.z->(XS M x).Nodup:=λx A I=>by erw[rM x A,(f.map.nd _ _<|aD A I).filter _]
 let u:∀i,1<=i->i<=p.z->0<=lp v p i/\lp v p i<L.z:=λi b a=>by let:=V6 (lp v p i,lp v p<|i+1) #[i,a,.inl rfl];exact#[this.lo,this.hi]
 let r:∀i,1<=i->i<=q.z->0<=lp v q i/\lp v q i<L.z:=λi b a=>by let:=V5 (lp v q i,lp v q<|i+1) #[i,a,.inl rfl];exact#[this.lo,this.hi]
 let MM:∀i,1<=i->i<=p.z->∀y,y∈XS M (lp v p i)↔y=lp v p (i-1)\/y=lp v p (i+1):=λi b a y=>by rw[mem _ _ (u i b a).1 (u i b a).2,On.mid N t b a];refine#[λh=>h.elim id λz=>?_,.inl];ext(z|z:z.fst);exact absurd z<|pO t b a;exact absurd z<|pq _<|xA b a
 let Y:∀i,1<=i->i<=q.z->∀y,y∈XS M (lp v q i)↔y=lp v q (i-1)\/y=lp v q (i+1):=λi b a y=>by rw[mem _ _ (r i b a).1 (r i b a).2,On.mid G w b a];refine#[λh=>h.elim (λz=>?_) id,.inr];ext(z|z:z.fst);exact absurd z<|pO w b a;exact absurd (xA b a)<|pq _ z
 let B:XS M v=[o,n1,n2,n3]:=by rw[rM v F];refine BU Q Qa λy hy=>?_;rw[decide_eq_true_iff,On.at t (),On.at w (),H,K,X,P];simp[zbm,zaR,zbt];constructor;rintro ((h|h) | (h|h))<;>simp[h];rintro (h|h|h|h)<;>simp[h]
 let YJ:=λi b a=>two_pre (O _ (u i b a).1 (u i b a).2) (MM i b a)<|nH N t p2 b a;let YH:=λi b a=>two_pre (O _ (r i b a).1 (r i b a).2) (Y i b a)<|nH G w U b a;let#[R,S,D,s,e]:=fM.Jk;let dv:Dt M (v,o):=#[F,(),by rw[B];simp];let#[c,hc,n]:=zaT.mp<|(D.mem _).mpr dv;let m:∀d,d∈c->nx M d∈c:=λd n=>(D.jq c hc).on n;let Z:∀x,nx M (x,v)=(v,pre [o,n1,n2,n3] x):=λx=>by show(v,pre (XS M v) x)=_;rw[B]
 let#[f0,f1,f2,f3]:=Ia n4;let Qf:=λi b a=>O _ (u i b a).1 (u i b a).2;let We:=λi b a=>O _ (r i b a).1 (r i b a).2;let a1:=along N t p2 Qf MM m (by erw[H,n]);let b1:(n2,v)∈c:=by let:=a1 p.z<|zai _;rwa[jH,K]at this
 let c1:(v,n1)∈c:=by let:=m _ b1;rw[Z,f2]at this;exact this
 let a2:=along G w U We Y m (by erw[X,c1]);let b2:(n3,v)∈c:=by let:=a2 q.z<|zai _;rw[jH,P]at this;exact this
 let c2:(v,n2)∈c:=by let:=m _ b2;rw[Z,f3]at this;exact this
 let a3:=IP N t p2 Qf MM m (by erw[K,c2]);let W:(o,v)∈c:=by let:=a3 p.z<|zai _;rw[zdl,xx,zbQ,H]at this;exact this
 let c3:(v,n3)∈c:=by let:=m _ W;rw[Z,f0]at this;exact this
 let a4:=IP G w U We Y m (by erw[P,c3]);let all:∀d,Dt M d->d∈c:=λd n=>by let:=(mem d.1 d.2 n.lo (by let:=n.hi;lia)).mp n.mem;ext(⟨j,E,e|e⟩|⟨j,E,e|e⟩:this);rw[show d=(lp v p j,lp v p<|j+1)from e];exact a1 j E;rw[show d=(lp v p<|j+1,lp v p j)from e];let:=a3 (p.z-j) ();rw[show p.z-(p.z-j)=j by lia]at this;exact this;rw[show d=(lp v q j,lp v q<|j+1)from e];exact a2 j E;rw[show d=(lp v q<|j+1,lp v q j)from e];let:=a4 (q.z-j) ();rw[show q.z-(q.z-j)=j by lia]at this;exact this
 let r1:=G8 D hc all;let si:=FZ s F () (by rw[B];simp) fM.map;let S5:∀x:Int,0<=x->x<L.z->x≠v->XS M x=[]\/(XS M x).z=2:=λx A I xv=>by by_cases hp:x∈p;right;let#[i,C,rfl]:=zaH.mp hp;let:=(YJ (i+1) () ()).1;rw[kK () ()]at this;exact this;by_cases hq:x∈q;right;let#[i,C,rfl]:=zaH.mp hq;let:=(YH (i+1) () ()).1;rw[kK () ()]at this;exact this;left;refine List.eq_nil_iff_forall_not_mem.mpr λy hy=>?_;ext(z|z:(mem x y A I).mp hy);ext(z|z:z.fst);exact xv z;exact hp z;ext(z|z:z.fst);exact xv z;exact hq z
 let hv:v.toNat<M.z:=();let sp:M=M.take v.toNat++XS M v::M.drop (v.toNat+1):=by
  let:XS M v=M[v.toNat]:=by unfold XS;simp[hv]
  rw[this,getElem_cons_drop,zcN]
 let part:∀(k:Nat) (h:k<M.z),k≠v.toNat->M[k]=[]\/M[k].z=2:=λk h hk=>by
  let:=S5 (k:Int) () () ();let e:XS M (k:Int)=M[k]:=by unfold XS;simp[h]
  rw[e]at this;exact this
 let s1:=vX (M.take v.toNat) λl hl=>by let#[i,C,rfl]:=zaH.mp hl;rw[getElem_take];rw[zbb]at C;exact part i () ()
 let s2:=vX (M.drop<|v.toNat+1) λl hl=>by let#[i,C,rfl]:=zaH.mp hl;rw[getElem_drop];rw[zbF]at C;exact part _ () ()
 let t1:(eN M M.z).z=((M.take v.toNat).map List.length).sum+(4+((M.drop<|v.toNat+1).map List.length).sum):=by
  rw[KS]
  conv=>lhs;rw[sp]
  rw[zaw,zbg,sum_append,zdo,B];rfl
 let t2:iso M=(M.take v.toNat).countP (·.isEmpty)+(M.drop<|v.toNat+1).countP (·.isEmpty):=by
  unfold iso
  conv=>lhs;rw[sp]
  rw[countP_append,countP_cons,B];rfl
 let t3:M.z=(M.take v.toNat).z+(1+(M.drop<|v.toNat+1).z):=by rw[zbb,zbF];lia
 lia
end Gm
namespace Gm
open PySem L2
noncomputable def sw(d:ak):ak:=(d.2,d.1)
theorem HH{l:b9}{k:Nat}(n:l.Nodup)(a:k<l.z):l.idxOf l[k]=k:=by let b:=zbH<|zbL a;exact(zcq n).mp<|zdr b
end Gm
namespace Gm
open PySem L2
noncomputable def nm(a:List<|Int×Int)(p:Int):Int:=(a.lookup p).getD 0
abbrev Wait:=Int×Int×Int
end Gm
namespace L2
open PySem PySem.Spec PySem.W PySem.Calls PyProof.Rows Gm
section
variable {X:Cx} {l:Expr} {tl:TE} {p p2 pos ug:Pos}
noncomputable def yP(tl:TE):TE:=λb H Q=>tl b H λx a=>∃n:Nat,x=.int (n:Int)/\n<=1000/\∀p,a p=none->Q (.ref p) (upd a p<|.lst<|(fR n).c)
theorem D8(h:ItemsOf (λi v=>∃t,v=Value.int (0+(i:Int)*1) t) acc n):Vals ((fR n).c) acc.toList:=by
 let#[f,h]:=h;let b:∀(l:bf) (k:Nat),(∀j v,l[j]?=some v->∃t,v=Value.int (((k+j:Nat):Int)) t)->Vals (((List.range' k l.z).map λi:Nat=>(i:Int)).c) l:=by
  ext l;induction l with
  | nil=>intro k _;exact .nil
  | cons a l g=>
   ext k d;rw[zbd,range'_succ,zbg,zbg];refine .cons ?_<|g (k+1) λj v e=>?_;let#[t,e]:=d 0 a rfl;exact#[t,e];let#[t,c]:=d (j+1) v (by simpa using e);exact#[t,by rw[c];congr 2;lia]
 let:=b acc.toList 0 λj v e=>by let#[t,c]:=h j v (by erw[<-zef,e]);refine#[t,?_];rw[c];congr 1;lia
 rw[zbu,f]at this;unfold fR;erw[range_eq_range',this]
theorem gM(N:X.calm=true)(y:X.mg "range"=none)(O:X.mg "list"=none)(z:PE X l tl)(B:Gl X "range":=by rfl)(K:Gl X "list":=by rfl)(j:starEach [l] X.env=(false,eval l X.env)::starEach [] X.env:=by rfl)(m:starEach [.Call (.Name "range" p) [l] [] pos] X.env=(false,eval (.Call (.Name "range" p) [l] [] pos) X.env)::starEach [] X.env:=by rfl) :
  PE X (.Call (.Name "list" p2) [.Call (.Name "range" p) [l] [] pos] [] ug) (yP tl):=by
 ext pins s f H Q I h;refine Call_<|eJ I K O jO<|zaP ?_ m rfl;rw[m];refine zcf ?_;refine Call_<|eJ I B y boot_range<|zaP ?_ j rfl;rw[j];refine zcf<|dM (z pins s f H _ I h) λS a ⟨x,r,A,E,w⟩=>?_;refine zcj ?_;let#[n,rfl,R,q]:=w;let#[t,rfl]:=E;refine call_range_1 ?_;refine zcj ?_;generalize k:a.heap.push { cls:=Value.type "range",data:=Data.fields #[Value.int 0 a.toks,Value.int (n:Int) t,Value.int 1<|a.toks+1,] }=h';let M:∀c o,a.heap.get? c=some o->h'.get? c=some o:=λc o e=>k▸zav _ e;let F:=k▸IsRange.new ..;let g:Inv X pins f r { a with heap:=h',toks:=a.toks+1+1 }:=A.kept M;refine call_list_range (n:=n) (g.ok.hd N) F (small_one () () () ()) (by rw[rangeSize_one];split<;>lia) () λP L d c C D i=>?_;let G:Inv X pins f (upd r h'.x<|.lst<|(fR n).c) { a with heap:=P,toks:=L }:=by refine Inv.iY (s:={ a with heap:=h',toks:=a.toks+1+1 }) (ch:=[]) g (λb u _ e=>C b u e) (λb v=>by simp at v) (zai _) ?_;exact#[by rw[zaa,gg,zat];lia,d.toList,c,D8 i,by erw[zdB,D]]
 exact#[.ref h'.x,_,G,rfl,q _<|g.bW.fresh<|zai _]
end
theorem oN(h:tl σ H λx a=>∃n:Nat,x=.int (n:Int)/\n<=1000/\∀p,a p=none->Q (.ref p) (upd a p<|.lst<|(fR n).c)):yP tl σ H Q:=h
theorem eP(h:te σ H λx b=>tl σ b λl a=>th σ a λu c=>r x l u c Q):IZ r te tl th σ H Q:=h
theorem xW{k:Nat}{y:Int}(h:xs[k]?=some y):(y::xs.eraseIdx k).Perm xs:=by let#[a,e]:=zac.mp h;rw[eraseIdx_eq_take_drop_succ];refine List.perm_middle.symm.trans ?_;rw[<-e,<-zcg a,zcN]
end L2
namespace Gm
open PySem L2
noncomputable def gF(l:b9)(i:Int):Int:=l.getD i.toNat 0
theorem Hg{k:Nat}{x:Int}(h:l[k]?=some x):gF l (k:Int)=x:=by unfold gF;rw[zau,zak,h];rfl
theorem qC(b:0<=i)(c:i<l.z):l[i.toNat]?=some (gF l i):=by
 let a:i.toNat<l.z:=();let:=Hg<|zaf a;rw[zbE b]at this;erw[this,zaf a]
structure tO(n:Nat)(l:b9):Prop where
 len:l.z=n
 nd:l.Nodup
 rg:∀x∈l,0<=x/\x<n
theorem tO.all{n:Nat}(h:tO n l){x:Int}(c:0<=x)(b:x<n):x∈l:=by
 refine zaB λz=>?_;let:=cG (zar.mpr #[z,h.nd]) λy a=>by ext(rfl|a:zas.mp a);exact#[c,b];exact h.rg y a
 rw[zbd,h.len]at this;lia
theorem tO.PK{n:Nat}(h:tO n l){i:Int}(b:0<=i)(a:i<n):0<=gF l i/\gF l i<n:=
 h.rg _ (zah<|qC b<|by erw[h.len,a])
theorem tO.inj{n:Nat}(h:tO n l){i j:Int}(f:0<=i)(k:i<n)(g:0<=j)(d:j<n)(e:gF l i=gF l j):i=j:=by let a:=qC f (by erw[h.len,k]);let b:=qC g (by erw[h.len,d]);rw[e]at a;let#[m,c]:=zac.mp a;let#[b1,b2]:=zac.mp b;let:=(zcq h.nd).mp<|c.trans b2.symm;lia
theorem tO.ui{n:Nat}(h:tO n l){x:Int}(c:0<=x)(b:x<n):∃j:Int,0<=j/\j<n/\gF l j=x:=by let#[k,a,e]:=zaH.mp<|h.all c b;exact#[(k:Int),(),by rw[h.len]at a;lia,Hg<|by rw[zaf a,e]]
structure B9(A:cp)(l:b9)(R:cp):Prop where
 len:R.z=A.z
 row:∀j:Int,0<=j->j<A.z->R[(gF l j).toNat]?=some ((XS A j).map<|gF l)
theorem dh{i:Nat}(h:L[i]?=some l):XS L (i:Int)=l:=by unfold XS;rw[zau,zak,h];rfl
theorem B9.ir(h:B9 A l R)(n:tO A.z l)(m:av A):av R:=by
 let q:∀(i:Nat) (r:b9),R[i]?=some r->∃j:Int,0<=j/\j<A.z/\gF l j=i/\r=(XS A j).map (gF l):=λi r p=>by let I:=(zac.mp p).1;rw[h.len]at I;let#[j,c,f,e]:=n.ui (x:=(i:Int)) () ();let s:=h.row j c f;rw[e,zau,p]at s;exact#[j,c,f,e,zaq s]
 let t:∀{j x:Int},0<=j->j<A.z->x∈XS A j->0<=x/\x<A.z/\x≠j/\j∈XS A x:=λ{j x} c f g=>Dt.back (d:=(j,x)) #[c,f,g] m;refine#[λi r p=>?_,λi r p y u=>?_,λi r p y u k G N H=>?_];let#[j,c,f,e,rfl]:=q i r p;let K:=m.nd _ _<|aD c f;let:∀l':b9,l'.Nodup->(∀x∈l',0<=x/\x<A.z)->(l'.map<|gF l).Nodup:=by
  ext l';induction l' with
  | nil=>intro _ _;exact zeH
  | cons a l' M=>
   ext L v;rw[zbg,zdj];let C:=zar.mp L;refine#[λz=>?_,M C.2 λx g=>v x<|zag _ g];let#[b,B,F]:=zap.mp z;let E:=v a zal;let w:=v b<|zag _ B;exact C.1<|n.inj w.1 w.2 E.1 E.2 F▸B
 exact this _ K λx g=>#[(t c f g).1,(t c f g).2.1];let#[j,c,f,e,rfl]:=q i r p;let#[x,g,rfl]:=zap.mp u;let o:=t c f g;let D:=n.PK o.1 o.2.1;exact#[D.1,by erw[h.len,D.2],λz=>o.2.2.1<|n.inj o.1 o.2.1 c f<|z.trans e.symm];let#[j,c,f,e,rfl]:=q i r p;let#[x,g,rfl]:=zap.mp u;let o:=t c f g;let s:=h.row x o.1 o.2.1;rw[G,zau,H]at s;erw[zaq s,zap.mpr #[j,o.2.2.2,e]]
noncomputable def Cb(L:cp):Prop:=∀x:Int,0<=x->x<L.z->Reach L 0 x
theorem Reach.sym(h:Reach L s x)(m:av L)(f:0<=s/\s<L.z):Reach L x s:=by
 induction h with
 | here=>exact .here
 | @step i l x r e a c=>
  let d:=Reach.oj e a;let b:=d.back m;exact(Reach.one (d:=(x,(i:Int))) .here #[b.1,b.2.1,b.2.2.2]).trans c
theorem Cb.of(m:av L){s:Int}(d:0<=s)(c:s<L.z)(h:∀x:Int,0<=x->x<L.z->Reach L s x):Cb L:=λx b a=>
 ((h 0 (Int.le_refl 0) ()).sym m #[d,c]).trans (h x b a)
theorem mr(e:St->Hp->Prop)(f:∀c d,e c d->b D c d)(g:∀T:St->Hp->Prop,(∀c d,e c d->T c d)->a { D with nx:=T } σ H):Mz a b D σ H:=g _ f
theorem lj(h:t σ H λx b=>∃a,x=.ref a/\(∃xs,aK K b a xs)/\R (Fu K a) b):Af K t σ H R:=h
end Gm
namespace Gm
open PySem L2
theorem gQ{c:List ak}(h:(c.map (·.1)).Nodup){d e:ak}(f:d∈c)(a:e∈c)(q:d.1=e.1):d=e:=by let#[i,g,rfl]:=zaH.mp f;let#[j,b,rfl]:=zaH.mp a;let:=(zcq (h₀:=by erw[zaa,g]) (h₁:=by erw[zaa,b]) h).mp (by erw[zcB,zcB,q]);subst this;rfl
theorem Wk.hold{f:ak->ak}{P:ak->Prop}{x y:ak}(k:Wk f x l y)(c:P x)(b:∀d,d∈l->P d->P (f d)):∀e∈l,P e:=by
 induction k with
 | nil _=>intro e a;cases a
 | @cons x y l k g=>
  ext e a;ext(z|z:zas.mp a);rw[z];exact c;exact g (b x zal c) (λd h=>b d<|zag _ h) e z
theorem vV.all{f:ak->ak}{P:ak->Prop}(h:vV f c){d:ak}(b:d∈c)(g:P d)(a:∀e,e∈c->P e->P (f e)):∀e∈c,P e:=by let#[v,pv,k]:=h.turn b;ext e j;ext(z|z:zas.mp<|pv.mem_iff.mpr j);rw[z];exact g;exact k.hold (a d b g) (λx i=>a x<|pv.mem_iff.mp<|zag _ i) e z
noncomputable def ox(L:cp):Prop:=∀d,Dt L d->∃c,d∈c/\vV (nx L) c/\(c.map (·.1)).Nodup
theorem ox.ring(s:ox L)(g:Good L r)(n:(sh 0 r).Nodup):r.Nodup:=by let#[c,a,h,b]:=s _<|g.dt 0;let all:∀j,dj r j∈c:=λj=>g.on (λd _ k=>h.on k) a j;refine zbe.mpr λi j l m f e=>?_;refine kS n f ()<|gQ b (all i) (all j) ?_;show cy r i=cy r j;erw[fI l,fI m,e]
theorem ox.apart(s:ox L)(st:bS L)(u:3<=L.z)(D:Dec L R)(h:Dt L (a,b))(i:c∈R)(k:(a,b)∈c):(b,a)∉c:=by
 ext t;let#[v,j,g,l]:=s _ h;let m:=D.jq c i;let b1:=m.all k j (λe _ f=>g.on f) _ t;let p:=gQ l (g.on j) b1 rfl;let q:=gQ l (g.on b1) j rfl;let all:=m.all (P:=λd=>d=(a,b)\/d=(b,a)) k (.inl rfl) λe _ f=>by ext(rfl|rfl:f);exact .inr p;exact .inl q
 let o:=(zcb.mp D.nd).1 c i;let:=dH (r:=[(a,b),(b,a)]) o λx n=>by ext(z|z:all x n)<;>simp[z]
 let:=st.three u D i;simp at *;lia
theorem cY(n:r.Nodup)(h:i<j)(l:j<i+r.z):cy r i≠cy r j:=by
 ext z;let d:0<r.z:=();let f:=zbr i d;let k:=zbr j d;let g:cy r i=r[i%r.z]:=by erw[<-fI f,bP<|by rw[zbT]]
 let e:cy r j=r[j%r.z]:=by erw[<-fI k,bP<|by rw[zbT]]
 rw[g,e]at z;let m:=(zcq n).mp z;let:=zet i r.z;let:=zet j r.z;let a:r.z*(i / r.z)<r.z*(j / r.z):=();let b:i / r.z+1<=j / r.z:=Nat.lt_of_mul_lt_mul_left a;let c:=zdE r.z b;rw[Nat.mul_add,Nat.mul_one]at c;lia
theorem Ms(n:r.Nodup)(s:Nat):∀{m:Nat},m<=r.z->((List.range m).map λt=>cy r<|s+t).Nodup:=λ{m} d=>by refine zbB _ (R:=λa b=>a<b/\b<m) (λa b h=>?_) ?_;exact cY n () ();refine zcd (λ{a b} e c h=>#[h,zaU.mp c]) pairwise_lt_range
theorem seg_at(a:0<r.z):∃u,u<r.z/\dj r t=dj r (s+u):=by refine#[(t+s*r.z-s)%r.z,zbr _ a,bU ?_];let e:=zde s a;rw[Nat.add_mod_mod,show s+(t+s*r.z-s)=t+s*r.z by lia,Nat.add_mul_mod_self_right]
theorem bZ.I9(F:bZ L a b A B)(h:z1∈XS L a)(r:z2∈XS L b)(p:pre A z1=b)(s:pre B z2=a) :
  nx (both L a b A B) (z1,a)=(a,b)/\nx (both L a b A B) (z2,b)=(b,a)/\nx (both L a b A B) (a,b)=nx L (z2,b)/\nx (both L a b A B) (b,a)=nx L (z1,a)/\
  ∀d,Dt L d->d≠(z1,a)->d≠(z2,b)->nx (both L a b A B) d=nx L d:=by
 let#[q,k,t,m]:=Dt.back (d:=(a,z1)) #[F.a0,F.a1,h] F.map;let#[o,j,u,n]:=Dt.back (d:=(b,z2)) #[F.b0,F.b1,r] F.map;let f:Dt L (z1,a):=#[q,k,m];let g:Dt L (z2,b):=#[o,j,n];let n1:nx (both L a b A B) (z1,a)=(a,b):=by unfold nx;rw[F.row F.a0,zab F.ne,zad rfl,p]
 let n2:nx (both L a b A B) (z2,b)=(b,a):=by unfold nx;rw[F.row F.b0,zad rfl,s]
 let e:∀d,Dt L d->nx L d=if nx (both L a b A B) d=(b,a)then nx (both L a b A B) (a,b)else if nx (both L a b A B) d=(a,b)then nx (both L a b A B) (b,a)else nx (both L a b A B) d:=λd c=>by let:=oK F.ir F.dt (by erw[F.rem,c]);rwa [F.rem]at this
 refine#[n1,n2,?_,?_,λd c i l=>?_];let:=e _ g;rw[zad n2]at this;exact this.symm;let:=e _ f;rw[n1,zab<|λz=>F.ne<|zaA Prod.fst z,zad rfl]at this;exact this.symm;let:=e d c;rw[zab<|λz=>l<|fF F.ir (F.sub _ c) (F.sub _ g)<|z.trans n2.symm,zab<|λz=>i<|fF F.ir (F.sub _ c) (F.sub _ f)<|z.trans n1.symm]at this;exact this.symm
theorem bZ.eN(F:bZ L a b A B)(h:Dt (both L a b A B) d):Dt L d\/d=(a,b)\/d=(b,a):=by ext(z|⟨z,y⟩|⟨z,y⟩:(F.mem h.lo).mp h.mem);exact .inl #[h.lo,by let:=h.hi;rwa [eM]at this,z];exact .inr<|.inl<|zbA z y;exact .inr<|.inr<|zbA z y
theorem vV.keep(h:vV f c)(e:∀d∈c,g d=f d):vV g c:=by let#[x,l,rfl,k]:=h;exact#[x,l,rfl,k.congr e]
theorem bS.mD(s:bS L):Cb L:=λx a b=>by let#[t,c,r]:=s.span x a b;rwa[zaj.mp c]at r
noncomputable def near(L:cp)(a:b9)(v:Int):b9:=(XS L v).filter λz=>decide<|z∈a
theorem fc(m:av L){x y:Int}(a:0<=x)(b:x<L.z)(h:y∈XS L x):0<=y/\y<L.z/\y≠x/\x∈XS L y:=Dt.back (d:=(x,y)) #[a,b,h] m
theorem dW.road(h:dW L S s x)(m:av L)(I:0<=s/\s<L.z)(v:Int) :
  ∃p:b9,p.Nodup/\p≠[]/\lp v p 1=s/\lp v p p.z=x/\(∀y∈p,dW L S s y)/\∀i,1<=i->i<p.z->Dt L (lp v p i,lp v p<|i+1):=by
 induction h with
 | here=>exact#[[s],by simp,by simp,rfl,rfl,λy f=>by erw[zaj.mp f,.here],λi c d=>by simp at d;lia]
 | @step i l x r e t E H=>
  let#[p,w,F,u,G,all,ch]:=H;let D:=zbP.mpr F;by_cases q:x∈p;let#[k,K,rfl]:=zaH.mp q;let n:(p.take<|k+1).z=k+1:=by rw[zbb];lia
  let g:∀j,1<=j->j<=k+1->lp v (p.take<|k+1) j=lp v p j:=λj c d=>by rw[kK c (),kK c (),getElem_take]
  refine#[p.take<|k+1,w.sublist<|take_sublist _ _,λz=>by rw[z]at n;simp at n,by erw[g 1 () (),u],?_,λy f=>all y<|zcI f,λj c d=>?_];rw[n,g _ () (),kK () ()];rfl;rw[g j c (),g (j+1) () ()];exact ch j c ();let o:∀j,1<=j->j<=p.z->lp v (p++[x]) j=lp v p j:=λj c d=>by rw[kK c (by simp;lia),kK c d,getElem_append_left]
  let A:lp v (p++[x]) (p.z+1)=x:=by rw[kK () A?];simp
  refine#[p++[x],?_,by simp,by erw[o 1 () (),u],by erw[zay,zbl,A],λy f=>?_,λj c d=>?_];exact zbh.mpr #[w,by simp,λa C b B z=>q<|by erw[<-zaj.mp B,<-z,C]];ext(z|z:zam.mp f);exact all y z;rw[zaj.mp z];exact dW.step r e t E;rw[zay,zbl]at d;rw[o j c ()];by_cases z:j=p.z;rw[z,A,G];exact Reach.oj e t;erw[o (j+1) () (),ch j c ()]
theorem J1{f:Int->Int}{x:Int}(inj:∀a∈l,∀b∈l,f a=f b->a=b)(c:x∈l):pre (l.map f) (f x)=f (pre l x):=by
 let d:∀(l:b9),(∀a∈l,∀b∈l,f a=f b->a=b)->x∈l->(l.map f).idxOf (f x)=l.idxOf x:=by
  ext l;induction l with
  | nil=>intro _ h;cases h
  | cons y l n=>
   ext inj c;rw[zbg,zdk,zdk];by_cases e:y=x;subst e;simp;let:f y≠f x:=λz=>e<|inj y zal x c z;let b1:(f y==f x)=false:=by simpa using this
   let b2:(y==x)=false:=by simpa using e
   rw[b1,b2];let j:=(zas.mp c).resolve_left λz=>e z.symm;rw[n (λa i b g=>inj a (zag _ i) b<|zag _ g) j]
 let m:=zcl c;unfold pre;rw[d l inj c,zaa];unfold cy;rw[zaa];let k:=zbr (l.idxOf x+l.z-1) m;rw[zak,zak,zao,zaf k];rfl
theorem B9.XS(h:B9 A l R){j:Int}(b:0<=j)(a:j<A.z)(n:tO A.z l):XS R (gF l j)=(XS A j).map (gF l):=by let r:=n.PK b a;let:=h.row j b a;unfold Gm.XS;rw[zak,this];rfl
noncomputable def Fo(l:b9)(d:ak):ak:=(gF l d.1,gF l d.2)
theorem B9.dt(h:B9 A l R)(n:tO A.z l)(m:av A)(a:Dt A d):Dt R<|Fo l d:=by let r:=n.PK a.lo a.hi;refine#[r.1,by erw[h.len,r.2],?_];show gF l d.2∈Gm.XS R (gF l d.1);erw[h.XS a.lo a.hi n,zap.mpr #[d.2,a.mem,rfl]]
theorem B9.DH(h:B9 A l R)(n:tO A.z l)(a:Dt R e):∃d,Dt A d/\Fo l d=e:=by let b:=a.hi;rw[h.len]at b;let#[j,f,c,g]:=n.ui a.lo b;let i:=a.mem;rw[<-g,h.XS f c n]at i;let#[y,m,k]:=zap.mp i;exact#[(j,y),#[f,c,m],zbA g k]
theorem B9.nx(h:B9 A l R)(n:tO A.z l)(m:av A)(k:Dt A d):nx R (Fo l d)=Fo l (Gm.nx A d):=by let#[c,b1,b2,o]:=k.back m;unfold Gm.nx Fo;rw[h.XS c b1 n,J1 (λa j b i e=>?_) o];let f:=fc m c b1 j;let g:=fc m c b1 i;exact n.inj f.1 f.2.1 g.1 g.2.1 e
theorem C5(n:tO A.z l)(m:av A)(b:Dt A d)(a:Dt A e)(q:Fo l d=Fo l e):d=e:=by let#[g,b1,_]:=b.back m;let#[c,f,_]:=a.back m;exact zbA (n.inj b.lo b.hi a.lo a.hi<|zaA Prod.fst q)<|n.inj g b1 c f<|zaA Prod.snd q
theorem Reach.LB(h:B9 A l R)(n:tO A.z l)(m:av A)(r:Reach A s x):Reach R (gF l s)<|gF l x:=by
 induction r with
 | here=>exact .here
 | step r e a b=>
  rename_i i c x;exact Reach.one b<|h.dt n m<|Reach.oj e a
end Gm
namespace Gm
open PySem L2
theorem rX(g:l.Nodup)(d:z∈l)(a:n∉l)(f:y∈l)(i:y≠z):pre (put l (l.idxOf z) n) y=pre l y:=by let c:(put l (l.idxOf z) n).Nodup:=vt a g;let b:y∈put l (l.idxOf z) n:=jE.mpr<|.inr f;let k:z∈put l (l.idxOf z) n:=jE.mpr<|.inr d;let mn:n∈put l (l.idxOf z) n:=jE.mpr<|.inl rfl;let j:y≠n:=λe=>a<|e▸f;let h:=lq c b mn j;rw[gV a]at h;let:pre (put l (l.idxOf z) n) y≠n:=λe=>i<|qw c b k<|e.trans (gL d a).symm;rw[zab this]at h;exact h.symm
theorem bS.place(s:bS L)(g:Good L r)(t:(sh 0 r).Nodup){cs:List Nat}(f:cs.Pairwise (·<·))(E:∀c∈cs,c<r.z)(un:(cs.map<|cy r).Nodup) :
  ∀k,1<=k->k<=cs.z->∃M l d,Pl L r l d (cs.take k) M/\cs[k-1]?=some d/\∀c∈cs.take k,XS M (cy r c)=put (XS L<|cy r c) ((XS L<|cy r c).idxOf<|cy r<|c+(r.z-1)) L.z:=by
 ext k;induction k with
 | zero=>intro h;lia
 | succ k H=>
  ext _ O;obtain⟨c,a⟩:∃c,cs[k]?=some c:=#[cs[k],zaf ()];let p:=E c<|zah a;let#[P,o,Q,N]:=dU g s.map;let C:cs.take (k+1)=cs.take k++[c]:=by rw[take_add_one,a];rfl
  rw[C];by_cases k0:k=0;subst k0;let#[F,i]:=Pl.first s g t p;refine#[_,c,c,i,by simpa using a,λe b=>?_];let m:e=c:=by simpa using b
  subst m;rw[F.row o,zab (),zad rfl];let#[M,l,d,i,G,rows]:=H () ();let n:d<c:=by let#[u,v]:=zac.mp G;let#[D,w]:=zac.mp a;let:=zbe.mp f (k-1) k u D ();rwa[v,w]at this
  let q:∀e∈cs.take k,cy r e≠cy r c:=λe b z=>by let:=gN (A:=[]) (B:=cs.map<|cy r) (j:=k) (x:=cy r c) (by simpa using un) (by rw[zao,a];rfl);refine this ?_;erw[zeM,<-zdH,<-z,zap.mpr #[e,b,rfl]]
  let#[F,I]:=i.next s g t n p q;refine#[_,l,c,I,by erw[zcu,a],λe b=>?_];ext(h|h:zam.mp b);let#[_,y,K,_]:=dU g s.map;rw[F.row y,zab (),zab<|q e h,rows e h];let m:e=c:=by simpa using h
  subst m;rw[F.row o,zab (),zad rfl]
structure SQ(L:cp)(r:b9)(cs:List Nat)(M:cp):Prop where
 cq:bS M
 len:M.z=L.z+1
 new:XS M (L.z:Int)=cs.map (cy r)
 sub:∀d,Dt L d->Dt M d
 keep:∀x:Int,0<=x->x<L.z->(∀c∈cs,cy r c≠x)->XS M x=XS L x
 I9:∀d,Dt L d->(∀c∈cs,d≠dj r (c+(r.z-1)))->nx M d=nx L d
theorem bS.put(s:bS L)(g:Good L r)(q:(sh 0 r).Nodup)(u:cs≠[])(f:cs.Pairwise (·<·))(o:∀c∈cs,c<r.z)(un:(cs.map<|cy r).Nodup):∃M,SQ L r cs M:=by let#[M,w,x,a,_,rows]:=s.place g q f o un cs.z (zbP.mpr u)<|zai _;rw[zbp]at a rows;refine#[M,a.sh,a.len,a.new,a.sub,a.keep,λd v p=>?_];let#[i,b1,b2,n]:=v.back s.map;unfold nx;by_cases h:∃c∈cs,cy r c=d.2;let#[c,b,e]:=h;let#[k,m,t,l]:=dU g s.map;rw[e]at k m t l;let j:=rows c b;rw[e]at j;rw[j,rX (s.map.nd _ _<|aD i b1) k (mC s.map i b1) n λz=>p c b ?_];rw[l,<-z];rw[a.keep d.2 i b1 λc b e=>h #[c,b,e]]
theorem SQ.good(p:SQ L r cs M)(a:Good L q)(b:∀j c,dj q j≠dj r c):Good M q:=
 #[a.two,λj=>p.sub _<|a.dt j,λj=>by erw[p.I9 _ (a.dt j) λc _=>b j _,a.st j]]
noncomputable def uM(L:cp):Prop:=∀a b x y:Int,0<=x->x<L.z->0<=y->y<L.z->x≠a->x≠b->y≠a->y≠b->dW L [a,b] x y
theorem dW.fQ(h:dW L S s x)(a:s∉S):x∉S:=by
 cases h with
 | here=>exact a
 | step _ _ _ h=>exact h
theorem vc(m:av L)(D:Dec L R)(a:c∈R)(j:Nat):dj (c.map (·.1)) j∈c:=by let#[g,b,_]:=D.good m a;let:dj (c.map (·.1)) j∈sh 0 (c.map (·.1)):=(bE (by let:=g.two;lia)).mpr #[j,rfl];rwa[b]at this
theorem cT(h:x∈r):∃i,i<r.z/\cy r i=x:=by let#[i,a,e]:=zaH.mp h;exact#[i,a,by erw[fI a,e]]
theorem uM.meet(t:uM L)(s:bS L)(sm:ox L)(D:Dec L R)(o:c1∈R)(B:c2∈R)(ne:c1≠c2)(ab:a≠b)(a1:a∈c1.map (·.1))(b1:b∈c1.map (·.1))(a2:a∈c2.map (·.1))(b2:b∈c2.map (·.1)):(a,b)∈c1\/(b,a)∈c1:=by
 refine zaB λno=>?_;let Nf:(a,b)∉c1:=λz=>no<|.inl z;let Et:(b,a)∉c1:=λz=>no<|.inr z;let A:=s.map;let#[n,s1,n1]:=D.good A o;let#[T,s2,n2]:=D.good A B;let O:=sm.ring n (by erw[s1,n1]);let Yt:=sm.ring T (by erw[s2,n2]);let g:=vc A D o;let Ws:=vc A D B;let r:∀i j,dj (c2.map (·.1)) i≠dj (c1.map (·.1)) j:=λi j e=>ne (jd D.nd o B (g j)<|by erw[<-e,Ws i]);let VO:(sh 0<|c1.map (·.1)).Nodup:=by erw[s1,n1]
 let VN:(sh 0<|c2.map (·.1)).Nodup:=by erw[s2,n2]
 generalize c1.map (·.1)=f at n O a1 b1 g r VO;generalize c2.map (·.1)=C at T Yt a2 b2 Ws r VN;let an:=n.two;let#[i,P,F]:=cT a1;let#[j,hj,eb]:=cT b1;let ij:i≠j:=λz=>ab (by rw[<-F,<-eb,z]);obtain⟨k,k0,k1,G⟩:∃k,0<k/\k<f.z/\cy f (i+k)=b:=by by_cases z:i<j;exact#[j-i,(),(),by erw[show i+(j-i)=j by lia,eb]];exact#[j+f.z-i,(),(),by erw[show i+(j+f.z-i)=j+f.z by lia,bP<|zaz _ _,eb]]
 let d1:=g i;let d2:=g<|i+k;let e1:dj f i=(a,cy f<|i+1):=by unfold dj;rw[F]
 let e2:dj f (i+k)=(b,cy f<|i+k+1):=by unfold dj;rw[G]
 rw[e1]at d1;rw[e2]at d2;let I:cy f (i+1)≠b:=λz=>Nf (by erw[<-z,d1]);let qa:cy f (i+k+1)≠a:=λz=>Et (by erw[<-z,d2]);let k2:2<=k:=by
  refine zaB λz=>I ?_;let:k=1:=();rw[this]at G;exact G
 let k3:k+1<f.z:=by
  refine zaB λz=>qa ?_;let:i+k+1=i+f.z:=();erw[this,bP<|zaz _ _,F]
 let S:cy f (i+1)≠a:=λz=>cY O () ()<|F.trans z.symm;let qb:cy f (i+k+1)≠b:=λz=>cY O () ()<|G.trans z.symm;let pq:cy f (i+1)≠cy f (i+k+1):=cY O () ();let VS:=n.dt<|i+1;let VR:=n.dt<|i+k+1;let gr:=n.c5 P;let rl:(c5 f i).z=f.z:=c8 ();let X:∀m,cy (c5 f i) m=cy f (m+i):=λm=>iV P m;let Iw:[0,1,k,k+1].map (cy<|c5 f i)=[a,cy f<|i+1,b,cy f<|i+k+1]:=by simp only[zbg,map_nil,X];rw[show 0+i=i by lia,F,show 1+i=i+1 by lia,show k+i=i+k by lia,G,show k+1+i=i+k+1 by lia]
 let#[M,E]:=s.put gr (by erw[Bh P,(f6 f i).nodup_iff.mpr VO]) (cs:=[0,1,k,k+1]) A? (by simp;lia) (by rw[rl];simp;lia)
  (by rw[Iw];simp[zaZ S,ab,zaZ qa,I,pq,zaZ qb])
 let ZV:=E.good T λj c=>by erw[tF P,r j _]
 let#[Q,xM,W]:=cT a2;let#[H,KD,Y]:=cT b2;let am:Q≠H:=λz=>ab (by rw[<-W,<-Y,z]);obtain⟨l,Z,ag,ad,U9⟩:∃l:List Nat,l≠[]/\l.Pairwise (·<·)/\(∀c∈l,c<C.z)/\(l.map (cy C)=[a,b]\/l.map (cy C)=[b,a]):=by by_cases z:Q<H;exact#[[Q,H],by simp,by simp[z],by simp;lia,.inl<|by simp[W,Y]];exact#[[H,Q],by simp,by simp;lia,by simp;lia,.inr<|by simp[W,Y]]
 let ac:(l.map<|cy C).Nodup:=by ext(z|z:U9)<;>rw[z]<;>simp[ab,zaZ ab]
 let#[N,v]:=E.cq.put ZV VN Z ag ad ac;let Ml:=E.len;let Nl:=v.len;let ar:0<=a/\a<L.z:=by let:=n.dt i;rw[e1]at this;exact#[this.lo,this.hi]
 let br:0<=b/\b<L.z:=by let:=n.dt<|i+k;rw[e2]at this;exact#[this.lo,this.hi]
 let pr:0<=cy f (i+1)/\cy f (i+1)<L.z:=#[VS.lo,VS.hi];let qr:0<=cy f (i+k+1)/\cy f (i+k+1)<L.z:=#[VR.lo,VR.hi];generalize cy f (i+1)=p at *;generalize cy f (i+k+1)=q at *;let rv:XS N (L.z:Int)=[a,p,b,q]:=by rw[v.keep (L.z:Int) () () λc hc z=>?_,E.new,Iw];let:cy C c∈l.map (cy C):=zap.mpr #[c,hc,rfl];rw[z]at this;ext(w|w:U9)<;>(rw[w]at this;simp at this;lia)
 let Bj:∀x,x=a\/x=b->Dt N ((M.z:Int),x)/\Dt N (x,(M.z:Int)):=λx K=>by let:Dt N ((M.z:Int),x):=#[(),(),by rw[v.new];ext(w|w:U9)<;>rw[w]<;>simp[K,Or.comm]];let#[c0,al,_,c3]:=this.back v.cq.map;exact#[this,c0,al,c3]
 let up:∀d,Dt L d->Dt N d:=λd hd=>v.sub _<|E.sub _ hd;let#[u,nu,u0,us,U,au,cu]:=dW.road (t a b p q pr.1 pr.2 qr.1 qr.2 S I qa qb) A pr (L.z:Int);let Wq:∀y∈u,(0<=y/\y<L.z)/\y≠a/\y≠b:=λy hy=>by let h:=au y hy;let B:=h.fQ (by simp[S,I]);simp at B;exact#[h.rg A pr,B]
 let lu:2<=u.z:=by
  let:=zbP.mpr u0;refine zaB λz=>?_;let e:u.z=1:=();rw[e]at U;exact pq<|us.symm.trans U
 refine v.cq.Yf.Rr (n1:=p) (n2:=b) (n3:=q) () () (by erw[rv,.refl _]) (p:=[a,(M.z:Int),b]) (q:=u) ?_ nu ?_ ?_ ?_ A? lu rfl rfl us U ?_ λi h0 o=>up _<|cu i h0 o;simp[ab];lia;simp;lia;ext z;let:=(Wq _ z).1;lia;ext x K hu;let:=Wq x hu;simp at K;ext(z|z|z:K);exact this.2.1 z;lia;exact this.2.2 z;ext i h0 o;simp at o;let:i=1\/i=2:=();ext(rfl|rfl:this);exact(Bj a<|.inl rfl).2;exact(Bj b<|.inr rfl).1
theorem dW.up(h:∀d,Dt L d->Dt M d)(r:dW L S s x):dW M S s x:=by
 induction r with
 | here=>exact .here
 | step r e a b c=>
  let d:=h _<|Reach.oj e a;let:=aD d.lo d.hi;exact dW.step c (by simpa using this) d.mem b
theorem dW.trans(h:dW L S s x)(k:dW L S x y):dW L S s y:=by
 induction k with
 | here=>exact h
 | step _ e a b c=>exact .step c e a b
theorem dW.one(h:Dt L d)(a:d.2∉S):dW L S d.1 d.2:=by let e:=aD h.lo h.hi;let ex:=zbE h.lo;refine dW.step (by erw[ex,.here]) e h.mem a
theorem uM.up(t:uM L)(k:M.z=L.z)(h:∀d,Dt L d->Dt M d):uM M:=λa b x y f l e m i j g c=>
 (t a b x y f () e () i j g c).up h
theorem Pj{l:b9}(n:l.Nodup)(g:3<=l.z)(a b:Int):∃z∈l,z≠a/\z≠b:=by
 refine zaB λf=>?_;let:=dH (r:=[a,b]) n λx d=>by by_cases e:x=a;simp[e];by_cases c:x=b;simp[c];exact absurd #[x,d,e,c] f
 simp at this;lia
theorem uM.more(t:uM L)(m:av M)(P:M.z=L.z+1)(h:∀d,Dt L d->Dt M d)(K:3<=(XS M (L.z:Int)).z):uM M:=by
 ext a b x y q Q n O s p c f;let l:(0:Int)<=(L.z:Int):=();let n1:(L.z:Int)<M.z:=();let#[z,o,k,i]:=Pj (m.nd _ _<|aD l n1) K a b;let#[j,E,R,v]:=fc m l n1 o;let r:z<L.z:=();let g:∀u w:Int,0<=u->u<L.z->0<=w->w<L.z->u≠a->u≠b->w≠a->w≠b->dW M [a,b] u w:=λu w F I N A B D G C=>(t a b u w F I N A B D G C).up h;by_cases ex:x=(L.z:Int);by_cases e:y=(L.z:Int);rw[ex,e];exact .here;let H:dW M [a,b] x z:=by erw[ex,dW.one (d:=((L.z:Int),z)) #[l,n1,o]<|by simp[k,i]]
 exact H.trans<|g z y j r n () k i c f;by_cases e:y=(L.z:Int);refine(g x z q () j r s p k i).trans ?_;rw[e];rw[e]at c f;exact dW.one (d:=(z,(L.z:Int))) #[j,E,v] (by simp[c,f]);exact g x y q () n () s p c f
theorem uM.yE(t:uM L)(m:av L)(Z:4<=L.z){x:Int}(q:0<=x)(s:x<L.z):3<=(XS L x).z:=by
 refine zaB λM=>?_;obtain⟨a,b,F⟩:∃a b:Int,∀z∈XS L x,z=a\/z=b:=by
  match hr:XS L x with
  | []=>exact#[0,0,λz d=>by cases d]
  | [u]=>exact#[u,u,λz d=>.inl<|zaj.mp d]
  | [u,w]=>exact#[u,w,λz d=>by simpa using d]
  | u::w::v::l=>rw[hr]at M;simp at M
 let C:∀z∈XS L x,z≠x:=λz d=>(fc m q s d).2.2.1;have⟨y,N,T,X,p⟩:∃y:Int,(0<=y/\y<L.z)/\y≠a/\y≠b/\y≠x:=by
  refine zaB λk=>?_;let:=dH (r:=[a,b,x]) (mR _) λz d=>by let d:=ig.mp d;by_cases j:z=a;simp[j];by_cases P:z=b;simp[P];by_cases g:z=x;simp[g];exact absurd #[z,d,j,P,g] k
  rw[gg]at this;simp at this;lia
 by_cases E:x=a\/x=b
 
 obtain⟨c,O⟩:∃c:Int,∀z∈XS L x,z=c:=by ext(e|e:E);exact#[b,λz d=>(F z d).resolve_left λw=>C z d<|w.trans e.symm];exact#[a,λz d=>(F z d).resolve_right λw=>C z d<|w.trans e.symm]
 have⟨w,B,I,K⟩:∃w:Int,(0<=w/\w<L.z)/\w≠c/\w≠x:=by
  refine zaB λk=>?_;let:=dH (r:=[c,x]) (mR _) λz d=>by let d:=ig.mp d;by_cases j:z=c;simp[j];by_cases g:z=x;simp[g];exact absurd #[z,d,j,g] k
  rw[gg]at this;simp at this;lia
 let H:x≠c:=λe=>by
  let h:=t y y x w q s B.1 B.2 (zaZ p)<|zaZ p;let only:∀u,dW L [y,y] x u->u=x:=λu o=>by
   induction o with
   | here=>rfl
   | @step i l S _ n f _ A=>
    let:XS L x=l:=by erw[<-A,dh n]
    rw[<-this]at f;exact absurd ((O _ f).trans e.symm)<|C _ f
  by_cases Q:w=y;obtain⟨v,G,R,W⟩:∃v:Int,(0<=v/\v<L.z)/\v≠y/\v≠x:=by
   refine zaB λk=>?_;let:=dH (r:=[y,x]) (mR _) λz d=>by let d:=ig.mp d;by_cases j:z=y;simp[j];by_cases g:z=x;simp[g];exact absurd #[z,d,j,g] k
   rw[gg]at this;simp at this;lia
  exact W<|only v (t y y x v q s G.1 G.2 (zaZ p) (zaZ p) R R);exact K<|only w (h Q Q)
 let h:=t c c x w q s B.1 B.2 H H I I;let only:∀u,dW L [c,c] x u->u=x:=λu o=>by
  induction o with
  | here=>rfl
  | @step i l S _ n f D A=>
   let:XS L x=l:=by erw[<-A,dh n]
   rw[<-this]at f;exact absurd (by simp[O _ f]) D
 exact K<|only w h;let Y:x≠a:=λe=>E<|.inl e;let U:x≠b:=λe=>E<|.inr e;let h:=t a b x y q s N.1 N.2 Y U T X;let only:∀u,dW L [a,b] x u->u=x:=λu o=>by
  induction o with
  | here=>rfl
  | @step i l S _ n f D A=>
   let:XS L x=l:=by erw[<-A,dh n]
   rw[<-this]at f;exact absurd (by simpa using F _ f) D
 exact p<|only y h
theorem JZ(n:l.Nodup)(e:a∈l)(f:z∈l)(m:a≠z)(i:pre l a=z)(j:pre l z=a):l.z<=2:=by
 let o:=zdI.mpr e;let p:=zdI.mpr f;let b:∀{x:Int},x∈l->l.idxOf (pre l x)=if l.idxOf x=0 then l.z-1 else l.idxOf x-1:=λ{x} h=>by
  let k:=zdI.mpr h;unfold pre cy;rw[md k];let g:(if l.idxOf x=0 then l.z-1 else l.idxOf x-1)<l.z:=by split<;>lia
  erw[zak,zaf g,Option.getD_some,HH n g]
 let d:=b e;let c:=b f;rw[i]at d;rw[j]at c;split at d<;>split at c<;>lia
theorem xU{c:List ak}{d:ak}(h:d∈c):d.1∈c.map (·.1):=zap.mpr #[d,h,rfl]
theorem wC(D:Dec L R)(a:c∈R)(h:d∈c):d.2∈c.map (·.1):=zap.mpr #[nx L d,(D.jq c a).on h,rfl]
theorem uM.one(t:uM L)(s:bS L)(sm:ox L)(U:4<=L.z)(D:Dec L R)(f:c1∈R)(k:c2∈R)(A:c1≠c2)(l:d∈c1)(q:e∈c1)(C:(d.2,d.1)∈c2)(K:(e.2,e.1)∈c2):d=e:=by
 refine zaB λX=>?_;let m:=s.map;let u:∀{c:List ak},c∈R->(c.map (·.1)).Nodup:=λ{c} p=>by let#[g,O,n]:=D.good m p;exact sm.ring g (by erw[O,n])
 let h:∀{c:List ak} {x:ak},c∈R->x∈c->Dt L x:=λp o=>(D.mem _).mp<|zaT.mpr #[_,p,o];let only:∀{x:ak},x∈c1->x∈c2->False:=λr Q=>A<|jd D.nd f k r Q;let W:∀{c:List ak} {a b:Int},c∈R->(a,b)∈c->(b,a)∉c:=λp r=>sm.apart s () D (h p r) p r;let#[a,b]:=d;let ab:a≠b:=λz=>((h f l).back m).2.2.1 z.symm;let S:=xU l;let b1:=wC D f l;let b2:=xU C;let P:=wC D k C;obtain⟨z,F,G,E,B⟩:∃z,z∈c1.map (·.1)/\z∈c2.map (·.1)/\z≠a/\z≠b:=by by_cases i:e.1=a\/e.1=b;by_cases j:e.2=a\/e.2=b;exfalso;let I:e.1≠e.2:=λw=>((h f q).back m).2.2.1 w.symm;ext(i|i:i)<;>ext(j|j:j);exact I<|i.trans j.symm;exact X<|zbA i.symm j.symm;let:e=(b,a):=zbA i j;rw[this]at q;exact W f l q;exact I<|i.trans j.symm;exact#[e.2,wC D f q,xU K,λw=>j<|.inl w,λw=>j<|.inr w];exact#[e.1,xU q,wC D k K,λw=>i<|.inl w,λw=>i<|.inr w]
 let N:∀{x y:ak},x∈c1->y∈c1->x.1=y.1->x=y:=λo v=>gQ (u f) o v;let Z:∀{x y:ak},x∈c1->y∈c1->x.2=y.2->x=y:=λ{x y} o v w=>fF m (h f o) (h f v)<|gQ (u f) ((D.jq c1 f).on o) ((D.jq c1 f).on v) w;let k1:(z,a)∈c1:=by ext(w|w:t.meet s sm D f k A (zaZ E) S F P G);exact absurd (zaA Prod.snd<|N w l rfl) B;exact w
 let k2:(b,z)∈c1:=by ext(w|w:t.meet s sm D f k A (zaZ B) b1 F b2 G);exact w;exact absurd (zaA Prod.fst<|Z w l rfl) E
 let k3:(z,b)∈c2:=by ext(w|w:t.meet s sm D k f (zaZ A) (zaZ B) b2 G b1 F);exact(only k2 w).elim;exact w
 let T:=gQ (u f) ((D.jq c1 f).on l) k2 rfl;let e4:=gQ (u k) ((D.jq c2 k).on k3) C rfl;let#[M,H,_,ba]:=(h f l).back m;let Y:=(h f k2).mem;let:=JZ (m.nd _ _<|aD M H) ba Y (zaZ E) (zaA Prod.snd T)<|zaA Prod.snd e4;let:=t.yE m U M H;lia
structure fN(L R:cp):Prop where
 good:∀r∈R,Good L r
 nd:(R.flatMap<|sh 0).Nodup
 all:∀d,Dt L d->d∈R.flatMap (sh 0)
theorem me.MQ(h:me L R):fN L R:=#[h.good,h.nd,h.all]
theorem fN.dec(h:fN L R):Dec L<|R.map<|sh 0:=by let e:(R.map<|sh 0).flatten=R.flatMap (sh 0):=rfl;refine#[λc b=>?_,by erw[e,h.nd],λd=>?_];let#[r,a,rfl]:=zap.mp b;exact(h.good r a).jq;rw[e];constructor;ext z;let#[r,a,f]:=zaK.mp z;let#[j,rfl]:=(bE (by let:=(h.good r a).two;lia)).mp f;exact(h.good r a).dt j;exact h.all d
theorem sH(b:fN L R)(c:Dt L d):0<=lo R d/\lo R d<R.z:=by let#[r,e,f]:=zaK.mp<|b.all d c;let#[i,a]:=zaN.mp e;rw[C9 b.nd a f];let:=(zac.mp a).1;lia
theorem rR(a:fN L R)(b:r∈R):(sh 0 r).Nodup:=(zcb.mp a.dec.nd).1 _<|zap.mpr #[r,b,rfl]
theorem Dec.MQ(m:av L)(D:Dec L<|R.map<|sh 0):fN L R:=by
 let e:(R.map<|sh 0).flatten=R.flatMap (sh 0):=rfl;refine#[λr c=>?_,by erw[<-e,D.nd],λd b=>by erw[<-e,(D.mem d).mpr b]];let:=(D.good m<|zap.mpr #[r,c,rfl]).1;let fst:(sh 0 r).map (·.1)=r:=by unfold sh;rw[zdw];refine zcr A? λi f a=>?_;simp[zcB,zcz,Function.comp];show cy r (i+0)=_;rw[zcx,fI a]
 rwa [fst]at this
theorem NH{l:b9}(n:l.Nodup)(b:0<l.z)(m:Nat):l.idxOf (cy l m)=m%l.z:=by let a:=zbr m b;unfold cy;erw[zak,zaf a,Option.getD_some,HH n a]
theorem fW(n:l.Nodup)(a:0<l.z)(m:Nat):pre l (cy l<|m+1)=cy l m:=by unfold pre;rw[NH n a];refine bP ?_;rw[show(m+1)%l.z+l.z-1=(m+1)%l.z+(l.z-1)by lia,zdM,show m+1+(l.z-1)=m+l.z by lia,zaz]
theorem tI(f:Int->Int)(a:0<l.z)(m:Nat):cy (l.map f) m=f (cy l m):=by let b:=zbr m a;unfold cy;rw[zaa,zak,zak,zao,zaf b];rfl
abbrev Du(R:cp):cp:=R.map<|ja R 0
noncomputable def dl(R:cp)(d:ak):ak:=(lo R d,lo R (d.2,d.1))
theorem gP(f:fN L R)(g:Dt L d):∃(i:Nat) (r:b9) (j:Nat),R[i]?=some r/\j<r.z/\d=dj r j/\lo R d=i:=by let#[r,h,b]:=zaK.mp<|f.all d g;let#[i,c]:=zaN.mp h;let#[k,a,e]:=zaH.mp b;rw[cK]at a;let:=rG (s:=0) a;rw[zaf (by erw[cK,a]),e]at this;exact#[i,r,k,c,a,zaq this,C9 f.nd c b]
theorem JP(a:fN L R)(b:r∈R):(sh 0 r).Nodup:=(zcb.mp a.dec.nd).1 _<|zap.mpr #[r,b,rfl]
theorem iH(ld:fN L R){i:Nat}(hr:R[i]?=some r)(j:Nat):lo R (dj r j)=i:=by let g:=ld.good r<|zah hr;exact C9 ld.nd hr<|(bE (by let:=g.two;lia)).mpr #[j,rfl]
theorem Hr(a:fN L R)(c:Dt L d):lo R (nx L d)=lo R d:=by let#[i,r,j,b,f,rfl,e]:=gP a c;rw[(a.good r<|zah b).st,iH a b,e]
theorem mF{i:Nat}(a:R[i]?=some r):XS (Du R) (i:Int)=ja R 0 r:=dh (by rw[zao,a];rfl)
theorem eK:(Du R).z=R.z:=zaa _
theorem xp(g:Good L r):x∈ja R 0 r↔∃j,x=lo R ((dj r j).2,(dj r j).1):=by unfold ja;rw[mem_map];constructor;ext⟨d,a,rfl⟩;let#[j,rfl]:=(bE (by let:=g.two;lia)).mp a;exact#[j,rfl];ext⟨j,rfl⟩;exact#[dj r j,(bE (by let:=g.two;lia)).mpr #[j,rfl],rfl]
theorem As(a:fN L R)(g:av L)(b:Dt L d):Dt (Du R)<|dl R d:=by let#[i,r,j,f,h,rfl,e]:=gP a b;let c:=sH a b;refine#[c.1,by erw[eK,c.2],?_];show lo R _∈XS (Du R) (lo R<|dj r j);erw[e,mF f,(xp<|a.good r<|zah f).mpr #[j,rfl]]
theorem Mb(k:fN L R)(a:Dt (Du R) e):∃d,Dt L d/\dl R d=e:=by
 let l:=a.hi;rw[eK]at l;let n:=a.lo;let#[i,h]:=zaD n;let b:i<R.z:=();let f:=zaf b;let c:=a.mem;rw[h]at c;let o:e.2∈ja R 0 R[i]:=by erw[<-mF f,c]
 let g:=k.good R[i]<|zbL b;let#[j,m]:=(xp g).mp o;exact#[dj R[i] j,g.dt j,zbA ((iH k f j).trans h.symm) m.symm]
theorem Io(m:fN L R)(B:tS<|Du R)(A:Dt L d)(o:Dt L e)(q:dl R d=dl R e):d=e:=by
 let#[i,r,j,h,k,rfl,t]:=gP m A;let#[y,c,b,f,l,rfl,x]:=gP m o;let p:lo R (dj r j)=lo R (dj c b):=zaA Prod.fst q;let u:lo R ((dj r j).2,(dj r j).1)=lo R ((dj c b).2,(dj c b).1):=zaA Prod.snd q;rw[t,x]at p;let n:i=y:=();subst n;rw[h]at f;cases f;let v:=(B i _<|by rw[zao,h];rfl).2;let a:=oS (R:=R) (s:=0) k;let g:=oS (R:=R) (s:=0) l;rw[zcx]at a g;rw[u,<-g]at a;let z:j<(ja R 0 r).z:=by erw[eR,k]
 let w:b<(ja R 0 r).z:=by erw[eR,l]
 rw[zaf z,zaf w]at a;let:=(zcq v).mp<|zaq a;rw[this]
theorem BY(a:fN L R)(f:av L)(m:tS<|Du R):av<|Du R:=by
 refine kP λx k l=>?_;let#[i,rfl]:=zaD k;let d:i<R.z:=by rw[eK]at l;lia
 let c:=zaf d;let#[o,n]:=m i (ja R 0 R[i]) (by rw[zao,c];rfl);rw[mF c];refine#[n,λy h=>?_];let g:=a.good R[i]<|zbL d;let#[j,e]:=(xp g).mp h;let bk:=yh f<|g.dt j;let b:=sH a bk;rw[<-e]at b;refine#[b.1,by erw[eK,b.2],λz=>o<|z▸h,?_];let:=(As a f bk).mem;show(i:Int)∈XS (Du R) y;erw[e,<-iH a c j,this]
theorem Rm(b:fN L R)(m:av L)(l:tS<|Du R)(k:Dt L e):nx (Du R) (dl R ((nx L e).2,(nx L e).1))=dl R e:=by
 let#[i,r,j,a,o,rfl,n]:=gP b k;let g:=b.good r<|zah a;let c:0<r.z:=by let:=g.two;lia
 rw[g.st];let s:∀d:ak,dl R (d.2,d.1)=(lo R (d.2,d.1),lo R d):=λd=>rfl;rw[s];unfold nx;dsimp only;rw[iH b a,mF a];let h:=(l i _<|by rw[zao,a];rfl).2;let f:=GZ (R:=R) (s:=0) c<|j+1;rw[zcx]at f;rw[<-f,fW h (by erw[eR,c]),GZ c,zcx];unfold dl;rw[iH b a]
noncomputable def rd(L R:cp)(b:Int):b9:=(XS L b).map λx=>lo R (x,b)
theorem CI(h:fN L R)(c:av L){b:Int}(e:0<=b)(b1:b<L.z)(a:0<(XS L b).z)(m:Nat):dj (rd L R b) m=dl R (cy (XS L b) m,b):=by let f:=c.nd _ _<|aD e b1;let mem:=eL (j:=m+1) a;let bk:=fc c e b1 mem;let dt:Dt L (cy (XS L b)<|m+1,b):=#[bk.1,bk.2.1,bk.2.2.2];let g:nx L (cy (XS L b)<|m+1,b)=(b,cy (XS L b) m):=zbA rfl<|fW f a m;let d:=Hr h dt;rw[g]at d;unfold dj rd dl;rw[tI _ a,tI _ a,<-d]
theorem JR(e:fN L R)(a:av L)(i:tS<|Du R){b:Int}(d:0<=b)(b1:b<L.z)(h:2<=(XS L b).z):Good (Du R)<|rd L R b:=by
 let c:0<(XS L b).z:=();let f:=a.nd _ _<|aD d b1;let dt:∀m,Dt L (cy (XS L b) m,b):=λm=>by let bk:=fc a d b1<|eL (j:=m) c;exact#[bk.1,bk.2.1,bk.2.2.2]
 refine#[by unfold rd;erw[zaa,h],λm=>by erw[CI e a d b1 c,As e a<|dt m],λm=>?_];rw[CI e a d b1 c,CI e a d b1 c];let g:nx L (cy (XS L b)<|m+1,b)=(b,cy (XS L b) m):=zbA rfl<|fW f c m;let:=Rm e a i<|dt<|m+1;rwa[g]at this
theorem Good.along(a:Good L r)(b:Good L q)(h:dj r i=dj q j)(m:Nat):dj r (i+m)=dj q (j+m):=by
 induction m with
 | zero=>exact h
 | succ m c=>rw[<-zek,<-zek,<-a.st,<-b.st,c]
structure tT(L R:cp):Prop where
 im:av L
 ld:fN L R
 jZ:tS (Du R)
 two:∀x:Int,0<=x->x<L.z->2<=(XS L x).z
theorem tT.dt(D:tT L R){b:Int}(a:0<=b)(b1:b<L.z)(m:Nat):Dt L (cy (XS L b) m,b):=by
 let g:0<(XS L b).z:=by let:=D.two b a b1;lia
 let#[f,c,_,e]:=Dt.back (d:=(b,cy (XS L b) m)) #[a,b1,eL g] D.im;exact#[f,c,e]
theorem tT.eN(D:tT L R):(Gm.eN (Du R) (Du R).z).z=(Gm.eN L L.z).z:=by
 let i:=BY D.ld D.im D.jZ;let:=len_eq (zca.mpr<|(bJ D.im<|zai _).imp_of_mem λ{a b} g f j q=>j<|Io D.ld D.jZ (Dt.of g) (Dt.of f) q) (bJ i<|zai _) λe=>by constructor;ext h;let#[d,c,rfl]:=zap.mp h;exact(As D.ld D.im<|Dt.of c).all;ext h;let#[d,c,rfl]:=Mb D.ld<|Dt.of h;exact zap.mpr #[d,c.all,rfl]
 rw[zaa]at this;exact this.symm
theorem tT.iso(D:tT L R):Gm.iso (Du R)=0:=by
 unfold Gm.iso;refine zeA.mpr λl a=>?_;let#[r,b,rfl]:=zap.mp a;let g:=(D.ld.good r b).two;let a:=eR R 0 r;ext z;let z:ja R 0 r=[]:=by simpa using z
 rw[z]at a;simp at a;lia
theorem tT.mD(D:tT L R)(B:Cb L)(s:0<L.z):Cb<|Du R:=by
 let n:=BY D.ld D.im D.jZ;let step:∀{d:ak},Dt L d->Reach (Du R) (lo R d) (lo R (d.2,d.1)):=λ{d} z=>Reach.one .here<|As D.ld D.im z;let round:∀{b:Int},0<=b->b<L.z->∀m,Reach (Du R) (lo R (cy (XS L b) 0,b))<|lo R (cy (XS L b) m,b):=λ{b} c b1 m=>by
  induction m with
  | zero=>exact .here
  | succ m h=>
   let s:0<(XS L b).z:=by let:=D.two b c b1;lia
   let E:nx L (cy (XS L b)<|m+1,b)=(b,cy (XS L b) m):=zbA rfl<|fW (D.im.nd _ _<|aD c b1) s m;let p:=Hr D.ld<|D.dt c b1<|m+1;rw[E]at p;erw[<-p,h.trans<|step<|D.dt c b1 m]
 let a:∀{b x:Int},0<=b->b<L.z->x∈XS L b->Reach (Du R) (lo R (cy (XS L b) 0,b)) (lo R (x,b)):=λ{b x} c b1 f=>by let#[i,H,e]:=cT f;let:=round c b1 i;rwa[e]at this
 let o:(0:Int)<L.z:=();let all:∀b:Int,Reach L 0 b->Reach (Du R) (lo R (cy (XS L 0) 0,0)) (lo R (cy (XS L b) 0,b)):=λb t=>by
  induction t with
  | here=>exact .here
  | @step i l x r e f h=>
   let d:=Reach.oj e f;let bk:=d.back D.im;let u:=d.mem;let A:=h.trans<|a d.lo d.hi u;let y:=A.trans<|step #[bk.1,bk.2.1,bk.2.2.2];let v:=a bk.1 bk.2.1 bk.2.2.2;exact y.trans<|v.sym n (by let:=sH D.ld<|D.dt bk.1 bk.2.1 0;erw[eK,this])
 refine Cb.of n (sH D.ld<|D.dt () o 0).1 (by erw[eK,(sH D.ld<|D.dt () o 0).2]) λx C G=>?_;rw[eK]at G;let#[k,rfl]:=zaD C;let F:R[k]?=some R[k]:=zaf ();let g:=D.ld.good R[k]<|zbL ();let dt:=g.dt 0;let#[q,j,_,w]:=dt.back D.im;let:=(all (dj R[k] 0).2<|B _ q j).trans<|a q j w;rw[show((dj R[k] 0).1,(dj R[k] 0).2)=dj R[k] 0 from rfl,iH D.ld F]at this;exact this
theorem uM.jZ(t:uM L)(s:bS L)(sm:ox L)(M:4<=L.z)(h:fN L R):tS<|Du R:=by
 let H:=s.map;let D:=h.dec;ext k l f;rw[zao]at f;cases hr:R[k]? with
 | none=>rw[hr]at f;cases f
 | some r=>
  rw[hr]at f;cases f;let x:=zah hr;let g:=h.good r x;let F:0<r.z:=by let:=g.two;lia
  let A:sh 0 r∈R.map (sh 0):=zap.mpr #[r,x,rfl];let o:∀j,dj r j∈sh 0 r:=λj=>(bE F).mpr #[j,rfl];let land:∀j,∃c,c∈R/\∃i:Nat,R[i]?=some c/\lo R ((dj r j).2,(dj r j).1)=i/\((dj r j).2,(dj r j).1)∈sh 0 c:=λj=>by let#[i,c,m,q,y,e,u]:=gP h<|yh H<|g.dt j;let K:=h.good c<|zah q;exact#[c,zah q,i,q,u,by erw[e,(bE (by let:=K.two;lia)).mpr #[m,rfl]]]
  let apart:∀j,((dj r j).2,(dj r j).1)∉sh 0 r:=λj=>sm.apart s () D (a:=(dj r j).1) (b:=(dj r j).2) (g.dt j) A<|o j;constructor;ext z;let#[j,G]:=(xp g).mp z;let#[c,_,i,d,u,y]:=land j;rw[<-G]at u;let:i=k:=();subst this;rw[hr]at d;cases d;exact apart j y;refine zbe.mpr λi j d v S z=>?_;rw[eR]at d v;let p:=oS (R:=R) (s:=0) d;let n:=oS (R:=R) (s:=0) v;rw[zcx]at p n;rw[zaf<|by erw[eR,d]]at p;rw[zaf<|by erw[eR,v]]at n;rw[zaq p,zaq n]at z;let#[E,Q,k1,P,T,B]:=land i;let#[U,W,k2,C,I,N]:=land j;rw[z,I]at T;let:k1=k2:=();subst this;rw[P]at C;cases C;let O:sh 0 r≠sh 0 E:=λw=>apart i (by erw[w,B]);let:=t.one s sm M D A (zap.mpr #[E,Q,rfl]) O (o i) (o j) B N;exact kS (Gm.JP h x) S () this
end Gm
namespace Gm
theorem dR.pre(h:dR l m)(n:m.Nodup)(j:y∈m):pre l y=pre m y:=by
 ext(rfl|⟨c,a,rfl⟩:h);rfl;let n2:=(dR.perm<|.inr #[c,a,rfl]).nodup_iff.mpr n;let g:0<m.z:=();let b:=(dR.perm<|.inr #[c,a,rfl]).length_eq;let f:=(dR.perm<|.inr #[c,a,rfl]).mem_iff.mpr j;let#[i,k,e]:=cT f;let d:cy (c5 m c) (i+(m.z-1)+1)=y:=by erw[<-e,bP<|by rw[b,show i+(m.z-1)+1=i+m.z by lia,zaz]]
 rw[<-d,fW n2 (),iV a,iV a,show i+(m.z-1)+1+c=(i+(m.z-1)+c)+1 by lia,fW n g]
theorem cO.SH(h:cO L M)(k:Dt L d):Dt M d:=#[k.lo,by erw[<-h.1,k.hi],(h.mem k.lo k.hi).mp k.mem]
theorem cO.nx(h:cO L M)(m:av M)(k:Dt M d):nx L d=Gm.nx M d:=by let#[a,b1,_,bm]:=k.back m;unfold Gm.nx;rw[(h.row a<|by erw[h.1,b1]).pre (m.nd _ _<|aD a b1) bm]
theorem cO.dec(h:cO L M)(m:av M)(D:Dec M R):Dec L R:=
 #[λc a=>(D.jq c a).keep λd b=>h.nx m<|(D.mem d).mp<|zaT.mpr #[c,a,b],D.nd,λd=>(D.mem d).trans #[λk=>h.dt k,λk=>h.SH k]]
theorem cO.pW(h:cO L M)(m:av M)(s:ox M):ox L:=λd f=>by let#[c,a,b,i]:=s d<|h.SH f;refine#[c,a,b.keep λe g=>h.nx m ?_,i];exact b.all a (h.SH f) (λe _ k=>k.nx m) e g
theorem cO.Fi(h:cO L M)(t:uM M):uM L:=t.up h.1 λd k=>h.dt k
theorem cO.iso(h:cO L M):iso L=Gm.iso M:=by
 let#[a,h]:=h;unfold Gm.iso;induction L generalizing M with
 | nil=>cases M with
  | nil=>rfl
  | cons _ _=>simp at a
 | cons l L d=>cases M with
  | nil=>simp at a
  | cons m M=>
   rw[countP_cons,countP_cons,d (by simpa using a) λi l m b c=>h (i+1) l m (by simpa using b)<|by simpa using c];let:=(h 0 l m rfl rfl).len;let e:l.isEmpty=m.isEmpty:=(by cases l<;>cases m<;>simp at this ⊢);rw[e]
theorem cO.cq(h:cO L M)(s:bS M):bS L:=by
 let b:=h.ir s.map;refine#[b,by erw[h.1,s.two],λx i m=>?_,?_];let#[k,n,r]:=s.span x i (by erw[<-h.1,m]);exact#[k,n,r.mono λd k=>h.dt k];let#[R,D,e]:=s.Jk;refine#[R,h.dec s.map D,?_];let j:=dA b;let o:=dA s.map;let l:(eN L L.z).z=(eN M M.z).z:=by refine Nat.le_antisymm (dH (bJ b<|zai _) λd f=>?_)<|dH (bJ s.map<|zai _) λd f=>?_;let#[g,a,c]:=ly.mp f;exact(h.SH #[g,a,c]).all;let#[g,a,c]:=ly.mp f;exact(h.dt #[g,a,c]).all
 rw[h.1,h.iso,e];rw[h.1]at j l;lia
theorem bS.lands(s:bS L)(g:4<=L.z)(b:fN L R):R.z+4<=2*L.z/\(L.z:Int)+R.z=(cI L L.z).z+2:=by let#[e,D,ch]:=s.Jk;let c:=b.dec.count D;rw[zaa]at c;let f:=tq λc a=>s.three () D a;rw[D.len s.map]at f;let i:=s.NC;let d:=dA s.map;lia
theorem uM.Xp(t:uM L)(s:bS L)(sm:ox L)(a:4<=L.z)(b:fN L R):tT L R:=
 #[s.map,b,t.jZ s sm a b,λx c d=>by let:=t.yE s.map a c d;lia]
end Gm
namespace Gm
open PySem L2
theorem tT.CH(D:tT L R){b:Int}(c:0<=b)(b1:b<L.z):sh 0 (rd L R b)=(XS L b).map λx=>dl R (x,b):=by
 let d:0<(XS L b).z:=by let:=D.two b c b1;lia
 refine zeC λj=>?_;by_cases a:j<(XS L b).z;rw[rG (by unfold rd;erw[zaa,a]),zao,zaf a,zcx,CI D.ld D.im c b1 d,fI a];rfl;rw[zbO (by rw[cK];unfold rd;rw[zaa];lia),zbO<|by rw[zaa];lia]
theorem tT.flat(D:tT L R):∀k,k<=L.z->(((List.range k).map λb:Nat=>sh 0<|rd L R (b:Int))).flatten=(Gm.eN L k).map λd=>dl R (d.2,d.1)
 | 0,_=>rfl
 | k+1,h=>by rw[zcm,zaw,zco,D.flat k (),Gm.eN,zaw,zdw];congr 1;rw[zdG,zcY,D.CH () ()];rfl
theorem tT.dec(D:tT L R):Dec (Du R) ((List.range L.z).map λb:Nat=>sh 0<|rd L R (b:Int)):=by refine#[λc i=>?_,?_,λd=>?_];let#[b,g,rfl]:=zap.mp i;let g:=zaU.mp g;exact(JR D.ld D.im D.jZ () ()<|D.two b () ()).jq;rw[D.flat _<|zai _];refine zca.mpr<|(bJ D.im<|zai _).imp_of_mem λ{x y} e k j q=>j ?_;let a:=Dt.back (Dt.of e) D.im;let f:=Dt.back (Dt.of k) D.im;let:=Io D.ld D.jZ #[a.1,a.2.1,a.2.2.2] #[f.1,f.2.1,f.2.2.2] q;exact zbA (zaA Prod.snd this)<|zaA Prod.fst this;rw[D.flat _<|zai _];constructor;ext h;let#[x,e,rfl]:=zap.mp h;let a:=Dt.back (Dt.of e) D.im;exact As D.ld D.im #[a.1,a.2.1,a.2.2.2];ext h;let#[x,e,rfl]:=Mb D.ld h;let a:=Dt.back e D.im;exact zap.mpr #[(x.2,x.1),(show Dt L (x.2,x.1)from#[a.1,a.2.1,a.2.2.2]).all,rfl]
theorem tT.cq(D:tT L R)(s:bS L)(l:2<=R.z):bS<|Du R:=by
 let g:Cb L:=λx a d=>by let#[t,n,r]:=s.span x a d;rw[zaj.mp n]at r;exact r
 let k:=s.two;let j:=D.mD g ();let f:=BY D.ld D.im D.jZ;refine#[f,by erw[eK,l],λx a d=>#[0,by simp,j x a d],_,D.dec,?_];let#[Q,o,ch]:=s.Jk;let c:=o.count D.ld.dec;rw[zaa]at c;let h:=dA f;let q:=dA D.im;let i:=D.eN;let p:=s.NC;let m:((List.range L.z).map λb:Nat=>sh 0<|rd L R (b:Int)).z=L.z:=by rw[zaa,zbx]
 let e:=eK (R:=R);rw[m,D.iso,e];rw[e]at h i;lia
section
variable {a b:Int}
theorem dW.bk(m:av L)(h:dW L S s x)(j:s∉S)(r:0<=s/\s<L.z):dW L S x s:=by
 induction h with
 | here=>exact .here
 | @step i l x g e f p k=>
  let o:=m.rg i l e x f;let#[d,rfl]:=zaD o.1;let c:d<L.z:=();let n:=m.sy i l e _ f d rfl _<|zaf c;exact dW.trans (dW.step .here (zaf c) n<|dW.fQ g j) k
theorem dW.wk(m:av L)(h:∀z:Int,0<=z->z<L.z->z∈S'->z∈S)(r:dW L S s x):dW L S' s x:=by
 induction r with
 | here=>exact .here
 | step _ c d e f=>exact .step f c d λz=>e<|h _ (m.rg _ _ c _ d).1 (m.rg _ _ c _ d).2.1 z
theorem oJ{r:b9}(g:Good L r){S:b9}{i:Nat}:∀k,(∀t,1<=t->t<=k+1->cy r (i+t)∉S)->dW L S (cy r<|i+1) (cy r<|i+(k+1))
 | 0,_=>.here
 | k+1,h=>by let d:=oJ g k λt c e=>h t c ();exact d.trans<|dW.one (g.dt _)<|h (k+2) () ()
theorem Iu(m:av L)(D:Dec L R)(f:c∈R)(e:d∈c):∃i,d=dj (c.map (·.1)) i:=by let#[g,s,n]:=D.good m f;rw[<-s]at e;exact(bE (by let:=g.two;lia)).mp e
theorem mK(m:av L)(sm:ox L)(D:Dec L R)(d:c∈R)(f:(x,a)∈c)(h:(y,a)∈c):x=y:=by let#[g,s,n]:=D.good m d;let i:=sm.ring g (by erw[s,n]);let k:=(D.mem _).mp<|zaT.mpr #[c,d,f];let j:=(D.mem _).mp<|zaT.mpr #[c,d,h];let e:=gQ i ((D.jq c d).on f) ((D.jq c d).on h) rfl;exact zaA Prod.fst<|fF m k j e
theorem AD(m:av L)(sm:ox L)(D:Dec L R)(f:c∈R)(j:(x,a)∈c)(h:b∉c.map (·.1)):dW L [a,b] (pre (XS L a) x) x:=by
 let#[g,s,n]:=D.good m f;let e:=sm.ring g (by erw[s,n]);let#[i,d]:=Iu m D f j;let st:=g.st i;generalize c.map (·.1)=r at g e d st h;let o:=g.two;let ex:cy r i=x:=(zaA Prod.fst d).symm;let l:cy r (i+1)=a:=(zaA Prod.snd d).symm;rw[<-d]at st;let k:cy r (i+2)=pre (XS L a) x:=(zaA Prod.snd st).symm;let p:=oJ g (S:=[a,b]) (i:=i+1) (r.z-2) λt u q z=>by simp only[zbm,zaR,zbt]at z;ext(z|z:z);exact cY e () ()<|l.trans z.symm;exact h<|z▸eL ()
 rwa[show i+1+(r.z-2+1)=i+r.z by lia,bP<|zaz i _,ex,show i+1+1=i+2 by lia,k]at p
noncomputable def AM(R:List<|List ak):Prop:=∀c∈R,∀d∈R,c≠d->∀a b:Int,a≠b->a∈c.map (·.1)->b∈c.map (·.1)->a∈d.map (·.1)->b∈d.map (·.1)->(a,b)∈c\/(b,a)∈c
theorem tK(m:av L)(c:0<=a)(d:a<L.z){S:b9}(e:0<(XS L a).z){i:Nat}:∀k,(∀t,t<k->dW L S (cy (XS L a)<|i+t) (cy (XS L a)<|i+t+1))->dW L S (cy (XS L a) i) (cy (XS L a)<|i+k)
 | 0,_=>.here
 | k+1,h=>(tK m c d e k λt f=>h t ()).trans<|h k ()
theorem Ng(m:av L)(sm:ox L)(D:Dec L R)(mp:AM R)(ab:a≠b)(B:0<=a)(w:a<L.z)(hx:x∈XS L a)(Q:y∈XS L a)(xb:x≠b)(U:y≠b):dW L [a,b] x y:=by
 let u:=m.nd _ _<|aD B w;let X:∀{z:Int},z∈XS L a->(z∉[a,b]↔z≠b):=λ{z} E=>by let:=(Dt.back (d:=(a,z)) #[B,w,E] m).2.2.1;simp only[zbm,zaR,zbt,zec];exact#[λh=>h.2,λh=>#[this,h]]
 let W:∀{z:Int},z∈XS L a->0<=z/\z<L.z:=λE=>#[(Dt.back (d:=(a,_)) #[B,w,E] m).1,(Dt.back (d:=(a,_)) #[B,w,E] m).2.1];let land:∀j,∃c∈R,(cy (XS L a)<|j+1,a)∈c/\(a,cy (XS L a) j)∈c:=λj=>by
  let q:=zcl hx;let E:=eL (j:=j+1) q;let bk:=Dt.back (d:=(a,cy (XS L a)<|j+1)) #[B,w,E] m;let dt:Dt L (cy (XS L a)<|j+1,a):=#[bk.1,bk.2.1,bk.2.2.2];let#[c,f,A]:=zaT.mp<|(D.mem _).mpr dt;let nx:=(D.jq c f).on A;let e:Gm.nx L (cy (XS L a)<|j+1,a)=(a,cy (XS L a) j):=by show(a,pre (XS L a)<|cy (XS L a)<|j+1)=_;rw[fW u q]
  rw[e]at nx;exact#[c,f,A,nx]
 let K:∀i j,i<j->j<(XS L a).z->cy (XS L a) i≠b->cy (XS L a) j≠b->dW L [a,b] (cy (XS L a) i) (cy (XS L a) j):=by
  ext i j ij jn T N;let q:0<(XS L a).z:=();let good:∀t,(∀c∈R,(cy (XS L a)<|t+1,a)∈c->b∉c.map (·.1))->dW L [a,b] (cy (XS L a) t) (cy (XS L a)<|t+1):=λt h=>by let#[c,f,h1,_]:=land t;let p:=AD m sm D f h1<|h c f h1;rwa [fW u q]at p
  let YF:cy (XS L a) i∈XS L a:=eL q;let Qh:cy (XS L a) j∈XS L a:=eL q;by_cases g1:∀t,i<=t->t<j->∀c∈R,(cy (XS L a)<|t+1,a)∈c->b∉c.map (·.1);let p:=tK m B w q (S:=[a,b]) (i:=i) (j-i) λt ht=>good (i+t)<|g1 (i+t) () ();rwa [show i+(j-i)=j by lia]at p;let g2:∀t,j<=t->t<i+(XS L a).z->∀c∈R,(cy (XS L a)<|t+1,a)∈c->b∉c.map (·.1):=by
   ext v ad al P F k Fs;refine g1 λr ac ag O C M Y=>?_;let Z:O≠P:=λz=>by subst z;let:=mK m sm D C M k;exact cY u (i:=r+1) (j:=v+1) () () this
   let fa:∀{t:Nat} {c:List ak},c∈R->(cy (XS L a)<|t+1,a)∈c->a∈c.map (·.1):=λf A=>zap.mpr #[_,(D.jq _ f).on A,rfl];let I:∀{t:Nat} {c:List ak},c∈R->(cy (XS L a)<|t+1,a)∈c->((a,b)∈c\/(b,a)∈c)->cy (XS L a) t=b\/cy (XS L a) (t+1)=b:=λ{t c} f A h=>by ext(h|h:h);left;let#[g,s,n]:=D.good m f;let Yw:=sm.ring g (by erw[s,n]);let e:Gm.nx L (cy (XS L a)<|t+1,a)=(a,cy (XS L a) t):=(by show(a,pre (XS L a)<|cy (XS L a)<|t+1)=_;rw[fW u q]);let:=gQ Yw ((D.jq _ f).on A) h rfl;rw[e]at this;exact zaA Prod.snd this;right;exact mK m sm D f A h
   let l:=I C M<|mp O C P F Z a b ab (fa C M) Y (fa F k) Fs;let o:=I F k<|mp P F O C (zaZ Z) a b ab (fa F k) Fs (fa C M) Y;ext(l|l:l)<;>ext(o|o:o);exact cY u (i:=r) (j:=v) () ()<|l.trans o.symm;by_cases z:v+1=r+(XS L a).z;let:r=i:=();rw[this]at l;exact T l;exact cY u (i:=r) (j:=v+1) () ()<|l.trans o.symm;by_cases z:r+1=v;let:v=j:=();rw[this]at o;exact N o;exact cY u (i:=r+1) (j:=v) () ()<|l.trans o.symm;exact cY u (i:=r+1) (j:=v+1) () ()<|l.trans o.symm
  let p:=tK m B w q (S:=[a,b]) (i:=j) (i+(XS L a).z-j) λt ht=>good (j+t)<|g2 (j+t) () ();rw[show j+(i+(XS L a).z-j)=i+(XS L a).z by lia,bP<|zaz i _]at p;exact p.bk m ((X Qh).mpr N)<|W Qh
 let#[i,T,H]:=cT hx;let#[j,N,G]:=cT Q;ext(z|z|z:zcF i j);rw[<-H,<-G];exact K i j z N (by erw[H,xb]) (by erw[G,U]);rw[<-H,<-G,z];exact .here;let p:=K j i z T (by erw[G,U]) (by erw[H,xb]);rw[H,G]at p;exact p.bk m ((X Q).mpr U)<|W Q
theorem Reach.closed{P:Int->Prop}{s x:Int}(r:Reach L s x)(g:P s)(d:∀y z:Int,P y->Dt L (y,z)->P z):P x:=by
 induction r with
 | here=>exact g
 | @step i l x r e c f=>exact d _ _ f<|Reach.oj e c
theorem back_mem(m:av L)(h:Dt L (x,y)):x∈XS L y:=(h.back m).2.2.2
theorem link(s:bS L)(sm:ox L)(D:Dec L R)(mp:AM R)(ab:a≠b)(l:0<=a)(h:a<L.z)(E:0<=b)(b1:b<L.z)(I:∀x:Int,0<=x->x<L.z->2<=(XS L x).z) :
  ∃x∈XS L a,x≠b/\∃y∈XS L b,y≠a/\dW L [a,b] x y:=by
 let m:=s.map;by_cases F:b∈XS L a;let dt:Dt L (a,b):=#[l,h,F];let#[c,N,Y]:=zaT.mp<|(D.mem _).mpr dt;let#[g,U,n]:=D.good m N;let f:=sm.ring g (by erw[U,n]);let#[i,u]:=Iu m D N Y;let st:=g.st i;generalize c.map (·.1)=r at g f u st;let ac:=g.two;let v:cy r i=a:=(zaA Prod.fst u).symm;let o:cy r (i+1)=b:=(zaA Prod.snd u).symm;let three:3<=r.z:=by
  refine zaB λz=>?_;let l2:r.z=2:=();let e2:cy r (i+2)=a:=by rw[show i+2=i+r.z by lia,bP<|zaz i _,v]
  rw[<-u]at st;let e:pre (XS L b) a=a:=by let:=zaA Prod.snd st;exact this.trans e2
  let:=nk (m.nd _ _<|aD E b1) (back_mem m dt) e;let:=I b E b1;rw[‹XS L b=[a]›]at this;simp at this
 let p:=oJ g (S:=[a,b]) (i:=i+1) (r.z-3) λt t1 t2 z=>by simp only[zbm,zaR,zbt]at z;ext(z|z:z);exact cY f () ()<|v.trans z.symm;exact cY f () ()<|o.trans z.symm
 rw[show i+1+1=i+2 by lia,show i+1+(r.z-3+1)=i+(r.z-1)by lia]at p;let O:Dt L (b,cy r<|i+2):=by let:=g.dt<|i+1;erw[<-o,this]
 let X:Dt L (cy r<|i+(r.z-1),a):=by
  let:=g.dt<|i+(r.z-1);let e:cy r (i+(r.z-1)+1)=a:=by rw[show i+(r.z-1)+1=i+r.z by lia,bP<|zaz i _,v]
  erw[<-e,this]
 let G:cy r (i+2)≠a:=λz=>cY f (i:=i) (j:=i+2) () ()<|v.trans z.symm;let yb:cy r (i+2)≠b:=λz=>cY f (i:=i+1) (j:=i+2) () ()<|o.trans z.symm;let Z:cy r (i+(r.z-1))≠b:=λz=>cY f (i:=i+1) (j:=i+(r.z-1)) () ()<|o.trans z.symm;let M:=O.back m;exact#[_,back_mem m X,Z,_,O.mem,G,p.bk m (by simp;exact#[G,yb]) #[M.1,M.2.1]];let ha:=I a l h;let h0:0<(XS L a).z:=();let A:cy (XS L a) 0∈XS L a:=eL h0;let C:cy (XS L a) 0≠b:=λz=>F<|z▸A;let B:=Dt.back (d:=(a,cy (XS L a) 0)) #[l,h,A] m;let Q:cy (XS L a) 0∉[a,b]:=by simp;exact#[B.2.2.1,C]
 refine zaB λW=>?_;let T:=((s.mD a l h).sym m #[(),()]).trans<|s.mD b E b1;let P:=T.closed (P:=λw=>w=a\/dW L [a,b] (cy (XS L a) 0) w) (.inl rfl) λy z k q=>by ext(rfl|k:k);exact .inr<|Ng m sm D mp ab l h A q.mem C λw=>F<|w▸q.mem;by_cases K:z=a;exact .inl K;let yn:=dW.fQ k Q;by_cases H:z=b;subst H;refine absurd #[_,A,C,y,back_mem m q,λw=>yn (by simp[w]),k] W;exact .inr (k.trans<|dW.one (d:=(y,z)) q<|by simp;exact#[K,H])
 ext(z|z:P);exact ab z.symm;exact dW.fQ z Q A?
theorem M7(s:bS L)(ab:a≠b)(j:0<=a)(l:a<L.z){z:Int}(o:0<=z)(k:z<L.z)(h:z≠a)(n:z≠b) :
  ∃x,dW L [a,b] z x/\((x∈XS L a/\x≠b)\/(x∈XS L b/\x≠a)):=by
 let m:=s.map;let g:z∉[a,b]:=by simp;exact#[h,n]
 refine zaB λf=>?_;let i:=((s.mD z o k).sym m #[(),()]).trans<|s.mD a j l;let P:=i.closed (P:=λw=>dW L [a,b] z w) .here λy u c e=>by let d:=dW.fQ c g;simp[zbm,zaR,zbt,zec]at d;refine c.trans<|dW.one e λw=>?_;simp[zbm,zaR,zbt]at w;ext(rfl|rfl:w);exact f #[y,c,.inl #[back_mem m e,d.2]];exact f #[y,c,.inr #[back_mem m e,d.1]]
 exact dW.fQ P g A?
theorem Mv(s:bS L)(sm:ox L)(D:Dec L R)(l:AM R)(N:∀x:Int,0<=x->x<L.z->2<=(XS L x).z)(ab:a≠b)(g:0<=a)(f:a<L.z)(k:0<=b)(b1:b<L.z){x y:Int}(S:0<=x)(W:x<L.z)(t:0<=y)(o:y<L.z)(Z:x≠a)(O:x≠b)(n:y≠a)(E:y≠b):dW L [a,b] x y:=by
 let m:=s.map;let#[u,i,C,v,H,T,U]:=link s sm D l ab g f k b1 N;let X:∀{p q:Int},p∈XS L a->q∈XS L a->p≠b->q≠b->dW L [a,b] p q:=Ng m sm D l ab g f;let nB:∀{p q:Int},p∈XS L b->q∈XS L b->p≠a->q≠a->dW L [a,b] p q:=λe c Y K=>(Ng m sm D l (zaZ ab) k b1 e c Y K).wk m λz _ _ A=>by simp[zbm,zaR,zbt]at A ⊢;exact A.symm
 let F:∀{p:Int},p∈XS L a->(0<=p/\p<L.z)/\p≠a:=λj=>let h:=Dt.back (d:=(a,_)) #[g,f,j] m;#[#[h.1,h.2.1],h.2.2.1]
 let G:∀{p:Int},p∈XS L b->(0<=p/\p<L.z)/\p≠b:=λj=>let h:=Dt.back (d:=(b,_)) #[k,b1,j] m;#[#[h.1,h.2.1],h.2.2.1]
 let un:u∉[a,b]:=by simp;exact#[(F i).2,C]
 let B:∀{z:Int},0<=z->z<L.z->z≠a->z≠b->dW L [a,b] z u:=λ{z} M Q P I=>by let#[w,r,h]:=M7 s ab g f M Q P I;ext(⟨e,c⟩|⟨e,c⟩:h);exact r.trans<|X e i c C;exact(r.trans<|nB e H c T).trans<|U.bk m un (F i).1
 exact(B S W Z O).trans<|(B t o n E).bk m (by simp;exact#[n,E]) #[t,o]
theorem HY{n:Nat}(h:4<=n)(p q r:Int):∃z:Int,0<=z/\z<n/\z≠p/\z≠q/\z≠r:=by
 refine zaB λno=>?_;let:=dH (mR n) (r:=[p,q,r]) λx hx=>by let hx:=ig.mp hx;simp only[zbm,zaR,zbt];refine zaB λz=>no #[x,hx.1,hx.2,?_];simp[zec]at z;exact z
 rw[gg]at this;simp at this;lia
theorem zT(s:bS L)(sm:ox L)(D:Dec L R)(P:AM R)(B:∀x:Int,0<=x->x<L.z->2<=(XS L x).z)(l:4<=L.z):uM L:=by
 ext a b x y G M u r O C o K;let m:=s.map;obtain⟨c,F,p,A,I,t⟩:∃c:Int,0<=c/\c<L.z/\x≠c/\y≠c/\(0<=a->a<L.z->a=c):=by by_cases h:0<=a/\a<L.z;exact#[a,h.1,h.2,O,o,λ_ _=>rfl];let#[z,e,f,g,k,_]:=HY l x y x;exact#[z,e,f,zaZ g,zaZ k,λj i=>absurd #[j,i] h]
 obtain⟨d,H,b1,N,v,ba,bm⟩:∃d:Int,0<=d/\d<L.z/\x≠d/\y≠d/\c≠d/\(0<=b->b<L.z->b=d\/b=c):=by by_cases h:(0<=b/\b<L.z)/\c≠b;exact#[b,h.1.1,h.1.2,C,K,h.2,λ_ _=>.inl rfl];let#[z,e,f,g,k,E]:=HY l x y c;refine#[z,e,f,zaZ g,zaZ k,zaZ E,λj i=>.inr ?_];exact zaB λw=>h #[#[j,i],λq=>w q.symm]
 refine(Mv s sm D P B ba F p H b1 G M u r A N I v).wk m λz e f n=>?_;simp[zbm,zaR,zbt]at n ⊢;ext(rfl|rfl:n);exact .inl<|t e f;exact(bm e f).symm
end
theorem fP(r:b9):(sh 0 r).map (·.1)=r:=by unfold sh;rw[zdw];refine zcr A? λi h1 h2=>?_;simp[zcB,zcz,Function.comp];show cy r (i+0)=_;rw[zcx,fI h2]
theorem xJ(f:fN L R)(g:av L)(h:Dt L (x,b)):∃(i:Nat) (r:b9),R[i]?=some r/\lo R (x,b)=i/\(x,b)∈sh 0 r/\b∈r:=by
 let#[i,r,j,d,k,e,c]:=gP f h;let a:0<r.z:=();refine#[i,r,d,c,(bE a).mpr #[j,e],?_];let:b=cy r (j+1):=zaA Prod.snd e;erw[this,eL a]
theorem tT.Gk(D:tT L R)(sm:ox L){b:Int}(d:0<=b)(b1:b<L.z):(rd L R b).Nodup:=by
 let k:=D.im.nd _ _<|aD d b1;refine zca.mpr<|k.imp_of_mem λ{x y} h o p q=>p ?_;let c:=fc D.im d b1 h;let a:=fc D.im d b1 o;let#[i,r,f,e,m,_]:=xJ D.ld D.im #[c.1,c.2.1,c.2.2.2];let#[j,s,g,l,n,_]:=xJ D.ld D.im #[a.1,a.2.1,a.2.2.2];rw[q,l]at e;let:j=i:=();subst this;rw[f]at g;cases g;exact mK D.im sm D.ld.dec (zap.mpr #[r,zah f,rfl]) m n
theorem tT.pW(D:tT L R)(sm:ox L):ox<|Du R:=λd g=>by let#[c,a,f]:=zaT.mp<|(D.dec.mem d).mpr g;refine#[c,f,D.dec.jq c a,?_];let#[b,e,rfl]:=zap.mp a;let e:=zaU.mp e;erw[fP,D.Gk sm () ()]
theorem tT.meet(D:tT L R)(t:uM L)(s:bS L)(sm:ox L):AM ((List.range L.z).map λb:Nat=>sh 0<|rd L R (b:Int)):=by
 ext c1 h1 c2 h2 ne a b ab K b1 I b2;let#[p,y,rfl]:=zap.mp h1;let#[q,C,rfl]:=zap.mp h2;let y:=zaU.mp y;let C:=zaU.mp C;let pq:(p:Int)≠(q:Int):=λz=>ne (by rw[z]);rw[fP]at K b1 I b2;let w:∀{z:Int} {u:Nat},u<L.z->z∈rd L R (u:Int)->∃(i:Nat) (r:b9),R[i]?=some r/\z=i/\(u:Int)∈r:=λ{z u} hu hz=>by let#[x,hx,e]:=zap.mp hz;let H:=fc D.im () () hx;let#[i,r,hr,el,_,hb]:=xJ D.ld D.im #[H.1,H.2.1,H.2.2.2];exact#[i,r,hr,by erw[<-e,el],hb]
 let#[i,c,F,Z,N]:=w y K;let#[Q,ag,QH,ad,O]:=w C I;let#[j,l,E,M,T]:=w y b1;let#[j',al,Y,ac,P]:=w C b2;let:Q=i:=();subst this;let:j'=j:=();subst this;rw[F]at QH;cases QH;rw[E]at Y;cases Y;let W:=zah F;let X:=zah E;let S:sh 0 c∈R.map (sh 0):=zap.mpr #[c,W,rfl];let cb:sh 0 l∈R.map (sh 0):=zap.mpr #[l,X,rfl];let G:=D.ld.good c W;let gb:=D.ld.good l X;let v:∀{d:ak},d∈sh 0 c->lo R d=Q:=λo=>by let#[k,rfl]:=(bE (by let:=G.two;lia)).mp o;exact iH D.ld F k
 let n:∀{d:ak},d∈sh 0 l->lo R d=j':=λo=>by let#[k,rfl]:=(bE (by let:=gb.two;lia)).mp o;exact iH D.ld E k
 let U:sh 0 c≠sh 0 l:=λz=>by let m:dj c 0∈sh 0 c:=(bE (by let:=G.two;lia)).mpr #[0,rfl];let f:=v m;rw[z]at m;let h:=n m;lia
 let A:=t.meet s sm D.ld.dec S cb U pq (by erw[fP,N]) (by erw[fP,O]) (by erw[fP,T]) (by erw[fP,P]);let B:=t.meet s sm D.ld.dec cb S (zaZ U) pq (by erw[fP,T]) (by erw[fP,P]) (by erw[fP,N]) (by erw[fP,O]);rw[D.CH () ()];let dt:∀{r:b9} {d:ak},Good L r->d∈sh 0 r->Dt L d:=λg o=>by let#[k,rfl]:=(bE (by let:=g.two;lia)).mp o;exact g.dt k
 ext(A|A:A)<;>ext(B|B:B);let f:=v A;let h:=n B;lia;right;refine zap.mpr #[(q:Int),(dt G A).mem,?_];let f:=v A;let h:=n B;unfold dl;rw[f,h,Z,M];left;refine zap.mpr #[(q:Int),(dt gb B).mem,?_];let f:=v A;let h:=n B;unfold dl;rw[f,h,Z,M];let f:=v A;let h:=n B;lia
theorem Ik{L:cp}{g:Nat}(h:∀x:Int,0<=x->x<L.z->g<=(XS L x).z):∀k,k<=L.z->g*k<=(eN L k).z
 | 0,_=>zaS _
 | k+1,hk=>by let ih:=Ik h k ();let:=h (k:Int) () ();rw[eN,zay,zaa,Nat.mul_succ];lia
structure da(L:cp):Prop where
 cq:bS L
 pW:ox L
 Fi:uM L
 four:4<=L.z
theorem da.map(t:da L):av L:=t.cq.map
theorem da.yE(t:da L){x:Int}(a:0<=x)(b:x<L.z):3<=(XS L x).z:=t.Fi.yE t.map t.four a b
theorem da.xD(t:da L)(c:fN L R):4<=R.z:=by let h:=(t.cq.lands t.four c).2;let g:=Ik (λx a b=>t.yE a b) L.z<|zai _;let d:=dA t.map;let:=t.four;lia
theorem da.Ol(t:da L)(a:fN L R):da<|Du R:=by let D:=t.Fi.Xp t.cq t.pW t.four a;let c:=t.xD a;let sh:=D.cq t.cq ();let sm:=D.pW t.pW;refine#[sh,sm,zT sh sm D.dec (D.meet t.Fi t.cq t.pW) (λx e d=>?_) (by erw[eK,c]),by erw[eK,c]];rw[eK]at d;let#[k,rfl]:=zaD e;let b:R[k]?=some R[k]:=zaf ();erw[mF b,eR,(a.good _<|zah b).two]
theorem qL(a:2<=r.z)(dt:∀j,j<r.z->Dt L (dj r j))(st:∀j,j<r.z->nx L (dj r j)=dj r (j+1)):Good L r:=by let e:∀j,dj r j=dj r (j%r.z):=λj=>bU (zbT j _).symm;let b:∀j,j%r.z<r.z:=λj=>zbr _ ();refine#[a,λj=>by erw[e,dt _<|b j],λj=>?_];erw[e j,st _<|b j,bU<|by rw[zdM]]
theorem nW(h:0<r.z)(j:Nat):dj r j∈sh 0 r:=(bE h).mpr #[j,rfl]
theorem F3(h:r.Nodup):(sh 0 r).Nodup:=by
 let:((sh 0 r).map (·.1)).Nodup:=by erw[fP,h]
 exact(zca.mp this).imp λh z=>h (by rw[z])
theorem fN.pW(b:fN L R)(h:∀q∈R,q.Nodup):ox L:=λd c=>by let#[q,a,e]:=zaK.mp<|b.all d c;exact#[sh 0 q,e,(b.good q a).jq,by erw[fP,h q a]]
theorem ox.rings(s:ox L)(b:fN L R):∀q∈R,q.Nodup:=λq a=>s.ring (b.good q a)<|rR b a
theorem yK{a:Type}{R:List a}{k:Nat}{r:a}(b:R[k]?=some r):R=R.take k++r::R.drop (k+1):=by let#[h,e]:=zac.mp b;rw[<-e,<-zcg h,zcN]
theorem fN.off(c:fN L R)(f:R[k]?=some r)(g:q∈R.take k++R.drop (k+1))(i j:Nat):dj q i≠dj r j:=λz=>by
 let e:=yK f;let l:q∈R:=by rw[e];ext(h|h:zam.mp g);exact zaJ _ h;exact zaF _<|zag _ h
 let a:=c.nd;rw[e,zcn,zcy]at a;let b:dj q i∈sh 0 q:=nW (by let:=(c.good q l).two;lia) i;let d:dj r j∈sh 0 r:=nW (by let:=(c.good r<|zah f).two;lia) j;rw[z]at b;ext(h|h:zam.mp g);exact(zbh.mp a).2.2 _ (zaK.mpr #[q,h,b]) _ (zaJ _ d) rfl;exact(zbh.mp (zbh.mp a).2.1).2.2 _ d _ (zaK.mpr #[q,h,b]) rfl
theorem fN.split(v:fN L R)(I:R[k]?=some r)(f:∀q∈R.take k++R.drop (k+1),Good M q)(t:∀b∈B,Good M b)(nB:∀b∈B,(sh 0 b).Nodup)(Q:B.Pairwise λb c=>∀i j,dj b i≠dj c j)(E:∀b∈B,∃j,¬Dt L (dj b j))(all:∀d,Dt M d->Dt L d\/d∈B.flatMap (sh 0))(O:∀j,dj r j∈B.flatMap (sh 0)):fN M<|R.take k++B++R.drop (k+1):=by
 let e:=yK I;let sub:∀q,q∈R.take k++R.drop (k+1)->q∈R:=λq a=>by rw[e];ext(h|h:zam.mp a);exact zaJ _ h;exact zaF _<|zag _ h
 refine#[λq a=>?_,?_,λd w=>?_];ext(h|h:zam.mp a);ext(h|h:zam.mp h);exact f q<|zaJ _ h;exact t q h;exact f q<|zaF _ h;let u:=v.nd;rw[e,zcn,zcy]at u;let G:∀d,d∈B.flatMap (sh 0)->∀q∈R.take k++R.drop (k+1),d∉sh 0 q:=λd w q a s=>by let#[b,g,T]:=zaK.mp w;let C:=t b g;let F:=f q a;let#[i,A]:=(bE (by let:=C.two;lia)).mp T;let#[j,D]:=(bE (by let:=F.two;lia)).mp s;let#[o,H]:=E b g;let K:=C.along F (A.symm.trans D)<|o+i*(b.z-1);let md:dj b (i+(o+i*(b.z-1)))=dj b o:=bU (by let Y:=C.two;rw[show i+(o+i*(b.z-1))=o+b.z*i by obtain⟨n,X⟩:∃n,b.z=n+1:=#[b.z-1,()];rw[X,zcu,zeq,zfb,zcK n i];lia,zcW]);rw[md]at K;rw[K]at H;exact H<|(v.good q<|sub q a).dt _
 let Z:=(zbh.mp u).1;let P:=(zbh.mp (zbh.mp u).2.1).2.1;let U:(B.flatMap<|sh 0).Nodup:=by show((B.map<|sh 0).flatten).Nodup;refine zcb.mpr #[λl S=>?_,zca.mpr<|Q.imp_of_mem λ{b c} g W h x p y m z=>?_];let#[b,g,rfl]:=zap.mp S;exact nB b g;let#[i,A]:=(bE (by let:=(t b g).two;lia)).mp p;let#[j,D]:=(bE (by let:=(t c W).two;lia)).mp m;exact h i j<|A.symm.trans<|z.trans D
 rw[zcn,zcn];refine zbh.mpr #[zbh.mpr #[Z,U,λx p y m z=>?_],P,λx p y m z=>?_];let#[q,a,Y5]:=zaK.mp p;exact G y m q (zaJ _ a)<|z▸Y5;let#[q,a,N]:=zaK.mp m;ext(h|h:zam.mp p);exact(zbh.mp u).2.2 x h y (zaF _ m) z;exact G x h q (zaF _ a)<|z▸N;rw[zcn,zcn];ext(h|h:all d w);let#[q,a,s]:=zaK.mp<|v.all d h;rw[e]at a;ext(h|h:zam.mp a);exact zaJ _<|zaJ _<|zaK.mpr #[q,h,s];ext(rfl|h:zas.mp h);let#[j,rfl]:=(bE (by let:=(v.good q<|zah I).two;lia)).mp s;exact zaJ _<|zaF _<|O j;exact zaF _<|zaK.mpr #[q,h,s];exact zaJ _<|zaF _ h
noncomputable def cD(r:b9)(s m:Nat):b9:=(List.range m).map λt=>cy r<|s+t
theorem bu(r:b9)(s m:Nat):(cD r s m).z=m:=by unfold cD;simp
theorem oz(h:t<m):(cD r s m)[t]?=some (cy r<|s+t):=by unfold cD;simp[h]
theorem vK(h:q[j]?=some x):cy q j=x:=by let#[a,b]:=zac.mp h;erw[fI a,b]
theorem Ot:cy q q.z=cy q 0:=bP (by rw[zeb,zeF])
theorem lD(h:t<m):cy (cD r s m) t=cy r (s+t):=vK<|oz h
theorem fv(h:t+1<m):dj (cD r s m) t=dj r (s+t):=by unfold dj;rw[lD (),lD h];rfl
theorem DK(h:0<m):dj (cD r s m) (m-1)=(cy r<|s+(m-1),cy r s):=by unfold dj;rw[lD (),show m-1+1=(cD r s m).z by rw[bu];lia,Ot,lD h];rfl
theorem DJ(h:1<m):dj (cD r s m) m=dj r s:=by let e:dj (cD r s m) m=dj (cD r s m) 0:=bU (by rw[bu,zeb,zeF]);rw[e,fv ()];rfl
theorem oy(n:r.Nodup)(s:Nat)(h:m<=r.z):(cD r s m).Nodup:=Ms n s h
theorem Om(n:(sh 0 r).Nodup)(a:0<r.z)(e:dj r i=dj r j):i%r.z=j%r.z:=by let c:dj r i=dj r (i%r.z):=bU (zbT i _).symm;let b:dj r j=dj r (j%r.z):=bU (zbT j _).symm;let d:=zbr i a;let f:=zbr j a;rw[c,b]at e;ext(z|z|z:zcF (i%r.z)<|j%r.z);exact absurd e<|kS n z ();exact z;exact absurd e.symm<|kS n z ()
theorem da.OI(t:da L)(a:fN L R)(E:R[k]?=some r)(m2:2<=m)(m1:m+2<=r.z)(p:cy r (i+m)∉XS L (cy r i)) :
  ∃M,da M/\M.z=L.z/\fN M (R.take k++[cD r i<|m+1,cD r (i+m)<|r.z-m+1]++R.drop (k+1)):=by
 let C:=t.map;let P:=zah E;let g:=a.good r P;let ns:=rR a P;let K:=t.pW.rings a r P;let#[H,a0,a1,Y]:=dU g C (c:=i);let#[B,b0,b1,Xj]:=dU g C (c:=i+m);let X:cy r i≠cy r (i+m):=cY K () ();let F:bZ L (cy r i) (cy r<|i+m) (put (XS L<|cy r i) ((XS L<|cy r i).idxOf<|cy r<|i+(r.z-1))<|cy r<|i+m)<|put (XS L<|cy r<|i+m) ((XS L<|cy r<|i+m).idxOf<|cy r<|i+m+(r.z-1))<|cy r i:=by let OP:cy r i∉XS L (cy r<|i+m):=λz=>p (Dt.back (d:=(cy r<|i+m,cy r i)) #[b0,b1,z] C).2.2.2;exact#[C,a0,a1,b0,b1,X,p,i6 _ _ _,i6 _ _ _,gV p,gV OP]
 let OK:=F.cq t.cq H B (gL H p) (gL B F.OP) (λPd h0 hs=>by rw[<-Y]at h0;erw[<-Xj,g.on hs h0 _]);let#[n1,n2,n3,G,w]:=F.I9 H B (gL H p)<|gL B F.OP;let hd:=λd (h:Dt _ d)=>F.eN (d:=d) h;let sub:=F.sub;let I:=F.dt;let N:=(F.dt.back F.ir);let l:(both L (cy r i) (cy r<|i+m) (put (XS L<|cy r i) ((XS L<|cy r i).idxOf<|cy r<|i+(r.z-1))<|cy r<|i+m)<|put (XS L<|cy r<|i+m) ((XS L<|cy r<|i+m).idxOf<|cy r<|i+m+(r.z-1))<|cy r i).z=L.z:=eM;rw[<-Y]at n1 G w;rw[<-Xj]at n2 n3 w;rw[g.st]at n3 G;generalize both L (cy r i) (cy r<|i+m) (put (XS L<|cy r i) ((XS L<|cy r i).idxOf<|cy r<|i+(r.z-1))<|cy r<|i+m) (put (XS L<|cy r<|i+m) ((XS L<|cy r<|i+m).idxOf<|cy r<|i+m+(r.z-1))<|cy r i)=M at *;let q1:dj r (i+m+(r.z-1))=dj r (i+(m-1)):=bU (by rw[show i+m+(r.z-1)=i+(m-1)+r.z by lia,zaz]);let q3:dj r (i+m+(r.z-1)+1)=dj r (i+m):=bU (by rw[show i+m+(r.z-1)+1=i+m+r.z by lia,zaz]);let q4:dj r (i+(r.z-1)+1)=dj r i:=bU (by rw[show i+(r.z-1)+1=i+r.z by lia,zaz]);rw[q1]at n2 w;rw[q3]at n3;rw[q4]at G;let Sa:¬Dt L (cy r i,cy r<|i+m):=λz=>p z.mem;let S:¬Dt L (cy r<|i+m,cy r i):=λz=>F.OP z.mem;let rn:cy r (i+m+(r.z-m))=cy r i:=bP (by rw[show i+m+(r.z-m)=i+r.z by lia,zaz]);let o:dj (cD r i<|m+1) m=(cy r<|i+m,cy r i):=by let:=DK (r:=r) (s:=i) (m:=m+1) ();rwa [zcu]at this
 let x:dj (cD r (i+m)<|r.z-m+1) (r.z-m)=(cy r i,cy r<|i+m):=by let:=DK (r:=r) (s:=i+m) (m:=r.z-m+1) ();rw[zcu,rn]at this;exact this
 let U:Good M<|cD r i<|m+1:=by refine qL (by rw[bu];lia) (λj n=>?_)<|λj n=>?_;rw[bu]at n;by_cases z:j<m;rw[fv ()];exact sub _<|g.dt _;rw[show j=m by lia,o];exact#[N.1,N.2.1,N.2.2.2];rw[bu]at n;by_cases z:j+1<m;rw[fv (),fv (),w _ (g.dt _) (kS ns () ())<|kS ns () (),g.st];rfl;by_cases y:j+1=m;rw[fv (),y,o,show i+j=i+(m-1)by lia,n2];rw[show j=m by lia,o,G,DJ ()]
 let T:Good M<|cD r (i+m)<|r.z-m+1:=by refine qL (by rw[bu];lia) (λj n=>?_)<|λj n=>?_;rw[bu]at n;by_cases z:j<r.z-m;rw[fv ()];exact sub _<|g.dt _;rw[show j=r.z-m by lia,x];exact I;rw[bu]at n;by_cases z:j+1<r.z-m;rw[fv (),fv (),w _ (g.dt _) (kS ns () ())<|zaZ<|kS ns () (),g.st];rfl;by_cases y:j+1=r.z-m;rw[fv (),y,x,show i+m+j=i+(r.z-1)by lia,n1];rw[show j=r.z-m by lia,x,n3,DJ ()]
 let Yk:∀j,Dt L (dj (cD r (i+m)<|r.z-m+1) j)\/dj (cD r (i+m)<|r.z-m+1) j=(cy r i,cy r<|i+m):=λj=>by let e:dj (cD r (i+m)<|r.z-m+1) j=dj (cD r (i+m)<|r.z-m+1) (j%(r.z-m+1)):=bU (by rw[bu,zbT]);let lt:=zbr j (show 0<r.z-m+1 by lia);rw[e];by_cases z:j%(r.z-m+1)<r.z-m;left;rw[fv ()];exact g.dt _;right;rw[show j%(r.z-m+1)=r.z-m by lia,x]
 let Q:∀q∈R.take k++R.drop (k+1),Good M q:=λq A=>by
  let qm:q∈R:=by ext(h|h:zam.mp A);exact zcI h;exact zdN h
  let D:=a.good q qm;refine#[D.two,λj=>sub _<|D.dt j,λj=>?_];rw[w _ (D.dt j) (a.off E A j _)<|a.off E A j _,D.st]
 let oU:=oy K i (m:=m+1) ();let W:=oy K (i+m) (m:=r.z-m+1) ();let Z:fN M<|R.take k++[cD r i<|m+1,cD r (i+m)<|r.z-m+1]++R.drop (k+1):=by
  refine a.split E Q (λb f=>?_) (λb f=>?_) ?_ (λb f=>?_) (λd Ux=>?_)<|λj=>?_;simp only[zbm,zaR,zbt]at f;ext(rfl|rfl:f);exact U;exact T;simp only[zbm,zaR,zbt]at f;ext(rfl|rfl:f);exact F3 oU;exact F3 W;refine List.pairwise_pair.mpr λu v z=>?_;let O:=U.along T z<|m+u*m;let md:dj (cD r i<|m+1) (u+(m+u*m))=dj (cD r i<|m+1) m:=bU (by rw[bu,show u+(m+u*m)=m+(m+1)*u by rw[zeq,zfb,zcK m u];lia,zcW]);rw[md,o]at O;ext(h|h:Yk<|v+(m+u*m));rw[<-O]at h;exact S h;rw[<-O]at h;exact X<|zaA Prod.snd h;simp only[zbm,zaR,zbt]at f;ext(rfl|rfl:f);exact#[m,by erw[o,S]];exact#[r.z-m,by erw[x,Sa]];ext(h|h|h:hd d Ux);exact .inl h;right;refine zaK.mpr #[cD r (i+m)<|r.z-m+1,by simp,?_];rw[h,<-x];exact nW (by rw[bu];lia) _;right;refine zaK.mpr #[cD r i<|m+1,by simp,?_];rw[h,<-o];exact nW (by rw[bu];lia) _;let#[u,hu,e]:=seg_at (r:=r) (s:=i) (t:=j) ();rw[e];by_cases z:u<m;refine zaK.mpr #[cD r i<|m+1,by simp,?_];rw[<-fv (r:=r) (s:=i) (m:=m+1) ()];exact nW (by rw[bu];lia) _;refine zaK.mpr #[cD r (i+m)<|r.z-m+1,by simp,?_];let:dj r (i+u)=dj (cD r (i+m)<|r.z-m+1) (u-m):=by rw[fv (),show i+m+(u-m)=i+u by lia]
  erw[this,nW (by rw[bu];lia) _]
 let sm:ox M:=Z.pW λq A=>by ext(h|h:zam.mp A);ext(h|h:zam.mp h);exact t.pW.rings a q<|zcI h;simp only[zbm,zaR,zbt]at h;ext(rfl|rfl:h);exact oU;exact W;exact t.pW.rings a q<|zdN h
 exact#[M,#[OK,sm,t.Fi.up l sub,by erw[l,t.four]],l,Z]
theorem zC(c:l.Nodup)(b:z∈l)(a:n∉l):pre (put l (l.idxOf z) n) n=pre l z:=by let f:(put l (l.idxOf z) n).Nodup:=vt a c;let d:z∈put l (l.idxOf z) n:=jE.mpr<|.inr b;let mn:n∈put l (l.idxOf z) n:=jE.mpr<|.inl rfl;let h:=lq f d mn<|λe=>a<|e▸b;rw[gV a,zad<|gL b a]at h;exact h.symm
theorem bS.put2(s:bS L)(g:Good L r)(q:(sh 0 r).Nodup)(u:cs≠[])(f:cs.Pairwise (·<·))(o:∀c∈cs,c<r.z)(un:(cs.map<|cy r).Nodup) :
  ∃M,SQ L r cs M/\∀c∈cs,XS M (cy r c)=Gm.put (XS L<|cy r c) ((XS L<|cy r c).idxOf<|cy r<|c+(r.z-1)) L.z:=by
 let#[M,w,x,a,_,rows]:=s.place g q f o un cs.z (zbP.mpr u)<|zai _;rw[zbp]at a rows;refine#[M,#[a.sh,a.len,a.new,a.sub,a.keep,λd v p=>?_],rows];let#[i,b1,b2,n]:=v.back s.map;unfold nx;by_cases h:∃c∈cs,cy r c=d.2;let#[c,b,e]:=h;let#[k,m,t,l]:=dU g s.map;rw[e]at k m t l;let j:=rows c b;rw[e]at j;rw[j,rX (s.map.nd _ _<|aD i b1) k (mC s.map i b1) n λz=>p c b ?_];rw[l,<-z];rw[a.keep d.2 i b1 λc b e=>h #[c,b,e]]
noncomputable def lG(cs:List Nat)(k:Nat):Nat:=cs.getD ((k+(cs.z-1))%cs.z) 0
noncomputable def lF(r:b9)(cs:List Nat)(k:Nat):Nat:=if cs.getD k 0<lG cs k then cs.getD k 0+r.z else cs.getD k 0
noncomputable def gn(r:b9)(cs:List Nat)(N:Nat)(k:Nat):b9:=cD r (lG cs k) (lF r cs k-lG cs k+1)++[(N:Int)]
noncomputable def wd(r:b9)(cs:List Nat)(N:Nat):cp:=(List.range cs.z).map<|gn r cs N
structure Arc(r:b9)(cs:List Nat)(k h T:Nat):Prop where
 hm:∃j,j<cs.z/\cs[j]?=some h/\j=(k+(cs.z-1))%cs.z
 km:∃c,cs[k]?=some c/\(T=c\/T=c+r.z)
 lt:h<T
 le:T<h+r.z
 top:h<r.z
 no:∀u,h<u->u<T->∀c∈cs,c≠u/\c+r.z≠u
theorem IJ(p:cs.Pairwise (·<·))(l:∀c∈cs,c<r.z)(A:2<=cs.z)(g:k<cs.z):Arc r cs k (lG cs k)<|lF r cs k:=by
 let mono:∀{i j:Nat} (m:i<cs.z) (a:j<cs.z),i<j->cs[i]<cs[j]:=λm a h=>zbe.mp p _ _ m a h;let o:∀{i j:Nat} (m:i<cs.z) (a:j<cs.z),cs[i]<cs[j]->i<j:=λ{i j} m a h=>by ext(z|z|z:zcF i j);exact z;subst z;lia;let:=mono a m z;lia
 let w:cs.getD k 0=cs[k]:=by rw[zak,zaf g];rfl
 let y:=l cs[k]<|zbL _;by_cases k0:k=0;subst k0;let e:(0+(cs.z-1))%cs.z=cs.z-1:=by erw[zbQ,zaY ()]
 let b:cs.z-1<cs.z:=();let f:lG cs 0=cs[cs.z-1]:=by unfold lG;rw[e,zak,zaf b];rfl
 let x:=l cs[cs.z-1]<|zbL _;let v:=mono g b ();let s:lF r cs 0=cs[0]+r.z:=by unfold lF;rw[w,f,zad v]
 rw[s];refine#[#[_,b,by erw[f,zaf b],e.symm],#[_,zaf g,.inr rfl],(),(),(),λu d t c n=>?_];let#[j,a,q]:=zaH.mp n;rw[f]at d;let cl:=l c n;refine#[λz=>?_,λz=>?_];rw[<-z,<-q]at d;let:=o b a d;lia;let:cs[j]<cs[0]:=();let:=o a g this;lia;let e:(k+(cs.z-1))%cs.z=k-1:=by erw[show k+(cs.z-1)=k-1+cs.z by lia,zaz,zaY ()]
 let b:k-1<cs.z:=();let f:lG cs k=cs[k-1]:=by unfold lG;rw[e,zak,zaf b];rfl
 let x:=l cs[k-1]<|zbL _;let v:=mono b g ();let s:lF r cs k=cs[k]:=by unfold lF;rw[w,f,zab ()]
 rw[s];refine#[#[_,b,by erw[f,zaf b],e.symm],#[_,zaf g,.inl rfl],(),(),(),λu d t c n=>?_];let#[j,a,q]:=zaH.mp n;rw[f]at d;let cl:=l c n;refine#[λz=>?_,λz=>()];rw[<-z,<-q]at d t;let:=o b a d;let:=o a g t;lia
section
variable {s e N t:Nat}
theorem jP:(cD r s (e+1)++[(N:Int)]).z=e+2:=by rw[zay,bu];rfl
theorem x4(h:t<=e):cy (cD r s (e+1)++[(N:Int)]) t=cy r (s+t):=vK (by rw[zaO (by rw[bu];lia),oz ()])
theorem DV:cy (cD r s (e+1)++[(N:Int)]) (e+1)=(N:Int):=vK (by rw[zaL (by rw[bu];lia),bu,zdl];rfl)
theorem pf(h:t<e):dj (cD r s (e+1)++[(N:Int)]) t=dj r (s+t):=by unfold dj;rw[x4 (),x4 ()];rfl
theorem KU:dj (cD r s (e+1)++[(N:Int)]) e=(cy r<|s+e,(N:Int)):=by unfold dj;rw[x4<|zai _,DV]
theorem KY:dj (cD r s (e+1)++[(N:Int)]) (e+1)=((N:Int),cy r s):=by unfold dj;rw[DV,show cy (cD r s (e+1)++[(N:Int)]) (e+1+1)=cy (cD r s (e+1)++[(N:Int)]) 0 from bP (by rw[jP,zeb,zeF]),x4<|zaS _];rfl
theorem KW(h:0<e):dj (cD r s (e+1)++[(N:Int)]) (e+2)=dj r s:=by let q:dj (cD r s (e+1)++[(N:Int)]) (e+2)=dj (cD r s (e+1)++[(N:Int)]) 0:=bU (by rw[jP,zeb,zeF]);rw[q,pf h];rfl
end
theorem da.stack(t:da L)(H:fN L R)(hr:R[k]?=some r)(D:cs.Pairwise (·<·))(U:∀c∈cs,c<r.z)(c3:3<=cs.z) :
  ∃M,da M/\M.z=L.z+1/\fN M (R.take k++wd r cs L.z++R.drop (k+1)):=by
 let S:=t.map;let rm:=zah hr;let g:=H.good r rm;let ns:=rR H rm;let nr:=t.pW.rings H r rm;let am:=g.two;let r0:0<r.z:=();let c0:cs≠[]:=λz=>by rw[z]at c3;simp at c3
 let un:=zbB _ (R:=λa b=>a<b/\b<r.z) (λa b h=>cY nr h.1 ())<|zcd (λ{a b} _ o h=>#[h,U b o]) D;let#[M,P,rows]:=t.cq.put2 g ns c0 D U un;let F:=P.len;let E:=P.new;let mM:=P.cq.map;let dt:∀d,Dt M d->Dt L d\/(∃c∈cs,d=(cy r c,(L.z:Int)))\/∃c∈cs,d=((L.z:Int),cy r c):=λd G=>by
  let h1:=G.hi;rw[F]at h1;by_cases z:d.1=(L.z:Int);let I:=G.mem;rw[z,E]at I;let#[c,f,e]:=zap.mp I;exact .inr<|.inr #[c,f,zbA z e.symm];let K:d.1<L.z:=();by_cases y:∃c∈cs,cy r c=d.1;let#[c,f,e]:=y;let I:=G.mem;rw[<-e,rows c f]at I;ext(w|w:jE.mp I);exact .inr<|.inl #[c,f,zbA e.symm w];rw[e]at w;exact .inl #[G.lo,K,w];let I:=G.mem;rw[P.keep _ G.lo K λc f e=>y #[c,f,e]]at I;exact .inl #[G.lo,K,I]
 let dN:∀{c:Nat},c∈cs->Dt M ((L.z:Int),cy r c):=λ{c} f=>#[(),by rw[F];lia,by erw[E,zap.mpr #[c,f,rfl]]];let dT:∀{c:Nat},c∈cs->Dt M (cy r c,(L.z:Int)):=λf=>let h:=(dN f).back mM;#[h.1,h.2.1,h.2.2.2]
 let nN:∀{x:Int},¬Dt L (x,(L.z:Int)):=λ{x} z=>by let:=(z.back S).2.1;lia
 let Tp:∀{c:Nat},c∈cs->nx M (dj r<|c+(r.z-1))=(cy r c,(L.z:Int)):=λ{c} f=>by let#[zm,x0,K,ed]:=dU g S (c:=c);rw[ed];unfold nx;dsimp only;rw[rows c f,gL zm<|mC S x0 K]
 let Ym:∀{c:Nat},c∈cs->nx M ((L.z:Int),cy r c)=dj r c:=λ{c} f=>by let#[zm,x0,K,ed]:=dU g S (c:=c);let st:=g.st<|c+(r.z-1);let e:dj r (c+(r.z-1)+1)=dj r c:=bU (by rw[show c+(r.z-1)+1=c+r.z by lia,zaz]);rw[ed,e]at st;rw[<-st];unfold nx;dsimp only;rw[rows c f,zC (S.nd _ _<|aD x0 K) zm<|mC S x0 K]
 let V9:∀{k h:Nat} {c:Nat},cs[k]?=some c->(∃j,j<cs.z/\cs[j]?=some h/\j=(k+(cs.z-1))%cs.z)->nx M (cy r c,(L.z:Int))=((L.z:Int),cy r h):=λ{k h c} s ⟨j,hj,hh,ej⟩=>by
  let X:=(zac.mp s).1;show((L.z:Int),pre (XS M (L.z:Int))<|cy r c)=_;rw[E];let l0:0<(cs.map<|cy r).z:=by rw[zaa];lia
  let e1:cy (cs.map<|cy r) (k+(cs.z-1)+1)=cy r c:=by erw[bP (show(k+(cs.z-1)+1)%(cs.map<|cy r).z=k%(cs.map<|cy r).z by rw[zaa,show k+(cs.z-1)+1=k+cs.z by lia,zaz]),vK<|by rw[zao,s];rfl]
  let e2:cy (cs.map<|cy r) (k+(cs.z-1))=cy r h:=by erw[bP (show(k+(cs.z-1))%(cs.map<|cy r).z=j%(cs.map<|cy r).z by rw[zaa,ej,zbT]),vK<|by rw[zao,hh];rfl]
  rw[<-e1,fW un l0,e2]
 let ac:=λ{k:Nat} (s:k<cs.z)=>IJ D U (r:=r) () s;let m:∀k,k<cs.z->Good M (gn r cs L.z k)/\(gn r cs L.z k).Nodup/\(∃c,cs[k]?=some c/\dj (gn r cs L.z k) (lF r cs k-lG cs k)=(cy r c,(L.z:Int)))/\
   (∀j,Dt L (dj (gn r cs L.z k) j)\/(∃c,cs[k]?=some c/\dj (gn r cs L.z k) j=(cy r c,(L.z:Int)))\/∃x,dj (gn r cs L.z k) j=((L.z:Int),x))/\(gn r cs L.z k).z=lF r cs k-lG cs k+2:=λk s=>by
  let A:=ac s;unfold gn;generalize lG cs k=h at A ⊢;generalize lF r cs k=T at A ⊢;let#[c,f,hT]:=A.km;let cm:=zah f;let#[jh,ag,hh,_]:=A.hm;let hm:=zah hh;let an:=A.lt;let le:=A.le;let eT:cy r (h+(T-h))=cy r c:=by rw[show h+(T-h)=T by lia];ext(z|z:hT);rw[z];erw[z,bP<|zaz _ _]
  let W:dj (cD r h (T-h+1)++[(L.z:Int)]) (T-h)=(cy r c,(L.z:Int)):=by rw[KU,eT]
  let E2:dj (cD r h (T-h+1)++[(L.z:Int)]) (T-h+1)=((L.z:Int),cy r h):=KY;refine#[qL (by rw[jP];lia) (λj hj=>?_)<|λj hj=>?_,?_,#[c,f,W],λj=>?_,jP];rw[jP]at hj;by_cases z:j<T-h;rw[pf z];exact P.sub _<|g.dt _;by_cases y:j=T-h;rw[y,W];exact dT cm;rw[show j=T-h+1 by lia,E2];exact dN hm;rw[jP]at hj;by_cases z:j+1<T-h;rw[pf (),pf z,P.I9 _ (g.dt _)<|λp B w=>?_,g.st];rfl;let q:=Om ns r0 w;let n1:=A.no (h+j+1) () () p B;let cl:=U p B;let O:=A.top;let N:(h+j+1)%r.z=p%r.z:=by rw[Nat.add_mod,q,<-Nat.add_mod,show p+(r.z-1)+1=p+r.z by lia,zaz]
  rw[zaY cl]at N;by_cases w2:h+j+1<r.z;rw[zaY w2]at N;exact n1.1 N.symm;rw[show h+j+1=h+j+1-r.z+r.z by lia,zaz,zaY ()]at N;exact n1.2 ();by_cases y:j+1=T-h;rw[pf (),y,W,<-Tp cm];congr 1;refine bU ?_;ext(w|w:hT);rw[show c+(r.z-1)=h+j+r.z by lia,zaz];rw[show h+j=c+(r.z-1)by lia];by_cases x:j=T-h;rw[x,W,E2,V9 f A.hm];rw[show j=T-h+1 by lia,E2,Ym hm,show T-h+1+1=T-h+2 by lia,KW ()];refine zbh.mpr #[oy nr h (),by simp,λx hx y hy z=>?_];rw[zaj.mp hy]at z;let#[u,hu,e]:=zap.mp hx;let:=(g.dt<|h+u).hi;rw[show(dj r<|h+u).1=cy r (h+u)from rfl]at this;lia;let e:dj (cD r h (T-h+1)++[(L.z:Int)]) j=dj (cD r h (T-h+1)++[(L.z:Int)]) (j%(T-h+2)):=bU (by rw[jP,zbT]);let jl:=zbr j (show 0<T-h+2 by lia);rw[e];by_cases z:j%(T-h+2)<T-h;left;rw[pf z];exact g.dt _;by_cases y:j%(T-h+2)=T-h;exact .inr<|.inl #[c,f,by rw[y,W]];exact .inr<|.inr #[_,by rw[show j%(T-h+2)=T-h+1 by lia,E2]]
 let Y:∀{b:b9},b∈wd r cs L.z->∃k,k<cs.z/\b=gn r cs L.z k:=λo=>by let#[k,s,e]:=zap.mp o;exact#[k,zaU.mp s,e.symm]
 let vY:∀{k:Nat},k<cs.z->gn r cs L.z k∈wd r cs L.z:=λs=>zap.mpr #[_,zaU.mpr s,rfl];let NF:∀{k c:Nat},cs[k]?=some c->(cy r c,(L.z:Int))∈sh 0 (gn r cs L.z k):=λ{k c} f=>by let X:=(zac.mp f).1;let#[_,_,#[p,B,e],_,O]:=m k X;rw[f]at B;cases B;erw[<-e,nW (by rw[O];lia) _]
 let pred:∀{k:Nat} {d:ak},k<cs.z->Dt M d->nx M d∈sh 0 (gn r cs L.z k)->d∈sh 0 (gn r cs L.z k):=λ{k d} s G h=>by let#[gq,_,_,_,O]:=m k s;let#[j,ej]:=(bE<|by rw[O];lia).mp h;let e:dj (gn r cs L.z k) (j+((gn r cs L.z k).z-1)+1)=dj (gn r cs L.z k) j:=bU (by rw[show j+((gn r cs L.z k).z-1)+1=j+(gn r cs L.z k).z by lia,zaz]);let:=gq.st<|j+((gn r cs L.z k).z-1);rw[e,<-ej]at this;erw[<-fF mM (gq.dt _) G this,nW (by rw[O];lia) _]
 let ad:∀q∈R.take k++R.drop (k+1),Good M q:=λq hq=>by
  let qm:q∈R:=by ext(h|h:zam.mp hq);exact zcI h;exact zdN h
  exact P.good (H.good q qm) λj c=>H.off hr hq j c
 let Mf:∀n j,(∃c∈cs,(j+n)%r.z=(c+(r.z-1))%r.z)->∃k,k<cs.z/\dj r j∈sh 0 (gn r cs L.z k):=by
  ext n;induction n with
  | zero=>
   ext j ⟨c,f,e⟩;let#[i,l]:=zaN.mp f;let C:=(zac.mp l).1;refine#[i,C,pred C (P.sub _<|g.dt _) ?_];erw[show dj r j=dj r (c+(r.z-1))from bU e,Tp f,NF l]
  | succ n ih=>
   ext j ⟨c,f,e⟩;by_cases z:∃p∈cs,dj r j=dj r (p+(r.z-1));let#[p,B,e']:=z;let#[i,l]:=zaN.mp B;let C:=(zac.mp l).1;refine#[i,C,pred C (P.sub _<|g.dt _) ?_];rw[e',Tp B];exact NF l;let#[i,C,h]:=ih (j+1) #[c,f,by erw[show j+1+n=j+(n+1)by lia,e]];refine#[i,C,pred C (P.sub _<|g.dt _) ?_];erw[P.I9 _ (g.dt _) λp B w=>z #[p,B,w],g.st,h]
 let RG:fN M<|R.take k++wd r cs L.z++R.drop (k+1):=by
  refine H.split hr ad (λb o=>?_) (λb o=>?_) ?_ (λb o=>?_) (λd Ux=>?_)<|λj=>?_;let#[i,l,rfl]:=Y o;exact(m i l).1;let#[i,l,rfl]:=Y o;exact F3 (m i l).2.1;refine zca.mpr<|zcd (λ{a b} ha o (Ak:a≠b) u v z=>?_) nodup_range;let ha:=zaU.mp ha;let o:=zaU.mp o;let#[ga,_,#[Q,Jf,ea],_,la]:=m a ha;let#[gb,_,_,ob,_]:=m b o;generalize hw:lF r cs a-lG cs a=w at ea la;let Z:=ga.along gb z<|w+u*(w+1);let md:dj (gn r cs L.z a) (u+(w+u*(w+1)))=dj (gn r cs L.z a) w:=bU (by rw[la,show u+(w+u*(w+1))=w+(w+2)*u by rw[zeq,Nat.mul_add,zcK w u];lia,zcW]);rw[md,ea]at Z;ext(h|⟨cb,N3,h⟩|⟨x,h⟩:ob<|v+(w+u*(w+1)));rw[<-Z]at h;exact nN h;rw[<-Z]at h;let e:cy r Q=cy r cb:=zaA Prod.fst h;let l1:=U Q<|zah Jf;let l2:=U cb<|zah N3;let ee:Q=cb:=by ext(y|y|y:zcF Q cb);exact absurd e<|cY nr y ();exact y;exact absurd e.symm<|cY nr y ()
  subst ee;let#[q1,w1]:=zac.mp Jf;let#[N,w2]:=zac.mp N3;ext(y|y:Nat.lt_or_gt_of_ne Ak);let:=zbe.mp D _ _ q1 N y;lia;let:=zbe.mp D _ _ N q1 y;lia;rw[<-Z]at h;let:=zaA Prod.fst h;let:=(g.dt Q).hi;rw[show(dj r Q).1=cy r Q from rfl]at this;dsimp only at *;lia;let#[i,l,rfl]:=Y o;let#[_,_,#[c,_,e],_]:=m i l;exact#[_,by erw[e,nN]];ext(h|⟨c,f,e⟩|⟨c,f,e⟩:dt d Ux);exact .inl h;right;let#[i,l]:=zaN.mp f;exact zaK.mpr #[_,vY (zac.mp l).1,by erw[e,NF l]];right;let#[i,l]:=zaN.mp f;let C:=(zac.mp l).1;let X:(i+1)%cs.z<cs.z:=zbr _ ();refine zaK.mpr #[_,vY X,?_];let#[gq,_,#[p,B,e'],_,O]:=m _ X;let n3:=V9 B (h:=c) #[i,C,l,by by_cases z:i+1<cs.z;rw[zaY z,show i+1+(cs.z-1)=i+cs.z by lia,zaz,zaY C];rw[show i+1=cs.z by lia,zeb,zbQ,zaY ()];lia];rw[e,<-n3,<-e',gq.st];exact nW (by rw[O];lia) _;let#[c,f]:=exists_mem_of_ne_nil cs c0;let#[i,l,h]:=Mf (c+(r.z-1)+j*(r.z-1)) j #[c,f,by rw[show j+(c+(r.z-1)+j*(r.z-1))=c+(r.z-1)+r.z*j by obtain⟨n,hn⟩:∃n,r.z=n+1:=#[r.z-1,()];rw[hn,zcu,zeq,zfb,zcK n j];lia,zcW]];exact zaK.mpr #[_,vY l,h]
 let sm:ox M:=RG.pW λq hq=>by ext(h|h:zam.mp hq);ext(h|h:zam.mp h);exact t.pW.rings H q<|zcI h;let#[i,l,rfl]:=Y h;exact(m i l).2.1;exact t.pW.rings H q<|zdN h
 exact#[M,#[P.cq,sm,t.Fi.more mM F P.sub (by erw[E,zaa,c3]),by let:=t.four;lia],F,RG]
theorem fN.S6(m:fN L R)(f:R'.z=R.z)(h:∀(i:Nat) (q r:b9),R'[i]?=some q->R[i]?=some r->dR q r):fN L R':=by
 let l:∀{i:Nat} {q:b9},R'[i]?=some q->∃r,R[i]?=some r/\dR q r:=λ{i q} j=>by let C:=(zac.mp j).1;let:=zaf (show i<R.z by lia);exact#[_,this,h i q _ j this]
 let t:∀{q r:b9},dR q r->(sh 0 q).Perm (sh 0 r):=λ{q r} e=>by ext(rfl|⟨c,k,rfl⟩:e);exact .refl _;erw[Bh k,f6 _ _]
 let s:∀{q r:b9},dR q r->Good L r->Good L q:=λ{q r} e g=>by ext(rfl|⟨c,k,rfl⟩:e);exact g;exact g.c5 k
 let x:∀(A B:cp),A.z=B.z->(∀(i:Nat) (q r:b9),A[i]?=some q->B[i]?=some r->dR q r)->(A.flatMap<|sh 0).Perm (B.flatMap<|sh 0):=by
  ext A;induction A with
  | nil=>
   ext B f _;cases B with
   | nil=>exact .refl _
   | cons b B=>simp at f
  | cons a A z=>
   ext B f n;cases B with
   | nil=>simp at f
   | cons b B=>
    erw[zcy,zcy,(t<|n 0 a b rfl rfl).append<|z B (by simpa using f) λi q r o w=>n (i+1) q r (by simpa using o)<|by simpa using w]
 let p:=x R' R f h;refine#[λq j=>?_,p.nodup_iff.mpr m.nd,λd y=>p.mem_iff.mpr<|m.all d y];let#[i,v]:=zaN.mp j;let#[r,u,e]:=l v;exact s e<|m.good r<|zah u
noncomputable def Vy(L:cp):Prop:=∀i∈List.range L.z,(XS L (i:Int)).Nodup/\(∀y∈XS L (i:Int),0<=y/\y<(L.z:Int)/\y≠(i:Int)/\(i:Int)∈XS L y)/\2<=(XS L (i:Int)).z/\(i=0\/∃y∈XS L (i:Int),y<(i:Int))
noncomputable def Vx(L R:cp):Prop:=∀r∈R,2<=r.z/\r.Nodup/\∀j∈List.range r.z,(0<=(dj r j).1/\(dj r j).1<(L.z:Int)/\(dj r j).2∈XS L (dj r j).1)/\nx L (dj r j)=dj r (j+1)
noncomputable def Vw(L R:cp):Prop:=(R.flatMap<|sh 0).Nodup/\(∀d∈eN L L.z,d∈R.flatMap (sh 0))/\((L.z:Int)+R.z+iso L=(cI L L.z).z+2)/\4<=L.z
noncomputable def Vv(R:cp):Prop:=∀c∈R,∀d∈R,c≠d->∀a∈c,∀b∈c,a≠b->a∈d->b∈d->(a,b)∈sh 0 c\/(b,a)∈sh 0 c
instance (L:cp):Decidable<|Vy L:=by unfold Vy;infer_instance
instance (L R:cp):Decidable<|Vx L R:=by unfold Vx;infer_instance
instance (L R:cp):Decidable<|Vw L R:=by unfold Vw;infer_instance
instance (R:cp):Decidable<|Vv R:=by unfold Vv;infer_instance
noncomputable def jQ(L R:cp):Prop:=Vy L/\Vx L R/\Vw L R/\Vv R
instance (L R:cp):Decidable<|jQ L R:=by unfold jQ;infer_instance
theorem jQ.yJ(h:jQ L R):da L/\fN L R:=by
 let#[k,v,#[Y,N,Z,w],B]:=h;let c:∀x:Int,0<=x->x<L.z->∃i:Nat,x=i/\i∈List.range L.z:=λx e g=>#[x.toNat,(),zaU.mpr ()];let E:=kP λx e g=>by let#[i,rfl,f]:=c x e g;exact#[(k i f).1,(k i f).2.1]
 let l:fN L R:=by refine#[λr T=>?_,Y,λd I=>N d I.all];let#[C,_,t]:=v r T;refine qL C (λj o=>?_)<|λj o=>(t j<|zaU.mpr o).2;let:=(t j<|zaU.mpr o).1;exact#[this.1,this.2.1,this.2.2]
 let reach:∀n:Nat,n<L.z->Reach L 0 (n:Int):=by
  ext n;induction n using Nat.strongRecOn with
  | ind n X=>
   ext U;let#[_,S,_,H]:=k n<|zaU.mpr U;ext(rfl|⟨y,Q,yl⟩:H);exact .here;let#[u,D,_,F]:=S y Q;let#[m,rfl]:=zaD u;exact Reach.one (d:=((m:Int),(n:Int))) (X m () ()) #[u,D,F]
 let st:bS L:=#[E,(),λx e g=>#[0,by simp,by let#[i,rfl,f]:=c x e g;exact reach i<|zaU.mp f],_,l.dec,by erw[zaa,Z]];let sm:=l.pW λq hq=>(v q hq).2.1;refine#[#[st,sm,zT st sm l.dec (λc1 K c2 A P a b ab s b1 p b2=>?_) (λx e g=>?_) w,w],l];let#[M,W,rfl]:=zap.mp K;let#[G,O,rfl]:=zap.mp A;rw[fP]at s b1 p b2;exact B M W G O (λz=>P<|by rw[z]) a s b b1 ab p b2;let#[i,rfl,f]:=c x e g;exact(k i f).2.2.1
theorem xX(h:0<q.z)(j:Nat):dj (q.map<|gF l) j=Fo l (dj q j):=by unfold dj Fo;rw[tI _ h,tI _ h]
theorem MF(h:0<q.z):sh 0 (q.map<|gF l)=(sh 0 q).map (Fo l):=by unfold sh;erw[zaa,zdw,zbS λj _=>xX h _]
theorem fN.LB(f:fN A R)(h:B9 A l B)(n:tO A.z l)(m:av A):fN B<|R.map<|List.map<|gF l:=by
 let fl:∀S:cp,(∀q∈S,0<q.z)->(S.map<|List.map<|gF l).flatMap (sh 0)=(S.flatMap<|sh 0).map (Fo l):=by
  ext S;induction S with
  | nil=>intro _;rfl
  | cons q S z=>
   ext p;rw[zbg,zcy,zcy,zaw,MF<|p q zal,z λx t=>p x<|zag _ t]
 let c:∀q∈R,0<q.z:=λq e=>by let:=(f.good q e).two;lia
 let s:∀d∈R.flatMap (sh 0),Dt A d:=λd o=>by let#[q,e,w]:=zaK.mp o;let#[j,rfl]:=(bE<|c q e).mp w;exact(f.good q e).dt j
 refine#[λq e=>?_,?_,λd o=>?_];let#[k,i,rfl]:=zap.mp e;let g:=f.good k i;refine#[by erw[zaa,g.two],λj=>?_,λj=>?_];rw[xX<|c k i];exact h.dt n m<|g.dt j;rw[xX<|c k i,xX<|c k i,h.nx n m<|g.dt j,g.st];rw[fl R c];exact zca.mpr<|f.nd.imp_of_mem λ{a b} v u C q=>C<|C5 n m (s a v) (s b u) q;rw[fl R c];let#[r,y,rfl]:=h.DH n o;exact zap.mpr #[r,f.all r y,rfl]
theorem dW.LB(h:B9 A l B)(n:tO A.z l)(m:av A)(b:∀z:Int,0<=z->z<A.z->z∉S->gF l z∉S')(r:dW A S s x):dW B S' (gF l s)<|gF l x:=by
 induction r with
 | here=>exact .here
 | @step i f x r e a ns c=>
  let d:=Reach.oj e a;let bk:=d.back m;exact c.trans<|dW.one (h.dt n m d)<|b x bk.1 bk.2.1 ns
theorem da.LB(t:da A)(H:fN A R)(h:B9 A l B)(n:tO A.z l):da B:=by
 let m:=t.map;let L:=h.ir n m;let RB:=H.LB h n m;let r:∀x:Int,0<=x->x<B.z->∃j:Int,0<=j/\j<A.z/\gF l j=x:=λx p k=>by rw[h.len]at k;exact n.ui p k
 let mD:=t.cq.mD;let four:=t.four;let yE:∀x:Int,0<=x->x<B.z->3<=(XS B x).z:=λx p k=>by let#[j,E,F,rfl]:=r x p k;erw[h.XS E F n,zaa,t.yE E F]
 let dl:(eN B B.z).z=(eN A A.z).z:=by
  let e:=len_eq (zca.mpr<|(bJ m<|zai _).imp_of_mem λ{a b} f o N q=>N<|C5 n m (Dt.of f) (Dt.of o) q) (bJ L<|zai _) λx=>by constructor;ext C;let#[d,W,rfl]:=zap.mp C;exact(h.dt n m<|Dt.of W).all;ext C;let#[d,W,rfl]:=h.DH n<|Dt.of C;exact zap.mpr #[d,W.all,rfl]
  rw[zaa]at e;exact e.symm
 let iB:iso B=0:=by
  unfold iso;refine zeA.mpr λq T z=>?_;let#[i,X]:=zaN.mp T;let il:=(zac.mp X).1;let:=yE (i:Int) () ();rw[dh X]at this;cases q with
  | nil=>simp at this
  | cons a q=>simp at z
 let st:bS B:=by refine#[L,by rw[h.len];lia,λx p k=>#[0,by simp,?_],_,RB.dec,?_];let#[j,E,F,rfl]:=r x p k;let#[u,u0,u1,eu]:=r 0 () (by rw[h.len];lia);let:=((mD u u0 u1).sym m #[(),()]).trans<|mD j E F;let:=this.LB h n m;rwa [eu]at this;let#[Q,DQ,ch]:=t.cq.Jk;let c:=DQ.count H.dec;rw[zaa]at c;let e1:=dA L;let e2:=dA m;let i0:=t.cq.NC;rw[zaa,zaa,iB];let hl:=h.len;rw[hl]at e1 dl ⊢;lia
 let sm:=RB.pW λq T=>by
  let#[P,Z,rfl]:=zap.mp T;let nd:=t.pW.rings H P Z;let g:=H.good P Z;let D:∀x∈P,0<=x/\x<A.z:=λx C=>by let#[i,X,e]:=cT C;erw[<-e,#[(g.dt i).lo,(g.dt i).hi]]
  exact zca.mpr<|nd.imp_of_mem λ{a b} f o N q=>N<|n.inj (D a f).1 (D a f).2 (D b o).1 (D b o).2 q
 refine#[st,sm,λa b x y p k y0 y1 xa xb ya yb=>?_,by erw[h.len,four]];let#[S,Y,M,rfl]:=r x p k;let#[I,O,U,rfl]:=r y y0 y1;let pull:∀c:Int,∃K:Int,∀z:Int,0<=z->z<A.z->(z=K↔gF l z=c):=λc=>by by_cases G:0<=c/\c<B.z;let#[K,c0,c1,rfl]:=r c G.1 G.2;exact#[K,λz s v=>#[λe=>by rw[e],λe=>n.inj s v c0 c1 e]];refine#[-1,λz s v=>#[λe=>(),λe=>?_]];let:=n.PK s v;rw[e]at this;rw[h.len]at G;exact absurd this G
 let#[a',f]:=pull a;let#[b',o]:=pull b;refine(t.Fi a' b' S I Y M O U (λe=>xa<|(f S Y M).mp e) (λe=>xb<|(o S Y M).mp e) (λe=>ya<|(f I O U).mp e)<|λe=>yb<|(o I O U).mp e).LB h n m λz s v hz w=>hz ?_;simp[zbm,zaR,zbt]at w ⊢;ext(w|w:w);exact .inl<|(f z s v).mpr w;exact .inr<|(o z s v).mpr w
theorem MS(n:tO A.z l):∃B,B9 A l B:=by
 refine#[(fR A.z).map λi=>(XS A<|((fR A.z).find? λj=>decide<|gF l j=i).getD 0).map<|gF l,by rw[zaa,gg],λj b a=>?_];let r:=n.PK b a;let g:(gF l j).toNat<A.z:=();rw[zao,Jv g];let e:=zbE r.1;let f:(fR A.z).find? (λi=>decide<|gF l i=gF l j)=some j:=by
  cases hf:(fR A.z).find? (λi=>decide<|gF l i=gF l j)with
  | none=>
   let:=List.find?_eq_none.mp hf j<|ig.mpr #[b,a];simp at this
  | some u=>
   let c:=find?_some hf;let d:=ig.mp<|mem_of_find?_eq_some hf;simp[zcD]at c;rw[n.inj d.1 d.2 b a c]
 show some ((XS A<|((fR A.z).find? λi=>decide<|gF l i=((gF l j).toNat:Int)).getD 0).map<|gF l)=_;rw[e,f];rfl
theorem Tg:jQ [[1,3,2],[0,2,3],[0,3,1],[0,1,2]] [[0,1,3],[1,2,3],[2,0,3],[2,1,0]]:=by decide +kernel
theorem Tf:jQ [[1,4,3],[0,2,4],[1,3,4],[0,4,2],[0,1,2,3]] [[0,1,4],[1,2,4],[2,3,4],[3,0,4],[3,2,1,0]]:=by decide +kernel
theorem Te:jQ [[1,5,4],[0,2,5],[1,3,5],[2,4,5],[0,5,3],[0,1,2,3,4]] [[0,1,5],[1,2,5],[2,3,5],[3,4,5],[4,0,5],[4,3,2,1,0]]:=by decide +kernel
theorem Ti:jQ [[1,3,2],[0,2,4],[0,5,1],[0,4,5],[1,5,3],[2,3,4]] [[0,1,4,3],[1,2,5,4],[2,0,3,5],[3,4,5],[2,1,0]]:=by decide +kernel
theorem Th:jQ [[1,4,3],[0,2,5],[1,3,6],[0,7,2],[0,5,7],[1,6,4],[2,7,5],[3,4,6]] [[0,1,5,4],[1,2,6,5],[2,3,7,6],[3,0,4,7],[4,5,6,7],[3,2,1,0]]:=by decide +kernel
noncomputable def TR(R:cp)(n:Nat):Prop:=∃L,da L/\fN L R/\L.z=n
theorem CF(b:fN L R)(a:r∈R):∀x∈r,0<=x/\x<L.z:=λx c=>by let#[i,d,e]:=cT c;erw[<-e,#[((b.good r a).dt i).lo,((b.good r a).dt i).hi]]
theorem da.three(t:da L)(a:fN L R)(b:r∈R):3<=r.z:=by let:=t.cq.three (by let:=t.four;lia) a.dec<|zap.mpr #[r,b,rfl];rwa [cK]at this
theorem da.small(t:da L)(a:fN L R)(b:r∈R):r.z<=L.z:=cG (t.pW.rings a r b)<|CF a b
theorem da.many(t:da L)(a:fN L R):R.z+4<=2*L.z:=(t.cq.lands t.four a).1
theorem TR.four(h:TR R n):4<=n:=by let#[L,t,_,rfl]:=h;exact t.four
theorem TR.many(h:TR R n):4<=R.z/\R.z+4<=2*n:=by let#[L,t,a,rfl]:=h;exact#[t.xD a,t.many a]
theorem TR.ring(h:TR R n)(a:r∈R):3<=r.z/\r.z<=n/\r.Nodup/\∀x∈r,0<=x/\x<n:=by let#[L,t,b,rfl]:=h;exact#[t.three b a,t.small b a,t.pW.rings b r a,CF b a]
theorem TR.on{n:Nat}(h:TR R n){x:Int}(b:0<=x)(a:x<n):∃r∈R,x∈r:=by let#[L,t,g,rfl]:=h;let d:=t.yE b a;let#[y,f]:=exists_mem_of_length_pos (l:=XS L x) ();let#[r,e,c]:=zaK.mp<|g.all (x,y) #[b,a,f];refine#[r,e,?_];let:x∈(sh 0 r).map (·.1):=zap.mpr #[(x,y),c,rfl];rwa [fP]at this
noncomputable def kC(a:List<|ak×Addr):List<|List Key×V:=a.map λp=>(fL p.1,V.ref p.2)
theorem sQ(a:List<|ak×Addr):(kC a).z=a.z:=by unfold kC;simp
theorem Di:∀{a:List<|ak×Addr} {d:ak},d∉a.map (·.1)->iJ (kC a) (fL d)=none
 | [],_,_=>rfl
 | p::a,d,h=>by unfold kC;erw[zbg,fO (λy=>h<|by erw[<-kO y,zal]),Di λz=>h<|zag _ z]
theorem Dh:∀{b:List<|ak×Addr} {d:ak} {a:Addr},(b.map (·.1)).Nodup->(d,a)∈b->iJ (kC b) (fL d)=a.e
 | [],_,_,_,h=>by cases h
 | p::b,d,a,nd,h=>by unfold kC;rw[zbg];let#[n1,n2]:=zar.mp nd;by_cases e:p.1=d;rw[gX<|zaA fL e];ext(z|z:zas.mp h);rw[<-z];exact absurd (zap.mpr #[(d,a),z,e.symm]) n1;rw[fO<|λy=>e<|kO y];ext(z|z:zas.mp h);exact absurd (by rw[<-z]) e;exact Dh n2 z
theorem P4(h:d∉ks.map (·.1)):dV (kC ks) (fL d) (.ref a)=kC (ks++[(d,a)]):=by rw[nj _<|Di h];unfold kC;rw[zaw];rfl
structure CD(H:Hp)(g:Addr)(L R:cp)(ks:List<|ak×Addr):Prop where
 top:H g=some (.dT<|kC ks)
 nd:(ks.map (·.1)).Nodup
 mem:∀d,d∈ks.map (·.1)↔Dt L d
 val:∀d a,(d,a)∈ks->∃c:Int,H a=some (.tup [.int c,.int<|lo R d])/\Dt L (c,d.1)/\nx L (c,d.1)=d
theorem CD.same(x:CD H g L R ks)(e:ai H H'):CD H' g L R ks:=
 #[e _ _ x.top,x.nd,x.mem,λd a h=>let ⟨c,h1,h2⟩:=x.val d a h;#[c,e _ _ h1,h2]]
theorem CD.get(x:CD H g L R ks)(j:Dt L d):∃(a:Addr) (c:Int),iJ (kC ks) (fL d)=a.e/\H a=some (.tup [.int c,.int<|lo R d])/\Dt L (c,d.1)/\nx L (c,d.1)=d:=by let#[p,b,e]:=zap.mp<|(x.mem d).mpr j;let#[h,a]:=p;cases e;let#[c,f,i]:=x.val h a b;exact#[a,c,Dh x.nd b,f,i]
end Gm
namespace L2
open PySem PySem.Spec PySem.W PySem.Calls PyProof.Rows Gm
noncomputable def Fe(lo:Int)(n:Nat):It:=#[λi _=>i<n,λi H x a=>a=H/\x=.int (lo-i),λi _=>n<=i]
theorem yI{P:Program}{w:World}{K:zcT}{tg:Expr}(it:Addr)(lo:Int)(n:Nat):Turn P w K tg (Fe lo n) [it] it (λi h=>IsRangeIter h it (lo+(i:Nat)*(-1)) ((n:Int)-(i:Nat))<|-1) where
 mem:=by simp
 obj:=λi h st b a=>by
  let e:b=it:=by simpa using a
  subst e;exact#[_,st,λv z=>by let F:Data.fields _=Data.cell v:=z;cases F]
 keep:=λi h h' st k=>k it A? _ st
 item:=by ext X f d j p i pins s y H E I c st l;subst f d j;let#[f0,r,G,g,m,q]:=c it A?;let W:=Walks.range (prog:=X.prog) (w:=X.w) (I.ok.hd p) it lo (-1) n;refine W.item i s _ _ l st λv h' x A u D=>?_;let#[t,rfl]:=A;let B:Inv X pins y H { s with heap:=h',toks:=x }:=I.turned (λb o a e=>D b o (by simpa using a) e) f0 r g m q;refine#[_,rfl,DA (s:={ s with heap:=h',toks:=x }) (n:= "range_iterator") u rfl rfl B! #[.int<|lo-i,H,B,#[t,?_],#[rfl,rfl],u,λb a=>(c b a).1]];congr 1;lia
 done:=by ext X f d j p i pins s y H E I c st l;subst f d j;let#[f0,r,G,g,m,q]:=c it A?;exact wpAny_pyNext_range_end (I.ok.hd p) st (by let:n<=i:=l;lia) λh' C=>#[rfl,I.turned (t':=s.toks) (λb o a e=>C b o a e) f0 r g m q]
 self:=λ_ _ _ _ _ st h=>zdV st h
section
variable {X:Cx} {tg:Expr}
theorem Eg{c:St}{s:Shared}{R:It->Hp->Prop}{lo a:Int}{t u v:Tok}{f:Nat}(I:Inv X pins c H s)(h1 : -(2 ^ 62)<=lo)(j:lo<2 ^ 62)(h3 : -(2 ^ 62)<=a)(k:a<2 ^ 62)(q:R (Fe lo (lo-a).toNat) H):wpAny (model X.prog X.w) X.A (pyIter<|.ref s.y) (Vp X pins c tg R) E { s with heap:=s.heap.push { cls:=.type "range",data:=.fields #[.int lo t,.int a u,.int (-1) v,] },toks:=f }:=by
 refine wpAny_pyIter_range (IsRange.new ..) (small_down h1 j h3 k) ?_;let d:Inv X pins c H { s with heap:=s.heap.push { cls:=.type "range",data:=.fields #[.int lo t,.int a u,.int (-1) v,] },toks:=f }:=I.kept λb o e=>zav _ e;refine#[(s.heap.push { cls:=.type "range",data:=.fields #[.int lo t,.int a u,.int (-1) v,] }).x,[(s.heap.push { cls:=.type "range",data:=.fields #[.int lo t,.int a u,.int (-1) v,] }).x],_,_,H,rfl,
  d.kept λb o e=>zav _ e,yI _ lo (lo-a).toNat,?_,λb g=>?_,q]
 let h:lo+((0:Nat):Int)*(-1)=lo:=by simp
 let i:(((lo-a).toNat:Nat):Int)-((0:Nat):Int)=Builtin.Range.rangeSize lo a (-1):=by rw[rangeSize_downNat];lia
 rw[h,i];exact zaX _ rfl;let e:b=(s.heap.push { cls:=.type "range",data:=.fields #[.int lo t,.int a u,.int (-1) v,] }).x:=by simpa using g
 subst e;exact d.xV (zai _)<|d.bW.fresh<|zai _
noncomputable def Qw(c:TA):TI:=λa H R=>c a H λvs b=>∃i j:Int,vs=[.int i,.int j,.int<|-1]/\(-(2 ^ 62)<=i/\i<2 ^ 62/\-(2 ^ 62)<=j/\j<2 ^ 62)/\R (Fe i (i-j).toNat) b
theorem El{l:TA}{p f:Pos}(y:Gl X "range")(o:X.mg "range"=none)(u:PA X [a,b,c] l)(m:starEach [a,b,c] X.env=[(false,eval a X.env),(false,eval b X.env),(false,eval c X.env)]:=by rfl)(k:starEach [b,c] X.env=[(false,eval b X.env),(false,eval c X.env)]:=by rfl) :
  PI X tg (.Call (.Name "range" p) [a,b,c] [] f) (Qw l):=by
 ext pins s C H R I h;refine Call_ (eJ I y o boot_range<|zaP (dM (u f pins s C H _ I h) λE F ⟨vs,G,v,A,g⟩=>?_) (by rw[m,k])<|by rw[k];rfl);let#[i,j,e,#[g,D,n,z],q]:=g;subst e;cases A with
 | cons r d=>
  cases d with
  | cons x d=>
   cases d with
   | cons w d=>
    cases d;let#[t,rfl]:=r;let#[t',rfl]:=x;let#[B,rfl]:=w;exact call_range_3 B! (Eg v g D n z q)<|Or.inl<|PyProof.noPylong_small ()
end
theorem BQ{lo:Int}{n:Nat}{g:TG}{k:TS}{D:Ends}{a:St}(d:Nat->St->Hp->Prop)(r:d 0 a H)(o:∀i a H,i<n->d i a H->g (.int<|lo-i) a H λb j=>k { D with nx:=d<|i+1,ct:=d<|i+1,bk:=D.nx } b j)(s:∀a H,d n a H->D.nx a H) :
  ∃W:Nat->Nat->St->Hp->Prop,(∃m,W 0 m a H)/\∀i m a H,W i m a H->
   ((Fe lo n).stop i H/\D.nx a H)\/((Fe lo n).go i H/\∃N:St->Hp->Prop,(∀c f,N c f->∃l,l<m/\W (i+1) l c f)/\∀x f,(Fe lo n).A6 i H x f->g x a f λb j=>k { D with nx:=N,ct:=N,bk:=D.nx } b j):=by
 refine#[λi m a H=>m=n-i/\i<=n/\d i a H,#[n,by simp,zaS _,r],?_];ext i m a H ⟨rfl,t,p⟩;by_cases h:i<n;refine .inr #[h,d<|i+1,λc f q=>#[n-(i+1),(),rfl,h,q],λx f y=>?_];let#[e,y]:=y;subst e y;exact o i a _ h p;let e:i=n:=();subst e;exact .inl #[zai _,s a H p]
end L2
namespace PySem
namespace F
theorem Ef:typeLookup (.type "range_iterator") "__len__"=pure none:=by rw[zew,zdt];kernel_rfl
theorem JQ:typeLookup (.type "range_iterator") "__length_hint__"=pure (some<|.builtin "range_iterator.__length_hint__"):=by rw[zew,zdt];kernel_rfl
theorem pV:isSubtype (.type "range_iterator") (.type "reversed")=pure false:=by rw[isSubtype_type];kernel_rfl
end F
theorem ky(r:Addr)(a b c:Int)(t u v:Tok)(f:¬(!(Builtin.Range.rangeFitsLong a&&Builtin.Range.rangeFitsLong b&&Builtin.Range.rangeFitsLong c&&Builtin.Range.rangeFitsLong (-c)&&Builtin.Range.rangeFitsLong (a-c)&&Builtin.Range.rangeFitsLong (Builtin.Range.rangeSize a b c)))=true) :
  Meets (Builtin.«range.__reversed__» #[[.ref r],[]]) (λ_ R s=>s.heap.get? r=some { cls:=.type "range",dict:=none,data:=.fields #[.int a t,.int b u,.int c v,],slots:=#[] }/\R (.ok<|.ret<|Value.ref s.y) { s with heap:=s.heap.push { cls:=Value.type (if(Builtin.Range.rangeFitsLong a&&Builtin.Range.rangeFitsLong b&&Builtin.Range.rangeFitsLong c&&Builtin.Range.rangeFitsLong (-c)&&Builtin.Range.rangeFitsLong (a-c)&&Builtin.Range.rangeFitsLong (Builtin.Range.rangeSize a b c))=true then "range_iterator" else "longrange_iterator"),data:=Data.fields #[rawInt<|a+(Builtin.Range.rangeSize a b c-1)*c,rawInt<|Builtin.Range.rangeSize a b c,rawInt<|-c,] },toks:=s.toks }):=
 .of_wp λprog w A R s h=>by let#[j,g,d,i,e]:=s;let#[k,h]:=h;wp_walk;exact#[_,rfl,h]
theorem iC(h1 : -(2 ^ 62)<=i)(a:i<2 ^ 62):Builtin.Range.rangeFitsLong i=true:=by simp[Builtin.Range.rangeFitsLong,zei,zcD];lia
theorem lP{n:Nat}(b:IsRange s.heap r 0 (n:Int) 1 t u v)(d:n<=1000)(h:Q (.ref s.y) { s with heap:=s.heap.push { cls:=.type "range_iterator",data:=.fields #[rawInt<|(n:Int)-1,rawInt (n:Int),rawInt<|-1,] } }):wpAny (model prog w) A (call (.builtin "range.__reversed__") [.ref r]) Q E s:=by
 let c:s.TypeIs (.ref r) "range":=#[_,b,rfl];let a:Builtin.Range.rangeSize 0 (n:Int) 1=(n:Int):=by rw[rangeSize_one];split<;>lia
 let sm:(Builtin.Range.rangeFitsLong 0&&Builtin.Range.rangeFitsLong (n:Int)&&Builtin.Range.rangeFitsLong 1&&Builtin.Range.rangeFitsLong (-1)&&Builtin.Range.rangeFitsLong (0-1)&&Builtin.Range.rangeFitsLong (Builtin.Range.rangeSize 0 (n:Int) 1))=true:=by rw[a,iC () (),iC () (),iC () (),iC () (),iC () ()];rfl
 refine zdh F.slot_range_reversed c F.entry_range_reversed (F.args_range_reversed_1 _) (ky r 0 (n:Int) 1 t u v<|by rw[sm];decide) #[b,?_];erw[zad sm,a,show(0:Int)+((n:Int)-1)*1=(n:Int)-1 by lia,h]
theorem lK{n:Nat}(a:IsRange s.heap r 0 (n:Int) 1 t u v)(b:n<=1000)(h:Q₁ (.ref s.y) { s with heap:=s.heap.push { cls:=.type "range_iterator",data:=.fields #[rawInt<|(n:Int)-1,rawInt (n:Int),rawInt<|-1,] } }) :
  codeAny (model prog w) A (.call (.builtin "reversed.__new__") #[[.type "reversed",.ref r],[]]) (wants Q₁ E) s:=by
 let c:s.TypeIs (.ref r) "range":=#[_,a,rfl];refine codeAny_of_tree ?_;show wpAny _ A.in1 (do checkBuiltinCall "reversed.__new__" #[[.type "reversed",.ref r],[]];again (.builtin "reversed.__new__" #[[.type "reversed",.ref r],[]])) _ _ s;refine zae<|zdA (F.newCall_reversed_1 _)<|zax #[zcw F.plain_reversed_new _,zcG F.entry_reversed_new ?_];rw[zbR F.plain_reversed_new _];unfold Builtin.«reversed.__new__»;refine zae<|zdA (newClass_reversed _) ?_;try dsimp only
 refine zae<|zdA (by first|rfl|kernel_rfl) ?_;refine zae<|zdA (by first|rfl|kernel_rfl) ?_;try dsimp only
 refine zae<|zdn c F.slot_range_reversed.lookup ?_;try dsimp only
 refine zae<|zdA (F.slot_range_reversed.bind _) ?_;try dsimp only
 first
 | rw[zab<|show ¬((Value.builtin "range.__reversed__"==Value.none)=true)from zaC]
 | (show wpAny _ _ (if(Value.builtin "range.__reversed__"==Value.none)=true then _ else _) _ _ _;rw[zab<|show ¬((Value.builtin "range.__reversed__"==Value.none)=true)from zaC])
 refine zae<|wpAny_rule ?_;refine zae<|show wpAny _ _ (call (.builtin "range.__reversed__") [.ref r]) _ _ _ from lP a b ?_;first
 | exact zax h
 | exact zae<|zax<|zax h
theorem lO{n:Nat}(c:IsRange s.heap r 0 (n:Int) 1 t u v)(b:n<=1000)(h:Q (.ref s.y) { s with heap:=s.heap.push { cls:=.type "range_iterator",data:=.fields #[rawInt<|(n:Int)-1,rawInt (n:Int),rawInt<|-1,] } }):wpAny (model prog w) A (call (.type "reversed") [.ref r]) Q E s:=by refine callType_other (Q₁:=λobj a=>obj=.ref s.y/\a={ s with heap:=s.heap.push { cls:=.type "range_iterator",data:=.fields #[rawInt<|(n:Int)-1,rawInt (n:Int),rawInt<|-1,] } }) B? F.create_reversed #[_,_,F.mro_reversed] F.made_reversed F.pV (F.typeCall_reversed_1 _) (lK c b #[rfl,rfl]) ?_;ext obj a ⟨rfl,rfl⟩;exact#[#[_,zaX _ rfl,rfl],h]
theorem uf(it:Addr)(x left step:Int) :
  Meets (Builtin.«range_iterator.__length_hint__» #[[.ref it],[]]) (λ_ R s=>s.heap.get? it=some { cls:=.type "range_iterator",dict:=none,data:=.fields #[rawInt x,rawInt left,rawInt step,],slots:=#[] }/\R (.ok<|.ret<|Value.int left s.toks) { s with toks:=s.toks+1 }):=
 .of_wp λprog w A R s h=>by let#[e,g,d,c,a]:=s;let#[b,h]:=h;wp_walk;exact#[_,rfl,h]
theorem Gg{x step:Int}{n:Nat}(d:IsRangeIter s.heap z x (n:Int) step)(f:n<=sizeLine)(h:Q false { s with toks:=s.toks+1 }):wpAny (model prog w) A (Builtin.List.listLengthHint<|.ref z) Q E s:=by
 let c:s.TypeIs (.ref z) "range_iterator":=#[_,d,rfl];unfold Builtin.List.listLengthHint;refine zae<|zdn c F.Ef ?_;show wpAny _ A (specialOf (Value.ref z) (Str.ofString "__length_hint__") >>= _) _ _ _;refine zae<|zdn c F.JQ ?_;generalize e:("range_iterator.__length_hint__" : String)=g
 wp_delta
 rw[show splitId g=some ("range_iterator", "__length_hint__")from by subst e;decide +kernel];subst e;refine zae<|wpAny_isInstance (b:=true) c (by rw[isSubtype_type];kernel_rfl) ?_;refine wpAny_ite_split (λa=>absurd a B!)<|λ_=>?_;refine wpAny_ite_split (λ_=>?_)<|λa=>absurd B? a;refine wpAny_ite_split (λ_=>?_)<|λa=>absurd B? a;refine zae<|zdh F.slot_range_iterator_length_hint c F.entry_range_iterator_length_hint (F.args_range_iterator_length_hint_1 _) (uf z x (n:Int) step) #[d,?_];show wpAny _ A (do
     let i <-asInt? (Value.int (n:Int) s.toks)
     _) Q E _
 refine zae<|zdA rfl ?_;dsimp only;erw[zab (by unfold Builtin.List.listTooLong;rw[zau];simpa using f),zax h]
theorem yc{x step:Int}{n:Nat}(H:A.handled=none)(r:IsRangeIter s.heap z x (n:Int) step)(B:n<=sizeLine)(T:∀h' O f c,(∀b o,b≠z->s.heap.get? b=some o->h'.get? b=some o)->h'.get? s.y=some { cls:=.type "list",dict:=none,data:=.seq f c,slots:=#[] }->ItemsOf (λi v=>∃t,v=.int (x+i*step) t) f n->
   Q (.ref s.y) { s with heap:=h',toks:=O }):wpAny (model prog w) A (call (.type "list") [.ref z]) Q E s:=by
 refine callType_codes (Q₁:=λobj d=>obj=.ref s.y/\d={ s with heap:=s.heap.push { cls:=.type "list",data:=.seq #[] } }) PySem.F.called_list (PySem.F.typeCall_list_1 _) PySem.F.entry_list_init
  (code_list_new _ #[rfl,rfl]) λobj d h₁=>?_
 let#[rfl,rfl]:=h₁;let j:(s.heap.push { cls:=.type "list",data:=.seq #[] }).get? s.y=some { cls:=.type "list",data:=.seq #[] }:=zaX _ rfl;let y:=zan r;refine#[#[_,j,rfl],PySem.F.args_list_init_2 _ _,?_];show wpAny _ _ (do let l <-Builtin.List.listItems (.ref s.y);Builtin.List.listUpdate (.ref s.y) (λ_=>#[]);letGo l.toList.reverse;Builtin.List.listExtendWith (.ref s.y) (.ref z) .none) _ _ _;refine zae ?_;unfold Builtin.List.listItems;refine zae<|zdd j rfl<|zax ?_;refine zae<|zcH j rfl ?_;let a:=zbI (Obj.mapSeq<|λ_=>(#[]:Array Value)) j rfl;generalize I:(s.heap.push { cls:=.type "list",data:=.seq #[] }).update s.y (Obj.mapSeq<|λ_=>(#[]:Array Value))=u at a;let p:∀b o,s.heap.get? b=some o->u.get? b=some o:=λb o e=>by erw[<-I,(zby _ _<|zbM<|zan e).trans<|zav _ e]
 let g:=p _ _ r;refine zae<|zen ?_;unfold Builtin.List.listExtendWith;refine zae<|wpAny_typeOf (show Shared.TypeIs { s with heap:=u } (.ref z) "range_iterator" from#[_,g,rfl]) ?_;let D:Builtin.List.listSameRef (.ref s.y) (.ref z)=false:=by simp[Builtin.List.listSameRef,zbM y]
 let P:(Value.type "range_iterator"==Value.type "list")=false:=by decide
 let G:(Value.type "range_iterator"==Value.type "tuple")=false:=by decide
 simp[D,P,G,Bool.or_false,zbC,zcQ];refine zae<|zdV g ?_;refine zae<|zbW<|Gg g B ?_;rw[zab B!];let R:s.y∉[z]:=λh=>absurd y (by erw[<-zaj.mp h,zbf _]);refine zax #[zcw zcs _,codeAny_extend_loopS (Walks.range (A:=A.in1.in1) H z x step n).toS B _ R _ n 0 _ _ _ rfl (zaS _) (by simpa using g) a (ItemsOf.nil _) λq S K h N M=>?_];rw[Moved.eq_with h];refine#[rfl,T q.heap q.toks S K (λb m C e=>h.heap b m (λk=>?_)<|p b m e) N M];ext(L | k:zas.mp k);exact absurd (zan e) (by erw[L,zbf _]);exact C<|zaj.mp k
end PySem
namespace Gm
open PySem L2
noncomputable def jl(s:List Nat):List (List Nat)->List Nat
 | []=>[]
 | [a]=>a
 | a::b::r=>a++s++jl s (b::r)
abbrev num(n:Int):Str:=((toString n:String):Str)
abbrev S0:Str:=(("\n" : String):Str)
abbrev t0:Str:=(("" : String):Str)
noncomputable def mn(l:b9):Int:=l.min?.getD 0
noncomputable def lb(l:b9):b9:=c5 l<|l.idxOf<|mn l
end Gm
namespace L2
open PySem PySem.Spec PySem.W PySem.Calls PyProof.Rows Gm
theorem Qv{c:Prop}[Decidable c]{g f:TS}{D:Ends}{e:St}(S:St->Hp->Prop)(d:∀a b,S a b->D.nx a b)(h:¬c->(∀a b,S a b->D.nx a b)->g D e H)(i:c->(∀a b,S a b->D.nx a b)->f D e H) :
  if(!decide c)=true then g D e H else f D e H:=jK (λz=>h z d) λz=>i z d
end L2
namespace L2
open PySem PySem.Spec PySem.W PySem.Calls PyProof.Rows Gm
section
variable {prog:Program} {w:World} {ar:Around} {E:bz} {t0:Shared} {dk ik:Addr} {o:Obj} {ents:Array DictEntry} {ep:Nat}
theorem IM(d:(dk==sysModules)=false)(a:t0.heap.get? dk=some o)(e:o.ExactDict)(c:o.data=.dict ents ep)(q:Q (.ref t0.y) { t0 with heap:=t0.heap.push { cls:=.type "dict_keyiterator",data:=.fields #[.ref dk,.int 0 0,.int ents.size 0,.int ep 0,] } }) :
  wpAny (model prog w) ar (pyIter<|.ref dk) Q E t0:=by
 let b:t0.TypeIs (.ref dk) "dict":=#[o,a,e.1];refine wpAny_pyIter_slot b F.slot_dict_iter<|zdc F.slot_dict_iter b F.entry_dict_iter ?_<|F.args_dict_iter_1 _;unfold Builtin.«dict.__iter__» Builtin.Dict.dictSlotNone;refine zae<|zae<|wpAny_notOrdered_dict b<|show wpAny _ _ (pure<|Value.ref dk) _ _ t0 from zax ?_;show wpAny _ _ (Builtin.Dict.showsAll dk >>= _) _ _ t0;unfold Builtin.Dict.showsAll;rw[zab<|by erw[d,zaC]];refine zae<|zax<|zae<|wpAny_dictEntries a c<|zae<|wpAny_dictEpoch a c<|zae<|zdv<|zax #[_,rfl, "dict_keyiterator",_,#[_,zaX _ rfl,rfl],F.slot_dict_keyiterator_next.lookup,?_];simpa[rawInt]using q
theorem IL(i:Nat)(a:t0.heap.IsKeyIter ik dk i ents.size ep)(d:t0.heap.get? dk=some o)(e:o.data=.dict ents ep)(g:i<ents.size)(q:∀h',h'.IsKeyIter ik dk (i+1) ents.size ep->Heap.SameBut ik t0.heap h'->Q (some ents[i].key) { t0 with heap:=h' }):wpAny (model prog w) ar (pyNext<|.ref ik) Q E t0:=by
 let#[h,c,f,b]:=id a;unfold pyNext;refine zae<|wpAny_attempt<|zdf a.typeIs zcU<|zdc zcU a.typeIs F.entry_dict_keyiterator_next ?_<|F.args_dict_keyiterator_next_1 _;refine zae<|zax<|zae<|zae ?_;first|refine zae (zcC a.typeIs<|zax<|zae<|wpAny_fieldsOf c b ?_) | refine zae<|zcZ a.typeIs<|zax<|zae<|wpAny_fieldsOf c b ?_
 simp only[show Builtin.Dict_items.ownsTuple "dict_keyiterator"=false by decide,zbC,zcQ];show wpAny _ _ (if(Value.ref dk==Value.none)=true then _ else _) _ _ t0;rw[zab<|show ¬((Value.ref dk==Value.none)=true)from zaC];refine zae<|zax<|zae<|wpAny_dictEntries d e ?_;rw[zab A?];refine zae<|zax<|zae<|wpAny_dictEpoch d e ?_;rw[zab A?];refine zax ?_;simp[show ¬((i:Int)<0)from (),zcQ,zau,Array.getElem?_eq_getElem g];refine zae ?_;first|refine zae (zcC a.typeIs<|zax<|zae<|zeg a.typeIs ?_) | refine zae<|zcZ a.typeIs<|zax<|zae<|zeg a.typeIs ?_
 show wpAny _ _ (setField (.ref ik) 1 (rawInt<|(i:Int)+1) >>= _) _ _ t0;refine zae<|wpAny_setField c b A? ?_;let nx:(t0.heap.update ik<|Obj.mapFields (·.setIfInBounds 1 (rawInt<|(i:Int)+1))).IsKeyIter ik dk (i+1) ents.size ep:=
  #[_,zbI _ c<|Obj.isFreed_of_fields<|Obj.data_mapFields b _,(Obj.cls_mapFields ..).trans f,by rw[Obj.data_mapFields b];simp[rawInt]]
 refine zae<|zbW<|zae<|zeg nx.typeIs ?_;exact zax<|zax #[_,rfl,zax<|q _ nx<|Heap.SameBut.update ..]
theorem IK(i:Nat)(g:ar.handled=none)(a:t0.heap.IsKeyIter ik dk i ents.size ep)(d:t0.heap.get? dk=some o)(e:o.data=.dict ents ep)(f:ents.size<=i)(q:∀h',Heap.ExtBut ik t0.heap h'->Q none { t0 with heap:=h' }):wpAny (model prog w) ar (pyNext<|.ref ik) Q E t0:=by
 let#[j,c,h,b]:=id a;unfold pyNext;refine zae<|wpAny_attempt<|zdf (a).typeIs zcU<|zdc zcU (a).typeIs F.entry_dict_keyiterator_next ?_<|F.args_dict_keyiterator_next_1 _;refine zae<|zax<|zae<|zae ?_;first|refine zae (zcC (a).typeIs<|zax<|zae<|wpAny_fieldsOf c b ?_) | refine zae<|zcZ (a).typeIs<|zax<|zae<|wpAny_fieldsOf c b ?_
 simp only[show Builtin.Dict_items.ownsTuple "dict_keyiterator"=false by decide,zbC,zcQ];show wpAny _ _ (if(Value.ref dk==Value.none)=true then _ else _) _ _ t0;rw[zab<|show ¬((Value.ref dk==Value.none)=true)from zaC];refine zae<|zax<|zae<|wpAny_dictEntries d e ?_;rw[zab A?];refine zae<|zax<|zae<|wpAny_dictEpoch d e ?_;rw[zab A?];refine zax ?_;simp[show ¬((i:Int)<0)from (),zcQ,zau,zea f];refine zae ?_;first|refine zae (zcC (a).typeIs<|zax ?_) | refine zae<|zcZ (a).typeIs<|zax ?_
 show wpAny _ _ (setField (.ref ik) 0 .none >>= _) _ _ t0;refine zae<|wpAny_setField c b A?<|show wpAny _ _ (newExc (.type "StopIteration") [] >>= _) _ _ _ from zae ?_;simp[newExc,newTuple];refine zae (zdv (zae<|zdA (by first|rfl | (simp[firstArgMember];rfl))<|zdv ?_<|by size_fits)<|by size_fits);simp only[raiseNew];refine zae<|wpAny_handled ?_;rw[show ar.in1.handled=none from g];refine zae<|zax<|wpAny_throw ?_;refine zae<|wpAny_isInstance (T:= "StopIteration") #[_,zaX _ rfl,rfl] isSubtype_stop ?_;exact zax<|q _<|((Heap.SameBut.update ..).extBut.push _).push _
end
noncomputable def Pa(d:Addr)(o:Obj)(a:List<|List Key×V):It:=
 #[λi H=>H d=some (.lA o<|.dT a)/\i<a.z,λi H x c=>c=H/\∃k v b,a[i]?=some (k,v)/\H b=some (.tup<|k.map kV)/\x=.ref b,λi H=>H d=some (.lA o<|.dT a)/\a.z<=i]
theorem Jw{P:Program}{w:World}{K:Frag}{tg:Expr}{d it:Addr}{o:Obj}{f:List<|List Key×V}{n:Array DictEntry}{U:Nat}(M:o.data=.dict n U)(hn:n.size=f.z) :
  Turn P w K tg (Pa d o f) [it] it (λi h=>h.IsKeyIter it d i n.size U) where
 mem:=by simp
 obj:=λi h st b a=>by
  let e:b=it:=by simpa using a
  subst e;let#[o,e,c,d]:=st;exact#[o,e,λv z=>by rw[d]at z;cases z]
 keep:=λi h h' st k=>let ⟨o,e,r⟩:=st;#[o,k it A? o e,r]
 item:=by
  ext X A u G Z i pins s S H E I g st L;subst A u G;let#[B,hi]:=L;let#[t,Y]:=(show bM X.prog X.w H s.heap d (.lA o<|.dT f)from I.bW d _ B);let#[z,y,xs,r,o2,ac,ad,W,h2,h3,h4,h5]:=(show bM X.prog X.w H s.heap d (.dT f)from Y);rw[t]at W;cases W;rw[M]at h3;cases h3;let#[f0,Q,f2,F,N,O]:=g it A?;refine IL i st t M () λh' R sb=>?_;let I1:Inv X pins S H { s with heap:=h' }:=I.turned (λb o a e=>(sb.2 b a).trans e) f0 Q F N O;let#[o',e',c',d']:=id R;let xl:=r.z;let T:xs[i]?=some (xs[i]'()):=zaf _;let C:∀{l:List<|List Key×V} {m:List<|List Key×Addr×Value} (_:Paired (λ(p:List Key×V) (q:List Key×Addr×Value)=>p.1=q.1/\H q.2.1=some (.tup<|p.1.map kV)/\RelV p.2 q.2.2) l m) (j:Nat) (x:List Key×Addr×Value),m[j]?=some x->∃v,l[j]?=some (x.1,v)/\H x.2.1=some (.tup<|x.1.map kV):=by
   ext l m pr;induction pr with
   | nil=>intro j x e;simp at e
   | @cons p q ps qs hq _ ih=>
    ext j x e;cases j with
    | zero=>
     let e:q=x:=by simpa using e
     subst e;let#[p1,p2]:=p;let#[D,a2,_]:=hq;let D:=D;subst D;exact#[p2,rfl,a2]
    | succ j=>simpa using ih j x (by simpa using e)
  let#[v,hv,a]:=C r i _ T;let ek:n[i]'()=entryOfKey (tupleKind<|c9 X.prog X.w) (xs[i]'()):=by let:=entry_at h4 i;rw[T,Array.getElem?_eq_getElem ()]at this;exact zaq this
  erw[ek,#[_,rfl,DA e' c' d' B! #[.ref (xs[i]'()).2.1,H,I1,rfl,#[rfl,_,v,_,hv,a,rfl],R,λb a=>(g b a).1]]]
 done:=by ext X A u G Z i pins s S H E I g st L;subst A u G;let#[B,hi]:=L;let#[t,Y]:=(show bM X.prog X.w H s.heap d (.lA o<|.dT f)from I.bW d _ B);let#[f0,Q,f2,F,N,O]:=g it A?;exact IK i (I.ok.hd Z) st t M () λh' eb=>#[rfl,I.turned (λb o a e=>eb b o a e) f0 Q F N O]
 self:=λ_ _ _ _ _ st h=>wpAny_pyIter_keyiter st h
noncomputable def BH(tl:TE):TI:=λσ H R=>tl σ H λx H1=>∃a aT,x=.ref a/\H1 a=some (.dT aT)/\∀o,R (Pa a o aT)<|upd H1 a<|.lA o<|.dT aT
theorem zE(L:PE X l tl):PI X tg l<|BH tl:=by
 ext pins s F H R I h;refine dM (L pins s F H _ I h) λv d ⟨x,t,i,M,K⟩=>?_;let#[a,m,e,A,q]:=K;subst e;cases M;let#[z,y,xs,r,o,k,B,g,D,n,E,Q]:=(show bM X.prog X.w t d.heap a (.dT m)from i.bW a _ A);let P:k.size=m.z:=by erw[size_of_entries E,r.length.symm]
 refine IM y g D n ?_;generalize C:d.heap.push { cls:=Value.type "dict_keyiterator",data:=Data.fields #[Value.ref a,Value.int 0 0,Value.int k.size 0,Value.int B 0,] }=h';let j:∀c o,d.heap.get? c=some o->h'.get? c=some o:=λc o e=>C▸zav _ e;let S:∀b ys,t b=some (.tup ys)->b≠a:=λb ys e z=>by rw[z,A]at e;cases e
 let O:Inv X pins F (upd t a<|.lA o<|.dT m) { d with heap:=h',toks:=d.toks }:=
  Inv.write (e:=a) (t':=d.toks) i (by rw[A];trivial) (.inl rfl) (λb u _ e=>j b u e) #[o,j _ _ g]
   #[j _ _ g,z,y,xs,Paired.xt r λp q w=>#[w.1,by erw[aG<|S _ _ w.2.1,w.2.1],w.2.2],o,k,B,j _ _ g,D,n,E,Q]
 refine#[d.y,[d.y],_,_,_,rfl,O,Jw n P,#[_,C▸zaX _ rfl,rfl,rfl],λb G=>?_,q o];let e:b=d.y:=by simpa using G
 subst e;let N:d.y≠a:=λz=>zbf _<|z▸zan g;let f:=i.xV (zai _)<|i.bW.fresh<|zai _;exact#[(aG N).trans f.1,f.2]
theorem GB(h:tl σ H λx c=>∃a b,x=.ref a/\c a=some (.dT b)/\∀o,R (Pa a o b)<|upd c a<|.lA o<|.dT b):BH tl σ H R:=h
theorem Inv.SX{j:St}{s:Shared}{o:Obj}{u:HO}(I:Inv X pins j H s)(a:H d=some (.lA o u))(G:∀xs,u≠.tup xs)(K:∀x,u≠.own x)(D:∀C F,X.H₀ d≠some (.lA C F)):Inv X pins j (upd H d u) s:=by
 let g:∀{b:Addr},H b=none->b≠d:=λ{b} e z=>by rw[z,a]at e;cases e
 let B:lE X.prog X.w (upd H d u) s.heap:=λb v e=>by
  let k:∀c xs,H c=some (.tup xs)->upd H d u c=some (.tup xs):=λc xs q=>by erw[aG (show c≠d from λz=>by rw[z,a]at q;cases q),q]
  let h:∀c x,H c=some (.own x)->upd H d u c=some (.own x):=λc x q=>by erw[aG (show c≠d from λz=>by rw[z,a]at q;cases q),q]
  by_cases z:b=d;subst z;rw[ah]at e;cases e;let#[_,q]:=(show bM X.prog X.w H s.heap b (.lA o u)from I.bW b _ a);exact q.jW (λc v _ r=>r) (λc q=>h c _ q) k;rw[aG z]at e;exact(I.bW b v e).jW (λc v _ r=>r) (λc q=>h c _ q) k
 let bs:Un X.fs X.ex X.H₀ (upd H d u) X.s₀.heap s.heap:=by refine#[I.base.keep,I.base.slot,λb f e n t=>?_,I.base.there,λb xs e=>?_,λb f v e=>?_,λb y e=>?_];let:=I.base.free b f e n t;rw[aG<|g this];exact this;let:=I.base.tX b xs e;rw[aG<|show b≠d from λz=>by rw[z,a]at this;cases this];exact this;let:=I.base.tm b f v e;rw[aG<|show b≠d from λz=>D f v<|by erw[<-z,e]];exact this;let#[m,this]:=I.base.tY b y e;exact#[m,by erw[aG (show b≠d from λz=>by rw[z,a]at this;cases this),this]]
 exact#[I.ok,I.os,I.bare,bs,I.loc,I.cell,by erw[aG<|g I.free,I.free],λx c e=>by erw[aG<|g<|I.iA x c e,I.iA x c e],λp A=>by let#[l,i,E]:=I.pin p A;exact#[l,by erw[aG<|g i,i],E],B,I.len]
noncomputable def FN(g:Hp)(t:TS):TS:=λD f H=>t { D with nx:=λa b=>∃(d:Addr) (o:Obj) (c:List<|List Key×V),b d=some (.lA o<|.dT c)/\(∀e h,g d≠some (.lA e h))/\D.nx a (upd b d<|.dT c) } f H
theorem CT{st:Stmt}{t:TS}(h:PS X st t):PS X st<|FN X.H₀ t:=by
 ext pins s b H D I q;refine dM (h pins s b H _ I q) λf j r=>?_;cases f with
 | next=>
  let#[a,k,c,d,o,l,g,i,e]:=r;exact#[a,_,c.SX g (λxs z=>nomatch z) (λx z=>nomatch z) i,e]
 | brk=>exact r
 | cont=>exact r
 | ret u=>exact r
theorem MT(h:t { D with nx:=λa b=>∃(d:Addr) (o:Obj) (c:List<|List Key×V),b d=some (.lA o<|.dT c)/\(∀e f,H0 d≠some (.lA e f))/\D.nx a (upd b d<|.dT c) } σ H):FN H0 t D σ H:=h
section
variable {X:Cx} {l a b:Expr} {tl:TE} {ta:TA} {p p2 p3 pos ug GR:Pos}
theorem uU{lo st:Int}{n:Nat}(h:ItemsOf (λi v=>∃t,v=Value.int (lo+(i:Int)*st) t) acc n):Vals (((List.range n).map λi:Nat=>lo+(i:Int)*st).c) acc.toList:=by
 let#[g,h]:=h;let c:∀(l:bf) (k:Nat),(∀j v,l[j]?=some v->∃t,v=Value.int (lo+((k+j:Nat):Int)*st) t)->Vals (((List.range' k l.z).map λi:Nat=>lo+(i:Int)*st).c) l:=by
  ext l;induction l with
  | nil=>intro k _;exact .nil
  | cons a l m=>
   ext k f;rw[zbd,range'_succ,zbg,zbg];refine .cons ?_<|m (k+1) λj v e=>?_;let#[t,e]:=f 0 a rfl;exact#[t,e];let#[t,d]:=f (j+1) v (by simpa using e);refine#[t,?_];rw[d,show k+(j+1)=k+1+j by lia]
 let:=c acc.toList 0 λj v e=>by let#[t,d]:=h j v (by erw[<-zef,e]);refine#[t,?_];rw[d,zbQ]
 rw[zbu,g]at this;erw[range_eq_range',this]
noncomputable def uY(ta:TA):TE:=λd H Q=>ta d H λvs c=>∃(lo:Int) (n:Nat),vs=[.int lo,.int<|lo+n]/\n<=1000/\-1000<=lo/\lo<=1000/\∀p,c p=none->Q (.ref p) (upd c p<|.lst<|((List.range n).map λi:Nat=>lo+(i:Int)).c)
theorem uh(T:X.calm=true)(C:X.mg "range"=none)(U:X.mg "list"=none)(D:PA X [a,b] ta)(G:Gl X "range":=by rfl)(P:Gl X "list":=by rfl)(z:starEach [a,b] X.env=[(false,eval a X.env),(false,eval b X.env)]:=by rfl)(v:starEach [b] X.env=[(false,eval b X.env)]:=by rfl)(x:starEach [.Call (.Name "range" p) [a,b] [] pos] X.env=(false,eval (.Call (.Name "range" p) [a,b] [] pos) X.env)::starEach [] X.env:=by rfl) :
  PE X (.Call (.Name "list" p2) [.Call (.Name "range" p) [a,b] [] pos] [] ug) (uY ta):=by
 ext pins s j H Q I h;refine Call_<|eJ I P U jO<|zaP ?_ x rfl;rw[x];refine zcf ?_;refine Call_ (eJ I G C boot_range<|zaP (dM (D pos pins s j H _ I h) λY d ⟨vs,y,E,M,B⟩=>?_) (by rw[z,v])<|by rw[v];rfl);let#[lo,n,rfl,hn,l1,Z,q]:=B;cases M with
 | cons r g=>
  cases g with
  | cons F g=>
   cases g;let#[t,rfl]:=r;let#[t',rfl]:=F;refine call_range_2 ?_;refine zcj ?_;generalize w:d.heap.push { cls:=Value.type "range",data:=Data.fields #[Value.int lo t,Value.int (lo+n) t',Value.int 1 d.toks,] }=h';let S:∀c o,d.heap.get? c=some o->h'.get? c=some o:=λc o e=>w▸zav _ e;let N:=w▸IsRange.new ..;let k:Inv X pins j y { d with heap:=h',toks:=d.toks+1 }:=E.kept S;refine call_list_range (n:=n) (k.ok.hd T) N (small_one () () () ()) (by rw[rangeSize_one];split<;>lia) () λW R f c K L m=>?_;let O:Inv X pins j (upd y h'.x<|.lst<|((List.range n).map λi:Nat=>lo+(i:Int)).c) { d with heap:=W,toks:=R }:=(by refine Inv.iY (s:={ d with heap:=h',toks:=d.toks+1 }) (ch:=[]) k (λb u _ e=>K b u e) (λb A=>by simp at A) (zai _) ?_;refine#[by rw[zaa,zaa,zbx,zat];lia,f.toList,c,?_,by erw[zdB,L]];let:=uU m;simpa only [zdx]using this);exact#[.ref h'.x,_,O,rfl,q _<|k.bW.fresh<|zai _]
noncomputable def down(n:Nat):b9:=(List.range n).map λi:Nat=>(n:Int)-1-(i:Int)
noncomputable def oC(tl:TE):TE:=λd H Q=>tl d H λx c=>∃n:Nat,x=.int (n:Int)/\n<=1000/\∀p,c p=none->Q (.ref p) (upd c p<|.lst<|(down n).c)
theorem pK(hc:X.calm=true)(K:X.mg "range"=none)(P:X.mg "reversed"=none)(Jd:X.mg "list"=none)(L:PE X l tl)(O:Gl X "range":=by rfl)(Z:Gl X "reversed":=by rfl)(W:Gl X "list":=by rfl)(y:starEach [l] X.env=(false,eval l X.env)::starEach [] X.env:=by rfl)(C:starEach [.Call (.Name "range" p) [l] [] pos] X.env=(false,eval (.Call (.Name "range" p) [l] [] pos) X.env)::starEach [] X.env:=by rfl)(B:starEach [.Call (.Name "reversed" p3) [.Call (.Name "range" p) [l] [] pos] [] GR] X.env=(false,eval (.Call (.Name "reversed" p3) [.Call (.Name "range" p) [l] [] pos] [] GR) X.env)::starEach [] X.env:=by rfl) :
  PE X (.Call (.Name "list" p2) [.Call (.Name "reversed" p3) [.Call (.Name "range" p) [l] [] pos] [] GR] [] ug) (oC tl):=by
 ext pins s f H Q I h;refine Call_<|eJ I W Jd jO<|zaP ?_ B rfl;rw[B];refine zcf ?_;refine Call_<|eJ I Z P boot_reversed<|zaP ?_ C rfl;rw[C];refine zcf ?_;refine Call_<|eJ I O K boot_range<|zaP ?_ y rfl;rw[y];refine zcf<|dM (L pins s f H _ I h) λu1 d ⟨x,v,M,T,F⟩=>?_;refine zcj ?_;let#[n,rfl,hn,q]:=F;let#[t,rfl]:=T;refine call_range_1 ?_;refine zcj ?_;generalize z:d.heap.push { cls:=Value.type "range",data:=Data.fields #[Value.int 0 d.toks,Value.int (n:Int) t,Value.int 1<|d.toks+1,] }=h';let kp:∀c o,d.heap.get? c=some o->h'.get? c=some o:=λc o e=>z▸zav _ e;let U:=z▸IsRange.new ..;let r:Inv X pins f v { d with heap:=h',toks:=d.toks+1+1 }:=M.kept kp;refine lO U hn ?_;refine zcj ?_;generalize A:h'.push { cls:=Value.type "range_iterator",data:=Data.fields #[rawInt<|(n:Int)-1,rawInt (n:Int),rawInt<|-1,] }=g;let D:∀c o,h'.get? c=some o->g.get? c=some o:=λc o e=>A▸zav _ e;let E:=A▸zaX _ rfl;let m:Inv X pins f v { d with heap:=g,toks:=d.toks+1+1 }:=r.kept D;let N:=r.xV (zai _)<|r.bW.fresh<|zai _;refine yc (m.ok.hd hc) E (by rw[zat];lia) λh3 Y k c R S w=>?_;let G:Inv X pins f (upd v g.x<|.lst<|(down n).c) { d with heap:=h3,toks:=Y }:=by
  refine Inv.iY (s:={ d with heap:=g,toks:=d.toks+1+1 }) (ch:=[h'.x]) m (λb u j e=>R b u (by simpa using j) e) (λb j=>by erw[zaj.mp j,N]) (zai _) ?_;refine#[by unfold down;rw[zaa,zaa,zbx,zat];lia,k.toList,c,?_,by erw[zdB,S]];let:=uU w;let e:(List.range n).map (λi:Nat=>(n:Int)-1+(i:Int) * -1)=down n:=by unfold down;exact zbS λi _=>()
  rwa[e]at this
 exact#[.ref g.x,_,G,rfl,q _<|m.bW.fresh<|zai _]
noncomputable def LI(K:Frag):List V->Hp->VK->Prop:=λvs H Q=>∃(a:Addr) (ns:b9),vs=[.ref a]/\aK K H a ns.c/\ns≠[]/\∀m,m∈ns->(∀x∈ns,x<=m)->Q (.int m) H
theorem vM(z:X.calm=true):fJ X (.builtin "max")<|LI X.K:=by
 ext pins s L H xs D Q I r h;let#[a,ns,rfl,k,C,q]:=h;let#[u,rfl,B]:=vals1 r;cases B;let#[M,A,m,E]:=I.list k;let g:=intsAre_of A;let#[xs,e]:=g.allInts.items;let c:ns=xs.toList.map (·.1):=by rw[<-g.numsOf,<-nums_intItems,<-e]
 let d:=m.isList;rw[e]at d;let w:0<xs.size:=by let:=zbP.mpr C;rwa[c,zaa,zbu]at this
 refine max_intList (I.ok.hd z) d w λv h' F i o=>?_;let#[t,rfl]:=intItems_at i;let#[G,n]:=argBest_gt (numAt xs)<|xs.size-1;refine#[.int _,H,I.kept o,#[t,rfl],q _ ?_ λx f=>?_];rw[c,numAt_eq];exact getD_mem (by rw[zaa,zbu];lia);rw[c]at f;let#[j,y,rfl]:=mem_getD f;rw[zaa,zbu]at y;erw[<-numAt_eq,n j ()]
theorem B7{K:Frag}(h:X.K=K)(c:X.calm=true):fJ X (.builtin "max")<|LI K:=h▸vM c
end
theorem Bp(h:ta σ H λvs a=>∃(lo:Int) (n:Nat),vs=[.int lo,.int<|lo+n]/\n<=1000/\-1000<=lo/\lo<=1000/\∀p,a p=none->Q (.ref p) (upd a p<|.lst<|((List.range n).map λi:Nat=>lo+(i:Int)).c)):uY ta σ H Q:=h
theorem rW(h:tl σ H λx a=>∃n:Nat,x=.int (n:Int)/\n<=1000/\∀p,a p=none->Q (.ref p) (upd a p<|.lst<|(down n).c)):oC tl σ H Q:=h
theorem B6{R:Hp->Prop}{j d:Addr}{o:Obj}{a:List<|List Key×V}{g:TG}{A:TT}{z:TE}(l:Nat->St->List V->Hp->Prop)(L:l 0 f [] H)(E:∀i f ys H,i<=a.z->l i f ys H->H d=some (.lA o<|.dT a))(C:∀i k v b f ys H,a[i]?=some (k,v)->H b=some (.tup<|k.map kV)->i<a.z->l i f ys H->g (.ref b) f H λc u=>A c u λI r=>if I=true then z c r λy s=>s j=some (.lst ys)/\ys.z<sizeLine/\∃h,h<a.z-i/\(h=a.z-(i+1)/\i+1<=a.z/\l (i+1) c (ys++[y]) (upd s j<|.lst<|ys++[y]))else ∃h,h<a.z-i/\(h=a.z-(i+1)/\i+1<=a.z/\l (i+1) c ys r))(G:∀f ys H,l a.z f ys H->R H) :
  ∃W:Nat->Nat->St->List V->Hp->Prop,(∃m,W 0 m f [] H)/\∀i m t ys n,W i m t ys n->(((Pa d o a).stop i n/\R n)\/((Pa d o a).go i n/\∀x B,(Pa d o a).A6 i n x B->g x t B λc u=>A c u λb r=>
   if b=true then z c r λy s=>s j=some (.lst ys)/\ys.z<sizeLine/\∃h,h<m/\W (i+1) h c (ys++[y]) (upd s j<|.lst<|ys++[y])else ∃h,h<m/\W (i+1) h c ys r)):=by
 refine#[λi m f ys H=>m=a.z-i/\i<=a.z/\l i f ys H,#[a.z,by simp,zaS _,L],?_];ext i m f ys H ⟨rfl,K,p⟩;let q:=E i f ys H K p;by_cases w:i<a.z;refine .inr #[#[q,w],λx M y=>?_];let#[e,k,v,b,F,D,rfl]:=y;subst e;exact C i k v b f ys _ F D w p;let e:i=a.z:=();subst e;exact .inl #[#[q,zai _],G f ys H p]
end L2
namespace Dt
noncomputable def sm:Nat->(Nat->Int)->Int
 | 0,_=>0
 | n+1,f=>sm n f+f n
theorem aF{f g:Nat->Int}:∀{n:Nat},(∀i,i<n->f i=g i)->sm n f=sm n g
 | 0,_=>rfl
 | n+1,h=>by show sm n f+f n=sm n g+g n;rw[aF λi hi=>h i<|zbo hi,h n<|zbq n]
theorem ff{f:Nat->Int}:∀{n:Nat},(∀i,i<n->f i=0)->sm n f=0
 | 0,_=>rfl
 | n+1,h=>by show sm n f+f n=0;rw[ff λi a=>h i<|zbo a,h n<|zbq n];rfl
theorem Bf{f g:Nat->Int}(a b:Int):∀(n:Nat),sm n (λi=>a*f i+b*g i)=a*sm n f+b*sm n g
 | 0=>by simp[sm]
 | n+1=>by show sm n (λi=>a*f i+b*g i)+(a*f n+b*g n)=a*(sm n f+f n)+b*(sm n g+g n);rw[Bf a b n];grind
theorem oG{f:Nat->Int}(a:Int):∀(n:Nat),sm n (λi=>a*f i)=a*sm n f
 | 0=>by simp[sm]
 | n+1=>by show sm n (λi=>a*f i)+a*f n=a*(sm n f+f n);rw[oG a n];grind
theorem kd{f g:Nat->Int}:∀(n:Nat),sm n (λi=>f i+g i)=sm n f+sm n g
 | 0=>by simp[sm]
 | n+1=>by show sm n (λi=>f i+g i)+(f n+g n)=(sm n f+f n)+(sm n g+g n);rw[kd n];lia
theorem rF{f g:Nat->Int}:∀(n:Nat),sm n (λi=>f i-g i)=sm n f-sm n g
 | 0=>by simp[sm]
 | n+1=>by show sm n (λi=>f i-g i)+(f n-g n)=(sm n f+f n)-(sm n g+g n);rw[rF n];lia
theorem cJ{f:Nat->Int}{k:Nat}:∀{n:Nat},k<n->(∀i,i<n->i≠k->f i=0)->sm n f=f k
 | n+1,hk,h=>by show sm n f+f n=f k;by_cases e:k=n;subst e;rw[ff λi a=>h i (zbo a)<|zaW a];lia;rw[cJ () λi a=>h i<|zbo a,h n (zbq n)<|λz=>e z.symm];lia
theorem F1{f:Nat->Int}{k l:Nat}:∀{n:Nat},k<l->l<n->(∀i,i<n->i≠k->i≠l->f i=0)->sm n f=f k+f l
 | n+1,hk,hl,h=>by show sm n f+f n=f k+f l;by_cases e:l=n;subst e;rw[cJ hk λi a z=>h i () z ()];rw[F1 hk () λi a=>h i<|zbo a,h n (zbq n) () ()];lia
theorem Cz(f:Nat->Int):∀(n:Nat),sm (n+1) f=f 0+sm n (λi=>f<|i+1)
 | 0=>by simp[sm]
 | n+1=>by show sm (n+1) f+f (n+1)=f 0+(sm n (λi=>f<|i+1)+f (n+1));rw[Cz f n];lia
theorem ql(f:Nat->Nat->Int)(m:Nat):∀(n:Nat),sm n (λi=>sm m<|f i)=sm m λj=>sm n λi=>f i j
 | 0=>by rw[show sm 0 (λi=>sm m<|f i)=0 from rfl,ff];ext i _;rfl
 | n+1=>by show sm n (λi=>sm m<|f i)+sm m (f n)=sm m λj=>sm n (λi=>f i j)+f n j;rw[ql f m n,kd]
noncomputable def sg:Nat->Int
 | 0=>1
 | n+1=>- sg n
noncomputable def sk(j l:Nat):Nat:=if l<j then l else l+1
abbrev Mx:=Nat->Nat->Int
noncomputable def mi(A:Mx)(j:Nat):Mx:=λi l=>A (i+1)<|sk j l
noncomputable def det:Nat->Mx->Int
 | 0,_=>1
 | n+1,A=>sm (n+1) λj=>sg j*A 0 j*det n (mi A j)
theorem aY(n:Nat)(A:Mx):det (n+1) A=sm (n+1) λj=>sg j*A 0 j*det n (mi A j):=rfl
theorem lS(h:l<n):sk j l<n+1:=by unfold sk;split<;>lia
theorem mW(j l:Nat):sk j l≠j:=by unfold sk;split<;>lia
theorem aL:∀{n:Nat} {A B:Mx},(∀i j,i<n->j<n->A i j=B i j)->det n A=det n B
 | 0,_,_,_=>rfl
 | n+1,A,B,h=>by rw[aY,aY];refine aF λj b=>?_;rw[h 0 j () b,aL (A:=mi A j) (B:=mi B j) λi l c a=>h _ _ ()<|lS a]
noncomputable def cl(A:Mx)(c:Nat)(v:Nat->Int):Mx:=λi j=>if j=c then v i else A i j
theorem bF(A:Mx)(c:Nat)(v:Nat->Int)(i:Nat):cl A c v i c=v i:=zad rfl
theorem cP(v:Nat->Int)(i:Nat)(h:j≠c):cl A c v i j=A i j:=zab h
theorem eI(A:Mx)(c:Nat)(v:Nat->Int):mi (cl A c v) c=mi A c:=by funext i l;exact cP _ _<|mW c l
noncomputable def dn(j c:Nat):Nat:=if c<j then c else c-1
theorem wG(h:j≠c):sk j l=c↔l=dn j c:=by unfold sk dn;split<;>split<;>lia
theorem DI(h:j≠c)(b:c<n+1)(a:j<n+1):dn j c<n:=by unfold dn;split<;>lia
theorem lW(v:Nat->Int)(h:j≠c):mi (cl A c v) j=cl (mi A j) (dn j c) λi=>v<|i+1:=by funext i l;unfold mi cl;by_cases z:sk j l=c;rw[zad z,zad<|(wG h).mp z];rw[zab z,zab<|λy=>z<|(wG h).mpr y]
theorem df(a b:Int):∀{n:Nat} (A:Mx) {c:Nat} (v w:Nat->Int),c<n->det n (cl A c λi=>a*v i+b*w i)=a*det n (cl A c v)+b*det n (cl A c w)
 | n+1,A,c,v,w,hc=>by rw[aY,aY,aY,<-Bf];refine aF λj hj=>?_;by_cases e:j=c;subst e;rw[eI,eI,eI,bF,bF,bF];grind;rw[lW _ e,lW _ e,lW _ e,cP _ _ e,cP _ _ e,cP _ _ e,df a b (mi A j) (λi=>v<|i+1) (λi=>w<|i+1)<|DI e hc hj];grind
theorem gR:∀{n:Nat} {A:Mx} {c:Nat},c+1<n->(∀i,i<n->A i c=A i (c+1))->det n A=0
 | n+1,A,c,hc,h=>by
  rw[aY,F1 (k:=c) (l:=c+1) () hc λj o f m=>?_];let e:det n (mi A c)=det n (mi A<|c+1):=aL λi l d g=>by
   unfold mi;by_cases z:l=c;subst z;let b:sk l l=l+1:=by unfold sk;rw[zab ()]
   let a:sk (l+1) l=l:=by unfold sk;rw[zad ()]
   rw[b,a];exact(h _ ()).symm;let:sk c l=sk (c+1) l:=by unfold sk;split<;>split<;>lia
   rw[this]
  rw[e,<-h 0 ()];show sg c*A 0 c*det n (mi A<|c+1)+(- sg c)*A 0 c*det n (mi A<|c+1)=0;grind;let e:det n (mi A j)=0:=by
   by_cases z:j<c;refine gR (c:=c-1) () λi d=>?_;unfold mi;let b:sk j (c-1)=c:=by unfold sk;rw[zab ()];lia
   let a:sk j (c-1+1)=c+1:=by unfold sk;rw[zab ()];lia
   rw[b,a];exact h _ ();refine gR (c:=c) () λi d=>?_;unfold mi;let b:sk j c=c:=by unfold sk;rw[zad ()]
   let a:sk j (c+1)=c+1:=by unfold sk;rw[zad ()]
   erw[b,a,h _ ()]
  rw[e,zbD]
theorem eV(v w:Nat->Int)(h:c≠d):cl (cl A c v) d w=cl (cl A d w) c v:=by funext i j;unfold cl;by_cases z:j=d;rw[zad z,zab (),zad z];rw[zab z,zab z]
theorem eW(A:Mx)(c:Nat):cl A c (λi=>A i c)=A:=by funext i j;unfold cl;split;rename_i e;rw[e];rfl
theorem mT(b:c<n)(f:d<n)(a:c≠d)(h:∀(A:Mx),(∀i,i<n->A i c=A i d)->det n A=0)(A:Mx)(u w:Nat->Int) :
  det n (cl (cl A c u) d w)=- det n (cl (cl A c w) d u):=by
 let z:∀v:Nat->Int,det n (cl (cl A c v) d v)=0:=λv=>h _ λi _=>by rw[bF,cP _ _ a,bF]
 let e:det n (cl (cl A c λi=>1*u i+1*w i) d λi=>1*u i+1*w i)=0:=z _;rw[df 1 1 _ _ _ f,eV _ _ a,eV _ _ a,df 1 1 _ _ _ b,df 1 1 _ _ _ b,<-eV _ _ a,<-eV _ _ a,<-eV _ _ a,<-eV _ _ a,z,z]at e;lia
theorem jN:∀(k:Nat) {n:Nat} {A:Mx} {c:Nat},c+1+k<n->(∀i,i<n->A i c=A i (c+1+k))->det n A=0
 | 0,n,A,c,hc,h=>gR hc h
 | k+1,n,A,c,hc,h=>by let s:=mT () hc () (λB a=>gR (c:=c+1+k) () a) A (λi=>A i<|c+1+k)<|λi=>A i<|c+1+(k+1);rw[eW]at s;let b:cl A (c+1+(k+1)) (λi=>A i<|c+1+(k+1))=A:=eW A _;rw[b]at s;rw[s,jN k (c:=c) () λi d=>?_];rfl;erw[cP _ _ (),cP _ _ (),cP _ _ (),bF,h i d]
theorem dP(a:c<n)(b:d<n)(f:c≠d)(h:∀i,i<n->A i c=A i d):det n A=0:=by by_cases z:c<d;obtain⟨k,rfl⟩:∃k,d=c+1+k:=#[d-(c+1),()];exact jN k b h;obtain⟨k,rfl⟩:∃k,c=d+1+k:=#[c-(d+1),()];exact jN k a λi e=>(h i e).symm
theorem nZ(b:c<n)(a:d<n)(e:c≠d)(A:Mx)(u w:Nat->Int):det n (cl (cl A c u) d w)=- det n (cl (cl A c w) d u):=
 mT b a e (λ_ h=>dP b a e h) A u w
theorem qN(a:c<n):det n (cl A c λ_=>0)=0:=by let:=df 0 0 A (λ_=>0) (λ_=>0) a;simpa using this
theorem eU(a:Int)(v:Nat->Int)(b:c<n):det n (cl A c λi=>a*v i)=a*det n (cl A c v):=by let:=df a 0 A v v b;simpa using this
theorem lC{n c:Nat}(A:Mx)(V:Nat->Nat->Int)(a:c<n):∀m:Nat,det n (cl A c λi=>sm m λl=>V l i)=sm m λl=>det n (cl A c<|V l)
 | 0=>qN a
 | m+1=>by let e:=df 1 1 A (λi=>sm m λl=>V l i) (V m) a;rw[lC A V a m]at e;simp[zcR]at e;exact e
noncomputable def un(k i:Nat):Int:=if i=k then 1 else 0
theorem mH:∀(k:Nat) (A:Mx),det (k+1) (cl A k<|un k)=det k A
 | 0,A=>by rw[aY];show 0+sg 0*cl A 0 (un 0) 0 0*1=1;rw[bF];rfl
 | k+1,A=>by
  rw[aY,aY];show sm (k+1) _+_=_;let c:cl A (k+1) (un<|k+1) 0 (k+1)=0:=by rw[bF];rfl
  dsimp only;rw[c,zbD,zed,zcS];refine aF λj e=>?_;let a:j≠k+1:=();rw[cP _ _ a,lW _ a,<-mH k (mi A j)];let d:dn j (k+1)=k:=by unfold dn;rw[zab ()];lia
  let b:(λi=>un (k+1)<|i+1)=un k:=by funext i;unfold un;by_cases z:i=k;rw[zad z,zad ()];rw[zab z,zab ()]
  rw[d,b]
theorem Mj{d a b:Int}(h:d≠0)(e:d*a=d*b):a=b:=Int.eq_of_mul_eq_mul_left h e
structure Ba(k:Nat)(A W:Mx)(d:Int):Prop where
 ne:d≠0
 dt:d=det k A
 up:∀i j,i<k->d*A i j=sm k λl=>A i l*W l j
 lo:∀i j,k<=i->W i j=d*A i j-sm k λl=>A i l*W l j
theorem Ba.start(A:Mx):Ba 0 A A 1:=#[by decide,rfl,λi j h=>absurd h<|Nat.not_lt_zero _,λi j _=>by show _=1*A i j-0;lia]
noncomputable def rl(A:Mx)(k:Nat)(v:Nat->Int):Mx:=λi j=>if i=k then v j else A i j
theorem f9(A:Mx)(k:Nat)(v:Nat->Int)(j:Nat):rl A k v k j=v j:=zad rfl
theorem jR(v:Nat->Int)(j:Nat)(h:i≠k):rl A k v i j=A i j:=zab h
theorem Ba.led(b:Ba k A W d)(g:k<r):Ba k (rl A k λj=>A k j+A r j) (rl W k λj=>W k j+W r j) d:=by
 let c:∀(v:Nat->Int) (j:Nat),sm k (λl=>v l*rl W k (λj=>W k j+W r j) l j)=sm k λl=>v l*W l j:=λv j=>aF λl f=>by rw[jR _ _ ()]
 refine#[b.ne,b.dt.trans<|aL λi j a h=>(jR _ _ ()).symm,λi j a=>?_,λi j a=>?_];let e:∀l,rl A k (λj=>A k j+A r j) i l=A i l:=λl=>jR _ _ ();erw[e,c,b.up i j a,aF λl _=>by rw[e]]
 rw[c];by_cases z:i=k;subst z;rw[f9,f9,b.lo i j<|zai _,b.lo r j ()];let e:sm i (λl=>rl A i (λj=>A i j+A r j) i l*W l j)=sm i (λl=>A i l*W l j)+sm i (λl=>A r l*W l j):=by rw[<-kd];exact aF λl _=>by erw[f9,Int.add_mul _ _ _]
 rw[e];grind;rw[jR _ _ z,jR _ _ z,b.lo i j a];let e:sm k (λl=>rl A k (λj=>A k j+A r j) i l*W l j)=sm k (λl=>A i l*W l j):=aF λl _=>by rw[jR _ _ z]
 rw[e]
theorem Ba.vec(b:Ba k A W d)(a:i<k+1)(j:Nat):d*A i j=sm k (λl=>W l j*A i l)+W k j*un k i:=by let e:sm k (λl=>W l j*A i l)=sm k λl=>A i l*W l j:=aF λl _=>zcp _ _;rw[e];unfold un;by_cases z:i=k;subst z;rw[zad rfl,b.lo i j<|zai _];lia;rw[zab z,b.up i j ()];lia
theorem Ba.col(b:Ba k A W d)(B:Mx)(a:c<k+1)(j:Nat) :
  d*det (k+1) (cl B c λi=>A i j)=sm k (λl=>W l j*det (k+1) (cl B c λi=>A i l))+W k j*det (k+1) (cl B c<|un k):=by
 rw[<-eU d _ a];let e:det (k+1) (cl B c λi=>d*A i j)=det (k+1) (cl B c λi=>1*sm k (λl=>W l j*A i l)+W k j*un k i):=aL λi l f _=>by unfold cl;split;dsimp only;rw[b.vec f j];lia;rfl
 rw[e,df 1 (W k j) _ _ _ a,zcR,lC B (λl i=>W l j*A i l) a];congr 1;exact aF λl _=>eU _ _ a
theorem Ba.last(b:Ba k A W d)(j:Nat):det (k+1) (cl A k λi=>A i j)=W k j:=by refine Mj b.ne ?_;rw[b.col A (zbq k) j,mH,<-b.dt,ff λl a=>?_];rw[zbk];exact zcp _ _;erw[dP (c:=l) (d:=k) () () () λi _=>by rw[bF,cP _ _ ()],zbD _]
theorem Ba.OO(b:Ba k A W d):det (k+1) A=W k k:=by let:=b.last k;rwa[eW]at this
theorem Ba.unit(b:Ba k A W d)(m:i<k):det (k+1) (cl A i<|un k)=- W i k:=by
 refine Mj b.ne ?_;let a:=zbq k;let e:=b.col (cl A i<|un k) a k;let h:cl (cl A i<|un k) k (λj=>A j k)=cl A i (un k):=by
  let:=eW (cl A i<|un k) k;let f:(λj=>cl A i (un k) j k)=λj=>A j k:=by funext j;exact cP _ _ ()
  rwa[f]at this
 let n:det (k+1) (cl (cl A i<|un k) k<|un k)=0:=dP (c:=i) (d:=k) () a () λj _=>by rw[bF,cP _ _ (),bF]
 let g:det (k+1) (cl (cl A i<|un k) k λj=>A j i)=- d:=by rw[nZ () a (),eW,mH,<-b.dt]
 rw[h,n,cJ m λl o z=>?_,g]at e;rw[e];grind;erw[dP (c:=l) () a () λj _=>by rw[bF,cP _ _ (),cP _ _ z],zbD _]
theorem Ba.Va(b:Ba k A W d)(a:i<k)(j:Nat):d*det (k+1) (cl A i λl=>A l j)=W k k*W i j-W i k*W k j:=by rw[b.col A () j,b.unit a,cJ a λl c z=>?_];rw[eW,b.OO];grind;erw[dP () () z λj _=>by rw[bF,cP _ _ z],zbD _]
theorem Ba.step(b:Ba k A W d)(p:W k k≠0):∃f:Mx,(∀i j,i≠k->d*f i j=W k k*W i j-W i k*W k j)/\(∀j,f k j=W k j)/\Ba (k+1) A f (W k k):=by
 refine let X:Mx:=λi j=>if i<k then det (k+1) (cl A i λl=>A l j)else W k j;?_;let h:∀i j,i<k->d*X i j=W k k*W i j-W i k*W k j:=λi j c=>by show d*(if i<k then _ else _)=_;erw[zad c,b.Va c j]
 let n:∀j,X k j=W k j:=λj=>zab<|zbf k;let S:∀i j,d*sm (k+1) (λl=>A i l*X l j)=W k k*sm k (λl=>A i l*W l j)+(- W k j)*sm k (λl=>A i l*W l k)+d*A i k*W k j:=λi j=>by rw[<-oG];show sm k (λl=>d*(A i l*X l j))+d*(A i k*X k j)=_;rw[n,<-Bf,zff d];congr 1;refine aF λl a=>?_;let:=h l j a;grind
 refine#[λi j=>if i<k+1 then X i j else W k k*A i j-sm (k+1) (λl=>A i l*X l j),λi j q=>?_,λj=>?_,p,b.OO.symm,λi j c=>?_,λi j c=>?_];dsimp only;by_cases z:i<k+1;rw[zad z];exact h i j ();rw[zab z,Int.mul_sub,S];let g:=b.lo i j ();let o:=b.lo i k ();grind;dsimp only;rw[zad<|zbq k];exact n j;let e:sm (k+1) (λl=>A i l*(if l<k+1 then X l j else W k k*A l j-sm (k+1) (λm=>A l m*X m j)))=sm (k+1) (λl=>A i l*X l j):=aF λl a=>by rw[zad a]
 rw[e];refine Mj b.ne ?_;rw[S];by_cases z:i=k;subst z;let g:=b.lo i j<|zai _;let o:=b.lo i i<|zai _;grind;let g:=b.up i j ();let o:=b.up i k ();grind;let e:sm (k+1) (λl=>A i l*(if l<k+1 then X l j else W k k*A l j-sm (k+1) (λm=>A l m*X m j)))=sm (k+1) (λl=>A i l*X l j):=aF λl a=>by rw[zad a]
 rw[e,zab ()]
theorem DO{n:Nat}{A:Mx}{v:Nat->Int}(h:∀i,i<n->sm n (λl=>v l*A i l)=0){c:Nat}(a:c<n):v c*det n A=0:=by
 let e:det n (cl A c λi=>sm n λl=>v l*A i l)=0:=by rw[<-qN a];refine aL λi j b _=>?_;unfold cl;split;exact h i b;rfl
 rw[lC A (λl i=>v l*A i l) a,cJ a λl d z=>?_,eU _ _ a,eW]at e;exact e;erw[eU _ _ a,dP () a z λj _=>by rw[bF,cP _ _ z],zbD _]
theorem K0{n:Nat}{A:Mx}(b:det n A≠0){v:Nat->Int}(h:∀i,i<n->sm n (λl=>v l*A i l)=0){c:Nat}(a:c<n):v c=0:=
 (Int.mul_eq_zero.mp<|DO h a).resolve_right b
theorem Ba.stuck(b:Ba k A W d)(f:k<m)(h:∀i,k<=i->i<n->W i k=0):∀i,i<n->sm m (λl=>(if l<k then W l k else if l=k then-d else 0)*A i l)=0:=by
 ext i o;let a:∀m,k<m->sm m (λl=>(if l<k then W l k else if l=k then-d else 0)*A i l)=sm k (λl=>A i l*W l k)-d*A i k:=λm=>by
  induction m with
  | zero=>intro z;lia
  | succ m j=>
   ext z;show sm m _+_=_;dsimp only;by_cases e:m=k;subst e;rw[zab (),zad rfl,aF (g:=λl=>A i l*W l m) λl c=>by erw[zad c,zcp _ _]];grind;rw[j (),zab (),zab e];lia
 rw[a m f];by_cases z:i<k;rw[b.up i k z];lia;let:=b.lo i k ();rw[h i () o]at this;lia
theorem Ba.done(b:Ba n A W d)(a:c<n)(h:j<n):W c j=if c=j then d else 0:=by
 let f:det n A≠0:=λz=>b.ne<|b.dt.trans z;let:=K0 f (v:=λl=>W l j-if l=j then d else 0) (λi g=>?_) a;lia;let e:sm n (λl=>(W l j-if l=j then d else 0)*A i l)=sm n (λl=>A i l*W l j)-sm n (λl=>(if l=j then d else 0)*A i l):=by erw[<-rF,aF λl _=>by rw[Int.sub_mul,zcp<|W l j]]
 rw[e,<-b.up i j g,cJ h λl _ z=>by erw[zab z,zed _],zad rfl];lia
theorem wD{B:Nat}{f:Nat->Int}:∀{n:Nat},(∀i,i<n->(f i).natAbs<=B)->(sm n f).natAbs<=n*B
 | 0,_=>by simp[sm]
 | n+1,h=>by let b:=wD λi a=>h i<|zbo a;let c:=h n<|zbq n;let d:=Int.natAbs_add_le (sm n f)<|f n;show(sm n f+f n).natAbs<=_;rw[zeB];lia
theorem F4:∀j,(sg j).natAbs=1
 | 0=>rfl
 | j+1=>by show(- sg j).natAbs=1;erw[zeP,F4 j]
theorem je{M:Nat}:∀{n:Nat} {A:Mx},(∀i j,i<n->j<n->(A i j).natAbs<=M)->(det n A).natAbs<=(n*M) ^ n
 | 0,_,_=>by simp[det]
 | n+1,A,h=>by
  rw[aY];let:=wD (f:=λj=>sg j*A 0 j*det n (mi A j)) λj b=>by erw[zbG,zbG,F4,zfb,zbU (h 0 j () b)<|je λi l c a=>h _ _ ()<|lS a]
  refine zaI this ?_;erw[<-Nat.mul_assoc,Nat.pow_succ,zcK,zbV _<|zbZ (zbV _<|zdy n) n]
theorem Ba.cr(b:Ba k A W d)(f:i<k)(j:Nat):W i j=det k (cl A i λl=>A l j):=by
 refine Mj b.ne ?_;rw[<-eU d _ f];let e:det k (cl A i λl=>d*A l j)=det k (cl A i λl=>sm k λm=>W m j*A l m):=aL λa c h _=>by unfold cl;split;dsimp only;rw[b.up a j h];exact aF λl _=>zcp _ _;rfl
 rw[e,lC A (λm l=>W m j*A l m) f,cJ f λl g z=>?_,eU _ _ f,eW,<-b.dt];exact zcp _ _;erw[eU _ _ f,dP g f z λj _=>by rw[bF,cP _ _ z],zbD _]
theorem Ba.bound(b:Ba k A W d)(q:1<=M)(h:∀i j,(A i j).natAbs<=M)(i j:Nat):(W i j).natAbs<=((k+1)*M) ^ (k+1):=by
 let f:∀l j,l<k->(W l j).natAbs<=(k*M) ^ k:=λl j e=>by rw[b.cr e j];refine je λa c _ _=>?_;unfold cl;split;exact h _ _;exact h _ _
 let g:(k*M) ^ k<=((k+1)*M) ^ k:=zbZ (zbV _<|zdy k) k;let r:=zaI q<|zbY _<|Nat.succ_pos k;by_cases z:i<k;refine zaI (f i j z)<|zaI g ?_;rw[Nat.pow_succ];exact zde _ r;rw[b.lo i j ()];let m:(d*A i j).natAbs<=(k*M) ^ k*M:=by rw[zbG];refine zbU ?_<|h i j;erw[b.dt,je λa c _ _=>h a c]
 let o:=wD λl e=>by erw[zbG,zbU (h i l)<|f l j e]
 let n:(d*A i j-sm k λl=>A i l*W l j).natAbs<=(d*A i j).natAbs+(sm k λl=>A i l*W l j).natAbs:=();let p:(k*M) ^ k*M+k*(M*(k*M) ^ k)=(k+1)*M*(k*M) ^ k:=by rw[zcK ((k*M) ^ k) M,zeq,zeq,zfb,Nat.mul_assoc k M];lia
 rw[Nat.pow_succ,zcK<|((k+1)*M) ^ k];refine zaI n<|zaI (Nat.add_le_add m o) ?_;erw[p,zdE _ g]
theorem Ba.B5(b:Ba k A W d)(h:∀i j,(A i j).natAbs<=M):d.natAbs<=(k*M) ^ k:=by erw[b.dt,je λa c _ _=>h a c]
noncomputable def sn:Nat->(Nat->Nat)->Nat
 | 0,_=>0
 | n+1,f=>sn n f+f n
theorem great(u:Nat->Int):∀{n:Nat},0<n->∃m,m<n/\∀l,l<n->(u l).natAbs<=(u m).natAbs
 | 1,_=>#[0,(),λl a=>by erw[show l=0 by lia,zai _]]
 | n+2,_=>by let#[m,b,h]:=great u (n:=n+1) ();by_cases z:(u m).natAbs<=(u<|n+1).natAbs;exact#[n+1,(),λl a=>by by_cases y:l=n+1;rw[y];exact zai _;exact zaI (h l ()) z];exact#[m,(),λl a=>by by_cases y:l=n+1;rw[y];lia;exact h l ()]
noncomputable def mx(L:cp):Mx:=λi j=>(L.getD i []).getD j 0
structure j4(L:cp)(n m:Nat):Prop where
 len:L.z=n
 row:∀l∈L,l.z=m
theorem jT(h:L[i]?=some l)(j:Nat):mx L i j=l.getD j 0:=by
 unfold mx;let e:L.getD i []=l:=by rw[zak,h];rfl
 rw[e]
theorem Kh(h:L.z<=i)(j:Nat):mx L i j=0:=by
 unfold mx;let e:L.getD i []=[]:=by rw[zak,zbO h];rfl
 rw[e];rfl
theorem getD_none{l:b9}{j:Nat}(h:l.z<=j):l.getD j 0=0:=by rw[zak,zbO h];rfl
theorem j4.at(r:j4 L n m)(a:i<n):∃l,L[i]?=some l/\l.z=m:=by
 let h:i<L.z:=by erw[r.len,a]
 exact#[L[i],by simp[h],r.row _<|zbL h]
theorem j4.out(r:j4 L n m)(h:n<=i\/m<=j):mx L i j=0:=by by_cases z:i<n;let#[l,a,e]:=r.at z;rw[jT a];exact getD_none ();exact Kh (by rw[r.len];lia) j
theorem pL(h:L[i]?=some l)(a:l[j]?=some x):mx L i j=x:=by rw[jT h,zak,a];rfl
noncomputable def O9(n m:Nat)(A:Mx)(u:Nat->Int):Prop:=∀i,i<n->sm m (λl=>u l*A i l)=0
theorem Ku(g:k<r)(d:r<n)(u:Nat->Int):O9 n m (rl A k λj=>A k j+A r j) u↔O9 n m A u:=by
 let b:∀i,i≠k->sm m (λl=>u l*rl A k (λj=>A k j+A r j) i l)=sm m (λl=>u l*A i l):=λi z=>aF λl _=>by rw[jR _ _ z]
 let c:sm m (λl=>u l*rl A k (λj=>A k j+A r j) k l)=sm m (λl=>u l*A k l)+sm m (λl=>u l*A r l):=by rw[<-kd];exact aF λl _=>by erw[f9,Int.mul_add _ _ _]
 constructor;ext h i a;by_cases z:i=k;subst z;let e:=h i a;let f:=h r d;rw[c]at e;rw[b r ()]at f;lia;rw[<-b i z];exact h i a;ext h i a;by_cases z:i=k;subst z;rw[c,h i a,h r d];rfl;erw[b i z,h i a]
structure Cd(n m M k t:Nat)(A0 W:Mx)(d:Int)(A:Mx):Prop where
 ba:Ba k A W d
 b2:∀i j,(A i j).natAbs<=2*M
 b1:∀i j,t<=i->(A i j).natAbs<=M
 Nw:∀u,O9 n m A u↔O9 n m A0 u
 dt:∀f:(Mx->Int),(∀(B:Mx) (c r:Nat),c<r->r<n->f (rl B c λj=>B c j+B r j)=f B)->f A=f A0
theorem Cd.start(h:∀i j,(A i j).natAbs<=M):Cd n m M 0 0 A A 1 A:=#[Ba.start A,λi j=>by let:=h i j;lia,λi j _=>h i j,λ_=>Iff.rfl,λ_ _=>rfl]
theorem Cd.weak(c:Cd n m M k k A0 W d A):Cd n m M k (k+1) A0 W d A:=#[c.ba,c.b2,λi j a=>c.b1 i j (),c.Nw,c.dt]
theorem Cd.led(c:Cd n m M k k A0 W d A)(a:k<r)(b:r<n):Cd n m M k (k+1) A0 (rl W k λj=>W k j+W r j) d (rl A k λj=>A k j+A r j) where
 ba:=c.ba.led a
 b2:=λi j=>by by_cases z:i=k;subst z;rw[f9];let g:=c.b1 i j<|zai _;let h:=c.b1 r j ();lia;erw[jR _ _ z,c.b2 i j]
 b1:=λi j l=>by erw[jR _ _ (),c.b1 i j ()]
 Nw:=λu=>(Ku a b u).trans<|c.Nw u
 dt:=λf e=>(e A k r a b).trans<|c.dt f e
theorem Cd.same(c:Cd n m M k t A0 W d A)(h:W=W'):Cd n m M k t A0 W' d A:=h▸c
structure Vt(L L':cp)(n m k:Nat)(d:Int):Prop where
 Gj:j4 L' n m
 own:∀j,j<m->mx L' k j=mx L k j
 row:∀i j,i<n->i≠k->j<m->mx L' i j=(mx L k k*mx L i j-mx L i k*mx L k j).fdiv d
theorem Cd.next(c:Cd n m M k (k+1) A0 (mx L) d A)(r:j4 L n m)(s:k<n)(q:mx L k k≠0)(h:Vt L L' n m k d):Cd n m M (k+1) (k+1) A0 (mx L') (mx L k k) A:=by
 let#[o,f,g,b]:=c.ba.step q;let e:o=mx L':=by funext i j;by_cases l:j<m;by_cases a:i=k;subst a;rw[g,h.own j l];by_cases p:i<n;rw[h.row i j p a l,<-f i j a,zcc _ c.ba.ne];let:=f i j a;rw[r.out (j:=j)<|.inl (),r.out (i:=i) (j:=k)<|.inl ()]at this;rw[h.Gj.out<|.inl ()];refine Mj c.ba.ne ?_;rw[this];lia;rw[h.Gj.out<|.inr ()];by_cases a:i=k;subst a;rw[g];exact r.out<|.inr ();let:=f i j a;rw[r.out (j:=j)<|.inr (),r.out (j:=j)<|.inr ()]at this;refine Mj c.ba.ne ?_;rw[this];lia
 erw[<-e,#[b,c.b2,c.b1,c.Nw,c.dt]]
theorem Cd.bound(c:Cd n m M k t A0 W d A)(a:1<=M)(i j:Nat):(W i j).natAbs<=((k+1)*(2*M)) ^ (k+1):=c.ba.bound () c.b2 i j
theorem Cd.SK(c:Cd n m M k t A0 W d A)(b:1<=M)(a:k<=n)(i j:Nat):(W i j).natAbs<=((n+1)*(2*M)) ^ (n+1):=by refine zaI (c.bound b i j) ?_;refine zaI (zbZ (zbV _<|Nat.succ_le_succ a) _) ?_;exact zbK (Nat.mul_pos () ()) ()
theorem Cd.U7(c:Cd n m M k t A0 W d A)(b:1<=M)(a:k<=n):d.natAbs<=((n+1)*(2*M)) ^ (n+1):=by refine zaI (c.ba.B5 c.b2) ?_;refine zaI (zbZ (zbV _<|zeZ a) _) ?_;exact zbK (Nat.mul_pos () ()) ()
theorem By(a:k<L.z):mx (L.set k v)=rl (mx L) k λj=>v.getD j 0:=by
 funext i j;unfold rl;by_cases z:i=k;subst z;rw[zad rfl,jT<|getElem?_set_self a];rw[zab z];unfold mx;let e:(L.set k v).getD i []=L.getD i []:=by rw[zak,zak,zdK<|λw=>z w.symm]
 rw[e]
theorem Jr{a b:b9}(h:a.z=b.z)(j:Nat):(List.zipWith (·+·) a b).getD j 0=a.getD j 0+b.getD j 0:=by
 rw[zak,zak,zak,getElem?_zipWith];by_cases z:j<a.z;let:j<b.z:=();simp[z,this];rw[zbO (),zbO ()];rfl
noncomputable def Led(L c:cp)(n k:Nat):Prop:=(c=L/\mx L k k≠0)\/(mx L k k=0/\∃(r:Nat) (a b:b9),k<r/\r<n/\L[k]?=some a/\L[r]?=some b/\mx L r k≠0/\c=L.set k (List.zipWith (·+·) a b))
theorem Cd.TH(c:Cd n m M k k A0 (mx L) d A)(r:j4 L n m)(t:k<n)(h:Led L L' n k):j4 L' n m/\mx L' k k≠0/\∃s,Cd n m M k (k+1) A0 (mx L') d s:=by
 ext(⟨rfl,f⟩|⟨f,q,a,b,o,u,i,g,w,rfl⟩:h);exact#[r,f,A,c.weak];let v:=r.row a<|zah i;let lb:=r.row b<|zah g;let e:mx (L.set k<|List.zipWith (·+·) a b)=rl (mx L) k λj=>mx L k j+mx L q j:=by rw[By<|by erw[r.len,t]];congr 1;funext j;rw[Jr (),jT i,jT g]
 refine#[#[by erw[zbN,r.len],λl p=>?_],?_,_,(c.led o u).same e.symm];ext(z|rfl:zer p);exact r.row l z;rw[zeV];lia;rw[e,f9,f];lia
end Dt
namespace Gm
open PySem L2
theorem pA{k:Nat}(h:k<=xs.z):mJ xs (some (k:Int)) none=xs.drop k:=by unfold mJ HT.vg;dsimp only;rw[zab (),show min ((k:Int).toNat) xs.z=k by lia,zcE<|by rw[zbF];lia]
theorem jg{k:Nat}(h:k<=xs.z):mJ xs none (some (k:Int))=xs.take k:=by unfold mJ HT.vg;dsimp only;rw[zab (),show min ((k:Int).toNat) xs.z=k by lia,drop_zero,zeE]
theorem aO.dropped(g:aO H p as L)(k:Nat)(d:H q=none):aO (upd H q<|.lst<|(as.drop k).d) q (as.drop k)<|L.drop k:=
 #[ah,by rw[zbF,zbF,g.len],λi a l b c=>by rw[getElem?_drop]at b c;let:=g.row _ a l b c;erw[aG (λz=>by rw[z,d]at this;cases this),this]]
theorem aO.taken(g:aO H p as L)(k:Nat)(d:H q=none):aO (upd H q<|.lst<|(as.take k).d) q (as.take k)<|L.take k:=
 #[ah,by rw[zbb,zbb,g.len],λi a l b c=>by rw[getElem?_take]at b c;split at b;rename_i z;rw[zad z]at c;let:=g.row _ a l b c;rw[aG<|λz=>by rw[z,d]at this;cases this];exact this;cases b]
theorem aO.one(h:H a=some (.lst l.c))(f:H q=none):aO (upd H q<|.lst [.ref a]) q [a] [l]:=
 #[ah,rfl,λi b k c d=>by
  let e:i=0:=by let:=(zac.mp c).1;rw[zbl]at this;lia
  subst e;cases c;cases d;erw[aG (λz=>by rw[z,f]at h;cases h),h]]
theorem wV(b:σ[i]?=some (a.e))(e:σ[k]?=some (n.h))(c:aK K H a xs)(d:n+1<=xs.z)(q:∀p,H p=none->Q (.ref p) (upd H p<|.lst<|xs.drop<|n+1)) :
  IZ (wY K) (eX i) (rh<|Cm (Fm λi j=>V.int<|i+j) (eX k)<|tC<|.int 1) gJ σ H Q:=
 #[_,b,#[_,e,#[_,_,rfl,rfl,#[_,rfl,#[a,_,rfl,c,λp f=>by erw[show(n:Int)+1=((n+1:Nat):Int)from rfl,pA d,q p f]]]]]]
theorem CK(b:σ[i]?=some (a.e))(e:σ[k]?=some (n.h))(c:aK K H a xs)(d:n<=xs.z)(q:∀p,H p=none->Q (.ref p) (upd H p<|.lst<|xs.take n)) :
  IZ (wY K) (eX i) gJ (rh<|eX k) σ H Q:=#[_,b,#[_,e,#[_,rfl,#[a,_,rfl,c,λp f=>by erw[jg d,q p f]]]]]
theorem int_at{l:b9}{i:Nat}{x:V}(h:l.c[i]?=some x):∃y,l[i]?=some y/\x=V.int y:=by
 rw[zao]at h;cases e:l[i]? with
 | none=>rw[e]at h;cases h
 | some z=>rw[e]at h;exact#[z,rfl,(zaq h).symm]
theorem rT{l:bp}{i:Nat}{x:V}(h:l.d[i]?=some x):∃y,l[i]?=some y/\x=V.ref y:=by
 rw[zao]at h;cases e:l[i]? with
 | none=>rw[e]at h;cases h
 | some z=>rw[e]at h;exact#[z,rfl,(zaq h).symm]
theorem yF{f:Int->Int->Int}{i:Nat}{x y:Int}(c:a[i]?=some x)(d:b[i]?=some y):(List.zipWith f a b).take (i+1)=(List.zipWith f a b).take i++[f x y]:=by rw[zeI,getElem?_zipWith,c,d];rfl
theorem vd{L:cp}{c:Nat}{v:b9}(h:c<L.z):L.take c++[v]++L.drop (c+1)=L.set c v:=by rw[set_eq_take_append_cons_drop,zad h];simp
structure Fq(z:Nat)(fs:List<|Int×Int):Prop where
 pos:∀f∈fs,0<f.2
 top:∀f∈fs,Sz z f.1
 bot:∀f∈fs,Sz z f.2
structure Wh(fs:List<|Int×Int)(b:Int)(l:b9):Prop where
 pos:0<b
 len:l.z=fs.z
 eq:∀(i:Nat) (f:Int×Int) (x:Int),fs[i]?=some f->l[i]?=some x->x*f.2=f.1*b
theorem Hz(h:0<b)(d:0<u):0<b / ((Int.gcd b u:Nat):Int)*u/\b ∣ b / ((Int.gcd b u:Nat):Int)*u/\u ∣ b / ((Int.gcd b u:Nat):Int)*u/\(b / ((Int.gcd b u:Nat):Int)*u).natAbs<=b.natAbs*u.natAbs:=by
 let i:=Fr.qM b (show u≠0 by lia);let#[x,a]:=Fr.vH b u;let#[y,f]:=Fr.vG b u;let j:0<((Int.gcd b u:Nat):Int):=();generalize ((Int.gcd b u:Nat):Int)=g at *;let e:b / g=x:=by erw[a,Int.mul_ediv_cancel_left _ ()]
 let c:0<x:=by by_cases z:0<x;exact z;let:=Int.mul_nonpos_of_nonneg_of_nonpos (show 0<=g by lia) (show x<=0 by lia);lia
 rw[e];refine#[Int.mul_pos c d,#[y,?_],#[x,zcp _ _],?_];rw[f];let:g*x*y=x*(g*y):=by grind
 rw[a,this];rw[zbG];refine zbV _ ?_;let:b.natAbs=g.natAbs*x.natAbs:=by rw[<-zbG,<-a]
 erw[this,zbY _ ()]
theorem zf{R:Hp->Prop}{d:Addr}{n:Nat}{L:TE}{rest:List<|Option V}{H:Hp}(f:Nat->b9)(Q:∀(i:Nat) (h:Hp) (u:VK),i<n->ai H h->(∀c t,ai h t->h c=none->t c=some (.lst<|(f i).c)->u (.ref c) t)->L (i.h::rest) h u)(F:H d=none)(hn:n<=1000)(q:∀cs h,ai H h->aO h d cs ((List.range n).map f)->(d::cs).Nodup->(∀b∈d::cs,H b=none)->R h) :
  ∃W:Nat->Nat->St->List V->Hp->Prop,(∃m,W 0 m (none::rest) []<|upd H d<|.lst [])/\∀i m e ys j,W i m e ys j->(((Fc 0 n).stop i j/\R j)\/((Fc 0 n).go i j/\∀x N,(Fc 0 n).A6 i j x N->jU 0 x e N λg r=>qZ g r λb G=>
   if b=true then L g G λy I=>I d=some (.lst ys)/\ys.z<sizeLine/\∃k,k<m/\W (i+1) k g (ys++[y]) (upd I d<|.lst<|ys++[y])else ∃k,k<m/\W (i+1) k g ys G)):=by
 refine dJ (λi e ys o=>∃(bs:bp) (v:Option V),e=v::rest/\ys=bs.d/\ai H o/\bs.z=i/\aO o d bs ((List.range i).map f)/\(d::bs).Nodup/\∀b∈d::bs,H b=none)
  #[[],none,rfl,rfl,ai.upd F,rfl,#[ah,rfl,λi a l z=>by simp at z],by simp,by simpa using F] ?_ ?_
 ext i e ys o K ⟨bs,v,rfl,rfl,s,rfl,D,B,p⟩;refine dm ?_;refine mq ?_;refine LN ?_;rw[zbk];refine Q bs.z o _ K s λc Z A M P=>?_;let C:=D.fQ M;let O:=s.free M;let w:=D.same A;let E:c≠d:=λz=>C<|z▸zal;refine#[w.top,by erw[zaa,aI ()],cZ K #[bs++[c],_,rfl,by simp,ai.fresh (s.trans A)<|p _ zal,by simp,?_,?_,λy S=>?_]];rw[zcm,zaw];exact w.snoc (zar.mp B).1 E P;let#[n1,n2]:=zar.mp B;refine zar.mpr #[λz=>?_,gu.mpr #[λz=>C<|zag _ z,n2]];ext(z|z:zam.mp z);exact n1 z;exact E (zaj.mp z).symm;ext(z|z:zas.mp S);rw[z];exact p _ zal;ext(z|z:zam.mp z);exact p y<|zag _ z;rw[zaj.mp z];exact O;ext e ys r ⟨cs,v,rfl,rfl,U,UD,X,Y,T⟩;exact q cs r U X Y T
noncomputable def nI(cs:List Nat):b9:=cs.map λc:Nat=>(c:Int)
theorem aO.two(h:H a=some (.lst l.c))(k:H b=some (.lst m.c))(f:H q=none):aO (upd H q<|.lst [.ref a,.ref b]) q [a,b] [l,m]:=by
 let n:a≠q:=λz=>by rw[z,f]at h;cases h
 let g:b≠q:=λz=>by rw[z,f]at k;cases k
 refine#[ah,rfl,λi c r d e=>?_]
 match i with
 | 0=>simp at d e;subst d e;erw[aG n,h]
 | 1=>simp at d e;subst d e;erw[aG g,k]
 | (j+2)=>simp at d
theorem vW(h:k<=r.z):c5 r k=cD r k r.z:=by
 by_cases z:k=r.z;subst z;unfold c5 cD;rw[drop_length,zeM,zbp];refine zcr A? λi a c=>?_;rw[zcB,zcz,bP (show(r.z+i)%r.z=i%r.z by rw[zdi,zaz]),fI a];let b:k<r.z:=();refine zcr (by rw[c8 h,bu]) λi a c=>?_;rw[c8 h]at a;let e:=iV b i;rw[fI<|by erw[c8 h,a]]at e;rw[e];let w:=oz (r:=r) (s:=k) a;rw[zaf<|by erw[bu,a]]at w;rw[zaq w,zdi]
theorem yH(h:k<=m):(cD r s m).take k=cD r s k:=by unfold cD;rw[<-zdH,take_range,Nat.min_eq_left h]
theorem FA(h:k<=m):(cD r s m).drop k=cD r (s+k) (m-k):=by refine zeC λi=>?_;rw[getElem?_drop];by_cases z:i<m-k;rw[oz z,oz (),zek];rw[zbO (by rw[bu];lia),zbO<|by rw[bu];lia]
theorem qT:cD r s (m+1)=cD r s m++[cy r<|s+m]:=by unfold cD;rw[zcm,zaw];rfl
noncomputable def Ja(a:List<|ak×Addr)(b:Int):b9:=((a.map (·.1)).filter λd=>decide<|d.1=b).map (·.2)
theorem Kj:x∈Ja ks pl↔(pl,x)∈ks.map (·.1):=by unfold Ja;constructor;ext h;let#[d,b,e]:=zap.mp h;let#[c,a]:=zdJ.mp b;let a:=zeY a;rw[<-a,<-e];exact c;ext h;exact zap.mpr #[(pl,x),zdJ.mpr #[h,zaV rfl],rfl]
theorem Aq{G E M:Nat}{c:Int}(w:CD H gd L R ks)(h0:H0 gd=none)(Y:σ[G]?=some (gd.e))(X:σ[E]?=some (c.f))(W:0<=c)(Q:c<L.z)(U:XS L c≠[])(hl:ks.z<=5000)(q:∀m O,m∈XS L c->(∀x∈XS L c,m<=x)->ai H O->D.nx (σ.set M<|m.f) O) :
  FN H0 (FT (Pq (LH K)<|j7 (pG (BH<|eX G) (KN K 2<|DB (jU 0)<|DB (jU 1) N9) (FO<|Cm Td (eX 0)<|eX 2) (eX 1) 2 [E]) yN)<|jU M) D σ H:=by
 let g:∀x,x∈Ja ks c↔x∈XS L c:=λx=>by erw[Kj,w.mem,#[λh=>h.mem,λh=>#[W,Q,h]]]
 refine MT<|cB<|i5<|aJ<|cA<|GB<|dy Y #[gd,kC ks,rfl,w.top,λo=>?_];ext n y;let I:∀b u,b≠gd->H b=some u->upd H gd (.lA o<|.dT<|kC ks) b=some u:=λb u Z e=>by erw[aG Z,e]
 let f0:upd H gd (.lA o<|.dT<|kC ks) gd=some (.lA o<|.dT<|kC ks):=ah;generalize upd H gd (.lA o<|.dT<|kC ks)=S at I f0 y ⊢;let bs:iI 2 [E] σ=[none,none,c.f]:=by unfold iI;simp[X]
 rw[bs];refine B6 (λi f ys p=>∃C t:Option V,f=[C,t,c.f]/\ys=(Ja (ks.take i) c).c/\ai S p/\p n=some (.lst ys)) #[none,none,rfl,rfl,ai.upd y,ah] (λi f ys p _ ⟨_,_,_,_,e,_⟩=>e _ _ f0) ?_ ?_;ext i k v b f ys p j l F ⟨C,t,rfl,rfl,s,r⟩;rw[sQ]at F;obtain⟨d,a,T,rfl⟩:∃d a,ks[i]?=some (d,a)/\k=fL d:=by
  unfold kC at j;rw[zao]at j;cases e:ks[i]? with
  | none=>rw[e]at j;cases j
  | some z=>rw[e]at j;cases j;exact#[z.1,z.2,rfl,rfl]
 let N:=take_snoc T;let nl:(Ja (ks.take i) c).z<=i:=by unfold Ja;rw[zaa];refine zaI (length_filter_le _ _) ?_;rw[zaa,zbb];lia
 refine fE (SqT.of l) rfl ?_;refine gK<|dm<|gK<|dm<|oO ?_;refine oM<|di<|dy rfl<|dy rfl<|CM ?_;refine#[_,rfl,?_];by_cases z:d.1=c;rw[zaV z];refine LN<|dy rfl ?_;refine#[r,by rw[zaa,zat];lia,cZ (by erw[sQ,F]) #[_,_,rfl,?_,ai.fresh s y,ah]];rw[N];unfold Ja;rw[zaw,filter_append,zaw,zaw,zdG,zdg,zad<|zaV z];rfl;rw[zaQ z];refine Se<|cZ (by erw[sQ,F]) #[_,_,rfl,?_,s,r];rw[N];unfold Ja;rw[zaw,filter_append,zaw,zaw,zdG,zdg,zab<|by simpa using z];simp;ext f ys p ⟨C,t,rfl,rfl,s,r⟩;rw[sQ,zbp]at r;refine bj #[n,Ja ks c,rfl,aK.of r,λz=>?_,λm P B=>?_];let#[x,A]:=exists_mem_of_ne_nil _ U;let:=(g x).mpr A;rw[z]at this;cases this;refine dm #[gd,o,kC ks,s _ _ f0,(λo' u'=>by erw[h0,λz=>nomatch z]),?_];refine q m _ ((g m).mp P) (λx A=>B x<|(g x).mpr A) λb u l=>?_;by_cases z:b=gd;subst z;rw[w.top]at l;rw[ah];exact l;erw[aG z,s _ _<|I b u z l]
theorem behind(b:av L){p:Int}(i:0<=p)(k:p<L.z){c:Int}{j:Nat}(h:Dt L (c,p))(e:nx L (c,p)=(p,cy (XS L p) j)):c=cy (XS L p) (j+1):=by let a:=b.nd _ _<|aD i k;let f:=(h.back b).2.2.2;let d:=zcl f;let g:=zaA Prod.snd e;exact qw a f (eL d)<|g.trans (fW a d j).symm
noncomputable def gj(L R:cp)(b:Int)(a m:Nat):b9:=(List.range m).map λu=>lo R (b,cy (XS L b)<|a+u)
theorem FH(i:fN L R)(f:av L){b:Int}(g:0<=b)(b1:b<L.z){a:Nat}(k:a<(XS L b).z):dR (gj L R b a (XS L b).z)<|rd L R b:=by
 let c:0<(XS L b).z:=();let h:=f.nd _ _<|aD g b1;let rl:(rd L R b).z=(XS L b).z:=zaa _;let d:∀j,lo R (b,cy (XS L b) j)=cy (rd L R b) (j+1):=λj=>by
  let bk:=fc f g b1<|eL (j:=j+1) c;let dt:Dt L (cy (XS L b)<|j+1,b):=#[bk.1,bk.2.1,bk.2.2.2];let e:nx L (cy (XS L b)<|j+1,b)=(b,cy (XS L b) j):=by show(b,pre (XS L b)<|cy (XS L b)<|j+1)=_;rw[fW h c]
  rw[<-e,Hr i dt];unfold rd;rw[tI _ c]
 let w:gj L R b a (XS L b).z=cD (rd L R b) (a+1) (rd L R b).z:=by unfold gj cD;rw[rl];refine zbS λu _=>?_;rw[d,show a+u+1=a+1+u by lia]
 rw[w,<-vW ()];by_cases z:a+1<(rd L R b).z;exact .inr #[a+1,z,rfl];left;unfold c5;rw[show a+1=(rd L R b).z by lia,drop_length,zbp,zeM]
theorem da.turned(t:da L)(f:fN L R)(g:R'.z=L.z)(h:∀(b:Nat) (q:b9),R'[b]?=some q->dR q (rd L R (b:Int))):TR R' R.z:=by
 let D:=t.Fi.Xp t.cq t.pW t.four f;let dt:=t.Ol f;let e:((List.range L.z).map λb:Nat=>sh 0<|rd L R (b:Int))=((List.range L.z).map λb:Nat=>rd L R (b:Int)).map (sh 0):=by rw[zdw];rfl
 let d:=D.dec;rw[e]at d;let k:=d.MQ dt.map;refine#[Du R,dt,k.S6 (by rw[g,zaa,zbx]) λi q r c a=>?_,eK];rw[zao]at a;let j:i<L.z:=by let:=(zac.mp c).1;lia
 rw[zce j]at a;cases a;exact h i q c
theorem Hi(h:tO n l)(t:j<l.z)(A:k<l.z):tO n<|(l.set k l[j]).set j l[k]:=by
 let d:((l.set k l[j]).set j l[k]).z=l.z:=by rw[zbN,zbN]
 let c:∀i (f:i<((l.set k l[j]).set j l[k]).z),∃u,∃g:u<l.z,((l.set k l[j]).set j l[k])[i]=l[u]/\u=(if i=j then k else if i=k then j else i):=λi f=>by rw[d]at f;by_cases z:i=j;subst z;exact#[k,A,by rw[getElem_set_self],by rw[zad rfl]];by_cases y:i=k;subst y;exact#[j,t,by rw[getElem_set_ne<|zaZ z,getElem_set_self],by rw[zab z,zad rfl]];exact#[i,f,by rw[getElem_set_ne<|zaZ z,getElem_set_ne<|zaZ y],by rw[zab z,zab y]]
 refine#[by erw[d,h.len],zbe.mpr λa b r q C e=>?_,λx p=>?_];let#[u,g,m,s]:=c a r;let#[v,o,w,B]:=c b q;rw[m,w]at e;let:u=v:=by ext(z|z|z:zcF u v);exact absurd e<|zbe.mp h.nd u v g o z;exact z;exact absurd e.symm<|zbe.mp h.nd v u o g z
 rw[s,B]at this;split at this<;>split at this<;>(try split at this)<;>(try split at this)<;>lia;let#[i,f,e]:=zaH.mp p;let#[u,g,m,_]:=c i f;erw[<-e,m,h.rg _<|zbL g]
theorem Ga{K:zcT}{R:Hp->Prop}{d p:Addr}{as:bp}{L:cp}{S:TE}{rest:List<|Option V}{H:Hp}(f:b9->b9)(n:aO H p as L)(QA:∀(b:Addr) (l:b9) (j:Hp) (B:VK),l∈L->ai H j->j b=some (.lst l.c)->(∀c A,ai j A->j c=none->A c=some (.lst<|(f l).c)->B (.ref c) A)->S (b.e::rest) j B)(N:H d=none)(hn:L.z<=1000)(q:∀cs j,ai H j->aO j d cs (L.map f)->(d::cs).Nodup->(∀b∈d::cs,H b=none)->R j) :
  ∃W:Nat->Nat->St->List V->Hp->Prop,(∃m,W 0 m (none::rest) []<|upd H d<|.lst [])/\∀i m g ys o,W i m g ys o->(((Fu K p).stop i o/\R o)\/((Fu K p).go i o/\∀x X,(Fu K p).A6 i o x X->jU 0 x g X λh u=>qZ h u λb O=>
   if b=true then S h O λy Q=>Q d=some (.lst ys)/\ys.z<sizeLine/\∃r,r<m/\W (i+1) r h (ys++[y]) (upd Q d<|.lst<|ys++[y])else ∃r,r<m/\W (i+1) r h ys O)):=by
 refine cU (λi g ys k=>∃(bs:bp) (v:Option V),g=v::rest/\ys=bs.d/\ai H k/\bs.z=i/\aO k d bs ((L.map f).take i)/\(d::bs).Nodup/\∀b∈d::bs,H b=none)
  #[[],none,rfl,rfl,ai.upd N,rfl,#[ah,rfl,λi a l z=>by simp at z],by simp,by simpa using N] (λi g ys k _ ⟨_,_,_,_,e,_⟩=>aK.of<|e _ _ n.top) ?_ ?_
 ext i x g ys k P w ⟨bs,v,rfl,rfl,s,rfl,I,E,t⟩;let#[b,l,Z,F,bQ]:=n.at (by rwa[zaa,n.len]at w);obtain rfl:x=V.ref b:=by rw[zao,Z]at P;exact(zaq P).symm
 let LY:=w;rw[zaa,n.len]at LY;let Zu:(L.map f)[bs.z]?=some (f l):=by rw[zao,F];rfl
 refine dm ?_;refine mq ?_;refine LN<|QA b l k _ (zah F) s (s _ _ bQ) λc Hy D T c3=>?_;let G:=I.fQ T;let Y:=s.free T;let C:=I.same D;let M:c≠d:=λz=>G<|z▸zal;refine#[C.top,by erw[zaa,aI ()],cZ w #[bs++[c],_,rfl,by simp,ai.fresh (s.trans D)<|t _ zal,by simp,?_,?_,λy hy=>?_]];rw[take_snoc Zu];exact C.snoc (zar.mp E).1 M c3;let#[n1,n2]:=zar.mp E;refine zar.mpr #[λz=>?_,gu.mpr #[λz=>G<|zag _ z,n2]];ext(z|z:zam.mp z);exact n1 z;exact M (zaj.mp z).symm;ext(z|z:zas.mp hy);rw[z];exact t _ zal;ext(z|z:zam.mp z);exact t y<|zag _ z;rw[zaj.mp z];exact Y;ext g ys u ⟨cs,v,rfl,rfl,e4,UD,U,zO,yD⟩;rw[zaa,n.len,zcE<|by erw[zaa,zai _]]at U;exact q cs u e4 U zO yD
theorem TR.named(h:TR R n)(nm:tO n l):TR (R.map<|List.map<|gF l) n:=by let#[L,t,b,rfl]:=h;let#[B,a]:=MS nm;exact#[B,t.LB b a nm,b.LB a nm t.map,a.len]
end Gm
namespace Fw
open Dt (sm)
abbrev AU:=Nat×Bool
noncomputable def bi(b:Bool):Int:=if b then 1 else 0
structure Flow where
 U:Nat->Bool
 F:Nat->Nat->Bool
noncomputable def Flow.YW(f:Flow)(n p:Nat):Int:=sm n λu=>bi<|f.F u p
noncomputable def Flow.out(f:Flow)(n p:Nat):Int:=sm n λv=>bi<|f.F p v
noncomputable def Flow.XA(f:Flow)(n:Nat):AU->Int
 | (p,false)=>f.YW n p-bi (f.U p)
 | (p,true)=>bi (f.U p)-f.out n p
noncomputable def Flow.push(f:Flow):AU->AU->Flow
 | (p,false),(q,true)=>if p=q then #[λx=>if x=p then true else f.U x,f.F]else #[f.U,λa b=>if a=q/\b=p then false else f.F a b]
 | (p,true),(q,false)=>if p=q then #[λx=>if x=p then false else f.U x,f.F]else #[f.U,λa b=>if a=p/\b=q then true else f.F a b]
 | _,_=>f
noncomputable def dl(d e:AU):Int:=if d=e then 1 else 0
structure Fl(n:Nat)(T:Nat->Nat->Prop)(a b:Nat)(i:Int)(f:Flow):Prop where
 OI:∀u v,f.F u v=true->T u v
 u1:f.U a=false
 u2:f.U b=false
 XA:∀x:AU,x.1<n->f.XA n x=i*dl x (b,false)-i*dl x (a,true)
noncomputable def rk(a:List<|AU×Option AU)(d:AU):Nat:=(a.map Prod.fst).idxOf d
end Fw
namespace Fw
open PySem L2 Gm
noncomputable def Tw(L:cp)(a b:Nat)(p q:Nat):Prop:=(∃l,L[p]?=some l/\(q:Int)∈l)/\¬((p=a/\q=b)\/(p=b/\q=a))
structure Rd(f:Flow)(a b:Nat)(rd:List Nat):Prop where
 len:2<=rd.z
 hd:rd[0]?=some a
 nd:rd.Nodup
 go:∀(j u v:Nat),rd[j]?=some u->rd[j+1]?=some v->f.F u v=true
 nb:∀j,j+1<rd.z->rd[j]?≠some b
theorem OB{l:b9}{n:Nat}{y:Int}(a:l.z=n+1)(h:l[n]?=some y):j6 l.c (-1)=some (V.int y):=by
 let e:l=l.take n++[y]:=by let:=zeI (l:=l) (i:=n);rwa[h,zcE ()]at this
 erw[e,zaw,IG _ _]
noncomputable def f0:Flow:=#[λ_=>false,λ_ _=>false]
noncomputable def lenOf(v:Option V)(H:Hp):Nat:=
 match v with
 | some (.ref c)=>(match H c with|some (.lst xs)=>xs.z|_=>0)
 | _=>0
theorem jb(h:H c=some (.lst xs)):lenOf (c.e) H=xs.z:=by unfold lenOf;dsimp only;rw[h]
end Fw
namespace Fw
open PySem L2 Gm
noncomputable def RO(L:cp)(x y:Nat):Prop:=∃l f,L[x]?=some l/\Fl L.z (Tw L x y) x y (if(y:Int)∈l then 2 else 3) f
structure J(L:cp)(al:Bool)(fw:Nat)(Dn:Nat->Nat->Prop):Prop where
 t:al=true->∀x y,Dn x y->RO L x y
 f:al=false->3<L.z->∃S'∈Bg L.z L.z,V3 L S'=true
 le:fw<=3
 sm:fw<3->∃S'∈Bg L.z L.z,S'.z=fw/\V3 L S'=true
 nb:∀x y,Dn x y->∀l,L[x]?=some l->(y:Int)∉l->RO L x y\/fw<=2
end Fw
namespace L2
open PySem PySem.Spec PySem.W PySem.Calls PyProof.Rows
abbrev newExc(C:Addr)(t:Addr):Obj:={ cls:=.ref C,data:=.fields #[.ref t,.none,.none,.none,.bool false,.none,] }
end L2
namespace L2
open PySem PySem.Spec PySem.W PySem.Calls PyProof.Rows
noncomputable def del(H:Hp)(a:Addr):Hp:=λb=>if b=a then none else H b
end L2
namespace L2
open PySem PySem.Spec PySem.W PySem.Calls PyProof.Rows
noncomputable def UI(K:Frag)(M:Addr)(c:TS)(D:Ends)(a:St):XK:=λcls _ b=>∃C,cls=.ref C/\exmOne K (.ref C) (.ref M)=some true/\c D a b
theorem IA{X:Cx}{x:Str}{M:Addr}{c:Stmt}{U:List Stmt}{N:TS}{np E:Pos}(l:Body X)(Z:X.mg x=M.e)(Y:∀a,AL (X.marked a) (c::U) N)(hg:Gl X x:=by rfl)(Ai:(x==("__debug__":Str))=false:=by decide){pins:b6}{t:St}{D:Ends}{e:Value}{k:Shared}(h:EX X pins t (UI X.K M N D t) e k) :
  wpAny (model X.prog X.w) X.A (noteFrame e X.env) (λ_ s2=>wpAny (model X.prog X.w) X.A (setFlight e none) (λ_ s3=>
   wpAny (model X.prog X.w) X.A (handleBy e X.env [.ExceptHandler (some<|.Name x np) none (c::U) E]) (SP X pins D) X.xe s3) X.xe s2) X.xe k:=by
 let#[a,cls,dx,I,s0,H0,rfl,s,F,C,rfl,hx,q]:=h;let#[B,a0,y,P,ct]:=F.ER;let R:=F.inv s;let qK:X.A.frames=some (X.env::X.outer):=by erw[<-l.wd,s.ok.frames]
 let L:AV B (lJ X.stack) X.s₀.heap:=λb o e n=>by let#[o',z]:=s.base.there b o e (by rw[l.ex];simp);exact P b o' z n
 let H:∀p∈X.pn++pins,∃Q,B.get? p.1=some Q:=λp hp=>by let#[e,nn,ne,nf,d]:=s.pin p hp;refine P _ _ e λz=>?_;ext(r|r:zas.mp<|s.mh _ z);exact ne r;exact nf r
 rw[l.wd]at y;refine wpAny_looks_onW qK l.fr y λh4 QT S=>?_;refine wpAny_landsW QT λW G O=>?_;let T:Inv X pins t I { k with heap:=W,toks:=k.toks }:=Inv.DC R l.ex y.1 G.1 L ct H<|S.trans O;let#[Q,Uc,Ub]:=G.there;let ty:Looks (model X.prog X.w) W (typeOf<|.ref a)<|.ref C:=Ub▸(Looks.ld Uc).andThen .now;refine wpAny_handleBy_cons (codeAny_handlers_test<|qH T.mark hg Z ?_ Ai) (by ext z;cases z);refine(exm_one T.vB ty hx).at ?_;refine codeAny_handlers_suite ?_;refine lands_againW G λh6 UP XI=>?_;let m:Inv X pins t I { k with heap:=h6,toks:=k.toks }:=Inv.DC R l.ex y.1 UP.1 L ct H<|(S.trans O).trans XI;refine zbn (Y a pins _ _ _ _ m.mark q) (λf s9 z=>?_) λ_ _ z=>False.elim z;cases f with
 | next=>
  let#[j,i,g,r]:=z;exact#[_,i,g.unmark m.ok,r]
 | brk=>
  let#[j,i,g,r]:=z;exact#[_,i,g.unmark m.ok,r]
 | cont=>
  let#[j,i,g,r]:=z;exact#[_,i,g.unmark m.ok,r]
 | ret u=>
  let#[v,j,i,g,rv,r]:=z;exact#[v,_,i,g.unmark m.ok,rv,r]
noncomputable def FL(K:Frag)(e:Sp)(f:TA)(i:Nat)(M:Addr)(b:TS):TS:=λD a H=>f a H λvs c=>e (vs++[]) c (λv d=>D.nx (a.set i<|some v) d)<|UI K M b D a
theorem zA{k j i:Nat}{p:Sp}{f x y:Str}{m c l g:Pos}{n:TA}{b:Stmt}{q:TS}{np P d:Pos}(h:cE X.prog X.w X.K X.mg X.base (bV X.prog X.w) f k ps p)(Y:gC j X.A)(F:PA X.Kf (e::es) n)(B:Body X)(G:X.mg x=M.e)(W:X.N.Nodup)(Z:X.N[i]?=some y)(o:X.env.scope.names.lookup y=some .local)(r:∀a,AL (X.marked a) (b::yR) q)(T:k<=j:=by decide)(Q:Gl X f:=by rfl)(NZ:(f==("__debug__":Str))=false:=by decide)(C:starEach (e::es) X.env=(false,eval e X.env)::starEach es X.env:=by rfl)(vD:(backTo c<|starEach es X.env).any (·.1)=false:=by rfl)(R:Gl X x:=by rfl)(S:(x==("__debug__":Str))=false:=by decide)(t:swapsWith (.Call (.Name f m) (e::es) [] c) (some<|.Name y g) l.line X.env=pure false:=by rfl) :
  PS X (.Try [.Assign [.Name y g] (.Call (.Name f m) (e::es) [] c) l] [.ExceptHandler (some<|.Name x np) none (b::yR) P] [] [] d) (FL X.K p n i M q):=by
 ext pins s σ H D I O;refine wpAny_Try_except ?_;refine wpAny_execs_cons<|wpAny_Assign_Name (zbn (Rz h Y F T Q NZ C vD I O) (λv s1 z=>?_) λev s1 z=>?_) t;let#[u,H1,L,U,E]:=z;exact rj L W Z (.inl o) U (λs2 I2=>zdm<|zdm #[_,H1,I2,E])<|.inr o;exact IA B G r R S z
end L2
namespace L2
open PySem PySem.Spec PySem.W PySem.Calls PyProof.Rows
structure DefIn(K:Frag)(x:Str)(st:Stmt):Prop where
 ex:∃(f:Addr) (od an:Option Addr) (sl:Array<|Option Value) (oc kV dc pm cd ct:Value),nsIn K mainGlobals x=some (f.e)/\K.lookup f=some #[oc,od,.func<|fnOf x x (gS st) (fB st) (aH st) .none kV dc pm an cd ct,sl]/\codeIn K cd x=true/\keepIn K (.ref f)=true
structure MetIn(K:Frag)(C:Addr)(x q:Str)(st:Stmt):Prop where
 ex:∃(f:Addr) (od an:Option Addr) (sl:Array<|Option Value) (oc kV dc pm cd ct:Value),findIn K (.ref C) x=some (f.e)/\K.lookup f=some #[oc,od,.func<|fnOf x q (gS st) (fB st) (aH st) .none kV dc pm an cd ct,sl]/\codeIn K cd q=true/\keepIn K (.ref f)=true/\isFn K (.ref f)=true
theorem DefIn.mk0{K:Frag}{x:Str}{st:Stmt}{f:Addr}{i j:Option Addr}{d:Array<|Option Value}{h kV g e b ct:Value}(a:nsIn K mainGlobals x=some (f.e))(l:K.lookup f=some #[h,i,.func<|fnOf x x (gS st) (fB st) (aH st) .none kV g e j b ct,d])(c:codeIn K b x=true)(k:keepIn K (.ref f)=true):DefIn K x st:=#[#[f,i,j,d,h,kV,g,e,b,ct,a,l,c,k]]
section
variable {K:Frag} {h:Heap} {mg:bx} {x q:Str} {st:Stmt} {ps:List Str} {C:Addr}
theorem DefIn.jo(d:DefIn K x st)(X:K.In h)(G:h.Ns mainGlobals mg)(j:∀(kV b g:Value) (i:Option Addr) (m ct:Value) (e:bf),e.z=ps.z->bindArgs (fnOf x x (gS st) (fB st) (aH st) .none kV b g i m ct) #[e,[]]=pure (ps.zip e)):Def K mg x st ps:=by let#[f,p,i,s,r,kV,n,g,o,ct,a,l,c,k]:=d.ex;exact#[#[f,_,BO l c k,mg_of X G a,(BO l c k).binds j]]
end
end L2
namespace Dt
open Fr Gm
noncomputable def qt(f:Int×Int):Rat:=(f.1:Rat) / (f.2:Rat)
theorem Ds{u:Int}(h:u≠0):(u:Rat)≠0:=λz=>h<|zex.mp z
theorem MW(c:b≠0)(h:Vq a b t u):qt (t,u)=(a:Rat) / (b:Rat):=by let e:=zaA (λx:Int=>(x:Rat)) h.eq;simp[zdO]at e;let d:=Ds c;let f:=Ds (show u≠0 by let:=h.pos;lia);show(t:Rat) / (u:Rat)=_;grind
noncomputable def Lw(f:Int×Int):Prop:=0<f.2/\Int.gcd f.1 f.2=1
noncomputable def sq:Nat->(Nat->Rat)->Rat
 | 0,_=>0
 | n+1,f=>sq n f+f n
theorem eY{f g:Nat->Rat}:∀{n:Nat},(∀i,i<n->f i=g i)->sq n f=sq n g
 | 0,_=>rfl
 | n+1,h=>by show sq n f+f n=sq n g+g n;rw[eY λi a=>h i<|zbo a,h n<|zbq n]
theorem wg{f:Nat->Rat}(a:Rat):∀(n:Nat),sq n (λi=>a*f i)=a*sq n f
 | 0=>by show(0:Rat)=a*0;grind
 | n+1=>by show sq n (λi=>a*f i)+a*f n=a*(sq n f+f n);rw[wg a n];grind
theorem Cq{f:Nat->Int}:∀(n:Nat),((sm n f:Int):Rat)=sq n λi=>(f i:Rat)
 | 0=>rfl
 | n+1=>by show((sm n f+f n:Int):Rat)=_+_;rw[Rat.intCast_add,Cq n]
noncomputable def fa(a:List<|Int×Int)(j:Nat):Rat:=qt<|a.getD j (0,1)
theorem L6(h:fs[j]?=some f):fa fs j=qt f:=by unfold fa;rw[zak,h];rfl
structure tS(n:Nat)(R:List<|List<|Int×Int)(gs:List<|Int×Int):Prop where
 rl:R.z=n
 gl:gs.z=n
 row:∀fs∈R,fs.z=n/\∀f∈fs,0<f.2
 goal:∀g∈gs,0<g.2
theorem Pf{b:Int}(w:Wh fs b l){i:Nat}{x:Int}(c:fs[i]?=some f)(a:l[i]?=some x)(g:0<f.2):(x:Rat)=qt f*(b:Rat):=by let e:=zaA (λx:Int=>(x:Rat))<|w.eq i f x c a;simp[zdO]at e;let d:=Ds (show f.2≠0 by lia);unfold qt;grind
noncomputable def ab(f:Int×Int):Int×Int:=((f.1.natAbs:Int),f.2)
end Dt
namespace Dt
open PySem L2 Fr Gm
noncomputable def pd:List (Int×Int)->Nat
 | []=>1
 | f::r=>f.2.natAbs*pd r
theorem vm:∀(a b:List<|Int×Int),pd (a++b)=pd a*pd b
 | [],b=>by show pd b=1*pd b;lia
 | f::a,b=>by show f.2.natAbs*pd (a++b)=f.2.natAbs*pd a*pd b;rw[vm a b,Nat.mul_assoc]
theorem M5(f:Int×Int):pd [f]=f.2.natAbs:=by show f.2.natAbs*1=_;lia
structure FG(H:Hp)(p:Addr)(as:bp)(R:List<|List<|Int×Int):Prop where
 top:H p=some (.lst as.d)
 len:as.z=R.z
 row:∀(i:Nat) (a:Addr) (fs:List<|Int×Int),as[i]?=some a->R[i]?=some fs->∃ps:bp,H a=some (.lst ps.d)/\PR H ps fs
theorem FG.same(g:FG H p as R)(e:ai H H'):FG H' p as R:=#[e _ _ g.top,g.len,λi a j b d=>by let#[c,f,h]:=g.row i a j b d;exact#[c,e _ _ f,h.same e]]
theorem FG.at(g:FG H p as R)(c:i<R.z):∃a e b,as[i]?=some a/\R[i]?=some e/\H a=some (.lst b.d)/\PR H b e:=by
 let d:i<as.z:=by erw[g.len,c]
 let#[b,f,h]:=g.row i as[i] R[i] (by simp[d]) (by simp[c]);exact#[as[i],R[i],b,by simp[d],by simp[c],f,h]
theorem PR.off(h:PR H ps fs)(c:H b=none\/H b=some (.lst vs)):PR (upd H b o) ps fs:=Paired.xt h λa x q=>by erw[aG (λz=>by rw[z]at q;ext(c|c:c);rw[c]at q;cases q;rw[c]at q;cases q),q]
theorem FG.snoc(g:FG H p as R)(o:p∉as)(j:b≠p)(h:H b=some (.lst ps.d))(pr:PR H ps fs):FG (upd H p<|.lst<|as.d++[.ref b]) p (as++[b])<|R++[fs]:=by
 refine#[by erw[zaw,ah],by rw[zay,zay,g.len];rfl,λi a f c d=>?_];by_cases z:i<as.z;rw[zaO z]at c;rw[zaO<|by erw[<-g.len,z]]at d;let#[m,l,n]:=g.row i a f c d;exact#[m,by erw[aG (λy=>by rw[y]at c;exact o<|zah c),l],PR.off n<|.inr g.top];let k:=(zac.mp c).1;rw[zay,zbl]at k;let e:i=as.z:=();subst e;rw[zaL<|zai _,zdl]at c;rw[zaL (by erw[g.len,zai _]),g.len,zdl]at d;cases c;cases d;exact#[ps,by erw[aG j,h],PR.off pr<|.inr g.top]
theorem FC{b:Int}(w:Wh fs b l)(d:∀f∈fs,0<f.2){i:Nat}{x:Int}(a:fs[i]?=some f)(c:l[i]?=some x):x.natAbs<=f.1.natAbs*b.natAbs:=by let e:=zaA Int.natAbs<|w.eq i f x a c;rw[zbG,zbG]at e;erw[<-e,zde _ (by let:=d f<|zah a;lia)]
theorem PR.set{b:Addr}{W:Int×Int}(h:H b=some (.tup [.int W.1,.int W.2])):∀{a:bp} {xs:List<|Int×Int} (k:Nat),PR H a xs->PR H (a.set k b) (xs.set k W)
 | _,_,_,.nil=>.nil
 | _,_,0,.cons r t=>.cons h t
 | _,_,k+1,.cons r t=>.cons r<|PR.set h k t
end Dt
namespace Dq
open Dt
theorem we{f:Nat->Rat}:∀{n:Nat},(∀i,i<n->f i=0)->sq n f=0
 | 0,_=>rfl
 | n+1,h=>by show sq n f+f n=0;rw[we λi a=>h i<|zbo a,h n<|zbq n];grind
theorem FX{f g:Nat->Rat}(a b:Rat):∀(n:Nat),sq n (λi=>a*f i+b*g i)=a*sq n f+b*sq n g
 | 0=>by show(0:Rat)=a*0+b*0;grind
 | n+1=>by show sq n (λi=>a*f i+b*g i)+(a*f n+b*g n)=a*(sq n f+f n)+b*(sq n g+g n);rw[FX a b n];grind
theorem FY{f g:Nat->Rat}:∀(n:Nat),sq n (λi=>f i+g i)=sq n f+sq n g
 | 0=>by show(0:Rat)=0+0;grind
 | n+1=>by show sq n (λi=>f i+g i)+(f n+g n)=(sq n f+f n)+(sq n g+g n);rw[FY n];grind
theorem FW{f:Nat->Rat}{k:Nat}:∀{n:Nat},k<n->(∀i,i<n->i≠k->f i=0)->sq n f=f k
 | n+1,hk,h=>by show sq n f+f n=f k;by_cases e:k=n;subst e;rw[we λi a=>h i (zbo a)<|zaW a];grind;rw[FW () λi a=>h i<|zbo a,h n (zbq n)<|λz=>e z.symm];grind
theorem FV{f:Nat->Rat}{k l:Nat}:∀{n:Nat},k<l->l<n->(∀i,i<n->i≠k->i≠l->f i=0)->sq n f=f k+f l
 | n+1,hk,hl,h=>by show sq n f+f n=f k+f l;by_cases e:l=n;subst e;rw[FW hk λi a z=>h i () z ()];rw[FV hk () λi a=>h i<|zbo a,h n (zbq n) () ()];grind
theorem wj(f:Nat->Rat):∀(n:Nat),sq (n+1) f=f 0+sq n (λi=>f<|i+1)
 | 0=>by show(0:Rat)+f 0=f 0+0;grind
 | n+1=>by show sq (n+1) f+f (n+1)=f 0+(sq n (λi=>f<|i+1)+f (n+1));rw[wj f n];grind
theorem Cp(f:Nat->Nat->Rat)(m:Nat):∀(n:Nat),sq n (λi=>sq m<|f i)=sq m λj=>sq n λi=>f i j
 | 0=>by rw[show sq 0 (λi=>sq m<|f i)=0 from rfl,we];ext i _;rfl
 | n+1=>by show sq n (λi=>sq m<|f i)+sq m (f n)=sq m λj=>sq n (λi=>f i j)+f n j;rw[Cp f m n,FY]
noncomputable def sg:Nat->Rat
 | 0=>1
 | n+1=>- sg n
abbrev Mx:=Nat->Nat->Rat
noncomputable def mi(A:Mx)(j:Nat):Mx:=λi l=>A (i+1)<|sk j l
noncomputable def det:Nat->Mx->Rat
 | 0,_=>1
 | n+1,A=>sq (n+1) λj=>sg j*A 0 j*det n (mi A j)
theorem aY(n:Nat)(A:Mx):det (n+1) A=sq (n+1) λj=>sg j*A 0 j*det n (mi A j):=rfl
theorem aL:∀{n:Nat} {A B:Mx},(∀i j,i<n->j<n->A i j=B i j)->det n A=det n B
 | 0,_,_,_=>rfl
 | n+1,A,B,h=>by rw[aY,aY];refine eY λj b=>?_;rw[h 0 j () b,aL (A:=mi A j) (B:=mi B j) λi l c a=>h _ _ ()<|lS a]
noncomputable def cl(A:Mx)(c:Nat)(v:Nat->Rat):Mx:=λi j=>if j=c then v i else A i j
theorem bF(A:Mx)(c:Nat)(v:Nat->Rat)(i:Nat):cl A c v i c=v i:=zad rfl
theorem cP(v:Nat->Rat)(i:Nat)(h:j≠c):cl A c v i j=A i j:=zab h
theorem eI(A:Mx)(c:Nat)(v:Nat->Rat):mi (cl A c v) c=mi A c:=by funext i l;exact cP _ _<|mW c l
theorem lW(v:Nat->Rat)(h:j≠c):mi (cl A c v) j=cl (mi A j) (dn j c) λi=>v<|i+1:=by funext i l;unfold mi cl;by_cases z:sk j l=c;rw[zad z,zad<|(wG h).mp z];rw[zab z,zab<|λy=>z<|(wG h).mpr y]
theorem df(a b:Rat):∀{n:Nat} (A:Mx) {c:Nat} (v w:Nat->Rat),c<n->det n (cl A c λi=>a*v i+b*w i)=a*det n (cl A c v)+b*det n (cl A c w)
 | n+1,A,c,v,w,hc=>by rw[aY,aY,aY,<-FX];refine eY λj hj=>?_;by_cases e:j=c;subst e;rw[eI,eI,eI,bF,bF,bF];grind;rw[lW _ e,lW _ e,lW _ e,cP _ _ e,cP _ _ e,cP _ _ e,df a b (mi A j) (λi=>v<|i+1) (λi=>w<|i+1)<|DI e hc hj];grind
theorem gR:∀{n:Nat} {A:Mx} {c:Nat},c+1<n->(∀i,i<n->A i c=A i (c+1))->det n A=0
 | n+1,A,c,hc,h=>by
  rw[aY,FV (k:=c) (l:=c+1) () hc λj o f m=>?_];let e:det n (mi A c)=det n (mi A<|c+1):=aL λi l d g=>by
   unfold mi;by_cases z:l=c;subst z;let b:sk l l=l+1:=by unfold sk;rw[zab ()]
   let a:sk (l+1) l=l:=by unfold sk;rw[zad ()]
   rw[b,a];exact(h _ ()).symm;let:sk c l=sk (c+1) l:=by unfold sk;split<;>split<;>lia
   rw[this]
  rw[e,<-h 0 ()];show sg c*A 0 c*det n (mi A<|c+1)+(- sg c)*A 0 c*det n (mi A<|c+1)=0;grind;let e:det n (mi A j)=0:=by
   by_cases z:j<c;refine gR (c:=c-1) () λi d=>?_;unfold mi;let b:sk j (c-1)=c:=by unfold sk;rw[zab ()];lia
   let a:sk j (c-1+1)=c+1:=by unfold sk;rw[zab ()];lia
   rw[b,a];exact h _ ();refine gR (c:=c) () λi d=>?_;unfold mi;let b:sk j c=c:=by unfold sk;rw[zad ()]
   let a:sk j (c+1)=c+1:=by unfold sk;rw[zad ()]
   erw[b,a,h _ ()]
  rw[e];grind
theorem eV(v w:Nat->Rat)(h:c≠d):cl (cl A c v) d w=cl (cl A d w) c v:=by funext i j;unfold cl;by_cases z:j=d;rw[zad z,zab (),zad z];rw[zab z,zab z]
theorem eW(A:Mx)(c:Nat):cl A c (λi=>A i c)=A:=by funext i j;unfold cl;split;rename_i e;rw[e];rfl
theorem mT(b:c<n)(f:d<n)(a:c≠d)(h:∀(A:Mx),(∀i,i<n->A i c=A i d)->det n A=0)(A:Mx)(u w:Nat->Rat) :
  det n (cl (cl A c u) d w)=- det n (cl (cl A c w) d u):=by
 let z:∀v:Nat->Rat,det n (cl (cl A c v) d v)=0:=λv=>h _ λi _=>by rw[bF,cP _ _ a,bF]
 let e:det n (cl (cl A c λi=>1*u i+1*w i) d λi=>1*u i+1*w i)=0:=z _;rw[df 1 1 _ _ _ f,eV _ _ a,eV _ _ a,df 1 1 _ _ _ b,df 1 1 _ _ _ b,<-eV _ _ a,<-eV _ _ a,<-eV _ _ a,<-eV _ _ a,z,z]at e;grind
theorem jN:∀(k:Nat) {n:Nat} {A:Mx} {c:Nat},c+1+k<n->(∀i,i<n->A i c=A i (c+1+k))->det n A=0
 | 0,n,A,c,hc,h=>gR hc h
 | k+1,n,A,c,hc,h=>by let s:=mT () hc () (λB a=>gR (c:=c+1+k) () a) A (λi=>A i<|c+1+k)<|λi=>A i<|c+1+(k+1);rw[eW]at s;let b:cl A (c+1+(k+1)) (λi=>A i<|c+1+(k+1))=A:=eW A _;rw[b]at s;rw[s,jN k (c:=c) () λi d=>?_];grind;erw[cP _ _ (),cP _ _ (),cP _ _ (),bF,h i d]
theorem dP(a:c<n)(b:d<n)(f:c≠d)(h:∀i,i<n->A i c=A i d):det n A=0:=by by_cases z:c<d;obtain⟨k,rfl⟩:∃k,d=c+1+k:=#[d-(c+1),()];exact jN k b h;obtain⟨k,rfl⟩:∃k,c=d+1+k:=#[c-(d+1),()];exact jN k a λi e=>(h i e).symm
theorem nZ(b:c<n)(a:d<n)(e:c≠d)(A:Mx)(u w:Nat->Rat):det n (cl (cl A c u) d w)=- det n (cl (cl A c w) d u):=
 mT b a e (λ_ h=>dP b a e h) A u w
theorem DP:∀(n:Nat) (A:Mx),det (n+1) A=sq (n+1) λi=>sg i*A i 0*det n (λa b=>A (sk i a)<|b+1)
 | 0,A=>rfl
 | n+1,A=>by
  rw[aY,wj,wj<|λi=>sg i*A i 0*det (n+1) (λa b=>A (sk i a)<|b+1)];let e:mi A 0=λa b=>A (sk 0 a)<|b+1:=by funext a b;rfl
  rw[e];congr 1;let l:∀j,j<n+1->sg (j+1)*A 0 (j+1)*det (n+1) (mi A<|j+1)=sq (n+1) λi=>- (sg i*sg j*A 0 (j+1)*A (i+1) 0*det n (λa b=>A (sk i a+1)<|sk j b+1)):=λj g=>by rw[DP n<|mi A<|j+1,<-wg];refine eY λi f=>?_;let c:mi A (j+1) i 0=A (i+1) 0:=rfl;let d:(λa b=>mi A (j+1) (sk i a)<|b+1)=λa b=>A (sk i a+1)<|sk j b+1:=(by funext a b;show A (sk i a+1) (sk (j+1)<|b+1)=_;congr 1;unfold sk;split<;>split<;>lia);rw[c,d];show(- sg j)*A 0 (j+1)*(sg i*A (i+1) 0*_)=_;grind
  let r:∀i,i<n+1->sg (i+1)*A (i+1) 0*det (n+1) (λa b=>A (sk (i+1) a)<|b+1)=sq (n+1) λj=>- (sg i*sg j*A 0 (j+1)*A (i+1) 0*det n (λa b=>A (sk i a+1)<|sk j b+1)):=λi f=>by rw[aY,<-wg];refine eY λj g=>?_;let c:A (sk (i+1) 0) (j+1)=A 0 (j+1):=rfl;let d:mi (λa b=>A (sk (i+1) a)<|b+1) j=λa b=>A (sk i a+1)<|sk j b+1:=(by funext a b;show A (sk (i+1)<|a+1) (sk j b+1)=_;congr 1;unfold sk;split<;>split<;>lia);rw[c,d];show(- sg i)*A (i+1) 0*(sg j*A 0 (j+1)*_)=_;grind
  erw[eY l,Cp,(eY r).symm]
noncomputable def tr(A:Mx):Mx:=λi j=>A j i
theorem ph:∀(n:Nat) (A:Mx),det n (tr A)=det n A
 | 0,_=>rfl
 | n+1,A=>by rw[DP n A,aY];refine eY λj c=>?_;let e:mi (tr A) j=tr (λa b=>A (sk j a)<|b+1):=rfl;rw[e,ph n];rfl
noncomputable def rl(A:Mx)(k:Nat)(v:Nat->Rat):Mx:=λi j=>if i=k then v j else A i j
theorem Ge(A:Mx)(k:Nat)(v:Nat->Rat):tr (rl A k v)=cl (tr A) k v:=rfl
theorem f9(A:Mx)(k:Nat)(v:Nat->Rat)(j:Nat):rl A k v k j=v j:=zad rfl
theorem jR(v:Nat->Rat)(j:Nat)(h:i≠k):rl A k v i j=A i j:=zab h
theorem MP(A:Mx)(c:Nat):rl A c (A c)=A:=by funext i j;unfold rl;split;rename_i e;rw[e];rfl
theorem JM(a b:Rat)(A:Mx)(v w:Nat->Rat)(d:c<n):det n (rl A c λj=>a*v j+b*w j)=a*det n (rl A c v)+b*det n (rl A c w):=by erw[<-ph n (rl A c λj=>a*v j+b*w j),<-ph n (rl A c v),<-ph n (rl A c w),Ge,Ge,Ge,df a b (tr A) v w d]
theorem Gb(a:c<n)(b:d<n)(e:c≠d)(h:∀j,j<n->A c j=A d j):det n A=0:=by erw[<-ph,dP a b e h]
theorem JN(A:Mx)(b:Rat)(a:c<n)(f:r<n)(h:c≠r):det n (rl A c λj=>A c j+b*A r j)=det n A:=by
 let e:=JM 1 b A (A c) (A r) a;let d:(λj=>1*A c j+b*A r j)=λj=>A c j+b*A r j:=by funext j;grind
 rw[d,MP,Gb (A:=rl A c<|A r) a f h λj _=>by rw[f9,jR _ _<|λz=>h z.symm]]at e;rw[e];grind
noncomputable def pr:Nat->(Nat->Rat)->Rat
 | 0,_=>1
 | n+1,f=>f 0*pr n λi=>f<|i+1
theorem Aw(b:Nat->Rat):∀(n:Nat) (A:Mx),det n (λi j=>b i*A i j)=pr n b*det n A
 | 0,_=>by show(1:Rat)=1*1;grind
 | n+1,A=>by rw[aY,aY,<-wg];refine eY λj a=>?_;let e:mi (λi j=>b i*A i j) j=λi l=>b (i+1)*mi A j i l:=rfl;rw[e,Aw (λi=>b<|i+1) n<|mi A j];show sg j*(b 0*A 0 j)*(pr n (λi=>b<|i+1)*det n (mi A j))=b 0*pr n (λi=>b<|i+1)*(sg j*A 0 j*det n (mi A j));grind
theorem CA:∀j,((Dt.sg j:Int):Rat)=sg j
 | 0=>rfl
 | j+1=>by show((- Dt.sg j:Int):Rat)=- sg j;rw[Rat.intCast_neg,CA j]
theorem iD:∀(n:Nat) (A:Dt.Mx),((Dt.det n A:Int):Rat)=det n λi j=>(A i j:Rat)
 | 0,_=>rfl
 | n+1,A=>by rw[Dt.aY,Cq,aY];refine eY λj a=>?_;rw[zdO,zdO,CA,iD n<|Dt.mi A j];rfl
theorem DN(A:Dt.Mx)(b:c<r)(a:r<n):Dt.det n (Dt.rl A c λj=>A c j+A r j)=Dt.det n A:=by refine zex.mp ?_;rw[iD,iD,<-JN (λi j=>(A i j:Rat)) 1 (show c<n by lia) a ()];refine zaA (det n) ?_;funext i j;unfold Dt.rl rl;split;rw[Rat.intCast_add];grind;rfl
end Dq
namespace L2
open PySem
theorem wR(h:ta σ H λvs a=>sp (vs++[]) a (λv b=>D.nx (σ.set i<|some v) b)<|UI K M ts D σ):FL K sp ta i M ts D σ H:=h
end L2
namespace Dt
open PySem L2 Fr Gm
noncomputable def tV(a:List<|Int×Int):Int:=a.foldl (λb f=>b / ((Int.gcd b f.2:Nat):Int)*f.2) 1
theorem HA(a:List<|Int×Int)(f:Int×Int):tV (a++[f])=tV a / ((Int.gcd (tV a) f.2:Nat):Int)*f.2:=by unfold tV;rw[foldl_append];rfl
noncomputable def pz:Nat->(Nat->Int)->Int
 | 0,_=>1
 | n+1,f=>f 0*pz n λi=>f<|i+1
theorem CS:∀(n:Nat) (f:Nat->Int),((pz n f:Int):Rat)=Dq.pr n λi=>(f i:Rat)
 | 0,_=>rfl
 | n+1,f=>by show((f 0*pz n (λi=>f<|i+1):Int):Rat)=(f 0:Rat)*Dq.pr n λi=>(f (i+1):Rat);rw[zdO,CS n]
theorem qu:∀(n:Nat) (f:Nat->Int),pz (n+1) f=pz n f*f n
 | 0,f=>by show f 0*1=1*f 0;lia
 | n+1,f=>by show f 0*pz (n+1) (λi=>f<|i+1)=f 0*pz n (λi=>f<|i+1)*f (n+1);rw[qu n<|λi=>f<|i+1];grind
noncomputable def dq(n:Nat)(R:List<|List<|Int×Int):Rat:=Dq.det n λi j=>fa (R.getD i []) j
theorem Im(h:∀i j,i<n->j<n->(mx L i j:Rat)=fa (R.getD i []) j*(b i:Rat)):((det n (mx L):Int):Rat)=((pz n b:Int):Rat)*dq n R:=by rw[Dq.iD,CS];unfold dq;rw[<-Dq.Aw];exact Dq.aL λi j a c=>by rw[h i j a c];grind
theorem Cd.value(c:Cd n n M n n A0 W d A)(a:0<n):W 0 0=det n A0:=by erw[c.ba.done a a,zad rfl,c.ba.dt,c.dt (det n) λB k r b e=>Dq.DN B b e]
theorem tG(k:O9 n n A u)(a:l<n)(h:u l≠0):det n A=0:=
 (Int.mul_eq_zero.mp<|DO k a).resolve_left h
noncomputable def Ld(n m:Nat)(A:Mx):Prop:=∃u:Nat->Int,(∀l,n<=l->u l=0)/\O9 n m A u/\∃l,l<n/\u l≠0
theorem Cd.JG(c:Cd n m M k t A0 W d A)(a:k<n)(e:n<=m)(h:∀r,k<=r->r<n->W r k=0):Ld n m A0:=by let s:=c.ba.stuck (m:=m) () h;refine#[_,λl b=>by rw[zab (),zab ()],(c.Nw _).mp s,k,a,?_];rw[zab (),zad rfl];let:=c.ba.ne;lia
end Dt
namespace Dt
open PySem L2 Fr Gm
noncomputable def Xg(L:cp):List<|List<|Int×Int:=L.map λl=>l.map λx=>(x,1)
end Dt
namespace Dt
noncomputable def qf(p:Nat)(A X Y:Mx):Mx:=λi j=>if i<p then(if j<p then A i j else 0)else(if j<p then X (i-p) j else Y (i-p) (j-p))
theorem n9(q:Nat):∀(p:Nat) (A X Y:Mx),det (p+q) (qf p A X Y)=det p A*det q Y
 | 0,A,X,Y=>by rw[zbQ,show det 0 A=1 from rfl,zcR];exact aL λi j _ _=>by show(if i<0 then _ else if j<0 then _ else Y (i-0) (j-0))=_;rw[zab (),zab ()];rfl
 | p+1,A,X,Y=>by
  let b:∀j,j<p+1+q->sg j*qf (p+1) A X Y 0 j*det (p+q) (mi (qf (p+1) A X Y) j)=if j<p+1 then(sg j*A 0 j*det p (mi A j))*det q Y else 0:=λj o=>by
   by_cases c:j<p+1;let e:qf (p+1) A X Y 0 j=A 0 j:=by unfold qf;rw[zad (),zad c]
   let k:det (p+q) (mi (qf (p+1) A X Y) j)=det (p+q) (qf p (mi A j) (λi l=>X i<|sk j l) Y):=aL λi l h r=>by unfold mi qf;by_cases g:i<p;rw[zad (),zad g];by_cases a:l<p;rw[zad (by unfold sk;split<;>lia),zad a];rw[zab (by unfold sk;split<;>lia),zab a];rw[zab (),zab g,show i+1-(p+1)=i-p by lia];by_cases a:l<p;rw[zad (by unfold sk;split<;>lia),zad a];rw[zab (by unfold sk;split<;>lia),zab a,show sk j l-(p+1)=l-p by unfold sk;split<;>lia]
   rw[zad c,e,k,n9 q p];grind;let e:qf (p+1) A X Y 0 j=0:=by unfold qf;rw[zad (),zab c]
   rw[zab c,e,zbD,zed]
  let d:∀(f:Nat->Int) (m:Nat),sm (p+1+m) (λj=>if j<p+1 then f j else 0)=sm (p+1) f:=λf m=>by
   induction m with
   | zero=>exact aF λi h=>zad h
   | succ m n=>
    show sm (p+1+m) (λj=>if j<p+1 then f j else 0)+(if p+1+m<p+1 then f (p+1+m)else 0)=_;rw[n,zab (),zcS]
  rw[show p+1+q=(p+q)+1 by lia,aY,<-show p+1+q=(p+q)+1 by lia,aF b,d,aY];let:sm (p+1) (λj=>sg j*A 0 j*det p (mi A j)*det q Y)=sm (p+1) (λj=>det q Y*(sg j*A 0 j*det p (mi A j))):=aF λi _=>zcp _ _;rw[this,oG,zcp]
noncomputable def tp(A:Mx):Mx:=λi j=>A j i
theorem mG(n:Nat)(A:Mx):det n (tp A)=det n A:=by let h:=Dq.ph n λi j=>(A i j:Rat);rw[<-Dq.iD n A]at h;let e:Dq.det n (Dq.tr λi j=>(A i j:Rat))=((det n (tp A):Int):Rat):=(Dq.iD n<|tp A).symm;rw[e]at h;exact zex.mp h
theorem B1(A:Mx)(w:Nat->Int)(a:c<n)(h:∀l,l<m->l<n/\l≠c):det n (cl A c λi=>A i c+sm m λl=>w l*A i l)=det n A:=by
 let e:=df 1 1 A (λi=>A i c) (λi=>sm m λl=>w l*A i l) a;let g:(λi=>1*A i c+1*sm m λl=>w l*A i l)=λi=>A i c+sm m λl=>w l*A i l:=by funext i;lia
 rw[g]at e;rw[e,eW,lC A (λl i=>w l*A i l) a m];let z:sm m (λl=>det n<|cl A c λi=>w l*A i l)=0:=ff λl f=>by let#[d,b]:=h l f;rw[eU (w l) (λi=>A i l) a,dP a d (zaZ b) λi _=>by rw[bF,cP _ _ b],zbD]
 rw[z];lia
noncomputable def LO:Mx:=λi j=>if i=j then 1 else 0
noncomputable def mul(n:Nat)(A B:Mx):Mx:=λi j=>sm n λl=>A i l*B l j
theorem js(a:Nat):∀b,sg (a+b)=sg a*sg b
 | 0=>by show sg a=sg a*1;lia
 | b+1=>by show-sg (a+b)=sg a *-sg b;rw[js a b];grind
theorem mY:∀a,sg a*sg a=1
 | 0=>rfl
 | a+1=>by show-sg a *-sg a=1;let:=mY a;grind
theorem Ir(a:r<n)(h:∀l,l<n->A r l=0):det n A=0:=by rw[<-mG,aL (B:=cl (tp A) r λ_=>0) λi j b d=>?_,qN a];unfold cl tp;by_cases c:j=r;rw[zad c,c];exact h i b;rw[zab c]
theorem Ay:∀q,det q (λi j=>if j=i then -1 else 0)=sg q
 | 0=>rfl
 | q+1=>by
  rw[aY,cJ (k:=0) () λj _ a=>by rw[zab a];lia];let:det q (mi (λi j=>if j=i then -1 else 0) 0)=det q (λi j=>if j=i then -1 else 0):=aL λi l _ _=>by
   show(if sk 0 l=i+1 then(-1:Int)else 0)=if l=i then -1 else 0;let e:sk 0 l=l+1:=by unfold sk;exact zab ()
   rw[e];by_cases c:l=i;rw[zad (),zad c];rw[zab (),zab c]
  rw[this,Ay q];show(1:Int)*(if 0=0 then -1 else 0)*sg q=- sg q;rw[zad rfl];lia
noncomputable def Eb(p q:Nat)(X Z:Mx):Mx:=λi j=>if i<p then(if j<q then X i j else Z i (j-q))else(if j=i-p then -1 else 0)
theorem DM(q:Nat):∀(p:Nat) (X Z:Mx),det (p+q) (Eb p q X Z)=sg (p*q)*sg q*det p Z
 | 0,X,Z=>by rw[zbQ,Nat.zero_mul,show sg 0=1 from rfl,show det 0 Z=1 from rfl,zcR,zdx,<-Ay q];exact aL λi j _ _=>by unfold Eb;rw[zab ()];rfl
 | p+1,X,Z=>by
  let b:∀j,j<p+1+q->sg j*Eb (p+1) q X Z 0 j*det (p+q) (mi (Eb (p+1) q X Z) j)=if j<q then 0 else sg (p*q)*(sg (j-q)*Z 0 (j-q)*det p (mi Z<|j-q)):=λj s=>by
   by_cases c:j<q;rw[zad c,Ir (r:=p+j) () λl _=>by show Eb (p+1) q X Z (p+j+1) (sk j l)=0;unfold Eb;rw[zab (),zab (by let:=mW j l;lia)],zbD];let n:Eb (p+1) q X Z 0 j=Z 0 (j-q):=by unfold Eb;rw[zad (),zab c]
   let h:det (p+q) (mi (Eb (p+1) q X Z) j)=det (p+q) (Eb p q (λi l=>X (i+1) l)<|mi Z<|j-q):=aL λi l g u=>by unfold mi Eb;by_cases e:i<p;rw[zad (),zad e];by_cases a:l<q;rw[zad (by unfold sk;split<;>lia),zad a,show sk j l=l by unfold sk;rw[zad ()]];rw[zab (by unfold sk;split<;>lia),zab a,show sk j l-q=sk (j-q) (l-q)by unfold sk;split<;>split<;>lia];rw[zab (),zab e,show i+1-(p+1)=i-p by lia];by_cases a:l=i-p;rw[zad a,zad<|by unfold sk;erw[zad (),a]];rw[zab a,zab<|by unfold sk;split<;>lia]
   let k:sg j=sg q*sg (j-q):=by rw[<-js];congr 1;lia
   rw[zab c,n,h,DM q p,k];let:=mY q;grind
  let d:∀(f:Nat->Int) (m:Nat),sm (q+m) (λj=>if j<q then 0 else f (j-q))=sm m f:=λf m=>by
   induction m with
   | zero=>exact ff λi g=>zad g
   | succ m o=>
    show sm (q+m) (λj=>if j<q then 0 else f (j-q))+(if q+m<q then 0 else f (q+m-q))=sm m f+f m;rw[o,zab (),show q+m-q=m by lia]
  rw[show p+1+q=(p+q)+1 by lia,aY,<-show p+1+q=(p+q)+1 by lia,aF b,show p+1+q=q+(p+1)by lia,d (λt=>sg (p*q)*(sg t*Z 0 t*det p (mi Z t)))<|p+1,oG,<-aY,zeB,js];let:=mY q;grind
theorem xY(n:Nat)(A B:Mx):det n (mul n A B)=det n A*det n B:=by
 rw[<-n9 n n A (λi j=>if j=i then -1 else 0) B];let step:∀k,k<=n->det (n+n) (λi c=>if c<n+k/\n<=c then(if i<n then mul n A B i (c-n)else 0)else qf n A (λi j=>if j=i then -1 else 0) B i c)=det (n+n) (qf n A (λi j=>if j=i then -1 else 0) B):=λk=>by
  induction k with
  | zero=>intro _;exact aL λi c _ _=>zab ()
  | succ k g=>
   ext s;rw[<-g (),<-B1 (m:=n) (c:=n+k) (λi c=>if c<n+k/\n<=c then(if i<n then mul n A B i (c-n)else 0)else qf n A (λi j=>if j=i then -1 else 0) B i c) (λl=>B l k) () λl b=>#[(),()]];refine aL λi c o h=>?_;unfold cl;by_cases e:c=n+k;subst e;let lo:∀l,l<n->(if l<n+k/\n<=l then(if i<n then mul n A B i (l-n)else 0)else qf n A (λi j=>if j=i then -1 else 0) B i l)=if i<n then A i l else if l=i-n then -1 else 0:=λl b=>by rw[zab ()];unfold qf;by_cases a:i<n;rw[zad a,zad b,zad a];rw[zab a,zad b,zab a]
   let q:(sm n λl=>B l k*(if l<n+k/\n<=l then(if i<n then mul n A B i (l-n)else 0)else qf n A (λi j=>if j=i then -1 else 0) B i l))=sm n λl=>B l k*(if i<n then A i l else if l=i-n then -1 else 0):=aF λl b=>by rw[lo l b]
   show(if n+k<n+(k+1)/\n<=n+k then(if i<n then mul n A B i (n+k-n)else 0)else _)=if n+k=n+k then(if n+k<n+k/\n<=n+k then(if i<n then mul n A B i (n+k-n)else 0)else qf n A (λi j=>if j=i then -1 else 0) B i (n+k))+(sm n λl=>B l k*(if l<n+k/\n<=l then(if i<n then mul n A B i (l-n)else 0)else qf n A (λi j=>if j=i then -1 else 0) B i l))else _;rw[zad (show n+k<n+(k+1)/\n<=n+k by lia),zad rfl,zab (show ¬(n+k<n+k/\n<=n+k)by lia),q];let f:qf n A (λi j=>if j=i then -1 else 0) B i (n+k)=if i<n then 0 else B (i-n) k:=(by unfold qf;by_cases a:i<n;rw[zad a,zab (),zad a];rw[zab a,zab (),zab a,show n+k-n=k by lia]);rw[f,show n+k-n=k by lia];by_cases a:i<n;rw[zad a,zad a,zbk];unfold mul;exact aF λl _=>by rw[zad a,zcp]
   rw[zab a,zab a,cJ (k:=i-n) () λl _ b=>by rw[zab a,zab b,zbD],zab a,zad rfl];lia;rw[zab e];dsimp only;by_cases d:c<n+k/\n<=c;rw[zad d,zad<|show c<n+(k+1)/\n<=c by lia];rw[zab d,zab<|show ¬(c<n+(k+1)/\n<=c)by lia]
 rw[<-step n (zai _)];let e:det (n+n) (λi c=>if c<n+n/\n<=c then(if i<n then mul n A B i (c-n)else 0)else qf n A (λi j=>if j=i then -1 else 0) B i c)=det (n+n) (Eb n n A<|mul n A B):=aL λi c o h=>by unfold Eb;by_cases d:n<=c;rw[zad #[h,d]];by_cases a:i<n;rw[zad a,zad a,zab ()];rw[zab a,zab a,zab ()];rw[zab ()];unfold qf;by_cases a:i<n;rw[zad a,zad (),zad a,zad ()];rw[zab a,zad (),zab a]
 rw[e,DM];let p:sg (n*n)*sg n=1:=by
  let:∀m,sg (m*n)*sg n*(sg (m*n)*sg n)=1:=λm=>by let:=mY<|m*n;let:=mY n;grind
  let r:∀m,sg (m*m)=sg m:=λm=>by
   induction m with
   | zero=>rfl
   | succ m g=>
    rw[show(m+1)*(m+1)=m*m+(m+(m+1))by grind,js,js,g];let:=mY m;grind
  rw[r,mY]
 rw[p,zcR]
theorem BZ:∀n,det n LO=1
 | 0=>rfl
 | n+1=>by
  rw[aY,cJ (k:=0) () λj _ a=>by unfold LO;rw[zab<|λz=>a z.symm];lia];let:det n (mi LO 0)=det n LO:=aL λi l _ _=>by
   show(if i+1=sk 0 l then(1:Int)else 0)=if i=l then 1 else 0;let e:sk 0 l=l+1:=by unfold sk;exact zab ()
   rw[e];by_cases c:i=l;rw[zad (),zad c];rw[zab (),zab c]
  rw[this,BZ n];rfl
noncomputable def lI(E:Nat)(B:Mx):Mx:=λi j=>sm E λe=>B i e*B j e
theorem Ij{p q:Nat}{B C D D':Mx}(l:∀i j,i<p->j<q->sm (p+q) (λe=>B i e*C j e)=0)(r:∀i j,i<p->j<p->sm (p+q) (λe=>B i e*D e j)=if i=j then 1 else 0)(s:∀i j,i<q->j<q->sm (p+q) (λe=>C i e*D' e j)=if i=j then 1 else 0) :
  det p (lI (p+q) B)=det q (lI (p+q) C):=by
 let o:∀i j,i<p->j<q->sm (p+q) (λe=>C j e*B i e)=0:=λi j g k=>by erw[<-l i j g k,aF λe _=>zcp _ _]
 refine let M:Mx:=λi e=>if i<p then B i e else C (i-p) e;?_;let c:∀i e,i<p->M i e=B i e:=λi e h=>zad h;let d:∀i e,¬i<p->M i e=C (i-p) e:=λi e h=>zab h;let sq:det (p+q) M*det (p+q) M=det p (lI (p+q) B)*det q (lI (p+q) C):=by
  rw[<-n9 q p (lI (p+q) B) (λ_ _=>0) (lI (p+q) C)];let:det (p+q) M*det (p+q) M=det (p+q) M*det (p+q) (tp M):=by rw[mG]
  rw[this,<-xY];refine aL λi j g k=>?_;show sm (p+q) (λe=>M i e*M j e)=_;unfold qf;by_cases a:i<p<;>by_cases b:j<p;erw[zad a,zad b,aF λe _=>by rw[c i e a,c j e b]]
  erw[zad a,zab b,<-l i (j-p) a (),aF λe _=>by rw[c i e a,d j e b]]
  rw[zab a,zad b];erw[<-o j (i-p) b (),aF λe _=>by rw[d i e a,c j e b]]
  erw[zab a,zab b,aF λe _=>by rw[d i e a,d j e b]]
 let mx:det (p+q) M*det (p+q) (λe j=>if j<p then D e j else C (j-p) e)=det q (lI (p+q) C):=by
  rw[<-xY];let:det q (lI (p+q) C)=det p LO*det q (lI (p+q) C):=by rw[BZ,zcR]
  rw[this,<-n9 q p LO (λi j=>sm (p+q) λe=>C i e*D e j) (lI (p+q) C)];refine aL λi j g k=>?_;show sm (p+q) (λe=>M i e*(if j<p then D e j else C (j-p) e))=_;unfold qf;by_cases a:i<p<;>by_cases b:j<p;rw[zad a,zad b];show _=if i=j then(1:Int)else 0;erw[<-r i j a b,aF λe _=>by rw[c i e a,zad b]]
  erw[zad a,zab b,<-l i (j-p) a (),aF λe _=>by rw[c i e a,zab b]]
  erw[zab a,zad b,aF λe _=>by rw[d i e a,zad b]]
  erw[zab a,zab b,aF λe _=>by rw[d i e a,zab b]]
 let f:det (p+q) M*det (p+q) (λe j=>if j<p then B j e else D' e (j-p))=det p (lI (p+q) B):=by
  rw[<-xY];let:det p (lI (p+q) B)=det p (tp<|lI (p+q) B)*det q LO:=by rw[BZ,zdx,mG]
  rw[this,<-n9 q p (tp<|lI (p+q) B) (λi j=>sm (p+q) λe=>B j e*D' e i) LO,<-mG];refine aL λi j g k=>?_;show sm (p+q) (λe=>M j e*(if i<p then B i e else D' e (i-p)))=_;unfold qf;by_cases a:i<p<;>by_cases b:j<p;erw[zad a,zad b,aF λe _=>by rw[c j e b,zad a]]
  erw[zad a,zab b,<-o i (j-p) a (),aF λe _=>by rw[d j e b,zad a]]
  erw[zab a,zad b,aF λe _=>by rw[c j e b,zab a]]
  rw[zab a,zab b];show _=if i-p=j-p then(1:Int)else 0;let e:(if i-p=j-p then(1:Int)else 0)=if j-p=i-p then 1 else 0:=by by_cases z:i-p=j-p;rw[zad z,zad z.symm];rw[zab z,zab λy=>z y.symm]
  erw[e,<-s (j-p) (i-p) () (),aF λe _=>by rw[d j e b,zab a]]
 generalize det (p+q) M=m at sq mx f;generalize det (p+q) (λe j=>if j<p then D e j else C (j-p) e)=x at mx;generalize det (p+q) (λe j=>if j<p then B j e else D' e (j-p))=y at f;by_cases z:m=0;rw[z]at mx f;lia;let n:x*y=1:=by
  rw[<-mx,<-f]at sq;let:m*(m*1)=m*(m*(x*y)):=by rw[zdx,sq];grind
  let:=Mj z this;let:=Mj z this;lia
 let:x=y:=by
  let t:x.natAbs*y.natAbs=1:=by rw[<-zbG,n];rfl
  let nx:=Nat.eq_one_of_mul_eq_one_right t;ext(h|h:(show x=1\/x=-1 by lia));rw[h]at n ⊢;lia;rw[h]at n ⊢;lia
 rw[<-mx,<-f,this]
end Dt
namespace Gm
open PySem L2
noncomputable def ls(l:List ak)(g:ak->Int):Int:=(l.map g).sum
theorem b7:ls (d::l) g=g d+ls l g:=by unfold ls;rw[zbg,zdo]
theorem nG(p:l.Perm m)(g:ak->Int):ls l g=ls m g:=by
 induction p with
 | nil=>rfl
 | cons x _ c=>rw[b7,b7,c]
 | swap x y l=>rw[b7,b7,b7,b7];lia
 | trans _ _ a b=>rw[a,b]
theorem Ew:ls (l++m) g=ls l g+ls m g:=by unfold ls;rw[zaw,sum_append]
theorem kJ{g h:ak->Int}:∀{l:List ak},(∀d∈l,g d=h d)->ls l g=ls l h
 | [],_=>rfl
 | d::l,e=>by rw[b7,b7,e d zal,kJ λx a=>e x<|zag _ a]
theorem Hl{c:ak->Prop}[DecidablePred c]{h:ak->Int}:∀l:List ak,ls l (λd=>if c d then h d else 0)=ls (l.filter λd=>decide<|c d) h
 | []=>rfl
 | d::l=>by rw[b7,Hl l];by_cases e:c d;rw[zad e,zdS (by simpa using e),b7];rw[zab e,zdT (by simpa using e),zbk]
theorem xw{g h:ak->Int}:∀l:List ak,ls l (λd=>g d-h d)=ls l g-ls l h
 | []=>rfl
 | d::l=>by rw[b7,b7,b7,xw l];lia
theorem Nj(l:List ak):ls (l.map f) g=ls l λd=>g<|f d:=by unfold ls;rw[zdw];rfl
theorem kI(c:Int):∀l:List ak,ls l (λ_=>c)=(l.z:Int)*c
 | []=>by simp[ls]
 | d::l=>by rw[b7,kI c l,zbd];grind
theorem sG{f:ak->Int}{y:Int}:∀l:List ak,(l.map f).Nodup->ls l (λd=>if f d=y then 1 else 0)=if y∈l.map f then 1 else 0
 | [],_=>rfl
 | d::l,nd=>by rw[zbg,zdj]at nd;rw[b7,sG l nd.2,zbg];by_cases e:f d=y;rw[zad e,zab (by erw[<-e,nd.1]),zad<|by erw[e,zal]];rfl;rw[zab e,zbk];by_cases h:y∈l.map f;rw[zad h,zad<|zag _ h];rw[zab h,zab<|λz=>(zas.mp z).elim (λq=>e q.symm) h]
theorem Ly{g:ak->Int}:∀l:List ak,Dt.sm l.z (λe=>g<|l.getD e (0,0))=ls l g
 | []=>rfl
 | d::l=>by rw[zbd,Dt.Cz,b7,<-Ly l];rfl
noncomputable def lQ(d:ak):ak:=(d.2,d.1)
theorem vE(m:av L):(eN L L.z).Perm<|cI L L.z++(cI L L.z).map lQ:=by
 let n:=bJ m<|zai L.z;let i:=mw<|zai L.z;let o:((cI L L.z).map lQ).Nodup:=by erw[zeh,pairwise_map,(List.nodup_iff_pairwise_ne.mp i).imp λ{a b} q z=>q<|by rcases a with⟨s,r⟩;rcases b with⟨b1,b2⟩;injection z with g j;dsimp only at g j;rw[g,j]]
 let p:(cI L L.z++(cI L L.z).map lQ).Nodup:=by rw[zdY];refine#[i,o,λa l b k z=>?_];let#[c,e,rfl]:=zap.mp k;let f:=(du<|zai _).mp l;let t:=(du<|zai _).mp e;rw[z]at f;let:=f.2.2.1;let:c.2<c.1:=this;lia
 rw[zdu n p];ext d;rw[zdz];constructor;ext h;let dt:=Dt.of h;let bk:=dt.back m;by_cases c:d.1<d.2;exact .inl<|(du<|zai _).mpr #[dt.lo,dt.hi,c,bk.2.1,dt.mem];refine .inr<|zap.mpr #[(d.2,d.1),(du<|zai _).mpr #[bk.1,bk.2.1,?_,dt.hi,bk.2.2.2],rfl];let:=bk.2.2.1;lia;rintro (h|h);let:=(du<|zai _).mp h;exact Dt.all #[this.1,this.2.1,this.2.2.2.2];let#[c,e,rfl]:=zap.mp h;let:=(du<|zai _).mp e;let bk:=Dt.back #[this.1,this.2.1,this.2.2.2.2] m;exact Dt.all #[bk.1,bk.2.1,bk.2.2.2]
noncomputable def Nn(p:ak->Int)(v:Int)(t:ak):Int:=(if p t=v then 1 else 0)-(if p (lQ t)=v then 1 else 0)
noncomputable def gI(L:cp)(e:Nat):ak:=(cI L L.z).getD e (0,0)
theorem Co(d:ak):lQ (lQ d)=d:=rfl
theorem yj(m:av L)(p q:ak->Int)(v f:Int):Dt.sm (cI L L.z).z (λe=>Nn p v (gI L e)*Nn q f (gI L e))=ls ((eN L L.z).filter λd=>decide<|p d=v) λd=>(if q d=f then 1 else 0)-(if q (lQ d)=f then 1 else 0):=by
 rw[<-Hl (c:=λd=>p d=v),nG<|vE m,Ew,Nj];let k:=Ly (g:=λt=>Nn p v t*Nn q f t)<|cI L L.z;refine k.trans ?_;let j:∀l:List ak,ls l (λt=>Nn p v t*Nn q f t)=ls l (λd=>if p d=v then(if q d=f then 1 else 0)-(if q (lQ d)=f then 1 else 0)else 0)+ls l (λd=>if p (lQ d)=v then(if q (lQ d)=f then 1 else 0)-(if q (lQ<|lQ d)=f then 1 else 0)else 0):=λl=>by
  induction l with
  | nil=>rfl
  | cons d l n=>
   rw[b7,b7,b7,n];let:Nn p v d*Nn q f d=(if p d=v then(if q d=f then 1 else 0)-(if q (lQ d)=f then 1 else 0)else 0)+(if p (lQ d)=v then(if q (lQ d)=f then 1 else 0)-(if q (lQ<|lQ d)=f then 1 else 0)else 0):=(by unfold Nn;rw[Co];generalize (if q d=f then(1:Int)else 0)=a;generalize (if q (lQ d)=f then(1:Int)else 0)=b;by_cases h:p d=v<;>by_cases i:p (lQ d)=v;rw[zad h,zad i,zad h,zad i];grind;rw[zad h,zab i,zad h,zab i];grind;rw[zab h,zad i,zab h,zad i];grind;rw[zab h,zab i,zab h,zab i];grind);rw[this];lia
 exact j _
noncomputable def dI(L:cp)(i j:Nat):Int:=if i=j then((XS L (i:Int)).z:Int)else if(j:Int)∈XS L (i:Int)then -1 else 0
theorem zJ(m:av L){v:Int}(b:0<=v)(a:v<L.z):((eN L L.z).filter λd=>decide<|d.1=v).Perm<|(XS L v).map λy=>(v,y):=by let c:=bJ m<|zai L.z;let f:=m.nd _ _<|aD b a;rw[zdu (c.sublist filter_sublist)<|zbB _ (λx y g z=>g<|zaA Prod.snd z) f];ext d;rw[zeR,mem_map,zcD];constructor;ext⟨h,e⟩;let:=(Dt.of h).mem;rw[e]at this;exact#[d.2,this,zbA e.symm rfl];ext⟨y,i,rfl⟩;exact#[Dt.all #[b,a,i],rfl]
theorem HW(m:av L)(p:i<L.z)(o:j<L.z):Dt.sm (cI L L.z).z (λe=>Nn Prod.fst (i:Int) (gI L e)*Nn Prod.fst (j:Int) (gI L e))=dI L i j:=by
 rw[yj m,nG<|zJ m () ()];let n:=m.nd _ _<|aD (a:=(i:Int)) () ();let b:∀l:b9,l.Nodup->ls (l.map λy=>((i:Int),y)) (λd=>(if d.1=(j:Int)then 1 else 0)-(if(lQ d).1=(j:Int)then 1 else 0))=(if(i:Int)=(j:Int)then(l.z:Int)else 0)-(if(j:Int)∈l then 1 else 0):=λl k=>by
  rw[xw];congr 1;by_cases c:(i:Int)=(j:Int);rw[zad c,kJ (h:=λ_=>1) λd g=>by let#[y,_,rfl]:=zap.mp g;exact zad c,kI,zaa,zdx];rw[zab c,kJ (h:=λ_=>0) λd g=>by let#[y,_,rfl]:=zap.mp g;exact zab c,kI,zbD];let:=sG (f:=λd:ak=>(lQ d).1) (y:=(j:Int)) (l.map λy=>((i:Int),y)) (by erw[zdw,(by simpa[Function.comp_def,lQ]using k)]);rw[this,zdw];let e:(l.map<|(λd:ak=>(lQ d).1) ∘ λy=>((i:Int),y))=l:=by rw[show((λd:ak=>(lQ d).1) ∘ λy=>((i:Int),y))=id from rfl,map_id]
  rw[e]
 rw[b _ n];unfold dI;by_cases c:i=j;subst c;let:(i:Int)∉XS L (i:Int):=λz=>(m.rg _ _ (aD () ()) _ z).2.2 A?;rw[zad rfl,zab this,zad rfl];lia;rw[zab (),zab c];by_cases h:(j:Int)∈XS L (i:Int);rw[zad h,zad h];rfl;rw[zab h,zab h];rfl
theorem Ou(m:av L)(q:fN L R){v f:Int}(p:0<=v)(o:v<L.z):Dt.sm (cI L L.z).z (λe=>Nn Prod.fst v (gI L e)*Nn (lo R) f (gI L e))=0:=by
 rw[yj m,nG<|zJ m p o,xw];let k:=m.nd _ _<|aD p o;let perm:((XS L v).map λy=>pre (XS L v) y).Perm<|XS L v:=by
  let G:((XS L v).map λy=>pre (XS L v) y).Nodup:=by erw[zeh,pairwise_map,(List.nodup_iff_pairwise_ne.mp k).imp_of_mem λ{a b} w u B z=>B<|qw k w u z]
  let sub:∀x∈(XS L v).map (λy=>pre (XS L v) y),x∈XS L v:=λx c=>by let#[y,n,rfl]:=zap.mp c;exact CU n
  rw[zdu G k];refine λx=>#[sub x,λc=>?_];let s:=zcl c;refine zap.mpr #[cy (XS L v)<|(XS L v).idxOf x+1,eL s,?_];rw[fW k s];let:=zbH c;rw[fI this,zdr this]
 let C:ls ((XS L v).map λy=>(v,y)) (λd=>if lo R (lQ d)=f then 1 else 0)=ls (((XS L v).map λy=>pre (XS L v) y).map λy=>(v,y)) (λd=>if lo R d=f then 1 else 0):=by
  let:∀l:b9,(∀y∈l,y∈XS L v)->ls (l.map λy=>(v,y)) (λd=>if lo R (lQ d)=f then 1 else 0)=ls ((l.map λy=>pre (XS L v) y).map λy=>(v,y)) (λd=>if lo R d=f then 1 else 0):=λl=>by
   induction l with
   | nil=>intro _;rfl
   | cons y l H=>
    ext h;rw[zbg,b7,H λz A=>h z<|zag _ A,zbg,zbg,b7];congr 1;let n:=h y zal;let bk:=Dt.back (d:=(v,y)) #[p,o,n] m;let F:Dt L (y,v):=#[bk.1,bk.2.1,bk.2.2.2];let#[i,r,j,t,I,e,D]:=gP q F;let g:=q.good r<|zah t;let E:lo R (v,pre (XS L v) y)=lo R (y,v):=by
     let:nx L (y,v)=dj r (j+1):=by rw[e,g.st]
     let:(v,pre (XS L v) y)=dj r (j+1):=this;rw[this,iH q t,D]
    show(if lo R (y,v)=f then(1:Int)else 0)=if lo R (v,pre (XS L v) y)=f then 1 else 0;rw[E]
  exact this _ λ_ h=>h
 rw[C,nG<|perm.map _];lia
theorem EB(m:av L)(a:fN L R){k:Nat}(b:R[k]?=some r):((eN L L.z).filter λd=>decide<|lo R d=(k:Int)).Perm<|sh 0 r:=by
 let o:=bJ m<|zai L.z;let l:=zah b;let g:=a.good r l;let f:0<r.z:=by let:=g.two;lia
 let p:(sh 0 r).Nodup:=by let:=a.nd;rw[zeh]at this ⊢;exact(List.pairwise_flatMap.mp this).1 r l
 rw[zdu (o.sublist filter_sublist) p];ext d;rw[zeR,zcD];constructor;ext⟨h,e⟩;let#[i,t,j,c,s,n,q]:=gP a<|Dt.of h;let:i=k:=();subst this;rw[b]at c;cases c;exact(bE f).mpr #[j,n];ext h;let#[j,rfl]:=(bE f).mp h;exact#[(g.dt j).all,iH a b j]
theorem EO(m:av L)(f:fN L R)(fn:tS<|Du R)(q:i<R.z)(s:j<R.z):Dt.sm (cI L L.z).z (λe=>Nn (lo R) (i:Int) (gI L e)*Nn (lo R) (j:Int) (gI L e))=dI (Du R) i j:=by
 let b:=zaf q;let o:=mF b;let l:=fn i (ja R 0 R[i]) (by rw[<-o];let:=aD (L:=Du R) (a:=(i:Int)) () (by rw[eK];lia);rwa [zau]at this);rw[yj m,nG<|EB m f b,xw];let p:ls (sh 0 R[i]) (λd=>if lo R d=(j:Int)then 1 else 0)=if i=j then((ja R 0 R[i]).z:Int)else 0:=by
  let n:0<R[i].z:=by let:=(f.good _<|zah b).two;lia
  by_cases c:i=j;rw[zad c,kJ λd g=>?_,kI,cK,eR,zdx];let#[k,rfl]:=(bE n).mp g;rw[iH f b,zad ()];rw[zab c,kJ λd g=>?_,kI,zbD];let#[k,rfl]:=(bE n).mp g;rw[iH f b,zab ()]
 let r:ls (sh 0 R[i]) (λd=>if lo R (lQ d)=(j:Int)then 1 else 0)=if(j:Int)∈ja R 0 R[i]then 1 else 0:=sG (sh 0 R[i]) l.2;rw[p,r];unfold dI;rw[o];by_cases c:i=j;subst c;rw[zad rfl,zad rfl,zab l.1];lia;rw[zab c,zab c];by_cases h:(j:Int)∈ja R 0 R[i];rw[zad h,zad h];rfl;rw[zab h,zab h];rfl
noncomputable def Ca(L:cp)(p:ak->Int)(s x:Int):Prop:=∃w:Nat->Int,∀v,Dt.sm (cI L L.z).z (λe=>Nn p v (gI L e)*w e)=(if v=x then 1 else 0)-(if v=s then 1 else 0)
theorem Ca.refl:Ca L p s s:=#[λ_=>0,λv=>by rw[Dt.ff λi _=>zbD _];lia]
theorem Ca.step(m:av L){p:ak->Int}{s:Int}{d:ak}(x:Dt L d)(h:Ca L p s<|p d):Ca L p s<|p<|lQ d:=by
 let#[w,r]:=h;obtain⟨b,c,o,u⟩:∃(b:Nat) (c:Int),b<(cI L L.z).z/\∀v,Nn p v (gI L b)*c=(if v=p (lQ d)then 1 else 0)-(if v=p d then 1 else 0):=by
  let g:∀t∈cI L L.z,∃b,b<(cI L L.z).z/\gI L b=t:=λt n=>by let#[i,j,e]:=getElem_of_mem n;exact#[i,j,by unfold gI;erw[zak,zaf j,e]]
  let f:∀a v:Int,(if a=v then(1:Int)else 0)=if v=a then 1 else 0:=λa v=>by by_cases z:a=v;rw[zad z,zad z.symm];rw[zab z,zab λy=>z y.symm]
  let:=(vE m).mem_iff.mp x.all;ext(h|h:zam.mp this);let#[b,k,l]:=g d h;refine#[b,-1,k,λv=>?_];rw[l];unfold Nn;rw[f,f<|p<|lQ d];lia;let#[t,n,e]:=zap.mp h;let#[b,k,l]:=g t n;refine#[b,1,k,λv=>?_];rw[l,<-e];unfold Nn;rw[Co,f,f<|p<|lQ t];lia
 refine#[λe=>w e+(if e=b then c else 0),λv=>?_];let q:Dt.sm (cI L L.z).z (λe=>Nn p v (gI L e)*(w e+if e=b then c else 0))=Dt.sm (cI L L.z).z (λe=>Nn p v (gI L e)*w e+Nn p v (gI L e)*(if e=b then c else 0)):=Dt.aF λe _=>Int.mul_add _ _ _;rw[q,Dt.kd,r v,Dt.cJ o λi _ j=>by rw[zab j,zbD],zad rfl,u v];lia
theorem Ca.sub(a:Ca L p s x)(c:Ca L p s y):Ca L p y x:=by let#[w,f]:=a;let#[u,d]:=c;refine#[λe=>w e-u e,λv=>?_];let b:Dt.sm (cI L L.z).z (λe=>Nn p v (gI L e)*(w e-u e))=Dt.sm (cI L L.z).z (λe=>Nn p v (gI L e)*w e-Nn p v (gI L e)*u e):=Dt.aF λe _=>Int.mul_sub _ _ _;rw[b,Dt.rF,f v,d v];lia
theorem vi(m:av L){s x:Int}(f:0<=s)(c:s<L.z)(h:Reach L s x):Ca L Prod.fst s x:=by
 induction h with
 | here=>exact .refl
 | step h e a b=>
  rename_i i l x;let d:=Reach.oj e a;exact Ca.step m d b
theorem zD(m:av L)(c:fN L R)(h:Reach (Du R) s x):Ca L (lo R) s x:=by
 induction h with
 | here=>exact .refl
 | step h e b n=>
  rename_i i l x;let o:i<R.z:=by let:=(zac.mp e).1;rwa[eK]at this
  let a:=zaf o;let f:l=ja R 0 R[i]:=by erw[<-mF a,(dh e).symm]
  rw[f]at b;let#[d,k,rfl]:=zap.mp b;let g:=c.good _<|zah a;let#[j,rfl]:=(bE (by let:=g.two;lia)).mp k;let:=Ca.step m (p:=lo R) (s:=s) (g.dt j) (by erw[iH c a,n]);exact this
theorem Bb(t:da L)(a:fN L R):Dt.det (L.z-1) (dI L)=Dt.det (R.z-1) (dI<|Du R):=by
 let m:=t.map;let four:=t.four;let I:=t.xD a;let u:=t.Ol a;let fn:=t.Fi.jZ t.cq t.pW t.four a;let H:=(t.cq.lands t.four a).2;let E:(cI L L.z).z=(L.z-1)+(R.z-1):=();let A:∀x:Int,0<=x->x<L.z->Ca L Prod.fst ((L.z-1:Nat):Int) x:=λx h y=>by let#[s,g,r]:=t.cq.span x h y;let#[F,k,b]:=t.cq.span ((L.z-1:Nat):Int) () ();rw[zaj.mp g]at r;rw[zaj.mp k]at b;exact(vi m () () r).sub<|vi m () () b
 let G:∀x:Int,0<=x->x<R.z->Ca L (lo R) ((R.z-1:Nat):Int) x:=λx h y=>by let dl:=eK (R:=R);let#[s,g,r]:=u.cq.span x h ();let#[F,k,b]:=u.cq.span ((R.z-1:Nat):Int) () ();rw[zaj.mp g]at r;rw[zaj.mp k]at b;exact(zD m a r).sub<|zD m a b
 let o:∀x:Nat,∃w:Nat->Int,x<L.z->∀v,Dt.sm (cI L L.z).z (λe=>Nn Prod.fst v (gI L e)*w e)=(if v=(x:Int)then 1 else 0)-(if v=((L.z-1:Nat):Int)then 1 else 0):=λx=>by by_cases c:x<L.z;let#[w,n]:=A (x:Int) () ();exact#[w,λ_=>n];exact#[λ_=>0,λz=>absurd z c]
 let p:∀x:Nat,∃w:Nat->Int,x<R.z->∀v,Dt.sm (cI L L.z).z (λe=>Nn (lo R) v (gI L e)*w e)=(if v=(x:Int)then 1 else 0)-(if v=((R.z-1:Nat):Int)then 1 else 0):=λx=>by by_cases c:x<R.z;let#[w,n]:=G (x:Int) () ();exact#[w,λ_=>n];exact#[λ_=>0,λz=>absurd z c]
 let l:=Dt.Ij (q:=R.z-1) (B:=λi e=>Nn Prod.fst (i:Int)<|gI L e) (C:=λi e=>Nn (lo R) (i:Int)<|gI L e) (D:=λe x=>(o x).choose e) (D':=λe x=>(p x).choose e)
  (λi j d f=>by erw[<-E,Ou m a () ()])
  (λi j d f=>by rw[<-E];let:=(o j).choose_spec () (i:Int);refine this.trans ?_;rw[zab (show ¬(i:Int)=((L.z-1:Nat):Int)by lia),Int.sub_zero];by_cases z:i=j;rw[zad z,zad ()];rw[zab z,zab ()])
  (λi j d f=>by rw[<-E];let:=(p j).choose_spec () (i:Int);refine this.trans ?_;rw[zab (show ¬(i:Int)=((R.z-1:Nat):Int)by lia),Int.sub_zero];by_cases z:i=j;rw[zad z,zad ()];rw[zab z,zab ()])
 let k1:Dt.det (L.z-1) (dI L)=Dt.det (L.z-1) (Dt.lI ((L.z-1)+(R.z-1)) λi e=>Nn Prod.fst (i:Int)<|gI L e):=Dt.aL λi j d f=>by erw[<-E,(HW m () ()).symm]
 let k2:Dt.det (R.z-1) (dI<|Du R)=Dt.det (R.z-1) (Dt.lI ((L.z-1)+(R.z-1)) λi e=>Nn (lo R) (i:Int)<|gI L e):=Dt.aL λi j d f=>by erw[<-E,(EO m a fn () ()).symm]
 erw[k1,k2,l]
end Gm
namespace Dt
open PySem L2 Fr Gm
theorem Cd.Mt(c:Cd n m M n n A0 W d A):det n A0=d:=by erw[c.ba.dt,(c.dt (det n) λB k r a b=>Dq.DN B a b).symm]
end Dt
namespace Dt
theorem MG(a:Nat):sg (a+2)=sg a:=by show - -sg a=sg a;lia
noncomputable def sD(T:Mx)(r c:Nat):Mx:=λi j=>T (sk r i)<|sk c j
theorem Az(a:c<n)(h:∀i,i<n->A i c=0):det n A=0:=by rw[aL (B:=cl A c λ_=>0) λi j b d=>?_,qN a];unfold cl;by_cases z:j=c;rw[zad z,z];exact h i b;rw[zab z]
theorem O6:∀(n:Nat) (T:Mx) (r c:Nat),r<n+1->c<n+1->det (n+1) (cl T c<|un r)=sg (r+c)*det n (sD T r c)
 | n,T,0,c,_,hc=>by rw[aY,cJ hc λj d g=>?_];rw[bF,eI,show un 0 0=1 from rfl,zbQ,zdx];congr 1;rw[Az (DI g hc d) λi s=>by erw[lW _ g,bF,zab ()],zbD]
 | 0,T,r+1,c,hr,_=>()
 | n+1,T,r+1,c,hr,hc=>by
  let term:∀j,j<n+2->sg j*cl T c (un<|r+1) 0 j*det (n+1) (mi (cl T c<|un<|r+1) j)=if j=c then 0 else sg j*T 0 j*(sg (r+dn j c)*det n (sD (mi T j) r<|dn j c)):=λj d=>by by_cases z:j=c;rw[zad z,z,bF,show un (r+1) 0=0 from zab (),zbD,zed];rw[zab z,cP _ _ z,lW _ z];let e:(λi=>un (r+1)<|i+1)=un r:=(by funext i;unfold un;by_cases y:i=r;rw[zad (),zad y];rw[zab (),zab y]);rw[e,O6 n (mi T j) r (dn j c) ()<|DI z hc d]
  rw[aY,aF term,aY];let skip:∀(m:Nat) (f:Nat->Int),c<m+1->sm (m+1) (λj=>if j=c then 0 else f j)=sm m λj=>f<|sk c j:=λm=>by
   induction m with
   | zero=>
    ext f h;show 0+(if 0=c then 0 else f 0)=0;rw[zad ()];rfl
   | succ m q=>
    ext f h;by_cases z:c=m+1;show sm (m+1) (λj=>if j=c then 0 else f j)+(if m+1=c then 0 else f (m+1))=_;erw[zad z.symm,zcS,aF λj d=>by rw[zab (),show sk c j=j from zad ()]]
    show sm (m+1) (λj=>if j=c then 0 else f j)+(if m+1=c then 0 else f (m+1))=sm m (λj=>f<|sk c j)+f (sk c m);rw[q f (),zab (),show sk c m=m+1 from zab ()]
  rw[skip (n+1) (λj=>sg j*T 0 j*(sg (r+dn j c)*det n (sD (mi T j) r<|dn j c))) hc,<-oG];refine aF λj d=>?_;let o:sD T (r+1) c 0 j=T 0 (sk c j):=by show T (sk (r+1) 0) (sk c j)=_;rw[show sk (r+1) 0=0 from zad ()]
  let k:det n (mi (sD T (r+1) c) j)=det n (sD (mi T<|sk c j) r<|dn (sk c j) c):=aL λi l _ _=>by
   show T (sk (r+1)<|i+1) (sk c<|sk j l)=T (sk r i+1) (sk (sk c j)<|sk (dn (sk c j) c) l);let a:sk (r+1) (i+1)=sk r i+1:=by unfold sk;split<;>split<;>lia
   let b:sk c (sk j l)=sk (sk c j) (sk (dn (sk c j) c) l):=by unfold sk dn;(repeat' split)<;>lia
   rw[a,b]
  rw[o,k];let p:sg (sk c j)*sg (r+dn (sk c j) c)=sg (r+1+c)*sg j:=by rw[<-js,<-js];by_cases z:j<c;rw[show sk c j=j from zad z,show dn j c=c-1 from zab (),show r+1+c+j=(j+(r+(c-1)))+2 by lia,MG];rw[show sk c j=j+1 from zab z,show dn (j+1) c=c from zad ()];congr 1;lia
  let:sg (sk c j)*T 0 (sk c j)*(sg (r+dn (sk c j) c)*det n (sD (mi T<|sk c j) r<|dn (sk c j) c))=(sg (sk c j)*sg (r+dn (sk c j) c))*(T 0 (sk c j)*det n (sD (mi T<|sk c j) r<|dn (sk c j) c)):=by grind
  rw[this,p];grind
theorem DW(h:∀i,i<n->sm n (K i)=0)(v:Nat->Int)(m:c<n)(f:d<n):det n (cl K c v)=det n (cl K d v):=by
 by_cases e:c=d;rw[e];let w:det n (cl K c v)=det n (cl (cl K c v) d λi=>- K i c):=by
  let t:=lC (cl K c v) (λl i=>if l=c then 0 else K i l) f n;let p:det n (cl (cl K c v) d λi=>- K i c)=det n (cl (cl K c v) d λi=>sm n λl=>if l=c then 0 else K i l):=aL λi j g r=>by
   unfold cl;by_cases z:j=d;rw[zad z,zad z];let a:=h i g;let b:sm n (K i)=sm n (λl=>(if l=c then 0 else K i l)+if l=c then K i c else 0):=aF λl _=>by by_cases y:l=c;rw[zad y,zad y,y];lia;rw[zab y,zab y];lia
   rw[b,kd,cJ m<|λl _ y=>zab y,zad rfl]at a;show-K i c=sm n λl=>if l=c then 0 else K i l;lia;rw[zab z,zab z]
  rw[p,t,cJ (k:=d) f λl s o=>?_];exact aL λi j g r=>by unfold cl;by_cases z:j=d;rw[zad z,zab<|show ¬j=c from λy=>e<|y.symm.trans z,z];show K i d=if d=c then 0 else K i d;rw[zab λy=>e y.symm];rw[zab z]
  by_cases y:l=c;exact Az f λi _=>by rw[bF,zad y]
  refine dP f s (zaZ o) λi _=>?_;rw[bF,zab y,cP _ _ o,cP _ _ y]
 let q:det n (cl (cl K c v) d λi=>- K i c)=- det n (cl (cl K c v) d λi=>K i c):=by
  let:=eU (A:=cl K c v) (-1) (λi=>K i c) f;let u:(λi=>-1*K i c)=λi=>- K i c:=by funext i;lia
  rw[u]at this;rw[this];lia
 rw[w,q,nZ m f e];rw[eW];lia
theorem vw(m:∀i j,i<n+1->j<n+1->K i j=K j i)(h:∀i,i<n+1->sm (n+1) (K i)=0)(a:c<n+1)(b:d<n+1):det n (sD K c c)=det n (sD K d d):=by
 let g:∀x,sg (x+x)=1:=λx=>by rw[js,mY]
 let l:det n (sD K c c)=sg (c+d)*det n (sD K c d):=by let f:=O6 n K c c a a;let e:=O6 n K c d a b;rw[DW h (un c) a b,e,g]at f;lia
 let k:det n (sD K d d)=sg (d+c)*det n (sD K d c):=by let f:=O6 n K d d b b;let e:=O6 n K d c b a;rw[DW h (un d) b a,e,g]at f;lia
 let p:det n (sD K d c)=det n (sD K c d):=by erw[<-mG,aL λi j o q=>by exact m _ _ (lS q)<|lS o]
 rw[l,k,p,zdi d c]
theorem IE(A:Mx):∀n m,∃M,∀i j,i<n->j<m->(A i j).natAbs<=M:=λn=>by
 let a:∀i m,∃M,∀j,j<m->(A i j).natAbs<=M:=λi m=>by
  induction m with
  | zero=>exact#[0,λj h=>()]
  | succ m b=>
   let#[M,h]:=b;refine#[M+(A i m).natAbs,λj c=>?_];by_cases e:j=m;rw[e];lia;let:=h j ();lia
 induction n with
 | zero=>exact λm=>#[0,λi j h=>()]
 | succ n b=>
  ext m;let#[M,h]:=b m;let#[N,k]:=a n m;refine#[M+N,λi j d c=>?_];by_cases e:i=n;rw[e];let:=k j c;lia;let:=h i j () c;lia
theorem IB{n M:Nat}{e:Mx}(h:∀i j,(e i j).natAbs<=M):∀k,k<=n->(∃W d A,Cd n n M k k e W d A)\/Ld n n e
 | 0,_=>.inl #[e,1,e,Cd.start h]
 | k+1,hk=>by
  ext(⟨W,d,A,c⟩|s:IB (n:=n) h k ());by_cases z:∃r,k<=r/\r<n/\W r k≠0;let#[r,l,g,m]:=z;left;by_cases w:W k k=0;let rk:k<r:=by ext(q|q:zeD k r);exact q;exact absurd (by erw[show r=k by lia,w]) m
  let a:=c.led rk g;let#[f,_,_,b]:=a.ba.step (by rw[f9];lia);exact#[f,_,_,b,a.b2,a.b1,a.Nw,a.dt];let a:=c.weak;let#[f,_,_,b]:=a.ba.step w;exact#[f,_,_,b,a.b2,a.b1,a.Nw,a.dt];exact .inr<|c.JG () (zai _) λr l g=>Decidable.byContradiction λw=>z #[r,l,g,w];exact .inr s
theorem Ax(n:Nat)(A:Mx):det n A≠0\/Ld n n A:=by
 let#[M,m]:=IE A n n;let h:∀i j,((λi j=>if i<n/\j<n then A i j else 0:Mx) i j).natAbs<=M:=λi j=>by show(if i<n/\j<n then A i j else 0).natAbs<=M;by_cases c:i<n/\j<n;rw[zad c];exact m i j c.1 c.2;erw[zab c,zaS _]
 let e:det n A=det n (λi j=>if i<n/\j<n then A i j else 0):=aL λi j a f=>(zad #[a,f]).symm;ext(⟨W,d,o,c⟩|⟨u,b,k,x⟩:IB h n<|zai _);left;rw[e,c.Mt];exact c.ba.ne;refine .inr #[u,b,λi a=>?_,x];rw[<-k i a];exact aF λl g=>by show _=u l*(if i<n/\l<n then A i l else 0);rw[zad #[a,g]]
noncomputable def F8(A:Mx)(k r:Nat):Mx:=λi j=>A (if i=k then r else if i=r then k else i) j
theorem Ba.swap(b:Ba k A W d)(f:k<=r):Ba k (F8 A k r) (F8 W k r) d:=by
 let a:∀(B:Mx) i j,i<k->F8 B k r i j=B i j:=λB i j c=>by unfold F8;rw[zab (),zab ()]
 refine#[b.ne,?_,λi j c=>?_,λi j c=>?_];rw[b.dt];exact aL λi j c _=>(a A i j c).symm;erw[a A i j c,b.up i j c,aF λl e=>by rw[a A i l c,a W l j e]]
 show W (if i=k then r else if i=r then k else i) j=d*A (if i=k then r else if i=r then k else i) j-sm k λl=>A (if i=k then r else if i=r then k else i) l*F8 W k r l j;rw[b.lo _ j<|by split;lia;split<;>lia];congr 1;exact aF λl e=>by rw[a W l j e]
theorem KZ(A:Mx)(d:k<n)(g:r<n)(b:k≠r):det n (F8 A k r)=- det n A:=by
 rw[<-mG,<-mG n A];let e:=nZ d g b (tp A) (λi=>tp A i r)<|λi=>tp A i k;let f:det n (tp<|F8 A k r)=det n (cl (cl (tp A) k λi=>tp A i r) r λi=>tp A i k):=aL λi j _ _=>by unfold cl tp F8;by_cases a:j=r;rw[zad a,zab<|show ¬j=k from λz=>b<|z.symm.trans a,zad a];rw[zab a];by_cases c:j=k;simp[c,b];simp[a,c]
 rw[f,e,eW,eW]
theorem Ba.none(b:Ba k A W d)(a:k<n)(h:∀i,k<=i->i<n->W i k=0):det n A=0:=by let s:=b.stuck a h;refine tG (λi c=>s i c) a ?_;show(if k<k then W k k else if k=k then-d else 0)≠0;rw[zab<|zbf _,zad rfl];let:=b.ne;lia
end Dt
namespace Gm
open PySem L2
theorem HC(m:av L)(b:i<L.z)(a:j<L.z):dI L i j=dI L j i:=by unfold dI;by_cases c:i=j;rw[c];rw[zab c,zab<|show ¬j=i from λz=>c z.symm];by_cases h:(j:Int)∈XS L (i:Int);rw[zad h,zad (Dt.back (d:=((i:Int),(j:Int))) #[(),(),h] m).2.2.2];rw[zab h,zab λz=>h (Dt.back (d:=((j:Int),(i:Int))) #[(),(),z] m).2.2.2]
theorem Ee{n:Nat}{l:b9}(c:Nat->Bool)(g:l.Nodup)(b:∀x∈l,0<=x/\x<n):Dt.sm n (λq=>if c q=true/\(q:Int)∈l then 1 else 0)=((l.filter λx=>c x.toNat).z:Int):=by
 induction l with
 | nil=>rw[Dt.ff λi _=>zab A?];rfl
 | cons x l j=>
  let d:=zar.mp g;let o:=b x zal;let e:Dt.sm n (λq=>if c q=true/\(q:Int)∈x::l then 1 else 0)=Dt.sm n (λq=>(if c q=true/\(q:Int)∈l then 1 else 0)+if q=x.toNat then(if c x.toNat=true then 1 else 0)else 0):=Dt.aF λq _=>by
   by_cases z:q=x.toNat;let a:(q:Int)=x:=();let m:(q:Int)∉l:=by erw[a,d.1]
   rw[zab<|show ¬(c q=true/\(q:Int)∈l)from λy=>m y.2,zad z,zbk,<-z];by_cases y:c q=true;rw[zad y,zad #[y,by erw[a,zal]]];rw[zab y,zab λw=>y w.1];rw[zab z,zcS];let:(q:Int)∈x::l↔(q:Int)∈l:=#[λh=>(zas.mp h).resolve_left λy=>z (),λh=>zag _ h];by_cases y:c q=true/\(q:Int)∈l;rw[zad y,zad #[y.1,this.mpr y.2]];rw[zab y,zab λw=>y #[w.1,this.mp w.2]]
  rw[e,Dt.kd,j d.2 λy k=>b y<|zag _ k,Dt.cJ () λi _ f=>zab f,zad rfl,zdg];by_cases y:c x.toNat=true;rw[zad y,zad y,zbd];rfl;rw[zab y,zab y];lia
theorem sO(m:av L)(c:Nat->Bool)(g:i<L.z):Dt.sm L.z (λq=>if c q=true then dI L i q else 0)=(if c i=true then((XS L (i:Int)).z:Int)else 0)-(((XS L (i:Int)).filter λx=>c x.toNat).z:Int):=by
 let f:=aD (L:=L) (a:=(i:Int)) () ();let k:=m.nd _ _ f;let d:=λx b=>m.rg _ _ f x b;let n:(i:Int)∉XS L (i:Int):=λz=>(d _ z).2.2 A?;rw[<-Ee c k λx b=>#[(d x b).1,(d x b).2.1]];let e:Dt.sm L.z (λq=>if c q=true then dI L i q else 0)=Dt.sm L.z (λq=>(if q=i then(if c i=true then((XS L (i:Int)).z:Int)else 0)else 0)-if c q=true/\(q:Int)∈XS L (i:Int)then 1 else 0):=Dt.aF λq _=>by by_cases z:q=i;subst z;let o:dI L q q=((XS L (q:Int)).z:Int):=zad rfl;rw[o,zad rfl,zab<|show ¬(c q=true/\(q:Int)∈XS L (q:Int))from λy=>n y.2];lia;let l:dI L i q=if(q:Int)∈XS L (i:Int)then -1 else 0:=zab λy=>z y.symm;rw[l,zab z];by_cases y:c q=true<;>by_cases w:(q:Int)∈XS L (i:Int)<;>simp[y,w]
 rw[e,Dt.rF,Dt.cJ g λj _ h=>zab h,zad rfl]
theorem Df(m:av L)(a:i<L.z):Dt.sm L.z (dI L i)=0:=by let:=sO m (λ_=>true) a;rw[zad rfl]at this;let e:Dt.sm L.z (λq=>if(λ_=>true:Nat->Bool) q=true then dI L i q else 0)=Dt.sm L.z (dI L i):=Dt.aF λq _=>zad rfl;rw[e]at this;rw[this,List.filter_eq_self.mpr λ_ _=>rfl];lia
open _root_.Dt (sm sk sD cl un)
theorem II(f:Nat->Int):∀n,0<n->∃k,k<n/\∀i,i<n->f i<=f k
 | 0,h=>absurd h<|zbf _
 | 1,_=>#[0,(),λi b=>by erw[show i=0 by lia,Int.le_refl _]]
 | n+2,_=>by let#[k,d,a]:=II f (n+1) ();by_cases c:f (n+1)<=f k;exact#[k,(),λi b=>by by_cases e:i=n+1;rw[e];exact c;exact a i ()];exact#[n+1,(),λi b=>by by_cases e:i=n+1;rw[e];exact Int.le_refl _;let:=a i ();lia]
theorem FU{f:Int->Int}{c:Int}:∀{l:b9},(∀w∈l,c<=f w)->(l.z:Int)*c<=(l.map f).sum/\((l.map f).sum=(l.z:Int)*c->∀w∈l,f w=c)
 | [],_=>by simp
 | x::l,h=>by
  let d:=h x zal;let#[g,b]:=FU λw a=>h w<|zag _ a;let e:(((x::l).z:Nat):Int)*c=(l.z:Int)*c+c:=by rw[zbd];grind
  rw[zbg,zdo,e];refine#[(),λq w a=>?_];ext(z|z:zas.mp a);rw[z];lia;exact b () w z
noncomputable def qc(a b p:Nat):Nat:=if p=b then a else if b<p then p-1 else p
noncomputable def kc(L:cp)(a b x y:Nat):Int:=sm L.z λp=>if qc a b p=x then(sm L.z λq=>if qc a b q=y then dI L p q else 0)else 0
theorem qB(e:x≠a):qc a b p=x↔p=sk b x:=by unfold qc sk;by_cases c:p=b;rw[zad c];by_cases d:x<b;rw[zad d];exact#[λz=>absurd z.symm e,λz=>()];rw[zab d];exact#[λz=>absurd z.symm e,λz=>()];rw[zab c];by_cases d:x<b;rw[zad d];split<;>lia;rw[zab d];split<;>lia
theorem CG(m:av L){a b:Nat}(h:Dt L ((a:Int),(b:Int))){p q:Nat}(k:p<L.z)(j:p≠b)(l:q≠b):dI L p q=dI (rem L (a:Int) (b:Int)) p q+if p=a/\q=a then 1 else 0:=by
 let r:=mZ m h (x:=(p:Int)) ();rw[zab ()]at r;by_cases g:p=a;subst g;let mem:=h.mem;rw[zad rfl]at r;let i:((XS L (p:Int)).erase (b:Int)).z+1=(XS L (p:Int)).z:=by let:=length_erase_of_mem mem;let:=zcl mem;lia
 by_cases c:p=q;subst c;let f:dI L p p=((XS L (p:Int)).z:Int):=zad rfl;let e:dI (rem L (p:Int) (b:Int)) p p=((XS (rem L (p:Int) (b:Int)) (p:Int)).z:Int):=zad rfl;rw[f,e,r,zad #[rfl,rfl]];lia;let f:dI L p q=if(q:Int)∈XS L (p:Int)then -1 else 0:=zab c;let e:dI (rem L (p:Int) (b:Int)) p q=if(q:Int)∈XS (rem L (p:Int) (b:Int)) (p:Int)then -1 else 0:=zab c;let d:¬(p=p/\q=p):=λz=>c z.2.symm;let this:(q:Int)∈(XS L (p:Int)).erase (b:Int)↔(q:Int)∈XS L (p:Int):=mem_erase_of_ne ();rw[f,e,r,zab d,zcS];by_cases w:(q:Int)∈XS L (p:Int);rw[zad w,zad<|this.mpr w];rw[zab w,zab λz=>w<|this.mp z];rw[zab ()]at r;let d:¬(p=a/\q=a):=λz=>g z.1;let:dI (rem L (a:Int) (b:Int)) p q=dI L p q:=by unfold dI;rw[r]
 rw[this,zab d,zcS]
theorem Oo(m:av L)(ab:a<b)(O:b<L.z)(h:Dt L ((a:Int),(b:Int))):_root_.Dt.det (L.z-1) (dI L)=_root_.Dt.det (L.z-1) (dI<|rem L (a:Int) (b:Int))+_root_.Dt.det (L.z-2) (kc L a b):=by
 obtain⟨N,t⟩:∃N,L.z=N+2:=#[L.z-2,()];let K:=ng m h;let rl:=fg (L:=L) (a:=(a:Int)) (b:=(b:Int));rw[t,show N+2-1=N+1 by lia,show N+2-2=N by lia];let any:∀{M:cp},av M->M.z=N+2->_root_.Dt.det (N+1) (dI M)=_root_.Dt.det (N+1) (sD (dI M) b b):=λ{M} v I=>by
  let e:_root_.Dt.det (N+1) (dI M)=_root_.Dt.det (N+1) (sD (dI M) (N+1)<|N+1):=_root_.Dt.aL λi j f g=>by show _=dI M (sk (N+1) i) (sk (N+1) j);rw[show sk (N+1) i=i from zad f,show sk (N+1) j=j from zad g]
  erw[e,_root_.Dt.vw (n:=N+1) (λi j f g=>HC v () ()) (λi f=>by let:=Df v (i:=i) ();rw[I]at this;exact this) () ()]
 rw[any m t,any K<|by erw[rl,t]];let F:_root_.Dt.det (N+1) (sD (dI L) b b)=_root_.Dt.det (N+1) (cl (sD (dI<|rem L (a:Int) (b:Int)) b b) a λi=>1*sD (dI<|rem L (a:Int) (b:Int)) b b i a+1*un a i):=_root_.Dt.aL λi j f g=>by
  let r:sk b i<L.z:=by let:=_root_.Dt.lS (j:=b) f;lia
  let q:=CG m h r (_root_.Dt.mW b i)<|_root_.Dt.mW b j;show dI L (sk b i) (sk b j)=_;rw[q];unfold cl un;let o:∀x,sk b x=a↔x=a:=λx=>by unfold sk;split<;>lia
  by_cases z:j=a;rw[zad z];show _=1*dI (rem L (a:Int) (b:Int)) (sk b i) (sk b a)+1*if i=a then 1 else 0;rw[z];by_cases y:i=a;rw[zad y,zad #[(o i).mpr y,(o a).mpr rfl]];lia;rw[zab y,zab λw=>y<|(o i).mp w.1];lia;rw[zab z,zab λw=>z<|(o j).mp w.2];show _+0=dI (rem L (a:Int) (b:Int)) (sk b i) (sk b j);lia
 rw[F,_root_.Dt.df 1 1 _ _ _ (show a<N+1 by lia),_root_.Dt.eW,_root_.Dt.O6 N _ a a () ()];let G:_root_.Dt.sg (a+a)=1:=by rw[_root_.Dt.js,_root_.Dt.mY]
 rw[G,zcR,zcR,zcR];congr 1;let C:∀x,sm (N+1) (kc L a b x)=0:=λx=>by
  unfold kc;rw[_root_.Dt.ql];refine _root_.Dt.ff λp l=>?_;by_cases c:qc a b p=x;let:sm (N+1) (λy=>if qc a b p=x then(sm L.z λq=>if qc a b q=y then dI L p q else 0)else 0)=sm (N+1) (λy=>sm L.z λq=>if qc a b q=y then dI L p q else 0):=_root_.Dt.aF λy _=>zad c;rw[this,_root_.Dt.ql];let:sm L.z (λq=>sm (N+1) λy=>if qc a b q=y then dI L p q else 0)=sm L.z (dI L p):=_root_.Dt.aF λq s=>by rw[_root_.Dt.cJ (k:=qc a b q) (by unfold qc;split;lia;split<;>lia) λy _ E=>zab λz=>E z.symm,zad rfl]
  erw[this,Df m l,_root_.Dt.ff λy _=>zab c]
 let D:∀x y,kc L a b x y=kc L a b y x:=λx y=>by
  let flat:∀x y,kc L a b x y=sm L.z λp=>sm L.z λq=>if qc a b p=x/\qc a b q=y then dI L p q else 0:=λx y=>by
   unfold kc;refine _root_.Dt.aF λp _=>?_;by_cases c:qc a b p=x;rw[zad c];exact _root_.Dt.aF λq _=>by by_cases d:qc a b q=y;rw[zad d,zad #[c,d]];rw[zab d,zab λz=>d z.2]
   erw[zab c,(_root_.Dt.ff λq _=>zab λz=>c z.1).symm]
  rw[flat x y,flat y x,_root_.Dt.ql];refine _root_.Dt.aF λp l=>_root_.Dt.aF λq s=>?_;by_cases c:qc a b q=x/\qc a b p=y;rw[zad c,zad #[c.2,c.1],HC m s l];rw[zab c,zab λz=>c #[z.2,z.1]]
 let k1:_root_.Dt.det N (kc L a b)=_root_.Dt.det N (sD (kc L a b) N N):=_root_.Dt.aL λi j f g=>by show _=kc L a b (sk N i) (sk N j);rw[show sk N i=i from zad f,show sk N j=j from zad g]
 rw[k1,_root_.Dt.vw (n:=N) (λi j _ _=>D i j) (λi _=>C i) (show N<N+1 by lia)<|show a<N+1 by lia];refine _root_.Dt.aL λi j f g=>?_;show dI (rem L (a:Int) (b:Int)) (sk b<|sk a i) (sk b<|sk a j)=kc L a b (sk a i) (sk a j);let u:=_root_.Dt.mW a i;let A:=_root_.Dt.mW a j;let r:sk b (sk a i)<L.z:=by let:=_root_.Dt.lS (j:=b)<|_root_.Dt.lS (j:=a) f;lia
 let H:sk b (sk a j)<L.z:=by let:=_root_.Dt.lS (j:=b)<|_root_.Dt.lS (j:=a) g;lia
 unfold kc;rw[_root_.Dt.cJ (k:=sk b<|sk a i) r λp _ l=>zab λz=>l<|(qB u).mp z,zad<|(qB u).mpr rfl,_root_.Dt.cJ (k:=sk b<|sk a j) H λq _ s=>zab λz=>s<|(qB A).mp z,zad<|(qB A).mpr rfl];let:=CG m h r (_root_.Dt.mW b _)<|_root_.Dt.mW b<|sk a j;let B:∀x,sk b x=a->x=a:=λx w=>by unfold sk at w;split at w<;>lia
 rw[zab<|show ¬(sk b (sk a i)=a/\sk b (sk a j)=a)from λz=>u<|B _ z.1]at this;lia
theorem JL{n:Nat}{l:b9}(f:Nat->Int)(g:l.Nodup)(b:∀x∈l,0<=x/\x<n):sm n (λq=>if(q:Int)∈l then f q else 0)=(l.map λx=>f x.toNat).sum:=by
 induction l with
 | nil=>rw[_root_.Dt.ff λi _=>zab A?];rfl
 | cons x l j=>
  let c:=zar.mp g;let m:=b x zal;let e:sm n (λq=>if(q:Int)∈x::l then f q else 0)=sm n (λq=>(if(q:Int)∈l then f q else 0)+if q=x.toNat then f x.toNat else 0):=_root_.Dt.aF λq _=>by
   by_cases z:q=x.toNat;let a:(q:Int)=x:=();rw[zab (show ¬(q:Int)∈l by erw[a,c.1]),zad z,zad (show(q:Int)∈x::l by erw[a,zal]),z];lia;let:(q:Int)∈x::l↔(q:Int)∈l:=#[λh=>(zas.mp h).resolve_left λy=>z (),λh=>zag _ h];rw[zab z,zcS];by_cases y:(q:Int)∈l;rw[zad y,zad<|this.mpr y];rw[zab y,zab λw=>y<|this.mp w]
  rw[e,_root_.Dt.kd,j c.2 λy k=>b y<|zag _ k,_root_.Dt.cJ () λi _ d=>zab d,zad rfl,zbg,zdo];lia
theorem HD(m:av L)(w:Nat->Int)(f:i<L.z):sm L.z (λq=>w q*dI L i q)=((XS L (i:Int)).z:Int)*w i-((XS L (i:Int)).map λx=>w x.toNat).sum:=by
 let d:=aD (L:=L) (a:=(i:Int)) () ();let h:=m.nd _ _ d;let c:=λx b=>m.rg _ _ d x b;let l:(i:Int)∉XS L (i:Int):=λz=>(c _ z).2.2 A?;rw[<-JL w h λx b=>#[(c x b).1,(c x b).2.1]];let e:sm L.z (λq=>w q*dI L i q)=sm L.z (λq=>(if q=i then((XS L (i:Int)).z:Int)*w i else 0)-if(q:Int)∈XS L (i:Int)then w q else 0):=_root_.Dt.aF λq _=>by by_cases z:q=i;subst z;let n:dI L q q=((XS L (q:Int)).z:Int):=zad rfl;rw[n,zad rfl,zab l,zcp];lia;let k:dI L i q=if(q:Int)∈XS L (i:Int)then -1 else 0:=zab λy=>z y.symm;rw[k,zab z];by_cases y:(q:Int)∈XS L (i:Int);rw[zad y,zad y];lia;rw[zab y,zab y];lia
 rw[e,_root_.Dt.rF,_root_.Dt.cJ f λj _ g=>zab g,zad rfl]
theorem A9(m:av L)(h2:1<=L.z):_root_.Dt.det (L.z-1) (dI L)=0↔¬∀x:Int,0<=x->x<L.z->Reach L 0 x:=by
 obtain⟨N,C⟩:∃N,L.z=N+1:=#[L.z-1,()];rw[C,show N+1-1=N by lia];constructor;ext R F;ext(h|⟨u,u0,k,l,v,ne⟩:_root_.Dt.Ax N<|dI L);exact h R
 
 let o:∀w:Nat->Int,(∀i,i<N->sm L.z (λq=>w q*dI L i q)=0)->w N=0->∀i,i<L.z->w i<=0:=λw t G=>by
  let#[p,hp,mx]:=II w L.z ();apply zaB;ext A;let P:0<w p:=by apply zaB;ext np;exact A λi f=>by let:=mx i f;lia
  let all:∀x:Int,Reach L (p:Int) x->(0<=x/\x<L.z)/\w x.toNat=w p:=λx g=>by
   induction g with
   | here=>exact#[#[(),()],by rw[zau]]
   | step Z e g E=>
    rename_i i r x;let#[ip,D]:=E;rw[zau]at D;let f:i<L.z:=();let d:=Reach.oj e g;let bk:=d.back m;refine#[#[bk.1,bk.2.1],?_];let M:i<N:=(by ext(q|q:zeD i N);exact q;rw[show i=N by lia,G]at D;lia);let s:=t i M;rw[HD m w f]at s;let I:=aD (L:=L) (a:=(i:Int)) () ();let lo:∀y∈XS L (i:Int),- w p<=(λy:Int=>- w y.toNat) y:=λy B=>by let:=m.rg _ _ I y B;let:=mx y.toNat ();show-w p<=- w y.toNat;lia
    let ns:((XS L (i:Int)).map λy:Int=>- w y.toNat).sum=- ((XS L (i:Int)).map λy:Int=>w y.toNat).sum:=by
     generalize XS L (i:Int)=l;induction l with
     | nil=>rfl
     | cons y l U=>rw[zbg,zdo,zbg,zdo,U];lia
    let q:=(FU lo).2 (by rw[ns,D]at *;grind) x (by erw[dh e,g]);have q :-w x.toNat=- w p:=q;lia
  let S:=all (N:Int)<|(Reach.sym (F (p:Int) () ()) m #[(),()]).trans<|F (N:Int) () ();let:=S.2;rw[zau,G]at this;lia
 let j:∀c:Int,∀i,i<N->sm L.z (λq=>(if q<N then c*u q else 0)*dI L i q)=0:=λc i f=>by
  rw[C];show sm N (λq=>(if q<N then c*u q else 0)*dI L i q)+(if N<N then c*u N else 0)*dI L i N=0;rw[zab<|zbf _,zed,zcS];let:sm N (λq=>(if q<N then c*u q else 0)*dI L i q)=sm N (λq=>c*(u q*dI L i q)):=_root_.Dt.aF λq Y=>by rw[zad Y,zff]
  rw[this,_root_.Dt.oG,k i f,zbD]
 let a:=o (λq=>if q<N then 1*u q else 0) (j 1) (zab<|zbf _) l ();let b:=o (λq=>if q<N then -1*u q else 0) (j<|-1) (zab<|zbf _) l ();let a:=a;let b:=b;rw[zad v]at a b;lia;ext A
 open Classical in
 have⟨u,n⟩:∃u:Nat->Int,∀p:Nat,u p=if(Reach L 0 (p:Int)↔Reach L 0 (N:Int))then 0 else 1:=#[_,λ_=>rfl];let t:∀i,i<L.z->sm L.z (λq=>u q*dI L i q)=0:=λi f=>by
  rw[HD m u f];let I:=aD (L:=L) (a:=(i:Int)) () ();let same:∀y∈XS L (i:Int),u y.toNat=u i:=λy B=>by let d:Dt L ((i:Int),y):=#[(),(),B];let bk:=d.back m;let K:=bk.1;let e:Reach L 0 ((y.toNat:Nat):Int)↔Reach L 0 (i:Int):=(by erw[zbE K,#[λh=>Reach.one (d:=(y,(i:Int))) h #[bk.1,bk.2.1,bk.2.2.2],λh=>Reach.one (d:=((i:Int),y)) h d]]);rw[n,n,e]
  let:((XS L (i:Int)).map λx=>u x.toNat).sum=((XS L (i:Int)).z:Int)*u i:=by
   generalize XS L (i:Int)=l at same;induction l with
   | nil=>simp
   | cons y l E=>
    rw[zbg,zdo,E λz O=>same z<|zag _ O,same y zal,zbd];push_cast;grind
  lia
 let T:u N=0:=by rw[n,zad Iff.rfl]
 obtain⟨l,v,X⟩:∃l,l<N/\u l≠0:=by by_cases c:Reach L 0 (N:Int);let#[x,g]:=Classical.not_forall.mp A;let:=g;let#[Q,W]:=Classical.not_imp.mp this;let#[x1,H]:=Classical.not_imp.mp W;let xN:x≠(N:Int):=λz=>H (by erw[z,c]);refine#[x.toNat,(),?_];rw[n,zbE Q,zab<|λz=>H<|z.mpr c];decide;let n0:N≠0:=λz=>c (by erw[z,.here]);refine#[0,(),?_];rw[n,zab<|λz=>c<|z.mp .here];decide
 refine _root_.Dt.tG (u:=u) (λi f=>?_) v X;let:=t i ();rw[C]at this;let e:sm (N+1) (λq=>u q*dI L i q)=sm N (λq=>u q*dI L i q)+u N*dI L i N:=rfl;rw[e,T,zed,zcS]at this;exact this
end Gm
namespace Stb
open PySem PySem.Spec
theorem xW{a:Type}:∀{l:List a} {i:Nat} {x:a},l[i]?=some x->(x::l.eraseIdx i).Perm l
 | [],i,x,h=>by simp at h
 | y::l,0,x,h=>by injection h with h;subst h;exact .refl _
 | y::l,i+1,x,h=>by let:=xW (by simpa using h);exact(List.Perm.swap y x _).trans<|this.cons y
theorem CW{b:Type}(next:Nat->Nat):∀(fuel k:Nat) (left:List b) (a:Array b),left.z<=fuel->(pickOrder.go next fuel k left a).toList.Perm (a.toList++left)
 | 0,k,left,a,h=>by let:left=[]:=List.length_eq_zero_iff.mp ();subst this;unfold pickOrder.go;rw[zcP]
 | fuel+1,k,left,a,h=>by
  unfold pickOrder.go;cases e:left[next k%left.z]? with
  | none=>
   let:left=[]:=by
    cases left with
    | nil=>rfl
    | cons y l=>
     let:=List.getElem?_eq_none_iff.mp e;let:=zbr (next k) (show 0<(y::l).z by simp);lia
   subst this;rw[zcP]
  | some x=>
   let c:=(zac.mp e).1;let:=CW next fuel (k+1) (left.eraseIdx<|next k%left.z) (a.push x) (by rw[length_eraseIdx_of_lt c];lia)
   refine this.trans ?_;erw[Array.toList_push,zck,(xW e).append_left _]
theorem oQ(next:Nat->Nat)(xs:Array α):(pickOrder next xs).toList.Perm xs.toList:=by
 let:=CW next xs.size 0 xs.toList #[] A?
 exact this
end Stb
namespace L2
open PySem
theorem lay(b:H p=none)(a:upd H p o=G):ai H G/\G p=some o:=by subst a;exact#[ai.upd b,ah]
end L2
namespace IQ
open PySem L2 Fr Gm
section
open Fw
def top(i:Nat):Stmt:=PySem.Challenge.pw_standup_k35_whole_trees_of_maps.main.body.getD i<|.Pass #[0,0,0,0]
abbrev Bi:Stmt:=top 7
abbrev oH:Stmt:=top 8
abbrev wM:Stmt:=top 9
abbrev rP:Stmt:=top 10
abbrev ki:Stmt:=top 11
abbrev iM:Stmt:=top 12
abbrev wJ:Stmt:=top 13
abbrev wL:Stmt:=top 14
abbrev jv:Stmt:=top 15
abbrev fT:Stmt:=top 17
abbrev wK:Stmt:=top 18
abbrev gE:Stmt:=top 20
abbrev ju:Stmt:=top 21
abbrev F7:Stmt:=top 22
abbrev iL:Stmt:=top 23
abbrev fU:Stmt:=top 24
abbrev oI:Stmt:=top 25
abbrev iO:Stmt:=top 26
abbrev mj:Stmt:=top 28
abbrev wI:Stmt:=top 29
abbrev rO:Stmt:=top 31
abbrev kj:Stmt:=top 32
abbrev jw:Stmt:=top 34
abbrev hX:Stmt:=top 35
abbrev jA:Stmt:=top 36
abbrev kr:Stmt:=top 37
abbrev hV:Stmt:=top 38
abbrev ko:Stmt:=top 39
abbrev iP:Stmt:=top 40
abbrev hZ:Stmt:=top 41
abbrev eD:Stmt:=top 42
abbrev jy:Stmt:=top 43
abbrev iQ:Stmt:=top 44
abbrev jz:Stmt:=top 45
abbrev hJ:Stmt:=top 46
abbrev iS:Stmt:=top 47
abbrev iR:Stmt:=top 48
abbrev fD:Stmt:=top 49
abbrev dX:Stmt:=top 50
abbrev jx:Stmt:=top 51
abbrev rQ:Stmt:=top 52
structure SS where
 pU:Addr
 yi:Addr
structure Txt(K:zcT)(mg:bx)(Z:SS):Prop where
 abs:mg "abs"=none
 len:mg "len"=none
 isinstance:mg "isinstance"=none
 int:mg "int"=none
 bool:mg "bool"=none
 enumerate:mg "enumerate"=none
 range:mg "range"=none
 min:mg "min"=none
 max:mg "max"=none
 list:mg "list"=none
 reversed:mg "reversed"=none
 sorted:mg "sorted"=none
 set:mg "set"=none
 zip:mg "zip"=none
 ye:mg "NoOne"=some (.ref Z.pU)
 E9:mg "NoOther"=some (.ref Z.yi)
 x_NoOne:PySem.W.excIn K Z.pU [.type "ValueError",.type "Exception",.type "BaseException",.type "object"] "ValueError.__new__"=true
 x_NoOther:PySem.W.excIn K Z.yi [.type "ValueError",.type "Exception",.type "BaseException",.type "object"] "ValueError.__new__"=true
 m1:PySem.W.exmOne K (.ref Z.pU) (.ref Z.pU)=some true
def yU:Sp:=λvs H Q _=>∃n:Int,vs=[.int n]/\Q (.bl true) H
def rB(K:zcT):Sp:=λvs H Q _=>∃(a:Addr) (ns:b9) (m:Nat),vs=[.ref a,.int (m:Int)]/\aK K H a ns.c/\ns.z<=63/\0<m/\m<=30/\
 ∀(t:Addr) (b:b9) H',ai H H'->H t=none->H' t=some (.lst b.c)->b.z=m->(∀x∈b,0<=x/\x<10 ^ 60+7)->Q (.ref t) H'
def j9:Sp:=λvs H Q _=>∃(n b p:Int),vs=[.int n,.int b,.int p]/\0<=n/\n<10 ^ 61/\2<=b/\b<=100/\0<=p/\p<=100/\∀d:Int,0<=d->d<b->Q (.int d) H
def Cy:Sp:=λvs H Q _=>∃n:Int,vs=[.int n]/\0<=n/\n<10 ^ 61/\∀t bs R m a,ai H a->aO a t bs R->m<=8->TR R m->Q (.ref t) a
def iZ:Sp:=λvs H Q _=>∃(p:Addr) (b:bp) (R:cp) (n:Nat),vs=[.ref p]/\aO H p b R/\TR R n/\n<=60/\∀a,ai H a->Q (.int (n:Int)) a
def rA:Sp:=λvs H Q _=>∃(p:Addr) (as:bp) (R:cp) (n:Nat) (k:Int),vs=[.ref p,.int k,.int (n:Int)]/\aO H p as R/\TR R n/\n<=60/\0<=k/\k<10 ^ 61/\∀t bs R' H',ai H H'->aO H' t bs R'->TR R' (n+1)->Q (.ref t) H'
def y6:Sp:=λvs H Q _=>∃(p:Addr) (c:bp) (R:cp) (n:Nat) (k:Int),vs=[.ref p,.int k]/\aO H p c R/\TR R n/\n<=60/\0<=k/\k<10 ^ 61/\∀t bs b a,ai H a->aO a t bs b->TR b n->Q (.ref t) a
def j8:Sp:=λvs H Q _=>∃(p:Addr) (c:bp) (L R:cp),vs=[.ref p]/\aO H p c R/\da L/\fN L R/\L.z<=60/\∀g b a,ai H a->H g=none->CD a g L R b->Q (.ref g) a
def u6:Sp:=λvs H Q _=>∃(p:Addr) (c:bp) (R:cp) (n:Nat),vs=[.ref p]/\aO H p c R/\TR R n/\n<=60/\∀t bs b a,ai H a->aO a t bs b->TR b R.z->Q (.ref t) a
def u9:Sp:=λvs H Q _=>∃(h:Addr) (b:b9),vs=[.ref h]/\H h=some (.lst b.c)/\6<=b.z/\(∀x∈b,0<=x/\x<10 ^ 60+7)/\∀t bs R n a,ai H a->aO a t bs R->n<=8->TR R n->Q (.ref t) a
def y4:Sp:=λvs H Q _=>∃(p:Addr) (c:bp) (R:cp) (n:Nat) (k:Int),vs=[.ref p,.int k]/\aO H p c R/\TR R n/\n<=60/\0<=k/\k<10 ^ 61/\∀t bs b a,ai H a->aO a t bs b->TR b n->Q (.ref t) a
def rC:Sp:=λvs H Q _=>∃(p:Addr) (c:bp) (R:cp) (n:Nat) (k:Int),vs=[.ref p,.int k]/\aO H p c R/\TR R n/\n<=60/\0<=k/\k<10 ^ 61/\∀t bs L a,ai H a->aO a t bs L->(t::bs).Nodup->(∀b∈t::bs,H b=none)->da L->L.z=n->Q (.ref t) a
def u7:Sp:=λvs H Q _=>∃(p:Addr) (a:bp) (L:cp) (d:ak),vs=[.ref p,.int d.1,.int d.2]/\aO H p a L/\av L/\Dt L d/\Q (.int (nx L d).2) H
def Cs:Sp:=λvs H Q _=>∃(p:Addr) (a:bp) (L:cp) (d:ak),vs=[.ref p,.int d.1,.int d.2]/\aO H p a L/\av L/\Dt L d/\(eN L L.z).z<128/\
 ∀(r:Addr) (k:Nat) H',ai H H'->H r=none->H' r=some (.lst<|(bg L d k).c)->0<k->it L d k=d->kY L d k->Q (.ref r) H'
def y9:Sp:=λvs H Q _=>∃(a:Addr) (r:b9),vs=[.ref a]/\H a=some (.lst r.c)/\0<r.z/\r.z<=1000/\
 ∀(b:Addr) (c:Nat) H',ai H H'->H b=none->H' b=some (.lst<|(c5 r c).c)->c<r.z->(∀j,j<r.z->Le (c5 r c) (c5 r j))->Q (.ref b) H'
def mU:Sp:=λvs H Q _=>∃(a:Addr) (r:b9),vs=[.ref a]/\H a=some (.lst r.c)/\0<r.z/\r.z<=1000/\
 ∀(t:Addr) (b:bp) H',ai H H'->H t=none->H' t=some (.lst b.d)->PR H' b (sh 0 r)->Q (.ref t) H'
def zc:Sp:=λvs H Q _=>∃(p:Addr) (a:bp) (L:cp),vs=[.ref p]/\aO H p a L/\av L/\L.z<=60/\(eN L L.z).z<128/\
 ∀(t:Addr) (bs:bp) (R:cp) H',ai H H'->aO H' t bs R->(t::bs).Nodup->(∀b∈t::bs,H b=none)->me L R->Q (.ref t) H'
def wo:Sp:=λvs H Q _=>∃(p:Addr) (c:bp) (L:cp),vs=[.ref p]/\aO H p c L/\L.z<=60/\av L/\
 ∀t b a,ai H a->H t=none->a t=some (.lst b.d)->PR a b (cI L L.z)->Q (.ref t) a
def Cw:Sp:=λvs H Q _=>∃(p:Addr) (b:bp) (L:cp) (S:b9) (st:Int) (sh:Addr),vs=[.ref p,.int st,.ref sh]/\aO H p b L/\H sh=some (.lst S.c)/\L.z<=60/\av L/\0<=st/\st<L.z/\
 ∀(t:Addr) (a:b9) H',ai H H'->H t=none->H' t=some (.dK<|a.map λx=>(Sum.inl x,V.bl true))->a.Nodup->(∀x,x∈a↔dW L S st x)->Q (.ref t) H'
def wA(K:zcT):Sp:=λvs H Q _=>∃(a:Addr) (ns:b9),vs=[.ref a]/\aK K H a ns.c/\ns.z<=63/\∀b,Q (.bl true) b
section
open Dt
def Bd:Sp:=λvs H Q _=>∃a b:Int,vs=[.int a,.int b]/\Q (.int (Int.gcd a b:Nat)) H
def yY:Sp:=λvs H Q _=>∃a b:Int,vs=[.int a,.int b]/\b≠0/\Sz 9000 b/\∀t u p c,Vq a b t u->ai H c->c p=some (.tup [.int t,.int u])->Q (.ref p) c
theorem Mh(c:b≠0)(d:Sz 9000 b):IX x ((Int.gcd a b:Nat):Int):=by let e:=qM a c;refine#[(),Sz.le d ?_];let:=Int.gcd_le_natAbs_right a c;simpa using this
theorem Mg(h:IX x d):IX x<|-d:=#[λe=>h.1 (),h.2.neg]
def oF:Sp:=λvs H Q _=>∃(a:Addr) (c:bp) (b:List<|Int×Int) (z:Nat),vs=[.ref a]/\H a=some (.lst c.d)/\PR H c b/\Fq z b/\z<=9000/\b.z<=1000/\
 (0<tV b->(∀f∈b,f.2 ∣ tV b)->(tV b).natAbs<=pd b->Q (.int<|tV b) H)
def Ct:Sp:=λvs H Q _=>∃(a:Addr) (c:bp) (b:List<|Int×Int) (z:Nat),vs=[.ref a]/\H a=some (.lst c.d)/\PR H c b/\Fq z b/\z<=9000/\b.z<=1000/\
 ∀(t:Addr) (l:b9) H',ai H H'->H t=none->H' t=some (.lst l.c)->Wh b (tV b) l->(tV b).natAbs<=pd b->Q (.ref t) H'
def F0(d:Addr):Sp:=λvs H Q E=>∃(p:Addr) (e:bp) (L:cp) (n m c:Nat),vs=[.ref p,.int (c:Int)]/\aO H p e L/\j4 L n m/\c<n/\c<m/\n<=1000/\m<=1000/\
 (∀(q:Addr) (bs:bp) (b:cp) a,ai H a->aO a q bs b->Led L b n c->Q (.ref q) a)/\((∀r,c<=r->r<n->mx L r c=0)->∀a,ai H a->E (.ref d) none a)
def Gn(r l:b9)(c:Nat)(d:Int):b9:=List.zipWith (λx y=>(l.getD c 0*x-r.getD c 0*y).fdiv d) r l
def yX:Sp:=λvs H Q _=>∃(a b:Addr) (r l:b9) (c m:Nat) (d:Int),vs=[.ref a,.ref b,.int (c:Int),.int d]/\H a=some (.lst r.c)/\H b=some (.lst l.c)/\r.z=m/\l.z=m/\c<m/\m<=1000/\d≠0/\Sz 9000 d/\(∀x∈r,Sz 9000 x)/\(∀x∈l,Sz 9000 x)/\
 ∀(t:Addr) H',ai H H'->H t=none->H' t=some (.lst<|(Gn r l c d).c)->Q (.ref t) H'
def ze:Sp:=λvs H Q _=>∃(p:Addr) (b:bp) (L:cp) (n m c:Nat) (d:Int),vs=[.ref p,.int (c:Int),.int d]/\aO H p b L/\j4 L n m/\c<n/\c<m/\n<=1000/\m<=1000/\d≠0/\Sz 9000 d/\(∀l∈L,∀x∈l,Sz 9000 x)/\
 ∀(q:Addr) (bs:bp) (a:cp) H',ai H H'->aO H' q bs a->Vt L a n m c d->Q (.ref q) H'
def rD(e:Addr):Sp:=λvs H Q E=>∃(p:Addr) (c:bp) (L:cp) (n m M:Nat),vs=[.ref p]/\aO H p c L/\j4 L n m/\n<=m/\n<=1000/\m<=1000/\1<=M/\(∀i j,(mx L i j).natAbs<=M)/\((n+1)*(2*M)) ^ (n+1)<2 ^ 9000/\
 (∀(q:Addr) (bs:bp) (b:cp) (A:Mx) (d:Int) a,ai H a->aO a q bs b->j4 b n m->Cd n m M n n (mx L) (mx b) d A->Q (.ref q) a)/\(Ld n m (mx L)->∀a,ai H a->E (.ref e) none a)
structure SzD(n:Nat)(R:List<|List<|Int×Int)(M PB:Nat):Prop where
 m1:1<=M
 en:∀fs∈R,∀f∈fs,f.1.natAbs*pd fs<=M
 big:((n+1)*(2*M)) ^ (n+1)<2 ^ 9000
 p1:1<=PB
 pb:∀fs∈R,pd fs<=PB
 M6:PB ^ n<2 ^ 9000
 fq:∀fs∈R,Fq 9000 fs
def ME:Sp:=λvs H Q _=>∃(p:Addr) (b:bp) (R:List<|List<|Int×Int) (n M a:Nat),vs=[.ref p]/\FG H p b R/\R.z=n/\0<n/\n<=1000/\(∀c∈R,c.z=n)/\SzD n R M a/\
 ∀(t u:Int) (r:Addr) H',Lw (t,u)->qt (t,u)=dq n R->t.natAbs<=(n*M) ^ n->u.natAbs<=a ^ n->ai H H'->H' r=some (.tup [.int t,.int u])->Q (.ref r) H'
end
def Cu:Sp:=λvs H Q _=>∃(t:Addr) (bs:bp) (R:cp),vs=[.ref t]/\aO H t bs R/\(R.flatMap<|sh 0).Nodup/\(∀r∈R,0<r.z)/\(R.flatMap<|sh 0).z<=1000/\
 ∀(g:Addr) H',ai H H'->H g=none->H' g=some (.dT<|kN<|lk (λ_=>0) R R.z)->Q (.ref g) H'
def yZ:Sp:=λvs H Q _=>∃(p:Addr) (a:bp) (L:cp),vs=[.ref p]/\aO H p a L/\av L/\L.z<=20/\(eN L L.z).z<128/\(∀R,me L R->tS (R.map<|ja R 0))/\
 ∀(R:cp) (t:Addr) (bs:bp) H',me L R->ai H H'->aO H' t bs (R.map<|ja R 0)->Q (.ref t) H'
def oD:Sp:=λvs H Q _=>∃(p:Addr) (b:bp) (L:cp) (d:ak),vs=[.ref p,.int d.1,.int d.2]/\aO H p b L/\av L/\L.z<=20/\Dt L d/\
 ∀t bs a,ai H a->aO a t bs (rem L d.1 d.2)->Q (.ref t) a
def zd:Sp:=λvs H Q _=>∃(p:Addr) (b:bp) (L:cp),vs=[.ref p]/\aO H p b L/\L.z<=60/\0<L.z/\av L/\
 ∀(a:b9) H',ai H H'->a.Nodup->(∀x,x∈a↔dW L [] 0 x)->Q (.bl<|decide<|(a.z:Int)=L.z) H'
def qX(l:b9)(x n:Nat):List<|Int×Int:=(List.range n).map λj=>if j=x then((l.z:Int),1)else if(j:Int)∈l then(-1,1)else(0,1)
def Cr:Sp:=λvs H Q _=>∃(a:Addr) (l:b9) (x n:Nat),vs=[.ref a,.int (x:Int),.int (n:Int)]/\H a=some (.lst l.c)/\l.z<=60/\x<n/\n<=60/\(∀y∈l,0<=y/\y≠(x:Int))/\
 ∀t c b,ai H b->H t=none->b t=some (.lst c.d)->PR b c (qX l x n)->Q (.ref t) b
def Cv:Sp:=λvs H Q E=>(∃p,vs=[.ref p]/\H p=some (.lst [])/\∀r a,ai H a->a r=some (.tup [.int 1,.int 1])->Q (.ref r) a)\/ME vs H Q E
def yW:Sp:=λvs H Q _=>∃(p:Addr) (b:bp) (L:cp),vs=[.ref p]/\aO H p b L/\av L/\1<=L.z/\L.z<=31/\∀a,ai H a->Q (.int<|_root_.Dt.det (L.z-1)<|dI L) a
def rq:Sp:=λvs H Q _=>∃(p:Addr) (c:bp) (L:cp) (k:Int),vs=[.ref p,.int k]/\aO H p c L/\av L/\L.z<=8/\0<L.z/\0<=k/\k<10 ^ 61/\
 ∀t bs b a,ai H a->aO a t bs b->av b->b.z=L.z->Q (.ref t) a
def Mn(L:cp):cp:=L++[[(L.z:Int)+1,(L.z:Int)+2],[(L.z:Int)+2,(L.z:Int)],[(L.z:Int),(L.z:Int)+1]]
def vb:Sp:=λvs H Q _=>∃(p:Addr) (b:bp) (L:cp),vs=[.ref p]/\aO H p b L/\L.z<=20/\∀t bs a,ai H a->aO a t bs (Mn L)->Q (.ref t) a
def EZ(L:cp)(f:Nat->Nat)(x y:Nat):Int:=_root_.Dt.sm L.z λp=>if f p=x then(_root_.Dt.sm L.z λq=>if f q=y then dI L p q else 0)else 0
def oE:Sp:=λvs H Q _=>∃(p c:Addr) (b:bp) (L:cp) (f:Nat->Nat) (m:Nat),vs=[.ref p,.ref c,.int (m:Int)]/\aO H p b L/\av L/\L.z<=31/\H c=some (.lst<|((List.range L.z).map λi=>(f i:Int)).c)/\1<=m/\m<=31/\(∀i,i<L.z->f i<m)/\
 ∀t bs M a,ai H a->aO a t bs M->_root_.Dt.j4 M (m-1) (m-1)->(∀i j,i<m-1->j<m-1->_root_.Dt.mx M i j=EZ L f i j)->Q (.ref t) a
def wu:Sp:=λvs H Q _=>∃(p:Addr) (b:bp) (M:cp) (n:Nat),vs=[.ref p]/\aO H p b M/\_root_.Dt.j4 M n n/\n<=31/\(∀i j,(_root_.Dt.mx M i j).natAbs<=1000)/\∀a,ai H a->Q (.int<|_root_.Dt.det n<|_root_.Dt.mx M) a
def pH:Sp:=λvs H Q _=>∃(p:Addr) (d:bp) (L:cp) (a b:Nat),vs=[.ref p,.int (a:Int),.int (b:Int)]/\aO H p d L/\av L/\L.z<=31/\a<b/\b<L.z/\∀c,ai H c->Q (.int<|_root_.Dt.det (L.z-2)<|kc L a b) c
def D7(n:Nat):cp:=((List.range n).map λ(k:Nat)=>[((k:Int)+1)%n,(n:Int),((k:Int)-1)%n])++[(List.range n).map λ(k:Nat)=>(k:Int)]
def yV:Sp:=λvs H Q _=>∃n:Nat,vs=[.int (n:Int)]/\3<=n/\n<=29/\∀t bs a,ai H a->aO a t bs (D7 n)->Q (.ref t) a
end
local macro_rules | `(tactic| walk_at "n")=>`(tactic| exact⟨rfl,rfl,rfl,by decide +kernel,rfl,by decide +kernel,by decide +kernel⟩)
local macro_rules | `(tactic| walk_at "q")=>`(tactic| first
 | with_reducible refine c4 ?_|with_reducible refine cB ?_|with_reducible refine dm ?_|with_reducible refine di ?_|with_reducible refine r_c ?_
 | ((with_reducible refine' dy ?hv ?_);case' hv=>exact rfl)
 | with_reducible refine gw ?_|with_reducible refine Gr ?_|with_reducible refine Gu ?_|with_reducible refine CM ?_|with_reducible refine Gy ?_
 | with_reducible refine ni ?_|with_reducible refine Gs ?_|with_reducible refine oP ?_|with_reducible refine GA ?_|with_reducible refine oM ?_|with_reducible refine S8 ?_|with_reducible refine MU ?_
 | with_reducible refine Gx ?_|with_reducible refine GH ?_|with_reducible refine JS ?_|with_reducible refine Bs ?_|with_reducible refine Gv ?_|with_reducible refine Bm ?_|with_reducible refine LG ?_
 | with_reducible refine bj ?_|with_reducible refine aJ ?_|with_reducible refine mv ?_|with_reducible refine i5 ?_|with_reducible refine pJ ?_|with_reducible refine rV ?_|with_reducible refine Bo ?_
 | with_reducible refine gK ?_|with_reducible refine oO ?_|with_reducible refine LD ?_|with_reducible refine LN ?_|with_reducible refine Se ?_|with_reducible refine NG ?_|with_reducible refine Qu ?_
 | ((with_reducible refine zv ?hc ?_);case' hc=>walk_at "side")
 | ((with_reducible refine' CL ?hp ?hi ?_);(case' hp=>walk_at "seq");(case' hi=>exact rfl))
 | ((with_reducible refine' aR ?hp ?hi ?_);(case' hp=>walk_at "seq");(case' hi=>exact rfl))
 | ((with_reducible refine' fE ?hp ?hi ?_);(case' hp=>walk_at "seq");(case' hi=>exact rfl))
 | ((with_reducible refine And.intro ?hl ?_);case' hl=>(first|exact F2|exact S2))
 | with_reducible refine Ej ?_|with_reducible refine GG ?_|with_reducible refine mq ?_|with_reducible refine LF ?_|with_reducible refine Gw ?_|with_reducible refine wU ?_|with_reducible refine CJ ?_|with_reducible refine CO ?_|with_reducible refine wR ?_
 | dsimp only)
local macro_rules | `(tactic| walk_at "")=>`(tactic| repeat walk_at "q")
local macro_rules | `(tactic| walk_at "blk_vis")=>`(tactic| first|exact Or.inl rfl|exact Or.inr (Or.inl rfl) | exact Or.inr (Or.inr rfl))
local macro_rules | `(tactic| walk_at "blk_ok")=>`(tactic| exact⟨rfl,by decide +kernel,by decide +kernel,rfl,by (first|exact trivial|exact⟨rfl,trivial⟩|exact⟨rfl,rfl,trivial⟩|exact⟨rfl,rfl,rfl,trivial⟩|exact⟨rfl,rfl,rfl,rfl,trivial⟩|exact⟨rfl,rfl,rfl,rfl,rfl,trivial⟩),rfl,
 by (first|exact aW|exact aq ⟨rfl,by walk_at "blk_vis",rfl,rfl⟩ aW|exact aq ⟨rfl,by walk_at "blk_vis",rfl,rfl⟩ (aq ⟨rfl,by walk_at "blk_vis",rfl,rfl⟩ aW) | exact aq ⟨rfl,by walk_at "blk_vis",rfl,rfl⟩ (aq ⟨rfl,by walk_at "blk_vis",rfl,rfl⟩ (aq ⟨rfl,by walk_at "blk_vis",rfl,rfl⟩ aW)) | exact aq ⟨rfl,by walk_at "blk_vis",rfl,rfl⟩ (aq ⟨rfl,by walk_at "blk_vis",rfl,rfl⟩ (aq ⟨rfl,by walk_at "blk_vis",rfl,rfl⟩ (aq ⟨rfl,by walk_at "blk_vis",rfl,rfl⟩ aW)))),
 by (first|exact aq rfl (aq rfl (aq rfl (aq rfl aW))) | exact aW|exact aq rfl aW|exact aq rfl (aq rfl aW) | exact aq rfl (aq rfl (aq rfl aW)))⟩)
local macro_rules | `(tactic| walk_at "blk_ok1")=>`(tactic| exact⟨rfl,λ_=>rfl,λ_=>rfl,by decide +kernel,rfl,by (first|exact trivial|exact⟨rfl,trivial⟩|exact⟨rfl,rfl,trivial⟩|exact⟨rfl,rfl,rfl,trivial⟩|exact⟨rfl,rfl,rfl,rfl,trivial⟩),rfl,
 by (first|exact aW|exact aq ⟨rfl,by walk_at "blk_vis",⟨rfl,rfl⟩,rfl⟩ aW|exact aq ⟨rfl,by walk_at "blk_vis",⟨rfl,rfl⟩,rfl⟩ (aq ⟨rfl,by walk_at "blk_vis",⟨rfl,rfl⟩,rfl⟩ aW) | exact aq ⟨rfl,by walk_at "blk_vis",⟨rfl,rfl⟩,rfl⟩ (aq ⟨rfl,by walk_at "blk_vis",⟨rfl,rfl⟩,rfl⟩ (aq ⟨rfl,by walk_at "blk_vis",⟨rfl,rfl⟩,rfl⟩ aW))),
 by (first|exact aW|exact aq rfl aW|exact aq rfl (aq rfl aW) | exact aq rfl (aq rfl (aq rfl aW)))⟩)
local macro_rules | `(tactic| walk_at "side")=>`(tactic| first|assumption|exact(show(0:Int)<_ by decide) | exact qP (by decide) (by decide) | exact DX (by decide) (by decide) | exact mulL (by decide) (by decide))
local macro_rules | `(tactic| walk_at "L")=>`(tactic| first|exact Or.inl rfl|exact Or.inr rfl)
local macro_rules | `(tactic| walk_at "seq")=>`(tactic| first|assumption|exact SqT.of (by assumption) | exact aK.of (by assumption))
section
open Fw
theorem gZ:aS ["orders", "start", "shut", "reached", "waiting", "place", "neighbour"] ["orders", "start", "shut"]<|aH oH:=by walk_at "n"
theorem Bv(D:Def K mg "come_to" oH ["orders", "start", "shut"])(T:Txt K mg Z):W! "come_to" 1 ["orders", "start", "shut"] Cw:=by
 exists D.dZ gZ,dQ,hr;let#[p,as,L,S,st,sh,rfl,_]:=h;rfl;let#[p,as,L,S,st,sh,rfl,g,QB,hn,im,s0,s1,q]:=h;refine#[_,(ae (aw (i:=3) gZ.nd rfl A!<|J4 (GQ (pv 1) vk J3) rfl rfl B! B!)<|ae (aw (i:=4) gZ.nd rfl A!<|bH<|aa (pv 1) af)<|ae (i7 zaE (aQ C4 (aE aN C! T.len bh<|aa (pv 4) af) aj<|aV _)<|ae (aw (i:=5) gZ.nd rfl A!<|M3 zbc PySem.F.slot_list_pop PySem.F.type_list_pop Nh<|pv 4)<|ao<|bN zaE rfl (bL<|aP aB (pv 0) (pv 5) C?) (aC (i:=6) gZ.nd rfl A!)<|ao<|cN (PW.pt<|pw_and (GL<|vn (lY hr) (pv 6)<|pv 3)<|pw_and1<|aQ w9 (pv 6) (pv 2)<|by with_unfolding_all rfl) (ae (qv (lY hr) (pv 3) (pv 6) vk rfl)<|ao<|eQ<|iG zbc zbv zbw dr (pv 4)<|aa (pv 6) af) bA)<|ao<|aU<|pv 3),?_]
 dsimp only[eg];ext;refine λt ht=>#[_,rfl,?_];refine#[ah,[(.inl st,.bl true)],rfl,by simp,?_];ext;refine#[by rw[zat];simp,λc W=>?_];let e0:ai H<|upd (upd H t<|.dK []) t<|.dK<|kF [] [(.inl st,.bl true)]:=ai.fresh (ai.upd ht) ht;let t0:upd (upd H t<|.dK []) t (.dK<|kF [] [(.inl st,.bl true)]) t=some (.dK<|[st].map λx=>((Sum.inl x:Key),V.bl true)):=ah;generalize upd (upd H t<|.dK []) t (.dK<|kF [] [(.inl st,.bl true)])=H0 at e0 t0 W ⊢;let wf:H c=none:=e0.free W;ext;refine lh (λB d=>∃(v u:b9) (v4 I:Option V),B=[p.e,st.f,sh.e,t.e,c.e,v4,I]/\ai H d/\d t=some (.dK<|v.map λx=>((Sum.inl x:Key),V.bl true))/\d c=some (.lst u.c)/\Fv L S st v u)
  (λ_ d=>match d t,d c with|some (.dK aT),some (.lst xs)=>2*(L.z-aT.z)+xs.z|_,_=>0) #[[st],[st],none,none,rfl,e0.trans<|ai.upd W,ai.upd W _ _ t0,ah,Fv.start] ?_
 ext B d ⟨v,u,v4,I,rfl,e1,Y,M,fl⟩;ext;refine#[_,_,rfl,.inl #[_,aK.of M,rfl],?_];rw[zaa];ext;refine if2 (λX=>?_)<|λX=>?_;refine w_turn ?_;rw[Y,M];dsimp only;rw[zaa,zaa];obtain⟨r,U,rfl⟩:∃r U,u=r++[U]:=#[u.dropLast,u.getLast (λz=>by rw[z]at X;simp at X),(dropLast_concat_getLast _).symm];let X4:=(fl.re U<|fl.sub U A?).rg im #[s0,s1];let#[pn,rfl]:=zaD X4.1;let#[b,l,ha,hl,bQ]:=g.at (i:=pn) ();let wt:c≠t:=λz=>by rw[z,Y]at M;cases M
 ext;refine#[.inl #[rfl,_,aK.of M],?_];refine#[c,_,.int (pn:Int),rfl,rfl,M,by simp,?_];let e2:ai H<|upd d c<|.lst ((r++[(pn:Int)]).c).dropLast:=ai.fresh e1 wf;let w2:upd d c (.lst ((r++[(pn:Int)]).c).dropLast) c=some (.lst r.c):=by rw[ah];simp
 let t2:upd d c (.lst ((r++[(pn:Int)]).c).dropLast) t=some (.dK<|v.map λx=>((Sum.inl x:Key),V.bl true)):=by erw[aG<|zaZ wt,Y]
 generalize upd d c (.lst ((r++[(pn:Int)]).c).dropLast)=H2 at e2 w2 t2 ⊢;ext;refine cM ?_;refine#[_,rfl,_,rfl,aR (aK.of<|e2 _ _ g.top) (g.ix ha) ?_];refine#[b,rfl,#[_,aK.of<|e2 _ _ bQ],fe (K:=K) (a:=b) (xs:=l.c) (λk B C=>∃(m j:b9) (I:Option V),B=[p.e,st.f,sh.e,t.e,c.e,pn.h,I]/\ai H C/\C t=some (.dK<|m.map λx=>((Sum.inl x:Key),V.bl true))/\C c=some (.lst j.c)/\Jn L S st m j pn l k/\2*(L.z-m.z)+j.z<2*(L.z-v.z)+(r++[(pn:Int)]).z)
  #[v,r,I,rfl,e2,t2,w2,fl.pop,by simp] (λk B C _ ⟨_,_,_,_,e,_⟩=>aK.of<|e _ _ bQ) ?_ ?_]
 ext k x B C R ⟨m,j,I,rfl,N,G,O,n,ms⟩;obtain⟨y,hy,rfl⟩:∃y,l[k]?=some y/\x=V.int y:=by
  rw[zao]at R;cases e:l[k]? with
  | none=>rw[e]at R;cases R
  | some z=>rw[e]at R;exact#[z,rfl,(zaq R).symm]
 let lk:=Fv.len im #[s0,s1] n.nd n.re;let lw:j.z<=m.z:=dH n.nw n.sub;ext;refine#[_,rfl,_,rfl,t,_,rfl,k7.k (k:=.inl y) G,?_];rw[qU];ext;refine jK (λSj=>?_)<|λTX=>?_;ext;refine PQ (ns:=S) (aK.of<|N _ _ QB) ?_;rw[zad rfl];ext;refine jK (λnS=>?_)<|λyS=>#[m,j,_,rfl,N,G,O,n.skip hy<|.inr yS,ms];let fa:=n.add hy Sj nS hl;let YM:=Fv.len im #[s0,s1] fa.nd fa.re;rw[zay,zbl]at YM;ext;refine#[_,rfl,_,rfl,t,_,rfl,tU.k (k:=.inl y) G (by erw[zaa,aI ()]),?_];rw[GJ Sj];let w4:upd C t (.dK<|(m++[y]).map λx=>((Sum.inl x:Key),V.bl true)) c=some (.lst j.c):=by erw[aG wt,O]
 ext;refine#[.inl #[rfl,_,aK.of w4],?_];ext;refine eE w4 (by erw[zaa,aI ()]) ?_;refine#[m++[y],j++[y],_,rfl,ai.fresh (ai.fresh N ht) wf,by erw[aG<|zaZ wt,ah],by erw[zaw (l₁:=j),ah],fa,?_];rw[zay,zay,zbl];lia;ext;exact#[m,j,_,rfl,N,G,O,n.skip hy<|.inl TX,ms];ext B C ⟨m,j,I,rfl,N,G,O,n,ms⟩;rw[zaa]at n;refine#[#[m,j,_,_,rfl,N,G,O,n.done hl],?_];rw[G,O];dsimp only;rw[zaa,zaa];exact ms;let Y7:u=[]:=by
  cases u with
  | nil=>rfl
  | cons a b=>simp at X
 subst Y7;ext;exact q t v d e1 ht Y fl.nd fl.all
end
local macro_rules | `(tactic| walk_at "")=>`(tactic| repeat (first | with_reducible refine zw ?_ | with_reducible refine PU ?_ | with_reducible refine Bq ?_ | walk_at "q"))
section
open Dt
theorem cw:aS ["one", "other", "great", "small", "rest"] ["one", "other"]<|aH fT:=by walk_at "n"
theorem nE(D:Def K mg "common_divisor" fT ["one", "other"])(T:Txt K mg Z):W! "common_divisor" 1 ["one", "other"] Bd:=by
 exists D.dZ cw,m,n;let#[a,b,rfl,_]:=h;rfl;let#[a,b,rfl,q]:=h;refine#[_,(ae (aw (i:=2) cw.nd rfl A!<|aE AH C! T.abs ID<|aa (pv 0) af)<|ae (aw (i:=3) cw.nd rfl A!<|aE AH C! T.abs ID<|aa (pv 1) af)<|ae (i7 zaE (aQ jS (pv 3) aj<|aV _)<|ae (aw (i:=4) cw.nd rfl A!<|aA bO (pv 2)<|pv 3)<|ae (aw (i:=2) cw.nd rfl A!<|pv 3)<|ao<|aw (i:=3) cw.nd rfl A!<|pv 4)<|ao<|aU<|pv 2),?_]
 refine#[_,rfl,a,rfl,_,rfl,b,rfl,?_];refine lh (λc k=>∃(x y:Int) (r:Option V),c=[a.f,b.f,x.f,y.f,r]/\k=H/\0<=x/\0<=y/\Int.gcd x y=Int.gcd a b)
  (λc _=>match c with | [_,_,_,some<|.int y,_]=>y.toNat|_=>0) #[_,_,_,rfl,rfl,by split<;>lia,by split<;>lia,KL a b] ?_
 ext c k ⟨x,y,r,rfl,rfl,g,l,j⟩;refine#[_,rfl,rfl,_,rfl,?_];rw[oh,zds];refine jK (λe=>?_)<|λe=>?_;let d:0<y:=();refine w_turn ?_;refine#[_,rfl,_,rfl,_,_,rfl,rfl,d,_,rfl,_,rfl,#[_,_,_,rfl,rfl,l,zbi _ e,?_],?_];rw[HX x y g d,j];show(x%y).toNat<y.toNat;let:=zba x d;lia;subst e;refine#[_,rfl,?_];rwa[<-j,KJ x g]at q
theorem rK:aS ["top", "bottom", "divisor"] ["top", "bottom"]<|aH wK:=by walk_at "n"
theorem Hb(D:Def K mg "ratio" wK ["top", "bottom"])(T:Txt K mg Z)(n:W! "common_divisor" 1 ["one", "other"] Bd):W! "ratio" 2 ["top", "bottom"] yY:=by
 exists D.dZ rK,t,m;let#[a,b,rfl,_]:=h;rfl;let#[a,b,rfl,c,j,q]:=h;refine#[_,(ae (cN (aQ eG (pv 1) aj<|aV _) (ao GN) bA)<|ae (aw (i:=2) rK.nd rfl A!<|az n m aZ<|aa (pv 0)<|aa (pv 1) af)<|ae (cN (aQ lV (pv 1) aj<|aV _) (ao<|aw (i:=2) rK.nd rfl A!<|zG qW<|pv 2) bA)<|ao<|aU<|dF<|aa (aA xf (pv 0)<|pv 2)<|aa (aA xf (pv 1)<|pv 2) af),?_]
 ext;refine if2 (λe=>absurd e c)<|λ_=>?_;let k:IX a _:=Mh (a:=a) c j;let l:IX b _:=Mh (a:=a) c j;let u:=Mg k;let r:=Mg l;ext;refine#[a,b,rfl,?_];ext;refine if2 (λg=>?_)<|λg=>?_;ext;ext p d;exact q _ _ p _ (Hm c<|by rw[zad g]) (ai.upd d) ah;ext;ext p d;exact q _ _ p _ (Hm c<|by rw[zab g]) (ai.upd d) ah
theorem eO:aS ["row", "bottom", "number"] ["row"]<|aH gE:=by walk_at "n"
theorem oT(D:Def K mg "common_bottom" gE ["row"])(T:Txt K mg Z)(W:W! "common_divisor" 1 ["one", "other"] Bd):W! "common_bottom" 2 ["row"] oF:=by
 exists D.dZ eO,Y,S;let#[a,C,l,z,rfl,_]:=h;rfl;let#[a,C,l,z,rfl,I,pr,N,u,hl,q]:=h;refine#[_,(ae (aw (i:=1) eO.nd rfl A! aj)<|ae (bN zaE rfl (bL<|pv 0) (aC (i:=2) eO.nd rfl A!)<|ao<|aw (i:=1) eO.nd rfl A!<|aA fj (aA ie (pv 1)<|az W S aZ<|aa (pv 1)<|aa (aP oW (pv 2) aj C?) af)<|aP oW (pv 2) aj C?)<|ao<|aU<|pv 1),?_]
 dsimp only[eg];ext;refine cM ?_;refine#[_,rfl,a,rfl,#[_,aK.of I],fe (λi r t=>∃(b:Int) (v:Option V),r=[a.e,b.f,v]/\b=tV (l.take i)/\t=H/\0<b/\(∀f∈l.take i,f.2 ∣ b)/\b.natAbs<=pd (l.take i)/\Sz (z*i+1) b) #[1,none,rfl,by simp[tV],rfl,by decide,by simp,by simp[pd],by unfold Sz;exact Nat.one_lt_two_pow ()] (λi r t _ ⟨_,_,_,_,e,_⟩=>by erw[e,aK.of I]) ?_ ?_];ext i x r t g ⟨b,v,rfl,k,rfl,G,p,j,F⟩;rw[zao]at g;obtain⟨c,U,rfl⟩:∃c,C[i]?=some c/\x=V.ref c:=by
  cases e:C[i]? with
  | none=>rw[e]at g;cases g
  | some c=>rw[e]at g;exact#[c,rfl,(zaq g).symm]
 let#[fr,d,qK]:=pr.at U;let L:=zah d;let R:=N.pos fr L;let B:=N.bot fr L;let#[X,n1,n2,n3]:=Hz G R;let g0:=qM b (show fr.2≠0 by lia);let gz:RS b ((Int.gcd b fr.2:Nat):Int):=#[(),Sz.le (B.mono u) (by let:=Int.gcd_le_natAbs_right b (show fr.2≠0 by lia);simpa using this)];let mz:=Sz.sC (m:=10000000) (n:=9000) (Sz.mono (Sz.le F (by
  let:(b / ((Int.gcd b fr.2:Nat):Int)).natAbs<=b.natAbs:=by let e1:=zey (show 0<=b by lia) (show 0<=((Int.gcd b fr.2:Nat):Int)by lia);let e2:=zej ((Int.gcd b fr.2:Nat):Int) (show 0<=b by lia);lia
  exact this)) (by let hi:=(zac.mp d).1;let:z*i<=9000*1000:=zbU u ();lia))<|B.mono u
 ext;refine#[b,fr.2,rfl,?_];ext;refine#[_,_,rfl,by rw[take_snoc d,HA,<-k],rfl,X,λf M=>?_,?_,?_];rw[take_snoc d]at M;ext(y|y:zam.mp M);exact Int.dvd_trans (p f y) n1;rw[zaj.mp y];exact n2;rw[take_snoc d,vm,M5];exact zaI n3<|zbV _ j;let:=Sz.mul F B;refine Sz.mono (Sz.le this<|by erw[zbG b,n3]) ?_;rw[Nat.mul_succ];lia;ext r t ⟨b,v,rfl,k,rfl,G,p,j,F⟩;let O:=pr.len;rw[zaa,O,zbp]at p j k;subst k;ext;exact q G p j
theorem lT:aS ["row", "bottom"] ["row"]<|aH ju:=by walk_at "n"
theorem uj(D:Def K mg "made_whole" ju ["row"])(T:Txt K mg Z)(fo:W! "common_bottom" 2 ["row"] oF):W! "made_whole" 3 ["row"] Ct:=by
 exists D.dZ lT,dQ,hr;let#[a,G,u,z,rfl,_]:=h;rfl;let#[a,G,u,z,rfl,S,pr,L,M,hl,q]:=h;let pl:=pr.len;refine#[_,(ae (aw (i:=1) lT.nd rfl A!<|az fo hr aZ<|aa (pv 0) af)<|ao<|aU<|dG (tg:=["number"]) (fr:=[("bottom",1)]) D! rfl (bL<|pv 0) (λ_ _ _ _ _=>(aC (i:=0) (show [("number":Str),("bottom":Str)].Nodup by decide +kernel) rfl A!)) (λ_ _ _ _ _=>bB)<|λ_ _ _ _ _=>(aA fj (aP (Dj rfl) (pv 0) aj C?)<|aA ie (pv 1)<|aP (Dj rfl) (pv 0) aj C?)),?_]
 dsimp only[eg];ext;refine#[a,G,u,z,rfl,S,pr,L,M,hl,λb0 bd R=>?_];obtain⟨b,hb⟩:∃b,tV u=b:=#[_,rfl];rw[hb]at b0 bd R ⊢;ext;refine cA ?_;refine#[_,rfl,a,rfl,#[_,aK.of S],λB Y=>?_];refine cU (K:=K) (a:=a) (xs:=G.d) (λi d ys t=>∃(l:b9) (v:Option V),d=[v,b.f]/\ys=l.c/\ai H t/\t B=some (.lst ys)/\Wh (u.take i) b l)
  #[[],none,rfl,rfl,ai.upd Y,ah,#[b0,by simp,λi f x p=>by simp at p]] (λi d ys t _ ⟨_,_,_,_,e,_⟩=>aK.of<|e _ _ S) ?_ ?_
 ext i x d ys t F hi ⟨l,v,rfl,rfl,O,X,I⟩;rw[zao]at F;obtain⟨c,hc,rfl⟩:∃c,G[i]?=some c/\x=V.ref c:=by
  cases e:G[i]? with
  | none=>rw[e]at F;cases F
  | some c=>rw[e]at F;exact#[c,rfl,(zaq F).symm]
 let#[fr,C,qK]:=pr.at hc;let xM:=(zac.mp C).1;let N:=zah C;let u0:=L.pos fr N;let uz:=L.bot fr N;let tz:=L.top fr N;let#[y,W]:=bd fr N;let ey:b / fr.2=y:=by erw[W,Int.mul_ediv_cancel_left _ ()]
 let U:l.z=i:=by rw[I.len,zbb];lia
 let gz:RS b fr.2:=#[u0,uz.mono M];let mz:IntMulOk fr.1<|b / fr.2:=by
  rw[ey];refine Sz.sC (m:=9000) (n:=10000000) (tz.mono M) ?_;let LQ:=zaI (by erw[W,zbG,zbY _ ()]) R;let Zj:∀r:List (Int×Int),(∀f∈r,Sz z f.2)->pd r<=2 ^ (z*r.z):=λr=>by
   induction r with
   | nil=>intro _;exact zai _
   | cons g r ih=>
    ext h;erw[zbd,Nat.mul_succ,zdi,Nat.pow_add,zbU (zcJ<|h g zal)<|ih λf C=>h f<|zag _ C]
  let k:=Zj u L.bot;let h3:z*u.z<10000000:=zbj (zbU M hl) B!;exact zbj (zaI LQ k)<|Nat.pow_lt_pow_right B! h3
 let ZE:=O _ _ qK;ext;refine#[X,by erw[zaa,U,aI ()],cZ hi #[l++[fr.1*(b / fr.2)],_,rfl,by rw[zaw];rfl,ai.fresh O Y,ah,#[b0,?_,λj g x p k=>?_]]];rw[zay,U,zbb,zbl];lia;rw[take_snoc C]at p;by_cases zz:j<i;rw[zaO<|by rw[zbb];lia]at p;rw[zaO ()]at k;exact I.eq j g x p k;let jl:=(zac.mp k).1;rw[zay,zbl]at jl;let ej:j=i:=();subst ej;rw[zaL (by rw[zbb];lia),zbb,Nat.min_eq_left (),zdl]at p;rw[zaL (),U,zdl]at k;cases p;cases k;rw[ey,W];grind;ext d ys t ⟨l,v,rfl,rfl,O,X,I⟩;rw[zaa,pl,zbp]at I;ext;subst hb;exact q B l t O Y X I R
theorem wH:aS ["rows", "column", "first", "row", "joined"] ["rows", "column"]<|aH F7:=by walk_at "n"
theorem Na(D:Def K mg "led" F7 ["rows", "column"])(T:Txt K mg Z):W! "led" 1 ["rows", "column"]<|F0 Z.pU:=by
 exists D.N6 wH,dQ,hr;let#[p,u,L,n,m,c,rfl,_]:=h;rfl;let#[p,u,L,n,m,c,rfl,g,rc,hc,UA,hn,hm,q,qe]:=h;let gl:=g.len;let rl:=rc.len;let#[b,l,hb,hl,bQ]:=g.at (i:=c) ();let ll:=rc.row l<|zah hl;obtain⟨x,hx⟩:∃x,l[c]?=some x:=#[l[c],by simp[show c<l.z by lia]];let ex:=pL hl hx;let Vf:j6 l.c ((c:Nat):Int)=some (V.int x):=cz (by rw[zao,hx];rfl);refine#[_,(ae (aw (i:=2) wH.nd rfl A!<|aP aB (pv 0) (pv 1) C?)<|ae (cN (aQ jS (aP aB (pv 2) (pv 1) C?) aj<|aV _) (ao<|aU<|pv 0) bA)<|ae (bN PassesOwn.leaving rfl (bL<|bG cg (pv 0) (bX<|aA bD (pv 1) aj) bR) (aC (i:=3) wH.nd rfl A!)<|ao<|cN (aQ jS (aP aB (pv 3) (pv 1) C?) aj<|aV _) (ae (eC (i:=4) wH.nd rfl A! (tg:=["one", "other"]) (fr:=[]) D! rfl (GS T.zip<|aa (pv 2)<|aa (pv 3) af) (λ_ _ _ _ _=>(nD (K:=K) rfl (n:=2) rfl<|bC (aC (i:=0) (show [("one":Str),("other":Str)].Nodup by decide +kernel) rfl A!)<|bC (aC (i:=1) (show [("one":Str),("other":Str)].Nodup by decide +kernel) rfl A!) fh)) (λ_ _ _ _ _=>bB)<|λ_ _ _ _ _=>(aA bD (pv 0)<|pv 1))<|ao<|aU<|aA dY (aA dY (bG cg (pv 0) bR<|bX<|pv 1)<|bH<|aa (pv 4) af)<|bG cg (pv 0) (bX<|aA bD (pv 1) aj) bR) bA)<|ao<|zB PySem.F.excBase_ValueError T.x_NoOne T.ye rfl (aa GV af) Gq),?_]
 dsimp only[eg];ext;refine aR (aK.of g.top) (g.ix hb) ?_;ext;refine aR (aK.of bQ) Vf ?_;ext;refine jK (λz=>?_)<|λz=>?_;ext;exact q p u L H (λ_ _ e=>e) g<|.inl #[rfl,by erw[ex,z]];ext;refine cM ?_;refine lj ?_;refine wV (a:=p) (i:=0) (k:=1) (n:=c) rfl rfl (aK.of g.top) (by rw[zaa];lia) λU HK=>?_;rw[<-map_drop];let e1:ai H<|upd H U<|.lst<|(u.drop<|c+1).d:=ai.upd HK;let g1:=g.dropped (c+1) HK;generalize upd H U (.lst<|(u.drop<|c+1).d)=H1 at e1 g1 ⊢;refine#[U,rfl,#[_,aK.of g1.top],fe (K:=K) (a:=U) (xs:=(u.drop<|c+1).d) (λi O I=>∃v3 v4:Option V,O=[p.e,c.h,b.e,v3,v4]/\ai H1 I/\∀r,c<r->r<c+1+i->mx L r c=0) #[none,none,rfl,λ_ _ e=>e,λr h1 h2=>()] (λi O I _ ⟨_,_,_,e,_⟩=>aK.of<|e _ _ g1.top) ?_ ?_];ext i y O I hy ⟨v3,v4,rfl,R,N⟩;let#[d,hd,rfl]:=rT hy;rw[getElem?_drop]at hd;let hi:c+1+i<n:=by let:=(zac.mp hd).1;lia
 let#[d2,r,M,Y,HI]:=g.at (i:=c+1+i) ();rw[hd]at M;cases M;let MO:=rc.row r<|zah Y;obtain⟨xr,Wu⟩:∃x,r[c]?=some x:=#[r[c],by simp[show c<r.z by lia]];let er:=pL Y Wu;let X5:j6 r.c ((c:Nat):Int)=some (V.int xr):=cz (by rw[zao,Wu];rfl);let G:=e1.trans R;ext;refine aR (aK.of<|G _ _ HI) X5 ?_;ext;refine jK (λz2=>?_)<|λz2=>?_;ext;refine cA ?_;refine#[_,rfl,_,rfl,b,d,rfl,#[_,aK.of<|G _ _ bQ],#[_,aK.of<|G _ _ HI],λt bq=>?_];refine AE (K:=K) (a:=b) (b:=d) (xs:=l.c) (ys:=r.c) (n:=m) (by rw[zaa,zaa];lia) (λi B zs v=>∃v1 v2:Option V,B=[v1,v2]/\zs=((List.zipWith (·+·) l r).take i).c/\ai I v/\v t=some (.lst zs))
  #[none,none,rfl,rfl,ai.upd bq,ah] (λi B zs v _ ⟨_,_,_,_,e,_⟩=>#[aK.of<|e _ _<|G _ _ bQ,aK.of<|e _ _<|G _ _ HI]) ?_ ?_
 ext j x1 y1 pr B zs v Jc NI hj ⟨v1,v2,rfl,rfl,W,S⟩ Dv;let#[x1,NK,rfl]:=int_at Jc;let#[y1,LQ,rfl]:=int_at NI;let C:ai v<|upd v pr<|.tup [.int x1,.int y1]:=ai.upd Dv;refine fE (SqT.of ah) rfl ?_;generalize upd v pr (.tup [.int x1,.int y1])=X at C ⊢;ext;refine#[C _ _ S,by erw[zaa,zbb,aI ()],cZ hj #[_,_,rfl,?_,ai.fresh (W.trans C) bq,ah]];rw[yF NK LQ,zaw];rfl;ext B zs v ⟨v1,v2,rfl,rfl,W,S⟩;rw[zcE<|by rw[zeV];lia]at S;let g3:=(g.same G).same W;ext;refine CK (a:=p) (i:=0) (k:=1) (n:=c) rfl rfl (aK.of g3.top) (by rw[zaa];lia) λq1 Sh=>?_;rw[<-zdH];let C:ai v<|upd v q1<|.lst<|(u.take c).d:=ai.upd Sh;let g4:=g3.taken c Sh;generalize upd v q1 (.lst<|(u.take c).d)=X at C g4 ⊢;ext;refine#[by rw[zat];simp,λq2 QK=>?_];let e5:ai X<|upd X q2<|.lst [.ref t]:=ai.upd QK;let g5:=aO.one (C _ _ S) QK;let W9:=g4.same e5;refine#[q1,q2,_,_,rfl,rfl,W9.top,g5.top,by rw[zaa,zbb,zat];simp;lia,λq3 QJ=>?_];let g6:=W9.uI g5 QJ;let e6:=e5.trans<|ai.upd (o:=.lst<|(u.take c).d++[t].d) QJ;refine(?_:IZ _ _ _ _ _ (upd _ q3<|.lst<|(u.take c).d++[t].d) _);generalize upd (upd X q2<|.lst [.ref t]) q3 (.lst<|(u.take c).d++[t].d)=H6 at e6 g6 ⊢;let Rh:=C.trans e6;let Xa:=g3.same Rh;refine wV (a:=p) (i:=0) (k:=1) (n:=c) rfl rfl (aK.of Xa.top) (by rw[zaa];lia) λq4 WB=>?_;rw[<-map_drop];let e7:ai H6<|upd H6 q4<|.lst<|(u.drop<|c+1).d:=ai.upd WB;let g7:=Xa.dropped (c+1) WB;let UK:=g6.same e7;generalize upd H6 q4 (.lst<|(u.drop<|c+1).d)=H7 at e7 g7 UK ⊢;refine#[q3,q4,_,_,rfl,rfl,UK.top,g7.top,by rw[zaa,zaa,zay,zbb,zbF,zat];simp;lia,λq5 QI=>?_];let g8:=UK.uI g7 QI;rw[vd ()]at g8;ext;refine q q5 _ _ _ ((((G.trans W).trans Rh).trans e7).trans<|ai.upd QI) g8<|.inr #[by erw[ex,z],c+1+i,l,r,(),hi,hl,Y,by erw[er,z2],rfl];ext;refine#[_,_,rfl,R,λq h1 h2=>?_];by_cases y:q=c+1+i;rw[y,er];exact z2;exact N q h1 ();ext O I ⟨v3,v4,rfl,R,N⟩;rw[zaa,zbF]at N;ext;refine#[by show 1<=sizeLine;rw[zat];decide,qe (λr h1 h2=>?_) _<|e1.trans R];by_cases y:r=c;subst y;rw[ex];exact z;exact N r () ()
theorem gY:aS ["row", "leader", "column", "last", "lead", "part"] ["row", "leader", "column", "last"]<|aH iL:=by walk_at "n"
theorem sf(D:Def K mg "row_cleared" iL ["row", "leader", "column", "last"])(T:Txt K mg Z):W! "row_cleared" 1 ["row", "leader", "column", "last"] yX:=by
 exists D.dZ gY,dQ,hr;let#[a,b,r,l,c,m,d,rfl,_]:=h;rfl;let#[a,b,r,l,c,m,d,rfl,C,z,rl,ll,hc,hm,d0,X,S,U,q]:=h;obtain⟨x,L⟩:∃x,l[c]?=some x:=#[l[c],by simp[show c<l.z by lia]];obtain⟨y,I⟩:∃x,r[c]?=some x:=#[r[c],by simp[show c<r.z by lia]];let ex:l.getD c 0=x:=by rw[zak,L];rfl
 let ey:r.getD c 0=y:=by rw[zak,I];rfl
 let xz:=U x<|zah L;let Y:=S y<|zah I;let Vf:j6 l.c ((c:Nat):Int)=some (V.int x):=cz (by rw[zao,L];rfl);let N:j6 r.c ((c:Nat):Int)=some (V.int y):=cz (by rw[zao,I];rfl);refine#[_,(ae (aw (i:=4) gY.nd rfl A!<|aP aB (pv 1) (pv 2) C?)<|ae (aw (i:=5) gY.nd rfl A!<|aP aB (pv 0) (pv 2) C?)<|ao<|aU<|dG (tg:=["one", "other"]) (fr:=[("last",3),("lead",4),("part",5)]) D! rfl (GS T.zip<|aa (pv 0)<|aa (pv 1) af) (λ_ _ _ _ _=>(nD (K:=K) rfl (n:=2) rfl<|bC (aC (i:=0) (show [("one":Str),("other":Str),("last":Str),("lead":Str),("part":Str)].Nodup by decide +kernel) rfl A!)<|bC (aC (i:=1) (show [("one":Str),("other":Str),("last":Str),("lead":Str),("part":Str)].Nodup by decide +kernel) rfl A!) fh)) (λ_ _ _ _ _=>bB)<|λ_ _ _ _ _=>(aA xf (aA eF (aA fj (pv 3)<|pv 0)<|aA fj (pv 4)<|pv 1)<|pv 2)),?_]
 dsimp only[eg];ext;refine aR (aK.of z) Vf ?_;ext;refine aR (aK.of C) N ?_;ext;refine cA ?_;refine#[_,rfl,_,rfl,a,b,rfl,#[_,aK.of C],#[_,aK.of z],λp G=>?_];refine AE (K:=K) (a:=a) (b:=b) (xs:=r.c) (ys:=l.c) (n:=m) (by rw[zaa,zaa];lia) (λi g zs k=>∃M B:Option V,g=[M,B,d.f,x.f,y.f]/\zs=((Gn r l c d).take i).c/\ai H k/\k p=some (.lst zs))
  #[none,none,rfl,rfl,ai.upd G,ah] (λi g zs k _ ⟨_,_,_,_,e,_⟩=>#[aK.of<|e _ _ C,aK.of<|e _ _ z]) ?_ ?_
 ext j u t pr g zs k Jc NI hj ⟨M,B,rfl,rfl,F,v⟩ Dv;let#[u,W,rfl]:=int_at Jc;let#[t,R,rfl]:=int_at NI;let O:ai k<|upd k pr<|.tup [.int u,.int t]:=ai.upd Dv;refine fE (SqT.of ah) rfl ?_;generalize upd k pr (.tup [.int u,.int t])=H4 at O ⊢;let m1:=xz.sC<|S u<|zah W;let m2:=Y.sC<|U t<|zah R;let cf:IX (x*u-y*t) d:=#[d0,X];ext;refine#[O _ _ v,by erw[zaa,zbb,aI ()],cZ hj #[_,_,rfl,?_,ai.fresh (F.trans O) G,ah]];unfold Gn;rw[yF W R,zaw,ex,ey];rfl;ext g zs k ⟨M,B,rfl,rfl,F,v⟩;rw[zcE<|by unfold Gn;rw[zeV];lia]at v;ext;exact q p _ F G v
theorem Ox(r:j4 L n m)(o:c<n)(b:L[c]?=some l):Vt L ((L.map λr=>Gn r l c d).set c l) n m c d:=by
 let e:=r.row l<|zah b;let hlen:c<(L.map λr=>Gn r l c d).z:=by erw[zaa,r.len,o]
 refine#[#[by erw[zbN,zaa,r.len],λk p=>?_],λj h=>?_,λi j g q h=>?_];ext(z|rfl:zer p);let#[x,a,rfl]:=zap.mp z;unfold Gn;rw[zeV,e,r.row x a];lia;exact e;rw[By hlen,f9,jT b];let#[x,a,t]:=r.at g;rw[By hlen,jR _ _ q,jT (by rw[zao,a];rfl),jT b,jT a,jT a,jT b];unfold Gn;rw[zak,getElem?_zipWith];let f:x[j]?=some (x.getD j 0):=by rw[zak];simp[show j<x.z by lia]
 let s:l[j]?=some (l.getD j 0):=by rw[zak];simp[show j<l.z by lia]
 rw[f,s];rfl
theorem eh:aS ["rows", "column", "last", "leader", "above", "under"] ["rows", "column", "last"]<|aH fU:=by walk_at "n"
theorem nF(D:Def K mg "column_cleared" fU ["rows", "column", "last"])(T:Txt K mg Z)(lZ:W! "row_cleared" 1 ["row", "leader", "column", "last"] yX):W! "column_cleared" 2 ["rows", "column", "last"] ze:=by
 exists D.dZ eh,dQ,hr;let#[p,C,L,n,m,c,d,rfl,_]:=h;rfl;let#[p,C,L,n,m,c,d,rfl,g,R,hc,UA,hn,hm,d0,dz,lz,q]:=h;let gl:=g.len;let rl:=R.len;let#[b,l,hb,hl,bQ]:=g.at (i:=c) ();let ll:=R.row l<|zah hl;let Wn:=lz l<|zah hl;refine#[_,(ae (aw (i:=3) eh.nd rfl A!<|aP aB (pv 0) (pv 1) C?)<|ae (eC (i:=4) eh.nd rfl A! (tg:=["row"]) (fr:=[("leader",3),("column",1),("last",2)]) D! rfl (bL<|bG cg (pv 0) bR<|bX<|pv 1) (λ_ _ _ _ _=>(aC (i:=0) (show [("row":Str),("leader":Str),("column":Str),("last":Str)].Nodup by decide +kernel) rfl A!)) (λ_ _ _ _ _=>bB)<|λ_ _ _ _ _=>(az lZ hr aZ<|aa (pv 0)<|aa (pv 1)<|aa (pv 2)<|aa (pv 3) af))<|ae (eC (i:=5) eh.nd rfl A! (tg:=["row"]) (fr:=[("leader",3),("column",1),("last",2)]) D! rfl (bL<|bG cg (pv 0) (bX<|aA bD (pv 1) aj) bR) (λ_ _ _ _ _=>(aC (i:=0) (show [("row":Str),("leader":Str),("column":Str),("last":Str)].Nodup by decide +kernel) rfl A!)) (λ_ _ _ _ _=>bB)<|λ_ _ _ _ _=>(az lZ hr aZ<|aa (pv 0)<|aa (pv 1)<|aa (pv 2)<|aa (pv 3) af))<|ao<|aU<|aA dY (aA dY (pv 4)<|bH<|aa (pv 3) af)<|pv 5),?_]
 dsimp only[eg];ext;refine aR (aK.of g.top) (g.ix hb) ?_;ext;refine cA ?_;refine lj ?_;refine CK (a:=p) (i:=0) (k:=1) (n:=c) rfl rfl (aK.of g.top) (by rw[zaa];lia) λp1 HK=>?_;rw[<-zdH];let e1:ai H<|upd H p1<|.lst<|(C.take c).d:=ai.upd HK;let G:=g.taken c HK;generalize upd H p1 (.lst<|(C.take c).d)=H1 at e1 G ⊢;refine#[p1,rfl,#[_,aK.of G.top],λu bq=>?_];refine cU (K:=K) (a:=p1) (xs:=(C.take c).d) (λi j ys y=>∃(cs:bp) (v:Option V),j=[v,b.e,c.h,d.f]/\ys=cs.d/\ai H1 y/\cs.z=i/\aO y u cs (((L.take c).take i).map λr=>Gn r l c d)/\u∉cs)
  #[[],none,rfl,rfl,ai.upd bq,rfl,#[ah,rfl,λi a l z=>by simp at z],by simp] (λi j ys y _ ⟨_,_,_,_,e,_⟩=>aK.of<|e _ _ G.top) ?_ ?_
 ext i x j ys y hx X ⟨cs,v,rfl,rfl,ex,Uy,O,I⟩;let B:=X;rw[zaa,G.len]at B;let#[a2,r,Ft,U,HI]:=G.at B;let#[a3,Q0,rfl]:=rT hx;rw[Ft]at Q0;cases Q0;let Y:r∈L:=zcI<|zah U;let li:=B;rw[zbb]at li;ext;refine#[a2,b,r,l,c,m,d,rfl,ex _ _ HI,ex _ _<|e1 _ _ bQ,R.row r Y,ll,UA,hm,d0,dz,lz r Y,Wn,λt Hy W M ht=>?_];let S:=O.same W;let N:t≠u:=λz=>by rw[z]at M;exact absurd O.top (by rw[M];simp)
 refine#[S.top,by erw[zaa,aI ()],cZ X #[cs++[t],_,rfl,by simp,ai.fresh (ex.trans W) bq,by simp[Uy],?_,?_]];rw[take_snoc U,zaw];exact S.snoc I N ht;ext z;ext(z|z:zam.mp z);exact I z;exact N (zaj.mp z).symm;ext j ys H2 ⟨cs,v,rfl,rfl,e2,OZ,g2,I⟩;rw[zaa,G.len,zbp]at g2;let mQ:=e1.trans e2;let gp:=g.same mQ;ext;refine cA ?_;refine lj ?_;refine wV (a:=p) (i:=0) (k:=1) (n:=c) rfl rfl (aK.of gp.top) (by rw[zaa];lia) λp3 WD=>?_;rw[<-map_drop];let e3:ai H2<|upd H2 p3<|.lst<|(C.drop<|c+1).d:=ai.upd WD;let F:=gp.dropped (c+1) WD;let Xd:=g2.same e3;generalize upd H2 p3 (.lst<|(C.drop<|c+1).d)=H3 at e3 F Xd ⊢;refine#[p3,rfl,#[_,aK.of F.top],λSN QZ=>?_];refine cU (K:=K) (a:=p3) (xs:=(C.drop<|c+1).d) (λi j ys y=>∃(cs:bp) (v:Option V),j=[v,b.e,c.h,d.f]/\ys=cs.d/\ai H3 y/\cs.z=i/\aO y SN cs (((L.drop<|c+1).take i).map λr=>Gn r l c d)/\SN∉cs)
  #[[],none,rfl,rfl,ai.upd QZ,rfl,#[ah,rfl,λi a l z=>by simp at z],by simp] (λi j ys y _ ⟨_,_,_,_,e,_⟩=>aK.of<|e _ _ F.top) ?_ ?_
 ext i x j ys y hx X ⟨cs,v,rfl,rfl,ex,Uy,O,I⟩;let B:=X;rw[zaa,F.len]at B;let#[a2,r,Ft,U,HI]:=F.at B;let#[a3,Q0,rfl]:=rT hx;rw[Ft]at Q0;cases Q0;let Y:r∈L:=zdN<|zah U;let li:=B;rw[zbF]at li;ext;refine#[a2,b,r,l,c,m,d,rfl,ex _ _ HI,ex _ _<|e3 _ _<|mQ _ _ bQ,R.row r Y,ll,UA,hm,d0,dz,lz r Y,Wn,λt Hy W M ht=>?_];let S:=O.same W;let N:t≠SN:=λz=>by rw[z]at M;exact absurd O.top (by rw[M];simp)
 refine#[S.top,by erw[zaa,aI ()],cZ X #[cs++[t],_,rfl,by simp,ai.fresh (ex.trans W) QZ,by simp[Uy],?_,?_]];rw[take_snoc U,zaw];exact S.snoc I N ht;ext z;ext(z|z:zam.mp z);exact I z;exact N (zaj.mp z).symm;ext j ys H4 ⟨ds,v,rfl,rfl,e4,ad,g4,nd⟩;rw[zaa,F.len,zbp]at g4;let Rl:=(mQ.trans e3).trans e4;let ZX:=Xd.same e4;ext;refine#[by rw[zat];simp,λq2 QK=>?_];let e5:ai H4<|upd H4 q2<|.lst [.ref b]:=ai.upd QK;let g5:=aO.one (Rl _ _ bQ) QK;let Xc:=ZX.same e5;let Ru:=g2.len;let ac:=g4.len;rw[zaa,zbb]at Ru;rw[zaa,zbF]at ac;refine#[u,q2,_,_,rfl,rfl,Xc.top,g5.top,by rw[zaa,zaa,zbl,zat];lia,λq3 QJ=>?_];let g6:=Xc.uI g5 QJ;let e6:=e5.trans<|ai.upd (o:=.lst<|cs.d++[b].d) QJ;let W8:=g4.same e6;ext;refine#[q3,SN,_,_,rfl,rfl,g6.top,W8.top,by rw[zaa,zaa,zay,zbl,zat];lia,λq5 QI=>?_];let g8:=g6.uI W8 QI;rw[zdH,map_drop,vd<|by rw[zaa];lia]at g8;ext;exact q q5 _ _ _ ((Rl.trans e6).trans<|ai.upd QI) g8<|Ox R hc hl
theorem fS:aS ["rows", "last", "whole", "column"] ["rows"]<|aH oI:=by walk_at "n"
theorem Bw(D:Def K mg "cleared" oI ["rows"])(T:Txt K mg Z)(Q1:W! "led" 1 ["rows", "column"]<|F0 Z.pU)(o4:W! "column_cleared" 2 ["rows", "column", "last"] ze):W! "cleared" 3 ["rows"]<|rD Z.pU:=by
 exists D.N6 fS,dQ,Y;let#[p,as,L,n,m,M,rfl,_]:=h;rfl;let#[p,as,L,n,m,M,rfl,g,X,Zn,hn,S,hM,hb,U,q,qe]:=h;let gl:=g.len;let rl:=X.len;refine#[_,(ae (aw (i:=1) fS.nd rfl A! aj)<|ae (aw (i:=2) fS.nd rfl A!<|pv 0)<|ae (bN PassesOwn.leaving rfl (bw rfl T.range<|aa (aE aN C! T.len bh<|aa (pv 0) af) af) (aC (i:=3) fS.nd rfl A!)<|ae (aw (i:=2) fS.nd rfl A!<|az o4 Y aZ<|aa (az Q1 Y P6<|aa (pv 2)<|aa (pv 3) af)<|aa (pv 3)<|aa (pv 1) af)<|ao<|aw (i:=1) fS.nd rfl A!<|aP aB (aP aB (pv 2) (pv 3) C?) (pv 3) C?)<|ao<|aU<|pv 2),?_]
 dsimp only[eg];ext;refine cM ?_;refine#[_,rfl,_,_,rfl,.inl #[_,aK.of g.top,rfl],(n:Int),by rw[zaa,gl,rl],(),(),?_];rw[zau];refine bY (λi I j=>∃(c:Addr) (bs:bp) (W:cp) (d:Int) (B:Mx) (v:Option V),I=[p.e,d.f,c.e,v]/\ai H j/\aO j c bs W/\j4 W n m/\Cd n m M i i (mx L) (mx W) d B)
  #[p,as,L,1,mx L,none,rfl,λ_ _ e=>e,g,X,Cd.start hb] ?_ ?_
 ext i I j k ⟨c,bs,W,d,B,v,rfl,C,R,z,u⟩;simp only[zbk];ext;refine#[c,bs,W,n,m,i,rfl,R,z,k,(),hn,S,λp3 cs N H2 O g2 ld=>?_,λno H2 O=>qe (u.JG k Zn no) _<|C.trans O];let#[r2,OO,B2,F]:=u.TH z k ld;let wz:∀l∈N,∀x∈l,Sz 9000 x:=λl y x r=>by let#[a,G]:=zaN.mp y;let#[b,Fs]:=zaN.mp r;erw[<-pL G Fs,zbj (F.SK hM () a b) U]
 ext;refine#[p3,cs,N,n,m,i,d,rfl,g2,r2,k,(),hn,S,F.ba.ne,zbj (F.U7 hM ()) U,wz,λp4 ds W3 H3 e3 t cl=>?_];let Xy:=F.next r2 k OO cl;let l3:=cl.Gj.len;let#[a,l,G,y,bQ]:=t.at (i:=i) ();let ll:=cl.Gj.row l<|zah y;obtain⟨x,r⟩:∃x,l[i]?=some x:=#[l[i],by simp[show i<l.z by lia]];let ex:mx N i i=x:=by erw[<-cl.own i (),pL y r]
 rw[ex]at Xy;ext;refine aR (aK.of t.top) (t.ix G) ?_;ext;refine aR (aK.of bQ) (cz<|by rw[zao,r];rfl) ?_;ext;exact#[p4,ds,W3,x,B2,_,rfl,(C.trans O).trans e3,t,cl.Gj,Xy];ext I j ⟨c,bs,W,d,B,v,rfl,C,R,z,u⟩;ext;exact q c bs W B d j C R z u
theorem bT:aS ["rows", "bottom", "row", "whole"] ["rows"]<|aH iO:=by walk_at "n"
theorem so(D:Def K mg "determinant" iO ["rows"])(T:Txt K mg Z)(Dy:W! "ratio" 2 ["top", "bottom"] yY)(fo:W! "common_bottom" 2 ["row"] oF)(nU:W! "made_whole" 3 ["row"] Ct)(vF:W! "cleared" 3 ["rows"]<|rD Z.pU):W! "determinant" 4 ["rows"] Cv:=by
 exists D.dZ bT,dQ,U;ext(⟨p,rfl,_⟩|⟨p,as,R,n,M,PB,rfl,_⟩:h)<;>rfl;ext(⟨p,rfl,hp,q⟩|⟨p,as,R,n,M,PB,rfl,g,rl,n0,n1,fl,C,q⟩:h);refine#[_,(ae (cN (aQ eG (aE aN C! T.len bh<|aa (pv 0) af) aj<|aV _) (ao<|aU<|dF<|aa aj<|aa aj af) bA)<|ae (aw (i:=1) bT.nd rfl A! aj)<|ae (bN zaE rfl (bL<|pv 0) (aC (i:=2) bT.nd rfl A!)<|ao<|aw (i:=1) bT.nd rfl A!<|aA fj (pv 1)<|az fo U aZ<|aa (pv 2) af)<|ae (zA (i:=3) vF U (aa (dG (tg:=["row"]) (fr:=[]) D! rfl (bL<|pv 0) (λ_ _ _ _ _=>(aC (i:=0) (show [("row":Str)].Nodup by decide +kernel) rfl A!)) (λ_ _ _ _ _=>bB)<|λ_ _ _ _ _=>(az nU U aZ<|aa (pv 0) af)) af) AI T.ye bT.nd rfl rfl<|λ_=>(ao<|aU<|dF<|aa aj<|aa aj af))<|ao<|aU<|az Dy U aZ<|aa (aP aB (aP aB (pv 3) aj C?) aj C?)<|aa (pv 1) af),?_]
 dsimp only[eg];ext;refine#[_,_,rfl,.inl #[_,aK.of hp,rfl],?_];ext;rw[zaV<|show(([]:List V).z:Int)=0 from rfl];ext;ext t ht;exact q t _ (ai.upd ht) ah;let gl:=g.len;refine let N:Nat->Int:=λi=>tV<|R.getD i [];?_;let rowAt:∀i,i<n->∃b,R[i]?=some b/\R.getD i []=b:=λi hi=>#[R[i]'(),by simp[show i<R.z by lia],by rw[zak];simp[show i<R.z by lia]];refine#[_,(ae (cN (aQ eG (aE aN C! T.len bh<|aa (pv 0) af) aj<|aV _) (ao<|aU<|dF<|aa aj<|aa aj af) bA)<|ae (aw (i:=1) bT.nd rfl A! aj)<|ae (bN zaE rfl (bL<|pv 0) (aC (i:=2) bT.nd rfl A!)<|ao<|aw (i:=1) bT.nd rfl A!<|aA fj (pv 1)<|az fo U aZ<|aa (pv 2) af)<|ae (zA (i:=3) vF U (aa (dG (tg:=["row"]) (fr:=[]) D! rfl (bL<|pv 0) (λ_ _ _ _ _=>(aC (i:=0) (show [("row":Str)].Nodup by decide +kernel) rfl A!)) (λ_ _ _ _ _=>bB)<|λ_ _ _ _ _=>(az nU U aZ<|aa (pv 0) af)) af) AI T.ye bT.nd rfl rfl<|λ_=>(ao<|aU<|dF<|aa aj<|aa aj af))<|ao<|aU<|az Dy U aZ<|aa (aP aB (aP aB (pv 3) aj C?) aj C?)<|aa (pv 1) af),?_]
 dsimp only[eg];ext;refine#[_,_,rfl,.inl #[_,aK.of g.top,rfl],?_];rw[zaa];ext;refine if2 (λz=>absurd z ())<|λ_=>?_;ext;refine cM ?_;refine#[_,rfl,p,rfl,#[_,aK.of g.top],fe (K:=K) (a:=p) (xs:=as.d) (λi σ H1=>∃v2:Option V,σ=[p.e,some<|.int<|pz i N,v2,none]/\H1=H/\0<pz i N/\(pz i N).natAbs<=PB ^ i) #[none,rfl,rfl,by show(0:Int)<1;decide,by show(1:Int).natAbs<=1;decide] (λi σ H1 _ ⟨_,_,e,_⟩=>by erw[e,aK.of g.top]) ?_ ?_];ext i x σ H1 y ⟨v2,rfl,rfl,b0,bb⟩;let il:=(zac.mp y).1;rw[zaa,gl,rl]at il;let#[a,b,ps,ha,G,bQ,T8]:=g.at (i:=i) ();let#[a2,Ft,rfl]:=rT y;rw[ha]at Ft;cases Ft;let c:=zah G;let ef:N i=tV b:=by show tV (R.getD i [])=_;rw[zak,G];rfl
 ext;refine#[a,ps,b,9000,rfl,bQ,T8,C.fq b c,zai _,by erw[fl b c,n1],λl0 ld lp=>?_];let h1:(pz i N).natAbs<=PB ^ n:=zaI bb<|zbK C.p1 ();let X:(tV b).natAbs<=PB ^ n:=zaI lp<|zaI (C.pb b c) (by let:=zbK C.p1 (show 1<=n by lia);rw[Nat.pow_one]at this;exact this);let Sb:IntMulOk (pz i N)<|tV b:=Sz.sC (m:=9000) (n:=9000) (zbj h1 C.M6)<|zbj X C.M6;ext;refine#[_,by rw[qu,ef];rfl,rfl,?_,?_];rw[qu,ef];exact Int.mul_pos b0 l0;rw[qu,ef,zbG,Nat.pow_succ];exact zbU bb<|zaI lp<|C.pb b c;ext σ H1 ⟨v2,rfl,rfl,b0,bb⟩;rw[zaa,gl,rl]at b0 bb ⊢;ext;refine cA ?_;refine#[_,rfl,p,rfl,#[_,aK.of g.top],λO bq=>?_];refine cU (K:=K) (a:=p) (xs:=as.d) (λi S ys Hx=>∃(cs:bp) (L:cp) (v:Option V),S=[v]/\ys=cs.d/\ai H1 Hx/\aO Hx O cs L/\O∉cs/\L.z=i/\∀(j:Nat) (b:List<|Int×Int) (l:b9),R[j]?=some b->L[j]?=some l->Wh b (tV b) l/\(tV b).natAbs<=pd b)
  #[[],[],none,rfl,rfl,ai.upd bq,#[ah,rfl,λi a l z=>by simp at z],by simp,rfl,λj b l _ z=>by simp at z] (λi S ys Hx _ ⟨_,_,_,_,_,e,_⟩=>aK.of<|e _ _ g.top) ?_ ?_
 ext i x S ys Hx y hi ⟨cs,L,v,rfl,rfl,ex,gx,OQ,hL,Y⟩;let il:=hi;rw[zaa,gl,rl]at il;let#[a,b,ps,ha,G,bQ,T8]:=g.at (i:=i) ();let#[a2,Ft,rfl]:=rT y;rw[ha]at Ft;cases Ft;let c:=zah G;ext;refine#[a,ps,b,9000,rfl,ex _ _ bQ,T8.same ex,C.fq b c,zai _,by erw[fl b c,n1],λt l Hy ey ft ht wh lp=>?_];let gy:=gx.same ey;let nt:t≠O:=λz=>by rw[z]at ft;exact absurd gx.top (by rw[ft];simp)
 let cl:=gx.len;refine#[gy.top,by erw[zaa,aI ()],cZ hi #[cs++[t],L++[l],_,rfl,by simp,ai.fresh (ex.trans ey) bq,gy.snoc OQ nt ht,?_,by rw[zay,hL];rfl,λk Rb l' h1 X=>?_]];ext z;ext(z|z:zam.mp z);exact OQ z;exact nt (zaj.mp z).symm;by_cases z:k<L.z;rw[zaO z]at X;exact Y k Rb l' h1 X;let kl:=(zac.mp X).1;rw[zay,zbl]at kl;let ek:k=i:=();subst ek;rw[zaL (),hL,zdl]at X;cases X;rw[G]at h1;cases h1;exact#[wh,lp];ext S ys H2 ⟨cs,L,v,rfl,rfl,e2,g2,OQ,hL,Y⟩;rw[zaa,gl,rl]at hL;let each:∀(i:Nat) (l:b9),L[i]?=some l->∃b,R[i]?=some b/\l.z=n/\Wh b (tV b) l/\∀x∈l,x.natAbs<=M:=λi l F=>by let il:=(zac.mp F).1;let#[b,G,_]:=rowAt i ();let#[wh,lp]:=Y i b l G F;let c:=zah G;let ac:=wh.len;rw[fl b c]at ac;refine#[b,G,ac,wh,λx y=>?_];let#[j,hj]:=zaN.mp y;let jl:=(zac.mp hj).1;obtain⟨fr,qK⟩:∃fr,b[j]?=some fr:=#[b[j]'(by rw[fl b c];lia),by simp[show j<b.z by rw[fl b c];lia]];exact zaI (FC wh (C.fq b c).pos qK hj)<|zaI (zdE _ lp)<|C.en b c fr<|zah qK
 let rc:j4 L n n:=#[hL,λl F=>by let#[i,hi]:=zaN.mp F;let#[_,_,h,_]:=each i l hi;exact h];let SK:∀i j,(mx L i j).natAbs<=M:=λi j=>by by_cases z:i<n/\j<n;let#[l,F,ll]:=rc.at z.1;obtain⟨x,y⟩:∃x,l[j]?=some x:=#[l[j]'(),by simp[show j<l.z by lia]];rw[pL F y];let#[_,_,_,_,h]:=each i l F;exact h x<|zah y;erw[rc.out (),zaS _]
 let dw:((det n (mx L):Int):Rat)=((pz n N:Int):Rat)*dq n R:=Im λi j hi hj=>by
  let#[l,F,ll]:=rc.at hi;let#[b,G,_,wh,_]:=each i l F;let c:=zah G;let ef:R.getD i []=b:=by rw[zak,G];rfl
  obtain⟨x,y⟩:∃x,l[j]?=some x:=#[l[j]'(),by simp[show j<l.z by lia]];obtain⟨fr,qK⟩:∃fr,b[j]?=some fr:=#[b[j]'(by rw[fl b c];lia),by simp[show j<b.z by rw[fl b c];lia]];show _=fa (R.getD i []) j*((tV (R.getD i []):Int):Rat);erw[ef,pL F y,L6 qK,Pf wh qK y<|(C.fq b c).pos fr<|zah qK]
 let p0:((pz n N:Int):Rat)≠0:=Ds ();let Ya:Sz 9000<|pz n N:=zbj bb C.M6;ext;refine#[O,cs,L,n,n,M,rfl,g2,rc,zai _,n1,n1,C.m1,SK,C.big,λq2 ds W B d H3 e3 g3 r3 cd=>?_,λJG H3 e3=>#[_,rfl,T.m1,?_]];let ad:=r3.len;let#[a,l,ha,F,bQ]:=g3.at (i:=0) ();let ll:=r3.row l<|zah F;obtain⟨x,y⟩:∃x,l[0]?=some x:=#[l[0]'(),by simp[show 0<l.z by lia]];let ex:x=det n (mx L):=by erw[<-pL F y,cd.value n0]
 ext;refine aR (aK.of g3.top) (show j6 ds.d ((0:Nat):Int)=some (V.ref a)from g3.ix ha) ?_;ext;refine aR (aK.of bQ) (show j6 l.c ((0:Nat):Int)=some (V.int x)from cz<|by rw[zao,y];rfl) ?_;ext;refine#[x,pz n N,rfl,(),Ya,λt u r H4 I e4 Zg=>q t u r H4 #[I.pos,I.co] ?_ ?_ (zaI I.ub bb) ((e2.trans e3).trans e4) Zg];rw[MW () I,ex,dw];grind;refine zaI I.ta ?_;rw[ex];exact je λi j _ _=>SK i j;ext;ext r Zh;refine q 0 1 r _ #[by decide,by decide] ?_ (zaS _) (Nat.one_le_pow _ _ C.p1) ((e2.trans e3).trans<|ai.upd Zh) ah;let#[u,_,ku,l,F,h0]:=JG;rw[tG ku F h0]at dw;let ag:(0:Rat)=((pz n N:Int):Rat)*dq n R:=dw;show((0:Int):Rat) / ((1:Int):Rat)=_;grind
end
section
open Fw
theorem vf:aS ["orders", "one", "other", "order"] ["orders", "one", "other"]<|aH rP:=by walk_at "n"
theorem Ep(D:Def K mg "onward" rP ["orders", "one", "other"])(T:Txt K mg Z):W! "onward" 1 ["orders", "one", "other"] u7:=by
 exists D.dZ vf,v,x;let#[p,m,L,d,rfl,_]:=h;rfl;let#[p,m,L,d,rfl,g,n,t,q]:=h;let#[u,b1,b2,c]:=t.back n;let#[b,l,k,e,a]:=g.at (i:=d.2.toNat) ();let j:l=XS L d.2:=by rw[aD u b1]at e;exact(zaq e).symm
 subst j;let r:d.2=((d.2.toNat:Nat):Int):=();refine#[_,(ae (aw (i:=3) vf.nd rfl A!<|aP aB (pv 0) (pv 2) C?)<|ao<|aU<|aP aB (pv 3) (aA eF (iG zbc PySem.F.slot_list_index PySem.F.type_list_index Hj (pv 3)<|aa (pv 1) af) aj) C?),?_]
 dsimp only[eg];ext;refine aR (aK.of g.top) (by erw[r,g.ix k]) ?_;ext;refine#[.inl #[rfl,_,aK.of a],?_];ext;refine#[b,_,d.1,rfl,rfl,a,c,?_];ext;exact aR (aK.of a) (K7 c) q
theorem dC:aS ["orders", "one", "other", "ring", "here", "there", "beyond"] ["orders", "one", "other"]<|aH ki:=by walk_at "n"
theorem xg(D:Def K mg "ring_from" ki ["orders", "one", "other"])(T:Txt K mg Z)(An:W! "onward" 1 ["orders", "one", "other"] u7):W! "ring_from" 2 ["orders", "one", "other"] Cs:=by
 exists D.dZ dC,dQ,M;let#[p,B,L,d,rfl,_]:=h;rfl;let#[p,B,L,d,rfl,g,m,G,hn,q]:=h;refine#[_,(ae (aw (i:=3) dC.nd rfl A!<|bH<|aa (pv 1) af)<|ae (aw (i:=4) dC.nd rfl A!<|pv 2)<|ae (aw (i:=5) dC.nd rfl A!<|az An M aZ<|aa (pv 0)<|aa (pv 1)<|aa (pv 2) af)<|ae (i7 zaE (aQ (M9<|FD M) (dF<|aa (pv 4)<|aa (pv 5) af) (dF<|aa (pv 1)<|aa (pv 2) af)<|aV _)<|ae (eQ<|iG zbc zbv zbw dr (pv 3)<|aa (pv 4) af)<|ae (aw (i:=6) dC.nd rfl A!<|az An M aZ<|aa (pv 0)<|aa (pv 4)<|aa (pv 5) af)<|ae (aw (i:=4) dC.nd rfl A!<|pv 5)<|ao<|aw (i:=5) dC.nd rfl A!<|pv 6)<|ao<|aU<|pv 3),?_]
 dsimp only[eg];ext;refine#[by rw[zat];simp,λr u=>?_];let F:ai H<|upd H r<|.lst [.int d.1]:=ai.upd u;let N:upd H r (.lst [.int d.1]) r=some (.lst<|(bg L d 1).c):=ah;generalize upd H r (.lst [.int d.1])=H0 at F N ⊢;ext;refine#[p,B,L,d,rfl,g.same F,m,G,?_];ext;refine lh (λσ e=>∃(j:Nat) (v:Option V),σ=[p.e,some<|.int d.1,some<|.int d.2,r.e,some<|.int (it L d<|j+1).1,some<|.int (it L d<|j+1).2,v]/\ai H e/\e r=some (.lst<|(bg L d<|j+1).c)/\kY L d (j+1))
  (λ_ e=>match e r with|some (.lst xs)=>(eN L L.z).z-xs.z|_=>0) #[0,none,rfl,F,N,λi X h2=>()] ?_
 ext σ e ⟨j,v,rfl,Y,I,O⟩;ext;ext W Zd;ext;ext t2 S;refine PN (a:=(it L d<|j+1).1) (b:=(it L d<|j+1).2) (c:=d.1) (d:=d.2) (SqT.of<|by erw[aG<|bo ah S,ah]) (SqT.of ah) ?_;let l:ai e<|upd (upd e W<|.tup [.int (it L d<|j+1).1,.int (it L d<|j+1).2]) t2<|.tup [.int d.1,.int d.2]:=(ai.upd Zd).trans<|ai.upd S;generalize upd (upd e W<|.tup [.int (it L d<|j+1).1,.int (it L d<|j+1).2]) t2 (.tup [.int d.1,.int d.2])=t at l ⊢;ext;refine jK (λuC=>?_)<|λk=>?_;refine w_turn ?_;rw[I];dsimp only;let R:=l _ _ I;let U:kY L d<|j+1+1:=λi X h2=>by by_cases z:i=j+1;rw[z];exact λy=>uC #[zaA Prod.fst y,zaA Prod.snd y];exact O i X ()
 let bd:=sA m G U;let zl:((bg L d<|j+1).c).z=j+1:=by unfold bg;simp
 let er:(bg L d<|j+1).c++[V.int (it L d<|j+1).1]=(bg L d<|j+1+1).c:=by unfold bg;rw[zcm (n:=j+1),zaw,zaw];rfl
 ext;refine#[.inl #[rfl,_,aK.of R],?_];ext;refine eE R (by erw[zl,aI ()]) ?_;rw[er];let C:ai H<|upd t r<|.lst<|(bg L d<|j+1+1).c:=ai.fresh (Y.trans l) u;let x:upd t r (.lst<|(bg L d<|j+1+1).c) r=some (.lst<|(bg L d<|j+1+1).c):=ah;generalize upd t r (.lst<|(bg L d<|j+1+1).c)=H3 at C x ⊢;ext;refine#[p,B,L,it L d<|j+1,rfl,g.same C,m,sR m G _,?_];ext;refine#[#[j+1,_,rfl,C,x,U],?_];rw[x];dsimp only;let XG:((bg L d<|j+1+1).c).z=j+1+1:=by unfold bg;simp
 rw[zl,XG];lia;ext;exact q r (j+1) t (Y.trans l) u (l _ _ I) () (zbA k.1 k.2) O
theorem kg:aS ["ring", "least"] ["ring"]<|aH iM:=by walk_at "n"
theorem sj(D:Def K mg "least_begun" iM ["ring"])(T:Txt K mg Z):W! "least_begun" 1 ["ring"] y9:=by
 exists D.dZ kg,dQ,hr;let#[a,r,rfl,_]:=h;rfl;let#[a,r,rfl,B,h0,h1,q]:=h;refine#[_,(ae (aw (i:=1) kg.nd rfl A!<|aE (pB rfl) C! T.min mP<|aa (pv 0) af)<|ao<|aU<|aE (E4 rfl hr.units) C! T.min mP<|aa (dG (tg:=["k"]) (fr:=[("ring",0),("least",1)]) D! rfl (bw rfl T.range<|aa (aE aN C! T.len bh<|aa (pv 0) af) af) (λ_ _ _ _ _=>(aC (i:=0) (show [("k":Str),("ring":Str),("least":Str)].Nodup by decide +kernel) rfl A!)) (λ_ _ _ _ _=>(kz<|aQ eG (aP (nQ rfl) (pv 1) (pv 0) C?) (pv 2)<|aV _))<|λ_ _ _ _ _=>(aA dY (bG (mV rfl) (pv 1) (bX<|pv 0) bR)<|bG (mV rfl) (pv 1) bR<|bX<|pv 0)) af),?_]
 dsimp only[eg];ext;refine#[a,r,rfl,aK.of B,(λz=>by rw[z]at h0;simp at h0),λm hm X=>?_];ext;refine cA ?_;refine#[_,rfl,_,_,rfl,.inl #[_,aK.of B,rfl],(r.z:Int),by rw[zaa],(),(),?_];rw[zau];ext e bq;refine dJ (λi t ys g=>∃(bs:bp) (cs:List Nat) (v:Option V),t=[v,a.e,m.f]/\ys=bs.d/\ai H g/\aO g e bs (cs.map<|c5 r)/\e∉bs/\(∀b∈bs,H b=none)/\(∀c∈cs,c<i/\cy r c=m)/\bs.z<=i/\∀j,j<i->cy r j=m->j∈cs)
  #[[],[],none,rfl,rfl,ai.upd bq,#[ah,rfl,λi b l z=>by simp at z],by simp,by simp,by simp,zai _,λj z=>()] ?_ ?_
 ext i t ys g hi ⟨bs,cs,v,rfl,rfl,p,d,O,fr,M,hz,L⟩;simp only[zbk];ext;refine aR (aK.of<|p _ _ B) (gG () ()<|.inl rfl) ?_;ext;refine if2 (λR=>?_)<|λR=>?_;ext;refine Ei (i:=1) (k:=0) (n:=i) (r:=r) rfl rfl (aK.of<|p _ _ B) () λF HK=>?_;let e2:ai g<|upd g F<|.lst<|(r.drop i).c:=ai.upd HK;refine JT (a:=a) (i:=1) (k:=0) (n:=i) (r:=r) rfl rfl (aK.of<|e2 _ _<|p _ _ B) () λS NT=>?_;let G:=e2.trans<|ai.upd (o:=.lst<|(r.take i).c) NT;let u:upd (upd g F<|.lst<|(r.drop i).c) S (.lst<|(r.take i).c) F=some (.lst<|(r.drop i).c):=by erw[aG<|bo ah NT,ah]
 refine#[F,S,_,_,rfl,rfl,u,ah,by rw[zaa,zaa,zbF,zbb,zat];lia,λb y=>?_];generalize upd (upd g F<|.lst<|(r.drop i).c) S (.lst<|(r.take i).c)=H3 at G u y ⊢;let N:=G.trans<|ai.upd (o:=.lst<|(r.drop i).c++(r.take i).c) y;let er:(r.drop i).c++(r.take i).c=(c5 r i).c:=by unfold c5;rw[zaw]
 rw[er]at N ⊢;let Y:=d.same N;let b4:upd H3 b (.lst<|(c5 r i).c) b=some (.lst<|(c5 r i).c):=ah;let ZN:=(p.trans G).free y;let nb:b≠e:=λz=>by rw[z]at y;exact absurd (G _ _ d.top) (by rw[y];simp)
 let Ja:b∉bs:=λz=>by
  let#[k,I,W]:=zaH.mp z;let kl:k<(cs.map<|c5 r).z:=by erw[<-d.len,I]
  let:=G _ _<|d.row k b _ (by rw[zaf I,W])<|zaf kl;rw[y]at this;cases this
 generalize upd H3 b (.lst<|(c5 r i).c)=H4 at N Y b4 ⊢;refine#[Y.top,by erw[zaa,aI ()],cZ hi #[bs++[b],cs++[i],_,rfl,by simp,ai.fresh (p.trans N) bq,?_,?_,?_,?_,?_,?_]];rw[zaw];exact Y.snoc O nb b4;ext z;ext(z|z:zam.mp z);exact O z;exact nb (zaj.mp z).symm;ext c U;ext(z|z:zam.mp U);exact fr c z;rw[zaj.mp z];exact ZN;ext c U;ext(z|z:zam.mp U);let:=M c z;exact#[(),this.2];rw[zaj.mp z];exact#[(),R];rw[zay,zbl];lia;ext j Zz C;by_cases z:j=i;rw[z];simp;exact zaJ _<|L j () C;refine cZ hi #[bs,cs,_,rfl,rfl,p,d,O,fr,λc z=>?_,(),λj Zz C=>?_];let:=M c z;exact#[(),this.2];by_cases z:j=i;rw[z]at C;exact absurd C R;exact L j () C;ext t ys g ⟨bs,cs,v,rfl,rfl,p,d,O,fr,M,hz,L⟩;ext;let#[k,I,W]:=zaH.mp hm;let kc:=L k I (by erw[fI I,W]);let c0:=zcl kc;let zl:=d.len;rw[zaa]at zl;refine#[e,bs,cs.map<|c5 r,rfl,aK.of d.top,d.len,λi b l u x=>aK.of<|d.row i b l u x,(),λi b l u x hl=>?_];rw[zao]at x;cases ec:cs[i]? with
 | none=>rw[ec]at x;cases x
 | some c=>
  rw[ec]at x;let:=zaq x;subst this;let cm:=M c<|zah ec;refine q b c g p (fr b<|zah u) (d.row i b _ u<|by rw[zao,ec];rfl) cm.1 λj NX=>?_;by_cases z:cy r j=m;exact hl _<|zap.mpr #[j,L j NX z,rfl];let kk:=M k kc;refine Le.trans (hl _<|zap.mpr #[k,kc,rfl])<|Le.of_lt<|MN kk.1 NX ?_;let:=X (cy r j)<|eL h0;rw[kk.2];lia
theorem F5:aS ["ring"] ["ring"]<|aH wJ:=by walk_at "n"
theorem Ha(D:Def K mg "steps" wJ ["ring"])(T:Txt K mg Z):W! "steps" 1 ["ring"] mU:=by
 exists D.dZ F5,dQ,hr;let#[a,r,rfl,_]:=h;rfl;let#[a,r,rfl,e,r0,rn,q]:=h;refine#[_,(ao<|aU<|Bu rfl T.zip T.list<|aa (pv 0)<|aa (aA dY (bG cg (pv 0) (bX aj) bR)<|bG cg (pv 0) bR<|bX aj) af),?_];dsimp only[eg];ext;refine Eh ?_;ext;refine Br (n:=1) (r:=r) rfl (aK.of e) () λc S=>?_;let G:ai H<|upd H c<|.lst<|(r.drop 1).c:=ai.upd S;refine GD (i:=0) (n:=1) (r:=r) rfl (aK.of<|G _ _ e) () λg L=>?_;let y:=G.trans<|ai.upd (o:=.lst<|(r.take 1).c) L;let I:upd (upd H c<|.lst<|(r.drop 1).c) g (.lst<|(r.take 1).c) c=some (.lst<|(r.drop 1).c):=by erw[aG<|bo ah L,ah]
 refine#[c,g,_,_,rfl,rfl,I,ah,by rw[zaa,zaa,zbF,zbb,zat];lia,λb p=>?_];generalize upd (upd H c<|.lst<|(r.drop 1).c) g (.lst<|(r.take 1).c)=H3 at y I p ⊢;let O:(r.drop 1).c++(r.take 1).c=(c5 r 1).c:=by unfold c5;rw[zaw]
 rw[O];let m:=y.trans<|ai.upd (o:=.lst<|(c5 r 1).c) p;ext;let rl:(c5 r 1).z=r.z:=c8 ();refine#[a,b,r.c,(c5 r 1).c,rfl,aK.of<|m _ _ e,aK.of ah,by rw[zaa,zaa,rl],λl M R W N X z U=>?_];rw[zaa]at z;ext;refine q l M R (m.trans W) (m.free N) X<|PR.mk (by erw[cK,z]) λj x d F B=>?_;let#[_,_,u,v,C,t,Y]:=U j x F;let k:j<r.z:=by let:=(zac.mp F).1;lia
 rw[zao,RD k]at C;rw[zao,JO k]at t;cases C;cases t;rw[rG k]at B;cases B;exact Y
theorem gv:aS ["orders", "gone", "rings", "one", "order", "other", "ring", "step"] ["orders"]<|aH wL:=by walk_at "n"
theorem Hc(D:Def K mg "lands" wL ["orders"])(T:Txt K mg Z)(Al:W! "ring_from" 2 ["orders", "one", "other"] Cs)(uD:W! "least_begun" 1 ["ring"] y9)(nT:W! "steps" 1 ["ring"] mU):W! "lands" 3 ["orders"] zc:=by
 exists D.dZ gv,dQ,hr;let#[p,as,L,rfl,_]:=h;rfl;let#[p,as,L,rfl,g,im,hn,hd,q]:=h;refine#[_,(ae (aw (i:=1) gv.nd rfl A! se)<|ae (aw (i:=2) gv.nd rfl A!<|bH af)<|ae (bN zaE rfl (ny T.enumerate<|aa (pv 0) af) (kE (n:=2) rfl<|bC (aC (i:=3) gv.nd rfl A!)<|bC (aC (i:=4) gv.nd rfl A!) fh)<|ao<|bN zaE rfl (bL<|pv 4) (aC (i:=5) gv.nd rfl A!)<|ao<|cN (GL<|vn (lY hr) (dF<|aa (pv 3)<|aa (pv 5) af)<|pv 1) (ae (aw (i:=6) gv.nd rfl A!<|az Al hr aZ<|aa (pv 0)<|aa (pv 3)<|aa (pv 5) af)<|ae (eQ<|iG zbc zbv zbw dr (pv 2)<|aa (az uD hr aZ<|aa (pv 6) af) af)<|ao<|bN zaE rfl (bL<|az nT hr aZ<|aa (pv 6) af) (aC (i:=7) gv.nd rfl A!)<|ao<|qv (lY hr) (pv 1) (pv 7) vk rfl) bA)<|ao<|aU<|aE (x5 hr.units) C! T.sorted vP<|aa (pv 2) af),?_]
 dsimp only[eg];ext;ext C BK;ext;refine#[zaS _,λt ht=>?_];let tH:H t=none:=(ai.upd BK).free ht;let e0:ai H<|upd (upd H C<|.dT []) t<|.lst []:=(ai.upd BK).trans<|ai.upd ht;let g0:upd (upd H C<|.dT []) t (.lst []) C=some (.dT<|kD []):=by erw[aG<|bo ah ht,ah]
 let t0:aO (upd (upd H C<|.dT []) t<|.lst []) t [] []:=#[ah,rfl,λi a l z=>by simp at z];generalize upd (upd H C<|.dT []) t (.lst [])=H0 at e0 g0 t0 ⊢;ext;refine cM ?_;refine#[_,rfl,p,rfl,#[_,aK.of<|e0 _ _ g.top],kR (K:=K) (a:=p) (xs:=as.d) (λi B S=>∃(u:List ak) (bs:bp) (R:cp) (v3 v4 U O G:Option V),B=[p.e,C.e,t.e,v3,v4,U,O,G]/\ai H S/\S C=some (.dT<|kD u)/\aO S t bs R/\(t::bs).Nodup/\(∀b∈t::bs,H b=none)/\Lp L R u/\∀d,Dt L d->d.1<i->d∈u)
  #[[],[],[],none,none,none,none,none,rfl,e0,g0,t0,by simp,by simpa using tH,Lp.start,λd F m=>by let:=F.lo;lia] (λi B S _ ⟨_,_,_,_,_,_,_,_,_,e1,_⟩=>aK.of<|e1 _ _ g.top) ?_ ?_]
 ext i x pr B S v ⟨u,bs,R,v3,v4,U,O,G,rfl,e1,g1,W,oU,BP,OR,Rq⟩ Dv;let hi:i<L.z:=by let:=(zac.mp v).1;rw[zaa,g.len]at this;exact this
 let#[b,l,ha,hl,bQ]:=g.at hi;obtain rfl:x=V.ref b:=by rw[zao,ha]at v;exact(zaq v).symm
 let el:XS L (i:Int)=l:=by let:=aD (L:=L) (a:=(i:Int)) () ();rw[zau,hl]at this;exact(zaq this).symm
 let e2:ai S<|upd S pr<|.tup [.int i,.ref b]:=ai.upd Dv;let g2:=e2 _ _ g1;let t2:=W.same e2;let mQ:=e1.trans e2;refine fE (SqT.of ah) rfl ?_;generalize upd S pr (.tup [.int i,.ref b])=H2 at e2 g2 t2 mQ ⊢;ext;refine cM ?_;refine#[_,rfl,b,rfl,#[_,aK.of<|mQ _ _ bQ],fe (K:=K) (a:=b) (xs:=l.c) (λk B N=>∃(u:List ak) (bs:bp) (R:cp) (U O G:Option V),B=[p.e,C.e,t.e,i.h,b.e,U,O,G]/\ai H N/\N C=some (.dT<|kD u)/\aO N t bs R/\(t::bs).Nodup/\(∀b∈t::bs,H b=none)/\Lp L R u/\∀d,Dt L d->d.1<i\/d.1=i/\d.2∈l.take k->d∈u)
  #[u,bs,R,U,O,G,rfl,mQ,g2,t2,oU,BP,OR,λd F m=>Rq d F<|m.elim id λz=>by simp at z] (λk B N _ ⟨_,_,_,_,_,_,_,e,_⟩=>aK.of<|e _ _ bQ) ?_ ?_]
 clear u bs R v3 v4 U O G e1 g1 W oU BP OR Rq e2 g2 t2 mQ Dv v;ext k x B N v ⟨u,bs,R,U,O,G,rfl,e3,g3,t3,Qg,Oc,Ql,O5⟩;obtain⟨y,hy,rfl⟩:∃y,l[k]?=some y/\x=V.int y:=by
  rw[zao]at v;cases e:l[k]? with
  | none=>rw[e]at v;cases v
  | some z=>rw[e]at v;exact#[z,rfl,(zaq v).symm]
 let dt:Dt L ((i:Int),y):=#[by simp,by simpa using hi,by erw[el,zah hy]];ext;ext q1 Sh;let I:ai N<|upd N q1<|.tup [.int i,.int y]:=ai.upd Sh;let k4:upd N q1 (.tup [.int i,.int y]) q1=some (.tup<|(fL ((i:Int),y)).map kV):=ah;generalize upd N q1 (.tup [.int i,.int y])=H4 at I k4 ⊢;refine#[_,rfl,C,_,rfl,k7.t (k:=fL ((i:Int),y)) (I _ _ g3) k4,?_];rw[oB];ext;refine jK (λSj=>?_)<|λTX=>?_;ext;refine#[p,as,L,((i:Int),y),rfl,g.same<|e3.trans I,im,dt,hd,λr n H5 e5 r0 r5 n0 ek nr=>?_];let MO:(bg L ((i:Int),y) n).z=n:=by unfold bg;simp
 let ad:=sA im dt nr;let Q6:=e5 _ _<|I _ _ g3;let t5:=(t3.same I).same e5;let Xo:=(e3.trans I).trans e5;ext;refine#[.inl #[rfl,_,aK.of t5.top],?_];ext;refine#[r,_,rfl,r5,(),(),λc cc H6 e6 c0 c6 QW OZ=>?_];rw[MO]at QW OZ;let t6:=t5.same e6;let nc:=t5.fQ c0;let g6:=e6 _ _ Q6;let r6:=e6 _ _ r5;let rH:H r=none:=(e3.trans I).free r0;let Yn:r≠t:=λz=>by rw[z]at r0;exact absurd (t3.same I).top (by rw[r0];simp)
 let TC:=Ql.add im dt n0 ek nr Sj QW OZ;let lb:=TC.len;let l2:=TC.two;rw[zay,cK,MO]at lb;let zR:=t6.len;let l3:=Ql.two;ext;refine eE t6.top (by erw[zaa,aI ()]) ?_;let Wf:c≠t:=λz=>nc<|z▸zal;let t7:=t6.snoc (zar.mp Qg).1 Wf c6;let e7:ai H<|upd H6 t<|.lst<|bs.d++[.ref c]:=ai.fresh (Xo.trans e6) tH;let g7:upd H6 t (.lst<|bs.d++[.ref c]) C=some (.dT<|kD u):=by erw[aG (λz=>by let:=t6.top;rw[<-z,g6]at this;cases this),g6]
 let r7:upd H6 t (.lst<|bs.d++[.ref c]) r=some (.lst<|(bg L ((i:Int),y) n).c):=by erw[aG Yn,r6]
 generalize upd H6 t (.lst<|bs.d++[.ref c])=H7 at t7 e7 g7 r7 ⊢;let Yz:(t::(bs++[c])).Nodup:=by let#[n1,n2]:=zar.mp Qg;refine zar.mpr #[λz=>?_,gu.mpr #[λz=>nc<|zag _ z,n2]];ext(z|z:zam.mp z);exact n1 z;exact Wf (zaj.mp z).symm
 let Z1:∀b∈t::(bs++[c]),H b=none:=λb hb=>by ext(z|z:zas.mp hb);rw[z];exact tH;ext(z|z:zam.mp z);exact Oc b<|zag _ z;erw[zaj.mp z,Xo.free c0]
 ext;refine cM ?_;refine#[_,rfl,r,_,rfl,r7,(),(),λsl ps Hs es VP Lz MZ=>?_];let Z6:=e7.trans es;let ZW:=es _ _ g7;let XT:=t7.same es;let Wm:=TC.perm<|(perm_append_left_iff u).mpr (f6 (bg L ((i:Int),y) n)<|n-1).symm;refine#[sl,rfl,#[_,aK.of Lz],fe (K:=K) (a:=sl) (xs:=ps.d) (λj B X=>∃G:Option V,B=[p.e,C.e,t.e,i.h,b.e,y.f,r.e,G]/\ai H X/\X C=some (.dT<|kD<|u++(sh 0<|bg L ((i:Int),y) n).take j)/\aO X t (bs++[c]) (R++[c5 (bg L ((i:Int),y) n) cc])/\X sl=some (.lst ps.d)/\PR X ps (sh 0<|bg L ((i:Int),y) n))
  #[_,rfl,Z6,by erw[take_zero,zcP,ZW],XT,Lz,MZ] (λj B X _ ⟨_,_,_,_,_,e,_⟩=>aK.of e) ?_ ?_]
 ext j x B X v ⟨w7,rfl,e8,Y,t8,s8,CV⟩;let QQ:j<ps.z:=by let:=(zac.mp v).1;rw[zaa]at this;exact this
 let NX:j<(bg L ((i:Int),y) n).z:=by let:=CV.len;rw[cK]at this;lia
 let#[d8,N1,k8]:=CV.at (i:=j) (a:=ps[j]) (by simp[QQ]);obtain rfl:x=V.ref ps[j]:=by rw[zao,zaf QQ]at v;exact(zaq v).symm
 let ac:=gN Wm.nd N1;ext;refine#[C,_,rfl,tU.t (k:=fL d8) Y k8 ?_,?_];rw[Ny,zay,zbb];exact aI ();rw[GK ac,zck,<-take_snoc N1];refine#[_,rfl,ai.fresh e8 BK,ah,t8.other Y,?_,Paired.xt CV λa z h=>?_];rw[aG<|λz=>by rw[z,Y]at s8;cases s8];exact s8;rw[aG<|λw=>by rw[w,Y]at h;cases h];exact h;ext B X ⟨w7,rfl,e8,Y,t8,s8,CV⟩;rw[zaa,CV.len,zbp]at Y;refine#[_,_,_,_,_,_,rfl,e8,Y,t8,Yz,Z1,Wm,λd F m=>?_];rw[take_snoc hy]at m;by_cases z:d=((i:Int),y);rw[z];refine zaF _<|(bE ()).mpr #[0,?_];rw[jM n0 ek];rfl;refine zaJ _<|O5 d F ?_;ext(m|⟨m,M⟩:m);exact .inl m;ext(M|M:zam.mp M);exact .inr #[m,M];exact absurd (zbA m<|zaj.mp M) z;refine#[u,bs,R,_,_,_,rfl,e3.trans I,I _ _ g3,t3.same I,Qg,Oc,Ql,λd F m=>?_];rw[take_snoc hy]at m;ext(m|⟨m,M⟩:m);exact O5 d F<|.inl m;ext(M|M:zam.mp M);exact O5 d F<|.inr #[m,M];rw[show d=((i:Int),y)from zbA m<|zaj.mp M];exact TX;ext B N ⟨u,bs,R,U,O,G,rfl,e3,g3,t3,Qg,Oc,Ql,O5⟩;rw[zaa,zbp]at O5;refine#[u,bs,R,_,_,_,_,_,rfl,e3,g3,t3,Qg,Oc,Ql,λd F m=>O5 d F ?_];by_cases z:d.1=i;refine .inr #[z,?_];let:=F.mem;rw[z,el]at this;exact this;exact .inl ();ext B S ⟨u,bs,R,v3,v4,U,O,G,rfl,e1,g1,W,oU,BP,OR,Rq⟩;rw[zaa,g.len]at Rq;ext;let zR:=W.len;let lb:=OR.len;let l2:=OR.two;refine#[t,bs,R,rfl,aK.of W.top,W.len,λi b l F m=>aK.of<|W.row i b l F m,(),λpp qd hp NL hq=>?_];let pm:=oQ (d:=(0:Addr)) (L:=bs) (p:=pp) (by erw[zR,hp]);refine q qd (pick 0 bs pp) (pick [] R pp) _ (e1.trans<|ai.upd hq) (W.pick hp hq) ?_ (λb hb=>?_)<|OR.lands hp NL λd hd=>Rq d hd hd.hi;refine zar.mpr #[λz=>W.fQ hq<|zag _<|pm.mem_iff.mp z,pm.nodup_iff.mpr (zar.mp oU).2];ext(z|z:zas.mp hb);rw[z];exact e1.free hq;exact BP b<|zag _<|pm.mem_iff.mp z
theorem qo:aS ["orders", "found", "place", "order"] ["orders"]<|aH Bi:=by walk_at "n"
theorem Kb(D:Def K mg "ties" Bi ["orders"])(T:Txt K mg Z):W! "ties" 1 ["orders"] wo:=by
 exists D.dZ qo,dQ,hr;let#[p,as,L,rfl,_]:=h;rfl;let#[p,as,L,rfl,g,hn,X,q]:=h;refine#[_,(ae (aw (i:=1) qo.nd rfl A!<|bH af)<|ae (bN zaE rfl (ny T.enumerate<|aa (pv 0) af) (kE (n:=2) rfl<|bC (aC (i:=2) qo.nd rfl A!)<|bC (aC (i:=3) qo.nd rfl A!) fh)<|ao<|eQ<|iG zbc PySem.F.slot_list_extend PySem.F.type_list_extend Eu (pv 1)<|aa (dG (tg:=["neighbour"]) (fr:=[("place",2)]) D! rfl (bL<|aE AG C! T.sorted vP<|aa (pv 3) af) (λ_ _ _ _ _=>(aC (i:=0) (show [("neighbour":Str),("place":Str)].Nodup by decide +kernel) rfl A!)) (λ_ _ _ _ _=>(kz<|aQ lV (pv 1) (pv 0)<|aV _))<|λ_ _ _ _ _=>(dF<|aa (pv 1)<|aa (pv 0) af)) af)<|ao<|aU<|pv 1),?_]
 dsimp only[eg];ext;refine#[zaS _,λt ht=>?_];ext;refine cM ?_;let e0:ai H<|upd H t<|.lst []:=ai.upd ht;refine#[_,rfl,p,rfl,#[_,aK.of<|e0 _ _ g.top],kR (K:=K) (a:=p) (xs:=as.d) (λi σ d=>∃(S:bp) (v2 v3:Option V),σ=[p.e,t.e,v2,v3]/\ai H d/\d t=some (.lst S.d)/\PR d S (cI L i)) #[[],none,none,rfl,e0,ah,.nil] (λi σ d _ ⟨_,_,_,_,U,_⟩=>aK.of<|U _ _ g.top) ?_ ?_];ext i x pr σ d m ⟨S,v2,v3,rfl,U,h1,R1⟩ Dv;let hi:i<L.z:=by let:=(zac.mp m).1;rw[zaa,g.len]at this;exact this
 let#[b,l,ha,O,bQ]:=g.at hi;obtain rfl:x=V.ref b:=by rw[zao,ha]at m;exact(zaq m).symm
 let e2:ai d<|upd d pr<|.tup [.int i,.ref b]:=ai.upd Dv;let LV:=e2 _ _<|U _ _ bQ;let Y:=e2 _ _ h1;let M0:=R1.same e2;let mQ:=U.trans e2;refine fE (SqT.of ah) rfl ?_;generalize upd d pr (.tup [.int i,.ref b])=H2 at LV Y M0 mQ ⊢;ext;refine#[.inl #[rfl,_,aK.of Y],?_];ext;refine cA ?_;let ln:l.z<=L.z:=cG (X.nd _ _ O) λy N=>#[(X.rg _ _ O y N).1,(X.rg _ _ O y N).2.1];refine#[_,rfl,b,l,rfl,aK.of LV,(),λj W hp hs AW=>?_];let ac:=hp.length_eq;refine#[W,rfl,#[_,aK.of ah],λG R=>?_];let e3:ai H2<|upd H2 W<|.lst j.c:=ai.upd AW;let e4:=e3.trans<|ai.upd (o:=.lst []) R;let T6:upd (upd H2 W<|.lst j.c) G (.lst []) W=some (.lst j.c):=by erw[aG<|bo ah R,ah]
 refine cU (K:=K) (a:=W) (xs:=j.c) (λk r ys u=>∃(c:bp) (v:Option V),r=[v,i.f]/\ys=c.d/\ai H2 u/\u W=some (.lst j.c)/\u G=some (.lst ys)/\c.z<=k/\PR u c (((j.take k).filter<|λy=>decide<|(i:Int)<y).map λy=>((i:Int),y)))
  #[[],none,rfl,rfl,e4,T6,ah,zai _,.nil] (λk r ys u _ ⟨_,_,_,_,_,h,_⟩=>aK.of h) ?_ ?_
 ext k x r ys u m hk ⟨c,v,rfl,rfl,B,s5,C,q5,I⟩;obtain⟨y,N,rfl⟩:∃y,j[k]?=some y/\x=V.int y:=by
  rw[zao]at m;cases e:j[k]? with
  | none=>rw[e]at m;cases m
  | some z=>rw[e]at m;exact#[z,rfl,(zaq m).symm]
 rw[zaa]at hk;let tk:j.take (k+1)=j.take k++[y]:=by rw[zeI,N];rfl
 ext;refine if2 (λgH=>?_)<|λgH=>?_;ext;ext pq M;refine#[by erw[aG<|bo C M,C],by erw[zaa,aI ()],cZ (by erw[zaa,hk]) #[c++[pq],_,rfl,by simp,?_,?_,ah,by simp;lia,?_]];exact ai.fresh (B.trans<|ai.upd M)<|e3.free R;rw[aG (λz=>by rw[<-z]at R;rw[ah]at R;cases R),aG<|bo s5 M];exact s5;let p6:PR (upd u pq<|.tup [.int i,.int y]) c _:=I.same<|ai.upd M;let p7:=PR.lst (zs:=c.d++[.ref pq]) p6 (show upd u pq (.tup [.int i,.int y]) G=some (.lst c.d)by erw[aG<|bo C M,C]);rw[tk,filter_append,zaw];refine PR.app p7 ?_;rw[zdg,zad<|by simpa using gH];refine .cons ?_ .nil;rw[aG<|zaZ<|bo C M];exact ah;refine cZ (by erw[zaa,hk]) #[c,_,rfl,rfl,B,s5,C,(),?_];rw[tk,filter_append,zaw,zdg,zab<|by simpa using gH];simpa using I;ext r ys u ⟨c,v,rfl,rfl,B,s5,C,q5,I⟩;rw[zaa]at q5 I;rw[zbp]at I;rw[MK hp hs (X.nd _ _ O) (λy N=>(X.rg _ _ O y N).2.1) hi]at I;ext;let lp:=M0.len;let ld:=zX (L:=L) i;let lm:i*L.z<=60*60:=zbU () hn;refine GC (B _ _ Y) C (by rw[zaa,zaa,zat];lia) ?_;ext;refine#[S++c,_,_,rfl,ai.fresh (mQ.trans B) ht,by erw[zaw,ah],?_];let hg:L.getD i []=l:=by rw[zak,O];rfl
 rw[cI,hg];exact PR.app (PR.lst (M0.same B)<|B _ _ Y)<|PR.lst I<|B _ _ Y;ext σ d ⟨S,v2,v3,rfl,U,h1,R1⟩;rw[zaa,g.len]at R1;ext;exact q t S d U ht h1 R1
theorem eZ:aS ["rings", "left", "land", "ring", "step"] ["rings"]<|aH jv:=by walk_at "n"
theorem uk(D:Def K mg "left_lands" jv ["rings"])(T:Txt K mg Z)(nT:W! "steps" 1 ["ring"] mU):W! "left_lands" 2 ["rings"] Cu:=by
 exists D.dZ eZ,dQ,C;let#[t,bs,R,rfl,_]:=h;rfl;let#[t,bs,R,rfl,g,nd,hp,hl,q]:=h;refine#[_,(ae (aw (i:=1) eZ.nd rfl A! se)<|ae (bN zaE rfl (ny T.enumerate<|aa (pv 0) af) (kE (n:=2) rfl<|bC (aC (i:=2) eZ.nd rfl A!)<|bC (aC (i:=3) eZ.nd rfl A!) fh)<|ao<|bN zaE rfl (bL<|az nT C aZ<|aa (pv 3) af) (aC (i:=4) eZ.nd rfl A!)<|ao<|qv (lY C) (pv 1) (pv 4) (pv 2) rfl)<|ao<|aU<|pv 1),?_]
 dsimp only[eg];ext;ext c BK;let N:ai H<|upd H c<|.dT []:=ai.upd BK;let g0:upd H c (.dT []) c=some (.dT<|kN<|lk (λ_=>0) R 0):=ah;generalize upd H c (.dT [])=H0 at N g0 ⊢;ext;refine cM ?_;refine#[_,rfl,t,rfl,#[_,aK.of<|N _ _ g.top],kR (K:=K) (a:=t) (xs:=bs.d) (λi l m=>∃v2 X G:Option V,l=[t.e,c.e,v2,X,G]/\ai H m/\m c=some (.dT<|kN<|lk (λ_=>0) R i))
  #[none,none,none,rfl,N,g0] (λi l m _ ⟨_,_,_,_,F,_⟩=>aK.of<|F _ _ g.top) ?_ ?_]
 ext i x pr l m p ⟨v2,X,G,rfl,F,L⟩ Dv;let hi:i<R.z:=by let:=(zac.mp p).1;rw[zaa,g.len]at this;exact this
 let#[b,r,ha,C,bQ]:=g.at hi;obtain rfl:x=V.ref b:=by rw[zao,ha]at p;exact(zaq p).symm
 let er:R.getD i []=r:=by rw[zak,C];rfl
 let ek:lk (λ_=>0) R (i+1)=lk (λ_=>0) R i++(sh 0 r).map λd=>(d,(i:Int)):=by rw[lk,er]
 let M:((lk (λ_=>0) R<|i+1).map (·.1)).Nodup:=by erw[qG (),(lB _ _ _).nodup nd]
 let kl:(lk (λ_=>0) R<|i+1).z<=1000:=by let e:=zaA List.length<|qG (s:=λ_=>0) (R:=R) (k:=i+1) ();let f:=(lB (sh 0) R<|i+1).length_le;let oZ:(R.flatMap λr=>sh 0 r).z<=1000:=hl;rw[zaa]at e;exact zaI (Nat.le_of_eq e)<|zaI f oZ
 rw[ek]at M kl;rw[zay,zaa,cK]at kl;rw[zaw,zdw]at M;let r0:=hp r<|zah C;let O:ai m<|upd m pr<|.tup [.int i,.ref b]:=ai.upd Dv;let g2:=O _ _ L;let Y:=F.trans O;refine fE (SqT.of ah) rfl ?_;generalize upd m pr (.tup [.int i,.ref b])=H2 at O g2 Y ⊢;ext;refine cM ?_;refine#[_,rfl,b,r,rfl,Y _ _ bQ,r0,(),λsl y Hs es VP Lz MZ=>?_];refine#[sl,rfl,#[_,aK.of Lz],fe (K:=K) (a:=sl) (xs:=y.d) (λj l u=>∃G:Option V,l=[t.e,c.e,i.h,b.e,G]/\ai H u/\u c=some (.dT<|kN<|lk (λ_=>0) R i++((sh 0 r).take j).map λd=>(d,(i:Int)))/\u sl=some (.lst y.d)/\PR u y (sh 0 r))
  #[_,rfl,Y.trans es,by erw[take_zero,map_nil,zcP,es _ _ g2],Lz,MZ] (λj l u _ ⟨_,_,_,_,e,_⟩=>aK.of e) ?_ ?_]
 ext j x l u p ⟨w4,rfl,W,v,I,B⟩;let QQ:j<y.z:=by let:=(zac.mp p).1;rw[zaa]at this;exact this
 let#[S,N1,k8]:=B.at (i:=j) (a:=y[j]) (by simp[QQ]);obtain rfl:x=V.ref y[j]:=by rw[zao,zaf QQ]at p;exact(zaq p).symm
 let NX:j<r.z:=by let:=B.len;rw[cK]at this;lia
 let U:S∉(lk (λ_=>0) R i++((sh 0 r).take j).map λd=>(d,(i:Int))).map (·.1):=by
  rw[zaw,zdw];let YS:((lk (λ_=>0) R i).map (·.1)++sh 0 r).Nodup:=by let:(sh 0 r).map ((λx:ak×Int=>x.1) ∘ λd=>(d,(i:Int)))=sh 0 r:=map_id _;rw[this]at M;exact M
  let e9:((sh 0 r).take j).map ((λx:ak×Int=>x.1) ∘ λd=>(d,(i:Int)))=(sh 0 r).take j:=map_id _;erw[e9,gN YS N1]
 ext;refine#[c,_,rfl,tU.t (k:=fL S) v k8 ?_,?_];rw[Nx,zay,zaa,zbb];exact aI ();rw[P2 U,zck];let et:((sh 0 r).take j).map (λd=>(d,(i:Int)))++[(S,(i:Int))]=((sh 0 r).take<|j+1).map λd=>(d,(i:Int)):=by rw[take_snoc N1,zaw];rfl
 rw[et];refine#[_,rfl,ai.fresh W BK,ah,?_,Paired.xt B λa z h=>?_];rw[aG<|λz=>by rw[z,v]at I;cases I];exact I;rw[aG<|λw=>by rw[w,v]at h;cases h];exact h;ext l u ⟨w4,rfl,W,v,I,B⟩;rw[zaa,B.len,zbp,<-ek]at v;exact#[_,_,_,rfl,W,v];ext l m ⟨v2,X,G,rfl,F,L⟩;rw[zaa,g.len]at L;ext;exact q c m F BK L
theorem dD:aS ["orders", "rings", "left", "turned", "land", "ring", "order"] ["orders"]<|aH kj:=by walk_at "n"
theorem xh(D:Def K mg "other_map" kj ["orders"])(T:Txt K mg Z)(nT:W! "steps" 1 ["ring"] mU)(KH:W! "lands" 3 ["orders"] zc)(xP:W! "left_lands" 2 ["rings"] Cu):W! "other_map" 4 ["orders"] yZ:=by
 exists D.N6 dD,dQ,m;let#[p,as,L,rfl,_]:=h;rfl;let#[p,as,L,rfl,g,im,hn,hd,qF,qq]:=h;refine#[_,(ae (aw (i:=1) dD.nd rfl A!<|az KH m aZ<|aa (pv 0) af)<|ae (aw (i:=2) dD.nd rfl A!<|az xP m aZ<|aa (pv 1) af)<|ae (aw (i:=3) dD.nd rfl A!<|bH af)<|ae (bN PassesOwn.leaving rfl (ny T.enumerate<|aa (pv 1) af) (kE (n:=2) rfl<|bC (aC (i:=4) dD.nd rfl A!)<|bC (aC (i:=5) dD.nd rfl A!) fh)<|ae (eC (i:=6) dD.nd rfl A! (tg:=["here", "there"]) (fr:=[("left",2)]) D! rfl (bL<|az nT m aZ<|aa (pv 5) af) (λ_ _ _ _ _=>(nD (K:=K) rfl (n:=2) rfl<|bC (aC (i:=0) (show [("here":Str),("there":Str),("left":Str)].Nodup by decide +kernel) rfl A!)<|bC (aC (i:=1) (show [("here":Str),("there":Str),("left":Str)].Nodup by decide +kernel) rfl A!) fh)) (λ_ _ _ _ _=>bB)<|λ_ _ _ _ _=>(qA (lY m) (pv 2) (dF<|aa (pv 1)<|aa (pv 0) af) C?))<|ae (cN (PW.pt<|pw_or (aQ En (pv 4) (pv 6)<|by with_unfolding_all rfl)<|pw_or1<|aQ jS (aE E5 C! T.len bh<|aa (i8 (E3 rfl) C! T.set Oz<|aa (pv 6) af) af) (aE aN C! T.len bh<|aa (pv 6) af)<|aV _) (ao<|zB PySem.F.excBase_ValueError T.x_NoOther T.E9 rfl (aa GV af) Gq) bA)<|ao<|eQ<|iG zbc zbv zbw dr (pv 3)<|aa (pv 6) af)<|ao<|aU<|pv 3),?_]
 dsimp only[eg];ext;refine#[p,as,L,rfl,g,im,(),hd,λt ts R H1 e1 t1 oU BP C=>?_];let q:tS (R.map<|ja R 0)->∀(t:Addr) (bs:bp) I,ai H I->aO I t bs (R.map<|ja R 0)->(t::bs).Nodup->(∀b∈t::bs,H b=none)->Q (.ref t) I:=λ_ t bs I e g _ _=>qq R t bs I C e g;let qE:¬tS (R.map<|ja R 0)->∀I,ai H I->E (.ref Z.yi) none I:=λno=>absurd (qF R C) no;let fl:=oV C;let ad:=EA C;ext;refine#[t,ts,R,rfl,t1,C.nd,λr m=>by let:=(C.good r m).two;lia,(),λgd M e2 al g2=>?_];let t2:=t1.same e2;ext;refine#[zaS _,λu Qz=>?_];let e3:ai M<|upd M u<|.lst []:=ai.upd Qz;let u3:aO (upd M u<|.lst []) u []<|(R.take 0).map<|ja R 0:=#[ah,rfl,λi a l z=>by simp at z];generalize upd M u (.lst [])=H3 at e3 u3 ⊢;ext;refine cM ?_;refine#[_,rfl,t,rfl,#[_,aK.of (t2.same e3).top],kR (K:=K) (a:=t) (xs:=ts.d) (λi σ G=>∃(cs:bp) (v4 v5 v6:Option V),σ=[p.e,t.e,gd.e,u.e,v4,v5,v6]/\ai M G/\aO G u cs ((R.take i).map<|ja R 0)/\(u::cs).Nodup/\(∀b∈u::cs,M b=none)/\∀(k:Nat) (l:b9),k<i->(R.map<|ja R 0)[k]?=some l->(k:Int)∉l/\l.Nodup)
  #[[],none,none,none,rfl,e3,u3,by simp,by simpa using Qz,λk l hk _=>()] (λi σ G _ ⟨_,_,_,_,_,e,_⟩=>aK.of<|e _ _ t2.top) ?_ ?_]
 ext i x pr σ G O ⟨cs,v4,v5,v6,rfl,e4,X,zO,Y,R4⟩ Dv;let hi:i<R.z:=by let:=(zac.mp O).1;rw[zaa,t2.len]at this;exact this
 let#[b,r,ha,m,bQ]:=t2.at hi;obtain rfl:x=V.ref b:=by rw[zao,ha]at O;exact(zaq O).symm
 let gr:=C.good r<|zah m;let tw:=gr.two;let rl:r.z<=128:=by let:=Gf C<|zah m;lia
 let e5:ai G<|upd G pr<|.tup [.int i,.ref b]:=ai.upd Dv;let UZ:=e4.trans e5;let u5:=X.same e5;refine fE (SqT.of ah) rfl ?_;generalize upd G pr (.tup [.int i,.ref b])=H5 at e5 UZ u5 ⊢;ext;refine cA ?_;refine#[_,rfl,b,r,rfl,UZ _ _ bQ,(),(),λsl ps H6 e6 VP Lz MZ=>?_];refine#[sl,rfl,#[_,aK.of Lz],λc bq=>?_];let UY:=UZ.trans e6;refine cU (K:=K) (a:=sl) (xs:=ps.d) (λj v ys d=>∃v0 v1:Option V,v=[v0,v1,gd.e]/\ys=((ja R 0 r).take j).c/\ai H6 d/\d c=some (.lst ys))
  #[none,none,rfl,rfl,ai.upd bq,ah] (λj v ys d _ ⟨_,_,_,_,e,_⟩=>aK.of<|e _ _ Lz) ?_ ?_
 ext j x v ys d O hj ⟨v0,v1,rfl,rfl,N,U⟩;rw[zaa]at hj;let#[d8,N1,k8]:=MZ.at (i:=j) (a:=ps[j]) (by simp[hj]);obtain rfl:x=V.ref ps[j]:=by rw[zao,zaf hj]at O;exact(zaq O).symm
 let NX:j<r.z:=by let:=MZ.len;rw[cK]at this;lia
 let WQ:=N1;rw[rG NX]at WQ;obtain rfl:=zaq WQ;refine fE (SqT.of<|N _ _ k8) rfl ?_;ext;refine wW<|dy rfl ?_;ext;ext q8 Zi;let B:ai d<|upd d q8<|.tup [.int (dj r<|j+0).2,.int (dj r<|j+0).1]:=ai.upd Zi;let k9:upd d q8 (.tup [.int (dj r<|j+0).2,.int (dj r<|j+0).1]) q8=some (.tup<|(fL ((dj r<|j+0).2,(dj r<|j+0).1)).map kV):=ah;generalize upd d q8 (.tup [.int (dj r<|j+0).2,.int (dj r<|j+0).1])=H8 at B k9 ⊢;let lg:=Nk (s:=λ_=>0) C<|yh im<|gr.dt<|j+0;refine#[gd,V.int<|lo R ((dj r<|j+0).2,(dj r<|j+0).1),rfl,?_,?_];let:=k7.t (k:=fL ((dj r<|j+0).2,(dj r<|j+0).1)) (B _ _<|N _ _<|UY _ _ g2) k9;rw[lg]at this;exact this;let tk:(ja R 0 r).take (j+1)=(ja R 0 r).take j++[lo R ((dj r<|j+0).2,(dj r<|j+0).1)]:=take_snoc<|oS NX;refine#[B _ _ U,?_,cZ (by erw[zaa,hj]) #[_,_,rfl,?_,ai.fresh (N.trans B) bq,ah]];rw[zaa,zbb];exact aI ();rw[tk,zaw];rfl;ext v ys d ⟨v0,v1,rfl,rfl,N,U⟩;let ac:(ps.d).z=(ja R 0 r).z:=by rw[zaa,MZ.len,cK,eR]
 rw[ac,zbp]at U;let Xm:=UY.trans N;let NO:(R.map<|ja R 0)[i]?=some (ja R 0 r):=by rw[zao,m];rfl
 let Vg:M c=none:=UY.free bq;ext;refine PQ (aK.of U) ?_;rw[zab B!];ext;refine if2 (λSq=>?_)<|λUd=>?_;ext;exact#[by rw[zat];simp,qE (λz=>(z i _ NO).1 Sq) _<|(e1.trans e2).trans Xm];ext;refine#[c,ja R 0 r,rfl,aK.of U,by rw[eR];lia,λsp S AW=>?_];let B:ai d<|upd d sp<|.set S (B4<|ja R 0 r).z:=ai.upd AW;refine#[sp,S,_,rfl,ah,?_];generalize upd d sp (.set S (B4<|ja R 0 r).z)=H8 at B ⊢;let a8:=B _ _ U;ext;refine#[_,_,rfl,.inl #[_,aK.of a8,rfl],?_];rw[zaa];let Xl:=Xm.trans B;ext;refine jK (λuC=>?_)<|λag=>?_;ext;exact#[by rw[zat];simp,qE (λz=>uC<|by rw[(AA<|ja R 0 r).mpr (z i _ NO).2]) _<|(e1.trans e2).trans Xl];let Yv:(ja R 0 r).Nodup:=(AA _).mp ();let u8:=((u5.same e6).same N).same B;let OQ:c∉u::cs:=(u5.same e6).fQ bq;let C7:c≠u:=λz=>OQ<|z▸zal;ext;refine#[.inl #[rfl,_,aK.of u8.top],?_];ext;refine eE u8.top (by erw[zaa,u8.len,zaa,zbb,aI ()]) ?_;refine#[cs++[c],_,_,_,rfl,ai.fresh Xl<|Y _ zal,?_,?_,λy hy=>?_,λk l hk W=>?_];rw[take_snoc m,zaw];exact u8.snoc (zar.mp zO).1 C7 a8;let#[n1,n2]:=zar.mp zO;refine zar.mpr #[λz=>?_,gu.mpr #[λz=>OQ<|zag _ z,n2]];ext(z|z:zam.mp z);exact n1 z;exact C7 (zaj.mp z).symm;ext(z|z:zas.mp hy);rw[z];exact Y _ zal;ext(z|z:zam.mp z);exact Y y<|zag _ z;rw[zaj.mp z];exact Vg;by_cases z:k<i;exact R4 k l z W;obtain rfl:k=i:=();rw[NO]at W;cases W;exact#[Ud,Yv];ext σ G ⟨cs,v4,v5,v6,rfl,e4,X,zO,Y,R4⟩;rw[zaa,t2.len]at R4 X;rw[zbp]at X;ext;refine q (λk l W=>R4 k l ?_ W) u cs G ((e1.trans e2).trans e4) X zO<|λb hb=>(e1.trans e2).free<|Y b hb;let:=(zac.mp W).1;rw[zaa]at this;exact this
theorem ve:aS ["orders", "one", "other", "changed"] ["orders", "one", "other"]<|aH rO:=by walk_at "n"
theorem Eo(D:Def K mg "untied" rO ["orders", "one", "other"])(T:Txt K mg Z)(BN:W! "ties" 1 ["orders"] wo):W! "untied" 2 ["orders", "one", "other"] oD:=by
 exists D.dZ ve,dQ,hr;let#[p,Y,L,d,rfl,_]:=h;rfl;let#[p,Y,L,d,rfl,g,N,hn,dt,q]:=h;let O:=dt.lo;let W:=dt.hi;let#[b0,b1,ac,_]:=dt.back N;let ne:d.1≠d.2:=λz=>ac z.symm;refine#[_,(ae (cN (aQ (Em hr.units) (dF<|aa (aE (pD rfl) C! T.min mP<|aa (pv 1)<|aa (pv 2) af)<|aa (aE (vN rfl) C! T.max yf<|aa (pv 1)<|aa (pv 2) af) af) (az BN hr aZ<|aa (pv 0) af)<|by with_unfolding_all rfl) (ao Bt) bA)<|ae (eC (i:=3) ve.nd rfl A! (tg:=["order"]) (fr:=[]) D! rfl (bL<|pv 0) (λ_ _ _ _ _=>(aC (i:=0) (show [("order":Str)].Nodup by decide +kernel) rfl A!)) (λ_ _ _ _ _=>bB)<|λ_ _ _ _ _=>(bG (mV (K:=K) rfl) (pv 0) bR bR))<|ae (eQ<|iG zbc PySem.F.slot_list_remove PySem.F.type_list_remove vv (aP aB (pv 3) (pv 1) C?)<|aa (pv 2) af)<|ae (eQ<|iG zbc PySem.F.slot_list_remove PySem.F.type_list_remove vv (aP aB (pv 3) (pv 2) C?)<|aa (pv 1) af)<|ao<|aU<|pv 3),?_]
 dsimp only[eg];ext;refine#[_,_,rfl,?_];ext;refine#[_,_,rfl,?_];ext;ext tp Zb;let e1:ai H<|upd H tp<|.tup [.int (if d.2<d.1 then d.2 else d.1),.int<|if d.2 > d.1 then d.2 else d.1]:=ai.upd Zb;let t1:upd H tp (.tup [.int (if d.2<d.1 then d.2 else d.1),.int<|if d.2 > d.1 then d.2 else d.1]) tp=some (.tup [.int (if d.2<d.1 then d.2 else d.1),.int<|if d.2 > d.1 then d.2 else d.1]):=ah;generalize upd H tp (.tup [.int (if d.2<d.1 then d.2 else d.1),.int<|if d.2 > d.1 then d.2 else d.1])=H1 at e1 t1 ⊢;ext;refine#[p,Y,L,rfl,g.same e1,(),N,λt ps B u t0 NM M0=>?_];let DF:=e1.trans u;refine#[tp,t,(if d.2<d.1 then d.2 else d.1,if d.2 > d.1 then d.2 else d.1),ps,_,rfl,rfl,u _ _ t1,NM,M0,?_];let hm:=Jz N O W b0 b1 ne;ext;refine jK (λZm=>?_)<|λTY=>?_;exact absurd (hm.mpr dt.mem) Zm;let C:=hm.mp TY;let r:=g.same DF;ext;refine cA ?_;refine#[_,rfl,p,rfl,#[_,aK.of r.top],λj bq=>?_];refine cU (K:=K) (a:=p) (xs:=Y.d) (λi k ys m=>∃(bs:bp) (v:Option V),k=[v]/\ys=bs.d/\ai B m/\bs.z=i/\aO m j bs (L.take i)/\(j::bs).Nodup/\∀b∈j::bs,B b=none)
  #[[],none,rfl,rfl,ai.upd bq,rfl,#[ah,rfl,λi a l z=>by simp at z],by simp,by simpa using bq] (λi k ys m _ ⟨_,_,_,_,e,_⟩=>aK.of<|e _ _ r.top) ?_ ?_
 ext i x k ys m hx R ⟨bs,v,rfl,rfl,u,rfl,g2,ow,U⟩;let#[b,l,ha,hl,bQ]:=r.at (i:=bs.z) (by rw[zaa,r.len]at R;exact R);obtain rfl:x=V.ref b:=by rw[zao,ha]at hx;exact(zaq hx).symm
 let LY:=R;rw[zaa,r.len]at LY;ext;refine GF (a:=b) rfl (aK.of<|u _ _ bQ) λc hc=>?_;let nc:=g2.fQ hc;let e3:ai m<|upd m c<|.lst l.c:=ai.upd hc;let c3:upd m c (.lst l.c) c=some (.lst l.c):=ah;let cH:B c=none:=u.free hc;generalize upd m c (.lst l.c)=Hy at e3 c3 ⊢;let g3:=g2.same e3;let C7:c≠j:=λz=>nc<|z▸zal;refine#[g3.top,by erw[zaa,aI ()],cZ R #[bs++[c],_,rfl,by simp,ai.fresh (u.trans e3)<|U _ zal,by simp,?_,?_,λy hy=>?_]];rw[take_snoc hl];exact g3.snoc (zar.mp ow).1 C7 c3;let#[n1,n2]:=zar.mp ow;refine zar.mpr #[λz=>?_,gu.mpr #[λz=>nc<|zag _ z,n2]];ext(z|z:zam.mp z);exact n1 z;exact C7 (zaj.mp z).symm;ext(z|z:zas.mp hy);rw[z];exact U _ zal;ext(z|z:zam.mp z);exact U y<|zag _ z;rw[zaj.mp z];exact cH;ext k ys H4 ⟨cs,v,rfl,rfl,e4,UD,n,zO,yD⟩;rw[zaa,r.len,zbp]at n;let#[G,la,Jf,Sn,pP]:=n.at (i:=d.1.toNat) ();let#[I,lb,S,Uj,WA]:=n.at (i:=d.2.toNat) ();let Z5:la=XS L d.1:=by rw[aD O W]at Sn;exact(zaq Sn).symm
 let Z4:lb=XS L d.2:=by rw[aD b0 b1]at Uj;exact(zaq Uj).symm
 subst Z5 Z4;let i1:j6 cs.d d.1=some (V.ref G):=by let:=n.ix Jf;rwa [zbE O]at this
 let i2:j6 cs.d d.2=some (V.ref I):=by let:=n.ix S;rwa [zbE b0]at this
 let bk:=Dt.back (d:=d) #[O,W,C] N;ext;refine aR (aK.of n.top) i1 ?_;refine#[.inl #[rfl,_,aK.of pP],?_];ext;refine#[G,_,d.2,rfl,rfl,pP,C,?_];let M:=n.set zO (l':=(XS L d.1).erase d.2) Jf;let X:=yD G<|zag _<|zah Jf;let ad:=yD I<|zag _<|zah S;let e5:ai B<|upd H4 G<|.lst<|((XS L d.1).erase d.2).c:=ai.fresh e4 X;generalize upd H4 G (.lst<|((XS L d.1).erase d.2).c)=H5 at M e5 ⊢;let Ui:(L.set d.1.toNat<|(XS L d.1).erase d.2)[d.2.toNat]?=some (XS L d.2):=by erw[zdK (),Uj]
 let HJ:=M.row _ _ _ S Ui;ext;refine aR (aK.of M.top) i2 ?_;refine#[.inl #[rfl,_,aK.of HJ],?_];ext;refine#[I,_,d.1,rfl,rfl,HJ,bk.2.2.2,?_];let g6:=M.set zO (l':=(XS L d.2).erase d.1) S;let e6:ai B<|upd H5 I<|.lst<|((XS L d.2).erase d.1).c:=ai.fresh e5 ad;generalize upd H5 I (.lst<|((XS L d.2).erase d.1).c)=H6 at g6 e6 ⊢;let er:(L.set d.1.toNat<|(XS L d.1).erase d.2).set d.2.toNat ((XS L d.2).erase d.1)=rem L d.1 d.2:=rfl;rw[er]at g6;ext;exact q j cs H6 (DF.trans e6) g6
theorem F6:aS ["orders"] ["orders"]<|aH wM:=by walk_at "n"
theorem Hd(D:Def K mg "hangs" wM ["orders"])(T:Txt K mg Z)(d:W! "come_to" 1 ["orders", "start", "shut"] Cw):W! "hangs" 2 ["orders"] zd:=by exists D.dZ F6,z,e;let#[p,c,L,rfl,_]:=h;rfl;let#[p,c,L,rfl,g,k,x,j,q]:=h;refine#[_,(ao<|aU<|jB eG (aE E7 C! T.len bh<|aa (az d e aZ<|aa (pv 0)<|aa aj<|aa (bH af) af) af) (aE aN C! T.len bh<|aa (pv 0) af)<|aV _),?_];dsimp only[eg];ext;refine#[zaS _,λsh m=>?_];let a:ai H<|upd H sh<|.lst []:=ai.upd m;ext;refine#[p,c,L,[],0,sh,rfl,g.same a,ah,k,j,Int.le_refl 0,(),λt v r u y n i l=>?_];let b:=a.trans u;ext;refine#[t,_,rfl,n,?_];ext;refine#[_,_,rfl,.inl #[_,aK.of<|b _ _ g.top,rfl],?_];rw[zaa,zaa,g.len];ext;exact q v r b i l
theorem FI{l:b9}{x n:Nat}{m:b9}{z:Int}(g:0<=z)(b:z≠(x:Int)):((List.range n).map λj=>if j=x then((l.z:Int),(1:Int))else if(j:Int)∈m then(-1,1)else(0,1)).set z.toNat (-1,1)=(List.range n).map λj=>if j=x then((l.z:Int),(1:Int))else if(j:Int)∈m++[z]then(-1,1)else(0,1):=by
 refine zcr A? λi a f=>?_;rw[zeo];simp only[zcB,zcz];by_cases c:z.toNat=i;let:(i:Int)=z:=();rw[zad c,zab (),zad<|by rw[this];simp];rw[zab c];let e:(i:Int)∈m++[z]↔(i:Int)∈m:=by erw[zdz,mem_singleton,#[λh=>h.resolve_right (),.inl]]
 by_cases d:(i:Int)∈m;rw[zad d,zad<|e.mpr d];rw[zab d,zab λw=>d<|e.mp w]
theorem FJ{l:b9}{x n:Nat}{m:b9}{z:Int}(b:(n:Int)<=z):((List.range n).map λj=>if j=x then((l.z:Int),(1:Int))else if(j:Int)∈m then(-1,1)else(0,1))=(List.range n).map λj=>if j=x then((l.z:Int),(1:Int))else if(j:Int)∈m++[z]then(-1,1)else(0,1):=by
 refine zbS λj a=>?_;let a:=zaU.mp a;let e:(j:Int)∈m++[z]↔(j:Int)∈m:=by erw[zdz,mem_singleton,#[λh=>h.resolve_right (),.inl]]
 by_cases d:(j:Int)∈m;rw[zad d,zad<|e.mpr d];rw[zab d,zab λw=>d<|e.mp w]
theorem A8{l:b9}{x n:Nat}:(List.replicate n ((0:Int),(1:Int))).set x ((l.z:Int),1)=(List.range n).map λj=>if j=x then((l.z:Int),(1:Int))else if(j:Int)∈([]:b9)then(-1,1)else(0,1):=by refine zcr A? λi a b=>?_;rw[zeo];simp only[zcB,zcz,getElem_replicate];by_cases c:x=i;rw[zad c,zad c.symm];rw[zab c,zab λz=>c z.symm,zab A?]
theorem zk{a:Type}{v:a}:∀n,(List.replicate n [v]).flatten=List.replicate n v
 | 0=>rfl
 | n+1=>by rw[zdb,zbz,zk n,zdb];rfl
theorem GP{H:Hp}{c:Addr}{d:Int×Int}(h:H c=some (.tup [.int d.1,.int d.2])):∀n,PR H (List.replicate n c) (List.replicate n d)
 | 0=>.nil
 | n+1=>.cons h<|GP h n
theorem ke:aS ["order", "place", "size", "row", "neighbour"] ["order", "place", "size"]<|aH mj:=by walk_at "n"
theorem zL(D:Def K mg "tree_row" mj ["order", "place", "size"])(T:Txt K mg Z):W! "tree_row" 1 ["order", "place", "size"] Cr:=by
 exists D.dZ ke,dQ,hr;let#[a,l,x,n,rfl,_]:=h;rfl;let#[a,l,x,n,rfl,I,l6,xn,n6,ok,q]:=h;refine#[_,(ae (aw (i:=3) ke.nd rfl A!<|aA M8 (bH<|aa (dF<|aa aj<|aa aj af) af)<|pv 2)<|ae (fV (dF<|aa (aE aN C! T.len bh<|aa (pv 0) af)<|aa aj af)<|h9 (pv 3) (pv 1) set_list)<|ae (bN zaE rfl (bL<|pv 0) (aC (i:=4) ke.nd rfl A!)<|ao<|cN (aQ lV (pv 4) (pv 2)<|aV _) (ao<|fV (dF<|aa (zG qW aj)<|aa aj af)<|h9 (pv 3) (pv 4) set_list) bA)<|ao<|aU<|pv 3),?_]
 dsimp only[eg];ext;ext b WT;generalize q0:upd H b _=H1;let#[Y,h1]:=lay WT q0;ext;refine#[by rw[zat];simp,λp1 HK=>?_];generalize q1:upd H1 p1 _=H2;let#[v,h2]:=lay HK q1;ext;refine#[p1,(n:Int),[.ref b],rfl,rfl,h2,(),(),by rw[zat,zau];simp;lia,λt ht=>?_];let er:(List.replicate ((n:Int).toNat) [V.ref b]).flatten=(List.replicate n b).d:=by rw[zau,map_replicate,zk]
 rw[er];generalize q2:upd H2 t _=H3;let#[S,h3]:=lay ht q2;let M:H t=none:=(Y.trans v).free ht;let Yd:=GP (d:=(0,1)) (S _ _<|v _ _ h1) n;let a3:=(Y.trans<|v.trans S) _ _ I;ext;refine#[_,_,rfl,.inl #[_,aK.of a3,rfl],?_];rw[zaa];ext;ext g yC;generalize q3:upd H3 g _=X;let#[N,h4]:=lay yC q3;let t4:=N _ _ h3;refine h8 ?_;ext;refine#[t,_,_,x,rfl,rfl,t4,by rw[jJ () (by rw[zaa,zdC];lia),zau],?_];let R:((List.replicate n b).d).set x (.ref g)=((List.replicate n b).set x g).d:=by rw[zeG]
 rw[R];let B:=PR.lst (_root_.Dt.PR.set (W:=((l.z:Int),1)) h4 x<|Yd.same N) (zs:=(((List.replicate n b).set x g).d)) t4;rw[A8]at B;let O:ai H<|upd X t<|.lst<|((List.replicate n b).set x g).d:=ai.fresh ((Y.trans<|v.trans S).trans N) M;let F:upd X t (.lst<|((List.replicate n b).set x g).d) t=some (.lst<|((List.replicate n b).set x g).d):=ah;let l5:((List.replicate n b).set x g).z=n:=by rw[zbN,zdC]
 generalize upd X t (.lst<|((List.replicate n b).set x g).d)=H5 at B O F ⊢;generalize (List.replicate n b).set x g=Yc at B F l5;ext;refine cM<|lj<|dy rfl #[a,rfl,#[_,aK.of<|O _ _ I],fe (K:=K) (a:=a) (xs:=l.c) (λi r k=>∃(v4:Option V) (c:bp),r=[a.e,x.h,n.h,t.e,v4]/\ai H k/\k t=some (.lst c.d)/\c.z=n/\PR k c ((List.range n).map λj=>if j=x then((l.z:Int),(1:Int))else if(j:Int)∈l.take i then(-1,1)else(0,1)))
  #[none,Yc,rfl,O,F,l5,B] (by ext i r k _ ⟨_,_,_,e,_⟩;exact aK.of<|e _ _ I) ?_ ?_]
 ext i y r k hy ⟨v4,c,rfl,C,u,U,m⟩;let#[z,L,rfl]:=int_at hy;let zo:=ok z<|zah L;ext;refine if2 (λlt=>?_)<|λge=>?_;ext;ext p xO;generalize q6:upd k p _=H7;let#[G,h7]:=lay xO q6;let t7:=G _ _ u;refine h8 ?_;ext;refine#[t,_,_,z.toNat,rfl,rfl,t7,by rw[jJ ()<|by rw[zaa];lia],?_];let R:(c.d).set z.toNat (.ref p)=(c.set z.toNat p).d:=by rw[zeG]
 rw[R];let CV:=PR.lst (_root_.Dt.PR.set (W:=(-1,1)) h7 z.toNat<|m.same G) (zs:=((c.set z.toNat p).d)) t7;rw[FI zo.1 zo.2,<-take_snoc L]at CV;exact#[_,c.set z.toNat p,rfl,ai.fresh (C.trans G) M,ah,by erw[zbN,U],CV];ext;rw[FJ (z:=z) (),<-take_snoc L]at m;exact#[_,c,rfl,C,u,U,m];ext r k ⟨v4,c,rfl,C,u,U,m⟩;rw[zaa,zbp]at m;ext;exact q t c k C M u m
theorem zI:∀{a:List<|Int×Int},(∀f∈a,f.2=1)->_root_.Dt.pd a=1
 | [],_=>rfl
 | f::a,h=>by show f.2.natAbs*_root_.Dt.pd a=1;rw[h f zal,zI λg b=>h g<|zag _ b];rfl
theorem RZ(a:Int):_root_.Dt.qt (a,1)=(a:Rat):=by show(a:Rat) / ((1:Int):Rat)=a;rw[show((1:Int):Rat)=1 from rfl];grind
theorem Jy(d:i<n)(b:j<n):_root_.Dt.fa (((List.range n).map λ(x:Nat)=>qX (XS L (x:Int)) x n).getD i []) j=((dI L i j:Int):Rat):=by
 let e:((List.range n).map λ(x:Nat)=>qX (XS L (x:Int)) x n).getD i []=qX (XS L (i:Int)) i n:=by rw[zak,zao,zce d];rfl
 let a:(qX (XS L (i:Int)) i n)[j]?=some (if j=i then(((XS L (i:Int)).z:Int),1)else if(j:Int)∈XS L (i:Int)then(-1,1)else(0,1)):=by unfold qX;rw[zao,zce b];rfl
 rw[e,_root_.Dt.L6 a];unfold dI;by_cases c:i=j;rw[zad c.symm,zad c];exact RZ _;rw[zab λz=>c z.symm,zab c];by_cases h:(j:Int)∈XS L (i:Int);rw[zad h,zad h];exact RZ _;erw[zab h,zab h,RZ _]
theorem rJ:aS ["orders", "size", "rows"] ["orders"]<|aH wI:=by walk_at "n"
theorem G9(D:Def K mg "trees" wI ["orders"])(T:Txt K mg Z)(BM:W! "tree_row" 1 ["order", "place", "size"] Cr)(uE:W! "determinant" 4 ["rows"] Cv):W! "trees" 5 ["orders"] yW:=by
 exists D.dZ rJ,dQ,hr;let#[p,as,L,rfl,_]:=h;rfl;let#[p,as,L,rfl,g,F,l1,OS,q]:=h;refine#[_,(ae (aw (i:=1) rJ.nd rfl A!<|aA eF (aE aN C! T.len bh<|aa (pv 0) af) aj)<|ae (eC (i:=2) rJ.nd rfl A! (tg:=["place"]) (fr:=[("size",1),("orders",0)]) D! rfl (bw rfl T.range<|aa (pv 1) af) (λ_ _ _ _ _=>(aC (i:=0) (show [("place":Str),("size":Str),("orders":Str)].Nodup by decide +kernel) rfl A!)) (λ_ _ _ _ _=>bB)<|λ_ _ _ _ _=>(az BM hr aZ<|aa (aP (nQ (K:=K) rfl) (pv 2) (pv 0) C?)<|aa (pv 0)<|aa (pv 1) af))<|ao<|aU<|aP oW (az uE hr aZ<|aa (pv 2) af) aj C?),?_]
 dsimp only[eg];let gl:=g.len;ext;refine#[_,_,rfl,.inl #[_,aK.of g.top,rfl],?_];rw[zaa,gl];ext;obtain⟨n,hn⟩:∃n,L.z=n+1:=#[L.z-1,()];let en:(L.z:Int)-1=(n:Int):=();rw[en];refine cA ?_;refine aJ<|dy rfl<|bj #[(n:Int),rfl,(),(),?_];rw[zau];ext l bq;refine dJ (λj G ys S=>∃(v:Option V) (cs:bp),G=[v,n.h,p.e]/\ys=cs.d/\ai H S/\_root_.Dt.FG S l cs ((List.range j).map λ(x:Nat)=>qX (XS L (x:Int)) x n)/\l∉cs)
  #[none,[],rfl,rfl,ai.upd bq,#[ah,rfl,λi a e z=>by simp at z],by simp] ?_ ?_
 ext j G ys S U ⟨v,cs,rfl,rfl,R,I,na⟩;simp only[zbk];let cl:=I.len;rw[zaa,zbx]at cl;let X:=g.same R;let#[b,r,hb,AX,bQ]:=X.at (i:=j) ();let er:=dh AX;let C:=AX;let ok:∀y∈r,0<=y/\y≠(j:Int):=λy B=>#[(F.rg _ _ C y B).1,(F.rg _ _ C y B).2.2];let rl:r.z<=60:=by let:=cG (n:=L.z) (F.nd _ _ C) λy B=>#[(F.rg _ _ C y B).1,(F.rg _ _ C y B).2.1];lia
 ext;refine aR (aK.of X.top) (X.ix hb) ?_;ext;refine#[b,r,j,n,rfl,bQ,rl,U,(),ok,λt ps M N ht h2 M0=>?_];let g2:=I.same N;let nt:t≠l:=λz=>by rw[z,I.top]at ht;cases ht
 refine#[g2.top,by erw[zaa,aI ()],cZ U #[_,cs++[t],rfl,by rw[zaw];rfl,ai.fresh (R.trans N) bq,?_,?_]];rw[zcm,zaw];let:=g2.snoc na nt h2 M0;rw[<-er]at this;exact this;ext z;ext(z|z:zam.mp z);exact na z;exact nt (zaj.mp z).symm;ext G ys S ⟨v,cs,rfl,rfl,R,I,na⟩;let e0:L.z-1=n:=();rw[e0]at q;ext;by_cases n0:n=0;subst n0;let cl:=I.len;rw[zaa,zbx]at cl;obtain rfl:=List.length_eq_zero_iff.mp cl;refine .inl #[l,rfl,I.top,λr M N Y=>?_];let st:SqT K M r [.int 1,.int 1]:=SqT.of Y;ext;exact q M<|R.trans N;let O:∀e∈(List.range n).map (λ(x:Nat)=>qX (XS L (x:Int)) x n),e.z=n/\∀f∈e,f.2=1/\f.1.natAbs<=60:=λe k=>by let#[x,hx,rfl]:=zap.mp k;let hx:=zaU.mp hx;let C:=aD (L:=L) (a:=(x:Int)) () ();let:=cG (n:=L.z) (F.nd _ _ C) λy B=>#[(F.rg _ _ C y B).1,(F.rg _ _ C y B).2.1];refine#[by unfold qX;simp,λf m=>?_];let#[j,_,rfl]:=zap.mp m;by_cases c:j=x;rw[zad c];exact#[rfl,by show((XS L (x:Int)).z:Int).natAbs<=60;lia];rw[zab c];by_cases d:(j:Int)∈XS L (x:Int);rw[zad d];exact#[rfl,by decide];erw[zab d,#[rfl,by decide]]
 let V4:∀e∈(List.range n).map (λ(x:Nat)=>qX (XS L (x:Int)) x n),_root_.Dt.pd e=1:=λe k=>zI λf m=>((O e k).2 f m).1;let VL:∀y:Int,y.natAbs<=60->Sz 9000 y:=λy B=>zbj B<|zaG (show 60<2 ^ 6 by decide)<|zbK B! B!;refine .inr #[l,cs,_,n,60,1,rfl,I,by simp,(),(),λe k=>(O e k).1,#[(),λe k f m=>by rw[V4 e k];let:=((O e k).2 f m).2;lia,?_,(),λe k=>by rw[V4 e k];lia,by erw[Nat.one_pow,Nat.one_lt_two_pow B!],λe k=>#[λf m=>by rw[((O e k).2 f m).1];decide,λf m=>VL _ ((O e k).2 f m).2,λf m=>by erw[((O e k).2 f m).1,VL 1 B!]]],λtt u r M lw W tb ub N Y=>?_];refine zbj (zbZ (show(n+1)*(2*60)<=4096 by lia)<|n+1) ?_;rw[show(4096:Nat)=2 ^ 12 from rfl,<-Nat.pow_mul];exact Nat.pow_lt_pow_right B! ();let u1:u=1:=by let:=lw.1;rw[Nat.one_pow]at ub;let:=this;lia
 subst u1;let ed:_root_.Dt.dq n ((List.range n).map λ(x:Nat)=>qX (XS L (x:Int)) x n)=((_root_.Dt.det n (dI L):Int):Rat):=by erw[_root_.Dq.iD,_root_.Dq.aL λi j hi U=>Jy hi U]
 rw[ed,RZ]at W;let W:=zex.mp W;let st:SqT K M r [.int tt,.int 1]:=SqT.of Y;ext;erw[W,q M<|R.trans N]
theorem Qi{n k:Nat}(h:k<n):((k:Int)+1)%n=if k+1=n then 0 else(k:Int)+1:=by split;rename_i e;erw[show(k:Int)+1=n by lia,Int.emod_self,zfc () ()]
theorem Qj{n k:Nat}(h:k<n):((k:Int)-1)%n=if k=0 then(n:Int)-1 else(k:Int)-1:=by split;rename_i e;rw[show(k:Int)-1=((n:Int)-1)+(n:Int)*(-1)by lia,Int.add_mul_emod_self_left];exact zfc () ();exact zfc () ()
theorem qi(n:Nat):(D7 n).z=n+1:=by unfold D7;simp
theorem Cj(h:(D7 n)[i]?=some l):(i<n/\l=[if i+1=n then 0 else(i:Int)+1,(n:Int),if i=0 then(n:Int)-1 else(i:Int)-1])\/(i=n/\l=(List.range n).map λ(k:Nat)=>(k:Int)):=by
 let a:=(zac.mp h).1;rw[qi]at a;unfold D7 at h;by_cases c:i<n;rw[zaO (by simpa using c),zao,zce c]at h;refine .inl #[c,?_];rw[<-Qi c,<-Qj c];exact(zaq h).symm;let e:i=n:=();rw[zaL (by simp;lia),zaa,zbx,e,zdl]at h;exact .inr #[e,(zaq h).symm]
theorem Jt(q:3<=n):av<|D7 n:=by
 let f:∀(i:Nat) (l:b9),(D7 n)[i]?=some l->∀x,x∈l↔(i<n/\(x=n\/(0<=x/\x<n/\(x=i+1\/x=i-1\/(x=0/\i+1=n)\/(x=n-1/\i=0)))))\/(i=n/\0<=x/\x<n):=λi l h x=>by ext(⟨c,rfl⟩|⟨c,rfl⟩:Cj h);simp[zbm,zaR,zbt];split<;>split<;>lia;rw[mem_map];constructor;ext⟨k,o,rfl⟩;let:=zaU.mp o;lia;ext z;exact#[x.toNat,zaU.mpr (),()]
 refine#[λi l h=>?_,λi l h x d=>?_,λi l h x d j e m g=>?_];ext(⟨c,rfl⟩|⟨c,rfl⟩:Cj h);simp[zdj,zbm,zaR,zbt,zec,zeH,zee,and_true];split<;>split<;>lia;refine zbB _ (λa b h=>?_) nodup_range;lia;let:=(f i l h x).mp d;rw[qi];lia;let p:=(f i l h x).mp d;refine(f j m g i).mpr ?_;let:=(zac.mp h).1;let:=(zac.mp g).1;rw[qi]at *;lia
theorem qQ(L:cp):(Mn L).z=L.z+3:=by unfold Mn;simp
theorem oq(h:(Mn L)[i]?=some l):(i<L.z/\L[i]?=some l)\/(L.z<=i/\i<L.z+3/\l.Nodup/\∀x,x∈l↔(L.z:Int)<=x/\x<(L.z:Int)+3/\x≠i):=by
 let hi:=(zac.mp h).1;rw[qQ]at hi;unfold Mn at h;by_cases c:i<L.z;rw[zaO c]at h;exact .inl #[c,h];rw[zaL ()]at h;refine .inr #[(),hi,?_];obtain⟨j,rfl⟩:∃j,i=L.z+j:=#[i-L.z,()];rw[show L.z+j-L.z=j by lia]at h
 match j,hi with
 | 0,_=>cases h;simp only[zdj,zbm,zaR,zbt,zeH,zee,and_true];exact#[(),λx=>()]
 | 1,_=>cases h;simp[zdj,zbm,zaR,zbt,zeH,zee,and_true];exact#[(),λx=>()]
 | 2,_=>cases h;simp[zdj,zbm,zaR,zbt,zeH,zee,and_true];exact#[(),λx=>()]
theorem K6(b:av L):av<|Mn L:=by refine#[λi l h=>?_,λi l h x a=>?_,λi l h x a j e m f=>?_];ext(⟨_,h⟩|⟨_,_,h,_⟩:oq h);exact b.nd i l h;exact h;rw[qQ];ext(⟨_,h⟩|⟨_,_,_,h⟩:oq h);let:=b.rg i l h x a;lia;let:=(h x).mp a;lia;ext(⟨c,h⟩|⟨c,_,_,h⟩:oq h);let r:=b.rg i l h x a;ext(⟨_,d⟩|⟨g,_⟩:oq f);exact b.sy i l h x a j e m d;lia;let r:=(h x).mp a;ext(⟨g,_⟩|⟨_,_,_,d⟩:oq f);lia;exact(d i).mpr ()
theorem Ov(b:x<L.z)(c:y<L.z):EZ L (λi=>i) x y=dI L x y:=by unfold EZ;rw[_root_.Dt.cJ b λi _ a=>zab a,zad rfl,_root_.Dt.cJ c λi _ a=>zab a,zad rfl]
theorem HU{L:cp}(m:av L)(A:0<L.z){d:b9}(p:d.Nodup)(g:∀x,x∈d↔dW L [] 0 x):((d.z:Int)=L.z)↔∀x:Int,0<=x->x<L.z->Reach L 0 x:=by
 let v:∀x,dW L [] 0 x->Reach L 0 x:=λx h=>by
  induction h with
  | here=>exact .here
  | step _ e f _ j=>exact .step j e f
 let k:∀x,Reach L 0 x->dW L [] 0 x:=λx h=>by
  induction h with
  | here=>exact .here
  | step _ e f j=>exact .step j e f A?
 let o:∀x∈d,0<=x/\x<L.z:=λx f=>((g x).mp f).rg m ();constructor;ext e x q t;by_cases c:x∈d;exact v x<|(g x).mp c;let:=cG (zar.mpr #[c,p]) λy n=>by ext(z|z:zas.mp n);rw[z];exact#[q,t];exact o y z
 rw[zbd]at this;lia;ext h;let w:=cG p o;let u:=dH (l:=(List.range L.z).map λ(i:Nat)=>(i:Int)) (r:=d) (zbB _ (λa b h=>()) nodup_range) λy n=>by let#[i,s,rfl]:=zap.mp n;let:=zaU.mp s;exact(g _).mpr<|k _<|h _ () ()
 rw[zaa,zbx]at u;lia
theorem cR:aS ["_law_orders_here", "_law_number", "_law_found", "_law_k", "_law_at", "_law_other"] ["_law_orders_here", "_law_number"]<|aH hJ:=by walk_at "n"
theorem pX(D:Def K mg "_law_without" hJ ["_law_orders_here", "_law_number"])(T:Txt K mg Z)(W:W! "_law_digit" 1 ["_law_number", "_law_base_here", "_law_place"] j9)(sX:W! "untied" 2 ["orders", "one", "other"] oD):W! "_law_without" 3 ["_law_orders_here", "_law_number"] rq:=by
 exists D.dZ cR,dQ,C;let#[p,as,L,k,rfl,_]:=h;rfl;let#[p,as,L,num,rfl,g,im,l8,l0,n0,n1,q]:=h;refine#[_,(ae (eC (i:=2) cR.nd rfl A! (tg:=["_law_order"]) (fr:=[]) D! rfl (bL<|pv 0) (λ_ _ _ _ _=>(aC (i:=0) (show [("_law_order":Str)].Nodup by decide +kernel) rfl A!)) (λ_ _ _ _ _=>bB)<|λ_ _ _ _ _=>(i8 (iW (K:=K) rfl) C! T.list yg<|aa (pv 0) af))<|ae (bN zaE rfl (bw rfl T.range<|aa (aA bO (pv 1) aj) af) (aC (i:=3) cR.nd rfl A!)<|ae (aw (i:=4) cR.nd rfl A!<|aA bO (az W C aZ<|aa (aA ie (pv 1) aj)<|aa aj<|aa (pv 3) af)<|aE aN C! T.len bh<|aa (pv 2) af)<|ao<|cN (aQ (G6 C.units) (aP aB (pv 2) (pv 4) C?) (bH af)<|aV _) (ae (aw (i:=5) cR.nd rfl A!<|aP aB (aP aB (pv 2) (pv 4) C?) (aA bO (az W C aZ<|aa (aA ie (pv 1) aj)<|aa aj<|aa (pv 3) af)<|aE aN C! T.len bh<|aa (aP aB (pv 2) (pv 4) C?) af) C?)<|ao<|aw (i:=2) cR.nd rfl A!<|az sX C aZ<|aa (pv 2)<|aa (pv 4)<|aa (pv 5) af) bA)<|ao<|aU<|pv 2),?_]
 dsimp only[eg];ext;refine wX rfl g () λG cs H1 e1 g1 oU BP=>?_;ext;refine cM ?_;refine aJ<|di<|dy rfl<|r_c<|zv B!<|bj ?_;let q0:=zbi num (show(5:Int)≠0 by decide);let q1:=zba num (show(0:Int)<5 by decide);let#[m,hm]:=zaD q0;refine#[(m:Int),by rw[hm],(),(),?_];rw[zau];refine bY (λi M e=>∃(t:Addr) (x:bp) (c:cp) (O S R:Option V),M=[p.e,num.f,t.e,O,S,R]/\ai H e/\aO e t x c/\av c/\c.z=L.z)
  #[G,cs,L,none,none,none,rfl,e1,g1,im,rfl] ?_ ?_
 clear e1 g1;ext i M e hi ⟨t,x,c,O,S,R,rfl,N,l,v,F⟩;simp only[zbk];ext;refine#[num / 5,7,i,rfl,(),(),by decide,by decide,(),(),λd d0 d1=>?_];ext;refine#[_,_,rfl,.inl #[_,aK.of l.top,rfl],?_];rw[zaa,l.len];let lp:(0:Int)<(c.z:Int):=();ext;let w0:=zbi d (show(c.z:Int)≠0 by lia);let w1:=zba d lp;let#[a,ha]:=zaD w0;rw[ha]at w1 ⊢;let#[ca,B,U,Sn,r]:=l.at (i:=a) ();let I:=dh Sn;ext;refine aR (aK.of l.top) (l.ix U) ?_;ext;refine#[by rw[zat];simp,λz hz=>?_];let y:ai e<|upd e z<|.lst []:=ai.upd hz;let X:upd e z (.lst []) z=some (.lst []):=ah;generalize upd e z (.lst [])=H3 at y X ⊢;refine#[fH B,fH [],nh<|y _ _ r,nh X,shaped_ints _,shaped_ints _,?_];rw[zad rfl,DD];let n:=l.same y;let r:=y _ _ r;let Y:=N.trans y;ext;refine jK (λne=>?_)<|λem=>?_;let dI:=zbP.mpr ne;ext;refine aR (aK.of n.top) (n.ix U) ?_;ext;refine#[num / 9,5,i,rfl,(),(),by decide,by decide,(),(),λu u0 u1=>?_];ext;refine aR (aK.of n.top) (n.ix U) ?_;ext;refine#[_,_,rfl,.inl #[_,aK.of r,rfl],?_];rw[zaa];let YI:(0:Int)<(B.z:Int):=();ext;let x0:=zbi u (show(B.z:Int)≠0 by lia);let x1:=zba u YI;let#[j,hj]:=zaD x0;rw[hj]at x1 ⊢;let jl:j<B.z:=();refine aR (aK.of r) (cz<|by rw[zao,zaf jl];rfl) ?_;let bm:=zbL jl;generalize B[j]=b at bm ⊢;let dt:Dt c ((a:Int),b):=#[(),(),by erw[I,bm]];ext;refine#[t,x,c,((a:Int),b),rfl,n,v,(),dt,λt4 b4 H4 e4 g4=>?_];ext;exact#[_,_,_,_,_,_,rfl,Y.trans e4,g4,ng v dt,by erw[fg,F]];ext;exact#[_,_,_,_,_,_,rfl,Y,n,v,F];ext M e ⟨t,x,c,O,S,R,rfl,N,l,v,F⟩;ext;exact q t x c e N l v F
theorem kh:aS ["_law_orders_here", "_law_many"] ["_law_orders_here"]<|aH iS:=by walk_at "n"
theorem sx(D:Def K mg "_law_beside" iS ["_law_orders_here"])(T:Txt K mg Z):W! "_law_beside" 1 ["_law_orders_here"] vb:=by
 exists D.dZ kh,dQ,hr;let#[p,b,L,rfl,_]:=h;rfl;let#[p,b,L,rfl,g,l8,q]:=h;refine#[_,(ae (aw (i:=1) kh.nd rfl A!<|aE aN C! T.len bh<|aa (pv 0) af)<|ao<|aU<|aA dY (pv 0)<|bH<|aa (bH<|aa (aA bD (pv 1) aj)<|aa (aA bD (pv 1) aj) af)<|aa (bH<|aa (aA bD (pv 1) aj)<|aa (pv 1) af)<|aa (bH<|aa (pv 1)<|aa (aA bD (pv 1) aj) af) af),?_]
 dsimp only[eg];let x:=g.len;ext;refine#[_,_,rfl,.inl #[_,aK.of g.top,rfl],?_];rw[zaa,x];ext;ext b1 O;generalize F:upd H b1 _=H1;let#[e1,X]:=lay O F;ext;ext b2 Fs;generalize q2:upd H1 b2 _=R;let#[z,M]:=lay Fs q2;ext;ext k Y;generalize G:upd R k _=H3;let#[v,h3]:=lay Y G;ext;ext t Sw;generalize N:upd H3 t _=n;let#[u,S]:=lay Sw N;let y:=e1.trans<|z.trans<|v.trans u;let B:=g.same y;refine#[p,t,_,_,rfl,rfl,B.top,S,by rw[zat,zaa,x];simp;lia,λr W=>?_];let m:ai n<|upd n r<|.lst<|b.d++[.ref b1,.ref b2,.ref k]:=ai.upd W;let C:upd n r (.lst<|b.d++[.ref b1,.ref b2,.ref k]) r=some (.lst<|(b++[b1,b2,k]).d):=by rw[ah,zaw];rfl
 generalize upd n r (.lst<|b.d++[.ref b1,.ref b2,.ref k])=U at m C ⊢;refine q r (b++[b1,b2,k]) U (y.trans m) #[C,by unfold Mn;simp[x],λi a l d e=>?_];unfold Mn at e;by_cases c:i<b.z;rw[zaO c]at d;rw[zaO ()]at e;exact m _ _<|B.row i a l d e;rw[zaL ()]at d;rw[zaL (),show i-L.z=i-b.z by lia]at e;let s1:=m _ _<|u _ _<|v _ _<|z _ _ X;let I:=m _ _<|u _ _<|v _ _ M;let s3:=m _ _<|u _ _ h3;generalize i-b.z=j at d e
 match j with
 | 0=>cases d;cases e;exact s1
 | 1=>cases d;cases e;exact I
 | 2=>cases d;cases e;exact s3
 | j+3=>cases d
def fK(m:Nat)(W:Nat->Nat->Int):cp:=(List.range m).map λx=>(List.range m).map<|W x
theorem xq(b:x<m):(fK m W).set x (((List.range m).map<|W x).set y v)=fK m λi j=>if i=x/\j=y then v else W i j:=by unfold fK;refine zcr A? λi a e=>?_;rw[zeo];simp[zcB,zcz];by_cases c:x=i;rw[zad c];refine zcr A? λj f g=>?_;rw[zeo];simp[zcB,zcz];by_cases d:y=j;rw[zad d,zad #[c.symm,d.symm]];rw[zab d,zab<|λz=>d z.2.symm,c];rw[zab c];refine zbS λj _=>?_;rw[zab λz=>c z.1.symm]
theorem gO(a:x<m):(fK m W)[x]?=some ((List.range m).map<|W x):=by unfold fK;rw[zao,zce a];rfl
def con(f:Nat->Nat)(p:Nat)(l:b9)(x y:Nat):Int:=if f p=x then(l.map λq=>(if f p=y then(1:Int)else 0)-(if f q.toNat=y then 1 else 0)).sum else 0
theorem Iz:con f p (l++[q]) x y=con f p l x y+if f p=x then(if f p=y then 1 else 0)-(if f q.toNat=y then 1 else 0)else 0:=by unfold con;by_cases c:f p=x;rw[zad c,zad c,zad c,zaw,sum_append];simp;rw[zab c,zab c,zab c];rfl
theorem K3(m:av L)(g:p<L.z):con f p (XS L (p:Int)) x y=if f p=x then(_root_.Dt.sm L.z λq=>if f q=y then dI L p q else 0)else 0:=by
 unfold con;by_cases c:f p=x;rw[zad c,zad c];let k:=sO m (λq=>decide<|f q=y) g;let e:_root_.Dt.sm L.z (λq=>if decide (f q=y)=true then dI L p q else 0)=_root_.Dt.sm L.z (λq=>if f q=y then dI L p q else 0):=_root_.Dt.aF λq _=>by simp only[zcD]
 rw[<-e,k];generalize XS L (p:Int)=l;induction l with
 | nil=>simp
 | cons z l d=>
  rw[zbg,zdo,d,zdg,zbd];by_cases a:f p=y<;>by_cases b:f z.toNat=y<;>simp[a,b]<;>lia
 rw[zab c,zab c]
theorem dg:aS ["_law_orders_here", "_law_names", "_law_many", "_law_found", "_law_place", "_law_other", "_law_one", "_law_two"] ["_law_orders_here", "_law_names", "_law_many"]<|aH iR:=by walk_at "n"
theorem sv(D:Def K mg "_law_counts" iR ["_law_orders_here", "_law_names", "_law_many"])(T:Txt K mg Z):W! "_law_counts" 1 ["_law_orders_here", "_law_names", "_law_many"] oE:=by
 refine D.dZ dg (λvs H Q E h=>?_)<|λfa dQ A o s H vs Q E hr h=>?_;let#[p,c,as,L,f,m,rfl,_]:=h;rfl;let#[p,c,as,L,f,m,rfl,g,im,OS,hc,m1,ad,fm,q]:=h;refine#[_,(ae (eC (i:=3) dg.nd rfl A! (tg:=["_law_k"]) (fr:=[("_law_many",2)]) D! rfl (bw rfl T.range<|aa (pv 2) af) (λ_ _ _ _ _=>(aC (i:=0) (show [("_law_k":Str),("_law_many":Str)].Nodup by decide +kernel) rfl A!)) (λ_ _ _ _ _=>bB)<|by ext _ _ _ _ _;exact dG (tg:=["_law_k"]) (fr:=[]) D! rfl (by exact(bw rfl T.range<|aa (pv 1) af)) (by exact(λ_ _ _ _ _=>(aC (i:=0) (show [("_law_k":Str)].Nodup by decide +kernel) rfl A!))) (by exact(λ_ _ _ _ _=>bB))<|by exact(λ_ _ _ _ _=>aj))<|ae (bN zaE rfl (bw rfl T.range<|aa (aE aN C! T.len bh<|aa (pv 0) af) af) (aC (i:=4) dg.nd rfl A!)<|ao<|bN zaE rfl (bL<|aP aB (pv 0) (pv 4) C?) (aC (i:=5) dg.nd rfl A!)<|ae (aw (i:=6) dg.nd rfl A!<|aP aB (pv 1) (pv 4) C?)<|ae (aw (i:=7) dg.nd rfl A!<|aP aB (pv 1) (pv 5) C?)<|ao<|cN (aQ jS (pv 6) (pv 7)<|aV _) (ae (fV (aA bD (aP aB (aP aB (pv 3) (pv 6) C?) (pv 6) C?) aj)<|h9 (aP aB (pv 3) (pv 6) C?) (pv 6) set_list)<|ao<|fV (aA eF (aP aB (aP aB (pv 3) (pv 6) C?) (pv 7) C?) aj)<|h9 (aP aB (pv 3) (pv 6) C?) (pv 7) set_list) bA)<|ao<|aU<|dG (tg:=["_law_row"]) (fr:=[("_law_many",2)]) D! rfl (bL<|bG cg (pv 3) bR<|bX<|aA eF (pv 2) aj) (λ_ _ _ _ _=>(aC (i:=0) (show [("_law_row":Str),("_law_many":Str)].Nodup by decide +kernel) rfl A!)) (λ_ _ _ _ _=>bB)<|λ_ _ _ _ _=>(bG (mV (K:=K) rfl) (pv 0) bR<|bX<|aA eF (pv 1) aj)),?_]
 dsimp only[eg];let gl:=g.len;ext;refine cA ?_;refine aJ<|dy rfl<|bj #[(m:Int),rfl,(),(),?_];rw[zau];ext t bq;refine dJ (λj d ys H1=>∃(v:Option V) (cs:bp),d=[v,m.h]/\ys=cs.d/\ai H H1/\aO H1 t cs ((List.range j).map λx=>(List.range m).map λ_=>(0:Int))/\(t::cs).Nodup/\∀b∈t::cs,H b=none)
  #[none,[],rfl,rfl,ai.upd bq,#[ah,rfl,λi a l z=>by simp at z],by simp,by simpa using bq] ?_ ?_
 ext j d ys H1 hj ⟨v,cs,rfl,rfl,e1,g1,oU,BP⟩;simp only[zbk];let cl:=g1.len;rw[zaa,zbx]at cl;ext;refine cA ?_;refine aJ<|dy rfl<|bj #[(m:Int),rfl,(),(),?_];rw[zau];ext b S;refine dJ (λi d ys G=>∃(v:Option V),d=[v]/\ys=(((List.range i).map λ_=>(0:Int)).c)/\ai H1 G/\G b=some (.lst ys))
  #[none,rfl,rfl,ai.upd S,ah] ?_ ?_
 ext i d ys G I ⟨v2,rfl,rfl,R,h2⟩;simp only[zbk];ext;refine#[h2,by erw[zaa,zaa,zbx,aI ()],cZ I #[_,rfl,by rw[zcm,zaw,zaw];rfl,ai.fresh R S,ah]];ext d ys G ⟨v2,rfl,rfl,R,h2⟩;let N:=g1.same R;let nb:=g1.fQ S;refine#[N.top,by erw[zaa,aI ()],cZ hj #[_,cs++[b],rfl,by rw[zaw];rfl,ai.fresh (e1.trans R) bq,?_,?_,λy hy=>?_]];rw[zcm,zaw];exact N.snoc (zar.mp oU).1 (λz=>nb<|z▸zal) h2;let#[n1,n2]:=zar.mp oU;refine zar.mpr #[λz=>?_,gu.mpr #[λz=>nb<|zag _ z,n2]];ext(z|z:zam.mp z);exact n1 z;exact nb (by erw[zaj.mp z,zal]);ext(z|z:zas.mp hy);rw[z];exact bq;ext(z|z:zam.mp z);exact BP y<|zag _ z;rw[zaj.mp z];exact e1.free S;ext d ys H1 ⟨v,cs,rfl,rfl,e1,g1,oU,BP⟩;let g1:aO H1 t cs<|fK m λ_ _=>0:=g1;let gm:=g.same e1;ext;refine cM ?_;refine aJ<|i5<|aJ<|dy rfl<|bj #[_,_,rfl,.inl #[_,aK.of gm.top,rfl],?_];rw[zaa,gl];refine bj #[(L.z:Int),rfl,(),(),?_];rw[zau];refine bY (λk Y G=>∃(W:Nat->Nat->Int) (v4 v5 v6 v7:Option V),Y=[p.e,c.e,m.h,t.e,v4,v5,v6,v7]/\ai H G/\aO G t cs (fK m W)/\∀x y,W x y=_root_.Dt.sm k λp=>con f p (XS L (p:Int)) x y)
  #[λ_ _=>0,none,none,none,none,rfl,e1,g1,λx y=>rfl] ?_ ?_
 clear e1 g1 gm;ext k Y G hk ⟨W,v4,v5,v6,v7,rfl,R,N,hW⟩;simp only[zbk];let gp:=g.same R;let#[b,r,S,AX,bQ]:=gp.at (i:=k) hk;let er:XS L (k:Int)=r:=dh AX;let QF:H b=some (.lst r.c):=g.row k b r S AX;let cl:=N.len;rw[show(fK m W).z=m by unfold fK;simp]at cl;let nm:∀i,i<L.z->j6 ((((List.range L.z).map λi=>(f i:Int)).c)) (i:Int)=some (.int (f i:Int)):=λi I=>cz (by rw[zao,zao,zce I];rfl);ext;refine cM<|lj<|di<|dy rfl<|dy rfl<|aR (aK.of gp.top) (gp.ix S) #[b,rfl,#[_,aK.of bQ],fe (K:=K) (a:=b) (xs:=r.c) (λi Y H3=>∃(B:Nat->Nat->Int) (v5 v6 v7:Option V),Y=[p.e,c.e,m.h,t.e,k.h,v5,v6,v7]/\ai H H3/\aO H3 t cs (fK m B)/\∀x y,B x y=(_root_.Dt.sm k λp=>con f p (XS L (p:Int)) x y)+con f k (r.take i) x y)
  #[W,v5,v6,v7,rfl,R,N,λx y=>by rw[hW,take_zero];unfold con;split<;>simp] (by ext i Y H3 _ ⟨_,_,_,_,_,e,_⟩;exact aK.of<|e _ _ QF) ?_ ?_]
 ext i xv Y H3 Y4 ⟨B,w5,w6,w7,rfl,e3,F,Q2⟩;let#[z,hz,rfl]:=int_at Y4;let zr:=im.rg _ _ AX z<|zah hz;let WS:=e3 _ _ hc;let fz:=fm z.toNat ();let fk:=fm k hk;let nz:=nm z.toNat ();rw[zbE zr.1]at nz;let snoc:∀x y,con f k (r.take<|i+1) x y=con f k (r.take i) x y+if f k=x then(if f k=y then 1 else 0)-(if f z.toNat=y then 1 else 0)else 0:=λx y=>by erw[take_snoc hz,Iz]
 ext;refine aR (aK.of WS) (nm k hk) ?_;ext;refine aR (aK.of WS) nz ?_;ext;refine jK (λne=>?_)<|λeq=>?_;let X:cs[f k]?=some cs[f k]:=zaf ();let PJ:=F.row _ _ _ X<|gO fk;let XB:∀(U:Nat->Nat->Int) (y:Nat),y<m->j6 (((List.range m).map<|U<|f k).c) (y:Int)=some (.int<|U (f k) y):=λU y hy=>cz (by rw[zao,zao,zce hy];rfl);let Wo:∀(U:Nat->Nat->Int) (y:Nat),y<m->Dl (((List.range m).map<|U<|f k).c).z (y:Int)=some y:=λU y hy=>by rw[jJ () (by rw[zaa,zaa,zbx];lia),zau]
 ext;refine aR (aK.of F.top) (F.ix X) ?_;ext;refine aR (aK.of PJ) (XB B _ fk) ?_;ext;refine h8 ?_;ext;refine aR (aK.of F.top) (F.ix X) ?_;ext;refine#[cs[f k],_,_,f k,rfl,rfl,PJ,Wo B _ fk,?_];let C:=F.set oU (l':=((List.range m).map<|B<|f k).set (f k)<|B (f k) (f k)+1) X;rw[xq fk,zeG]at C;let fr:=BP cs[f k]<|zag _<|zah X;let e4:=ai.fresh (o:=.lst<|(((List.range m).map<|B<|f k).c).set (f k)<|.int<|B (f k) (f k)+1) e3 fr;generalize upd H3 cs[f k] (.lst<|(((List.range m).map<|B<|f k).c).set (f k)<|.int<|B (f k) (f k)+1)=M at C e4 ⊢;obtain⟨O,WY⟩:∃O:Nat->Nat->Int,O=λi j=>if i=f k/\j=f k then B (f k) (f k)+1 else B i j:=#[_,rfl];rw[<-WY]at C;let PH:=C.row _ _ _ X<|gO fk;ext;refine aR (aK.of C.top) (C.ix X) ?_;ext;refine aR (aK.of PH) (XB O _ fz) ?_;ext;refine h8 ?_;ext;refine aR (aK.of C.top) (C.ix X) ?_;ext;refine#[cs[f k],_,_,f z.toNat,rfl,rfl,PH,Wo O _ fz,?_];let g5:=C.set oU (l':=((List.range m).map<|O<|f k).set (f z.toNat)<|O (f k) (f z.toNat)-1) X;rw[xq fk,zeG]at g5;refine#[_,_,_,_,rfl,ai.fresh e4 fr,g5,λx y=>?_];let nf:f k≠f z.toNat:=λw=>ne ();let a4:∀i j,O i j=if i=f k/\j=f k then B (f k) (f k)+1 else B i j:=λi j=>by rw[WY]
 show(if x=f k/\y=f z.toNat then O (f k) (f z.toNat)-1 else O x y)=_;rw[snoc,<-Int.add_assoc,<-Q2 x y,a4,a4];generalize f k=u at nf ⊢;generalize f z.toNat=v at nf ⊢;by_cases cx:x=u;subst cx;by_cases c1:y=v;subst c1;simp[nf,zaZ nf];lia;by_cases c2:y=x;subst c2;simp[nf,zaZ nf];simp[c1,c2,zaZ c1,zaZ c2,show ¬v=y from λw=>c1 w.symm,show ¬x=y from λw=>c2 w.symm];simp[cx,show ¬u=x from λw=>cx w.symm];ext;refine#[B,_,_,_,rfl,e3,F,λx y=>?_];let nf:f k=f z.toNat:=();rw[snoc,Q2,nf];by_cases c1:f z.toNat=x;rw[zad c1];lia;rw[zab c1];lia;ext Y H3 ⟨B,w5,w6,w7,rfl,e3,F,Q2⟩;rw[zaa,zbp]at Q2;refine#[B,_,_,_,_,rfl,e3,F,λx y=>?_];rw[Q2,<-er];rfl;ext Y G ⟨W,v4,v5,v6,v7,rfl,R,N,hW⟩;obtain⟨n,rfl⟩:∃n,m=n+1:=#[m-1,()];let en:((n+1:Nat):Int)-1=(n:Int):=();let cl:=N.len;rw[show(fK (n+1) W).z=n+1 by unfold fK;simp]at cl;ext;refine cA<|lj<|eP<|dy rfl ?_;refine(show Cm (Fm λi j=>V.int<|i-j) (eX 2) (tC<|V.int 1) [some<|V.ref p,some<|V.ref c,some<|V.int ((n+1:Nat):Int),some<|V.ref t,v4,v5,v6,v7] G _ from di<|dy rfl<|r_c<|gw #[_,rfl,t,_,rfl,aK.of N.top,λt2 NM=>?_]);rw[en,jg (by rw[zaa];lia),<-zdH];let F:=N.taken n NM;let e3:ai G<|upd G t2<|.lst<|(cs.take n).d:=ai.upd NM;generalize upd G t2 (.lst<|(cs.take n).d)=H3 at F e3 ⊢;refine#[t2,rfl,#[_,aK.of F.top],λac WX=>?_];let UL:=F.len;let tl:((fK (n+1) W).take n).z=n:=by unfold fK;simp
 refine cU (K:=K) (a:=t2) (xs:=(cs.take n).d) (λi d ys M=>∃(v:Option V) (bs:bp),d=[v,some<|.int ((n+1:Nat):Int)]/\ys=bs.d/\ai H3 M/\aO M ac bs ((((fK (n+1) W).take n).take i).map λl=>l.take n)/\ac∉bs)
  #[none,[],rfl,rfl,ai.upd WX,#[ah,rfl,λi a l z=>by simp at z],by simp] (by ext i d ys M _ ⟨_,_,_,_,e,_⟩;exact aK.of<|e _ _ F.top) ?_ ?_
 ext i x d ys M hx I ⟨v,bs,rfl,rfl,e4,C,na⟩;rw[zaa,UL,tl]at I;let#[b,r,S,AX,bQ]:=(F.same e4).at (i:=i) ();obtain rfl:x=V.ref b:=by rw[zao,S]at hx;exact(zaq hx).symm
 let bl:=C.len;rw[zaa,zbb,tl]at bl;let rl:r.z=n+1:=by let:=zcI<|zah AX;unfold fK at this;let#[x,_,rfl]:=zap.mp this;simp
 ext;refine eP<|dy rfl ?_;refine(show Cm (Fm λi j=>V.int<|i-j) (eX 1) (tC<|V.int 1) [some<|V.ref b,some<|V.int ((n+1:Nat):Int)] M _ from di<|dy rfl<|r_c<|gw #[_,rfl,b,_,rfl,aK.of bQ,λt5 Wy=>?_]);rw[en,jg (by rw[zaa];lia),<-zdH];let e5:ai M<|upd M t5<|.lst<|(r.take n).c:=ai.upd Wy;let h5:upd M t5 (.lst<|(r.take n).c) t5=some (.lst<|(r.take n).c):=ah;let nt:t5≠ac:=λz=>by let:=C.top;rw[<-z,Wy]at this;cases this
 generalize upd M t5 (.lst<|(r.take n).c)=H5 at e5 h5 ⊢;let g5:=C.same e5;refine#[g5.top,by erw[zaa,aI ()],cZ (by erw[zaa,UL,tl,I]) #[_,bs++[t5],rfl,by rw[zaw];rfl,ai.fresh (e4.trans e5) WX,?_,?_]];rw[take_snoc AX,zaw];exact g5.snoc na nt h5;ext z;ext(z|z:zam.mp z);exact na z;exact nt (zaj.mp z).symm;ext d ys M ⟨v,bs,rfl,rfl,e4,C,na⟩;rw[zaa,UL,zbp]at C;let Bj:∀i,i<n->(((fK (n+1) W).take n).map λl=>l.take n)[i]?=some ((List.range n).map<|W i):=λi I=>by rw[zao,getElem?_take,zad I,gO ()];show some (((List.range<|n+1).map<|W i).take n)=_;rw[<-zdH,zcm,take_left' A?]
 refine q ac bs _ M ((R.trans e3).trans e4) C #[by erw[zaa,tl],λl hl=>?_] λi j I hj=>?_;let#[i,I]:=zaN.mp hl;let il:=(zac.mp I).1;rw[zaa,tl]at il;rw[Bj i il]at I;cases I;simp;let e:=_root_.Dt.pL (j:=j) (x:=W i j) (Bj i ()) (by rw[zao,zce<|show j<n by lia];rfl);rw[e,hW];unfold EZ;exact _root_.Dt.aF λp hp=>K3 im hp
theorem Qv{c:Prop}[Decidable c]{g f:TS}{D:Ends}{e:St}(S:St->Hp->Prop)(d:∀a b,S a b->D.nx a b)(h:¬c->∀T:St->Hp->Prop,(∀a b,S a b->T a b)->g { D with nx:=T } e H)(i:c->∀T:St->Hp->Prop,(∀a b,S a b->T a b)->f { D with nx:=T } e H) :
  if(!decide c)=true then g D e H else f D e H:=jK (λz=>h z D.nx d) λz=>i z D.nx d
theorem Gi(r:_root_.Dt.j4 M n n):M=fK n (_root_.Dt.mx M):=by refine zcr (by unfold fK;simp[r.len]) λi a e=>?_;simp[fK,zcB,zcz];let c:=r.row _<|zbL a;refine zcr (by simp[c]) λj b d=>?_;simp[zcB,zcz];rw[_root_.Dt.jT<|zaf a,zak,zaf b];rfl
theorem qj{d:bp}{k t:Nat}{a b:Addr}(f:d[k]?=some a)(g:d[t]?=some b)(i:Nat):((d.set t a).set k b)[i]?=d[if i=k then t else if i=t then k else i]?:=by let h:=(zac.mp f).1;let j:=(zac.mp g).1;rw[zcv,zcv,zbN];by_cases c:k=i;rw[zad c,zad c.symm,zad (),g];rw[zab c,zab<|zaZ c];by_cases e:t=i;rw[zad e,zad e.symm,zad (),f];rw[zab e,zab<|zaZ e]
theorem JB{c:bp}{k t:Nat}{a b p:Addr}(q:(p::c).Nodup)(d:c[k]?=some a)(f:c[t]?=some b):(p::(c.set t a).set k b).Nodup/\∀x∈(c.set t a).set k b,x∈c:=by
 let mem:∀x∈(c.set t a).set k b,x∈c:=λx m=>by let#[i,h]:=zaN.mp m;rw[qj d f]at h;exact zah h
 let#[n1,n2]:=zar.mp q;refine#[zar.mpr #[λz=>n1<|mem _ z,?_],mem];let u:=(zac.mp d).1;let A:=(zac.mp f).1;let inj:∀i j,i<j->j<c.z->c[i]?≠c[j]?:=λi j g jl e=>by rw[zaf (),zaf jl]at e;exact zbe.mp n2 i j () jl g<|zaq e
 refine zbe.mpr λi j n jl g e=>?_;let l:((c.set t a).set k b)[i]?=((c.set t a).set k b)[j]?:=by rw[zaf n,zaf jl,e]
 rw[zbN,zbN]at jl;rw[qj d f,qj d f]at l;revert l;generalize v:(if i=k then t else if i=t then k else i)=x;generalize w:(if j=k then t else if j=t then k else j)=y;let r:x<c.z:=by grind
 let o:y<c.z:=by grind
 let s:x≠y:=by grind
 ext(z|z:Nat.lt_or_gt_of_ne s);exact inj x y z o;exact λe=>inj y x z r e.symm
theorem aO.swap(g:aO H p as<|fK n U)(s:(p::as).Nodup)(h:as[k]?=some a)(j:as[t]?=some b) :
  aO (upd (upd H p o) p<|.lst<|((as.d).set t<|.ref a).set k<|.ref b) p ((as.set t a).set k b) (fK n<|_root_.Dt.F8 U k t):=by
 let q:=g.len;let e:∀V:Nat->Nat->Int,(fK n V).z=n:=λV=>by unfold fK;simp
 rw[e]at q;refine#[by rw[ah,zeG,zeG],by rw[zbN,zbN,e,q],λi c l d f=>?_];let r:i<n:=by let:=(zac.mp f).1;rwa [e]at this
 let u:=(zac.mp h).1;let v:=(zac.mp j).1;rw[qj h j]at d;rw[gO r]at f;let m:c≠p:=λz=>(zar.mp s).1<|z▸zah d;rw[aG m,aG m];cases f;exact g.row _ _ _ d (gO<|by grind)
theorem aM:aS ["_law_rows", "_law_sign", "_law_last", "_law_k", "_law_at", "_law_kept", "_law_head", "_law_i", "_law_row", "_law_j", "_law_both"] ["_law_rows"]<|aH fD:=by walk_at "n"
theorem lH(D:Def K mg "_law_determinant" fD ["_law_rows"])(T:Txt K mg Z):W! "_law_determinant" 1 ["_law_rows"] wu:=by
 refine D.dZ aM (λvs H Q E h=>?_)<|λfa dQ A o s H vs Q E hr h=>?_;let#[p,as,M,n,rfl,_]:=h;rfl;let#[p,as,M,n,rfl,g,rc,YE,hM,q]:=h;refine#[_,(ae (eC (i:=0) aM.nd rfl A! (tg:=["_law_row"]) (fr:=[]) D! rfl (bL<|pv 0) (λ_ _ _ _ _=>(aC (i:=0) (show [("_law_row":Str)].Nodup by decide +kernel) rfl A!)) (λ_ _ _ _ _=>bB)<|λ_ _ _ _ _=>(i8 (iW (K:=K) rfl) C! T.list yg<|aa (pv 0) af))<|ae (aw (i:=1) aM.nd rfl A! aj)<|ae (aw (i:=2) aM.nd rfl A! aj)<|ae (bN zaE rfl (bw rfl T.range<|aa (aE aN C! T.len bh<|aa (pv 0) af) af) (aC (i:=3) aM.nd rfl A!)<|ae (aw (i:=4) aM.nd rfl A!<|pv 3)<|ae (i7 zaE (PW.pt<|pw_and (aQ lV (pv 4) (aE aN C! T.len bh<|aa (pv 0) af)<|aV _)<|pw_and1<|aQ eG (aP aB (aP aB (pv 0) (pv 4) C?) (pv 3) C?) aj<|aV _)<|ao<|aw (i:=4) aM.nd rfl A!<|aA bD (pv 4) aj)<|ae (cN (aQ eG (pv 4) (aE aN C! T.len bh<|aa (pv 0) af)<|aV _) (ao<|aU aj) bA)<|ae (cN (aQ jS (pv 4) (pv 3)<|aV _) (ae (aw (i:=5) aM.nd rfl A!<|aP aB (pv 0) (pv 4) C?)<|ae (fV (aP aB (pv 0) (pv 3) C?)<|h9 (pv 0) (pv 4) set_list)<|ae (fV (pv 5)<|h9 (pv 0) (pv 3) set_list)<|ao<|aw (i:=1) aM.nd rfl A!<|aA eF aj<|pv 1) bA)<|ae (aw (i:=6) aM.nd rfl A!<|aP aB (pv 0) (pv 3) C?)<|ae (bN zaE rfl (oR rfl T.range<|aa (aA bD (pv 3) aj)<|aa (aE aN C! T.len bh<|aa (pv 0) af) af) (aC (i:=7) aM.nd rfl A!)<|ae (aw (i:=8) aM.nd rfl A!<|aP aB (pv 0) (pv 7) C?)<|ao<|bN zaE rfl (oR rfl T.range<|aa (aA bD (pv 3) aj)<|aa (aE aN C! T.len bh<|aa (pv 0) af) af) (aC (i:=9) aM.nd rfl A!)<|ae (aw (i:=10) aM.nd rfl A!<|aA fj (aP aB (pv 8) (pv 9) C?)<|aP aB (pv 6) (pv 3) C?)<|ao<|fV (aA xf (aA eF (pv 10)<|aA fj (aP aB (pv 8) (pv 3) C?)<|aP aB (pv 6) (pv 9) C?)<|pv 2)<|h9 (pv 8) (pv 9) set_list)<|ao<|aw (i:=2) aM.nd rfl A!<|aP aB (pv 6) (pv 3) C?)<|ao<|aU<|aA fj (pv 1)<|pv 2),?_]
 dsimp only[eg];ext;refine wX rfl g (by rw[rc.len];lia) λe cs H1 e1 g1 oU BP=>?_;rw[Gi rc]at g1;let ml:∀V:Nat->Nat->Int,(fK n V).z=n:=λV=>by unfold fK;simp
 let Ru:=g1.len;rw[ml]at Ru;ext;refine cM ?_;refine aJ<|i5<|aJ<|dy rfl<|bj #[_,_,rfl,.inl #[_,aK.of g1.top,rfl],?_];rw[zaa,Ru];refine bj #[(n:Int),rfl,(),(),?_];rw[zau];refine bY (λk B H2=>∃(cs:bp) (A W U:Nat->Nat->Int) (sn d:Int) (v3 v4 I v6 G L C f:Option V),B=[e.e,sn.f,d.f,v3,v4,I,v6,G,L,C,f]/\ai H H2/\aO H2 e cs (fK n U)/\(e::cs).Nodup/\(∀b∈e::cs,H b=none)/\
   _root_.Dt.Ba k A W d/\(∀i j,k<=i/\i<n->k<=j/\j<n->U i j=W i j)/\_root_.Dt.det n (_root_.Dt.mx M)=sn*_root_.Dt.det n A/\(sn=1\/sn=-1)/\∀i j,(A i j).natAbs<=1000)
  #[cs,_,_,_,1,1,none,none,none,none,none,none,none,none,rfl,e1,g1,oU,BP,_root_.Dt.Ba.start<|_root_.Dt.mx M,λi j _ _=>rfl,by rw[zcR],.inl rfl,hM] ?_ ?_
 clear g1 oU BP Ru e1 cs;ext k B H2 R ⟨cs,A,W,U,sn,d,v3,v4,I,v6,G,L,C,f,rfl,e2,v,ow,uH,ba,l,O,OU,N⟩;simp only[zbk];let cl:=v.len;rw[ml]at cl;ext;refine lh (λB H3=>∃t:Nat,B=[e.e,sn.f,d.f,k.h,t.h,I,v6,G,L,C,f]/\H3=H2/\k<=t/\t<=n/\∀i,k<=i->i<t->W i k=0)
  (λB _=>match B with | [_,_,_,_,some<|.int t,_,_,_,_,_,_]=>n-t.toNat|_=>0) #[k,rfl,rfl,(),(),λi r u=>()] ?_
 ext B H3 ⟨t,rfl,rfl,kt,tn,z0⟩;ext;refine#[_,_,rfl,.inl #[_,aK.of v.top,rfl],?_];rw[zaa,cl];let ea:∀(X:Nat->Nat->Int) (x y:Nat),y<n->j6 (((List.range n).map<|X x).c) (y:Int)=some (V.int<|X x y):=λX x y hy=>cz (by rw[zao,zao,zce hy];rfl);ext;refine if2 (λlt=>?_)<|λge=>?_;let OY:cs[t]?=some cs[t]:=zaf ();let PF:=v.row _ _ _ OY<|gO ();ext;refine aR (aK.of v.top) (v.ix OY) ?_;ext;refine aR (aK.of PF) (ea U t k R) ?_;ext;refine if2 (λz=>?_)<|λnz=>?_;refine w_turn ?_;ext;refine#[#[t+1,rfl,rfl,(),(),λi r u=>?_],?_];by_cases c:i=t;rw[c,<-l t k () ()];exact z;exact z0 i r ();show n-((t:Int)+1).toNat<n-(t:Int).toNat;lia;ext;refine#[_,_,rfl,.inl #[_,aK.of v.top,rfl],?_];rw[zaa,cl];ext;refine if2 (λz=>absurd z ())<|λ_=>?_;ext;refine Qv (λσ' H'=>∃(cs:bp) (A W U:Nat->Nat->Int) (sn:Int) (I:Option V),σ'=[e.e,sn.f,d.f,k.h,t.h,I,v6,G,L,C,f]/\ai H H'/\aO H' e cs (fK n U)/\(e::cs).Nodup/\(∀b∈e::cs,H b=none)/\
   _root_.Dt.Ba k A W d/\(∀i j,k<=i/\i<n->k<=j/\j<n->U i j=W i j)/\_root_.Dt.det n (_root_.Dt.mx M)=sn*_root_.Dt.det n A/\(sn=1\/sn=-1)/\(∀i j,(A i j).natAbs<=1000)/\W k k≠0) (λσ' H4 hh=>?_) (λne TT ac=>?_)<|λeq TT ac=>?_
 clear v ow uH ba l O OU N cl z0 nz PF OY e2;let#[cs,A,W,U,sn,I,rfl,e4,g4,zO,yD,ba,l,O,OU,N,OO]:=hh;let cl:=g4.len;rw[ml]at cl;ext;obtain⟨ck,Y⟩:∃ck,cs[k]?=some ck:=#[_,zaf ()];let wz:∀a b,Sz 600<|W a b:=λa b=>by let r:=ba.bound B! N a b;let u:((k+1)*1000) ^ (k+1)<=(31*1000) ^ 31:=zaI (zbZ () _)<|zbK B! ();exact zbj (zaI r u) B?
 let dz:Sz 600 d:=by let r:=ba.B5 N;let u:(k*1000) ^ k<=(31*1000) ^ k:=zbZ () k;let h3:(31*1000) ^ k<=(31*1000) ^ 31:=zbK B! ();exact zbj (zaI r<|zaI u h3) B?
 let Sb:∀a b x y,IntMulOk (W a b)<|W x y:=λa b x y=>Sz.sC (wz a b)<|wz x y;let Rv:∀i,IX i d:=λi=>#[ba.ne,dz.mono B!];let#[W',ZP,al,ag]:=ba.step OO;refine aR (aK.of g4.top) (g4.ix Y) ?_;ext;refine cM ?_;refine aJ<|di<|dy rfl<|r_c<|gw<|aJ<|i5<|aJ<|dy rfl<|bj #[_,_,rfl,.inl #[_,aK.of g4.top,rfl],?_];rw[zaa,cl];refine bj #[(k:Int)+1,(n:Int),rfl,#[(),(),(),()],?_];rw[show((n:Int)-((k:Int)+1)).toNat=n-(k+1)by lia];refine bY (lo:=(k:Int)+1) (λi B H5=>∃(U:Nat->Nat->Int) (G L C f:Option V),B=[e.e,sn.f,d.f,k.h,t.h,I,ck.e,G,L,C,f]/\ai H H5/\aO H5 e cs (fK n U)/\∀a b,k<=a/\a<n->k<=b/\b<n->U a b=if k<a/\k<b/\a<k+1+i then W' a b else W a b)
  #[U,G,L,C,f,rfl,e4,g4,λa b r u=>by erw[zab (),l a b r u]] ?_ ?_
 clear e4 g4 l;ext i B H5 hi ⟨U,G,L,C,f,rfl,S,F,l⟩;obtain⟨x,ex⟩:∃x,x=k+1+i:=#[_,rfl];rw[show(k:Int)+1+(i:Int)=(x:Int)by lia];obtain⟨cx,Sv⟩:∃c,cs[x]?=some c:=#[_,zaf ()];ext;refine aR (aK.of F.top) (F.ix Sv) ?_;ext;refine cM ?_;refine aJ<|di<|dy rfl<|r_c<|gw<|aJ<|i5<|aJ<|dy rfl<|bj #[_,_,rfl,.inl #[_,aK.of F.top,rfl],?_];rw[zaa,cl];refine bj #[(k:Int)+1,(n:Int),rfl,#[(),(),(),()],?_];rw[show((n:Int)-((k:Int)+1)).toNat=n-(k+1)by lia];refine bY (lo:=(k:Int)+1) (λj B H6=>∃(U:Nat->Nat->Int) (C f:Option V),B=[e.e,sn.f,d.f,k.h,t.h,I,ck.e,x.h,cx.e,C,f]/\ai H H6/\aO H6 e cs (fK n U)/\∀a b,k<=a/\a<n->k<=b/\b<n->U a b=if k<a/\k<b/\(a<x\/a=x/\b<k+1+j)then W' a b else W a b)
  #[U,C,f,rfl,S,F,λa b r u=>by rw[l a b r u];grind] ?_ ?_
 clear S F l;ext j B H6 hj ⟨U,C,f,rfl,e6,g6,l⟩;obtain⟨y,ey⟩:∃y,y=k+1+j:=#[_,rfl];rw[show(k:Int)+1+(j:Int)=(y:Int)by lia];let MI:=g6.row _ _ _ Sv<|gO ();let JK:=g6.row _ _ _ Y<|gO R;let u1:U x y=W x y:=by rw[l x y () (),zab ()]
 let u2:U k k=W k k:=by rw[l k k () (),zab ()]
 let u3:U x k=W x k:=by rw[l x k () (),zab ()]
 let u4:U k y=W k y:=by rw[l k y () (),zab ()]
 let m1:=Sb x y k k;let m2:=Sb x k k y;let ad:(W x y*W k k-W x k*W k y).fdiv d=W' x y:=by erw[show W x y*W k k-W x k*W k y=d*W' x y by rw[ZP x y ()];grind,zcc _ ba.ne]
 ext;refine aR (aK.of MI) (ea U x y ()) ?_;ext;refine aR (aK.of JK) (ea U k k R) ?_;rw[u1,u2];ext;refine aR (aK.of MI) (ea U x k R) ?_;ext;refine aR (aK.of JK) (ea U k y ()) ?_;rw[u3,u4];ext;refine zv (Rv _) ?_;rw[ad];refine h8 ?_;ext;refine#[cx,_,_,y,rfl,rfl,MI,by rw[jJ () (by rw[zaa,zaa,zbx];lia),zau],?_];let g7:=g6.set zO (l':=((List.range n).map<|U x).set y<|W' x y) Sv;rw[xq (),zeG]at g7;refine#[_,_,_,rfl,ai.fresh e6<|yD cx<|zag _<|zah Sv,g7,λa b r u=>?_];show(if a=x/\b=y then W' x y else U a b)=_;by_cases c:a=x/\b=y;rw[zad c,zad (),c.1,c.2];rw[zab c,l a b r u];by_cases c2:k<a/\k<b/\(a<x\/a=x/\b<k+1+j);rw[zad c2,zad ()];rw[zab c2,zab ()];clear S F l;ext B H6 ⟨U,C,f,rfl,e6,g6,l⟩;ext;refine#[U,_,_,_,_,rfl,e6,g6,λa b r u=>?_];rw[l a b r u];by_cases c2:k<a/\k<b/\a<k+1+(i+1);rw[zad c2,zad ()];rw[zab c2,zab ()];clear e4 g4 l;ext B H5 ⟨U,G,L,C,f,rfl,S,F,l⟩;let JK:=F.row _ _ _ Y<|gO R;ext;refine aR (aK.of JK) (ea U k k R) ?_;ext;let XO:U k k=W k k:=by rw[l k k () (),zab ()]
 rw[XO];exact#[cs,A,W',U,sn,W k k,_,_,_,_,_,_,_,_,rfl,S,F,zO,yD,ag,λa b r u=>by rw[l a b () (),zad ()],O,OU,N];let Y:cs[k]?=some cs[k]:=zaf ();ext;refine aR (aK.of v.top) (v.ix OY) ?_;ext;refine aR (aK.of v.top) (v.ix Y) ?_;refine h8 ?_;ext;let ix:∀y,y<n->Dl (cs.d).z (y:Int)=some y:=λy hy=>by rw[jJ () (by rw[zaa];lia),zau]
 refine#[e,_,_,t,rfl,rfl,v.top,ix t (),?_];ext;refine h8 ?_;ext;refine#[e,_,_,k,rfl,rfl,ah,by erw[zbN,ix k R],?_];let F:=aO.swap (o:=.lst<|(cs.d).set t<|.ref cs[k]) v ow Y OY;let#[YA,TB]:=JB ow Y OY;let fa:=uH e zal;let S:=ai.fresh (o:=.lst<|((cs.d).set t<|.ref cs[k]).set k<|.ref cs[t]) (ai.fresh (o:=.lst<|(cs.d).set t<|.ref cs[k]) e2 fa) fa;generalize upd (upd H3 e<|.lst<|(cs.d).set t<|.ref cs[k]) e (.lst<|((cs.d).set t<|.ref cs[k]).set k<|.ref cs[t])=H5 at F S ⊢;ext;let YQ:k≠t:=();refine ac _ _ #[_,_root_.Dt.F8 A k t,_root_.Dt.F8 W k t,_,_,_,rfl,S,F,YA,λb hb=>?_,ba.swap kt,λi j r u=>?_,?_,?_,λi j=>N _ _,?_];ext(z|z:zas.mp hb);rw[z];exact fa;exact uH b<|zag _<|TB b z;exact l _ _ (show k<=(if i=k then t else if i=t then k else i)/\(if i=k then t else if i=t then k else i)<n by grind) u;rw[_root_.Dt.KZ A R () YQ,O];grind;lia;show W (if k=k then t else _) k≠0;rw[zad rfl,<-l t k () ()];exact nz;ext;let tk:t=k:=();subst tk;exact ac _ _ #[cs,A,W,U,sn,I,rfl,e2,v,ow,uH,ba,l,O,OU,N,by erw[<-l t t () (),nz]];ext;refine#[_,_,rfl,.inl #[_,aK.of v.top,rfl],?_];rw[zaa,cl];ext;refine if2 (λ_=>?_)<|λz=>absurd (show(t:Int)=n by lia) z;ext;let:=ba.none R λi r u=>z0 i r ();rw[this,zbD]at O;let k0:=q H3 e2;rw[O]at k0;exact k0;ext B H2 ⟨cs,A,W,U,sn,d,v3,v4,I,v6,G,L,C,f,rfl,e2,v,ow,uH,ba,l,O,OU,N⟩;let dz:Sz 600 d:=by let r:=ba.B5 N;let u:(n*1000) ^ n<=(31*1000) ^ 31:=zaI (zbZ () n)<|zbK B! YE;exact zbj (zaI r u) B?
 let Sb:IntMulOk sn d:=Sz.sC (m:=64) (by ext(z|z:OU)<;>rw[z]<;>unfold Sz<;>decide) dz;ext;let k0:=q H2 e2;rw[O,<-ba.dt]at k0;exact k0
theorem Ac(m:av L)(d:L.z<=31)(f:Nat->Nat)(x y:Nat):(EZ L f x y).natAbs<=1000:=by
 let inner:∀p,p<L.z->(_root_.Dt.sm L.z λq=>if f q=y then dI L p q else 0).natAbs<=31:=λp b=>by
  let k:=sO m (λq=>decide<|f q=y) b;let e:_root_.Dt.sm L.z (λq=>if decide (f q=y)=true then dI L p q else 0)=_root_.Dt.sm L.z (λq=>if f q=y then dI L p q else 0):=_root_.Dt.aF λq _=>by simp only[zcD]
  rw[<-e,k];let a:=zaf b;let g:(XS L (p:Int)).z<=L.z:=by erw[dh a,cG (m.nd p _ a) λz c=>#[(m.rg p _ a z c).1,(m.rg p _ a z c).2.1]]
  let h:=length_filter_le (λx:Int=>decide<|f x.toNat=y)<|XS L (p:Int);split<;>lia
 let:=_root_.Dt.wD (f:=λp=>if f p=x then(_root_.Dt.sm L.z λq=>if f q=y then dI L p q else 0)else 0) (n:=L.z) λp b=>by show(if f p=x then _ else(0:Int)).natAbs<=31;split;exact inner p b;decide
 unfold EZ;let:=zbV 31 d;lia
theorem dE:aS ["_law_orders_here", "_law_one", "_law_other", "_law_names", "_law_place"] ["_law_orders_here", "_law_one", "_law_other"]<|aH dX:=by walk_at "n"
theorem jC(D:Def K mg "_law_drawn_together" dX ["_law_orders_here", "_law_one", "_law_other"])(T:Txt K mg Z)(S:W! "_law_counts" 1 ["_law_orders_here", "_law_names", "_law_many"] oE)(fG:W! "_law_determinant" 1 ["_law_rows"] wu):W! "_law_drawn_together" 2 ["_law_orders_here", "_law_one", "_law_other"] pH:=by
 exists D.dZ dE,dQ,O;let#[p,C,L,a,b,rfl,_]:=h;rfl;let#[p,C,L,a,b,rfl,g,G,F,ab,bl,q]:=h;let I:=g.len;refine#[_,(ae (aw (i:=3) dE.nd rfl A!<|bH af)<|ae (bN zaE rfl (bw rfl T.range<|aa (aE aN C! T.len bh<|aa (pv 0) af) af) (aC (i:=4) dE.nd rfl A!)<|ao<|eQ<|iG zbc zbv zbw dr (pv 3)<|aa (aA eF (pv 4)<|i8 E8 C! T.int IC<|aa (jB C4 (pv 4) (pv 2)<|aV _) af) af)<|ae (fV (aP aB (pv 3) (pv 1) C?)<|h9 (pv 3) (pv 2) set_list)<|ao<|aU<|az fG O aZ<|aa (az S O aZ<|aa (pv 0)<|aa (pv 3)<|aa (aA eF (aE aN C! T.len bh<|aa (pv 0) af) aj) af) af),?_]
 ext;refine#[by decide,λc x=>?_];dsimp only[eg];generalize R:upd H c _=H1;let#[N,X]:=lay x R;let Y:=g.same N;ext;refine cM ?_;refine aJ<|i5<|aJ<|dy rfl<|bj #[_,_,rfl,.inl #[_,aK.of Y.top,rfl],?_];rw[zaa,I];refine bj #[(L.z:Int),rfl,(),(),?_];rw[zau];refine bY (λk r e=>∃(u:Option V),r=[p.e,a.h,b.h,c.e,u]/\ai H e/\e c=some (.lst<|((List.range k).map λ(i:Nat)=>((if b<i then i-1 else i:Nat):Int)).c))
  #[none,rfl,N,X] ?_ ?_
 ext k r e hk ⟨u,rfl,m,l⟩;simp only[zbk];ext;refine#[.inl #[rfl,_,aK.of l],?_];ext;refine .inr #[_,rfl,?_];ext;refine eE l (by erw[zaa,zaa,zbx,aI ()]) #[_,rfl,ai.fresh m x,?_];rw[ah,zcm,zaw,zaw];congr 3;show [V.int _]=[V.int _];congr 2;show _=((if b<k then k-1 else k:Nat):Int);by_cases z:b<k;rw[zaV (),zad rfl,zad z];lia;rw[zaQ (),zab B!,zab z];lia;ext r e ⟨u,rfl,m,l⟩;let g2:=g.same m;ext;refine aR (aK.of l) (cz (v:=.int (a:Int))<|by rw[zao,zao,zce ()];simp[show ¬b<a by lia]) ?_;refine h8 ?_;ext;refine#[c,_,_,b,rfl,rfl,l,by rw[jJ () (by rw[zaa,zaa,zbx];lia),zau],?_];let ey:((((List.range L.z).map λ(i:Nat)=>((if b<i then i-1 else i:Nat):Int)).c).set b<|.int (a:Int))=(((List.range L.z).map λi=>(qc a b i:Int)).c):=by refine zcr A? λi y h4=>?_;rw[zeo];simp[zcB,zcz];unfold qc;by_cases z:b=i;rw[zad z,zad z.symm];rw[zab z,zab<|zaZ z]
 rw[ey];let n:ai H<|upd e c<|.lst<|((List.range L.z).map λi=>(qc a b i:Int)).c:=ai.fresh m x;let y:upd e c (.lst<|((List.range L.z).map λi=>(qc a b i:Int)).c) c=some (.lst<|((List.range L.z).map λi=>(qc a b i:Int)).c):=ah;generalize upd e c (.lst<|((List.range L.z).map λi=>(qc a b i:Int)).c)=H3 at n y ⊢;let B:=g.same n;ext;refine#[_,_,rfl,.inl #[_,aK.of B.top,rfl],?_];rw[zaa,I];ext;rw[show(L.z:Int)-1=((L.z-1:Nat):Int)by lia];refine#[p,c,C,L,qc a b,L.z-1,rfl,B,G,F,y,(),(),λi hi=>by unfold qc;grind,λt bs M H4 e4 g4 rt d=>?_];ext;let U:L.z-1-1=L.z-2:=();rw[U]at rt d;refine#[t,bs,M,L.z-2,rfl,g4,rt,(),λi j=>?_,λW e5=>?_];by_cases z:i<L.z-2/\j<L.z-2;rw[d i j z.1 z.2];exact Ac G F _ _ _;rw[rt.out ()];decide;erw[_root_.Dt.aL d,q W<|n.trans<|e4.trans e5]
theorem lU:aS ["_law_many", "_law_found"] ["_law_many"]<|aH jx:=by walk_at "n"
theorem uo(D:Def K mg "_law_wheel" jx ["_law_many"])(T:Txt K mg Z):W! "_law_wheel" 1 ["_law_many"] yV:=by
 exists D.dZ lU,dQ,hr;let#[n,rfl,_]:=h;rfl;let#[n,rfl,n3,W,q]:=h;let sd:(0:Int)<(n:Int):=();refine#[_,(ae (eC (i:=1) lU.nd rfl A! (tg:=["_law_k"]) (fr:=[("_law_many",0)]) D! rfl (bw rfl T.range<|aa (pv 0) af) (λ_ _ _ _ _=>(aC (i:=0) (show [("_law_k":Str),("_law_many":Str)].Nodup by decide +kernel) rfl A!)) (λ_ _ _ _ _=>bB)<|λ_ _ _ _ _=>(bH<|aa (aA bO (aA bD (pv 0) aj)<|pv 1)<|aa (pv 1)<|aa (aA bO (aA eF (pv 0) aj)<|pv 1) af))<|ao<|aU<|aA dY (pv 1)<|bH<|aa (gM rfl T.range T.list<|pv 0) af),?_]
 ext;refine cA ?_;refine aJ<|dy rfl<|bj #[(n:Int),rfl,(),(),?_];rw[zau];ext d R;refine dJ (λj e ys u=>∃(v:Option V) (cs:bp),e=[v,n.h]/\ys=cs.d/\ai H u/\aO u d cs ((List.range j).map λ(k:Nat)=>[((k:Int)+1)%n,(n:Int),((k:Int)-1)%n])/\d∉cs)
  #[none,[],rfl,rfl,ai.upd R,#[ah,rfl,λi a l z=>by simp at z],by simp] ?_ ?_
 ext j e ys u hj ⟨v,cs,rfl,rfl,G,p,L⟩;simp only[zbk];let cl:=p.len;rw[zaa,zbx]at cl;ext;ext b y;generalize B:upd u b _=O;let#[x,F]:=lay y B;let N:=p.same x;let S:=p.fQ y;ext;refine#[N.top,by erw[zaa,aI ()],cZ hj #[_,cs++[b],rfl,by rw[zaw];rfl,ai.fresh (G.trans x) R,?_,λz=>?_]];rw[zcm,zaw];exact N.snoc L (λz=>S<|z▸zal) F;ext(z|z:zam.mp z);exact L z;exact S (by erw[zaj.mp z,zal]);ext e ys u ⟨v,cs,rfl,rfl,G,p,L⟩;let cl:=p.len;rw[zaa,zbx]at cl;ext;refine#[_,rfl,n,rfl,(),λb y=>?_];generalize B:upd u b _=O;let#[x,F]:=lay y B;ext;refine#[by rw[zat];simp,λt ht=>?_];generalize q2:upd O t _=H3;let#[C,h3]:=lay ht q2;let M:=p.same<|x.trans C;refine#[d,t,_,_,rfl,rfl,M.top,h3,by rw[zat,zaa,cl];simp;lia,λr uB=>?_];generalize U:upd H3 r _=X;let#[I,Y]:=lay uB U;refine q r (cs++[b]) X (G.trans<|x.trans<|C.trans I) #[by erw[zaw,Y],by unfold D7;simp[cl],λi a l g m=>?_];unfold D7 at m;by_cases c:i<n;rw[zaO ()]at g;rw[zaO<|by simpa using c]at m;exact I _ _<|M.row i a l g m;rw[zaL ()]at g;rw[zaL (by simpa using c),zaa,zbx,show i-n=i-cs.z by lia]at m;let s1:=I _ _<|C _ _ F;generalize i-cs.z=j at g m
 match j with
 | 0=>cases g;cases m;exact s1
 | j+1=>cases g
theorem iK:aS ["_law_number", "_law_base_here", "_law_place", "_law_k"] ["_law_number", "_law_base_here", "_law_place"]<|aH jA:=by walk_at "n"
theorem uu(D:Def K mg "_law_digit" jA ["_law_number", "_law_base_here", "_law_place"])(T:Txt K mg Z):W! "_law_digit" 1 ["_law_number", "_law_base_here", "_law_place"] j9:=by
 exists D.dZ iK,l,y;let#[n,b,p,rfl,_]:=h;rfl;let#[n,b,p,rfl,j,n1,b2,t,x,u,q]:=h;refine#[_,(ae (bN zaE rfl (bw rfl T.range<|aa (pv 2) af) (aC (i:=3) iK.nd rfl A!)<|ao<|aw (i:=0) iK.nd rfl A!<|aA ie (pv 0)<|pv 1)<|ao<|aU<|aA bO (pv 0)<|pv 1),?_]
 ext;refine cM ?_;refine#[_,rfl,p,rfl,(),(),?_];refine bY (λk a d=>∃(m:Int) (v:Option V),a=[m.f,b.f,p.f,v]/\0<=m/\m<10 ^ 61/\d=H) #[n,none,rfl,j,n1,rfl] ?_ ?_;ext k a d r ⟨m,v,rfl,c,e,rfl⟩;let z:RS m b:=qP () ();ext;refine#[_,_,rfl,zey c (),?_,rfl];exact zeW (zej _ c) e;ext a d ⟨m,v,rfl,c,e,rfl⟩;let g:(0:Int)<b:=();ext;exact q _ (zbi _ ())<|zba _ g
theorem cS:aS ["_law_script", "_law_many", "_law_found", "_law_k", "_law_cell", "_law_at"] ["_law_script", "_law_many"]<|aH hX:=by walk_at "n"
theorem pZ(D:Def K mg "_law_numbers" hX ["_law_script", "_law_many"])(T:Txt K mg Z):W! "_law_numbers" 1 ["_law_script", "_law_many"]<|rB K:=by
 exists D.dZ cS,dQ,hr;let#[a,ns,m,rfl,_]:=h;rfl;let#[a,ns,m,rfl,B,BJ,m0,m9,q]:=h;refine#[_,(ae (eC (i:=2) cS.nd rfl A! (tg:=["_law_k"]) (fr:=[]) D! rfl (bw rfl T.range<|aa (pv 1) af) (λ_ _ _ _ _=>(aC (i:=0) (show [("_law_k":Str)].Nodup by decide +kernel) rfl A!)) (λ_ _ _ _ _=>bB)<|λ_ _ _ _ _=>aj)<|ae (bN zaE rfl (bw rfl T.range<|aa (aE (vN rfl) C! T.max yf<|aa (pv 1)<|aa (aE (pD rfl) C! T.min mP<|aa (aE aN C! T.len bh<|aa (pv 0) af)<|aa aj af) af) af) (aC (i:=3) cS.nd rfl A!)<|ae (aw (i:=4) cS.nd rfl A! aj)<|ae (cN (aQ C4 (aE aN C! T.len bh<|aa (pv 0) af) aj<|aV _) (ao<|aw (i:=4) cS.nd rfl A!<|aA bO (aP aB (pv 0) (aA bO (pv 3)<|aE (pD rfl) C! T.min mP<|aa (aE aN C! T.len bh<|aa (pv 0) af)<|aa aj af) C?)<|zH (v:=1000000000000000000000000000000000000000000000000000000000007) bD (C2 (v:=1000000000000000000000000000000000000000000000000000000000000) G0 aj aj #[by decide,by decide,by decide] B?) aj B?) bA)<|ae (aw (i:=5) cS.nd rfl A!<|aA bO (pv 3)<|pv 1)<|ao<|fV (aA bO (aA bD (aA bD (aA fj (aP aB (pv 2) (pv 5) C?) aj)<|pv 4)<|aA fj (pv 3)<|pv 3)<|zH (v:=1000000000000000000000000000000000000000000000000000000000007) bD (C2 (v:=1000000000000000000000000000000000000000000000000000000000000) G0 aj aj #[by decide,by decide,by decide] B?) aj B?)<|h9 (pv 2) (pv 5) set_list)<|ao<|aU<|pv 2),?_]
 dsimp only[eg];ext;refine cA ?_;refine#[_,rfl,(m:Int),rfl,(),(),?_];rw[zau];ext t u;refine dJ (λi b ys r=>∃v:Option V,b=[v]/\ys=(List.replicate i (0:Int)).c/\ai H r/\r t=some (.lst ys)) #[none,rfl,rfl,ai.upd u,ah] ?_ ?_;ext i b ys r O ⟨v,rfl,rfl,n,C⟩;ext;refine#[C,by erw[zaa,zdC,aI ()],cZ O #[_,rfl,?_,ai.fresh n u,ah]];rw[replicate_succ',zaw];rfl;ext b ys r ⟨v,rfl,rfl,n,C⟩;ext;refine cM ?_;refine aJ<|i5<|aJ<|dy rfl<|aJ<|i5<|aJ<|i5<|aJ<|dy rfl<|bj ?_;refine#[_,_,rfl,.inl #[_,n.seq B,rfl],?_];refine aJ<|r_c<|bj #[_,_,rfl,?_];refine bj #[_,_,rfl,?_];refine bj ?_;rw[zaa];obtain⟨N,Uz,ZS⟩:∃c:Nat,(if(if(63:Int)<(ns.z:Int)then(63:Int)else(ns.z:Int)) > (m:Int)then(if(63:Int)<(ns.z:Int)then(63:Int)else(ns.z:Int))else(m:Int))=(c:Int)/\c<=63:=by refine#[(if(if(63:Int)<(ns.z:Int)then(63:Int)else(ns.z:Int)) > (m:Int)then(if(63:Int)<(ns.z:Int)then(63:Int)else(ns.z:Int))else(m:Int)).toNat,?_,?_]<;>split<;>split<;>lia
 rw[Uz];refine#[(N:Int),rfl,(),(),?_];rw[zau];refine bY (λk I g=>∃(d:b9) (L R y:Option V),I=[a.e,m.h,t.e,L,R,y]/\ai H g/\g t=some (.lst d.c)/\d.z=m/\∀x∈d,0<=x/\x<10 ^ 60+7)
  #[List.replicate m 0,none,none,none,rfl,n,C,zdC,λx G=>by rw[eq_of_mem_replicate G];decide] ?_ ?_
 clear C n;ext k I g hk ⟨d,L,R,y,rfl,l,p,M,F⟩;simp only[zbk];let e:∀(c:Int),0<=c->c<10 ^ 60+7->True:=λ_ _ _=>trivial;refine dm ?_;refine c4<|cB<|r_c<|dm ?_;dsimp only;refine mr (λb S=>∃c:Int,b=[a.e,m.h,t.e,k.h,c.f,y]/\0<=c/\c<10 ^ 60+7/\S=g) ?_ ?_;ext b S ⟨c,rfl,c0,c1,rfl⟩;let mp:(0:Int)<(m:Int):=();ext;let X:=zbi (k:Int) (show(m:Int)≠0 by lia);let Y:=zba (k:Int) mp;let#[i,O]:=zaD X;rw[O]at Y ⊢;let W:i<d.z:=();let rx:=F d[i]<|zbL _;refine aR (aK.of p) (show j6 d.c ((i:Nat):Int)=some (.int d[i])from cz<|by rw[zao,zaf W];rfl) ?_;let ac:IntMulOk d[i] 48271:=mulR B! B!;let Jd:IntMulOk (k:Int) (k:Int):=mulL () ();ext;refine h8<|dy rfl<|dy rfl #[t,d.c,(i:Int),i,rfl,rfl,p,?_,?_];rw[zaa,jJ () (),zau];rw[<-zeG];refine#[_,_,_,_,rfl,ai.fresh l u,ah,by erw[zbN,M],λx G=>?_];ext(z|z:zer G);exact F x z;rw[z];exact#[zbi _ B!,zba _ B!];ext RR e;ext;refine#[_,_,rfl,.inl #[_,l.seq B,rfl],?_];rw[zaa];ext;refine if2 (λhl=>?_)<|λhl=>?_;ext;refine#[_,_,rfl,.inl #[_,l.seq B,rfl],?_];rw[zaa];ext;refine#[_,_,rfl,?_];let lp:(0:Int)<(if(63:Int)<(ns.z:Int)then(63:Int)else(ns.z:Int)):=by split<;>lia
 ext;let U:=zbi (k:Int)<|Int.ne_of_gt lp;let b1:=zba (k:Int) lp;let b2:(k:Int)%(if(63:Int)<(ns.z:Int)then(63:Int)else(ns.z:Int))<(ns.z:Int):=by split at b1<;>split<;>lia
 generalize (k:Int)%(if(63:Int)<(ns.z:Int)then(63:Int)else(ns.z:Int))=ix at U b1 b2 ⊢;let#[j,rfl]:=zaD U;refine aR (l.seq B) (show j6 ns.c ((j:Nat):Int)=some (.int<|ns[j]'())from cz<|by rw[zao,zaf ()];rfl) ?_;ext;exact e _ _ #[_,rfl,zbi _ B!,zba _ B!,rfl];ext;exact e _ _ #[_,rfl,by decide,by decide,rfl];ext I g ⟨d,L,R,y,rfl,l,p,M,F⟩;ext;exact q t d g l u p M F
theorem uc:aS ["_law_found"] ["_law_found"]<|aH jw:=by walk_at "n"
theorem um(D:Def K mg "_law_whole" jw ["_law_found"])(T:Txt K mg Z):W! "_law_whole" 1 ["_law_found"] yU:=by
 exists D.dZ uc,a,b;let#[n,rfl,_]:=h;rfl;let#[n,rfl,q]:=h;refine#[_,(ao<|aU<|M4 (aE vO C! T.isinstance l9<|aa (pv 0)<|aa (C3 (v:=.ty "int") rfl T.int IC rfl) af)<|GW<|GX<|aE vO C! T.isinstance l9<|aa (pv 0)<|aa (C3 (v:=.ty "bool") rfl T.bool K5 rfl) af),?_];try dsimp only[eg]
 ext;refine Gz (.int n) (.ty _) Kt ?_;ext;refine Gz (.int n) (.ty _) Nq ?_;ext;exact q
theorem jt:aS ["_law_number", "_law_k", "_law_rings_here"] ["_law_number"]<|aH kr:=by walk_at "n"
theorem xm(D:Def K mg "_law_base" kr ["_law_number"])(T:Txt K mg Z):W! "_law_base" 1 ["_law_number"] Cy:=by
 exists D.dZ jt,dQ,hr;let#[n,rfl,_]:=h;rfl;let#[n,rfl,n0,n1,q]:=h;let m0:=zbi n (show(3:Int)≠0 by decide);let m1:=zba n (show(0:Int)<3 by decide);obtain⟨a,Ul,k3⟩:∃a:Nat,3+n%3=(a:Int)/\(a=3\/a=4\/a=5):=#[(3+n%3).toNat,(),()];let kp:(0:Int)<(a:Int):=();refine#[_,(ae (aw (i:=1) jt.nd rfl A!<|aA bD aj<|aA bO (pv 0) aj)<|ae (cN (PW.pt<|pw_and (aQ eG (aA bO (aA ie (pv 0) aj) aj) aj<|aV _)<|pw_and1<|aQ lV (pv 1) aj<|aV _) (ae (eC (i:=2) jt.nd rfl A! (tg:=["_law_i"]) (fr:=[("_law_k",1)]) D! rfl (bw rfl T.range<|aa (pv 1) af) (λ_ _ _ _ _=>(aC (i:=0) (show [("_law_i":Str),("_law_k":Str)].Nodup by decide +kernel) rfl A!)) (λ_ _ _ _ _=>bB)<|λ_ _ _ _ _=>(bH<|aa (pv 0)<|aa (aA bO (aA bD (pv 0) aj)<|pv 1)<|aa (aA bD (pv 1)<|aA bO (aA bD (pv 0) aj)<|pv 1)<|aa (aA bD (pv 1)<|pv 0) af))<|ao<|aU<|aA dY (pv 2)<|bH<|aa (uh rfl T.range T.list<|aa (pv 1)<|aa (aA fj aj<|pv 1) af)<|aa (pK rfl T.range T.reversed T.list<|pv 1) af) bA)<|ao<|aU<|aA dY (dG (tg:=["_law_i"]) (fr:=[("_law_k",1)]) D! rfl (bw rfl T.range<|aa (pv 1) af) (λ_ _ _ _ _=>(aC (i:=0) (show [("_law_i":Str),("_law_k":Str)].Nodup by decide +kernel) rfl A!)) (λ_ _ _ _ _=>bB)<|λ_ _ _ _ _=>(bH<|aa (pv 0)<|aa (aA bO (aA bD (pv 0) aj)<|pv 1)<|aa (pv 1) af))<|bH<|aa (pK rfl T.range T.reversed T.list<|pv 1) af),?_]
 ext;rw[Ul];let V0:∀(O:St) (W:Hp),O=[n.f,a.h,none]->ai H W->MA (Cm P1 (pG (LP<|j7 (eX 1) yN) (jU 0) qZ (JA<|j7 (eX 0)<|j7 (Cm (rI (λx j=>0<j) λi j=>V.int<|i%j) (Cm (Fm λi j=>V.int<|i+j) (eX 0)<|tC<|V.int 1)<|eX 1)<|j7 (eX 1) yN) 1 [1])<|JA<|j7 (oC<|eX 1) yN) { nx:=λ_ U=>Q .gW U,rt:=Q } O W:=by ext O W rfl e0;refine ni<|di<|cA ?_;refine#[_,rfl,(a:Int),rfl,(),(),?_];rw[zau];ext l L;refine zf (rest:=[a.h]) (λi=>[(i:Int),((i:Int)+1)%(a:Int),(a:Int)]) (λi U Q' hi e' S=>?_) L () λcs b M N oU BP=>?_;ext;exact λc m=>S c _ (ai.upd m) m ah;refine rV<|aJ<|rW<|dy rfl #[a,rfl,(),λd I=>?_];let p:ai b<|upd b d<|.lst<|(down a).c:=ai.upd I;let d2:upd b d (.lst<|(down a).c) d=some (.lst<|(down a).c):=ah;generalize upd b d (.lst<|(down a).c)=k at p d2 ⊢;refine bj #[by rw[zat];simp,λu B=>?_];let F:=aO.one d2 B;let g:ai k<|upd k u<|.lst [.ref d]:=ai.upd B;generalize upd k u (.lst [.ref d])=G at F g ⊢;let r:=(N.same p).same g;refine#[l,u,_,_,rfl,rfl,r.top,F.top,by rw[zaa,zaa,r.len,F.len,zat];simp;lia,λt C=>?_];let v:=r.uI F C;refine q t _ _ (a+1) _ (e0.trans<|((M.trans p).trans g).trans<|ai.upd C) v () ?_;ext(rfl|rfl|rfl:k3);let:=Tg.yJ;exact#[_,this.1,this.2,rfl];let:=Tf.yJ;exact#[_,this.1,this.2,rfl];let:=Te.yJ;exact#[_,this.1,this.2,rfl]
 let h3:(0:Int)<3:=by decide
 ext;by_cases y:n / 3%3=1;rw[zaV y];ext;by_cases z:(a:Int)<5;rw[zaV z];ext;refine cA ?_;refine#[_,rfl,(a:Int),rfl,(),(),?_];rw[zau];ext l L;refine zf (rest:=[a.h]) (λi=>[(i:Int),((i:Int)+1)%(a:Int),(a:Int)+((i:Int)+1)%(a:Int),(a:Int)+(i:Int)]) (λi U Q' hi e' S=>?_) L () λcs b M N oU BP=>?_;ext;exact#[by rw[zat];simp,λc m=>S c _ (ai.upd m) m ah];let hm:IntMulOk 2 (a:Int):=mulL B! B!;refine dm ?_;refine ni<|di<|dy rfl<|rV<|aJ<|Bp<|aJ<|dy rfl<|aJ<|di<|r_c<|dy rfl<|zv hm<|bj #[(a:Int),a,by rw[show(2:Int)*(a:Int)=(a:Int)+(a:Int)by lia],(),(),(),λc m=>?_];let p:ai b<|upd b c<|.lst<|((List.range a).map λi:Nat=>(a:Int)+(i:Int)).c:=ai.upd m;let X:upd b c (.lst<|((List.range a).map λi:Nat=>(a:Int)+(i:Int)).c) c=some (.lst<|((List.range a).map λi:Nat=>(a:Int)+(i:Int)).c):=ah;generalize upd b c (.lst<|((List.range a).map λi:Nat=>(a:Int)+(i:Int)).c)=k at p X ⊢;refine aJ<|rW<|dy rfl #[a,rfl,(),λd I=>?_];let g:ai k<|upd k d<|.lst<|(down a).c:=ai.upd I;let Y:upd k d (.lst<|(down a).c) d=some (.lst<|(down a).c):=ah;generalize upd k d (.lst<|(down a).c)=G at g Y ⊢;refine bj #[by rw[zat];simp,λu B=>?_];let v:=aO.two (g _ _ X) Y B;let R:ai G<|upd G u<|.lst [.ref c,.ref d]:=ai.upd B;generalize upd G u (.lst [.ref c,.ref d])=H4 at v R ⊢;let r:=((N.same p).same g).same R;refine#[l,u,_,_,rfl,rfl,r.top,v.top,by rw[zaa,zaa,r.len,v.len,zat];simp;lia,λt C=>?_];let g5:=r.uI v C;refine q t _ _ (2*a) _ ((((M.trans p).trans g).trans R).trans<|ai.upd C) g5 () ?_;ext(rfl|rfl|rfl:k3);let:=Ti.yJ;exact#[_,this.1,this.2,rfl];let:=Th.yJ;exact#[_,this.1,this.2,rfl];lia;rw[zaQ z];ext;exact V0 _ _ rfl<|λ_ _ e=>e;rw[zaQ y];ext;exact V0 _ _ rfl<|λ_ _ e=>e
theorem rL:aS ["_law_rings_here"] ["_law_rings_here"]<|aH iP:=by walk_at "n"
theorem sr(D:Def K mg "_law_places" iP ["_law_rings_here"])(T:Txt K mg Z):W! "_law_places" 1 ["_law_rings_here"] iZ:=by
 exists D.dZ rL,dQ,S;let#[p,Y,R,n,rfl,_]:=h;rfl;let#[p,Y,R,n,rfl,k,tr,hn,q]:=h;let many:=tr.many;refine#[_,(ao<|aU<|aA bD aj<|aE (vM rfl) C! T.max yf<|aa (dG (tg:=["_law_ring"]) (fr:=[]) D! rfl (bL<|pv 0) (λ_ _ _ _ _=>(aC (i:=0) (show [("_law_ring":Str)].Nodup by decide +kernel) rfl A!)) (λ_ _ _ _ _=>bB)<|λ_ _ _ _ _=>(aE (B7 rfl rfl) C! T.max yf<|aa (pv 0) af)) af),?_];dsimp only[eg];refine ni<|di<|r_c<|i5<|aJ<|cA ?_;refine#[_,rfl,p,rfl,#[_,aK.of k.top],λu O=>?_];refine cU (λi c ys y=>∃(a:b9) (v:Option V),c=[v]/\ys=a.c/\ai H y/\y u=some (.lst ys)/\a.z=i/\∀(j:Nat) (m:Int) (r:b9),a[j]?=some m->R[j]?=some r->m∈r/\∀x∈r,x<=m)
  #[[],none,rfl,rfl,ai.upd O,ah,rfl,λj m r h=>by simp at h] (λi c ys y _ ⟨_,_,_,_,e,_⟩=>aK.of<|e _ _ k.top) ?_ ?_
 ext i x c ys y B t ⟨a,v,rfl,rfl,C,I,rfl,F⟩;rw[zaa,k.len]at t;let#[b,l,ha,N,bQ]:=k.at (i:=a.z) t;obtain rfl:x=V.ref b:=by rw[zao,ha]at B;exact(zaq B).symm
 let W:=tr.ring<|zah N;ext;refine#[b,l,rfl,aK.of<|C _ _ bQ,λz=>by rw[z]at W;simp at W,λm X g=>?_];refine#[I,by erw[zaa,aI ()],cZ (by erw[zaa,k.len,t]) #[a++[m],_,rfl,by simp,ai.fresh C O,by rw[ah],by simp,λj m' r d L=>?_]];rw[getElem?_append]at d;by_cases z:j<a.z;rw[zad z]at d;exact F j m' r d L;rw[zab z]at d;let jl:=(zac.mp d).1;let:j=a.z:=by simp at jl;lia
 subst this;rw[N]at L;cases L;simp at d;subst d;exact#[X,g];ext c ys y ⟨a,v,rfl,rfl,C,I,G,F⟩;rw[zaa,k.len]at G;refine bj #[u,a,rfl,aK.of I,λz=>by rw[z]at G;simp at G;lia,λM hM g=>?_];refine gw ?_;let e:1+M=(n:Int):=by let#[j,U]:=zaN.mp hM;let jl:=(zac.mp U).1;let#[m1,_]:=F j M R[j] U<|zaf ();let up:=((tr.ring<|zbL ()).2.2.2 M m1).2;let four:=tr.four;let#[r,S,B]:=tr.on (x:=(n:Int)-1) () ();let#[i,t]:=zaN.mp S;let il:=(zac.mp t).1;let mi:a[i]?=some (a[i]'()):=zaf ();let lo:=(F i _ r mi t).2 _ B;let:=g _<|zah mi;lia
 erw[e,q _ C]
theorem Md(h:j<cs.z):cy (nI cs) j=((cs.getD j 0:Nat):Int):=by refine vK ?_;unfold nI;rw[zao,zaf h,zak,zaf h];rfl
theorem jD(cs:List Nat):(nI cs).z=cs.z:=by unfold nI;rw[zaa]
theorem bI:aS ["_law_rings_here", "_law_number", "_law_fresh", "_law_at", "_law_ring", "_law_chosen", "_law_found", "_law_k", "_law_here", "_law_there"] ["_law_rings_here", "_law_number", "_law_fresh"]<|aH hV:=by walk_at "n"
theorem pY(D:Def K mg "_law_stacked" hV ["_law_rings_here", "_law_number", "_law_fresh"])(T:Txt K mg Z)(cX:W! "_law_digit" 1 ["_law_number", "_law_base_here", "_law_place"] j9):W! "_law_stacked" 2 ["_law_rings_here", "_law_number", "_law_fresh"] rA:=by
 exists D.dZ bI,dQ,hr;let#[p,as,R,n,k,rfl,_]:=h;rfl;let#[p,as,R,n,num,rfl,gp,tr,hn,k0,k1,q]:=h;let many:=tr.many;let rp:(0:Int)<(R.z:Int):=();refine#[_,(ae (aw (i:=3) bI.nd rfl A!<|aA bO (pv 1)<|aE aN C! T.len bh<|aa (pv 0) af)<|ae (aw (i:=4) bI.nd rfl A!<|aP aB (pv 0) (pv 3) C?)<|ae (eC (i:=5) bI.nd rfl A! (tg:=["_law_k"]) (fr:=[("_law_number",1)]) D! rfl (bw rfl T.range<|aa (aE aN C! T.len bh<|aa (pv 4) af) af) (λ_ _ _ _ _=>(aC (i:=0) (show [("_law_k":Str),("_law_number":Str)].Nodup by decide +kernel) rfl A!)) (λ_ _ _ _ _=>(kz<|aQ eG (az cX hr aZ<|aa (aA ie (pv 1) aj)<|aa aj<|aa (pv 0) af) aj<|aV _))<|λ_ _ _ _ _=>(pv 0))<|ae (cN (aQ lV (aE aN C! T.len bh<|aa (pv 5) af) aj<|aV _) (ao<|aw (i:=5) bI.nd rfl A!<|gM rfl T.range T.list<|aE aN C! T.len bh<|aa (pv 4) af) bA)<|ae (aw (i:=6) bI.nd rfl A!<|bH af)<|ae (bN zaE rfl (bw rfl T.range<|aa (aE aN C! T.len bh<|aa (pv 5) af) af) (aC (i:=7) bI.nd rfl A!)<|ae (aw (i:=8) bI.nd rfl A!<|aP aB (pv 5) (aA eF (pv 7) aj) C?)<|ae (aw (i:=9) bI.nd rfl A!<|aP aB (pv 5) (pv 7) C?)<|ae (cN (aQ lV (pv 9) (pv 8)<|aV _) (ao<|aw (i:=9) bI.nd rfl A!<|aA bD (pv 9)<|aE aN C! T.len bh<|aa (pv 4) af) bA)<|ao<|eQ<|iG zbc zbv zbw dr (pv 6)<|aa (aA dY (dG (tg:=["_law_j"]) (fr:=[("_law_ring",4)]) D! rfl (oR rfl T.range<|aa (pv 8)<|aa (aA bD (pv 9) aj) af) (λ_ _ _ _ _=>(aC (i:=0) (show [("_law_j":Str),("_law_ring":Str)].Nodup by decide +kernel) rfl A!)) (λ_ _ _ _ _=>bB)<|λ_ _ _ _ _=>(aP (nQ (K:=K) rfl) (pv 1) (aA bO (pv 0)<|aE (E6 (K:=K) rfl) C! T.len bh<|aa (pv 1) af) C?))<|bH<|aa (pv 2) af) af)<|ao<|aU<|aA dY (aA dY (bG cg (pv 0) bR<|bX<|pv 3)<|pv 6)<|bG cg (pv 0) (bX<|aA bD (pv 3) aj) bR),?_]
 dsimp only[eg];ext;refine#[_,_,rfl,.inl #[_,aK.of gp.top,rfl],?_];rw[zaa,gp.len];ext;let a0:=zbi num (show(R.z:Int)≠0 by lia);let a1:=zba num rp;let#[e,O0]:=zaD a0;rw[O0]at a1 ⊢;let#[rb,r,NP,AX,bQ]:=gp.at (i:=e) ();refine aR (aK.of gp.top) (gp.ix NP) ?_;let#[r3,rn,VQ,S4]:=tr.ring<|zah AX;let r0:0<r.z:=();let F9:(0:Int)<(r.z:Int):=();refine dm ?_;refine mr (λg W=>∃(ch:Addr) (cs:List Nat),g=[p.e,num.f,n.h,e.h,rb.e,ch.e,none,none,none,none]/\ai H W/\W ch=some (.lst<|(nI cs).c)/\cs.Pairwise (·<·)/\∀c∈cs,c<r.z) ?_ ?_;ext g O ⟨ch,cs,rfl,F,Aj,m,G⟩;refine mr (λg W=>∃(ch:Addr) (cs:List Nat),g=[p.e,num.f,n.h,e.h,rb.e,ch.e,none,none,none,none]/\ai H W/\W ch=some (.lst<|(nI cs).c)/\cs.Pairwise (·<·)/\(∀c∈cs,c<r.z)/\3<=cs.z) ?_ ?_;clear Aj m G F;ext g O ⟨ch,cs,rfl,F,Aj,m,G,c3⟩;let cl:cs.z<=r.z:=by
  let:=cG (l:=nI cs) (n:=r.z) (by unfold nI;exact zbB _ (λa b h=>()) m) λy hy=>by let#[c,hc,rfl]:=zap.mp hy;let:=G c hc;lia
  rwa [jD]at this
 ext;refine#[zaS _,λU HR=>?_];let e2:ai O<|upd O U<|.lst []:=ai.upd HR;let g2:aO (upd O U<|.lst []) U [] []:=#[ah,rfl,λi a l h=>by simp at h];generalize upd O U (.lst [])=H2 at e2 g2 ⊢;let ad:=F.free HR;ext;refine cM ?_;refine aJ<|i5<|aJ<|dy rfl<|bj #[_,_,rfl,.inl #[_,aK.of<|e2 _ _ Aj,rfl],?_];rw[zaa,jD];refine bj #[(cs.z:Int),rfl,(),(),?_];rw[zau];refine bY (λk σ H3=>∃(bs:bp) (v7 v8 v9:Option V),σ=[p.e,num.f,n.h,e.h,rb.e,ch.e,U.e,v7,v8,v9]/\ai O H3/\aO H3 U bs ((List.range k).map<|gn r cs n)/\U∉bs)
  #[[],none,none,none,rfl,e2,g2,by simp] ?_ ?_
 ext k σ H3 hk ⟨bs,v7,v8,v9,rfl,e3,g3,Hh⟩;simp only[zbk];let A:=IJ m G (r:=r) () hk;let Xu:=e3 _ _ Aj;let VW:=e3 _ _<|F _ _ bQ;refine dm ?_;refine c4<|cB<|di<|dy rfl<|di<|dy rfl<|r_c<|gw ?_;let jm:(k+(cs.z-1))%cs.z<cs.z:=zbr _ ();refine aR (aK.of Xu) (gG (j:=(k+(cs.z-1))%cs.z) (by rw[jD];lia) (by rw[jD];lia) ?_) ?_;rw[jD];by_cases z:k=0;subst z;rw[zbQ,zaY ()];right;lia;rw[show k+(cs.z-1)=k-1+cs.z by lia,zaz,zaY ()];left;lia;rw[Md jm];refine dm ?_;refine c4<|cB<|di<|dy rfl<|dy rfl<|aR (aK.of Xu) (gG (j:=k) (by rw[jD];lia) (by rw[jD];lia)<|.inl rfl) ?_;rw[Md hk];refine dm ?_;dsimp only;let eH:cs.getD ((k+(cs.z-1))%cs.z) 0=lG cs k:=rfl;rw[eH];refine mr (λg W=>g=[p.e,num.f,n.h,e.h,rb.e,ch.e,U.e,k.h,some<|.int (lG cs k:Int),some<|.int (lF r cs k:Int)]/\W=H3) ?_ ?_;ext g W ⟨rfl,rfl⟩;let ac:=A.lt;let le:=A.le;let top:=A.top;generalize hh:lG cs k=B at A ac le top ⊢;generalize ht:lF r cs k=OG at A ac le ⊢;ext;refine#[.inl #[rfl,_,aK.of g3.top],?_];ext;refine cA ?_;refine aJ<|dy rfl<|aJ<|di<|dy rfl<|r_c<|gw<|bj #[(B:Int),(OG:Int)+1,rfl,#[(),(),(),()],λN bq=>?_];rw[show((OG:Int)+1-(B:Int)).toNat=OG-B+1 by lia];refine dJ (lo:=(B:Int)) (λi g ys I=>∃v:Option V,g=[v,rb.e]/\ys=(cD r B i).c/\ai W I/\I N=some (.lst ys)) #[none,rfl,rfl,ai.upd bq,ah] ?_ ?_;ext i g ys I hi ⟨v,rfl,rfl,S,h4⟩;let VU:=S _ _ VW;ext;refine#[_,_,rfl,.inl #[_,aK.of VU,rfl],?_];rw[zaa];ext;let c0:=zbi ((B:Int)+(i:Int)) (show(r.z:Int)≠0 by lia);let c1:=zba ((B:Int)+(i:Int)) F9;let ce:((B+i)%r.z:Nat)=((B:Int)+(i:Int))%(r.z:Int):=by rw[Int.natCast_emod,Int.natCast_add]
 rw[<-ce]at c0 c1 ⊢;refine aR (aK.of VU) (gG (j:=(B+i)%r.z) () ()<|.inl rfl) ?_;rw[show cy r ((B+i)%r.z)=cy r (B+i)from bP<|zbT _ _];refine#[h4,by erw[zaa,bu,aI ()],cZ hi #[_,rfl,?_,ai.fresh S bq,ah]];rw[qT,zaw];rfl;ext g ys I ⟨v,rfl,rfl,S,h4⟩;ext;refine#[by rw[zat];simp,λu hu=>?_];let Y:ai I<|upd I u<|.lst [.int (n:Int)]:=ai.upd hu;let u5:upd I u (.lst [.int (n:Int)]) u=some (.lst [.int (n:Int)]):=ah;generalize upd I u (.lst [.int (n:Int)])=H5 at Y u5 ⊢;refine#[N,u,_,_,rfl,rfl,Y _ _ h4,u5,by rw[zaa,bu,zat];simp;lia,λx X=>?_];let e6:ai H5<|upd H5 x<|.lst<|(cD r B<|OG-B+1).c++[.int (n:Int)]:=ai.upd X;let x6:upd H5 x (.lst<|(cD r B<|OG-B+1).c++[.int (n:Int)]) x=some (.lst<|(gn r cs n k).c):=by unfold gn;erw[hh,ht,zaw,ah]
 generalize upd H5 x (.lst<|(cD r B<|OG-B+1).c++[.int (n:Int)])=H6 at e6 x6 ⊢;let Rh:=(S.trans Y).trans e6;let g6:=g3.same Rh;let VA:x≠U:=λz=>by let:=(S.trans Y) _ _ g3.top;rw[z,this]at X;cases X
 let bl:=g6.len;rw[zaa,zbx]at bl;refine bj<|eE g6.top (by erw[zaa,aI ()]) ?_;let g7:=g6.snoc Hh VA x6;refine#[bs++[x],_,_,_,rfl,?_,?_,?_];refine λb o hb=>?_;rw[aG<|λz=>by rw[z,HR]at hb;cases hb];exact Rh _ _<|e3 _ _ hb;rw[zcm,zaw];exact g7;ext z;ext(z|z:zam.mp z);exact Hh z;exact VA (zaj.mp z).symm;ext RR C;ext;by_cases z:((cs.getD k 0:Nat):Int)<(lG cs k:Int);rw[zaV z];ext;refine#[_,_,rfl,.inl #[_,aK.of VW,rfl],?_];rw[zaa];ext;refine C _ _ #[?_,rfl];let:lF r cs k=cs.getD k 0+r.z:=by unfold lF;rw[zad ()]
 rw[this,Int.natCast_add];rfl;rw[zaQ z];ext;refine C _ _ #[?_,rfl];let:lF r cs k=cs.getD k 0:=by unfold lF;rw[zab ()]
 rw[this];rfl;ext σ H3 ⟨bs,v7,v8,v9,rfl,e3,g3,Hh⟩;let A2:=(gp.same F).same e3;refine ni<|di<|di<|eP<|dy rfl #[_,rfl,(e:Int),rfl,p,_,rfl,aK.of A2.top,λx X=>?_];rw[jg (by rw[zaa,A2.len];lia),<-zdH];let g4:=A2.taken e X;let S:ai H3<|upd H3 x<|.lst<|(as.take e).d:=ai.upd X;generalize upd H3 x (.lst<|(as.take e).d)=I at g4 S ⊢;let Xb:=g3.same S;let bl:=g3.len;rw[zaa,zbx]at bl;refine dy rfl #[x,U,_,_,rfl,rfl,g4.top,Xb.top,by rw[zaa,zaa,g4.len,bl,zbb,zat];lia,λy hy=>?_];let g5:=g4.uI Xb hy;let Y:ai I<|upd I y<|.lst<|(as.take e).d++bs.d:=ai.upd hy;generalize upd I y (.lst<|(as.take e).d++bs.d)=H5 at g5 Y ⊢;let Q6:=(A2.same S).same Y;refine eP<|dy rfl<|di<|dy rfl<|r_c<|gw #[(e:Int)+1,rfl,p,_,rfl,aK.of Q6.top,λz hz=>?_];rw[show(e:Int)+1=((e+1:Nat):Int)by lia,pA (by rw[zaa,Q6.len];lia),<-map_drop];let g6:=Q6.dropped (e+1) hz;let e6:ai H5<|upd H5 z<|.lst<|(as.drop<|e+1).d:=ai.upd hz;generalize upd H5 z (.lst<|(as.drop<|e+1).d)=H6 at g6 e6 ⊢;let W7:=g5.same e6;refine#[y,z,_,_,rfl,rfl,by let:=W7.top;rw[zaw]at this;exact this,g6.top,by rw[zay,zaa,zaa,zaa,g4.len,bl,g6.len,zbb,zbF,zat];lia,λt ht=>?_];let g7:=W7.uI g6 ht;rw[zaw]at g7;let#[L,tg,ld,rfl]:=tr;let#[M,tM,lM,rM]:=tg.stack ld AX m G c3;refine q t _ _ _ ((((((F.trans e3).trans S).trans Y).trans e6).trans<|ai.upd ht)) g7 #[M,tM,?_,by rw[lM]];exact rM;ext RR C;ext;refine#[_,_,rfl,.inl #[_,aK.of Aj,rfl],?_];rw[zaa,jD];ext;refine if2 (λz=>?_)<|λz=>?_;ext;refine oN<|i5<|aJ<|dy rfl<|bj #[_,_,rfl,.inl #[_,aK.of<|F _ _ bQ,rfl],?_];rw[zaa];refine#[r.z,rfl,(),λc hc=>?_];ext;refine C _ _ #[c,List.range r.z,rfl,F.trans<|ai.upd hc,?_,pairwise_lt_range,λx X=>zaU.mp X,by erw[zbx,r3]];exact ah;ext;exact C _ _ #[ch,cs,rfl,F,Aj,m,G,()];ext RR C;ext;refine cA ?_;refine aJ<|i5<|aJ<|dy rfl<|bj #[_,_,rfl,.inl #[_,aK.of bQ,rfl],?_];rw[zaa];refine bj #[(r.z:Int),rfl,(),(),?_];rw[zau];ext N bq;refine dJ (λi g ys O=>∃(cs:List Nat) (v:Option V),g=[v,num.f]/\ys=(nI cs).c/\ai H O/\O N=some (.lst ys)/\cs.Pairwise (·<·)/\(∀c∈cs,c<i)/\cs.z<=i) #[[],none,rfl,rfl,ai.upd bq,ah,.nil,by simp,zai _] ?_ ?_;ext i g ys O hi ⟨cs,v,rfl,rfl,F,h1,m,G,cl⟩;simp only[zbk];ext;refine#[num / 97,2,(i:Int),rfl,zey k0 B!,zeW (zej _ k0) k1,by decide,by decide,(),(),λd d0 d1=>?_];ext;refine if2 (λz=>?_)<|λz=>?_;ext;refine#[h1,by erw[zaa,jD,aI ()],cZ hi #[cs++[i],_,rfl,?_,ai.fresh F bq,ah,?_,?_,by rw[zay];simp;lia]];unfold nI;rw[zaw,zaw];rfl;exact List.pairwise_append.mpr #[m,pairwise_singleton _ _,λa ha b hb=>by erw[zaj.mp hb,G a ha]];ext c hc;ext(y|y:zam.mp hc);let:=G c y;lia;rw[zaj.mp y];lia;exact cZ hi #[cs,_,rfl,rfl,F,h1,m,λc hc=>by let:=G c hc;lia,()];ext g ys O ⟨cs,v,rfl,rfl,F,h1,m,G,cl⟩;ext;exact C _ _ #[N,cs,rfl,F,h1,m,G]
theorem cV:aS ["_law_rings_here", "_law_number", "_law_at", "_law_ring", "_law_k", "_law_turned", "_law_j", "_law_other", "_law_i"] ["_law_rings_here", "_law_number"]<|aH ko:=by walk_at "n"
theorem xk(D:Def K mg "_law_tied" ko ["_law_rings_here", "_law_number"])(T:Txt K mg Z):W! "_law_tied" 1 ["_law_rings_here", "_law_number"] y6:=by
 exists D.dZ cV,dQ,hr;let#[p,F,R,n,k,rfl,_]:=h;rfl;let#[p,F,R,n,num,rfl,G,tr,hn,k0,k1,q]:=h;let many:=tr.many;let rp:(0:Int)<(R.z:Int):=();refine#[_,(ae (aw (i:=2) cV.nd rfl A!<|aA bO (pv 1)<|aE aN C! T.len bh<|aa (pv 0) af)<|ae (aw (i:=3) cV.nd rfl A!<|aP aB (pv 0) (pv 2) C?)<|ae (cN (aQ lV (aE aN C! T.len bh<|aa (pv 3) af) aj<|aV _) (ao<|aU<|pv 0) bA)<|ae (aw (i:=4) cV.nd rfl A!<|aA bO (aA ie (pv 1) aj)<|aE aN C! T.len bh<|aa (pv 3) af)<|ae (aw (i:=5) cV.nd rfl A!<|aA dY (bG cg (pv 3) (bX<|pv 4) bR)<|bG cg (pv 3) bR<|bX<|pv 4)<|ae (aw (i:=6) cV.nd rfl A!<|aA bD aj<|aA bO (aA ie (pv 1) aj)<|aA eF (aE aN C! T.len bh<|aa (pv 3) af) aj)<|ae (bN zaE rfl (bL<|pv 0) (aC (i:=7) cV.nd rfl A!)<|ao<|bN zaE rfl (bw rfl T.range<|aa (aE aN C! T.len bh<|aa (pv 7) af) af) (aC (i:=8) cV.nd rfl A!)<|ao<|cN (PW.pt<|pw_and (aQ eG (aP aB (pv 5) aj C?) (aP aB (pv 7) (aA eF (pv 8) aj) C?)<|aV _)<|pw_and1<|aQ eG (aP aB (pv 5) (pv 6) C?) (aP aB (pv 7) (pv 8) C?)<|aV _) (ao<|aU<|pv 0) bA)<|ao<|aU<|aA dY (aA dY (bG cg (pv 0) bR<|bX<|pv 2)<|bH<|aa (bG cg (pv 5) bR<|bX<|aA bD (pv 6) aj)<|aa (aA dY (bG cg (pv 5) (bX<|pv 6) bR)<|bG cg (pv 5) bR<|bX aj) af)<|bG cg (pv 0) (bX<|aA bD (pv 2) aj) bR),?_]
 dsimp only[eg];ext;refine#[_,_,rfl,.inl #[_,aK.of G.top,rfl],?_];rw[zaa,G.len];ext;let a0:=zbi num (show(R.z:Int)≠0 by lia);let a1:=zba num rp;let#[B,O0]:=zaD a0;rw[O0]at a1 ⊢;let#[rb,r,NP,AX,bQ]:=G.at (i:=B) ();refine aR (aK.of G.top) (G.ix NP) ?_;let#[r3,rn,VQ,S4]:=tr.ring<|zah AX;let r0:0<r.z:=();let F9:(0:Int)<(r.z:Int):=();ext;refine#[_,_,rfl,.inl #[_,aK.of bQ,rfl],?_];rw[zaa];ext;refine if2 (λz=>?_)<|λz=>?_;ext;exact q p F R H (λ_ _ e=>e) G tr;let r4:4<=r.z:=();ext;refine#[_,_,rfl,.inl #[_,aK.of bQ,rfl],?_];rw[zaa];ext;let b0:=zbi (num / 97) (show(r.z:Int)≠0 by lia);let b1:=zba (num / 97) F9;let#[g,Ul]:=zaD b0;rw[Ul]at b1 ⊢;refine eP<|dy rfl #[_,rfl,(g:Int),rfl,rb,_,rfl,aK.of bQ,λx I=>?_];rw[kU ()];let e1:ai H<|upd H x<|.lst<|(r.drop g).c:=ai.upd I;let x1:upd H x (.lst<|(r.drop g).c) x=some (.lst<|(r.drop g).c):=ah;generalize upd H x (.lst<|(r.drop g).c)=H1 at e1 x1 ⊢;refine eP<|dy rfl #[_,rfl,(g:Int),rfl,rb,_,rfl,aK.of<|e1 _ _ bQ,λy hy=>?_];rw[ji ()];let e2:ai H1<|upd H1 y<|.lst<|(r.take g).c:=ai.upd hy;let y2:upd H1 y (.lst<|(r.take g).c) y=some (.lst<|(r.take g).c):=ah;generalize upd H1 y (.lst<|(r.take g).c)=H2 at e2 y2 ⊢;refine#[x,y,_,_,rfl,rfl,e2 _ _ x1,y2,by rw[zaa,zaa,zbF,zbb,zat];lia,λO Qz=>?_];let e3:ai H2<|upd H2 O<|.lst<|(r.drop g).c++(r.take g).c:=ai.upd Qz;let RV:upd H2 O (.lst<|(r.drop g).c++(r.take g).c) O=some (.lst<|(cD r g r.z).c):=by rw[<-vW ()];unfold c5;erw[zaw,ah]
 generalize upd H2 O (.lst<|(r.drop g).c++(r.take g).c)=H3 at e3 RV ⊢;let SG:=(e1.trans e2).trans e3;clear x1 y2 e1 e2 e3 I hy Qz;ext;refine#[_,_,rfl,.inl #[_,aK.of<|SG _ _ bQ,rfl],?_];rw[zaa];let jp:(0:Int)<(r.z:Int)-3:=();ext;let c0:=zbi (num / 997) (show(r.z:Int)-3≠0 by lia);let c1:=zba (num / 997) jp;obtain⟨l,Zy,j2,j3⟩:∃l:Nat,2+num / 997%((r.z:Int)-3)=(l:Int)/\2<=l/\l+2<=r.z:=#[(2+num / 997%((r.z:Int)-3)).toNat,(),(),()];rw[Zy];let X:=G.same SG;ext;refine cM ?_;let wl:=bu r g r.z;let t0:j6 ((cD r g r.z).c) 0=some (V.int<|cy r g):=by let:=gG (r:=cD r g r.z) (i:=0) (j:=0) () ()<|.inl rfl;rw[this,lD ()];rfl
 let tj:j6 ((cD r g r.z).c) (l:Int)=some (V.int<|cy r<|g+l):=by let:=gG (r:=cD r g r.z) (i:=(l:Int)) (j:=l) () ()<|.inl rfl;rw[this,lD ()]
 refine#[_,rfl,p,rfl,#[_,aK.of X.top],fe (K:=K) (a:=p) (xs:=F.d) (λm S W=>∃v7 Y:Option V,S=[p.e,num.f,B.h,rb.e,g.h,O.e,l.h,v7,Y]/\W=H3/\∀(U:Nat) (o:b9),U<m->R[U]?=some o->∀i,dj o i≠(cy r g,cy r<|g+l))
  #[none,none,rfl,rfl,λU o h=>()] (λm S W _ ⟨_,_,_,h,_⟩=>by erw[h,aK.of X.top]) ?_ ?_]
 ext m xv S W I ⟨v7,Y,rfl,rfl,ok⟩;let ml:m<R.z:=by let:=(zac.mp I).1;rw[zaa,G.len]at this;exact this
 let#[b,o,ha,hl,NO]:=X.at (i:=m) ml;obtain rfl:xv=V.ref b:=by rw[zao,ha]at I;exact(zaq I).symm
 let#[o3,on,ag,ad]:=tr.ring<|zah hl;refine dm ?_;refine cM ?_;refine aJ<|i5<|aJ<|dy rfl<|bj #[_,_,rfl,.inl #[_,aK.of NO,rfl],?_];rw[zaa];refine bj #[(o.z:Int),rfl,(),(),?_];rw[zau];refine bY (λi S N=>∃Y:Option V,S=[p.e,num.f,B.h,rb.e,g.h,O.e,l.h,b.e,Y]/\N=W/\∀C,C<i->dj o (C+(o.z-1))≠(cy r g,cy r<|g+l))
  #[Y,rfl,rfl,λC h=>()] ?_ ?_
 ext i S N hi ⟨Y,rfl,rfl,R5⟩;simp only[zbk];ext;refine aR (aK.of RV) t0 ?_;ext;refine aR (aK.of NO) (gG (j:=(i+(o.z-1))%o.z) () () ?_) ?_;by_cases z:i=0;subst z;rw[zbQ,zaY ()];right;lia;rw[show i+(o.z-1)=i-1+o.z by lia,zaz,zaY ()];left;lia;rw[show cy o ((i+(o.z-1))%o.z)=cy o (i+(o.z-1))from bP<|zbT _ _];let ei:cy o (i+(o.z-1)+1)=cy o i:=bP (by rw[show i+(o.z-1)+1=i+o.z by lia,zaz]);ext;by_cases w1:cy r g=cy o (i+(o.z-1));rw[zaV w1];ext;refine aR (aK.of RV) tj ?_;ext;refine aR (aK.of NO) (gG (j:=i) () ()<|.inl rfl) ?_;ext;refine if2 (λw2=>?_)<|λw2=>?_;ext;exact q p F R N SG X tr;ext;refine#[_,rfl,rfl,λC h=>?_];by_cases y:C=i;subst y;ext e;let:=zaA Prod.snd e;rw[show(dj o<|C+(o.z-1)).2=cy o (C+(o.z-1)+1)from rfl,ei]at this;exact w2 this.symm;exact R5 C ();rw[zaQ w1];ext;refine#[_,rfl,rfl,λC h=>?_];by_cases y:C=i;subst y;ext e;exact w1 (zaA Prod.fst e).symm;exact R5 C ();ext S N ⟨ac,rfl,rfl,R5⟩;refine#[_,_,rfl,rfl,λU o' h h2 i=>?_];by_cases y:U=m;subst y;rw[hl]at h2;cases h2;let:=R5 ((i+1)%o.z)<|zbr _ ();rwa [show dj o ((i+1)%o.z+(o.z-1))=dj o i from bU<|by rw[zdM,show i+1+(o.z-1)=i+o.z by lia,zaz]]at this;exact ok U o' () h2 i;ext S W ⟨v7,Y,rfl,rfl,ok⟩;rw[zaa,G.len]at ok;refine ni<|di<|di<|eP<|dy rfl #[_,rfl,(B:Int),rfl,p,_,rfl,aK.of X.top,λx I=>?_];rw[jg (by rw[zaa,X.len];lia),<-zdH];let g4:=X.taken B I;let e4:ai W<|upd W x<|.lst<|(F.take B).d:=ai.upd I;generalize upd W x (.lst<|(F.take B).d)=N at g4 e4 ⊢;let VG:=e4 _ _ RV;refine rV<|aJ<|eP<|dy rfl<|di<|dy rfl<|r_c<|gw #[(l:Int)+1,rfl,O,_,rfl,aK.of VG,λu hu=>?_];rw[show(l:Int)+1=((l+1:Nat):Int)by lia,ji (by rw[bu];lia),yH ()];let e5:ai N<|upd N u<|.lst<|(cD r g<|l+1).c:=ai.upd hu;let u5:upd N u (.lst<|(cD r g<|l+1).c) u=some (.lst<|(cD r g<|l+1).c):=ah;generalize upd N u (.lst<|(cD r g<|l+1).c)=H6 at e5 u5 ⊢;let VF:=e5 _ _ VG;refine aJ<|di<|eP<|dy rfl #[_,rfl,(l:Int),rfl,O,_,rfl,aK.of VF,λv hv=>?_];rw[kU (by rw[bu];lia),FA ()];let e6:ai H6<|upd H6 v<|.lst<|(cD r (g+l)<|r.z-l).c:=ai.upd hv;let v6:upd H6 v (.lst<|(cD r (g+l)<|r.z-l).c) v=some (.lst<|(cD r (g+l)<|r.z-l).c):=ah;generalize upd H6 v (.lst<|(cD r (g+l)<|r.z-l).c)=H7 at e6 v6 ⊢;let XQ:=e6 _ _ VF;refine eP<|dy rfl #[1,rfl,O,_,rfl,aK.of XQ,λc hc=>?_];rw[show mJ ((cD r g r.z).c) none (some (1:Int))=((cD r g r.z).take 1).c from ji (k:=1) (by rw[bu];lia),yH ()];let e7:ai H7<|upd H7 c<|.lst<|(cD r g 1).c:=ai.upd hc;let c7:upd H7 c (.lst<|(cD r g 1).c) c=some (.lst<|(cD r g 1).c):=ah;generalize upd H7 c (.lst<|(cD r g 1).c)=H8 at e7 c7 ⊢;refine#[v,c,_,_,rfl,rfl,e7 _ _ v6,c7,by rw[zaa,zaa,bu,bu,zat];lia,λd hd=>?_];let ew:cD r (g+l) (r.z-l)++cD r g 1=cD r (g+l) (r.z-l+1):=by rw[show cD r (g+l) (r.z-l+1)=cD r (g+l) (r.z-l)++[cy r<|g+l+(r.z-l)]from qT];congr 1;show [cy r<|g+0]=_;rw[bP<|show(g+l+(r.z-l))%r.z=g%r.z by rw[show g+l+(r.z-l)=g+r.z by lia,zaz]];rfl
 let e8:ai H8<|upd H8 d<|.lst<|(cD r (g+l)<|r.z-l).c++(cD r g 1).c:=ai.upd hd;let d8:upd H8 d (.lst<|(cD r (g+l)<|r.z-l).c++(cD r g 1).c) d=some (.lst<|(cD r (g+l)<|r.z-l+1).c):=by erw[<-ew,zaw,ah]
 generalize upd H8 d (.lst<|(cD r (g+l)<|r.z-l).c++(cD r g 1).c)=H9 at e8 d8 ⊢;refine bj #[by rw[zat];simp,λw hw=>?_];let UX:=(e6.trans e7).trans e8;let g9:=aO.two (UX _ _ u5) d8 hw;let e9:ai H9<|upd H9 w<|.lst [.ref u,.ref d]:=ai.upd hw;generalize upd H9 w (.lst [.ref u,.ref d])=D4 at g9 e9 ⊢;let Q8:=((g4.same e5).same UX).same e9;refine#[x,w,_,_,rfl,rfl,Q8.top,g9.top,by rw[zaa,zaa,g4.len,g9.len,zbb,zat];simp;lia,λy hy=>?_];let Jh:=Q8.uI g9 hy;let A3:ai D4<|upd D4 y<|.lst<|(F.take B).d++[u,d].d:=ai.upd hy;generalize upd D4 y (.lst<|(F.take B).d++[u,d].d)=Lk at Jh A3 ⊢;let Ii:=(((e4.trans e5).trans UX).trans e9).trans A3;let N8:=X.same Ii;refine eP<|dy rfl<|di<|dy rfl<|r_c<|gw #[(B:Int)+1,rfl,p,_,rfl,aK.of N8.top,λz hz=>?_];rw[show(B:Int)+1=((B+1:Nat):Int)by lia,pA (by rw[zaa,N8.len];lia),<-map_drop];let O2:=N8.dropped (B+1) hz;let DF:ai Lk<|upd Lk z<|.lst<|(F.drop<|B+1).d:=ai.upd hz;generalize upd Lk z (.lst<|(F.drop<|B+1).d)=RQ at O2 DF ⊢;let L5:=Jh.same DF;refine#[y,z,_,_,rfl,rfl,by let:=L5.top;rw[zaw]at this;exact this,O2.top,by rw[zay,zaa,zaa,zaa,g4.len,O2.len,zbb,zbF,zat];simp;lia,λt ht=>?_];let Jg:=L5.uI O2 ht;rw[zaw]at Jg;let#[L,tg,ld,rfl]:=tr;let Tt:cy r (g+l)∉XS L (cy r g):=λz=>by let gr:=(ld.good r<|zah AX).dt g;let:Dt L (cy r g,cy r<|g+l):=#[gr.lo,gr.hi,z];let#[o,ho,QV]:=zaK.mp<|ld.all _ this;let#[U,Sm]:=zaN.mp ho;let#[i,ei]:=(bE (by let:=(ld.good o ho).two;lia)).mp QV;exact ok U o (zac.mp Sm).1 Sm i ei.symm
 let#[M,tM,lM,rM]:=tg.OI ld AX j2 j3 Tt;exact q t _ _ _ ((SG.trans Ii).trans<|DF.trans<|ai.upd ht) Jg #[M,tM,rM,lM]
theorem dO:aS ["_law_rings_here", "_law_found", "_law_number", "_law_ring", "_law_k"] ["_law_rings_here"]<|aH hZ:=by walk_at "n"
theorem p5(D:Def K mg "_law_corners" hZ ["_law_rings_here"])(T:Txt K mg Z):W! "_law_corners" 1 ["_law_rings_here"] j8:=by
 exists D.dZ dO,dQ,hr;let#[p,as,L,R,rfl,_]:=h;rfl;let#[p,as,L,R,rfl,I,tg,F,hn,q]:=h;let im:=tg.map;let nd:(R.flatMap λr=>sh (r.z-1) r).Nodup:=(fY R).nodup_iff.mpr F.nd;let kl:(R.flatMap λr=>sh (r.z-1) r).z<=5000:=by let e:=((fY (s:=λr=>r.z-1) R).length_eq);let d:=F.dec.len im;rw[show((R.map<|sh 0).flatten)=R.flatMap (sh 0)from rfl]at d;rw[e,d];let:=tE im<|zai L.z;let:L.z*(L.z-1)<=60*60:=zbU hn ();lia
 refine#[_,(ae (aw (i:=1) dO.nd rfl A! se)<|ae (bN zaE rfl (ny T.enumerate<|aa (pv 0) af) (kE (n:=2) rfl<|bC (aC (i:=2) dO.nd rfl A!)<|bC (aC (i:=3) dO.nd rfl A!) fh)<|ao<|bN zaE rfl (bw rfl T.range<|aa (aE aN C! T.len bh<|aa (pv 3) af) af) (aC (i:=4) dO.nd rfl A!)<|ao<|qv (lY hr) (pv 1) (dF<|aa (aP aB (pv 3) (aA eF (pv 4) aj) C?)<|aa (aP aB (pv 3) (pv 4) C?) af) (dF<|aa (aP aB (pv 3) (aA eF (pv 4) aj) C?)<|aa (pv 2) af) rfl)<|ao<|aU<|pv 1),?_]
 dsimp only[eg];ext;ext u BK;let e0:ai H<|upd H u<|.dT []:=ai.upd BK;let g0:upd H u (.dT []) u=some (.dT<|kC []):=ah;generalize upd H u (.dT [])=H0 at e0 g0 ⊢;ext;refine cM ?_;refine#[_,rfl,p,rfl,#[_,aK.of<|e0 _ _ I.top],kR (K:=K) (a:=p) (xs:=as.d) (λi C v=>∃(l:List<|ak×Addr) (v2 v3 O:Option V),C=[p.e,u.e,v2,v3,O]/\ai H v/\v u=some (.dT<|kC l)/\l.map (·.1)=(R.take i).flatMap (λr=>sh (r.z-1) r)/\∀d a,(d,a)∈l->∃c:Int,v a=some (.tup [.int c,.int<|lo R d])/\Dt L (c,d.1)/\nx L (c,d.1)=d)
  #[[],none,none,none,rfl,e0,g0,rfl,λd a h=>by cases h] (λi C v _ ⟨_,_,_,_,_,N,_⟩=>aK.of<|N _ _ I.top) ?_ ?_]
 ext i x pr C v hx ⟨l,v2,v3,O,rfl,N,g1,m,B⟩ Dv;let hi:i<R.z:=by let:=(zac.mp hx).1;rw[zaa,I.len]at this;exact this
 let#[b,r,ha,HI,bQ]:=I.at hi;obtain rfl:x=V.ref b:=by rw[zao,ha]at hx;exact(zaq hx).symm
 let rm:=zah HI;let g:=F.good r rm;let r3:=tg.three F rm;let r0:0<r.z:=();let fk:(R.take<|i+1).flatMap (λr=>sh (r.z-1) r)=(R.take i).flatMap (λr=>sh (r.z-1) r)++sh (r.z-1) r:=by rw[take_snoc HI,zcn,flatMap_singleton]
 let kn:((R.take i).flatMap (λr=>sh (r.z-1) r)++sh (r.z-1) r).Nodup:=by erw[<-fk,(lB _ _ _).nodup nd]
 let ad:((R.take i).flatMap<|λr=>sh (r.z-1) r).z+r.z<=5000:=by let:=(lB (λr=>sh (r.z-1) r) R<|i+1).length_le;rw[fk,zay,cK]at this;lia
 let M:ai v<|upd v pr<|.tup [.int i,.ref b]:=ai.upd Dv;let g2:=M _ _ g1;let Y:=N.trans M;refine fE (SqT.of ah) rfl ?_;generalize upd v pr (.tup [.int i,.ref b])=H2 at M g2 Y ⊢;ext;refine cM ?_;refine aJ<|i5<|aJ<|dy rfl<|bj #[_,_,rfl,.inl #[_,aK.of<|Y _ _ bQ,rfl],?_];rw[zaa];refine bj #[(r.z:Int),rfl,(),(),?_];rw[zau];refine bY (λk C y=>∃(l:List<|ak×Addr) (O:Option V),C=[p.e,u.e,i.h,b.e,O]/\ai H y/\y u=some (.dT<|kC l)/\l.map (·.1)=(R.take i).flatMap (λr=>sh (r.z-1) r)++(sh (r.z-1) r).take k/\∀d a,(d,a)∈l->∃c:Int,y a=some (.tup [.int c,.int<|lo R d])/\Dt L (c,d.1)/\nx L (c,d.1)=d)
  #[l,_,rfl,Y,g2,by erw[take_zero,zcP,m],λd a h=>let ⟨c,h1,h2⟩:=B d a h;#[c,M _ _ h1,h2]] ?_ ?_
 clear m B g1 g2 M Y;ext k C y hk ⟨l,w4,rfl,X,U,m,B⟩;simp only[zbk];let LU:=X _ _ bQ;let ed:(sh (r.z-1) r)[k]?=some (dj r<|k+(r.z-1)):=rG hk;let es:dj r (k+(r.z-1))=(cy r<|k+(r.z-1),cy r k):=by unfold dj;rw[bP<|show(k+(r.z-1)+1)%r.z=k%r.z by rw[show k+(r.z-1)+1=k+r.z by lia,zaz]]
 let ac:dj r (k+(r.z-1))∉l.map (·.1):=by erw[m,gN kn ed]
 refine dm ?_;refine Bq<|pJ<|aJ<|di<|dy rfl<|di<|dy rfl<|r_c<|gw<|aR (aK.of LU) (gG (j:=(k+(r.z-2))%r.z) () () ?_) ?_;by_cases z:k<2;rw[zaY ()];right;lia;rw[show k+(r.z-2)=k-2+r.z by lia,zaz,zaY ()];left;lia;rw[show cy r ((k+(r.z-2))%r.z)=cy r (k+(r.z-2))from bP<|zbT _ _];refine aJ<|dy rfl<|bj #[F2,λG Zc=>?_];let e9:ai y<|upd y G<|.tup [.int<|cy r<|k+(r.z-2),.int (i:Int)]:=ai.upd Zc;let t9:upd y G (.tup [.int<|cy r<|k+(r.z-2),.int (i:Int)]) G=some (.tup [.int<|cy r<|k+(r.z-2),.int (i:Int)]):=ah;generalize upd y G (.tup [.int<|cy r<|k+(r.z-2),.int (i:Int)])=H9 at e9 t9 ⊢;let LS:=e9 _ _ LU;refine dy rfl<|pJ<|aJ<|di<|dy rfl<|di<|dy rfl<|r_c<|gw<|aR (aK.of LS) (gG (j:=(k+(r.z-1))%r.z) () () ?_) ?_;by_cases z:k<1;rw[zaY ()];right;lia;rw[show k+(r.z-1)=k-1+r.z by lia,zaz,zaY ()];left;lia;rw[show cy r ((k+(r.z-1))%r.z)=cy r (k+(r.z-1))from bP<|zbT _ _];refine aJ<|di<|dy rfl<|dy rfl<|aR (aK.of LS) (gG (j:=k) () ()<|.inl rfl)<|bj #[F2,λW Sf=>?_];let A3:ai H9<|upd H9 W<|.tup [.int<|cy r<|k+(r.z-1),.int<|cy r k]:=ai.upd Sf;let S0:upd H9 W (.tup [.int<|cy r<|k+(r.z-1),.int<|cy r k]) W=some (.tup<|(fL<|dj r<|k+(r.z-1)).map kV):=by erw[es,ah]
 generalize upd H9 W (.tup [.int<|cy r<|k+(r.z-1),.int<|cy r k])=D4 at A3 S0 ⊢;let S:=e9.trans A3;let YT:l.z<=5000:=by let e:=zaA List.length m;rw[zaa,zay,zbb,cK]at e;lia
 refine#[u,_,rfl,tU.t (k:=fL<|dj r<|k+(r.z-1)) (S _ _ U) S0 (by rw[sQ,zat];lia),?_];rw[P4 ac];let ag:∀{a:Addr} {xs:List V},D4 a=some (.tup xs)->a≠u:=λh z=>by rw[z,S _ _ U]at h;cases h
 refine#[l++[(dj r<|k+(r.z-1),G)],_,rfl,ai.fresh (X.trans S) BK,ah,?_,λd a h=>?_];rw[zaw,m,take_snoc ed,zck];rfl;ext(h|h:zam.mp h);let#[c,h1,h2]:=B d a h;let A1:=S _ _ h1;exact#[c,by erw[aG<|ag A1,A1],h2];let h:=zaj.mp h;cases h;let VJ:=A3 _ _ t9;refine#[cy r<|k+(r.z-2),by erw[aG<|ag VJ,iH F HI,VJ],?_,?_];let:=g.dt<|k+(r.z-2);rw[show dj r (k+(r.z-2))=(cy r<|k+(r.z-2),cy r<|k+(r.z-2)+1)from rfl,show k+(r.z-2)+1=k+(r.z-1)by lia]at this;rw[es];exact this;let:=g.st<|k+(r.z-2);rw[show dj r (k+(r.z-2))=(cy r<|k+(r.z-2),cy r<|k+(r.z-2)+1)from rfl,show k+(r.z-2)+1=k+(r.z-1)by lia]at this;rw[es]at this ⊢;exact this;ext C y ⟨l,w4,rfl,X,U,m,B⟩;rw[show(sh (r.z-1) r).take r.z=sh (r.z-1) r from zcE (by erw[cK,zai _]),<-fk]at m;exact#[l,_,_,_,rfl,X,U,m,B];ext C v ⟨l,v2,v3,O,rfl,N,g1,m,B⟩;rw[zaa,I.len,zbp]at m;ext;refine q u l v N BK #[g1,by erw[m,nd],λd=>?_,B];rw[m];constructor;ext h;let h:=(fY R).mem_iff.mp h;let#[r,uB,hd]:=zaK.mp h;let#[j,rfl]:=(bE (by let:=(F.good r uB).two;lia)).mp hd;exact(F.good r uB).dt j;exact λh=>(fY R).mem_iff.mpr<|F.all d h
theorem bc:aS ["_law_rings_here", "_law_corners_here", "_law_found", "_law_place", "_law_first", "_law_other", "_law_ring", "_law_number"] ["_law_rings_here"]<|aH eD:=by walk_at "n"
theorem jX(D:Def K mg "_law_turned_inside" eD ["_law_rings_here"])(T:Txt K mg Z)(cF:W! "_law_places" 1 ["_law_rings_here"] iZ)(iu:W! "_law_corners" 1 ["_law_rings_here"] j8):W! "_law_turned_inside" 2 ["_law_rings_here"] u6:=by
 exists D.dZ bc,dQ,hr;let#[p,as,R,n,rfl,_]:=h;rfl;let#[p,as,R,n,rfl,gp,tr,hn,q]:=h;let#[L,tg,ld,rfl]:=id tr;let F:=tg.map;refine#[_,(ae (aw (i:=1) bc.nd rfl A!<|az iu hr aZ<|aa (pv 0) af)<|ae (aw (i:=2) bc.nd rfl A!<|bH af)<|ae (bN zaE rfl (bw rfl T.range<|aa (az cF hr aZ<|aa (pv 0) af) af) (aC (i:=3) bc.nd rfl A!)<|ae (CT<|aw (i:=4) bc.nd rfl A!<|aE (pB rfl) C! T.min mP<|aa (dG (tg:=["_law_one", "_law_other"]) (fr:=[("_law_place",3)]) D! rfl (zE<|pv 1) (λ_ _ _ _ _=>(nD (K:=K) rfl (n:=2) rfl<|bC (aC (i:=0) (show [("_law_one":Str),("_law_other":Str),("_law_place":Str)].Nodup by decide +kernel) rfl A!)<|bC (aC (i:=1) (show [("_law_one":Str),("_law_other":Str),("_law_place":Str)].Nodup by decide +kernel) rfl A!) fh)) (λ_ _ _ _ _=>(kz<|aQ eG (pv 0) (pv 2)<|aV _))<|λ_ _ _ _ _=>(pv 1)) af)<|ae (aw (i:=5) bc.nd rfl A!<|pv 4)<|ae (aw (i:=6) bc.nd rfl A!<|bH af)<|ae (i7 zaE (PW.pt<|pw_or (aQ (G7 hr.units) (pv 6) (bH af)<|aV _)<|pw_or1<|aQ jS (pv 5) (pv 4)<|aV _)<|ae (fV (qA (lY hr) (pv 1) (dF<|aa (pv 3)<|aa (pv 5) af) C?)<|kE (n:=2) rfl<|bC (aC (i:=5) bc.nd rfl A!)<|bC (aC (i:=7) bc.nd rfl A!) fh)<|ao<|eQ<|iG zbc zbv zbw dr (pv 6)<|aa (pv 7) af)<|ao<|eQ<|iG zbc zbv zbw dr (pv 2)<|aa (pv 6) af)<|ao<|aU<|pv 2),?_]
 dsimp only[eg];ext;refine#[p,as,L,R,rfl,gp,tg,ld,hn,λgd ks H1 e1 BK Oy=>?_];ext;refine#[zaS _,λu HR=>?_];let e2:ai H1<|upd H1 u<|.lst []:=ai.upd HR;let g2:aO (upd H1 u<|.lst []) u [] []:=#[ah,rfl,λi a l h=>by simp at h];generalize upd H1 u (.lst [])=H2 at e2 g2 ⊢;ext;refine cM ?_;refine aJ<|mv<|aJ<|dy rfl<|bj ?_;refine#[p,as,R,L.z,rfl,(gp.same e1).same e2,tr,hn,λH3 e3=>?_];refine bj #[(L.z:Int),rfl,(),(),?_];rw[zau];refine bY (λk O H4=>∃(bs:bp) (M:cp) (v4 v5 v6 v7 v8:Option V),O=[p.e,gd.e,u.e,v4,v5,v6,v7,v8]/\ai H1 H4/\aO H4 u bs M/\u∉bs/\M.z=k/\∀(b:Nat) (q:b9),M[b]?=some q->dR q (rd L R (b:Int)))
  #[[],[],none,none,none,none,none,rfl,e2.trans e3,g2.same e3,by simp,rfl,λi l h=>by simp at h] ?_ ?_
 ext k O H4 hk ⟨bs,M,v4,v5,v6,v7,v8,rfl,e4,g4,Hh,rfl,BI⟩;simp only[zbk];refine dm ?_;let G:(0:Int)<=(M.z:Int):=();let I:(M.z:Int)<(L.z:Int):=();let yE:=tg.yE G I;let Ry:=Oy.same e4;let KC:L[M.z]?=some (XS L (M.z:Int)):=by let:=aD G I;rwa [zau]at this
 let nd:=F.nd _ _ KC;let rl:=cG nd (n:=L.z) λy hy=>#[(F.rg _ _ KC y hy).1,(F.rg _ _ KC y hy).2.1];let TM:ks.z<=5000:=by let e:(ks.map (·.1)).z=(eN L L.z).z:=len_eq Oy.nd (bJ F<|zai _) λd=>(Oy.mem d).trans #[λh=>h.all,λh=>Dt.of h];rw[zaa]at e;let:=tE F<|zai L.z;let:L.z*(L.z-1)<=60*60:=zbU hn ();lia
 refine c4<|Aq Ry BK rfl rfl G I (λz=>by rw[z]at yE;simp at yE) TM λm H5 hm ad e5=>?_;let#[g,Ur,Of]:=cT hm;let tt:=FH ld F G I Ur;let SI:=Ry.same e5;let r0:0<(XS L (M.z:Int)).z:=();ext;refine#[zaS _,λr LW=>?_];let e6:ai H5<|upd H5 r<|.lst []:=ai.upd LW;let o6:upd H5 r (.lst []) r=some (.lst<|(gj L R (M.z:Int) g 0).c):=ah;generalize upd H5 r (.lst [])=H6 at e6 o6 ⊢;ext;refine lh (λO B=>∃(t:Nat) (v8:Option V),t<=(XS L (M.z:Int)).z/\O=[p.e,gd.e,u.e,some<|.int (M.z:Int),m.f,some<|.int<|cy (XS L (M.z:Int))<|g+t,r.e,v8]/\ai H5 B/\B r=some (.lst<|(gj L R (M.z:Int) g t).c))
  (λO B=>100-lenOf (r.e) B) #[0,_,zaS _,by rw[<-Of];rfl,e6,o6] ?_
 ext O B ⟨t,w8,ht,rfl,W,S⟩;let tl:∀t,(gj L R (M.z:Int) g t).z=t:=λt=>by unfold gj;simp
 refine JS ?_;refine oM<|di<|dy rfl<|rV<|bj #[zaS _,λz hz=>?_];let v:ai B<|upd B z<|.lst []:=ai.upd hz;let z8:upd B z (.lst []) z=some (.lst<|([]:b9).c):=ah;generalize upd B z (.lst [])=N at v z8 ⊢;refine#[fH<|gj L R (M.z:Int) g t,fH [],nh<|v _ _ S,nh z8,shaped_ints _,shaped_ints _,?_];rw[zab B!,DD];refine#[_,rfl,?_];by_cases t0:t=0;rw[zaV<|show gj L R (M.z:Int) g t=[]by rw[t0];rfl];ext;refine w_turn ?_;refine c4<|cB<|wW<|dy rfl<|pJ<|aJ<|dy rfl<|aJ<|dy rfl<|bj #[F2,λC HP=>?_];let x:ai N<|upd N C<|.tup [.int (M.z:Int),.int<|cy (XS L (M.z:Int))<|g+t]:=ai.upd HP;let k9:upd N C (.tup [.int (M.z:Int),.int<|cy (XS L (M.z:Int))<|g+t]) C=some (.tup<|(fL ((M.z:Int),cy (XS L (M.z:Int))<|g+t)).map kV):=ah;generalize upd N C (.tup [.int (M.z:Int),.int<|cy (XS L (M.z:Int))<|g+t])=H9 at x k9 ⊢;let X:=((SI.same W).same v).same x;let dt:Dt L ((M.z:Int),cy (XS L (M.z:Int))<|g+t):=#[G,I,eL r0];let#[a,c,hv,ha,yC,xO]:=X.get dt;let ec:=behind F G I (j:=g+t) yC xO;subst ec;refine#[gd,.ref a,rfl,by erw[<-hv,k7.t X.top k9],?_];refine fE (SqT.of ha) rfl<|gK<|dm<|gK<|dm<|oO ?_;let o9:=x _ _<|v _ _ S;refine oP<|Ej<|dy rfl ?_;refine#[.inl #[rfl,_,aK.of o9],?_];refine aJ<|dy rfl<|bj<|eE o9 (by erw[zaa,tl,aI ()]) ?_;let Y:upd H9 r (.lst<|(gj L R (M.z:Int) g t).c++[.int<|lo R ((M.z:Int),cy (XS L (M.z:Int))<|g+t)]) r=some (.lst<|(gj L R (M.z:Int) g<|t+1).c):=by rw[ah];unfold gj;rw[zcm,zaw,zaw];rfl
 refine#[#[t+1,_,(),rfl,ai.fresh ((W.trans v).trans x) LW,Y],?_];rw[jb Y,jb S];simp only[zaa,tl];lia;rw[zaQ<|show ¬gj L R (M.z:Int) g t=[]from λw=>t0<|by rw[<-tl t,w];rfl];ext;refine jK (λuC=>?_)<|λhe=>?_;let ac:t<(XS L (M.z:Int)).z:=by refine zaB λw=>uC ?_;rw[show g+t=g+(XS L (M.z:Int)).z by lia,bP<|zaz _ _,Of]
 refine w_turn ?_;refine c4<|cB<|wW<|dy rfl<|pJ<|aJ<|dy rfl<|aJ<|dy rfl<|bj #[F2,λC HP=>?_];let x:ai N<|upd N C<|.tup [.int (M.z:Int),.int<|cy (XS L (M.z:Int))<|g+t]:=ai.upd HP;let k9:upd N C (.tup [.int (M.z:Int),.int<|cy (XS L (M.z:Int))<|g+t]) C=some (.tup<|(fL ((M.z:Int),cy (XS L (M.z:Int))<|g+t)).map kV):=ah;generalize upd N C (.tup [.int (M.z:Int),.int<|cy (XS L (M.z:Int))<|g+t])=H9 at x k9 ⊢;let X:=((SI.same W).same v).same x;let dt:Dt L ((M.z:Int),cy (XS L (M.z:Int))<|g+t):=#[G,I,eL r0];let#[a,c,hv,ha,yC,xO]:=X.get dt;let ec:=behind F G I (j:=g+t) yC xO;subst ec;refine#[gd,.ref a,rfl,by erw[<-hv,k7.t X.top k9],?_];refine fE (SqT.of ha) rfl<|gK<|dm<|gK<|dm<|oO ?_;let o9:=x _ _<|v _ _ S;refine oP<|Ej<|dy rfl ?_;refine#[.inl #[rfl,_,aK.of o9],?_];refine aJ<|dy rfl<|bj<|eE o9 (by erw[zaa,tl,aI ()]) ?_;let Y:upd H9 r (.lst<|(gj L R (M.z:Int) g t).c++[.int<|lo R ((M.z:Int),cy (XS L (M.z:Int))<|g+t)]) r=some (.lst<|(gj L R (M.z:Int) g<|t+1).c):=by rw[ah];unfold gj;rw[zcm,zaw,zaw];rfl
 refine#[#[t+1,_,(),rfl,ai.fresh ((W.trans v).trans x) LW,Y],?_];rw[jb Y,jb S];simp only[zaa,tl];lia;let te:t=(XS L (M.z:Int)).z:=by refine zaB λw=>?_;exact cY nd (i:=g) (j:=g+t) () ()<|Of.trans he.symm
 rw[te]at S;ext;let L7:=(e5.trans W).trans v;let g8:=g4.same L7;refine#[.inl #[rfl,_,aK.of g8.top],?_];let V7:r≠u:=λw=>by let:=e5 _ _ g4.top;rw[w,this]at LW;cases LW
 let bl:=g4.len;refine aJ<|dy rfl<|bj<|eE g8.top (by erw[zaa,aI ()]) ?_;let g9:=g8.snoc Hh V7<|v _ _ S;refine#[bs++[r],M++[gj L R (M.z:Int) g (XS L (M.z:Int)).z],_,_,_,_,_,rfl,?_,g9,?_,by rw[zay];rfl,λb q U=>?_];refine λb o hb=>?_;rw[aG<|λw=>by rw[w,HR]at hb;cases hb];exact L7 _ _<|e4 _ _ hb;ext w;ext(w|w:zam.mp w);exact Hh w;exact V7 (zaj.mp w).symm;rw[getElem?_append]at U;by_cases w:b<M.z;rw[zad w]at U;exact BI b q U;rw[zab w]at U;let il:=(zac.mp U).1;let:b=M.z:=by simp at il;lia
 subst this;simp at U;subst U;exact tt;ext O H4 ⟨bs,M,v4,v5,v6,v7,v8,rfl,e4,g4,Hh,ml,BI⟩;ext;exact q u bs M H4 (e1.trans e4) g4<|tg.turned ld ml BI
theorem dS:aS ["_law_head", "_law_rings_here", "_law_k"] ["_law_head"]<|aH jy:=by walk_at "n"
theorem uq(D:Def K mg "_law_rings" jy ["_law_head"])(T:Txt K mg Z)(Ap:W! "_law_base" 1 ["_law_number"] Cy)(sZ:W! "_law_stacked" 2 ["_law_rings_here", "_law_number", "_law_fresh"] rA)(Ao:W! "_law_tied" 1 ["_law_rings_here", "_law_number"] y6)(cF:W! "_law_places" 1 ["_law_rings_here"] iZ)(kQ:W! "_law_turned_inside" 2 ["_law_rings_here"] u6):W! "_law_rings" 3 ["_law_head"] u9:=by
 exists D.dZ dS,dQ,p;let#[h,r,rfl,_]:=h;rfl;let#[hd,r,rfl,hh,fl,fr,q]:=h;let c:∀(i:Nat) (W:Hp),i<6->ai H W->∃x:Int,j6 r.c (i:Int)=x.f/\aK K W hd r.c/\0<=x/\x<10 ^ 61:=λi W hi e=>by
  let il:i<r.z:=();let:=fr r[i]<|zbL il;exact#[r[i],cz (by rw[zao,zaf il];rfl),aK.of<|e _ _ hh,this.1,()]
 let M:∀{x:Int},0<=x->x<10 ^ 61->0<=x / 3/\x / 3<10 ^ 61:=λh0 h1=>#[zey h0 B!,zeW (zej _ h0) h1];refine#[_,(ae (aw (i:=1) dS.nd rfl A!<|az Ap p aZ<|aa (aP aB (pv 0) aj C?) af)<|ae (bN zaE rfl (bw rfl T.range<|aa (aA bO (aP aB (pv 0) aj C?) aj) af) (aC (i:=2) dS.nd rfl A!)<|ao<|cN (aQ eG (aA bO (aP aB (pv 0) (aA bD aj<|pv 2) C?) aj) aj<|aV _) (ao<|aw (i:=1) dS.nd rfl A!<|az Ao p aZ<|aa (pv 1)<|aa (aA ie (aP aB (pv 0) (aA bD aj<|pv 2) C?) aj) af)<|ao<|cN (aQ lV (az cF p aZ<|aa (pv 1) af) aj<|aV _) (ao<|aw (i:=1) dS.nd rfl A!<|az sZ p aZ<|aa (pv 1)<|aa (aA ie (aP aB (pv 0) (aA bD aj<|pv 2) C?) aj)<|aa (az cF p aZ<|aa (pv 1) af) af) bA)<|ae (cN (PW.pt<|pw_and (aQ eG (aA bO (aP aB (pv 0) aj C?) aj) aj<|aV _)<|pw_and1<|aQ lV (aE aN C! T.len bh<|aa (pv 1) af) aj<|aV _) (ao<|aw (i:=1) dS.nd rfl A!<|az kQ p aZ<|aa (pv 1) af) bA)<|ao<|aU<|pv 1),?_]
 dsimp only[eg];ext;let#[x0,a0,s0,b0,c0]:=c 0 H ()<|λ_ _ e=>e;refine aR s0 a0 ?_;ext;refine#[x0,rfl,b0,c0,λt bs R m H1 N g1 m8 X=>?_];refine dm ?_;refine c4<|cM ?_;let#[S,a1,U,b1,c1]:=c 1 H1 () N;refine aJ<|di<|di<|dy rfl<|r_c<|aR U a1<|r_c<|zv B!<|bj ?_;let z0:=zbi S (show(4:Int)≠0 by decide);let z1:=zba S (show(0:Int)<4 by decide);refine#[S%4,rfl,(),(),?_];refine bY (λk O l=>∃(t:Addr) (bs:bp) (R:cp) (n:Nat) (v:Option V),O=[hd.e,t.e,v]/\ai H l/\aO l t bs R/\n<=8/\TR R n) #[t,bs,R,m,none,rfl,N,g1,m8,X] ?_ ?_;clear g1 X m8 N U a1;ext k O l hk ⟨t,bs,R,n,v,rfl,d,b,F,j⟩;simp only[zbk];let#[x,a,I,u,G]:=c (2+k) l () d;rw[show((2+k:Nat):Int)=2+(k:Int)by lia]at a;ext;refine aR I a ?_;ext;refine if2 (λz=>?_)<|λz=>?_;ext;refine aR I a ?_;ext;refine#[t,bs,R,n,x / 3,rfl,b,j,(),(M u G).1,(M u G).2,λt' C B L g Y OH=>?_];ext;exact#[t',C,B,n,_,rfl,d.trans g,Y,F,OH];ext;refine#[t,bs,R,n,rfl,b,j,(),λL g=>?_];ext;refine if2 (λy=>?_)<|λy=>?_;let#[_,_,s3,_,_]:=c (2+k) L ()<|d.trans g;ext;refine aR s3 a ?_;ext;refine#[t,bs,R,n,rfl,b.same g,j,(),λH4 e4=>?_];ext;refine#[t,bs,R,n,x / 3,rfl,(b.same g).same e4,j,(),(M u G).1,(M u G).2,λt' C B H5 e5 g5 XR=>?_];ext;exact#[t',C,B,n+1,_,rfl,((d.trans g).trans e4).trans e5,g5,(),XR];ext;exact#[t,bs,R,n,_,rfl,d.trans g,b.same g,F,j];clear g1 X m8 N U a1;ext O l ⟨t,bs,R,n,v,rfl,d,b,F,j⟩;let#[x,a,I,u,G]:=c 5 l () d;ext;refine aR I a ?_;ext;by_cases z:x%3=1;rw[zaV z];ext;refine#[_,_,rfl,.inl #[_,aK.of b.top,rfl],?_];rw[zaa,b.len];ext;refine if2 (λy=>?_)<|λy=>?_;ext;refine#[t,bs,R,n,rfl,b,j,(),λt' C B L g Y OH=>?_];ext;exact q t' C B R.z L (d.trans g) Y () OH;ext;exact q t bs R n l d b F j;rw[zaQ z];ext;exact q t bs R n l d b F j
theorem cL:aS ["_law_rings_here", "_law_number", "_law_corners_here", "_law_found", "_law_place", "_law_first", "_law_order", "_law_turn"] ["_law_rings_here", "_law_number"]<|aH iQ:=by walk_at "n"
theorem su(D:Def K mg "_law_orders" iQ ["_law_rings_here", "_law_number"])(T:Txt K mg Z)(cX:W! "_law_digit" 1 ["_law_number", "_law_base_here", "_law_place"] j9)(cF:W! "_law_places" 1 ["_law_rings_here"] iZ)(iu:W! "_law_corners" 1 ["_law_rings_here"] j8):W! "_law_orders" 2 ["_law_rings_here", "_law_number"] rC:=by
 exists D.dZ cL,dQ,hr;let#[p,as,R,n,k,rfl,_]:=h;rfl;let#[p,as,R,n,num,rfl,gp,tr,hn,k0,k1,q]:=h;let#[L,tg,ld,rfl]:=id tr;let W:=tg.map;refine#[_,(ae (aw (i:=2) cL.nd rfl A!<|az iu hr aZ<|aa (pv 0) af)<|ae (aw (i:=3) cL.nd rfl A!<|bH af)<|ae (bN zaE rfl (bw rfl T.range<|aa (az cF hr aZ<|aa (pv 0) af) af) (aC (i:=4) cL.nd rfl A!)<|ae (CT<|aw (i:=5) cL.nd rfl A!<|aE (pB rfl) C! T.min mP<|aa (dG (tg:=["_law_one", "_law_other"]) (fr:=[("_law_place",4)]) D! rfl (zE<|pv 2) (λ_ _ _ _ _=>(nD (K:=K) rfl (n:=2) rfl<|bC (aC (i:=0) (show [("_law_one":Str),("_law_other":Str),("_law_place":Str)].Nodup by decide +kernel) rfl A!)<|bC (aC (i:=1) (show [("_law_one":Str),("_law_other":Str),("_law_place":Str)].Nodup by decide +kernel) rfl A!) fh)) (λ_ _ _ _ _=>(kz<|aQ eG (pv 0) (pv 2)<|aV _))<|λ_ _ _ _ _=>(pv 1)) af)<|ae (aw (i:=6) cL.nd rfl A!<|bH<|aa (pv 5) af)<|ae (i7 zaE (aQ jS (aP oW (qA (lY hr) (pv 2) (dF<|aa (pv 4)<|aa (aP aB (pv 6) (zG qW aj) C?) af) C?) aj C?) (pv 5)<|aV _)<|ao<|eQ<|iG zbc zbv zbw dr (pv 6)<|aa (aP oW (qA (lY hr) (pv 2) (dF<|aa (pv 4)<|aa (aP aB (pv 6) (zG qW aj) C?) af) C?) aj C?) af)<|ae (aw (i:=7) cL.nd rfl A!<|aA bO (az cX hr aZ<|aa (pv 1)<|aa aj<|aa (pv 4) af)<|aE aN C! T.len bh<|aa (pv 6) af)<|ao<|eQ<|iG zbc zbv zbw dr (pv 3)<|aa (aA dY (bG cg (pv 6) (bX<|pv 7) bR)<|bG cg (pv 6) bR<|bX<|pv 7) af)<|ao<|aU<|pv 3),?_]
 dsimp only[eg];ext;refine#[p,as,L,R,rfl,gp,tg,ld,hn,λgd ks H1 e1 BK Oy=>?_];ext;refine#[zaS _,λB HR=>?_];let e2:ai H1<|upd H1 B<|.lst []:=ai.upd HR;let g2:aO (upd H1 B<|.lst []) B [] []:=#[ah,rfl,λi a l h=>by simp at h];generalize upd H1 B (.lst [])=H2 at e2 g2 ⊢;ext;refine cM ?_;refine aJ<|mv<|aJ<|dy rfl<|bj ?_;refine#[p,as,R,L.z,rfl,(gp.same e1).same e2,tr,hn,λH3 e3=>?_];refine bj #[(L.z:Int),rfl,(),(),?_];rw[zau];refine bY (λk N H4=>∃(bs:bp) (M:cp) (v4 v5 v6 v7:Option V),N=[p.e,num.f,gd.e,B.e,v4,v5,v6,v7]/\ai H1 H4/\aO H4 B bs M/\B∉bs/\M.z=k/\(∀(i:Nat) (l m:b9),M[i]?=some l->L[i]?=some m->dR l m)/\(B::bs).Nodup/\∀b∈B::bs,H b=none)
  #[[],[],none,none,none,none,rfl,e2.trans e3,g2.same e3,by simp,rfl,(λi l m h=>by simp at h),by simp,λb X=>by erw[zaj.mp X,e1.free HR]] ?_ ?_
 ext k N H4 hk ⟨bs,M,v4,v5,v6,v7,rfl,e4,U,Hh,rfl,BI,Tv,UM⟩;simp only[zbk];refine dm ?_;let p0:(0:Int)<=(M.z:Int):=();let p1:(M.z:Int)<(L.z:Int):=();let yE:=tg.yE p0 p1;let Ry:=Oy.same e4;let KC:L[M.z]?=some (XS L (M.z:Int)):=by let:=aD p0 p1;rwa [zau]at this
 let nd:=W.nd _ _ KC;let rl:=cG nd (n:=L.z) λy hy=>#[(W.rg _ _ KC y hy).1,(W.rg _ _ KC y hy).2.1];let TM:ks.z<=5000:=by let e:(ks.map (·.1)).z=(eN L L.z).z:=len_eq Oy.nd (bJ W<|zai _) λd=>(Oy.mem d).trans #[λh=>h.all,λh=>Dt.of h];rw[zaa]at e;let:=tE W<|zai L.z;let:L.z*(L.z-1)<=60*60:=zbU hn ();lia
 refine c4<|Aq Ry BK rfl rfl p0 p1 (λz=>by rw[z]at yE;simp at yE) TM λm H5 hm ac e5=>?_;generalize bQ:XS L (M.z:Int)=g at yE nd rl hm ac KC;let#[r,Ur,Of]:=cT hm;let SI:=Ry.same e5;let r0:0<g.z:=();ext;refine#[by rw[zat];simp,λC LW=>?_];let e6:ai H5<|upd H5 C<|.lst [.int m]:=ai.upd LW;let o6:upd H5 C (.lst [.int m]) C=some (.lst<|(cD g r<|0+1).c):=by rw[ah,<-Of];rfl
 generalize upd H5 C (.lst [.int m])=H6 at e6 o6 ⊢;let tell:∀(t:Nat) (v:Hp) (Qk:VK),ai H5 v->v C=some (.lst<|(cD g r<|t+1).c)->(∀F,ai v F->Qk (.int<|cy g<|r+t+1) F)->Cm (JX K) (FQ (eX 2)<|My<|j7 (eX 4)<|j7 (Cm (JY K) (eX 6)<|SY (rU λi=>V.int<|-i)<|tC<|V.int 1) yN) (tC<|V.int 0) [p.e,num.f,gd.e,B.e,some<|.int (M.z:Int),m.f,C.e,v7] v Qk:=λt v Qk Y o7 qk=>by
  refine di<|wW<|dy rfl<|pJ<|aJ<|dy rfl<|aJ<|di<|dy rfl<|Gr<|r_c<|Gu ?_;refine aR (aK.of o7) (show j6 ((cD g r<|t+1).c) (-1)=some (.int<|cy g<|r+t)from OB (n:=t) (bu _ _ _)<|oz ()) ?_;refine bj #[F2,λkb HP=>?_];let I:ai v<|upd v kb<|.tup [.int (M.z:Int),.int<|cy g<|r+t]:=ai.upd HP;let k8:upd v kb (.tup [.int (M.z:Int),.int<|cy g<|r+t]) kb=some (.tup<|(fL ((M.z:Int),cy g<|r+t)).map kV):=ah;generalize upd v kb (.tup [.int (M.z:Int),.int<|cy g<|r+t])=F at I k8 ⊢;let Xx:=(SI.same Y).same I;let dt:Dt L ((M.z:Int),cy g<|r+t):=#[p0,p1,by erw[bQ,eL r0]];let#[a,c,hv,ha,yC,xO]:=Xx.get dt;let ec:c=cy g (r+t+1):=by let:=behind W p0 p1 (j:=r+t) yC (by erw[bQ,xO]);rwa [bQ]at this
  refine#[gd,.ref a,rfl,by erw[<-hv,k7.t Xx.top k8],r_c<|CL (SqT.of ha) rfl ?_];erw[ec,qk F I]
 ext;refine lh (λN v=>∃t:Nat,t<g.z/\N=[p.e,num.f,gd.e,B.e,some<|.int (M.z:Int),m.f,C.e,v7]/\ai H5 v/\v C=some (.lst<|(cD g r<|t+1).c))
  (λN v=>100-lenOf (C.e) v) #[0,r0,rfl,e6,o6] ?_
 ext N v ⟨t,ht,rfl,Y,o7⟩;refine oM<|di<|tell t v _ Y o7 λF I=>?_;ext;let O:=I _ _ o7;refine jK (λuC=>?_)<|λhe=>?_;let tl:t+1<g.z:=by refine zaB λz=>uC ?_;rw[show r+t+1=r+g.z by lia,bP<|zaz _ _,Of]
 refine w_turn ?_;refine oP<|Ej<|dy rfl #[.inl #[rfl,_,aK.of O],?_];refine aJ<|tell t F _ (Y.trans I) O λH9 G=>?_;let o9:=G _ _ O;refine bj<|eE o9 (by erw[zaa,bu,aI ()]) ?_;let LL:upd H9 C (.lst<|(cD g r<|t+1).c++[.int<|cy g<|r+t+1]) C=some (.lst<|(cD g r<|t+1+1).c):=by rw[ah,qT (m:=t+1),zaw];rfl
 refine#[#[t+1,tl,rfl,ai.fresh ((Y.trans I).trans G) LW,LL],?_];rw[jb LL,jb o7];simp only[zaa,bu];lia;let tl:t+1=g.z:=by refine zaB λz=>?_;exact cY nd (i:=r) (j:=r+t+1) () ()<|Of.trans he.symm
 rw[tl,<-vW ()]at O;let ad:(c5 g r).z=g.z:=c8 ();let F9:(0:Int)<((c5 g r).z:Int):=();ext;refine#[num,7,(M.z:Int),rfl,k0,k1,by decide,by decide,p0,(),λd d0 d1=>?_];ext;refine#[_,_,rfl,.inl #[_,aK.of O,rfl],?_];rw[zaa];ext;let t0:=zbi d (show((c5 g r).z:Int)≠0 by lia);let t1:=zba d F9;let#[u,Wx]:=zaD t0;rw[Wx]at t1 ⊢;let L7:=(e5.trans Y).trans I;let g8:=U.same L7;refine#[.inl #[rfl,_,aK.of g8.top],?_];refine aJ<|di<|eP<|dy rfl #[_,rfl,(u:Int),rfl,C,_,rfl,aK.of O,λx hx=>?_];rw[kU ()];let G:ai F<|upd F x<|.lst<|((c5 g r).drop u).c:=ai.upd hx;let x9:upd F x (.lst<|((c5 g r).drop u).c) x=some (.lst<|((c5 g r).drop u).c):=ah;generalize upd F x (.lst<|((c5 g r).drop u).c)=H9 at G x9 ⊢;refine eP<|dy rfl #[_,rfl,(u:Int),rfl,C,_,rfl,aK.of<|G _ _ O,λy hy=>?_];rw[ji ()];let A3:ai H9<|upd H9 y<|.lst<|((c5 g r).take u).c:=ai.upd hy;let Vz:upd H9 y (.lst<|((c5 g r).take u).c) y=some (.lst<|((c5 g r).take u).c):=ah;generalize upd H9 y (.lst<|((c5 g r).take u).c)=D4 at A3 Vz ⊢;refine#[x,y,_,_,rfl,rfl,A3 _ _ x9,Vz,by rw[zaa,zaa,zbF,zbb,zat];lia,λc hc=>?_];let Rk:ai D4<|upd D4 c<|.lst<|((c5 g r).drop u).c++((c5 g r).take u).c:=ai.upd hc;let Xz:upd D4 c (.lst<|((c5 g r).drop u).c++((c5 g r).take u).c) c=some (.lst<|(c5 (c5 g r) u).c):=by rw[ah];unfold c5;rw[zaw]
 generalize upd D4 c (.lst<|((c5 g r).drop u).c++((c5 g r).take u).c)=Lk at Rk Xz ⊢;let Ii:=L7.trans<|(G.trans A3).trans Rk;let Jh:=U.same Ii;let Rv:c≠B:=λz=>by let:=(L7.trans<|G.trans A3) _ _ U.top;rw[z,this]at hc;cases hc
 let bl:=U.len;refine bj<|eE Jh.top (by erw[zaa,aI ()]) ?_;let O2:=Jh.snoc Hh Rv Xz;refine#[bs++[c],M++[c5 (c5 g r) u],_,_,_,_,rfl,?_,O2,?_,by rw[zay];rfl,(λi l m' S h2=>?_),?_,λb X=>?_];refine λb o X=>?_;rw[aG<|λz=>by rw[z,HR]at X;cases X];exact Ii _ _<|e4 _ _ X;ext z;ext(z|z:zam.mp z);exact Hh z;exact Rv (zaj.mp z).symm;rw[getElem?_append]at S;by_cases z:i<M.z;rw[zad z]at S;exact BI i l m' S h2;rw[zab z]at S;let il:=(zac.mp S).1;let:i=M.z:=by simp at il;lia
 subst this;rw[KC]at h2;cases h2;simp at S;subst S;exact dR.trans (.inr #[u,(),rfl])<|.inr #[r,Ur,rfl];let#[n1,n2]:=zar.mp Tv;let nc:c∉bs:=λz=>by let:=(U.same<|L7.trans<|G.trans A3).fQ hc;exact this<|zag _ z
 refine zar.mpr #[λz=>?_,gu.mpr #[nc,n2]];ext(z|z:zam.mp z);exact n1 z;exact Rv (zaj.mp z).symm;ext(z|z:zas.mp X);rw[z];exact e1.free HR;ext(z|z:zam.mp z);exact UM b<|zag _ z;rw[zaj.mp z];exact(e1.trans<|e4.trans<|L7.trans<|G.trans A3).free hc;ext N H4 ⟨bs,M,v4,v5,v6,v7,rfl,e4,U,Hh,ml,BI,Tv,UM⟩;ext;let rm:cO M L:=#[ml,BI];exact q B bs M H4 (e1.trans e4) U Tv UM #[rm.cq tg.cq,rm.pW W tg.pW,rm.Fi tg.Fi,by erw[ml,tg.four]] ml
theorem fb:aS ["_law_rings_here", "_law_number", "_law_names", "_law_k", "_law_j", "_law_kept"] ["_law_rings_here", "_law_number"]<|aH jz:=by walk_at "n"
theorem ur(D:Def K mg "_law_named" jz ["_law_rings_here", "_law_number"])(T:Txt K mg Z)(cX:W! "_law_digit" 1 ["_law_number", "_law_base_here", "_law_place"] j9)(cF:W! "_law_places" 1 ["_law_rings_here"] iZ):W! "_law_named" 2 ["_law_rings_here", "_law_number"] y4:=by
 exists D.dZ fb,dQ,hr;let#[p,as,R,n,k,rfl,_]:=h;rfl;let#[p,as,R,n,num,rfl,Y,tr,hn,k0,k1,q]:=h;let four:=tr.four;refine#[_,(ae (aw (i:=2) fb.nd rfl A!<|gM rfl T.range T.list<|az cF hr aZ<|aa (pv 0) af)<|ae (bN zaE rfl (El rfl T.range<|aa (aA eF (aE aN C! T.len bh<|aa (pv 2) af) aj)<|aa aj<|aa (zG qW aj) af) (aC (i:=3) fb.nd rfl A!)<|ae (aw (i:=4) fb.nd rfl A!<|aA bO (az cX hr aZ<|aa (pv 1)<|aa aj<|aa (pv 3) af)<|aA bD (pv 3) aj)<|ae (aw (i:=5) fb.nd rfl A!<|aP aB (pv 2) (pv 3) C?)<|ae (fV (aP aB (pv 2) (pv 4) C?)<|h9 (pv 2) (pv 3) set_list)<|ao<|fV (pv 5)<|h9 (pv 2) (pv 4) set_list)<|ao<|aU<|dG (tg:=["_law_ring"]) (fr:=[("_law_names",2)]) D! rfl (bL<|pv 0) (λ_ _ _ _ _=>(aC (i:=0) (show [("_law_ring":Str),("_law_names":Str)].Nodup by decide +kernel) rfl A!)) (λ_ _ _ _ _=>bB)<|by ext _ _ _ _ _;exact dG (tg:=["_law_place"]) (fr:=[("_law_names",1)]) D! rfl (by exact(GU (K:=K) rfl<|pv 0)) (by exact(λ_ _ _ _ _=>(aC (i:=0) (show [("_law_place":Str),("_law_names":Str)].Nodup by decide +kernel) rfl A!))) (by exact(λ_ _ _ _ _=>bB))<|by exact(λ_ _ _ _ _=>(aP (nQ (K:=K) rfl) (pv 1) (pv 0) C?))),?_]
 dsimp only[eg];refine c4<|cB<|oN<|mv<|aJ<|dy rfl<|bj #[p,as,R,n,rfl,Y,tr,hn,λF e1=>#[n,rfl,(),λg WH=>?_]];let e2:ai F<|upd F g<|.lst<|(fR n).c:=ai.upd WH;let n2:upd F g (.lst<|(fR n).c) g=some (.lst<|(fR n).c):=ah;generalize upd F g (.lst<|(fR n).c)=H2 at e2 n2 ⊢;let Wi:=e1.free WH;let mQ:=e1.trans e2;refine dm ?_;dsimp only;refine c4<|cM ?_;refine aJ<|di<|i5<|aJ<|dy rfl<|bj #[_,_,rfl,.inl #[_,aK.of n2,rfl],?_];rw[zaa,gg];refine r_c<|gw<|aJ<|r_c<|aJ<|Gr<|r_c<|Gu<|bj #[(n:Int)-1,0,rfl,#[(),(),(),()],?_];refine BQ (λt O u=>∃(l:b9) (S W U:Option V),O=[p.e,num.f,g.e,S,W,U]/\ai H u/\u g=some (.lst l.c)/\tO n l)
  #[fR n,none,none,none,rfl,mQ,n2,#[gg n,mR n,λx z=>ig.mp z]] ?_ ?_
 ext t O u ht ⟨l,S,W,U,rfl,G,n3,nm⟩;obtain⟨k,hk,kn⟩:∃k:Nat,(n:Int)-1-(t:Int)=(k:Int)/\k<n:=#[((n:Int)-1-(t:Int)).toNat,(),()];rw[hk];let ll:=nm.len;let kp:(0:Int)<(k:Int)+1:=();refine dm ?_;dsimp only;refine c4<|cB<|di<|mv<|aJ<|dy rfl<|aJ<|r_c<|aJ<|dy rfl<|bj #[num,11,(k:Int),rfl,k0,k1,by decide,by decide,(),(),λd d0 d1=>?_];refine di<|dy rfl<|r_c<|gw<|zv kp<|dm ?_;let j0:=zbi d (show(k:Int)+1≠0 by lia);let j1:=zba d kp;let#[j,hj]:=zaD j0;rw[hj]at j1 ⊢;let jl:j<l.z:=();let kl:k<l.z:=();refine c4<|cB<|di<|dy rfl<|dy rfl<|aR (aK.of n3) (show j6 l.c ((k:Nat):Int)=some (.int l[k])from cz<|by rw[zao,zaf kl];rfl)<|dm ?_;refine c4<|cB<|di<|dy rfl<|dy rfl<|aR (aK.of n3) (show j6 l.c ((j:Nat):Int)=some (.int l[j])from cz<|by rw[zao,zaf jl];rfl) ?_;refine h8<|dy rfl<|dy rfl #[g,l.c,(k:Int),k,rfl,rfl,n3,by rw[zaa,jJ () (),zau],?_];rw[<-zeG];let B:ai H<|upd u g<|.lst<|(l.set k l[j]).c:=ai.fresh G Wi;let n4:upd u g (.lst<|(l.set k l[j]).c) g=some (.lst<|(l.set k l[j]).c):=ah;generalize upd u g (.lst<|(l.set k l[j]).c)=H4 at B n4 ⊢;refine cB<|dy rfl<|h8<|dy rfl<|dy rfl #[g,(l.set k l[j]).c,(j:Int),j,rfl,rfl,n4,by rw[zaa,zbN,jJ () (),zau],?_];rw[<-zeG];exact#[_,_,_,_,rfl,ai.fresh B Wi,ah,Hi nm jl kl];ext O u ⟨l,S,W,U,rfl,G,n3,nm⟩;let A2:=Y.same G;dsimp only;refine ni<|cA ?_;refine#[_,rfl,p,rfl,#[_,aK.of A2.top],λM bq=>?_];refine Ga (K:=K) (rest:=[g.e]) (List.map<|gF l) A2 (λb r H' Q' uB e' hb q'=>?_) bq (by let:=tr.many;lia) λcs H4 B g4 zO yD=>?_;let n':=e' _ _ n3;let#[r3,rn,VQ,S4]:=tr.ring uB;refine cA ?_;refine#[_,rfl,b,rfl,#[_,aK.of hb],λc X=>?_];refine cU (K:=K) (a:=b) (xs:=r.c) (λi m ys y=>∃v:Option V,m=[v,g.e]/\ys=((r.take i).map<|gF l).c/\ai H' y/\y c=some (.lst ys))
  #[none,rfl,rfl,ai.upd X,ah] (λi m ys y _ ⟨_,_,_,e,_⟩=>aK.of<|e _ _ hb) ?_ ?_
 ext i x m ys y z I ⟨v,rfl,rfl,C,L⟩;rw[zaa]at I;obtain rfl:x=V.int r[i]:=by rw[zao,zaf I]at z;exact(zaq z).symm
 let N:=S4 r[i]<|zbL _;let NK:(r[i]).toNat<l.z:=by rw[nm.len];lia
 refine dm<|mq<|LN<|di<|dy rfl<|dy rfl<|aR (aK.of<|C _ _ n') (show j6 l.c r[i]=some (.int<|gF l r[i])from ?_) ?_;let:=cz (xs:=l.c) (j:=(r[i]).toNat) (v:=V.int<|gF l r[i]) (by rw[zao,qC N.1<|by erw[nm.len,N.2]];rfl);rwa [zbE N.1]at this;refine#[L,by erw[zaa,zaa,zbb,aI ()],cZ (by erw[zaa,I]) #[_,rfl,?_,ai.fresh C X,ah]];rw[take_snoc<|zaf I,zaw,zaw];rfl;ext m ys y ⟨v,rfl,rfl,C,L⟩;rw[zaa,zbp]at L;exact q' c y C X L;exact q M cs _ H4 (G.trans B) g4<|tr.named nm
theorem map_none(h:∀l∈L,l=[]):av L:=
 #[λi l e=>(by erw[h l<|zah e,zeH]),λi l e x a=>absurd ((h l<|zah e)▸a) A?,λi l e x a=>absurd ((h l<|zah e)▸a) A?]
theorem gD:aS ["_law_script", "_law_head", "_law_wheel_here", "_law_names", "_law_orders_here", "_law_handed", "_law_found", "_law_some", "_law_one", "_law_other"] ["_law_script"]<|aH rQ:=by walk_at "n"
theorem Nb(F:OF K "law" "law" rQ fa fd)(T:Txt K mg Z)(O:W! "trees" 5 ["orders"] yW)(Am:W! "other_map" 4 ["orders"] yZ)(sX:W! "untied" 2 ["orders", "one", "other"] oD)(KI:W! "hangs" 2 ["orders"] zd)(BN:W! "ties" 1 ["orders"] wo)(tf:W! "_law_numbers" 1 ["_law_script", "_law_many"]<|rB K)(xQ:W! "_law_whole" 1 ["_law_found"] yU)(xS:W! "_law_rings" 3 ["_law_head"] u9)(uF:W! "_law_orders" 2 ["_law_rings_here", "_law_number"] rC)(xT:W! "_law_named" 2 ["_law_rings_here", "_law_number"] y4)(sY:W! "_law_without" 3 ["_law_orders_here", "_law_number"] rq)(uG:W! "_law_beside" 1 ["_law_orders_here"] vb)(iU:W! "_law_counts" 1 ["_law_orders_here", "_law_names", "_law_many"] oE)(fG:W! "_law_determinant" 1 ["_law_rows"] wu)(jY:W! "_law_drawn_together" 2 ["_law_orders_here", "_law_one", "_law_other"] pH)(xR:W! "_law_wheel" 1 ["_law_many"] yV):uT P w K mg base (bV P w) 12 fa fd ["_law_script"]<|wA K:=by
 refine F.okN gD (λvs H Q E h=>?_)<|λdQ A o s H vs Q E d h=>?_;let#[a,ns,rfl,_]:=h;rfl;let#[a,ns,rfl,hS,hlen,kq]:=h;refine#[_,(ae (aw (i:=1) gD.nd rfl A!<|az tf d aZ<|aa (pv 0)<|aa aj af)<|ae (cN (PW.pt<|pw_or (aQ jS (az O d aZ<|aa (bH<|aa (bH af) af) af) aj<|aV _)<|pw_or1<|aQ jS (az O d aZ<|aa (bH<|aa (bH af)<|aa (bH af) af) af) aj<|aV _) (ao<|aU vk) bA)<|ae (cN (aQ eG (aA bO (aP aB (pv 1) aj C?) aj) aj<|aV _) (ae (aw (i:=2) gD.nd rfl A!<|az xR d aZ<|aa (aA bD aj<|aA bO (aP aB (pv 1) aj C?) aj) af)<|ae (aw (i:=3) gD.nd rfl A!<|gM rfl T.range T.list<|aE aN C! T.len bh<|aa (pv 2) af)<|ao<|aU<|jB eG (az O d aZ<|aa (pv 2) af) (az fG d aZ<|aa (az iU d aZ<|aa (pv 2)<|aa (pv 3)<|aa (aE aN C! T.len bh<|aa (pv 2) af) af) af)<|aV _) bA)<|ae (aw (i:=4) gD.nd rfl A!<|az uF d aZ<|aa (az xT d aZ<|aa (az xS d aZ<|aa (pv 1) af)<|aa (aP aB (pv 1) aj C?) af)<|aa (aP aB (pv 1) aj C?) af)<|ae (cN (PW.pt<|pw_and (aQ eG (aA bO (aP aB (pv 1) aj C?) aj) aj<|aV _)<|pw_and1<|aQ jS (az O d aZ<|aa (pv 4) af) (az O d aZ<|aa (az Am d aZ<|aa (pv 4) af) af)<|aV _) (ao<|aU vk) bA)<|ae (cN (aQ eG (aA bO (aP aB (pv 1) aj C?) aj) aj<|aV _) (ao<|aw (i:=4) gD.nd rfl A!<|az sY d aZ<|aa (pv 4)<|aa (aP aB (pv 1) aj C?) af) bA)<|ae (cN (aQ eG (aA bO (aP aB (pv 1) aj C?) aj) aj<|aV _) (ao<|aw (i:=4) gD.nd rfl A!<|az uG d aZ<|aa (pv 4) af) bA)<|ae (eC (i:=5) gD.nd rfl A! (tg:=["_law_order"]) (fr:=[]) D! rfl (bL<|pv 4) (λ_ _ _ _ _=>(aC (i:=0) (show [("_law_order":Str)].Nodup by decide +kernel) rfl A!)) (λ_ _ _ _ _=>bB)<|λ_ _ _ _ _=>(i8 (iW (K:=K) rfl) C! T.list yg<|aa (pv 0) af))<|ae (aw (i:=6) gD.nd rfl A!<|az O d aZ<|aa (pv 5) af)<|ae (cN (PW.pt<|pw_or (MY<|MX<|az xQ d aZ<|aa (pv 6) af)<|pw_or (aQ (G6 d.units) (pv 5) (pv 4)<|aV _)<|pw_or1<|aQ jS (jB eG (pv 6) aj<|aV _) (GX<|az KI d aZ<|aa (pv 4) af)<|aV _) (ao<|aU vk) bA)<|ae (aw (i:=7) gD.nd rfl A!<|az BN d aZ<|aa (pv 4) af)<|ae (cN (aQ (G7 d.units) (pv 7) (bH af)<|aV _) (ao<|aU<|P5 (jB C4 (aE aN C! T.len bh<|aa (pv 4) af) aj<|aV _)<|GW<|jB eG (pv 6) aj<|aV _) bA)<|ae (fV (aP aB (pv 7) (aA bO (aP aB (pv 1) aj C?)<|aE aN C! T.len bh<|aa (pv 7) af) C?)<|kE (n:=2) rfl<|bC (aC (i:=8) gD.nd rfl A!)<|bC (aC (i:=9) gD.nd rfl A!) fh)<|ao<|aU<|jB eG (pv 6) (aA bD (az O d aZ<|aa (az sX d aZ<|aa (pv 4)<|aa (pv 8)<|aa (pv 9) af) af)<|az jY d aZ<|aa (pv 4)<|aa (pv 8)<|aa (pv 9) af)<|aV _),?_]
 dsimp only[eg];ext;refine#[a,ns,11,rfl,hS,hlen,by decide,by decide,λhd Y H1 e1 ar h1 fl fr=>?_];let k:∀(i:Nat) (r:Hp),i<11->ai H1 r->∃x:Int,j6 Y.c (i:Int)=x.f/\aK K r hd Y.c/\0<=x/\x<10 ^ 60+7:=λi r hi e=>by
  let il:i<Y.z:=();let:=fr Y[i]<|zbL il;exact#[Y[i],cz (by rw[zao,zaf il];rfl),aK.of<|e _ _ h1,this.1,this.2]
 ext;refine#[by rw[zat];simp,λb1 N5=>?_];generalize q1:upd H1 b1 _=H2;let#[e2,h2]:=lay N5 q1;ext;refine#[by rw[zat];simp,λb2 Fs=>?_];generalize q2:upd H2 b2 _=H3;let#[e3,h3]:=lay Fs q2;ext;refine#[b2,[b1],[[]],rfl,#[h3,rfl,λi x l U hl=>?_],map_none A?,by decide,by decide,λH4 e4=>?_]
 match i with
 | 0=>cases U;cases hl;exact e3 _ _ h2
 | i+1=>cases U
 ext;refine jK (λz=>absurd rfl z)<|λ_=>?_;ext;refine#[by rw[zat];simp,λb3 Sx=>?_];generalize q3:upd H4 b3 _=H5;let#[e5,h5]:=lay Sx q3;ext;refine#[by rw[zat];simp,λW Sw=>?_];generalize q4:upd H5 W _=H6;let#[e6,h6]:=lay Sw q4;ext;ext b5 WV;generalize q5:upd H6 b5 _=H7;let#[e7,h7]:=lay WV q5;ext;refine#[b5,[b3,W],[[],[]],rfl,#[h7,rfl,λi x l U hl=>?_],map_none A?,by decide,by decide,λH8 e8=>?_]
 match i with
 | 0=>cases U;cases hl;exact e7 _ _<|e6 _ _ h5
 | 1=>cases U;cases hl;exact e7 _ _ h6
 | i+2=>cases U
 let D:=(((e2.trans e3).trans e4).trans<|(e5.trans e6).trans e7).trans e8;clear e2 e3 e4 e5 e6 e7 e8 h2 h3 h5 h6 h7 q1 q2 q3 q4 q5 N5 Fs Sx Sw WV;ext;refine jK (λz=>absurd B? z)<|λ_=>?_;ext;let#[x8,a8,C,p8,q8]:=k 8 H8 B! D;let#[S,a9,s9,p9,q9]:=k 9 H8 B! D;refine aR C a8 ?_;ext;refine if2 (λ_=>?_)<|λ_=>?_;ext;refine aR s9 a9 ?_;ext;let w0:=zbi S (show(16:Int)≠0 by decide);let w1:=zba S (show(0:Int)<16 by decide);obtain⟨n,hn⟩:∃n:Nat,14+S%16=(n:Int):=#[(14+S%16).toNat,()];rw[hn];refine#[n,rfl,(),(),λt bs G1 f1 g1=>?_];let wl:=qi n;let wm:=Jt (n:=n) ();let gl:=g1.len;rw[wl]at gl;ext;refine oN<|i5<|aJ<|dy rfl<|bj #[_,_,rfl,.inl #[_,aK.of g1.top,rfl],?_];rw[zaa,gl];refine#[n+1,rfl,(),λc hc=>?_];generalize q1:upd G1 c _=G2;let#[f2,k2]:=lay hc q1;let g2:=g1.same f2;ext;refine#[t,bs,D7 n,rfl,g2,wm,(),(),λG3 f3=>?_];let g3:=g2.same f3;ext;refine#[_,_,rfl,.inl #[_,aK.of g3.top,rfl],?_];rw[zaa,gl];ext;refine#[t,c,bs,D7 n,λi=>i,n+1,rfl,g3,wm,(),by erw[wl,f3 _ _ k2],(),(),λi hi=>(show i<n+1 by lia),λt4 W M G4 f4 g4 rc ac=>?_];ext;refine#[t4,W,M,n+1-1,rfl,g4,rc,(),λi j=>?_,λG5 f5=>?_];by_cases z:i<n+1-1/\j<n+1-1;rw[ac i j z.1 z.2];exact Ac wm () _ _ _;rw[rc.out ()];decide;ext;let:_root_.Dt.det (n+1-1) (_root_.Dt.mx M)=_root_.Dt.det ((D7 n).z-1) (dI<|D7 n):=by erw[wl,_root_.Dt.aL λi j hi hj=>by rw[ac i j hi hj,Ov () ()]]
 rw[this,zaV rfl];exact kq _;clear a9 s9 p9 q9 C;ext;refine#[hd,Y,rfl,D _ _ h1,(),fr,λt2 b2 R2 n H9 e9 g9 n8 Fj=>?_];let G:=D.trans e9;let#[x6,a6,s6,p6,q6]:=k 6 H9 B! G;ext;refine aR s6 a6 ?_;ext;refine#[t2,b2,R2,n,x6,rfl,g9,Fj,(),p6,(),λt3 b3 R3 D4 A3 Xf OH=>?_];let Oi:=G.trans A3;let#[x7,a7,s7,p7,q7]:=k 7 D4 B! Oi;ext;refine aR s7 a7 ?_;ext;refine#[t3,b3,R3,n,x7,rfl,Xf,OH,(),p7,(),λp0 SM L0 Lk Rk Jh Tx UN tg ln=>?_];let Oh:=Oi.trans Rk;clear D e9 G A3 Oi Rk s6 s7 a6 a7 g9 Xf Fj OH Tx UN;let Qt:=tg.map;let four:=tg.four;refine dm ?_;refine mr (λf r=>f=[a.e,hd.e,none,none,p0.e,none,none,none,none,none]/\ai Lk r) ?_ ?_;ext f RQ ⟨rfl,I⟩;let KR:=Oh.trans I;let#[y8,b8,C,_,_]:=k 8 RQ B! KR;rw[a8]at b8;cases b8;refine mr (λf r=>∃(p:Addr) (B:bp) (L:cp),f=[a.e,hd.e,none,none,p.e,none,none,none,none,none]/\ai RQ r/\aO r p B L/\av L/\L.z=L0.z) ?_ ?_;ext f Vr ⟨p,B,L,rfl,O4,N,m,lL⟩;let Og:=KR.trans O4;let C:=aK.of (K:=K)<|Og _ _ h1;refine mr (λf r=>∃(p:Addr) (B:bp) (L:cp),f=[a.e,hd.e,none,none,p.e,none,none,none,none,none]/\ai Vr r/\aO r p B L/\av L/\1<=L.z/\L.z<=11) ?_ ?_;clear N m lL;ext f XE ⟨p,B,L,rfl,O3,Ra,m,l1,an⟩;let Rj:=Og.trans O3;clear Og O4 KR I Oh O3 C;ext;refine wX rfl Ra () λal cs aT U1 Q9 _ _=>?_;ext;refine#[al,cs,L,rfl,Q9,m,l1,(),λa0 SF=>?_];let Q9:=Q9.same SF;let SE:=Ra.same<|U1.trans SF;let Ri:=Rj.trans<|U1.trans SF;clear Rj U1 SF Ra;let hf:=A9 m l1;generalize hD:_root_.Dt.det (L.z-1) (dI L)=D0 at hf;ext;refine#[D0,rfl,?_];ext;refine#[pR L,pR L,Q9.PL,SE.PL,pI _,pI _,?_];rw[zad rfl,Ie,zaV rfl];ext;refine#[p,B,L,rfl,SE,(),(),m,λks aX U0 nd hk=>?_];rw[<-HU m () nd hk]at hf;ext;refine PM ?_;ext;refine jK (λne=>absurd ?_ ne)<|λ_=>?_;by_cases z:(ks.z:Int)=L.z;rw[zaV z,zaQ<|λy=>hf.mp y z];rfl;rw[zaQ z,zaV<|hf.mpr z];rfl;let Xe:=SE.same U0;let U4:=Ri.trans U0;clear Q9 SE Ri U0 nd hk hf;ext;refine#[p,B,L,rfl,Xe,(),m,λt ps ag D _ Q5 pr=>?_];let ZZ:=Xe.same D;let U3:=U4.trans D;ext;refine#[by rw[zat];simp,λz hz=>?_];generalize qz:upd ag z _=XD;let#[G,ZT]:=lay hz qz;let SD:=ZZ.same G;let U2:=U3.trans G;let pr:=pr.same G;let Q5:=G _ _ Q5;let zz:A4 XD (.ref z)<|kT []:=.lst ZT .nil;refine#[kT<|cI L L.z,kT [],.lst Q5 pr.PL,zz,mX _,mX _,?_];rw[zab B!,ES];ext;refine if2 (λem=>?_)<|λne=>?_;ext;refine#[_,_,rfl,.inl #[_,aK.of SD.top,rfl],?_];rw[zaa,SD.len];ext;refine if2 (λ_=>kq _)<|λle=>?_;ext;rw[zaV<|show D0=1 by rw[<-hD,show L.z-1=0 by lia];rfl];exact kq _;let#[VB,ad,S3,ax,VZ]:=k 10 XD B! U2;ext;refine aR S3 ad ?_;ext;refine#[_,_,rfl,.inl #[_,aK.of Q5,rfl],?_];rw[zaa,pr.len];let lp:(0:Int)<((cI L L.z).z:Int):=by let:=zbP.mpr ne;lia
 ext;let w0:=zbi VB (show((cI L L.z).z:Int)≠0 by lia);let w1:=zba VB lp;let#[i,hi]:=zaD w0;rw[hi]at w1 ⊢;obtain⟨pi,WC⟩:∃q,ps[i]?=some q:=#[_,zaf<|by rw[pr.len];lia];let#[#[u,v],ZH,WO]:=pr.at WC;let#[m1,m2,m3,m4,m5]:=(du<|zai _).mp<|zah ZH;dsimp only at m1 m2 m3 m4 m5 WO;let#[u,rfl]:=zaD m1;let#[v,rfl]:=zaD (show 0<=v by lia);let dt:Dt L ((u:Int),(v:Int)):=#[m1,m2,m5];let rl:=fg (L:=L) (a:=(u:Int)) (b:=(v:Int));refine aR (aK.of Q5) (cz<|by rw[zao,WC];rfl) ?_;refine fE (SqT.of WO) rfl ?_;ext;refine#[p,B,L,((u:Int),(v:Int)),rfl,SD,m,(),dt,λt4 W ap Z8 ZY=>?_];ext;refine#[t4,W,_,rfl,ZY,ng m dt,by rw[rl];lia,by rw[rl];lia,λau Z7=>?_];ext;refine#[p,B,L,u,v,rfl,SD.same<|Z8.trans Z7,m,(),(),(),λam ay=>?_];ext;rw[rl,zaV<|show D0=_ by erw[<-hD,Oo m () () dt]];exact kq _;ext TT g;ext;refine aR C a8 ?_;ext;refine if2 (λ_=>?_)<|λ_=>?_;ext;refine#[p,B,L,rfl,N,(),λt bs XE O3 Ra=>?_];ext;exact g _ _ #[t,bs,_,rfl,O3,Ra,K6 m,by rw[qQ];lia,by rw[qQ];lia];ext;exact g _ _ #[p,B,L,rfl,λ_ _ e=>e,N,m,(),()];ext TT g;ext;refine aR C a8 ?_;ext;refine if2 (λ_=>?_)<|λ_=>?_;let#[S,a9,s9,p9,q9]:=k 9 RQ B! KR;ext;refine aR s9 a9 ?_;ext;refine#[p0,SM,L0,S,rfl,Jh.same I,Qt,(),(),p9,(),λt bs L' Vr O4 N YY l'=>?_];ext;exact g _ _ #[t,bs,L',rfl,O4,N,YY,l'];ext;exact g _ _ #[p0,SM,L0,rfl,λ_ _ e=>e,Jh.same I,Qt,rfl];ext TT g;let C:=aK.of (K:=K)<|Oh _ _ h1;let Z9:=ET Qt ();ext;refine aR C a8 ?_;ext;refine if2 (λ_=>?_)<|λ_=>?_;ext;refine#[p0,SM,L0,rfl,Jh,Qt,(),(),λRQ I=>?_];ext;refine#[p0,SM,L0,rfl,Jh.same I,Qt,(),Z9,λR X=>tg.Fi.jZ tg.cq tg.pW tg.four X.MQ,λR t bs Vr X O4 N=>?_];let td:=tg.Ol X.MQ;let mn:=tg.many X.MQ;let l4:=tg.xD X.MQ;let dl:=eK (R:=R);ext;refine#[t,bs,Du R,rfl,N,td.map,(),(),λXE O3=>?_];ext;refine jK (λne=>absurd ?_ ne)<|λ_=>?_;rw[dl];exact Bb tg X.MQ;ext;exact g _ _ #[rfl,I.trans<|O4.trans O3];ext;exact g _ _ #[rfl,λ_ _ e=>e]
end
end IQ
namespace IQ
open PySem L2 Fr Gm Fw
theorem tW{b:Type}{u:List b}(h:u.z=1):∃a:b,u=[a]:=by
 match u,h with
 | [a],_=>exact#[a,rfl]
theorem Ln{c:Type}{u:List c}(h:u.z=2):∃a b:c,u=[a,b]:=by
 match u,h with
 | [a,b],_=>exact#[a,b,rfl]
theorem IY{α:Type}{u:List α}(h:u.z=3):∃a0 a1 a2:α,u=[a0,a1,a2]:=by
 match u,h with
 | [a0,a1,a2],_=>exact#[a0,a1,a2,rfl]
theorem XH{e:Type}{u:List e}(h:u.z=4):∃c d a b:e,u=[c,d,a,b]:=by
 match u,h with
 | [c,d,a,b],_=>exact#[c,d,a,b,rfl]
theorem all_mk{l:PySem.W.OpenLaw}{h:Heap}{mg:bx}(X:K.In h)(G:h.Ns mainGlobals mg)(ZG:mg "law"=fa.e)(j:PySem.W.nsIn K mainGlobals "NoOne"=some (kW.e))(g:PySem.W.nsIn K mainGlobals "NoOther"=some (mO.e))(d0:DefIn K "tree_row" mj)(d1:DefIn K "common_divisor" fT)(d2:DefIn K "ratio" wK)(d3:DefIn K "common_bottom" gE)(d4:DefIn K "made_whole" ju)(d5:DefIn K "led" F7)(d6:DefIn K "row_cleared" iL)(d7:DefIn K "column_cleared" fU)(d8:DefIn K "cleared" oI)(d9:DefIn K "determinant" iO)(F:DefIn K "trees" wI)(R:DefIn K "steps" wJ)(B:DefIn K "onward" rP)(E:DefIn K "ring_from" ki)(aT:DefIn K "least_begun" iM)(Q:DefIn K "lands" wL)(x:DefIn K "left_lands" jv)(Z:DefIn K "other_map" kj)(z:DefIn K "ties" Bi)(ad:DefIn K "untied" rO)(Y:DefIn K "come_to" oH)(as:DefIn K "hangs" wM)(t:DefIn K "_law_numbers" hX)(H:DefIn K "_law_whole" jw)(ap:DefIn K "_law_base" kr)(p:DefIn K "_law_digit" jA)(I:DefIn K "_law_stacked" hV)(ar:DefIn K "_law_tied" ko)(M:DefIn K "_law_places" iP)(ag:DefIn K "_law_corners" hZ)(D:DefIn K "_law_turned_inside" eD)(N:DefIn K "_law_rings" jy)(L:DefIn K "_law_orders" iQ)(u:DefIn K "_law_named" jz)(al:DefIn K "_law_without" hJ)(O:DefIn K "_law_beside" iS)(q:DefIn K "_law_counts" iR)(y:DefIn K "_law_determinant" fD)(ac:DefIn K "_law_drawn_together" dX)(am:DefIn K "_law_wheel" jx)(A:DefIn K "law" rQ)(z0:PySem.W.nsIn K mainGlobals "abs"=some none)(z1:PySem.W.nsIn K mainGlobals "len"=some none)(z2:PySem.W.nsIn K mainGlobals "isinstance"=some none)(z3:PySem.W.nsIn K mainGlobals "int"=some none)(z4:PySem.W.nsIn K mainGlobals "bool"=some none)(z5:PySem.W.nsIn K mainGlobals "enumerate"=some none)(z6:PySem.W.nsIn K mainGlobals "range"=some none)(z7:PySem.W.nsIn K mainGlobals "min"=some none)(z8:PySem.W.nsIn K mainGlobals "max"=some none)(z9:PySem.W.nsIn K mainGlobals "list"=some none)(U:PySem.W.nsIn K mainGlobals "reversed"=some none)(aX:PySem.W.nsIn K mainGlobals "sorted"=some none)(C:PySem.W.nsIn K mainGlobals "set"=some none)(r:PySem.W.nsIn K mainGlobals "zip"=some none)(i:PySem.W.excIn K kW [.type "ValueError",.type "Exception",.type "BaseException",.type "object"] "ValueError.__new__"=true)(f:PySem.W.excIn K mO [.type "ValueError",.type "Exception",.type "BaseException",.type "object"] "ValueError.__new__"=true)(m:PySem.W.exmOne K (.ref kW) (.ref kW)=some true)
  : ∃fd:FuncData,(∀(s:Shared) (v:Value),BindsTo s fd #[[v],[]] [("_law_script",v)])/\∀base:Heap,K.In base->base.Ns mainGlobals mg->uT l.prog w K mg base (bV l.prog w) 12 fa fd ["_law_script"] (wA K):=by
 let#[fn,a6,ax,a5,a4,YV,S,Ye,ay,au,an,ln,cn,kn]:=A.ex;let e:=ZG.symm.trans<|PySem.W.mg_of X G an;cases e;let T:Txt K mg #[kW,mO]:=#[zbs X G z0,zbs X G z1,zbs X G z2,zbs X G z3,zbs X G z4,zbs X G z5,zbs X G z6,zbs X G z7,zbs X G z8,zbs X G z9,zbs X G U,zbs X G aX,zbs X G C,zbs X G r,PySem.W.mg_of X G j,PySem.W.mg_of X G g,i,f,m];refine#[PySem.W.fnOf "law" "law" (gS rQ) (fB rQ) (aH rQ) .none YV S Ye ax ay au,λs v=>.of_eq rfl,λbase hK hG=>?_];let Ce:=zL (P:=l.prog) (w:=w) (base:=base)  (d0.jo X G λ_ _ _ _ _ _ b a=>by let#[c,d,k,rfl]:=IY a;rfl) T;let jk:=nE (P:=l.prog) (w:=w) (base:=base)  (d1.jo X G λ_ _ _ _ _ _ b a=>by let#[c,d,rfl]:=Ln a;rfl) T;let Lh:=Hb (P:=l.prog) (w:=w) (base:=base)  (d2.jo X G λ_ _ _ _ _ _ b a=>by let#[c,d,rfl]:=Ln a;rfl) T jk;let jV:=oT (P:=l.prog) (w:=w) (base:=base)  (d3.jo X G λ_ _ _ _ _ _ b a=>by let#[c,rfl]:=tW a;rfl) T jk;let ym:=uj (P:=l.prog) (w:=w) (base:=base)  (d4.jo X G λ_ _ _ _ _ _ b a=>by let#[c,rfl]:=tW a;rfl) T jV;let RP:=Na (P:=l.prog) (w:=w) (base:=base)  (d5.jo X G λ_ _ _ _ _ _ b a=>by let#[c,d,rfl]:=Ln a;rfl) T;let uO:=sf (P:=l.prog) (w:=w) (base:=base)  (d6.jo X G λ_ _ _ _ _ _ b a=>by let#[c,d,k,a3,rfl]:=XH a;rfl) T;let pF:=nF (P:=l.prog) (w:=w) (base:=base)  (d7.jo X G λ_ _ _ _ _ _ b a=>by let#[c,d,k,rfl]:=IY a;rfl) T uO;let Fg:=Bw (P:=l.prog) (w:=w) (base:=base)  (d8.jo X G λ_ _ _ _ _ _ b a=>by let#[c,rfl]:=tW a;rfl) T RP pF;let uQ:=so (P:=l.prog) (w:=w) (base:=base)  (d9.jo X G λ_ _ _ _ _ _ b a=>by let#[c,rfl]:=tW a;rfl) T Lh jV ym Fg;let Lg:=G9 (P:=l.prog) (w:=w) (base:=base)  (F.jo X G λ_ _ _ _ _ _ b a=>by let#[c,rfl]:=tW a;rfl) T Ce uQ;let yk:=Ha (P:=l.prog) (w:=w) (base:=base)  (R.jo X G λ_ _ _ _ _ _ b a=>by let#[c,rfl]:=tW a;rfl) T;let IV:=Ep (P:=l.prog) (w:=w) (base:=base)  (B.jo X G λ_ _ _ _ _ _ b a=>by let#[c,d,k,rfl]:=IY a;rfl) T;let AO:=xg (P:=l.prog) (w:=w) (base:=base)  (E.jo X G λ_ _ _ _ _ _ b a=>by let#[c,d,k,rfl]:=IY a;rfl) T IV;let uP:=sj (P:=l.prog) (w:=w) (base:=base)  (aT.jo X G λ_ _ _ _ _ _ b a=>by let#[c,rfl]:=tW a;rfl) T;let Li:=Hc (P:=l.prog) (w:=w) (base:=base)  (Q.jo X G λ_ _ _ _ _ _ b a=>by let#[c,rfl]:=tW a;rfl) T AO uP yk;let yo:=uk (P:=l.prog) (w:=w) (base:=base)  (x.jo X G λ_ _ _ _ _ _ b a=>by let#[c,rfl]:=tW a;rfl) T yk;let AQ:=xh (P:=l.prog) (w:=w) (base:=base)  (Z.jo X G λ_ _ _ _ _ _ b a=>by let#[c,rfl]:=tW a;rfl) T yk Li yo;let IU:=Kb (P:=l.prog) (w:=w) (base:=base)  (z.jo X G λ_ _ _ _ _ _ b a=>by let#[c,rfl]:=tW a;rfl) T;let AN:=Eo (P:=l.prog) (w:=w) (base:=base)  (ad.jo X G λ_ _ _ _ _ _ b a=>by let#[c,d,k,rfl]:=IY a;rfl) T IU;let Ff:=Bv (P:=l.prog) (w:=w) (base:=base)  (Y.jo X G λ_ _ _ _ _ _ b a=>by let#[c,d,k,rfl]:=IY a;rfl) T;let Lj:=Hd (P:=l.prog) (w:=w) (base:=base)  (as.jo X G λ_ _ _ _ _ _ b a=>by let#[c,rfl]:=tW a;rfl) T Ff;let tR:=pZ (P:=l.prog) (w:=w) (base:=base)  (t.jo X G λ_ _ _ _ _ _ b a=>by let#[c,d,rfl]:=Ln a;rfl) T;let yp:=um (P:=l.prog) (w:=w) (base:=base)  (H.jo X G λ_ _ _ _ _ _ b a=>by let#[c,rfl]:=tW a;rfl) T;let AS:=xm (P:=l.prog) (w:=w) (base:=base)  (ap.jo X G λ_ _ _ _ _ _ b a=>by let#[c,rfl]:=tW a;rfl) T;let n:=uu (P:=l.prog) (w:=w) (base:=base)  (p.jo X G λ_ _ _ _ _ _ b a=>by let#[c,d,k,rfl]:=IY a;rfl) T;let tQ:=pY (P:=l.prog) (w:=w) (base:=base)  (I.jo X G λ_ _ _ _ _ _ b a=>by let#[c,d,k,rfl]:=IY a;rfl) T n;let AR:=xk (P:=l.prog) (w:=w) (base:=base)  (ar.jo X G λ_ _ _ _ _ _ b a=>by let#[c,d,rfl]:=Ln a;rfl) T;let o:=sr (P:=l.prog) (w:=w) (base:=base)  (M.jo X G λ_ _ _ _ _ _ b a=>by let#[c,rfl]:=tW a;rfl) T;let k6:=p5 (P:=l.prog) (w:=w) (base:=base)  (ag.jo X G λ_ _ _ _ _ _ b a=>by let#[c,rfl]:=tW a;rfl) T;let kZ:=jX (P:=l.prog) (w:=w) (base:=base)  (D.jo X G λ_ _ _ _ _ _ b a=>by let#[c,rfl]:=tW a;rfl) T o k6;let yt:=uq (P:=l.prog) (w:=w) (base:=base)  (N.jo X G λ_ _ _ _ _ _ b a=>by let#[c,rfl]:=tW a;rfl) T AS tQ AR o kZ;let uR:=su (P:=l.prog) (w:=w) (base:=base)  (L.jo X G λ_ _ _ _ _ _ b a=>by let#[c,d,rfl]:=Ln a;rfl) T n o k6;let yv:=ur (P:=l.prog) (w:=w) (base:=base)  (u.jo X G λ_ _ _ _ _ _ b a=>by let#[c,d,rfl]:=Ln a;rfl) T n o;let tP:=pX (P:=l.prog) (w:=w) (base:=base)  (al.jo X G λ_ _ _ _ _ _ b a=>by let#[c,d,rfl]:=Ln a;rfl) T n AN;let uS:=sx (P:=l.prog) (w:=w) (base:=base)  (O.jo X G λ_ _ _ _ _ _ b a=>by let#[c,rfl]:=tW a;rfl) T;let mf:=sv (P:=l.prog) (w:=w) (base:=base)  (q.jo X G λ_ _ _ _ _ _ b a=>by let#[c,d,k,rfl]:=IY a;rfl) T;let iF:=lH (P:=l.prog) (w:=w) (base:=base)  (y.jo X G λ_ _ _ _ _ _ b a=>by let#[c,rfl]:=tW a;rfl) T;let j5:=jC (P:=l.prog) (w:=w) (base:=base)  (ac.jo X G λ_ _ _ _ _ _ b a=>by let#[c,d,k,rfl]:=IY a;rfl) T mf iF;let yq:=uo (P:=l.prog) (w:=w) (base:=base)  (am.jo X G λ_ _ _ _ _ _ b a=>by let#[c,rfl]:=tW a;rfl) T;exact Nb (BO (st:=rQ) ln cn kn) T Lg AQ AN Lj IU tR yp yt uR yv tP uS mf iF j5 yq
theorem walk{l:PySem.W.OpenLaw}{e:(Str->Option Value)->Heap->Prop}{d:DefRec}{K:Params->zcT}(i:l.most=some 63)(k:d.params.defaults=[])(c:∀(w:World) (h:Heap),YP w h->(K w.params).In h)(F:∀(w:World) (mg:bx) (fa:Addr) (h:Heap),(K w.params).In h->h.Ns mainGlobals mg->mg d.name=fa.e->
   ∃b:FuncData,(∀(s:Shared) (u:Value),BindsTo s b #[[u],[]] [("_law_script",u)])/\∀base:Heap,(K w.params).In base->base.Ns mainGlobals mg->uT l.prog w (K w.params) mg base (bV l.prog w) 12 fa b ["_law_script"] (wA<|K w.params)) :
  PySem.W.WalkO q loose e YP l.row.toRowW d [] (λf vs=>PySem.call f vs):=
 L2.Ju i B! k #[rfl,by decide,by decide] c F (λ_ _ a ns g _ j=>#[a,ns,rfl,j,g,λ_=>rfl]) λ_ _ _ _ _ z=>EW z
end IQ
end
namespace PySem.W.Fast
def tw2978935864220040335:=trivial
def tw16110609957519325345:=trivial
def tw11453899856435132234:=trivial
def tw15677054530923447047:=trivial
def tw7923219759292267167:=trivial
def tw1688723193949711604:=trivial
def tw3378963382825783671:=trivial
def tw14794587387714122364:=trivial
def tw17254009160933179540:=trivial
def tw15386997152029070624:=trivial
def tw18399647704443416082:=trivial
def tw3276040421867799442:=trivial
def tw14334115485384335207:=trivial
def tw10548009112318007540:=trivial
def tw3463256087585070222:=trivial
def tw3155765962273577616:=trivial
def tw7798372846609715790:=trivial
def tw11704467148872542623:=trivial
def tw3254462631808025383:=trivial
def tw8316126893967269260:=trivial
def tw7893369339085238886:=trivial
def tw17596337929066926789:=trivial
def tw8363200189588663809:=trivial
def tw2199599964702986587:=trivial
def tw17992802871676260518:=trivial
def tw9861891517154979228:=trivial
def tw10109468932843945082:=trivial
def tw18434831845776998793:=trivial
def tw10658337144934345890:=trivial
def tw17012270886785949411:=trivial
def tw1467101315620161184:=trivial
def tw192439516348391154:=trivial
def tw15828656183346148467:=trivial
def tw17988274461297459958:=trivial
def tw1677339946195661594:=trivial
def tw14955112573130372205:=trivial
def tw13721760192904135955:=trivial
def tw11778012737665535005:=trivial
def tw8152187859836792026:=trivial
def tw165528653365983848:=trivial
def tw16296663148407394896:=trivial
def tw5952112808355936444:=trivial
def tw7850482002260630339:=trivial
def tw5976923680767965391:=trivial
def tw2694301250209914091:=trivial
def tw8204503345862450868:=trivial
def tw8364725901676648846:=trivial
def tw10667801538336115672:=trivial
def tw4482600802575506607:=trivial
def tw2893906674909454771:=trivial
def tw5018882968809389012:=trivial
def tw58347217184008509:=trivial
def tw16172793899598253407:=trivial
def tw7235243422517231715:=trivial
def tw2499150392581722648:=trivial
def tw18009640278705082676:=trivial
def tw12528670725759698996:=trivial
def tw1255381907204531710:=trivial
def tw5676727044696966844:=trivial
def tw16656484655488521687:=trivial
def tw1164739656539526533:=trivial
def tw11550521809178563296:=trivial
def tw1708731230459582824:=trivial
def tw14805577830361372181:=trivial
def tw6145386612327684831:=trivial
def tw13332451074518271123:=trivial
def tw9038660434367364648:=trivial
def tw14200606598388076554:=trivial
def tw8244577286516814066:=trivial
def tw11630988057917534049:=trivial
def tw12681837237061811706:=trivial
def tw13159927016965680877:=trivial
def tw11702721272243704411:=trivial
def tw79634996127102541:=trivial
def tw15762167147807213076:=trivial
def tw2934071901733236827:=trivial
def tw4963649631090518057:=trivial
def tw8369993482414894453:=trivial
def tw1516474445467373162:=trivial
def tw5732431279237887507:=trivial
def tw15923024135001932619:=trivial
def tw18417605253613872619:=trivial
def tw13647536423556779388:=trivial
def tw4482228655911261023:=trivial
def tw16663279413850078065:=trivial
def tw7290886737828834850:=trivial
def tw15057003075161571534:=trivial
def tw569425022206211780:=trivial
def tw15982769107830308345:=trivial
def tw3929801858049803011:=trivial
def tw3060566684130653204:=trivial
def tw13211876433566980994:=trivial
def tw5313464374705639435:=trivial
def tw2595078497777522685:=trivial
def tw7132164488802346132:=trivial
def tw10242373058806779531:=trivial
def tw10204068508432433732:=trivial
def tw5854564044865520031:=trivial
def tw5434939643171815212:=trivial
def tw12907473952823165593:=trivial
def tw6447393289927938067:=trivial
def tw15145985472725561255:=trivial
def tw17811257476007964565:=trivial
def tw13837075883334864048:=trivial
def tw2204815585229664937:=trivial
def tw8548429304197832309:=trivial
def tw5412713213251829936:=trivial
def tw8273357593724776967:=trivial
def tw513284538470615095:=trivial
def tw1838677477774318941:=trivial
def tw6948005396465036961:=trivial
def tw15548805702827208450:=trivial
def tw4674184540873145739:=trivial
def tw11285149614143086758:=trivial
def tw2355175537203404130:=trivial
def tw2640414505421355571:=trivial
def tw14811344800305236835:=trivial
def tw6734675614382725457:=trivial
def tw797043479750422775:=trivial
def tw2151961780881508383:=trivial
def tw15164892778883997052:=trivial
def tw2634626706349413963:=trivial
def tw17641343488011474260:=trivial
def tw14145597010639586068:=trivial
def tw13926892871895948043:=trivial
def tw14924737355535788888:=trivial
def tw5435743774504498599:=trivial
def tw2148856570809625049:=trivial
def tw1886248793026699126:=trivial
def tw744935197077475558:=trivial
def tw3971530118995344126:=trivial
def tw7016111836096491418:=trivial
def tw3274498808799903273:=trivial
def tw13798150828726159786:=trivial
def tw17407485783552457151:=trivial
def tw10212109800341392459:=trivial
def tw7976729870319875684:=trivial
def tw14201025325379795226:=trivial
def tw13020455488710838654:=trivial
def tw16753557560308762576:=trivial
def tw3896636343914433506:=trivial
def tw6624075222208491772:=trivial
def tw2801874309143443924:=trivial
def tw383434962729444372:=trivial
def tw17934001762998870174:=trivial
def tw1350021513846756472:=trivial
def tw4045965516028577144:=trivial
def tw13646752562194475784:=trivial
def tw4475288143585340325:=trivial
def tw18418907410335975912:=trivial
def tw17576879843515283100:=trivial
def tw11200323839039272541:=trivial
def tw6788342112691589796:=trivial
def tw14946043451414241849:=trivial
def tw10034581179332131091:=trivial
def tw4669234145218337732:=trivial
def tw9930776301952443003:=trivial
def tw9527947127753163331:=trivial
def tw18034195494421292980:=trivial
def tw12550300576655991168:=trivial
def tw16871051025369537689:=trivial
def tw4996355888344122438:=trivial
def tw15933418553016908152:=trivial
def tw3545269170863693295:=trivial
def tw7474292823680636883:=trivial
def tw4025605158088101625:=trivial
def tw338264518717878713:=trivial
def tw17952333513822806624:=trivial
def tw16726298080177716286:=trivial
def tw15322091917927490084:=trivial
def tw11391955050142720059:=trivial
def tw13622584409598192231:=trivial
def tw12325927078596770338:=trivial
def tw12198894824691952723:=trivial
def tw8253276616388959912:=trivial
def tw15397412343726302552:=trivial
def tw8596370930697971741:=trivial
def tw11161569087969215153:=trivial
def tw8945557735542666638:=trivial
def tw5165857679384727010:=trivial
def tw15166026354336501658:=trivial
def tw15415477050481566724:=trivial
def tw12131107955316348609:=trivial
def tw10784390138625714843:=trivial
def tw925067802471702488:=trivial
def tw8164598432245931848:=trivial
def tw217463452188629832:=trivial
def tw2607604413677380978:=trivial
def tw10704531291881035691:=trivial
def tw8316548141215254888:=trivial
def tw18151318950934540763:=trivial
def tw14235776671931148127:=trivial
def tw8978045002380117551:=trivial
def tw2479778780957858386:=trivial
def tw9178728600925631451:=trivial
def tw8288013788901872508:=trivial
def tw6907646636538387831:=trivial
def tw5818870965818525498:=trivial
def tw5725249679266424909:=trivial
def tw16915810690045741330:=trivial
def tw17566229729612638287:=trivial
def tw16726260439383067279:=trivial
def tw14856214542166944597:=trivial
def tw4090330992653388765:=trivial
def tw8712707867281854218:=trivial
def tw6575663232136515370:=trivial
def tw16368917413776684483:=trivial
def tw14332288376988472009:=trivial
def tw13288111327383294179:=trivial
def tw11269297748022683105:=trivial
def tw3837438012287111428:=trivial
def tw14006028020103080975:=trivial
def tw13602377910793569562:=trivial
def tw13448548181697903811:=trivial
def tw12011948385795428565:=trivial
def tw5965014372269209047:=trivial
def tw804960465799329091:=trivial
def tw7156288682459104396:=trivial
def tw6947621579168440260:=trivial
def tw3354071904421610898:=trivial
def tw418267074611461577:=trivial
def tw3219245502186069170:=trivial
def tw2120914852941696493:=trivial
def tw13153297284884970521:=trivial
def tw11892117606711670875:=trivial
def tw9775231361820267879:=trivial
def tw9736951344449872122:=trivial
def tw9693183754365289795:=trivial
def tw9626860797873916479:=trivial
def tw9392868710769240879:=trivial
def tw9303068931453881698:=trivial
def tw9081975195938988853:=trivial
def tw8979739603935751862:=trivial
def tw8869900111746995576:=trivial
def tw8800958830153160527:=trivial
def tw8692906904831706619:=trivial
def tw8417725159600846584:=trivial
def tw7761150366404208761:=trivial
def tw773952500530462292:=trivial
def tw7613429708676964311:=trivial
def tw7507757270539963485:=trivial
def tw7410574037813928719:=trivial
def tw7266600212410621455:=trivial
def tw7252090036754344928:=trivial
def tw7230795013036223001:=trivial
def tw6944775068637646317:=trivial
def tw6890504836673164927:=trivial
def tw6733558845227875982:=trivial
def tw6538574190368203036:=trivial
def tw6302934506512480861:=trivial
def tw617501210420260337:=trivial
def tw5976005031612545977:=trivial
def tw563139188194591648:=trivial
def tw5593934956830071360:=trivial
def tw5474916488787368274:=trivial
def tw5218516608092017181:=trivial
def tw4532830159593981329:=trivial
def tw430823461904116530:=trivial
def tw3977832743082775002:=trivial
def tw323942733333995428:=trivial
def tw3016470746799598757:=trivial
def tw2579475254075330046:=trivial
def tw18000481040923426465:=trivial
def tw17990468544444452986:=trivial
def tw17913332702182044197:=trivial
def tw17763109691759341611:=trivial
def tw17679675791277399444:=trivial
def tw17386628071950778766:=trivial
def tw17295319000087596956:=trivial
def tw17278302783426085294:=trivial
def tw17188935263273845783:=trivial
def tw16678353772630180072:=trivial
def tw1650173410123451476:=trivial
def tw16416537664251599598:=trivial
def tw15608648985308418771:=trivial
def tw14456891741839541094:=trivial
def tw1360454396113234496:=trivial
def tw13140103497673572744:=trivial
def tw130115238797316729:=trivial
def tw12836217302276434651:=trivial
def tw1282796367326799039:=trivial
def tw12334546620945438026:=trivial
def tw12210703869321576635:=trivial
def tw121798518199456404:=trivial
def tw12115195116735908674:=trivial
def tw12113870084627258546:=trivial
def tw11671202127752623953:=trivial
def tw10946831798803296474:=trivial
def tw10924933322048280067:=trivial
def tw10916146533107751130:=trivial
def tw10836611843677985946:=trivial
def tw10679627095034222348:=trivial
def tw10557088574669048593:=trivial
def tw10402669400820010158:=trivial
def tw10378699535488210783:=trivial
def tw10312711422955438625:=trivial
end PySem.W.Fast
local macro_rules | `(tactic| walk_at "d")=>`(tactic| (refine' L2.DefIn.mk0 ?a ?l ?c ?k;(case' a=>k_is);(case' l=>k_is);(case' c=>k_is);(case' k=>k_is)))
local macro_rules | `(tactic| walk_at "m")=>`(tactic| (refine' L2.MetIn.mk0 ?a ?l ?c ?k ?i;(case' a=>k_is);(case' l=>k_is);(case' c=>k_is);(case' k=>k_is);(case' i=>k_is)))
open PySem PySem.W PyProof.Rows
set_option maxRecDepth 100000 in
set_option maxHeartbeats 0 in
theorem PySem.Challenge.cw_standup_k35_whole_trees_of_maps_holds : PySem.Challenge.rw_standup_k35_whole_trees_of_maps.Holds := by
 w_on;o_law;k_head;(case hw=>w_witness2)
 k_fill
 refine IQ.walk (l:=PySem.Challenge.rw_standup_k35_whole_trees_of_maps) rfl rfl (λw h Y=>PySem.W.kIn_of Y) ?F
 case F=>
  intro w mg fa h KX G QN
  refine' IQ.all_mk KX G QN ?e_NoOne ?e_NoOther ?d0 ?d1 ?d2 ?d3 ?d4 ?d5 ?d6 ?d7 ?d8 ?d9 ?d10 ?d11 ?d12 ?d13 ?d14 ?d15 ?d16 ?d17 ?d18 ?d19 ?d20 ?d21 ?d22 ?d23 ?d24 ?d25 ?d26 ?d27 ?d28 ?d29 ?d30 ?d31 ?d32 ?d33 ?d34 ?d35 ?d36 ?d37 ?d38 ?d39 ?d40 ?z0 ?z1 ?z2 ?z3 ?z4 ?z5 ?z6 ?z7 ?z8 ?z9 ?z10 ?z11 ?z12 ?z13 ?x_NoOne ?x_NoOther ?f_m1
  (case e_NoOne=>k_is)
  (case e_NoOther=>k_is)
  (case d0=>walk_at "d")
  (case d1=>walk_at "d")
  (case d2=>walk_at "d")
  (case d3=>walk_at "d")
  (case d4=>walk_at "d")
  (case d5=>walk_at "d")
  (case d6=>walk_at "d")
  (case d7=>walk_at "d")
  (case d8=>walk_at "d")
  (case d9=>walk_at "d")
  (case d10=>walk_at "d")
  (case d11=>walk_at "d")
  (case d12=>walk_at "d")
  (case d13=>walk_at "d")
  (case d14=>walk_at "d")
  (case d15=>walk_at "d")
  (case d16=>walk_at "d")
  (case d17=>walk_at "d")
  (case d18=>walk_at "d")
  (case d19=>walk_at "d")
  (case d20=>walk_at "d")
  (case d21=>walk_at "d")
  (case d22=>walk_at "d")
  (case d23=>walk_at "d")
  (case d24=>walk_at "d")
  (case d25=>walk_at "d")
  (case d26=>walk_at "d")
  (case d27=>walk_at "d")
  (case d28=>walk_at "d")
  (case d29=>walk_at "d")
  (case d30=>walk_at "d")
  (case d31=>walk_at "d")
  (case d32=>walk_at "d")
  (case d33=>walk_at "d")
  (case d34=>walk_at "d")
  (case d35=>walk_at "d")
  (case d36=>walk_at "d")
  (case d37=>walk_at "d")
  (case d38=>walk_at "d")
  (case d39=>walk_at "d")
  (case d40=>walk_at "d")
  (case z0=>k_is)
  (case z1=>k_is)
  (case z2=>k_is)
  (case z3=>k_is)
  (case z4=>k_is)
  (case z5=>k_is)
  (case z6=>k_is)
  (case z7=>k_is)
  (case z8=>k_is)
  (case z9=>k_is)
  (case z10=>k_is)
  (case z11=>k_is)
  (case z12=>k_is)
  (case z13=>k_is)
  (case x_NoOne=>k_exc)
  (case x_NoOther=>k_exc)
  (case f_m1=>kts_exm)
