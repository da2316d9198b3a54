import PyProof.Rows.All
import Wide.All
import OpenK.AllK
import Wide.FinOn
import Lean
import PyProof.EqAt
import PyProof.EqKinds
import PyProof.TupleCall
import PyProof.Rows.Catch
import KE.KRevIter
import KE.KDictList
import KE.KStateDown
import KE.KIntText
import PyProof.Rows.TupDisplay
import PyProof.InstStoreFacts
import PyProof.ExcInit
import PyProof.Rows.SetFrom
import PyProof.Walks
import KE.KSortKey
import KE.KLam
import PyProof.AttrMissHeap
import KE.KDictOf
import KE.KSortTup
import PyProof.TupleIter
import PyProof.DictValues
import PySem.Challenge.RW_standup_k62_right_drawings
open List
set_option Elab.async false
set_option linter.all false
set_option maxRecDepth 100000
set_option compiler.extract_closed false
set_option maxHeartbeats 4000000
section
variable{q:Prop}
def qe1{A:Type}{P:A->Prop}(h:∃a,P a)(k:∀a,P a->q):q:=h.elim k
def qe2{A B:Type}{P:A->B->Prop}(h:∃a b,P a b)(k:∀a b,P a b->q):q:=h.elim λ_ h=>qe1 h (k _)
def qe3{A B C:Type}{P:A->B->C->Prop}(h:∃a b c,P a b c)(k:∀a b c,P a b c->q):q:=h.elim λ_ h=>qe2 h (k _)
def qe4{A B C D:Type}{P:A->B->C->D->Prop}(h:∃a b c d,P a b c d)(k:∀a b c d,P a b c d->q):q:=h.elim λ_ h=>qe3 h (k _)
def qe5{A B C D E:Type}{P:A->B->C->D->E->Prop}(h:∃a b c d e,P a b c d e)(k:∀a b c d e,P a b c d e->q):q:=h.elim λ_ h=>qe4 h (k _)
def qe6{A B C D E F:Type}{P:A->B->C->D->E->F->Prop}(h:∃a b c d e f,P a b c d e f)(k:∀a b c d e f,P a b c d e f->q):q:=h.elim λ_ h=>qe5 h (k _)
def qe7{A B C D E F G:Type}{P:A->B->C->D->E->F->G->Prop}(h:∃a b c d e f g,P a b c d e f g)(k:∀a b c d e f g,P a b c d e f g->q):q:=h.elim λ_ h=>qe6 h (k _)
def qe8{A B C D E F G I:Type}{P:A->B->C->D->E->F->G->I->Prop}(h:∃a b c d e f g i,P a b c d e f g i)(k:∀a b c d e f g i,P a b c d e f g i->q):q:=h.elim λ_ h=>qe7 h (k _)
def qi2{A B:Type}{P:A->B->Prop}(a:A)(b:B)(h:P a b):∃a b,P a b:=⟨_,_,h⟩
def qi3{A B C:Type}{P:A->B->C->Prop}(a:A)(b:B)(c:C)(h:P a b c):∃a b c,P a b c:=⟨_,_,_,h⟩
def qi4{A B C D:Type}{P:A->B->C->D->Prop}(a:A)(b:B)(c:C)(d:D)(h:P a b c d):∃a b c d,P a b c d:=⟨_,_,_,_,h⟩
def qi5{A B C D E:Type}{P:A->B->C->D->E->Prop}(a:A)(b:B)(c:C)(d:D)(e:E)(h:P a b c d e):∃a b c d e,P a b c d e:=⟨_,_,_,_,_,h⟩
def qi6{A B C D E F:Type}{P:A->B->C->D->E->F->Prop}(a:A)(b:B)(c:C)(d:D)(e:E)(f:F)(h:P a b c d e f):∃a b c d e f,P a b c d e f:=⟨_,_,_,_,_,_,h⟩
def qi7{A B C D E F G:Type}{P:A->B->C->D->E->F->G->Prop}(a:A)(b:B)(c:C)(d:D)(e:E)(f:F)(g:G)(h:P a b c d e f g):∃a b c d e f g,P a b c d e f g:=⟨_,_,_,_,_,_,_,h⟩
def qi8{A B C D E F G I:Type}{P:A->B->C->D->E->F->G->I->Prop}(a:A)(b:B)(c:C)(d:D)(e:E)(f:F)(g:G)(i:I)(h:P a b c d e f g i):∃a b c d e f g i,P a b c d e f g i:=⟨_,_,_,_,_,_,_,_,h⟩
def qa2{a b:Prop}(h:a/\b)(k:a->b->q):q:=k h.1 h.2
def qa3{a b c:Prop}(h:a/\b/\c)(k:a->b->c->q):q:=qa2 h.2 (k h.1)
def qa4{a b c d:Prop}(h:a/\b/\c/\d)(k:a->b->c->d->q):q:=qa3 h.2 (k h.1)
def qa5{a b c d e:Prop}(h:a/\b/\c/\d/\e)(k:a->b->c->d->e->q):q:=qa4 h.2 (k h.1)
def qa6{a b c d e f:Prop}(h:a/\b/\c/\d/\e/\f)(k:a->b->c->d->e->f->q):q:=qa5 h.2 (k h.1)
def qa7{a b c d e f g:Prop}(h:a/\b/\c/\d/\e/\f/\g)(k:a->b->c->d->e->f->g->q):q:=qa6 h.2 (k h.1)
def qa8{a b c d e f g i:Prop}(h:a/\b/\c/\d/\e/\f/\g/\i)(k:a->b->c->d->e->f->g->i->q):q:=qa7 h.2 (k h.1)
def qa9{a b c d e f g i j:Prop}(h:a/\b/\c/\d/\e/\f/\g/\i/\j)(k:a->b->c->d->e->f->g->i->j->q):q:=qa8 h.2 (k h.1)
def qa10{a b c d e f g i j l:Prop}(h:a/\b/\c/\d/\e/\f/\g/\i/\j/\l)(k:a->b->c->d->e->f->g->i->j->l->q):q:=qa9 h.2 (k h.1)
def qa11{a b c d e f g i j l m:Prop}(h:a/\b/\c/\d/\e/\f/\g/\i/\j/\l/\m)(k:a->b->c->d->e->f->g->i->j->l->m->q):q:=qa10 h.2 (k h.1)
def qa12{a b c d e f g i j l m n:Prop}(h:a/\b/\c/\d/\e/\f/\g/\i/\j/\l/\m/\n)(k:a->b->c->d->e->f->g->i->j->l->m->n->q):q:=qa11 h.2 (k h.1)
def qa13{a b c d e f g i j l m n o:Prop}(h:a/\b/\c/\d/\e/\f/\g/\i/\j/\l/\m/\n/\o)(k:a->b->c->d->e->f->g->i->j->l->m->n->o->q):q:=qa12 h.2 (k h.1)
def qa14{a b c d e f g i j l m n o p:Prop}(h:a/\b/\c/\d/\e/\f/\g/\i/\j/\l/\m/\n/\o/\p)(k:a->b->c->d->e->f->g->i->j->l->m->n->o->p->q):q:=qa13 h.2 (k h.1)
def qa15{a b c d e f g i j l m n o p r:Prop}(h:a/\b/\c/\d/\e/\f/\g/\i/\j/\l/\m/\n/\o/\p/\r)(k:a->b->c->d->e->f->g->i->j->l->m->n->o->p->r->q):q:=qa14 h.2 (k h.1)
end
open Lean in
def qPq:Nat->Syntax->MacroM (TSyntax `rcasesPat)
 | 0,_=>Macro.throwUnsupported
 | n+1,s=>match s with
  | `(#[$xs,*])=>do
   let ys<-xs.getElems.mapM fun x=>do `(Lean.Parser.Tactic.rcasesPatLo|$(<-qPq n x):rcasesPat)
   `(rcasesPat|⟨$ys,*⟩)
  | `(_)=>`(rcasesPat|_)
  | `($x:ident)=>`(rcasesPat|$x:ident)
  | _=>Macro.throwUnsupported
open Lean in
def qPr:Nat->Syntax->MacroM Term
 | 0,_=>Macro.throwUnsupported
 | n+1,s=>match s with
  | `(rcasesPat|⟨$xs,*⟩)=>do
   let ys<-xs.getElems.mapM fun x=>if x.raw[1].getNumArgs==0&&x.raw[0][0].getNumArgs==1 then qPr n x.raw[0][0][0] else Macro.throwUnsupported
   `(#[$ys,*])
  | `(rcasesPat|_)=>`(_)
  | `(rcasesPat|$x:ident)=>`($x:ident)
  | _=>Macro.throwUnsupported
open Lean in
def qPf:Nat->Term->Array Term
 | 0,_=>#[]
 | n+1,t=>match t with
  | `($a>>$b)=>(qPf n a).push b
  | _=>#[t]
open Lean in
def qPe:Nat->Array Term->Term->MacroM (TSyntax `tactic)
 | 0,_,_=>Macro.throwUnsupported
 | k+1,ps,e=>do
  let n:=ps.size
  let mut xs:Array Ident:=#[]
  let mut po:Array (TSyntax `tactic):=#[]
  for i in [0:n] do
   let y:=mkIdent (.mkSimple s!"_q{k}_{i}")
   match ps[i]! with
   | `($x:ident)=>
    if x.getId==`rfl then po:=po.push (<-`(tactic| subst $y:ident))
    xs:=xs.push (if x.getId==`rfl then y else x)
   | `(_)=>xs:=xs.push y
   | `(#[$ys,*])=>
    xs:=xs.push y;po:=po.push (<-qPe k ys.getElems y)
   | _=>Macro.throwUnsupported
  let h:=mkIdent (.mkSimple s!"_q{k}")
  let mut a:TSyntax `tactic<-`(tactic| fail)
  let mut d:=a
  for i in [0:min n 9] do
   let f:=mkIdent (.mkSimple s!"qe{i}")
   let g:=mkIdent (.mkSimple s!"qa{n-i}")
   let u:=xs[0:i].toArray
   let v:=xs[i:n].toArray
   let b<-if i==0 then `(tactic| refine $g $e fun $v* =>?_) else if i+1==n then `(tactic| refine $f $e fun $xs* =>?_) else `(tactic| refine $f $e fun $u* $h=>$g $h fun $v* =>?_)
   a<-`(tactic| first | with_reducible $b:tactic | $a:tactic)
   d<-`(tactic| first | $b:tactic | $d:tactic)
  let c<-match e with
   | `($x:ident)=>if xs.any (·.getId==x.getId) then `(tactic| skip) else `(tactic| (try clear $x))
   | _=>`(tactic| skip)
  `(tactic| ((first | $a:tactic | $d:tactic);(try clear $h);$c:tactic;$[$po:tactic];*))
noncomputable section
local macro_rules | `(tactic| let $d:letDecl)=>`(tactic| have $d:letDecl)
local macro_rules | `(tactic| let $p:term:=$e)=>do
 let q<-`(tactic| obtain $(<-qPq 9 p.raw):rcasesPat:=$e)
 match p with
 | `(#[$xs,*])=>`(tactic| first | $(<-qPe 9 xs.getElems e):tactic | $q:tactic)
 | _=>pure q
local macro_rules | `(#[$xs,*])=>if xs.elemsAndSeps.size%2==0 then Lean.Macro.throwUnsupported else `(⟨$xs,*⟩)
local macro_rules | `(tactic| refine#[$xs,*])=>do
 let a:=xs.getElems
 let n:=a.size
 let mut t<-`(tactic| refine⟨$xs,*⟩)
 for i in [2:min n 9] do
  let v:=a[i:n].toArray
  let r<-if i+1==n then pure v[0]! else `(⟨$v,*⟩)
  t<-`(tactic| first | refine $(Lean.mkIdent (.mkSimple s!"qi{i}")) $(a[0:i].toArray)* $r | $t:tactic)
 pure t
local macro_rules | `(tactic| exact#[$xs,*])=>`(tactic| refine#[$xs,*])
local macro_rules | `(())=>`(by lia)
set_option hygiene false
local macro_rules | `($x:ident)=>match x.getId with
 | `A!=>`(by walk_at "L")
 | `A?=>`(by simp)
 | `B!=>`(by decide)
 | `B?=>`(by decide +kernel)
 | `C!=>`(by rfl)
 | `C?=>`(λ_ _=>rfl)
 | `D!=>`(by walk_at "blk_ok")
 | `H!=>`(λ_ _ _ _ _ _ us c=>by obtain⟨a,rfl⟩:=sx c;rfl)
 | `H?=>`(λ_ _ _ _ _ _ us c=>by obtain⟨a,b,rfl⟩:=AO c;rfl)
 | `G!=>`(λ_ _ _ _ _ _ us c=>by obtain⟨a,b,c,rfl⟩:=Im c;rfl)
 | `G?=>`(λ_ _ _ _ _ _ us c=>by obtain⟨a,b,c,d,rfl⟩:=yb4 c;rfl) | .str p s=>if p.isAnonymous then Lean.Macro.throwUnsupported else
  let q:=Lean.mkIdentFrom x p
  match s with
  | "c"=>`($(Lean.mkIdentFrom x (.str p "length")))
  | "d"=>`($(q).heap.objs.size)
  | "e"=>`($(q).objs.size)
  | "f"=>`($(q).map V.int)
  | "h"=>`($(q).map V.ref)
  | "i"=>`(some (.ref $q))
  | "j"=>`(some (.int $q))
  | "l"=>`(some (.int ($(q) : Int)))
  | _=>Lean.Macro.throwUnsupported
 | _=>Lean.Macro.throwUnsupported
local macro_rules | `($x.$y:ident)=>match y.getId with
 | .str p s=>
  let m:=Lean.mkIdentFrom y
  match s with
  | "c"=>`($(x).$(m (.str p "length")))
  | "d"=>`($(x).$(m (p++`heap.objs.size)))
  | "e"=>`($(x).$(m (p++`objs.size)))
  | "f"=>`($(x).$(m (.str p "map")) V.int)
  | "h"=>`($(x).$(m (.str p "map")) V.ref)
  | _=>Lean.Macro.throwUnsupported
 | _=>Lean.Macro.throwUnsupported
local macro_rules | `(W! $x*)=>`(bW P w K mg base (bO P w) $x*)
local macro_rules | `(tactic| exists $a,$x:ident,$y:ident)=>`(tactic| refine $a (λvs H Q E h=>?_) λf $x A o s H vs Q E $y h=>?_)
local macro_rules | `(tactic| exists 0,$x:ident,$y:ident)=>`(tactic| first | (refine ⟨by rw[zak];simp,λ$x $y=>?_⟩) | (intro $x $y))
set_option hygiene true
local macro_rules | `(tactic| ext $p*)=>if p.size==0 then `(tactic| walk_at "") else do
 let r<-`(tactic| rintro $p*)
 let mut t:Array (Lean.TSyntax `tactic):=#[]
 for x in p do
  let y:=Lean.mkIdent `_q9
  match x with
  | `(rintroPat|$z:rcasesPat)=>match <-qPr 9 z with
   | `(#[$xs,*])=>t:=(t.push (<-`(tactic| intro $y:ident))).push (<-qPe 9 xs.getElems y)
   | `($z:ident)=>
    t:=t.push (<-`(tactic| intro $(if z.getId==`rfl then y else z):ident))
    if z.getId==`rfl then t:=t.push (<-`(tactic| subst $y:ident))
   | _=>t:=t.push (<-`(tactic| intro _))
  | _=>Lean.Macro.throwUnsupported
 `(tactic| first | ($[$t:tactic];*) | $r:tactic)
local macro_rules | `(tactic| ext ($p:rcasesPatMed : $e))=>`(tactic| obtain $p:rcasesPatMed:=$e)
local macro_rules | `(tactic| ext ($p:rcasesPat : $e))=>match p with
 | `(rcasesPat|$x:ident)=>`(tactic| by_cases $x:ident : $e)
 | _=>Lean.Macro.throwUnsupported
local macro_rules | `(~~~$x)=>`(by simpa using $x)
local macro_rules | `($a>>$b)=>do
 let r<-(qPf 9 a).mapM fun t=>`(Lean.Parser.Tactic.rwRule|$t:term)
 `(by rw[$r,*];exact $b)
local macro_rules | `(tactic| erw[$r,*])=>match r.getElems.back? with
 | some k=>match k with
  | `(Lean.Parser.Tactic.rwRule|$t:term)=>do
   let q:=r.getElems.pop
   `(tactic| (rw[$q,*];exact $t))
  | _=>Lean.Macro.throwUnsupported
 | _=>Lean.Macro.throwUnsupported
open List renaming length_map->zaa,getElem?_eq_some_iff->zab,getElem?_eq_getElem->zac,mem_cons_of_mem->zae,mem_of_getElem?->zag,getD_eq_getElem?_getD->zah,mem_singleton->zai,mem_append->zal,mem_cons_self->zan,getElem?_map->zao,mem_map->zaq,map_append->zat,nodup_cons->zau,length_append->zav,mem_cons->zaw,mem_range->zaD,mem_flatMap->zaG,mem_iff_getElem->zaH,length_take->zaL,getElem?_append_right->zaO,mem_append_right->zaP,mem_iff_getElem?->zaS,mem_append_left->zaT,getElem?_append_left->zaU,not_mem_nil->zaV,size_toArray->zaW,mem_flatten->zbb,length_singleton->zbd,nodup_append->zbf,take_length->zbg,length_cons->zbi,getElem_mem->zbo,mem_cons->zbp,pairwise_iff_getElem->zbr,map_cons->zbx,length_range->zby,length_drop->zbz,mem_filter->zbC,getElem?_eq_none->zbR,idxOf_lt_length_of_mem->zbW,take_of_length_le->zca,flatten_cons->zcb,drop_eq_getElem_cons->zcc,length_pos_iff->zce,pairwise_map->zcg,pairwise_flatten->zch,flatMap_append->zcj,range_succ->zcn,getElem_inj->zco,length_set->zcq,map_congr_left->zcr,flatMap_cons->zcs,flatten_append->zct,append_assoc->zcu,nodup_iff_pairwise_ne->zcw,nodup_iff_pairwise_ne->zcz,take_append_drop->zcA,cons_append->zcF,length_pos_of_mem->zcJ,mem_of_mem_take->zcO,filter_append->zcS,filter_cons_of_pos->zcW,filter_cons_of_neg->zcX,getElem?_set->zda,append_nil->zdd,perm_append_singleton->zdg,getElem?_set_ne->zdi,flatten_singleton->zdl,filter_cons->zdu,idxOf_cons->zdx,nil_append->zdA,erase_cons_head->zdE,getElem?_drop->zdG,pairwise_flatMap->zdH,getElem?_set_self->zdI,range_succ_eq_map->zdL,length_reverse->zdQ,mem_or_eq_of_mem_set->zdR,getElem_idxOf->zdY,map_singleton->zea,idxOf_lt_length_iff->zeb,mem_of_mem_drop->zef,find?_cons->zei,length_nil->zej,pairwise_cons->zel,erase_append_right->zem,take_succ->zer,ext_getElem->zes,length_eq_zero_iff->zeu,ext_getElem?->zez,nodup_append->zeC,length_filter_le->zeK,append_of_mem->zeM,getElem_range->zeN,map_drop->zeQ,map_take->zeR,nodup_range->zeS,getElem_map->zeT,exists_mem_of_ne_nil->zeV,getElem?_append->zfe,countP_eq_zero->zfg,map_map->zfl,pairwise_map->zfo,mem_filter->zft,length_zipWith->zfx
open PySem renaming wpAny_bind->zad,sizeLine_eq->zak,wpAny_pure->zay,wpAny_mono->zbK,wpAny_loadPart'->zbQ,wpAny_holding->zbS,plainId_quiet->zci,codeAny_builtin->zck,wpAny_truthy_bool->zcp,builtinLookup_eq_fast->zcy,sizeLine_eq->zcE,wpAny_seqItems->zcG,wpAny_typeNameOfWhole_keyiter->zcI,wpAny_callSpecial?_slot->zcM,wpAny_updateSeq->zcN,wpAny_call_entry->zcT,wpAny_passesOwn->zdj,wpAny_typeNameOf_keyiter->zdo,mem_of_lookup->zdq,wpAny_specialOf->zdB,typeLookup_type->zdF,wpAny_newObj_type->zdJ,call_meets->zdM,wpAny_of_eq->zdO,wpAny_field->zdP,wpAny_Call_Name_kw->zeh,tupleKind_room_in1->zek,wpAny_pyIter_rangeiter->zex,wpAny_pyIter_list->zey,wpAny_tryCatch->zeB,wpAny_isOneOf_keyiter->zeI,wpAny_pyIter_zip->zeJ,wpAny_letGo->zeP,wpAny_execs_nil->zeW,wpAny_typeOf->zfk
open Nat renaming le_refl->zaf,add_mod_right->zax,mod_eq_of_lt->zaz,mod_lt->zaI,lt_of_lt_of_le->zaQ,zero_le->zaR,le_trans->zaX,lt_of_le_of_lt->zaY,ne_of_lt->zba,lt_irrefl->zbq,lt_succ_of_lt->zbt,add_zero->zbu,lt_succ_self->zbv,le_add_right->zbw,mul_le_mul->zbE,mul_le_mul_right->zbG,mod_mod->zbJ,le_of_lt->zbL,ne_of_gt->zbM,add_mod->zbU,le_mul_of_pos_left->zbV,zero_add->zcl,add_sub_cancel->zcB,sub_self->zcD,lt_trichotomy->zcL,mod_eq_sub_mod->zcV,lt_trans->zcZ,mul_comm->zdb,lt_or_ge->zdc,add_mul_mod_self_left->zdh,pow_le_pow_right->zdk,pow_lt_pow_right->zdm,pow_le_pow_left->zdr,le_mul_of_pos_right->zdt,add_comm->zdy,mod_self->zdz,mod_add_mod->zdD,le_succ->zdN,mul_succ->zdV,add_assoc->zdZ,add_mul->zet,one_mul->zeU,le_antisymm->zeZ,add_mod_mod->zfa,div_add_mod->zfb,mul_le_mul_left->zfh,add_left_cancel->zfi,sub_zero->zfm,zero_mod->zfn,one_lt_two_pow->zfy,one_le_two_pow->zfz,le_succ_of_le->zfD,le_of_succ_le->zfE,not_lt->zfS
open PySem.Heap renaming get?_push_of_some->zap,lt_size->zar,get?_push_size->zaK,get?_update_other->zbF,get?_update_self->zbI,size_update->zdU,get?_push_ne->zeA
open Option.some renaming inj->zas
open Classical renaming byContradiction->zaA
open Int renaming toNat_natCast->zaB,eq_ofNat_of_zero_le->zaM,emod_lt_of_pos->zbe,emod_nonneg->zbh,natAbs_mul->zbA,zero_add->zbB,mul_pos->zbN,mul_ediv_cancel_left->zbY,toNat_of_nonneg->zcf,mul_comm->zcv,mul_fdiv_cancel_left->zcC,le_of_lt->zcQ,natAbs_neg->zds,eq_of_mul_eq_mul_right->zdS,mul_zero->zdW,ediv_le_self->zdX,ediv_nonneg->zeg,mul_nonpos_of_nonneg_of_nonpos->zep,mul_nonpos_of_nonpos_of_nonneg->zeq,gcd_le_natAbs_right->zew,mul_assoc->zeL,ne_of_gt->zfp,lt_of_le_of_lt->zfA,mul_one->zfB
open Bool renaming false_ne_true->zaE,false_eq_true->zbD,and_eq_true->zdT,beq_eq_decide_eq->zeH,eq_iff_iff->zeX
open PySem.PassesOwn renaming never->zaF
open PyProof.Rows renaming callWith_type1->zaJ
open PySem.F renaming plainAttrs_list->zaN,slot_list_append->zbj,type_list_append->zbk,plain_extend_loop->zcx,plain_min_loop->zcU,slot_dict_keyiterator_next->zdf,slot_list_extend->zec,type_list_extend->zed,slot_dict_get->zeG,slot_list_lt->zeO,slot_zip_next->zfc
open Ne renaming symm->zbl
open Array renaming length_toList->zbm,toArray_toList->zcH,getD_eq_getD_getElem?->zcR,getElem?_toList->zcY,getElem?_eq_none->zeD
open PySem.W renaming mg_none_of->zbn,kia_one->zcd
open PySem.Calls renaming spliced_cons->zbH,spliced_nil->zbT,callWith_builtin->zdw
open PySem.Around renaming under_plainId->zbO
open Prod renaming ext->zbP
open List.Pairwise renaming imp_of_mem->zbX,map->zbZ,imp->zeE
open Rat renaming intCast_mul->zcm,intCast_inj->zfd
open Option renaming isSome_iff_exists->zdn,map_some->zeY
open PySem.SeqAt.EqAt renaming int_int->zdv
open PySem.W.KasT renaming kasWp_bind->zee
open PySem.Obj renaming data_mapFields->zeo
open Nat.Coprime renaming dvd_of_dvd_mul_left->zeF
open List.Perm renaming refl->zfu
def zaj:=@if_neg
def zam:=@if_pos
def zaC:=@congrArg
def zaZ:=@decide_eq_false
def zbc:=@decide_eq_true
def zbs:=@or_false
def zcK:=@of_decide_eq_true
def zcP:=@if_false
abbrev dy:=List<|List Int
abbrev dm:=List Int
abbrev de:=List<|PySem.Addr×PySem.Obj
abbrev da:=PySem.Value->PySem.Shared->Prop
abbrev cB:=PySem.Str->Option PySem.Value
abbrev cx:=List PySem.Addr
abbrev cq:=List PySem.Value
abbrev zde:=PySem.W.Frag
def zdp:=@beq_eq_false_iff_ne
def zdC:=@beq_false_of_ne
def zdK:=@decide_eq_true_eq
def zen:=@not_or
def zfv:=@decide_eq_true_iff
def zfM:=@if_true
namespace L2
open PySem PySem.Spec PyProof.Rows
abbrev Key:=Sum Int Str
noncomputable def uB:Key->Value->Bool
 | .inl k,v=>Value.isInt k v
 | .inr x,v=>Value.isStrOf x v
noncomputable def YX(w:World):Key->Int
 | .inl k=>hashInt k
 | .inr x=>hashStr w x
theorem dA:∀{k:Key} {v:Value},uB k v=true->(∃i t,k=Sum.inl i/\v=Value.int i t)\/(∃x t,k=Sum.inr x/\v=Value.str x t)
 | .inl i,v,h=>by let#[t,e]:=Value.isInt_shape h;exact .inl #[i,t,rfl,e]
 | .inr x,v,h=>by let#[t,e]:=Value.isStrOf_shape h;exact .inr #[x,t,rfl,e]
theorem Hr(i:Int)(t:Tok):uB (.inl i) (.int i t)=true:=by simp[uB,Value.isInt]
theorem Hq(x:Str)(t:Tok):uB (.inr x) (.str x t)=true:=by simp[uB,Value.isStrOf]
theorem Q4(a b:Int):decide ((Sum.inl a:Key)=Sum.inl b)=(a==b):=by ext(e:a=b);subst e;simp;erw[zaZ<|λq=>e<|Sum.inl.inj q,(zdp.mpr e).symm]
theorem Q1(a b:Str):decide ((Sum.inr a:Key)=Sum.inr b)=decide (a=b):=by ext(e:a=b);subst e;simp;rw[zaZ λq=>e<|Sum.inr.inj q,zaZ e]
theorem Q3(a:Int)(b:Str):decide ((Sum.inl a:Key)=Sum.inr b)=false:=zaZ (λq=>nomatch q)
theorem Q2(a:Str)(b:Int):decide ((Sum.inr a:Key)=Sum.inl b)=false:=zaZ (λq=>nomatch q)
noncomputable def cg(prog:Program)(w:World):PySem.KeyKind prog w Key where
 is:=uB
 hash:=YX w
 inj:=λv a b g f=>by ext(⟨i,t,rfl,rfl⟩|⟨x,t,rfl,rfl⟩:dA g);ext(⟨j,u,rfl,e⟩|⟨y,u,rfl,e⟩:dA f);injection e with c _;rw[c];exact nomatch e;ext(⟨j,u,rfl,e⟩|⟨y,u,rfl,e⟩:dA f);exact nomatch e;injection e with c _;rw[c]
 byValue:=λk v h=>by ext(⟨i,t,rfl,rfl⟩|⟨x,t,rfl,rfl⟩:dA h)<;>rfl
 pyHash:=λd h=>by ext(⟨i,t,rfl,rfl⟩|⟨x,t,rfl,rfl⟩:dA d);exact wpAny_pyHash_int h;exact wpAny_pyHash_str h
 eqBool:=λl d h=>by ext(⟨i,t,rfl,rfl⟩|⟨x,t,rfl,rfl⟩:dA l);ext(⟨j,u,rfl,rfl⟩|⟨y,u,rfl,rfl⟩:dA d);rw[Q4]at h;exact wpAny_eqBool_int h;rw[Q3]at h;exact SeqAt.EqAt.int_str i t y u _ _ _ _ h;ext(⟨j,u,rfl,rfl⟩|⟨y,u,rfl,rfl⟩:dA d);rw[Q2]at h;exact SeqAt.EqAt.str_int x t j u _ _ _ _ h;rw[Q1]at h;exact wpAny_eqBool_str h
 «strs»:=λk x t v h=>by ext(⟨i,u,rfl,e⟩|⟨y,u,rfl,e⟩:dA h);exact nomatch e;injection e with c _;subst c;cases v<;>rfl
theorem D6(prog:Program)(w:World)(k:Key)(v:Value):(cg prog w).is k v=uB k v:=rfl
theorem BV(prog:Program)(w:World)(i:Int)(t:Tok):(cg prog w).is (.inl i) (.int i t)=true:=Hr i t
theorem BU(prog:Program)(w:World)(x:Str)(t:Tok):(cg prog w).is (.inr x) (.str x t)=true:=Hq x t
inductive V where
 | fU|bl (b:Bool) | int (i:Int) | str (x:Str) | GG (b:Array UInt8) | Lf (b:UInt64) | ref (a:Addr) | ty (n:String)
 deriving DecidableEq
noncomputable def RelV:V->Value->Prop
 | .fU,u=>u=Value.none
 | .bl b,u=>u=Value.bool b
 | .int i,u=>∃t,u=Value.int i t
 | .str x,u=>∃t,u=Value.str x t
 | .GG b,u=>∃t,u=Value.bytes b t
 | .Lf b,u=>∃t,u=Value.float b t
 | .ref a,u=>u=Value.ref a
 | .ty n,u=>u=Value.type n
abbrev Vals:List V->cq->Prop:=Paired RelV
theorem Vals.length(r:Vals xs us):xs.c=us.c:=Paired.length r
theorem Vals.get:∀{xs:List V} {a:cq} {i:Nat} {x:V},Vals xs a->xs[i]?=some x->∃u,a[i]?=some u/\RelV x u
 | _,_,_,_,.nil,e=>by simp at e
 | _,_,0,_,.cons r _,e=>by simp at e;subst e;exact#[_,rfl,r]
 | _,_,i+1,x,.cons _ t,e=>by let#[u,c,b]:=Vals.get t (~~~e);exact#[u,~~~c,b]
theorem Vals.set{x:V}{u:Value}(r:RelV x u):∀{xs:List V} {a:cq} (i:Nat),Vals xs a->Vals (xs.set i x) (a.set i u)
 | _,_,_,.nil=>.nil
 | _,_,0,.cons _ t=>.cons r t
 | _,_,i+1,.cons q t=>.cons q<|Vals.set r i t
theorem Vals.append:∀{xs ys:List V} {b a:cq},Vals xs b->Vals ys a->Vals (xs++ys) (b++a)
 | _,_,_,_,.nil,s=>s
 | _,_,_,_,.cons r t,s=>.cons r<|Vals.append t s
theorem Vals.take:∀{xs:List V} {a:cq} (n:Nat),Vals xs a->Vals (xs.take n) (a.take n)
 | _,_,0,_=>.nil
 | _,_,_+1,.nil=>.nil
 | _,_,n+1,.cons r t=>.cons r<|Vals.take n t
theorem Vals.drop:∀{xs:List V} {a:cq} (n:Nat),Vals xs a->Vals (xs.drop n) (a.drop n)
 | _,_,0,r=>r
 | _,_,_+1,.nil=>.nil
 | _,_,n+1,.cons _ t=>Vals.drop n t
noncomputable def qA:Option V->Option Value->Prop
 | some v,some u=>RelV v u
 | none,none=>True
 | _,_=>False
noncomputable def KV{κ:Type}:List (κ×V)->List (κ×Value)->Prop:=Paired λ(p:κ×V) (q:κ×Value)=>p.1=q.1/\RelV p.2 q.2
noncomputable def kV:Key->V
 | .inl i=>.int i
 | .inr x=>.str x
inductive HO where
 | lst (xs:List V)
 | tup (xs:List V)
 | dK (kvs:List (Key×V)) | dT (kvs:List (List Key×V))
 | set (S:Int->Bool) (n:Nat)
 | ins (C dx:Addr) (fs:List (Str×V))
 | own (x:Addr)
 | xd (fs:List (Str×V))
 | met (f x:Addr)
 | Yj (lo hi:Int)
 | mZ (o:Obj) (u:HO)
 | Qa (ps:Array Value)
 | ext (φ:Heap->Prop)
abbrev Hp:=Addr->Option HO
noncomputable def upd(H:Hp)(a:Addr)(o:HO):Hp:=λb=>if b=a then some o else H b
theorem ae:upd H a o a=some o:=by unfold upd;rw[zam rfl]
theorem aG(h:b≠a):upd H a o b=H b:=by unfold upd;rw[zaj h]
theorem Mz:upd (upd H a o) a u=upd H a u:=by funext b;unfold upd;split<;>rfl
theorem Ux{H:Hp}{a b:Addr}{o u:HO}(h:H a=some o)(h':H b=some u)(d:o≠u):a≠b:=by ext e;subst e;rw[h]at h';exact d<|zas h'
theorem bu{H:Hp}{a b:Addr}{o:HO}(h:H a=some o)(h':H b=none):a≠b:=by ext e;subst e;rw[h]at h';cases h'
section
variable (P:Program) (w:World)
noncomputable def bU(H:Hp)(h:Heap)(a:Addr):HO->Prop
 | .lst xs=>xs.c<=sizeLine/\∃(c:cq) (n:Nat),Vals xs c/\h.get? a=some { cls:=.type "list",data:=.seq c.toArray n }
 | .tup xs=>xs.c<=sizeLine/\∃c:cq,Vals xs c/\IsTup h a c.toArray
 | .dK kvs=>kvs.c<=sizeLine/\(a==sysModules)=false/\∃vs,KV kvs vs/\h.DictOf (cg P w) a vs
 | .dT kvs=>kvs.c<=sizeLine/\(a==sysModules)=false/\∃xs:List (List Key×Addr×Value),
   Paired (λ(p:List Key×V) (q:List Key×Addr×Value)=>p.1=q.1/\H q.2.1=some (.tup<|p.1.map kV)/\RelV p.2 q.2.2) kvs xs/\
   ∃o e i,h.get? a=some o/\o.ExactDict/\o.data=.dict e i/\e.toList=xs.map (entryOfKey<|tupleKind<|cg P w)/\(xs.map (·.1)).Nodup
 | .set S n=>h.SetOf (intKind P w) a S n
 | .ins C dx fs=>H dx=some (.own a)/\fs.c<=1000/\dx≠a/\h.get? a=some (PySem.W.instObj C dx)/\
   ∃b,h.Ns1 dx b/\(∀f,qA (fs.lookup f)<|b f)/\PySem.Within b (fs.map (·.1))
 | .own _=>∃o,h.get? a=some o
 | .xd fs=>∃b,h.Ns1 a b/\∀f,qA (fs.lookup f)<|b f
 | .Yj lo hi=>∃t u v,h.get? a=some { cls:=.type "range",data:=.fields #[.int lo t,.int hi u,.int 1 v,] }
 | .mZ o u=>h.get? a=some o/\bU H h a u
 | .Qa ps=>h.get? a=some { cls:=.none,data:=.fields ps }
 | .met f x=>h.get? a=some (PySem.W.methodObj (.ref f)<|.ref x)
 | .ext φ=>φ h/\(∃o,h.get? a=some o)/\∀d g:Heap,φ d->(∀o,d.get? a=some o->g.get? a=some o)->φ g
noncomputable def mT(H:Hp)(h:Heap):Prop:=∀a o,H a=some o->bU P w H h a o
end
section
variable {P:Program} {w:World} {H H':Hp} {h h':Heap} {a:Addr} {o:HO}
theorem bU.lt(x:bU P w H h a o):a<h.e:=by
 cases o with
 | lst xs=>obtain⟨_,_,_,_,e⟩:=x;exact zar e
 | tup xs=>obtain⟨_,_,_,p⟩:=x;exact p.lt
 | dK b=>obtain⟨_,_,_,_,o,_,_,e,_⟩:=x;exact zar e
 | dT b=>obtain⟨_,_,_,_,o,_,_,e,_⟩:=x;exact zar e
 | set S n=>obtain⟨o,_,_,_,e,_⟩:=x;exact zar e
 | ins C g c=>obtain⟨_,_,_,e,_⟩:=x;exact zar e
 | own y=>obtain⟨_,e⟩:=x;exact zar e
 | xd c=>obtain⟨_,⟨_,_,_,e,_⟩,_⟩:=x;exact zar e
 | Yj lo d=>obtain⟨_,_,_,e⟩:=x;exact zar e
 | mZ i u=>obtain⟨e,_⟩:=x;exact zar e
 | Qa j=>exact zar<|show h.get? a=some _ from x
 | met f y=>exact zar<|show h.get? a=some _ from x
 | ext k=>obtain⟨_,⟨_,e⟩,_⟩:=x;exact zar e
theorem Paired.BY{d c:Type}{F G:d->c->Prop}:∀{l₁:List d} {l₂:List c},Paired F l₁ l₂->(∀a b,F a b->G a b)->Paired G l₁ l₂
 | _,_,.nil,_=>.nil
 | _,_,.cons r t,f=>.cons (f _ _ r)<|Paired.BY t f
theorem bU.lA(x:bU P w H h a o)(k:∀b u,(b=a\/H b=some (.own a))->h.get? b=some u->h'.get? b=some u)(I:∀b,H b=some (.own a)->H' b=some (.own a))(B:∀b xs,H b=some (.tup xs)->H' b=some (.tup xs)):bU P w H' h' a o:=by
 induction o with
 | lst xs=>obtain⟨z,l,n,r,e⟩:=x;exact#[z,l,n,r,k _ _ (.inl rfl) e]
 | tup xs=>obtain⟨z,l,r,g,e,c⟩:=x;exact#[z,l,r,g,k _ _ (.inl rfl) e,c]
 | dK m=>obtain⟨z,y,vs,r,g,i,j,e,c⟩:=x;exact#[z,y,vs,r,g,i,j,k _ _ (.inl rfl) e,c]
 | dT m=>
  let#[z,y,xs,r,g,i,j,e,c]:=x;exact#[z,y,xs,Paired.BY r λp q z=>#[z.1,B _ _ z.2.1,z.2.2],g,i,j,k _ _ (.inl rfl) e,c]
 | set S n=>obtain⟨g,i,j,t,e,c⟩:=x;exact#[g,i,j,t,k _ _ (.inl rfl) e,c]
 | ins C L E=>
  let#[d,z,G,e,s,#[A,i,j,F,c],r]:=x;exact#[I _ d,z,G,k _ _ (.inl rfl) e,s,#[A,i,j,k _ _ (.inr d) F,c],r]
 | own y=>obtain⟨g,e⟩:=x;exact#[g,k _ _ (.inl rfl) e]
 | xd E=>obtain⟨s,⟨A,i,j,e,c⟩,r⟩:=x;exact#[s,#[A,i,j,k _ _ (.inl rfl) e,c],r]
 | Yj lo K=>obtain⟨t,u,v,e⟩:=x;exact#[t,u,v,k _ _ (.inl rfl) e]
 | mZ g u D=>obtain⟨e,q⟩:=x;exact#[k _ _ (.inl rfl) e,D q]
 | Qa M=>
  let e:=x;exact k a _ (.inl rfl) e
 | met f y=>
  let e:=x;exact k a _ (.inl rfl) e
 | ext N=>obtain⟨p,⟨o,e⟩,st⟩:=x;exact#[st _ _ p λo q=>k _ _ (.inl rfl) q,#[o,k _ _ (.inl rfl) e],st]
theorem mT.lt(x:mT P w H h)(e:H a=some o):a<h.e:=(x a o e).lt
theorem mT.fresh(x:mT P w H h)(e:h.e<=a):H a=none:=by
 cases q:H a with
 | none=>rfl
 | some u=>exact absurd (zaQ (x.lt q) e)<|zbq _
theorem mT.kept(x:mT P w H h)(k:∀b u,h.get? b=some u->h'.get? b=some u):mT P w H h':=λa o e=>
 (x a o e).lA (λb u _ q=>k b u q) (λ_ q=>q) λ_ _ q=>q
theorem mT.laid(x:mT P w H h)(k:∀b u,h.get? b=some u->h'.get? b=some u)(i:h.e<=a)(d:bU P w (upd H a o) h' a o):mT P w (upd H a o) h':=λb u e=>by let g:=x.fresh i;ext(f:b=a);subst f;rw[ae]at e;cases e;exact d;rw[aG f]at e;exact(x b u e).lA (λc v _ q=>k c v q) (λc q=>by erw[aG<|bu q g,q]) λc xs q=>by erw[aG<|bu q g,q]
end
noncomputable def Rd(H:Hp)(a:Addr)(u:HO):Prop:=H a=some u\/∃o,H a=some (.mZ o u)
theorem Rd.ok(r:Rd H a u)(x:mT P w H h):bU P w H h a u:=by ext(r|⟨o,r⟩:r);exact x a u r;let#[_,q]:=x a _ r;exact q
noncomputable def Wr:Option HO->Prop
 | some (.lst _)=>True
 | some (.dK _)=>True
 | some (.dT _)=>True
 | some (.set _ _)=>True
 | some (.ins _ _ _)=>True
 | some (.ext _)=>True
 | _=>False
theorem mT.write(s:mT P w H h)(m:Wr<|H x)(i:e=x\/H e=some (.own x))(k:∀b u,b≠e->h.get? b=some u->h'.get? b=some u)(o:∃u,h'.get? e=some u)(g:bU P w (upd H x o') h' x o'):mT P w (upd H x o') h':=λb u q=>by
 let l:∀c y,H c=some (.own y)->c≠x:=λc y r z=>by subst z;rwa[r]at m
 let p:∀c xs,H c=some (.tup xs)->c≠x:=λc xs r z=>by subst z;rwa[r]at m
 ext(a:b=x);subst a;rw[ae]at q;cases q;exact g;rw[aG a]at q;ext(d:b=e);let j:H b=some (.own x):=by ext(z|z:i);exact absurd (d.trans z) a;erw[d,z]
 rw[q]at j;cases j;let#[v,n]:=o;exact#[v,d>>n];refine(s b u q).lA (λc v f r=>k c v ?_ r) (λc r=>by erw[aG<|l c b r,r]) λc xs r=>by erw[aG<|p c xs r,r]
 ext(rfl|f:f);exact d;ext rfl;ext(z|z:i);exact l c b f z;rw[f]at z;cases z;exact a rfl
structure Un(fs ex:cx)(H H':Hp)(h h':Heap):Prop where
 keep:∀b o,h.get? b=some o->H b=none->b∉fs->b∉ex->h'.get? b=some o
 slot:∀b o,h.get? b=some o->H b=none->b∈fs->b∉ex->∃sl,h'.get? b=some { o with slots:=sl }
 free:∀b o,h.get? b=some o->H b=none->b∉ex->H' b=none
 there:∀b o,h.get? b=some o->b∉ex->∃o',h'.get? b=some o'
 ym:∀b xs,H b=some (.tup xs)->H' b=some (.tup xs)
 we:∀b o u,H b=some (.mZ o u)->H' b=some (.mZ o u)
 yo:∀b ps,H b=some (.Qa ps)->∃more,H' b=some (.Qa<|ps++more)
section
variable {fs VP ex ex':cx} {H H1 H2:Hp} {h h1 h2 h':Heap} {a x e:Addr} {o:HO}
theorem Un.any(u:Un fs ex H H1 h h1)(q:h.get? b=some ob)(n:H b=none)(c:b∉ex):∃f,h1.get? b=some { ob with slots:=f }:=by ext(d:b∈fs);exact u.slot b ob q n d c;exact#[ob.slots,u.keep b ob q n d c]
theorem Un.kept(k:∀b u,h.get? b=some u->h'.get? b=some u):Un fs ex H H h h':=
 #[λb c q _ _ _=>k b c q,λb c q _ _ _=>#[c.slots,k b c q],λ_ _ _ n _=>n,λb c q _=>#[c,k b c q],λ_ _ q=>q,λ_ _ _ q=>q,λ_ d q=>#[#[],by rw[q];simp]]
theorem Un.refl:Un fs ex H H h h:=Un.kept λ_ _ q=>q
theorem Un.laid(k:∀b u,h.get? b=some u->h'.get? b=some u)(d:h.e<=a)(c:H a=none):Un fs ex H (upd H a o) h h' where
 keep:=λb u q _ _ _=>k b u q
 slot:=λb u q _ _ _=>#[u.slots,k b u q]
 free:=λb u q n _=>by erw[aG<|zba<|zaQ (zar q) d,n]
 there:=λb u q _=>#[u,k b u q]
 ym:=λb xs q=>by erw[aG<|bu q c,q]
 we:=λb u xs q=>by erw[aG<|bu q c,q]
 yo:=λb f q=>#[#[],by rw[aG<|bu q c,q];simp]
theorem Un.write(d:Wr<|H x)(l:e=x\/H e=some (.own x))(k:∀b u,b≠e->h.get? b=some u->h'.get? b=some u)(j:∃u,h'.get? e=some u):Un fs ex H (upd H x o) h h':=by
 let i:∀b,H b=none->b≠x:=λb n z=>by subst z;rwa[n]at d
 let f:∀b,H b=none->b≠e:=λb n z=>by subst z;ext(r|r:l);exact i b n r;rw[n]at r;cases r
 let c:∀b u,H b=some u->¬Wr (some u)->b≠x:=λb u q nm z=>by subst z;rw[q]at d;exact nm d
 refine#[λb u q n _ _=>k b u (f b n) q,λb u q n _ _=>#[u.slots,k b u (f b n) q],λb u q n _=>by erw[aG<|i b n,n],λb u q _=>?_,
  λb xs q=>by erw[aG<|c b _ q λz=>z,q],λb u xs q=>by erw[aG<|c b _ q λz=>z,q],λb m q=>#[#[],by rw[aG<|c b _ q λz=>z,q];simp]]
 ext(g:b=e);subst g;exact j;exact#[u,k b u g q]
end
noncomputable def WQ(h:Heap)(H:Hp):cx:=(List.range h.e).filter λa=>(H a).isSome
noncomputable def zL(h:Heap)(H:Hp):Heap:=PySem.W.hideAll h<|WQ h H
theorem HD(h:Heap)(H:Hp):(zL h H).e=h.e:=PySem.W.hideAll_size _ _
theorem K0(e:h.get? b=some o)(n:H b=none):(zL h H).get? b=some o:=
 PySem.W.hideAll_get _ e λa=>by let q:=(zbC.mp a).2;rw[n]at q;simp at q
theorem Nm(e:(zL h H).get? b=some o):h.get? b=some o/\H b=none:=by
 let a:=PySem.W.of_hideAll (WQ h H) e;refine#[a,?_];cases q:H b with
 | none=>rfl
 | some x=>
  let z:(zL h H).get? b=none:=PySem.W.hideAll_none (WQ h H)<|zbC.mpr #[zaD.mpr<|zar a,by simp[q]];rw[z]at e;cases e
noncomputable def Ol(g h:Heap)(L:Addr):de:=(List.range h.e).filterMap λa=>if a=L\/(g.get? a).isSome=true then none else(h.get? a).map λo=>(a,o)
noncomputable def rest(g h:Heap)(L d:Addr):de:=(Ol g h L).filter λp=>decide<|p.1≠d
structure Mod(K:zde)(mg:cB)(base:Heap):Prop where
 YW:K.In base
 glob:base.Ns mainGlobals mg
 blt:∃mb,base.Ns builtinsNs mb/\∀x:Str,x≠ "__name__"->mb x=bootBuiltins x
 nolimit:base.NoLimit
structure Cx where
 prog:Program
 w:World
 K:zde
 mg:Str->Option Value
 base:Heap
 A:Around
 N:List Str
 s₀:Shared
 H₀:Hp
 env:Env
 outer:List Env
 stack:List Env
 ex:cx
 fn:Str->Bool
 calm:Bool
 pn:de
 xe:Value->Shared->Prop
noncomputable def Cz(l:List Env):cx:=l.filterMap (·.frame)
abbrev Cx.fs(X:Cx):cx:=Cz X.outer
noncomputable def XC(a:Scope)(x:Str):Prop:=a.names.lookup x=some .local\/a.names.lookup x=some .cell\/a.names.lookup x=some .free
noncomputable def Loc(a:Scope)(x:Str):Prop:=a.names.lookup x=some .local\/a.names.lookup x=some .cell
noncomputable def Look(env:Env)(h:Heap)(m:cB)(x:Str)(u:Value):Prop:=
 (env.kindOf x=some .local/\m x=some u)\/((env.kindOf x=some .cell\/env.kindOf x=some .free)/\∃c,env.cells.lookup x=some c/\h.IsCell c (some u))
structure Cx.Ok(X:Cx):Prop where
 mod:Mod X.K X.mg X.base
 kind:X.env.scope.kind=.function
 glob:X.env.globals=mainGlobals
 blt:X.env.builtins=builtinsNs
 above:X.s₀.d<=X.env.locals
 inj:∀x y c,X.env.cells.lookup x=some c->X.env.cells.lookup y=some c->x=y
 has:∀x,(X.env.kindOf x=some .cell\/X.env.kindOf x=some .free)->∃c,X.env.cells.lookup x=some c
 Wg:∀x c,X.fn x=true->X.env.cells.lookup x=some c->X.s₀.d<=c
 hd:X.calm=true->X.A.handled=none
 frames:X.A.frames=some X.stack
 MG:X.stack=X.outer\/(X.stack=X.env::X.outer/\X.env.frame=some X.env.locals)
 exf:∀b∈X.ex,b≠X.env.locals/\∀x c,X.env.cells.lookup x=some c->c≠b
 bs:∀b o,X.base.get? b=some o->X.s₀.heap.get? b=some o/\X.H₀ b=none
 R5:X.base.e<=X.s₀.d
 Kn:∀b o,X.base.get? b=some o->b∉X.ex
 N3:∀b∈X.ex,b∉X.fs
 uR:X.s₀.heap.FunFrames X.base X.outer
 SR:∀b∈X.fs,X.H₀ b=none
structure Inv(X:Cx)(pins:de)(σ:List<|Option V)(H:Hp)(s:Shared):Prop where
 ok:X.Ok
 os:s.os=X.s₀.os
 bare:AllBare s.gens
 base:Un X.fs X.ex X.H₀ H X.s₀.heap s.heap
 loc:∃m,s.heap.Ns X.env.locals m/\∀(i:Nat) (x:Str) (v:V),X.N[i]?=some x->σ[i]?=some (some v)->XC X.env.scope x->∃u,RelV v u/\Look X.env s.heap m x u
 cell:∀x c,X.env.cells.lookup x=some c->∃v,s.heap.IsCell c v
 free:H X.env.locals=none
 kX:∀x c,X.env.cells.lookup x=some c->H c=none
 pin:∀p∈X.pn++pins,s.heap.get? p.1=some p.2/\H p.1=none/\p.1≠X.env.locals/\p.1∉X.fs/\∀v,p.2.data≠.cell v
 cw:mT X.prog X.w H s.heap
 len:σ.c=X.N.c
section
variable {X:Cx} {pins:de} {σ:List (Option V)} {H H':Hp} {s:Shared} {h':Heap}
theorem Cx.Ok.YH(a:X.Ok)(e:X.base.get? b=some o):b∉X.fs:=λc=>by let:=(a.uR.mem c).1;rw[e]at this;cases this
theorem Inv.bs(I:Inv X pins σ H s):∀b o,X.base.get? b=some o->s.heap.get? b=some o/\H b=none:=λb o e=>
 #[I.base.keep b o (I.ok.bs b o e).1 (I.ok.bs b o e).2 (I.ok.YH e)<|I.ok.Kn b o e,I.base.free b o (I.ok.bs b o e).1 (I.ok.bs b o e).2<|I.ok.Kn b o e]
theorem Inv.bk(I:Inv X pins σ H s):∀b o,X.base.get? b=some o->s.heap.get? b=some o:=λb o e=>(I.bs b o e).1
theorem Inv.mod(I:Inv X pins σ H s):Mod X.K X.mg X.base:=I.ok.mod
theorem Inv.AB(I:Inv X pins σ H s):X.K.In s.heap:=I.ok.mod.YW.keeps I.bk
theorem Inv.lt(I:Inv X pins σ H s):X.env.locals<s.d:=let ⟨_,hn,_⟩:=I.loc;hn.lt
theorem Inv.sz(I:Inv X pins σ H s):X.s₀.d<=s.d:=zaX I.ok.above<|zbL I.lt
theorem Inv.YG(I:Inv X pins σ H s){a:Addr}(h:s.d<=a):a∉X.fs:=λc=>by let#[_,o,b,_]:=I.ok.uR.mem c;exact absurd (zaQ (zar b)<|zaX I.sz h)<|zbq _
theorem Inv.RV(I:Inv X pins σ H s):∀x c,X.env.cells.lookup x=some c->c≠X.env.locals:=λx c e z=>by let#[v,o,a,b]:=I.cell x c e;let#[m,#[g,i,h,d,f,_],_]:=I.loc;rw[z,d]at a;cases a;rw[f]at b;cases b
theorem Inv.uR(I:Inv X pins σ H s):s.heap.FunFrames X.base X.outer:=by
 let all:∀(l:List Env),(∀b∈Cz l,b∈X.fs)->X.s₀.heap.FunFrames X.base l->s.heap.FunFrames X.base l:=by
  ext l;induction l with
  | nil=>intro _ _;trivial
  | cons env r k=>
   ext f g;let#[h,#[L,o,a,i,m,n],j]:=g;let d:=f L (by unfold Cz;erw[filterMap_cons,a,zan]);let#[p,e]:=I.base.slot L o m (I.ok.SR L d) d λz=>I.ok.N3 L z d;exact#[h,#[L,_,a,i,e,n],k (λb c=>f b<|by unfold Cz;erw[filterMap_cons,a,zae _ c]) j]
 exact all X.outer (λ_ c=>c) I.ok.uR
theorem Inv.stack(I:Inv X pins σ H s):s.heap.FunFrames X.base X.stack:=by ext(e|⟨e,a⟩:I.ok.MG);rw[e];exact I.uR;rw[e];let#[m,b,_]:=I.loc;refine .cons (by rw[I.ok.kind];decide) a b ?_ I.uR;exact Heap.get?_none_of_le<|zaX I.ok.R5 I.ok.above
theorem Inv.sF(I:Inv X pins σ H s):∀b∈Cz X.stack,b∈X.env.locals::X.fs:=λb a=>by ext(e|⟨e,c⟩:I.ok.MG);rw[e]at a;exact zae _ a;rw[e]at a;unfold Cz at a;rwa[filterMap_cons,c]at a
theorem Inv.EX(I:Inv X pins σ H s):∀b∈Cz X.stack,H b=none:=λb a=>by ext(e|a:zaw.mp<|I.sF b a);rw[e];exact I.free;let#[_,o,c,_]:=I.ok.uR.mem a;exact I.base.free b o c (I.ok.SR b a) λz=>I.ok.N3 b z a
theorem Inv.step{N:Array GenState}{t':Nat}{Y:Drawn}{ch:cx}(I:Inv X pins σ H s)(B:∀b∈ch,(b∈X.ex\/X.s₀.d<=b)/\b≠X.env.locals/\(∀x c,X.env.cells.lookup x=some c->c≠b)/\∀p∈X.pn++pins,p.1≠b)(keep:∀b o,b≠X.env.locals->b∉X.fs->b∉ch->s.heap.get? b=some o->H b=none->h'.get? b=some o)(slot:∀b o,b≠X.env.locals->b∈X.fs->b∉ch->s.heap.get? b=some o->H b=none->∃F,h'.get? b=some { o with slots:=F })(free:∀b o,b∉ch->s.heap.get? b=some o->H b=none->H' b=none)(there:∀b o,b∉ch->s.heap.get? b=some o->∃j,h'.get? b=some j)(ym:∀b xs,H b=some (.tup xs)->H' b=some (.tup xs))(we:∀b o u,H b=some (.mZ o u)->H' b=some (.mZ o u))(yo:∀b D,H b=some (.Qa D)->∃more,H' b=some (.Qa<|D++more))(ns:∀m,s.heap.Ns X.env.locals m->h'.Ns X.env.locals m)(Z:mT X.prog X.w H' h')(W:AllBare N) :
  Inv X pins σ H' { s with heap:=h',gens:=N,drawn:=Y,toks:=t' }:=by
 let t:∀b o,X.s₀.heap.get? b=some o->b≠X.env.locals:=λb o e=>zba<|zaQ (zar e) I.ok.above;let C:∀b o,X.s₀.heap.get? b=some o->b∉X.ex->b∉ch:=λb o e a g=>by ext(z|z:(B b g).1);exact a z;exact absurd (zaQ (zar e) z)<|zbq _
 let cellK:∀x c,X.env.cells.lookup x=some c->∀v,s.heap.IsCell c v->h'.IsCell c v:=λx c e v ⟨o,h,G⟩=>by let A:c∉ch:=λz=>(B c z).2.2.1 x c e rfl;ext(K:c∈X.fs);let#[F,q]:=slot c o (I.RV x c e) K A h<|I.kX x c e;exact#[_,q,G];exact#[o,keep c o (I.RV x c e) K A h<|I.kX x c e,G]
 refine#[I.ok,I.os,W,#[λb o e n g a=>?_,λb o e n g a=>?_,λb o e n a=>?_,λb o e a=>?_,λb xs e=>ym b xs<|I.base.ym b xs e,λb o xs e=>we b o xs<|I.base.we b o xs e,λb D e=>?_],?_,λx c e=>?_,?_,λx c e=>?_,λp M=>?_,Z,I.len];exact keep b o (t b o e) g (C b o e a) (I.base.keep b o e n g a)<|I.base.free b o e n a;let#[F,f]:=I.base.slot b o e n g a;let#[E,y]:=slot b _ (t b o e) g (C b o e a) f<|I.base.free b o e n a;exact#[E,y];let#[j,f]:=I.base.there b o e a;exact free b j (C b o e a) f<|I.base.free b o e n a;let#[j,f]:=I.base.there b o e a;exact there b j (C b o e a) f;let#[U,f]:=I.base.yo b D e;let#[Q,y]:=yo b _ f;exact#[U++Q,by rw[y,Array.append_assoc]];let#[m,R,P]:=I.loc;refine#[m,ns m R,λi x v f y S=>?_];let#[u,r,l]:=P i x v f y S;refine#[u,r,?_];ext(l|⟨k,c,e,z⟩:l);exact .inl l;exact .inr #[k,c,e,cellK x c e _ z];let#[v,z]:=I.cell x c e;exact#[v,cellK x c e v z];let#[m,#[o,_,_,h,_],_]:=I.loc;exact free _ o (λz=>(B _ z).2.1 rfl) h I.free;let#[v,o,h,G]:=I.cell x c e;exact free c o (λz=>(B c z).2.2.1 x c e rfl) h<|I.kX x c e;let#[e,n,O,L,d]:=I.pin p M;let A:p.1∉ch:=λz=>(B p.1 z).2.2.2 p M rfl;exact#[keep p.1 p.2 O L A e n,free p.1 p.2 A e n,O,L,d]
theorem Inv.un(I:Inv X pins σ H s)(u:Un X.fs [] H H' s.heap h')(k:mT X.prog X.w H' h'):Inv X pins σ H' { s with heap:=h',toks:=t' }:=by let#[m,#[o,v,q,d,r],_]:=id I.loc;let#[p,f]:=u.any d I.free A?;exact I.step (ch:=[]) (λ_ z=>nomatch z) (λb o _ a _ e n=>u.keep b o e n a A?) (λb o _ a _ e n=>u.slot b o e n a A?) (λb o _ e n=>u.free b o e n A?) (λb o _ e=>u.there b o e A?) u.ym u.we u.yo (λt j=>by let#[l,i,g,c,h]:=j;rw[d]at c;cases c;exact#[_,i,g,f,h]) k I.bare
theorem Inv.call(I:Inv X pins σ H s)(u:Un (Cz X.stack) ch H H' s.heap h')(v:mT X.prog X.w H' h')(j:AllBare g')(g:∀b∈ch,(b∈X.ex\/X.s₀.d<=b)/\b≠X.env.locals/\(∀x c,X.env.cells.lookup x=some c->c≠b)/\∀p∈X.pn++pins,p.1≠b) :
  Inv X pins σ H' { s with heap:=h',gens:=g',drawn:=d',toks:=t' }:=by
 let#[m,#[o,D,B,h,r],_]:=id I.loc;let#[A,d]:=u.any h I.free λz=>(g _ z).2.1 rfl;exact I.step g (λb o d i a e n=>u.keep b o e n (λz=>(zaw.mp<|I.sF b z).elim d i) a) (λb o _ _ a e n=>u.any e n a) (λb o a e n=>u.free b o e n a) (λb o a e=>u.there b o e a) u.ym u.we u.yo (λC t=>by let#[y,q,k,f,l]:=t;rw[h]at f;cases f;exact#[_,q,k,d,l]) v j
theorem Inv.turned(I:Inv X pins σ H s)(k:∀b o,b≠it->s.heap.get? b=some o->h'.get? b=some o)(w:H it=none)(f:it≠X.env.locals)(h:it∈X.ex\/X.s₀.d<=it)(y:∀x c,X.env.cells.lookup x=some c->c≠it)(i:∀p∈X.pn++pins,p.1≠it):Inv X pins σ H { s with heap:=h',toks:=t' }:=by
 let d:∀b u,H b=some u->b≠it:=λb u e z=>by rw[z,w]at e;cases e
 refine I.step (ch:=[it]) (λb g=>?_) (λb o _ _ a e _=>k b o (λz=>a<|by simp[z]) e) (λb o _ _ a e _=>#[o.slots,k b o (λz=>a<|by simp[z]) e]) (λ_ _ _ _ n=>n)
  (λb o a e=>#[o,k b o (λz=>a<|by simp[z]) e]) (λ_ _ e=>e) (λ_ _ _ e=>e) (λb B e=>#[#[],by rw[e];simp]) (λm t=>?_) (λb u e=>?_) I.bare
 let e:b=it:= ~~~g
 subst e;exact#[h,f,y,i];let#[o,l,j,A,r]:=t;exact#[o,l,j,k _ o (zbl f) A,r];refine(I.cw b u e).lA (λc v a q=>k c v ?_ q) (λ_ q=>q) λ_ _ q=>q;ext(z|z:a);rw[z];exact d b u e;exact d c _ z
theorem Inv.tok(I:Inv X pins σ H s)(t:Nat):Inv X pins σ H { s with toks:=t }:=I.un Un.refl I.cw
theorem Inv.kept(I:Inv X pins σ H s)(k:∀b u,s.heap.get? b=some u->h'.get? b=some u):Inv X pins σ H { s with heap:=h',toks:=t' }:=I.un (Un.kept k)<|I.cw.kept k
theorem Inv.laid{a:Addr}{o:HO}{t':Nat}(I:Inv X pins σ H s)(k:∀b u,s.heap.get? b=some u->h'.get? b=some u)(d:s.d<=a)(c:bU X.prog X.w (upd H a o) h' a o) :
  Inv X pins σ (upd H a o) { s with heap:=h',toks:=t' }:=I.un (Un.laid k d<|I.cw.fresh d)<|I.cw.laid k d c
theorem Inv.write(I:Inv X pins σ H s)(d:Wr<|H x)(f:e=x\/H e=some (.own x))(k:∀b u,b≠e->s.heap.get? b=some u->h'.get? b=some u)(c:∃u,h'.get? e=some u)(a:bU X.prog X.w (upd H x o) h' x o):Inv X pins σ (upd H x o) { s with heap:=h',toks:=t' }:=I.un (Un.write d f k c)<|I.cw.write d f k c a
theorem Inv.FI(I:Inv X pins σ H s)(h:∀p∈O3,s.heap.get? p.1=some p.2/\H p.1=none/\p.1≠X.env.locals/\p.1∉X.fs/\∀v,p.2.data≠.cell v):Inv X O3 σ H s:=
 #[I.ok,I.os,I.bare,I.base,I.loc,I.cell,I.free,I.kX,λp a=>(zal.mp a).elim (λz=>I.pin p<|zaT _ z)<|h p,I.cw,I.len]
theorem BR{N:List Str}(e:N.Nodup){i j:Nat}{x:Str}(a:N[i]?=some x)(b:N[j]?=some x):i=j:=by let#[f,c]:=zab.mp a;let#[g,d]:=zab.mp b;exact(zco e).mp<|c.trans d.symm
theorem wU(I:Inv X pins σ H s)(hN:X.N.Nodup)(L:X.N[i]?=some x)(t:Loc X.env.scope x)(r:RelV v u)(h:∀U,Inv X pins (σ.set i<|some v) H U->(∃a,Heap.SameBut a s.heap U.heap/\(a=X.env.locals\/X.env.cells.lookup x=some a))->Q Unit.unit U)(hf:X.fn x=true\/X.env.scope.names.lookup x=some .local:=by first|exact .inl rfl|exact .inr rfl|assumption):wpAny M A (storeName X.env x u) Q E s:=by
 let#[m,Y,hl]:=id I.loc;let ZG:(X.env.scope.kind==.class || (X.env.scope.kind==.module&&X.env.locals != X.env.globals))=false:=by rw[I.ok.kind];rfl
 let D:i<σ.c:=I.len>>(zab.mp L).1
 let RV:=I.RV;let tracked:∀{a:Addr} {h':Heap},(∃o,s.heap.get? a=some o/\H a=none)->Heap.SameBut a s.heap h'->mT X.prog X.w H h':=λ{a h'} ha f b ob e=>by let#[_,_,Ge]:=ha;refine(I.cw b ob e).lA (λc O l q=>(f.2 c ?_).trans q) (λ_ q=>q) λ_ _ q=>q;ext rfl;ext(rfl|l:l);rw[Ge]at e;cases e;rw[Ge]at l;cases l
 ext(C|C:t);refine wpAny_storeName_local C Y (λh' Rr f=>?_) ZG;let#[oL,_,_,ac,_]:=id Y;refine h _ #[I.ok,I.os,I.bare,#[λb o e n G t=>?_,λb o e n G t=>?_,I.base.free,λb o e t=>?_,I.base.ym,I.base.we,I.base.yo],#[_,Rr,λj y W g B Z=>?_],λy c e=>?_,I.free,I.kX,λp hp=>?_,tracked #[oL,ac,I.free] f,~~~I.len] #[_,f,.inl rfl];exact(f.2 b<|zba<|zaQ (zar e) I.ok.above).trans<|I.base.keep b o e n G t;let#[sl,g]:=I.base.slot b o e n G t;exact#[sl,(f.2 b<|zba<|zaQ (zar e) I.ok.above).trans g];let#[S,g]:=I.base.there b o e t;exact#[S,(f.2 b<|zba<|zaQ (zar e) I.ok.above).trans g];ext(F:j=i);subst F;rw[L]at g;cases g;rw[zdI D]at B;cases B;exact#[u,r,.inl #[C,by simp]];rw[zdi<|zbl F]at B;let#[u',r',q]:=hl j y W g B Z;refine#[u',r',?_];ext(⟨k,e⟩|⟨k,c,e,z⟩:q);refine .inl #[k,?_];let:y≠x:=λe=>F<|BR hN g<|e▸L;simp[this,e];exact .inr #[k,c,e,z.sameBut f<|RV y c e];let#[O,z]:=I.cell y c e;exact#[O,z.sameBut f<|RV y c e];let#[e,n,R,nf,d]:=I.pin p hp;exact#[(f.2 p.1 R).trans e,n,R,nf,d];let Zx:X.fn x=true:=by ext(z|z:hf);exact z;rw[z]at C;cases C
 let#[c,l]:=I.ok.has x<|.inl C;let#[O,z]:=I.cell x c l;refine wpAny_storeName_cell I.ok.kind C l z<|λh' oJ f=>?_;let#[oc,K,Zh]:=id z;refine h { s with heap:=h' } #[I.ok,I.os,I.bare,#[λb o e n G t=>?_,λb o e n G t=>?_,I.base.free,λb o e t=>?_,I.base.ym,I.base.we,I.base.yo],#[m,Y.sameBut f<|zbl<|RV x c l,λj y W g B Z=>?_],λy P e=>?_,I.free,I.kX,λp hp=>?_,tracked #[oc,K,I.kX x c l] f,~~~I.len] #[c,f,.inr l];exact(f.2 b<|zba<|zaQ (zar e)<|I.ok.Wg x c Zx l).trans<|I.base.keep b o e n G t;let#[sl,g]:=I.base.slot b o e n G t;exact#[sl,(f.2 b<|zba<|zaQ (zar e)<|I.ok.Wg x c Zx l).trans g];let#[S,g]:=I.base.there b o e t;exact#[S,(f.2 b<|zba<|zaQ (zar e)<|I.ok.Wg x c Zx l).trans g];ext(F:j=i);subst F;rw[L]at g;cases g;rw[zdI D]at B;cases B;exact#[u,r,.inr #[.inl C,c,l,oJ]];rw[zdi<|zbl F]at B;let#[u',r',q]:=hl j y W g B Z;refine#[u',r',?_];ext(q|⟨k,P,e,z'⟩:q);exact .inl q;refine .inr #[k,P,e,z'.sameBut f ?_];ext rfl;exact F<|BR hN g<|I.ok.inj _ _ _ e l▸L;ext(HE:P=c);subst HE;exact#[_,oJ];let#[w2,z2]:=I.cell y P e;exact#[w2,z2.sameBut f HE];let#[e,n,R,nf,d]:=I.pin p hp;refine#[(f.2 p.1 ?_).trans e,n,R,nf,d];ext q;rw[q,K]at e;exact d O (by erw[<-(zas e),Zh])
theorem A3(I:Inv X pins σ H s)(e:X.N.Nodup)(d:X.N[i]?=some x)(f:Loc X.env.scope x)(r:RelV v u)(h:∀a,Inv X pins (σ.set i<|some v) H a->Q Unit.unit a)(c:X.fn x=true\/X.env.scope.names.lookup x=some .local:=by first|exact .inl rfl|exact .inr rfl|assumption):wpAny M A (storeName X.env x u) Q E s:=
 wU I e d f r (λa b _=>h a b) c
theorem Inv.Wf(I:Inv X pins σ H s)(d:s'.os=s.os)(u:Un (Cz X.stack) ch H H' s.heap s'.heap)(f:mT X.prog X.w H' s'.heap)(a:AllBare s'.gens)(g:∀b∈ch,(b∈X.ex\/X.s₀.d<=b)/\b≠X.env.locals/\(∀x c,X.env.cells.lookup x=some c->c≠b)/\∀p∈X.pn++pins,p.1≠b):Inv X pins σ H' s':=by let#[h',j,i,t',h]:=s';let e:=d;subst e;exact I.call u f a g
end
abbrev XK:=Value->Option Addr->Hp->Prop
abbrev St:=List<|Option V
abbrev VK:=V->Hp->Prop
abbrev TE:=St->Hp->VK->Prop
abbrev TT:=St->Hp->(Bool->Hp->Prop)->Prop
abbrev TA:=St->Hp->(List V->Hp->Prop)->Prop
structure Ends where
 nx:St->Hp->Prop
 rt:VK
 bk:St->Hp->Prop:=λ_ _=>False
 ct:St->Hp->Prop:=λ_ _=>False
abbrev TS:=Ends->St->Hp->Prop
noncomputable def EP(X:Cx)(pins:de)(b:St)(Q:VK)(u:Value)(c:Shared):Prop:=∃v a,Inv X pins b a c/\RelV v u/\Q v a
noncomputable def TP(X:Cx)(pins:de)(c:St)(Q:Bool->Hp->Prop)(b:Bool)(d:Shared):Prop:=∃a,Inv X pins c a d/\Q b a
noncomputable def AP(X:Cx)(pins:de)(b:St)(Q:List V->Hp->Prop)(c:cq)(d:Shared):Prop:=∃vs a,Inv X pins b a d/\Vals vs c/\Q vs a
noncomputable def SP(X:Cx)(pins:de)(D:Ends)(f:Flow)(c:Shared):Prop:=
 match f with
 | .next=>∃a b,Inv X pins a b c/\D.nx a b
 | .brk=>∃a b,Inv X pins a b c/\D.bk a b
 | .cont=>∃a b,Inv X pins a b c/\D.ct a b
 | .ret u=>∃v a b,Inv X pins a b c/\RelV v u/\D.rt v b
noncomputable def PE(X:Cx)(e:Expr)(t:TE):Prop:=
 ∀(pins:de) (s:Shared) (a:St) (H:Hp) (Q:VK),Inv X pins a H s->t a H Q->wpAny (model X.prog X.w) X.A (eval e X.env) (EP X pins a Q) X.xe s
noncomputable def PT(X:Cx)(e:Expr)(t:TT):Prop:=
 ∀(pins:de) (s:Shared) (a:St) (H:Hp) (Q:Bool->Hp->Prop),Inv X pins a H s->t a H Q->wpAny (model X.prog X.w) X.A (isTrue e X.env<|eval e X.env) (TP X pins a Q) X.xe s
noncomputable def PW(X:Cx)(e:Expr)(t:TT):Prop:=
 ∀(whole:Sem Value) (pins:de) (s:Shared) (a:St) (H:Hp) (Q:Bool->Hp->Prop),Inv X pins a H s->t a H Q->wpAny (model X.prog X.w) X.A (isTrue e X.env whole) (TP X pins a Q) X.xe s
theorem PW.pt(h:PW X e t):PT X e t:=h _
noncomputable def PA(X:Cx)(c:List Expr)(t:TA):Prop:=
 ∀(b:Pos) (pins:de) (s:Shared) (a:St) (H:Hp) (Q:List V->Hp->Prop),Inv X pins a H s->t a H Q->wpAny (model X.prog X.w) X.A (spliced<|backTo b<|starEach c X.env) (AP X pins a Q) X.xe s
noncomputable def PS(X:Cx)(st:Stmt)(t:TS):Prop:=
 ∀(pins:de) (s:Shared) (a:St) (H:Hp) (D:Ends),Inv X pins a H s->t D a H->wpAny (model X.prog X.w) X.A (exec st X.env) (SP X pins D) X.xe s
noncomputable def AL(X:Cx)(st:List Stmt)(t:TS):Prop:=
 ∀(pins:de) (s:Shared) (a:St) (H:Hp) (D:Ends),Inv X pins a H s->t D a H->wpAny (model X.prog X.w) X.A (execs st X.env) (SP X pins D) X.xe s
theorem dD{b:Type}{t:Sem b}{Q Q' : b->Shared->Prop}{M:Model}{A:Around}{s:Shared}(h:wpAny M A t Q E s)(c:∀a s,Q a s->Q' a s):wpAny M A t Q' E s:=zbK h c λ_ _ x=>x
section
variable {X:Cx}
theorem bin{a b:Expr}{k l:TE}(r:PE X a k)(B:PE X b l){pins:de}{s:Shared}{c:St}{H:Hp}{R:V->V->Hp->Prop}(I:Inv X pins c H s)(h:k c H λx j=>l c j λy d=>R x y d){m:Type}{Q:m->Shared->Prop}{f:Value->Value->Sem m}(n:∀v u i x y d,Inv X pins c d i->RelV x v->RelV y u->R x y d->wpAny (model X.prog X.w) X.A (f v u) Q X.xe i) :
  wpAny (model X.prog X.w) X.A (eval a X.env) (λv g=>wpAny (model X.prog X.w) X.A (eval b X.env) (λu e=>wpAny (model X.prog X.w) X.A (f v u) Q X.xe e) X.xe g) X.xe s:=by
 refine dD (r pins s c H _ I h) λv C ⟨x,j,t,z,q⟩=>?_;refine dD (B pins C c j _ t q) λu i ⟨y,d,D,p,o⟩=>?_;exact n v u i x y d D z p o
noncomputable def fP(i:Nat):TE:=λa H Q=>∃v,a[i]?=some (some v)/\Q v H
noncomputable def tC(v:V):TE:=λ_ H Q=>Q v H
theorem QF{i:Nat}{x:Str}{f:Pos}(o:X.N[i]?=some x)(n:XC X.env.scope x)(d:(x==("__debug__":Str))=false:=by decide)(w:(x==("__classdict__":Str))=false:=by decide):PE X (.Name x f)<|fP i:=by ext pins s p H Q I h;let#[v,e,h]:=h;let#[m,t,k]:=I.loc;let#[u,r,l]:=k i x v o e n;let b:EP X pins p Q u s:=#[v,H,I,r,h];ext(⟨a,q⟩|⟨a,c,j,g⟩:l);exact wpAny_Name (wpAny_loadName_local I.ok.kind a t q b) d;ext(a|a:a);exact wpAny_Name (wpAny_loadName_cell I.ok.kind a j g b) d;exact wpAny_Name (wpAny_loadName_free I.ok.kind a j g b w) d
theorem aj{i j pos}:PE X (.Constant (.int i) j pos)<|tC<|.int i:=λ_ _ _ H _ I h=>wpAny_Constant_int #[.int i,H,I.tok _,#[_,rfl],h]
theorem iS{b j pos}:PE X (.Constant (.bool b) j pos)<|tC<|.bl b:=λ_ _ _ H _ I h=>Constant_bool #[.bl b,H,I,rfl,h]
theorem QI{j pos}:PE X (.Constant .none j pos)<|tC .fU:=λ_ _ _ H _ I h=>Constant_none #[.fU,H,I,rfl,h]
noncomputable def Gl(X:Cx)(x:Str):Prop:=X.env.kindOf x=some .globalImplicit
theorem F1{s:Shared}{d:St}{x:Str}{a:Pos}(I:Inv X pins d H s)(c:Gl X x)(b:X.mg x=some u)(h:Q u s)(e:(x==("__debug__":Str))=false:=by decide):wpAny (model X.prog X.w) X.A (eval (.Name x a) X.env) Q E s:=
 Calls.Name_function_global I.ok.kind c (Calls.loadGlobal_global (I.ok.glob>>I.mod.glob.keeps I.bk) b h) e
theorem dM{E:da}{pins:de}{s:Shared}{e:St}{H:Hp}{x:Str}{u:Value}{a:Pos}{Q:da}(I:Inv X pins e H s)(c:Gl X x)(f:X.mg x=none)(b:bootBuiltins x=some u)(h:Q u s)(g:x≠ "__name__":=by decide)(j:(x==("__debug__":Str))=false:=by decide):wpAny (model X.prog X.w) X.A (eval (.Name x a) X.env) Q E s:=by let#[k,d,i]:=I.mod.blt;exact Calls.Name_function_global I.ok.kind c (Calls.loadGlobal_builtin (I.ok.glob>>I.mod.glob.keeps I.bk) f (I.ok.blt>>d.keeps I.bk) ((i x g).trans b) h) j
theorem Nd{x:Str}{a:Pos}(d:Gl X x)(b:X.mg x=none)(c:bootBuiltins x=some u)(r:RelV v u)(e:x≠ "__name__":=by decide)(f:(x==("__debug__":Str))=false:=by decide):PE X (.Name x a)<|tC v:=
 λ_ _ _ H _ I h=>dM I d b c #[v,H,I,r,h] e f
variable {a b:Expr} {ta tb:TE} {pos:Pos}
noncomputable def PC(X:Cx)(op:CmpOp)(a b:Expr)(t:TE):Prop:=
 ∀(pins:de) (s:Shared) (e:St) (H:Hp) (Q:VK),Inv X pins e H s->t e H Q->
  wpAny (model X.prog X.w) X.A (eval a X.env) (λv d=>wpAny (model X.prog X.w) X.A (eval b X.env) (λu c=>wpAny (model X.prog X.w) X.A (compareOp op v u) (EP X pins e Q) X.xe c) X.xe d) X.xe s
theorem Ko(b:Expr)(h:op≠.In)(c:op≠.NotIn):behindInMarks op b=false:=by
 let d:(op==CmpOp.In)=false:=by cases op<;>first|rfl|exact absurd rfl h
 let e:(op==CmpOp.NotIn)=false:=by cases op<;>first|rfl|exact absurd rfl c
 cases b<;>simp[behindInMarks,d,e]
noncomputable def TB(ta:TE):TE:=λc H Q=>ta c H λx d=>Q (.bl<|decide<|x=.fU) d
noncomputable def ON(ta:TE):TE:=λc H Q=>ta c H λx d=>Q (.bl<|!decide (x=.fU)) d
theorem RelV.BQ(r:RelV x v):(v==Value.none)=decide (x=.fU):=by
 cases x with
 | fU=>cases r;rfl
 | bl _=>cases r;rfl
 | int _=>obtain⟨t,rfl⟩:=r;rfl
 | str _=>obtain⟨t,rfl⟩:=r;rfl
 | GG _=>obtain⟨t,rfl⟩:=r;rfl
 | Lf _=>obtain⟨t,rfl⟩:=r;rfl
 | ref _=>cases r;rfl
 | ty _=>cases r;rfl
theorem JV{j pos'}(f:PE X a ta):PC X .Is a (.Constant .none j pos')<|TB ta:=by ext pins s e H Q I h;refine dD (f pins s e H _ I h) λv k ⟨x,d,g,i,c⟩=>?_;exact Constant_none<|is_none_gen #[.bl _,d,g,by rw[i.BQ];rfl,c]
theorem Nf{j pos'}(f:PE X a ta):PC X .IsNot a (.Constant .none j pos')<|ON ta:=by ext pins s e H Q I h;refine dD (f pins s e H _ I h) λv k ⟨x,d,g,i,c⟩=>?_;exact Constant_none<|isnot_none_gen #[.bl _,d,g,by rw[i.BQ];rfl,c]
noncomputable def tB(t:TE):TT:=λd H Q=>t d H λx e=>∃c,x=.bl c/\Q c e
theorem pL(h:PC X op a b t)(e:behindInMarks op b=false:=by first|exact Ko _ B! B! | rfl):PT X (.Compare a [op] [b] pos)<|tB t:=by ext pins s g H Q I k;refine wpAny_isTrue_Compare1 (dD (h pins s g H _ I k) λv p e=>dD e λu o j=>dD j λc n ⟨x,f,l,m,i⟩=>?_) e;let#[d,rfl,q]:=i;cases m;exact zcp #[f,l,q]
theorem lU(h:PE X e t)(g:∀whole,isTrue e X.env whole=(do let v <-whole;standAt e.pos;holding [v] (truthy v)):=by ext _;rfl):PT X e<|tB t:=by ext pins s f H Q I j;refine isTrue_plain (dD (h pins s f H _ I j) λv m ⟨x,c,k,l,i⟩=>?_)<|g _;let#[d,rfl,q]:=i;cases l;exact zcp #[c,k,q]
variable {tA WR:TT} {rest:List Expr}
noncomputable def TL(t u:TT):TT:=λd H Q=>t d H λc e=>if c=true then u d e Q else Q false e
noncomputable def tOr(t u:TT):TT:=λd H Q=>t d H λc e=>if c=true then Q true e else u d e Q
noncomputable def Tz(t:TT):TT:=λd H Q=>t d H λc e=>Q (!c) e
theorem pw_and1(f:PT X a tA):PW X (.BoolOp .And [a] pos) tA:=by
 ext i pins s d H Q I h;refine isTrue_and<|dD (f pins s d H Q I h) λc g e=>?_;cases c with
 | true=>exact isTrue_and_nil e
 | false=>exact e
theorem pw_or1(f:PT X a tA):PW X (.BoolOp .Or [a] pos) tA:=by
 ext i pins s d H Q I h;refine isTrue_or<|dD (f pins s d H Q I h) λc g e=>?_;cases c with
 | false=>exact isTrue_or_nil e
 | true=>exact e
theorem pw_and(l:PT X a tA)(j:PW X (.BoolOp .And (b::rest) pos) WR):PW X (.BoolOp .And (a::b::rest) pos)<|TL tA WR:=by
 ext k pins s f H Q I h;refine isTrue_and<|dD (l pins s f H _ I h) λc i ⟨e,g,d⟩=>?_;cases c with
 | true=>exact j k pins i f e Q g d
 | false=>exact#[e,g,d]
theorem pw_or(l:PT X a tA)(j:PW X (.BoolOp .Or (b::rest) pos) WR):PW X (.BoolOp .Or (a::b::rest) pos)<|tOr tA WR:=by
 ext k pins s f H Q I h;refine isTrue_or<|dD (l pins s f H _ I h) λc i ⟨e,g,d⟩=>?_;cases c with
 | true=>exact#[e,g,d]
 | false=>exact j k pins i f e Q g d
theorem y6(f:PT X a tA):PT X (.UnaryOp .Not a pos)<|Tz tA:=by ext pins s e H Q I h;exact isTrue_not<|f pins s e H (λc d=>Q (!c) d) I h
noncomputable def OQ(ta tb:TE):TE:=λd H Q=>ta d H λx e=>∃c,x=.bl c/\if c=true then tb d e Q else Q (.bl false) e
noncomputable def OM(ta:TE):TE:=λd H Q=>ta d H λx e=>∃c,x=.bl c/\Q (.bl<|!c) e
theorem zh{op}(h:PE X a t):PE X (.BoolOp op [a] pos) t:=λpins s c H Q I d=>BoolOp_one<|h pins s c H Q I d
theorem tQ(ha:PE X a ta)(hb:PE X (.BoolOp .And (b::rest) pos) tb):PE X (.BoolOp .And (a::b::rest) pos) (OQ ta tb):=by
 intro pins s σ H Q I h;refine BoolOp_and (dD (ha pins s σ H _ I h) λv s1 ⟨x,H1,I1,r1,q1⟩=>?_);obtain⟨c,rfl,q1⟩:=q1;cases r1
 refine zcp ?_;cases c with
 | true=>exact hb pins s1 σ H1 Q I1 q1
 | false=>exact⟨.bl false,H1,I1,rfl,q1⟩
theorem QH(ha:PE X a ta):PE X (.UnaryOp .Not a pos) (OM ta):=by
 intro pins s σ H Q I h;refine UnaryOp_ (dD (ha pins s σ H _ I h) λv s1 ⟨x,H1,I1,r1,q1⟩=>?_);obtain⟨c,rfl,q1⟩:=q1;cases r1
 exact not_of (zcp ⟨.bl (!c),H1,I1,rfl,q1⟩)
end
noncomputable def aI(K:zde)(H:Hp)(a:Addr)(xs:List V):Prop:=
 Rd H a (.lst xs)\/
  ∃(o:Obj) (b:Array Value) (n:Nat),K.lookup a=some o/\o.cls=.type "list"/\o.dict=none/\o.data=.seq b n/\b.size<=sizeLine/\Vals xs b.toList
noncomputable def SqT(K:zde)(H:Hp)(a:Addr)(xs:List V):Prop:=
 Rd H a (.tup xs)\/
  ∃(o:Obj) (b:Array Value) (n:Nat),K.lookup a=some o/\o.cls=.type "tuple"/\o.data=.seq b n/\b.size<=sizeLine/\Vals xs b.toList
noncomputable def aao:Value->Option V
 | .none=>some .fU
 | .bool b=>some<|.bl b
 | .int i _=>i.j
 | .str x _=>some<|.str x
 | .bytes b _=>some<|.GG b
 | .float b _=>some<|.Lf b
 | .ref a=>a.i
 | .type n=>some<|.ty n
 | _=>none
theorem RelV.abs(r:RelV x u):aao u=some x:=by
 cases x with
 | fU=>cases r;rfl
 | bl _=>cases r;rfl
 | int _=>obtain⟨t,rfl⟩:=r;rfl
 | str _=>obtain⟨t,rfl⟩:=r;rfl
 | GG _=>obtain⟨t,rfl⟩:=r;rfl
 | Lf _=>obtain⟨t,rfl⟩:=r;rfl
 | ref _=>cases r;rfl
 | ty _=>cases r;rfl
theorem RelV.inj(r:RelV x u)(q:RelV y u):x=y:=zas<|r.abs.symm.trans q.abs
theorem Vals.inj:∀{xs ys:List V} {a:cq},Vals xs a->Vals ys a->xs=ys
 | _,_,_,.nil,.nil=>rfl
 | _,_,_,.cons r t,.cons r' t'=>by rw[r.inj r',Vals.inj t t']
section
variable {X:Cx} {pins:de} {σ:St} {H:Hp} {s:Shared} {a:Addr} {xs ys:List V}
theorem aI.of{K:zde}(h:H a=some (.lst xs)):aI K H a xs:=.inl<|.inl h
theorem SqT.of{K:zde}(h:H a=some (.tup xs)):SqT K H a xs:=.inl<|.inl h
theorem Inv.list(I:Inv X pins σ H s)(h:aI X.K H a xs):∃b:cq,Vals xs b/\PlainL s.heap a b.toArray/\xs.c<=sizeLine:=by ext(h|⟨o,b,n,c,f,d,g,i,r⟩:h);let#[z,b,n,r,e]:=h.ok I.cw;exact#[b,r,#[_,n,e,rfl,rfl,rfl],z];refine#[b.toList,r,#[o,n,I.AB a o c,f,d,~~~g],?_];let e:=r.c;simp[zbm]at e;lia
theorem Inv.tuple(I:Inv X pins σ H s)(h:SqT X.K H a xs):∃b:cq,Vals xs b/\IsTup s.heap a b.toArray/\xs.c<=sizeLine:=by ext(h|⟨o,b,n,c,d,f,g,r⟩:h);let#[z,b,r,p]:=h.ok I.cw;exact#[b,r,p,z];refine#[b.toList,r,#[o,I.AB a o c,d,n,~~~f],?_];let e:=r.c;simp[zbm]at e;lia
theorem Inv.oD(I:Inv X pins σ H s)(h:aI X.K H a xs)(h':aI X.K H a ys):xs=ys:=by
 let#[g,r,#[o,n,e,_,_,d],_]:=I.list h;let#[its',i,#[j,k,b,_,_,c],_]:=I.list h';rw[e]at b;cases b;rw[d]at c;injection c with f _;let:g=its':= ~~~zaC Array.toList f
 subst this;exact r.inj i
theorem Inv.GY(I:Inv X pins σ H s)(h:SqT X.K H a xs)(h':SqT X.K H a ys):xs=ys:=by
 let#[g,r,#[o,e,_,n,d],_]:=I.tuple h;let#[its',i,#[j,b,_,k,c],_]:=I.tuple h';rw[e]at b;cases b;rw[d]at c;injection c with f _;let:g=its':= ~~~zaC Array.toList f
 subst this;exact r.inj i
end
abbrev Cx.vz(X:Cx)(E:da):Cx:={ X with xe:=E }
abbrev Cx.O6(X:Cx):Cx:=X.vz λ_ _=>False
theorem Cx.Ok.vz{X:Cx}(a:X.Ok)(E:da):(X.vz E).Ok:=
 #[a.mod,a.kind,a.glob,a.blt,a.above,a.inj,a.has,a.Wg,a.hd,a.frames,a.MG,a.exf,a.bs,a.R5,a.Kn,a.N3,a.uR,a.SR]
theorem Cx.Ok.ly{X:Cx}{E:da}(a:(X.vz E).Ok):X.Ok:=
 #[a.mod,a.kind,a.glob,a.blt,a.above,a.inj,a.has,a.Wg,a.hd,a.frames,a.MG,a.exf,a.bs,a.R5,a.Kn,a.N3,a.uR,a.SR]
section
variable {X:Cx} {pins:de} {σ:St} {H:Hp} {s:Shared} {E:da}
theorem Inv.vz(I:Inv X pins σ H s)(E:da):Inv (X.vz E) pins σ H s:=#[I.ok.vz E,I.os,I.bare,I.base,I.loc,I.cell,I.free,I.kX,I.pin,I.cw,I.len]
theorem Inv.ly(I:Inv (X.vz E) pins σ H s):Inv X pins σ H s:=#[I.ok.ly,I.os,I.bare,I.base,I.loc,I.cell,I.free,I.kX,I.pin,I.cw,I.len]
theorem SP.ly(h:SP (X.vz E) pins D f s'):SP X pins D f s':=by
 cases f with
 | next=>obtain⟨a,b,I,q⟩:=h;exact#[a,b,I.ly,q]
 | brk=>obtain⟨a,b,I,q⟩:=h;exact#[a,b,I.ly,q]
 | cont=>obtain⟨a,b,I,q⟩:=h;exact#[a,b,I.ly,q]
 | ret u=>obtain⟨v,a,b,I,r,q⟩:=h;exact#[v,a,b,I.ly,r,q]
theorem AL.O6{st:List Stmt}{t:TS}(h:AL X.O6 st t):AL X st t:=λpins s σ H D I a=>
 zbK (h pins s σ H D (I.vz _) a) (λ_ _ q=>q.ly) λ_ _ z=>False.elim z
end
section
variable {X:Cx} {st:Stmt} {rest:List Stmt} {t u:TS} {e:Expr} {te:TE} {pos:Pos}
noncomputable def OO:TS:=λD a H=>D.nx a H
noncomputable def MD(t u:TS):TS:=λD a H=>t { D with nx:=u D } a H
theorem bh:AL X [] OO:=λ_ _ a H _ I h=>zeW #[a,H,I,h]
theorem ai(g:PS X st t)(j:AL X rest u):AL X (st::rest)<|MD t u:=by
 ext pins s i H D I h;refine wpAny_execs_cons<|dD (g pins s i H { D with nx:=u D } I h) λf c q=>?_;cases f with
 | next=>
  let#[a,d,b,q]:=q;exact j pins c a d D b q
 | ret v=>exact q
 | brk=>exact q
 | cont=>exact q
theorem ak(a:PS X st t):AL X [st] t:=by
 ext pins s b H D I h;refine wpAny_execs_cons<|dD (a pins s b H D I h) λf c q=>?_;cases f with
 | next=>exact zeW q
 | ret v=>exact q
 | brk=>exact q
 | cont=>exact q
theorem Inv.quiet{a:St}{s:Shared}(I:Inv X pins a H s):interactive X.env=false:=by simp[interactive,I.ok.kind]
noncomputable def OP(te:TE):TS:=λD a H=>te a H λ_ b=>D.nx a b
theorem cK(f:PE X e te)(g:swapsWith e none pos.line X.env=pure false:=by rfl):PS X (.Expr e pos)<|OP te:=by ext pins s a H D I h;exact wpAny_Expr_any (dD (f pins s a H _ I h) λv i ⟨x,c,d,j,b⟩=>#[a,c,d,b]) I.quiet g
noncomputable def Qb(te:TE):TS:=λD a H=>te a H D.rt
theorem aN(f:PE X e te):PS X (.Return (some e) pos)<|Qb te:=by ext pins s a H D I h;exact wpAny_Return_some<|dD (f pins s a H _ I h) λv i ⟨x,c,d,g,b⟩=>#[x,a,c,d,g,b]
noncomputable def TC(c:TT)(t u:TS):TS:=λD a H=>c a H λb d=>if b=true then t D a d else u D a d
theorem bY(n:PT X c tc)(m:AL X a t)(l:AL X b u):PS X (.If c a b pos)<|TC tc t u:=by
 ext pins s f H D I h;refine wpAny_If<|dD (n pins s f H _ I h) λd g ⟨j,k,i⟩=>?_;cases d with
 | true=>exact m pins g f j D k i
 | false=>exact l pins g f j D k i
noncomputable def Qc:TS:=λ_ _ _=>False
theorem iR:PS X st Qc:=λ_ _ _ _ _ _ h=>h.elim
end
abbrev TG:=V->St->Hp->(St->Hp->Prop)->Prop
abbrev Mo:=List V->St->Hp->(St->Hp->Prop)->Prop
noncomputable def PG(X:Cx)(target:Expr)(t:TG):Prop:=
 ∀(pins:de) (s:Shared) (c:St) (H:Hp) (v:V) (u:Value) (Q:St->Hp->Prop),Inv X pins c H s->RelV v u->t v c H Q->
  wpAny (model X.prog X.w) X.A (assign target X.env u) (λ_ d=>∃a b,Inv X pins a b d/\Q a b) X.xe s
noncomputable def Wo(X:Cx)(f:List Expr)(t:Mo):Prop:=
 ∀(pins:de) (s:Shared) (d:St) (H:Hp) (vs:List V) (c:cq) (Q:St->Hp->Prop),Inv X pins d H s->Vals vs c->t vs d H Q->
  wpAny (model X.prog X.w) X.A (assignInOrder ((assignEach f X.env).map (·.2)) c) (λ_ e=>∃a b,Inv X pins a b e/\Q a b) X.xe s
abbrev Oq:=V->V->V->Hp->(Hp->Prop)->Prop
noncomputable def Wn(X:Cx)(t:Oq):Prop:=
 ∀(pins:de) (s:Shared) (c:St) (H:Hp) (o i v:V) (d a u:Value) (Q:Hp->Prop),Inv X pins c H s->RelV o d->RelV i a->RelV v u->t o i v H Q->
  wpAny (model X.prog X.w) X.A (setItem d a u) (λ_ e=>∃b,Inv X pins c b e/\Q b) X.xe s
section
variable {X:Cx} {pos:Pos}
noncomputable def ji(i:Nat):TG:=λv a H Q=>Q (a.set i<|some v) H
theorem aD(d:X.N.Nodup)(c:X.N[i]?=some x)(e:Loc X.env.scope x)(b:X.fn x=true\/X.env.scope.names.lookup x=some .local:=by first|exact .inl rfl|exact .inr rfl|assumption):PG X (.Name x pos)<|ji i:=by ext pins s g H v u Q I r h;exact wpAny_assign_Name<|A3 I d c e r (λf a=>#[_,H,a,h]) b
noncomputable def RD:Mo:=λvs a H Q=>vs=[]/\Q a H
noncomputable def Gi(t:TG)(u:Mo):Mo:=λvs c H Q=>∃v r,vs=v::r/\t v c H λa b=>u r a b Q
theorem dY:Wo X [] RD:=by
 intro pins s σ H vs us Q I r h;obtain⟨e,h⟩:=h;subst e;cases r
 exact assignInOrder_nil ⟨σ,H,I,h⟩
theorem bo(h1:PG X e t)(h2:Wo X es u)(hs:(assignEach (e::es) X.env).map (·.2)=assign e X.env::(assignEach es X.env).map (·.2):=by rfl):Wo X (e::es) (Gi t u):=by
 intro pins s σ H vs us Q I r h;obtain⟨v,vr,e1,h⟩:=h;subst e1;cases r with
 | cons r rr=>
  rw[hs];refine assignInOrder_cons (dD (h1 pins s σ H _ _ _ I r h) λ_ s1 ⟨σ1,H1,I1,q1⟩=>?_);exact h2 pins s1 σ1 H1 _ _ Q I1 rr q1
noncomputable def N1(K:zde)(n:Nat)(t:Mo):TG:=λv b H Q=>∃a xs,v=.ref a/\SqT K H a xs/\xs.c=n/\t xs b H Q
theorem jF{k:Nat}{n:Nat}(hc:X.calm=true)(h:Wo X es t)(hn:(assignEach es X.env).length=n:=by rfl)(NG:(assignEach es X.env).findIdx? (·.1)=none:=by rfl):PG X (.Tuple es k pos) (N1 X.K n t):=by
 intro pins s σ H v u Q I r hw;obtain⟨a,xs,e1,hq,hl,hw⟩:=hw;subst e1;cases r
 obtain⟨aZ,rv,ht,hz⟩:=I.tuple hq;refine assign_Tuple_tuple (I.ok.hd hc) ht (by simp[hn,<-hl,rv.length]) NG λh' hx=>?_;exact h pins _ σ H xs _ Q (I.kept λb o e=>hx b o (zba (zar e)) e) (by simpa using rv) hw
noncomputable def VM(b d:TE)(t:Oq):TG:=λv a H Q=>b a H λo c=>d a c λi e=>t o i v e λf=>Q a f
theorem zd(z:PE X o to)(d:PE X i ti)(l:Wn X t)(A:∀v,assign (.Subscript o i pos) X.env v=(do
   let a <-holding [v] (eval o X.env);let b <-holding [v,a] (eval i X.env)
   standAt pos
   holding [v,a,b] (setItem a b v)
   release [v,a,b] []):=by ext _;rfl):PG X (.Subscript o i pos)<|VM to ti t:=by
 ext pins s c H v u Q I r h;rw[A];refine zad<|zbS<|dD (z pins s c H _ I h) λa p ⟨x,e,B,D,q⟩=>?_;refine zad<|zbS<|dD (d pins p c e _ B q) λb g ⟨y,j,C,m,k⟩=>?_;refine zad<|wpAny_standAt<|zad<|zbS<|dD (l pins g c j x y v a b u _ C D m r k) λ_ E ⟨n,w,f⟩=>?_;exact wpAny_release #[c,n,w,f]
noncomputable def GZ(b:TE)(g:TG):TS:=λD a H=>b a H λx c=>g x a c D.nx
theorem tI(f:PE X e te)(c:PG X tg g)(i:swapsWithSole [tg] e pos.line X.env=pure false:=by rfl)(m:swappedStores [tg] e X.env=pure none:=by rfl)(d:(assignEach [tg] X.env).map (·.2)=[assign tg X.env]:=by rfl):PS X (.Assign [tg] e pos)<|GZ te g:=by ext pins s a H D I h;refine wpAny_Assign_stores (dD (f pins s a H _ I h) λv j ⟨x,b,l,n,k⟩=>?_) i m;erw[d,dD (c pins j a b x v _ l n k) λ_ o q=>q]
theorem aC(d:X.N.Nodup)(b:X.N[i]?=some x)(j:Loc X.env.scope x)(g:PE X e te)(k:swapsWith e (some<|.Name x pos') pos.line X.env=pure false:=by rfl)(a:X.fn x=true\/X.env.scope.names.lookup x=some .local:=by first|exact .inl rfl|exact .inr rfl|assumption) :
  PS X (.Assign [.Name x pos'] e pos) (GZ te<|ji i):=by
 ext pins s f H D I h;refine wpAny_Assign_Name (dD (g pins s f H _ I h) λv q ⟨y,c,m,o,l⟩=>?_) k;exact A3 m d b j o (λp n=>#[_,c,n,l]) a
end
noncomputable def IT(c:TT)(h:TS):TS:=λD a H=>∃W:Nat->St->Hp->Prop,(∃m,W m a H)/\∀m a H,W m a H->
 c a H λb f=>if b=true then ∃N:St->Hp->Prop,(∀d e,N d e->∃g,g<m/\W g d e)/\h { D with nx:=N,ct:=N,bk:=D.nx } a f else D.nx a f
theorem lV(t:PassesOwn (model X.prog X.w) X.A X.env X.xe)(E:PT X c tc)(K:AL X body tb):PS X (.While c body [] pos)<|IT tc tb:=by
 ext pins s C H D I h;let#[W,#[M,z],turn]:=h;refine wpAny_While<|codeAny_whileLoop (λn F=>∃e q,Inv X pins e q F/\W n e q) ?_ M #[C,H,I,z];ext n L ⟨d,p,G,y⟩;refine zdj t<|dD (E pins L d p _ G<|turn n d p y) λb B ⟨u,x,i⟩=>?_;cases b with
 | true=>
  let#[N,r,i]:=i;rw[zam rfl];refine zdj t<|dD (K pins B d u _ x i) λf O j=>?_;cases f with
  | next=>
   let#[a,g,m,n3]:=j;let#[l,o,k]:=r a g n3;exact#[l,o,a,g,m,k]
  | cont=>
   let#[a,g,m,n3]:=j;let#[l,o,k]:=r a g n3;exact#[l,o,a,g,m,k]
  | brk=>exact j
  | ret v=>exact j
 | false=>
  erw[zaj zaE,zeW #[d,u,x,i]]
structure It where
 go:Nat->Hp->Prop
 vw:Nat->Hp->V->Hp->Prop
 stop:Nat->Hp->Prop
noncomputable def oU(X:Cx)(pins:de)(H:Hp)(b:Addr):Prop:=
 H b=none/\b≠X.env.locals/\b∉X.fs/\(b∈X.ex\/X.s₀.d<=b)/\(∀x c,X.env.cells.lookup x=some c->c≠b)/\∀p∈X.pn++pins,p.1≠b
theorem Inv.qZ{X:Cx}{pins:de}{h:St}{H d:Hp}{s:Shared}{b:Addr}(I:Inv X pins h H s)(a:s.d<=b)(f:d b=none):oU X pins d b:=by refine#[f,zbM<|zaQ I.lt a,I.YG a,.inr<|zaX I.sz a,λx c e z=>?_,λp g z=>?_];let#[v,q]:=I.cell x c e;exact absurd (zaQ q.lt<|z>>a)<|zbq _;exact absurd (zaQ (zar (I.pin p g).1)<|z>>a)<|zbq _
structure Turn(P:Program)(w:World)(K:zde)(tg:Expr)(J:It)(fp:cx)(it:Addr)(tn:Nat->Heap->Prop):Prop where
 mem:it∈fp
 obj:∀i h,tn i h->∀b∈fp,∃o,h.get? b=some o/\∀v,o.data≠.cell v
 keep:∀i h h',tn i h->(∀b∈fp,∀o,h.get? b=some o->h'.get? b=some o)->tn i h'
 item:∀(X:Cx),X.prog=P->X.w=w->X.K=K->X.calm=true->∀(i:Nat) (pins:de) (s:Shared) (σ:St) (H:Hp) (E:da),Inv X pins σ H s->(∀b∈fp,oU X pins H b)->tn i s.heap->J.go i H->
  wpAny (model P w) X.A (pyNext<|.ref it) (λr s1=>∃u,r=some u/\
   wpAny (model P w) X.A (letOwnedTupleGo tg (.ref it) u) (λ_ s2=>∃x H',Inv X pins σ H' s2/\RelV x u/\J.vw i H x H'/\tn (i+1) s2.heap/\∀b∈fp,H' b=none) E s1) E s
 done:∀(X:Cx),X.prog=P->X.w=w->X.K=K->X.calm=true->∀(i:Nat) (pins:de) (s:Shared) (σ:St) (H:Hp) (E:da),Inv X pins σ H s->(∀b∈fp,oU X pins H b)->tn i s.heap->J.stop i H->
  wpAny (model P w) X.A (pyNext<|.ref it) (λr s1=>r=none/\Inv X pins σ H s1) E s
 self:∀(A:Around) (i:Nat) (s:Shared) (Q:da) (E:da),tn i s.heap->Q (.ref it) s->wpAny (model P w) A (pyIter<|.ref it) Q E s
abbrev TI:=St->Hp->(It->Hp->Prop)->Prop
noncomputable def PIE(X:Cx)(pins:de)(e:St)(tg:Expr)(R:It->Hp->Prop)(f:Value)(d:Shared):Prop:=
 ∃(it:Addr) (c:cx) (tn:Nat->Heap->Prop) (J:It) (a:Hp),f=.ref it/\Inv X pins e a d/\Turn X.prog X.w X.K tg J c it tn/\tn 0 d.heap/\(∀b∈c,oU X pins a b)/\R J a
noncomputable def PI(X:Cx)(tg iter:Expr)(c:TI):Prop:=
 ∀(pins:de) (s:Shared) (a:St) (H:Hp) (R:It->Hp->Prop),Inv X pins a H s->c a H R->
  wpAny (model X.prog X.w) X.A (eval iter X.env) (λv b=>wpAny (model X.prog X.w) X.A (pyIter v) (PIE X pins a tg R) X.xe b) X.xe s
theorem Cy(c:s.heap.get? it=some o)(e:o.cls=.type n)(d:o.data=.fields vs)(b:["enumerate", "zip", "dict_itemiterator", "dict_reverseitemiterator", "odict_iterator", "itertools.zip_longest", "itertools.pairwise"].contains n=false)(a:Q Unit.unit s):wpAny M A (letOwnedTupleGo tg (.ref it) u) Q E s:=by
 unfold letOwnedTupleGo;cases tg<;>first
  | exact zay a
  | (cases u<;>first
    | exact zay a
    | (
       refine zad<|wpAny_load c ?_;rw[e,d];show wpAny M A (if(["enumerate", "zip", "dict_itemiterator", "dict_reverseitemiterator", "odict_iterator", "itertools.zip_longest", "itertools.pairwise"].contains n&&vs[0]?==some (rawInt _))=true then _ else _) Q E s;erw[zaj (by ext h;rw[b,Bool.false_and]at h;cases h),zay a]))
noncomputable def C1(K:zde)(a:Addr):It:=
 #[λi H=>∃xs x,aI K H a xs/\xs[i]?=some x,λi H x b=>b=H/\∀xs,aI K H a xs->xs[i]?=some x,λi H=>∃xs,aI K H a xs/\xs.c<=i]
noncomputable def Ov(K:zde)(a:Addr):It:=
 #[λi H=>∃xs x,SqT K H a xs/\xs[i]?=some x,λi H x b=>b=H/\∀xs,SqT K H a xs->xs[i]?=some x,λi H=>∃xs,SqT K H a xs/\xs.c<=i]
noncomputable def Ii(lo:Int)(n:Nat):It:=#[λi _=>i<n,λi H x a=>a=H/\x=.int (lo+i),λi _=>n<=i]
theorem wN{P:Program}{w:World}{K:zde}{tg:Expr}(a it:Addr):Turn P w K tg (C1 K a) [it] it (λi h=>h.IsListIter it a i) where
 mem:=by simp
 obj:=λi h st b f=>by
  let e:b=it:= ~~~f
  subst e;let#[o,e,c,d]:=st;exact#[o,e,λv z=>by rw[d]at z;cases z]
 keep:=λi h h' st k=>st.at λo e=>k it A? o e
 item:=by ext X r A B D i pins s G H E I g st q;subst r A B;let#[xs,x,j,t]:=q;let#[F,rv,p,N]:=I.list j;let#[u,M,L]:=rv.get t;let#[f0,n,R,y,l,m]:=g it A?;refine wpAny_pyNext_list_item st p.isList (~~~M) λh' C O=>?_;let#[o,e,c,d]:=id C;exact#[u,rfl,Cy e c d B! #[x,H,I.turned (λb o f e=>(O.2 b f).trans e) f0 n y l m,L,#[rfl,λys Q=>I.oD Q j>>t],C,λb f=>(g b f).1]]
 done:=by ext X r A B D i pins s G H E I g st q;subst r A B;let#[xs,j,t]:=q;let#[F,rv,p,N]:=I.list j;let#[f0,n,R,y,l,m]:=g it A?;let U:=rv.c;exact wpAny_pyNext_list_end (I.ok.hd D) st p.isList (by simp;lia) λh' S=>#[rfl,I.turned (λb o f e=>S b o f e) f0 n y l m]
 self:=λ_ _ _ _ _ st h=>wpAny_pyIter_listiter st h
theorem Dr{P:Program}{w:World}{K:zde}{tg:Expr}(a it:Addr):Turn P w K tg (Ov K a) [it] it (λi h=>h.IsTupleIter it a i) where
 mem:=by simp
 obj:=λi h st b f=>by
  let e:b=it:= ~~~f
  subst e;let#[o,e,c,d]:=st;exact#[o,e,λv z=>by rw[d]at z;cases z]
 keep:=λi h h' st k=>st.at λo e=>k it A? o e
 item:=by ext X t B C F i pins s G H E I g st r;subst t B C;let#[xs,x,j,y]:=r;let#[l,rv,p,N]:=I.tuple j;let#[u,M,L]:=rv.get y;let#[f0,q,R,A,m,n]:=g it A?;refine wpAny_pyNext_tuple_item st (show s.heap.IsTuple a l.toArray from p) (~~~M) λh' D O=>?_;let#[o,e,c,d]:=id D;exact#[u,rfl,Cy e c d B! #[x,H,I.turned (λb o f e=>(O.2 b f).trans e) f0 q A m n,L,#[rfl,λys Q=>I.GY Q j>>y],D,λb f=>(g b f).1]]
 done:=by ext X t B C F i pins s G H E I g st r;subst t B C;let#[xs,j,y]:=r;let#[l,rv,p,N]:=I.tuple j;let#[f0,q,R,A,m,n]:=g it A?;let U:=rv.c;exact wpAny_pyNext_tuple_end (I.ok.hd F) st (show s.heap.IsTuple a l.toArray from p) (by simp;lia) λh' S=>#[rfl,I.turned (λb o f e=>S b o f e) f0 q A m n]
 self:=λ_ _ _ _ _ st h=>wpAny_pyIter_tupleiter st h
theorem Ds{P:Program}{w:World}{K:zde}{tg:Expr}(it:Addr)(lo:Int)(n:Nat):Turn P w K tg (Ii lo n) [it] it (λi h=>IsRangeIter h it (lo+(i:Nat)*1) ((n:Int)-(i:Nat)) 1) where
 mem:=by simp
 obj:=λi h st b a=>by
  let e:b=it:= ~~~a
  subst e;exact#[_,st,λv z=>by let B:Data.fields _=Data.cell v:=z;cases B]
 keep:=λi h h' st k=>k it A? _ st
 item:=by ext X m q r f i pins s A H E I c st l;subst m q r;let#[f0,j,C,p,d,g]:=c it A?;refine (Walks.range (prog:=X.prog) (w:=X.w) (I.ok.hd f) it lo 1 n).item i s _ _ l st λv h' y x u D=>?_;let#[t,rfl]:=x;refine#[_,rfl,Cy (s:={ s with heap:=h',toks:=y }) (n:= "range_iterator") u rfl rfl B! #[.int<|lo+i,H,I.turned (λb o a e=>D b o (~~~a) e) f0 j p d g,#[t,?_],#[rfl,rfl],u,λb a=>(c b a).1]];rw[zfB]
 done:=by ext X m q r f i pins s A H E I c st l;subst m q r;let#[f0,j,C,p,d,g]:=c it A?;exact wpAny_pyNext_range_end (I.ok.hd f) st (by let:n<=i:=l;lia) λh' F=>#[rfl,I.turned (t':=s.toks) (λb o a e=>F b o a e) f0 j p d g]
 self:=λ_ _ _ _ _ st h=>zex st h
section
variable {X:Cx} {tg:Expr}
noncomputable def Ci(K:zde)(d:TE):TI:=λc H R=>d c H λx b=>∃a,x=.ref a/\(∃xs,aI K b a xs)/\R (C1 K a) b
theorem bJ(f:PE X l tl):PI X tg l<|Ci X.K tl:=by
 ext pins s j H R I h;refine dD (f pins s j H _ I h) λv d ⟨x,i,c,n,m⟩=>?_;let#[a,e,#[xs,k],q]:=m;subst e;cases n;let#[r,rv,p,t]:=c.list k;refine zey p.isList ?_;refine#[d.d,[d.d],_,_,i,rfl,c.kept λb o e=>zap _ e,wN a _,#[_,zaK _ rfl,rfl,rfl],λb g=>?_,q];let e:b=d.d:= ~~~g
 subst e;exact c.qZ (zaf _)<|c.cw.fresh<|zaf _
theorem Bz{c:St}{s:Shared}{R:It->Hp->Prop}{lo a:Int}{t u v:Tok}{f:Nat}(I:Inv X pins c H s)(h1 : -(2 ^ 62)<=lo)(k:lo<2 ^ 62)(h3 : -(2 ^ 62)<=a)(j:a<2 ^ 62)(q:R (Ii lo (a-lo).toNat) H):wpAny (model X.prog X.w) X.A (pyIter<|.ref s.d) (PIE X pins c tg R) E { s with heap:=s.heap.push { cls:=.type "range",data:=.fields #[.int lo t,.int a u,.int 1 v,] },toks:=f }:=by
 refine wpAny_pyIter_range (IsRange.new ..) (small_one h1 k h3 j) ?_;let d:Inv X pins c H { s with heap:=s.heap.push { cls:=.type "range",data:=.fields #[.int lo t,.int a u,.int 1 v,] },toks:=f }:=I.kept λb o e=>zap _ e;refine#[(s.heap.push { cls:=.type "range",data:=.fields #[.int lo t,.int a u,.int 1 v,] }).e,[(s.heap.push { cls:=.type "range",data:=.fields #[.int lo t,.int a u,.int 1 v,] }).e],_,_,H,rfl,
  d.kept λb o e=>zap _ e,Ds _ lo (a-lo).toNat,?_,λb h=>?_,q]
 let g:lo+((0:Nat):Int)*1=lo:=by simp
 let i:(((a-lo).toNat:Nat):Int)-((0:Nat):Int)=Builtin.Range.rangeSize lo a 1:=by rw[rangeSize_one];split<;>lia
 rw[g,i];exact zaK _ rfl;let e:b=(s.heap.push { cls:=.type "range",data:=.fields #[.int lo t,.int a u,.int 1 v,] }).e:= ~~~h
 subst e;exact d.qZ (zaf _)<|d.cw.fresh<|zaf _
noncomputable def Pa(b:TA):TI:=λa H R=>b a H λvs c=>∃j:Int,vs=[.int j]/\-(2 ^ 62)<=j/\j<2 ^ 62/\R (Ii 0 j.toNat) c
noncomputable def UN(b:TA):TI:=λa H R=>b a H λvs c=>∃i j:Int,vs=[.int i,.int j]/\(-(2 ^ 62)<=i/\i<2 ^ 62/\-(2 ^ 62)<=j/\j<2 ^ 62)/\R (Ii i (j-i).toNat) c
theorem bw(hg:Gl X "range")(hm:X.mg "range"=none)(ha:PA X [a] ta)(hs:starEach [a] X.env=[(false,eval a X.env)]:=by rfl):PI X tg (.Call (.Name "range" p) [a] [] pos) (Pa ta):=by
 intro pins s σ H R I h;refine Call_ (dM I hg hm boot_range (zaJ (dD (ha pos pins s σ H _ I h) λus s1 ⟨vs,H1,I1,r1,q1⟩=>?_) hs rfl));obtain⟨j,e,q1,q2,q⟩:=q1;subst e;cases r1 with
 | cons r rr=>
  cases rr
  obtain⟨t,rfl⟩:=r;exact call_range_1 (Bz I1 (by lia) (by lia) q1 q2 (by simpa using q))
theorem xt{g:TA}{p c:Pos}(l:Gl X "range")(x:X.mg "range"=none)(y:PA X [a,b] g)(w:starEach [a,b] X.env=[(false,eval a X.env),(false,eval b X.env)]:=by rfl)(k:starEach [b] X.env=[(false,eval b X.env)]:=by rfl) :
  PI X tg (.Call (.Name "range" p) [a,b] [] c) (UN g):=by
 ext pins s n H R I h;refine Call_ (dM I l x boot_range<|zaJ (dD (y c pins s n H _ I h) λB D ⟨vs,C,z,A,d⟩=>?_) (by rw[w,k])<|by rw[k];rfl);let#[i,j,e,#[d,v,m,u],q]:=d;subst e;cases A with
 | cons r f=>
  cases f with
  | cons o f=>
   cases f;let#[t,rfl]:=r;let#[t',rfl]:=o;exact call_range_2<|Bz z d v m u q
noncomputable def NNx(N:St->Hp->Prop):St->Hp->Prop:=N
noncomputable def FW(J:It)(g:TG)(l:TS)(D:Ends)(b:St)(H:Hp):Prop:=∃W:Nat->Nat->St->Hp->Prop,(∃m,W 0 m b H)/\∀i m a H,W i m a H->(J.stop i H/\D.nx a H)\/(J.go i H/\∃N:St->Hp->Prop,(∀c b,N c b->∃e,e<m/\W (i+1) e c b)/\∀x b,J.vw i H x b->g x a b λd j=>l { D with nx:=N,ct:=N,bk:=D.nx } d j)
noncomputable def TF(h:TI)(g:TG)(k:TS):TS:=λD a H=>h a H λJ f=>FW J g k D a f
noncomputable def tL(a:cx)(h:Heap):de:=a.filterMap λb=>(h.get? b).map λo=>(b,o)
theorem kI(a:b∈fp)(e:h.get? b=some o):(b,o)∈tL fp h:=List.mem_filterMap.mpr #[b,a,by rw[e];rfl]
theorem Hl(a:p∈tL fp h):p.1∈fp/\h.get? p.1=some p.2:=by
 let#[b,d,e]:=List.mem_filterMap.mp a;cases q:h.get? b with
 | none=>rw[q]at e;cases e
 | some o=>
  rw[q]at e;let c:=zas e;subst c;exact#[d,q]
theorem Inv.pinned{f:St}{s:Shared}(I:Inv X pins f H s)(g:∀b∈fp,oU X pins H b)(k:∀b∈fp,∃o,s.heap.get? b=some o/\∀v,o.data≠.cell v):Inv X (pins++tL fp s.heap) f H s:=
 I.FI λp j=>(zal.mp j).elim (λz=>I.pin p<|zaP _ z) λz=>by let#[a,e]:=Hl z;let#[f0,i,h,_]:=g p.1 a;let#[o,c,d]:=k p.1 a;rw[e]at c;cases c;exact#[e,f0,i,h,d]
theorem Inv.n6{a:St}{s:Shared}(I:Inv X (pins++pl) a H s):Inv X pins a H s:=I.FI λp b=>I.pin p<|zaP _<|zaT _ b
theorem bS{iter:Expr}{body:List Stmt}{wi:TI}{g:TG}{Y:TS}{O:Pos}(y:PassesOwn (model X.prog X.w) X.A X.env X.xe)(P:X.calm=true)(hi:PI X tg iter wi)(hg:PG X tg g)(l:AL X body Y)(hs:∀x,foldedSetIterable iter X.env x=pure x:=by ext _;rfl):PS X (.For tg iter body [] O)<|TF wi g Y:=by
 ext pins s Z H D I h;refine wpAny_For (dD (hi pins s Z H _ I h) λv s1 h1=>dD h1 λYY s2 h2=>?_) hs;let#[it,z,tn,J,H2,e,I2,T,Sl,U,W,#[m0,w0],turn]:=h2;subst e;let L:∀{q:Hp},(∀b∈z,q b=none)->∀b∈z,oU X pins q b:=λhn b l=>#[hn b l,(U b l).2];refine codeAny_forLoop_any (λn Q=>∃i j q,Inv X pins j q Q/\tn i Q.heap/\(∀b∈z,q b=none)/\W i n j q) ?_ m0 #[0,Z,H2,I2,Sl,λb l=>(U b l).1,w0];ext n S ⟨i,k,E,I3,C,Iz,w3⟩;ext(⟨stop,qn⟩|⟨go,N,hN,step⟩:turn i n k E w3);refine zdj y<|dD (T.done X rfl rfl rfl P i pins S k E X.xe I3 (L Iz) C stop) λr s4 ⟨G,I4⟩=>?_;subst G;exact zeW #[k,E,I4,qn];refine zdj y<|dD (T.item X rfl rfl rfl P i pins S k E X.xe I3 (L Iz) C go) λr s4 ⟨u,G,h4⟩=>?_;subst G;refine zdj y<|dD h4 λ_ s5 ⟨x,R,I5,r5,y5,K,RF⟩=>?_;refine zdj y<|dD (hg _ s5 k R x u _ (I5.pinned (L RF)<|T.obj _ _ K) r5<|step x R y5) λ_ s6 ⟨M,H6,I6,q6⟩=>?_;refine zdj y<|dD (l _ s6 M H6 _ I6 q6) λf F t=>?_;let again:∀{a:St} {c:Hp},Inv X (pins++tL z s5.heap) a c F->N a c->∃m,m<n/\∃i j q,Inv X pins j q F/\tn i F.heap/\(∀b∈z,q b=none)/\W i m j q:=λ{a c} p B=>by let#[m',hm,w7]:=hN a c B;refine#[m',hm,i+1,a,c,p.n6,T.keep _ _ _ K λb l o e=>(p.pin (b,o)<|zaP _<|zaP _<|kI l e).1,λb l=>?_,w7];let#[o,e,d]:=T.obj _ _ K b l;exact(p.pin (b,o)<|zaP _<|zaP _<|kI l e).2.1
 cases f with
 | next=>obtain⟨a,c,p,B⟩:=t;exact again p B
 | cont=>obtain⟨a,c,p,B⟩:=t;exact again p B
 | brk=>obtain⟨a,c,p,t⟩:=t;exact#[a,c,p.n6,t]
 | ret v=>obtain⟨x7,a,c,p,r7,t⟩:=t;exact#[x7,a,c,p.n6,r7,t]
end
def InF(P:St->Hp->Prop)(g:TG)(l:TS)(D:Ends)(x:V)(b:St)(H:Hp):Prop:=∀N:St->Hp->Prop,(∀a d,P a d->N a d)->g x b H λh j=>l { D with nx:=NNx N,ct:=NNx N,bk:=D.nx } h j
theorem inF(h:∀N:St->Hp->Prop,(∀a d,P a d->N a d)->g x b H λh j=>l { D with nx:=NNx N,ct:=NNx N,bk:=D.nx } h j):InF P g l D x b H:=h
theorem FW.of{J:It}{g:TG}{l:TS}{D:Ends}{b:St}{H:Hp}(n:Nat)(c:Nat->St->Hp->Prop)(s:c 0 b H)(o:∀i b H,i<n->c i b H->J.go i H/\∀x d,J.vw i H x d->InF (c (i+1)) g l D x b d)(w:∀b H,c n b H->J.stop n H)(v:∀b H,c n b H->D.nx b H):FW J g l D b H:=by
 refine#[λi m b H=>m=n-i/\i<=n/\c i b H,#[n,by simp,zaR _,s],?_];ext i m b H ⟨rfl,r,p⟩;ext(u:i<n);let#[q,y]:=o i b H u p;exact .inr #[q,c<|i+1,λf d z=>#[n-(i+1),(),rfl,u,z],λx d k=>y x d k _ λ_ _ z=>z];let e:i=n:=();subst e;exact .inl #[w b H p,v b H p]
theorem fJ{K:zde}{a:Addr}{xs:List V}{g:TG}{l:TS}{D:Ends}{b:St}{H:Hp}(c:Nat->St->Hp->Prop)(s:c 0 b H)(o:∀i b H,i<=xs.c->c i b H->aI K H a xs)(t:∀i x b H,xs[i]?=some x->c i b H->InF (c (i+1)) g l D x b H)(v:∀b H,c xs.c b H->D.nx b H):FW (C1 K a) g l D b H:=
 FW.of xs.c c s (λi b H u p=>by let q:=o i b H () p;exact#[#[xs,xs[i],q,by simp[u]],λx d y=>by let#[e,y]:=y;subst e;exact t i x b _ (y xs q) p]) (λb H p=>#[xs,o _ b H (zaf _) p,zaf _]) v
theorem Gk{K:zde}{a:Addr}{xs:List V}{g:TG}{l:TS}{D:Ends}{b:St}{H:Hp}(c:Nat->St->Hp->Prop)(s:c 0 b H)(o:∀i b H,i<=xs.c->c i b H->SqT K H a xs)(t:∀i x b H,xs[i]?=some x->c i b H->InF (c (i+1)) g l D x b H)(v:∀b H,c xs.c b H->D.nx b H):FW (Ov K a) g l D b H:=
 FW.of xs.c c s (λi b H u p=>by let q:=o i b H () p;exact#[#[xs,xs[i],q,by simp[u]],λx d y=>by let#[e,y]:=y;subst e;exact t i x b _ (y xs q) p]) (λb H p=>#[xs,o _ b H (zaf _) p,zaf _]) v
theorem cM{lo:Int}{n:Nat}{g:TG}{tb:TS}{D:Ends}{σ:St}(c:Nat->St->Hp->Prop)(s:c 0 σ H)(t:∀i σ H,i<n->c i σ H->InF (c (i+1)) g tb D (.int (lo+i)) σ H)(v:∀σ H,c n σ H->D.nx σ H):FW (Ii lo n) g tb D σ H:=
 FW.of n c s (λi b H u p=>#[u,λx d y=>by obtain⟨rfl,rfl⟩:=y;exact t i b _ u p]) (λ_ _ _=>zaf _) v
abbrev R2:=V->V->Hp->VK->Prop
noncomputable def oX(X:Cx)(f:Value->Value->Sem Value)(r:R2):Prop:=
 ∀(pins:de) (s:Shared) (a:St) (H:Hp) (x y:V) (v u:Value) (Q:VK),Inv X pins a H s->RelV x v->RelV y u->r x y H Q->
  wpAny (model X.prog X.w) X.A (f v u) (EP X pins a Q) X.xe s
noncomputable def UnR(X:Cx)(f:Value->Sem Value)(r:V->Hp->VK->Prop):Prop:=
 ∀(pins:de) (s:Shared) (a:St) (H:Hp) (x:V) (v:Value) (Q:VK),Inv X pins a H s->RelV x v->r x H Q->
  wpAny (model X.prog X.w) X.A (f v) (EP X pins a Q) X.xe s
noncomputable def eF(X:Cx)(f:Value)(r:List V->Hp->VK->Prop):Prop:=
 ∀(pins:de) (s:Shared) (b:St) (H:Hp) (xs:List V) (a:cq) (Q:VK),Inv X pins b H s->Vals xs a->r xs H Q->
  wpAny (model X.prog X.w) X.A (call f a) (EP X pins b Q) X.xe s
noncomputable def Ip(r:R2)(e b:TE):TE:=λa H Q=>e a H λx c=>b a c λy d=>r x y d Q
noncomputable def X9(r:V->Hp->VK->Prop)(b:TE):TE:=λa H Q=>b a H λx c=>r x c Q
noncomputable def rI(C:Int->Int->Prop)(g:Int->Int->V):R2:=λx y H Q=>∃i j,x=.int i/\y=.int j/\C i j/\Q (g i j) H
noncomputable def Iq(g:Int->Int->V):R2:=λx y H Q=>∃i j,x=.int i/\y=.int j/\Q (g i j) H
noncomputable def rU(g:Int->V):V->Hp->VK->Prop:=λx H Q=>∃i,x=.int i/\Q (g i) H
theorem R7(q:PE X a ta)(l:PE X b tb){pins:de}{s:Shared}{c:St}{H:Hp}{R:V->V->Hp->Prop}(I:Inv X pins c H s)(h:ta c H λx j=>tb c j λy d=>R x y d){Q:da}{f:Value->Value->Sem Value}(k:∀v u i x y d,Inv X pins c d i->RelV x v->RelV y u->R x y d->wpAny (model X.prog X.w) X.A (f v u) Q X.xe i) :
  wpAny (model X.prog X.w) X.A (eval a X.env) (λv g=>wpAny (model X.prog X.w) X.A (eval b X.env) (λu e=>wpAny (model X.prog X.w) X.A (f v u) Q X.xe e) X.xe g) X.xe s:=by
 refine dD (q pins s c H _ I h) λv o ⟨x,j,r,z,p⟩=>?_;refine dD (l pins o c j _ r p) λu i ⟨y,d,t,n,m⟩=>?_;exact k v u i x y d t z n m
theorem ao(j:oX X (binaryOp op) r)(k:PE X a ta)(c:PE X b tb):PE X (.BinOp a op b pos)<|Ip r ta tb:=by ext pins s e H Q I h;exact wpAny_BinOp<|R7 k c I h λv u d x y g l i f q=>j pins d e g x y v u Q l i f q
theorem je(f:UnR X (unaryOp op) r)(i:PE X a ta):PE X (.UnaryOp op a pos)<|X9 r ta:=by ext pins s b H Q I h;exact UnaryOp_<|dD (i pins s b H _ I h) λv c ⟨x,e,g,j,d⟩=>f pins c b e x v Q g j d
theorem Us{C:Int->Int->Prop}{g:Int->Int->Int}(rule:∀(i j:Int) (t u:Tok) (s:Shared) (Q:da) (E:da),C i j->Q (.int (g i j) s.toks) { s with toks:=s.toks+1 }->wpAny (model X.prog X.w) X.A (f (.int i t)<|.int j u) Q E s) :
  oX X f (rI C λi j=>.int<|g i j):=by
 ext pins s d H x y v u Q I c a h;let#[i,j,rfl,rfl,b,q]:=h;let#[t,rfl]:=c;let#[t',rfl]:=a;exact rule i j t t' s _ _ b #[.int<|g i j,H,I.tok _,#[_,rfl],q]
theorem Ur{g:Int->Int->Int}(rule:∀(i j:Int) (t u:Tok) (s:Shared) (Q:da) (E:da),Q (.int (g i j) s.toks) { s with toks:=s.toks+1 }->wpAny (model X.prog X.w) X.A (f (.int i t)<|.int j u) Q E s) :
  oX X f (Iq λi j=>.int<|g i j):=by
 ext pins s c H x y v u Q I b a h;let#[i,j,rfl,rfl,q]:=h;let#[t,rfl]:=b;let#[t',rfl]:=a;exact rule i j t t' s _ _ #[.int<|g i j,H,I.tok _,#[_,rfl],q]
theorem Nh{g:Int->Int->Bool}(rule:∀(i j:Int) (t u:Tok) (s:Shared) (Q:da) (E:da),Q (.bool<|g i j) s->wpAny (model X.prog X.w) X.A (f (.int i t)<|.int j u) Q E s) :
  oX X f (Iq λi j=>.bl<|g i j):=by
 ext pins s c H x y v u Q I b a h;let#[i,j,rfl,rfl,q]:=h;let#[t,rfl]:=b;let#[t',rfl]:=a;exact rule i j t t' s _ _ #[.bl<|g i j,H,I,rfl,q]
noncomputable def aay(i j:Int):Prop:=0<=j/\j<=1000000/\i.natAbs<2 ^ 64
theorem bI:oX X (binaryOp .Add)<|Iq λi j=>.int<|i+j:=Ur λ_ _ _ _ _ _ _ q=>add_int q
theorem cW:oX X (binaryOp .Sub)<|Iq λi j=>.int<|i-j:=Ur λ_ _ _ _ _ _ _ q=>sub_int q
theorem bE:oX X (binaryOp .Mod)<|rI (λ_ j=>0<j) λi j=>.int<|i%j:=Us λi j _ _ _ _ _ a q=>by let b:=a;exact mod_int' () (Int.fmod_eq_emod_of_nonneg i ()>>q)
theorem J4:oX X (binaryOp .Pow)<|rI aay λi j=>.int<|i ^ j.toNat:=Us λ_ _ _ _ _ _ _ a q=>pow_int_small a.1 a.2.1 a.2.2 q
theorem unI{g:Int->Int}(rule:∀(i:Int) (t:Tok) (s:Shared) (Q:da) (E:da),Q (.int (g i) s.toks) { s with toks:=s.toks+1 }->wpAny (model X.prog X.w) X.A (f<|.int i t) Q E s) :
  UnR X f (rU λi=>.int<|g i):=by
 ext pins s b H x v Q I a h;let#[i,rfl,q]:=h;let#[t,rfl]:=a;exact rule i t s _ _ #[.int<|g i,H,I.tok _,#[_,rfl],q]
theorem fX:UnR X (unaryOp .USub)<|rU λi=>.int<|-i:=unI λ_ _ _ _ _ q=>neg_int q
noncomputable def TU:V->V->Bool
 | .fU,.fU=>true | .fU,.int _=>true | .int _,.fU=>true | .fU,.bl _=>true | .bl _,.fU=>true | .fU,.str _=>true | .str _,.fU=>true
 | .int _,.int _=>true | .bl _,.bl _=>true | .str _,.str _=>true | .GG _,.GG _=>true
 | .int _,.str _=>true | .str _,.int _=>true | .bl _,.str _=>true | .str _,.bl _=>true
 | _,_=>false
noncomputable def Yn:R2:=λx y H Q=>TU x y=true/\Q (.bl<|decide<|x=y) H
noncomputable def rNe:R2:=λx y H Q=>TU x y=true/\Q (.bl<|!decide (x=y)) H
theorem oO:decide (V.int i=V.int j)=(i==j):=by rw[zeX];simp
theorem Lv:decide (V.bl i=V.bl j)=(i==j):=by rw[zeX];simp
theorem Gz:decide (V.str i=V.str j)=(i==j):=by rw[zeX];simp
theorem GA:decide (V.GG i=V.GG j)=(i.toList==j.toList):=by rw[zeX];cases i;cases j;simp
theorem bQ{a:St}{s:Shared}{k b:Bool}(I:Inv X pins a H s)(q:Q (.bl k) H)(e:k=b):EP X pins a Q (.bool b) s:=by subst e;exact#[.bl k,H,I,rfl,q]
theorem eP:oX X (compareOp .Eq) Yn:=by
 ext pins s d H x y v u Q I c a h;let#[b,q]:=h;cases x with
 | fU=>
  cases c;cases y with
  | fU=>cases a;exact PySem.EqNone.eq_none_none<|bQ I q A?
  | bl j=>cases a;exact PySem.EqNone.eq_none_bool<|bQ I q A?
  | int j=>obtain⟨t',rfl⟩:=a;exact PySem.EqNone.eq_none_int<|bQ I q A?
  | str j=>obtain⟨t',rfl⟩:=a;exact PySem.EqNone.eq_none_str<|bQ I q A?
  | _=>exact absurd (show false=true from b) zaE
 | bl i=>
  cases c;cases y with
  | fU=>cases a;exact PySem.EqNone.eq_bool_none<|bQ I q A?
  | bl j=>cases a;exact eq_bool<|bQ I q Lv
  | str j=>obtain⟨t',rfl⟩:=a;exact PySem.EqMixed.eq_bool_str<|bQ I q A?
  | _=>exact absurd (show false=true from b) zaE
 | int i=>
  let#[t,rfl]:=c;cases y with
  | fU=>cases a;exact PySem.EqNone.eq_int_none<|bQ I q A?
  | int j=>obtain⟨t',rfl⟩:=a;exact eq_int<|bQ I q oO
  | str j=>obtain⟨t',rfl⟩:=a;exact PySem.EqMixed.eq_int_str<|bQ I q A?
  | _=>exact absurd (show false=true from b) zaE
 | str i=>
  let#[t,rfl]:=c;cases y with
  | fU=>cases a;exact PySem.EqNone.eq_str_none<|bQ I q A?
  | bl j=>cases a;exact PySem.EqMixed.eq_str_bool<|bQ I q A?
  | int j=>obtain⟨t',rfl⟩:=a;exact PySem.EqMixed.eq_str_int<|bQ I q A?
  | str j=>obtain⟨t',rfl⟩:=a;exact eq_str<|bQ I q Gz
  | _=>exact absurd (show false=true from b) zaE
 | GG i=>
  let#[t,rfl]:=c;cases y with
  | GG j=>obtain⟨t',rfl⟩:=a;exact PySem.W.eq_bytes<|bQ I q GA
  | _=>exact absurd (show false=true from b) zaE
 | _=>cases y<;>exact absurd (show false=true from b) zaE
theorem tS:oX X (compareOp .NotEq) rNe:=by
 ext pins s d H x y v u Q I c a h;let#[b,q]:=h;cases x with
 | fU=>
  cases c;cases y with
  | fU=>cases a;exact PySem.EqNone.ne_none_none<|bQ I q A?
  | bl j=>cases a;exact PySem.EqNone.ne_none_bool<|bQ I q A?
  | int j=>obtain⟨t',rfl⟩:=a;exact PySem.EqNone.ne_none_int<|bQ I q A?
  | str j=>obtain⟨t',rfl⟩:=a;exact PySem.EqNone.ne_none_str<|bQ I q A?
  | _=>exact absurd (show false=true from b) zaE
 | bl i=>
  cases c;cases y with
  | fU=>cases a;exact PySem.EqNone.ne_bool_none<|bQ I q A?
  | bl j=>cases a;exact ne_bool<|bQ I q<|zaC not Lv
  | str j=>obtain⟨t',rfl⟩:=a;exact PySem.EqMixed.ne_bool_str<|bQ I q A?
  | _=>exact absurd (show false=true from b) zaE
 | int i=>
  let#[t,rfl]:=c;cases y with
  | fU=>cases a;exact PySem.EqNone.ne_int_none<|bQ I q A?
  | int j=>obtain⟨t',rfl⟩:=a;exact ne_int<|bQ I q<|zaC not oO
  | str j=>obtain⟨t',rfl⟩:=a;exact PySem.EqMixed.ne_int_str<|bQ I q A?
  | _=>exact absurd (show false=true from b) zaE
 | str i=>
  let#[t,rfl]:=c;cases y with
  | fU=>cases a;exact PySem.EqNone.ne_str_none<|bQ I q A?
  | bl j=>cases a;exact PySem.EqMixed.ne_str_bool<|bQ I q A?
  | int j=>obtain⟨t',rfl⟩:=a;exact PySem.EqMixed.ne_str_int<|bQ I q A?
  | str j=>obtain⟨t',rfl⟩:=a;exact ne_str<|bQ I q<|zaC not Gz
  | _=>exact absurd (show false=true from b) zaE
 | GG i=>
  let#[t,rfl]:=c;cases y with
  | GG j=>obtain⟨t',rfl⟩:=a;exact PySem.W.ne_bytes<|bQ I q<|zaC not GA
  | _=>exact absurd (show false=true from b) zaE
 | _=>cases y<;>exact absurd (show false=true from b) zaE
theorem jg:oX X (compareOp .Lt)<|Iq λi j=>.bl<|decide<|i<j:=Nh λ_ _ _ _ _ _ _ q=>lt_int q
theorem Uq:oX X (compareOp .LtE)<|Iq λi j=>.bl<|decide<|i<=j:=Nh λ_ _ _ _ _ _ _ q=>le_int q
theorem FT:oX X (compareOp .Gt)<|Iq λi j=>.bl<|decide<|j<i:=Nh λ_ _ _ _ _ _ _ q=>gt_int q
theorem O4:oX X (compareOp .GtE)<|Iq λi j=>.bl<|decide<|j<=i:=Nh λ_ _ _ _ _ _ _ q=>ge_int q
theorem aS(b:Expr)(h:op≠.In:=by decide)(a:op≠.NotIn:=by decide):behindInMarks op b=false:=by
 let c:(op==CmpOp.In)=false:=by cases op<;>first|rfl|exact absurd rfl h
 let d:(op==CmpOp.NotIn)=false:=by cases op<;>first|rfl|exact absurd rfl a
 cases b<;>simp[behindInMarks,c,d]
theorem hX(k:oX X (compareOp op) r)(l:PE X a ta)(c:PE X b tb)(i:behindInMarks op b=false):PE X (.Compare a [op] [b] pos)<|Ip r ta tb:=by ext pins s e H Q I h;exact wpAny_Compare1 (R7 l c I h λv u d x y g m j f q=>k pins d e g x y v u Q m j f q) i
noncomputable def IV(t:TE):TT:=λa H Q=>t a H λx b=>∃k,x=.bl k/\Q k b
theorem aO(B:oX X (compareOp op) r)(C:PE X a ta)(g:PE X b tb)(t:behindInMarks op b=false):PT X (.Compare a [op] [b] pos)<|IV<|Ip r ta tb:=by
 ext pins s d H Q I h;refine wpAny_isTrue_Compare1 (dD (C pins s d H _ I h) λv q ⟨x,i,D,F,w⟩=>dD (g pins q d i _ D w) λu l ⟨y,m,E,o,n⟩=>
  dD (B pins l d m x y v u _ E F o n) λc G ⟨z,p,A,f,k,e,j⟩=>?_) t
 subst e;cases f;exact zcp #[p,A,j]
theorem um:(sizeLine:Nat)<2 ^ 63:=by rw[zcE];decide
theorem vals1(r:Vals [x] us):∃u,us=[u]/\RelV x u:=by
 cases r with
 | cons b a=>cases a;exact#[_,rfl,b]
theorem vals2(r:Vals [x,y] us):∃u a,us=[u,a]/\RelV x u/\RelV y a:=by
 cases r with
 | cons d e=>
  cases e with
  | cons b c=>cases c;exact#[_,_,rfl,d,b]
theorem CT:eF X (.builtin "abs") (λxs H Q=>∃i,xs=[.int i]/\Q (.int<|if i<0 then -i else i) H):=by ext pins s c H xs a Q I r h;let#[i,rfl,q]:=h;let#[u,rfl,t,rfl]:=vals1 r;exact call_abs_int λu b=>#[.int (if i<0 then -i else i),H,I.tok _,#[_,rfl],q]
theorem Ib(b:X.calm=true):eF X (.builtin "max") (λxs H Q=>∃i j,xs=[.int i,.int j]/\Q (.int<|if j > i then j else i) H):=by ext pins s f H xs c Q I r h;let#[i,j,rfl,q]:=h;let#[u,e,rfl,#[t,rfl],#[t',rfl]]:=vals2 r;refine max_two_ints (I.ok.hd b) λh' d k=>#[_,H,I.kept k,?_,q];ext(a:j > i);rw[zam a,zam a];exact#[_,rfl];erw[zaj a,zaj a,#[_,rfl]]
theorem xV(b:X.calm=true):eF X (.builtin "min") (λxs H Q=>∃i j,xs=[.int i,.int j]/\Q (.int<|if j<i then j else i) H):=by ext pins s f H xs c Q I r h;let#[i,j,rfl,q]:=h;let#[u,e,rfl,#[t,rfl],#[t',rfl]]:=vals2 r;refine min_two_ints (I.ok.hd b) λh' d k=>#[_,H,I.kept k,?_,q];ext(a:j<i);rw[zam a,zam a];exact#[_,rfl];erw[zaj a,zaj a,#[_,rfl]]
theorem Ie:eF X (.type "int") (λxs H Q=>(∃i,xs=[.int i]/\Q (.int i) H)\/∃k,xs=[.bl k]/\Q (.int<|if k then 1 else 0) H):=by ext pins s c H xs b Q I r h;ext(⟨i,rfl,q⟩|⟨k,rfl,q⟩:h);let#[u,rfl,t,rfl]:=vals1 r;exact call_int_int #[.int i,H,I,#[_,rfl],q];let#[u,rfl,a]:=vals1 r;cases a;exact call_int_bool #[.int (if k then 1 else 0),H,I.tok _,#[_,rfl],q]
noncomputable def Wt(K:zde)(x:V)(H:Hp)(n:Nat):Prop:=
 match x with
 | .str y=>y.c<=sizeLine/\n=y.c
 | .GG y=>y.size<=sizeLine/\n=y.size
 | .ref p=>(∃xs,aI K H p xs/\n=xs.c)\/∃xs,SqT K H p xs/\n=xs.c
 | _=>False
theorem aL:eF X (.builtin "len") (λxs H Q=>∃x n,xs=[x]/\Wt X.K x H n/\Q (.int n) H):=by
 ext pins s m H xs l Q I r h;let#[x,n,rfl,e,q]:=h;let#[u,rfl,f]:=vals1 r;let k:=um;let o:sizeLine=16777216:=zcE;cases x with
 | str y=>
  let#[t,rfl]:=f;obtain⟨j,a⟩:y.c<=sizeLine/\n=y.c:=e;subst a;exact len_str () #[.int _,H,I.tok _,#[_,rfl],q]
 | GG y=>
  let#[t,rfl]:=f;obtain⟨j,a⟩:y.size<=sizeLine/\n=y.size:=e;subst a;exact PySem.W.len_bytes () #[.int _,H,I.tok _,#[_,rfl],q]
 | ref p=>
  cases f;let a:(∃xs,aI X.K H p xs/\n=xs.c)\/∃xs,SqT X.K H p xs/\n=xs.c:=e;ext(⟨xs,c,a⟩|⟨xs,c,a⟩:a);subst a;let#[g,b,d,i]:=I.list c;let hlen:=b.c;exact Calls.call_len_list d.isList (by simp only[zaW];lia) #[.int xs.c,H,I.tok _,#[_,by simp only[zaW];rw[hlen]],q];subst a;let#[g,b,d,i]:=I.tuple c;let hlen:=b.c;exact len_tuple d (by simp[zaW];lia) #[.int xs.c,H,I.tok _,#[_,by simp only[zaW];rw[hlen]],q]
 | _=>exact(show False from e).elim
structure Sb(h:Heap)(x dx C:Addr)(mA:cB):Prop where
 obj:h.get? x=some (PySem.W.instObj C dx)
 ns:h.Ns1 dx mA
 ne:dx≠x
theorem Hn{h:Heap}{b:cB}(n:h.Ns1 dx b):∃c,h.get? dx=some c/\∀name,PySem.W.lookIn name c=some (b name):=by
 let#[o,d,p,k,l,g,_,j]:=n;refine#[o,k,λname=>?_];let e:=j name;unfold nsFind findBy at e;rw[<-Array.find?_toList]at e;unfold PySem.W.lookIn;rw[l];dsimp only;split;rename_i y q;rw[q]at e;exact zaC some e;rename_i q;rw[q]at e;let a:d.toList.any (·.refKey)=false:=by rw[any_eq_false];ext y i;let#[z,t,f]:=g y<|Array.mem_toList_iff.mp i;simp[DictEntry.refKey,f]
 let m:¬d.toList.any (·.refKey)=true:=a>>zaE
 erw[zaj m,zaC some e]
theorem Sb.look(I:Sb h x dx C mA):∃a,PySem.W.InstAt h x (PySem.W.instObj C dx) C (some a)/\∀name,PySem.W.lookIn name a=some (mA name):=
 let ⟨a,ho,hl⟩:=Hn I.ns
 #[a,#[I.obj,rfl,rfl,ho],hl]
theorem qA.some_of(r:qA (some v) o):∃u,o=some u/\RelV v u:=by
 cases o with
 | none=>exact(show False from r).elim
 | some u=>exact#[u,rfl,r]
theorem NC(i:mT P w H h)(e:H a=some (.ins C dx fs)):∃b,Sb h a dx C b/\(∀f,qA (fs.lookup f)<|b f)/\PySem.Within b (fs.map (·.1))/\fs.c<=1000/\H dx=some (.own a):=by let#[d,z,g,c,b,n,r,q]:=(show bU P w H h a (.ins C dx fs)from i a _ e);exact#[b,#[c,n,g],r,q,z,d]
structure Cls(K:zde)(C:Addr):Prop where
 pg:PySem.W.plainGet K C Str.empty=true
 hd:PySem.W.hasDictIn K C=true
 po:PySem.W.plainOver K C=true
 sa:PySem.W.findIn K (.ref C) "__setattr__"=some (some<|.builtin "object.__setattr__")
theorem Cls.get{K:zde}{C:Addr}(c:Cls K C)(f:Str):PySem.W.plainGet K C f=true:=c.pg
section
variable {X:Cx} {pins:de} {σ:St} {H:Hp} {s:Shared} {A:Around} {E:da} {Q:da} {c:Value} {b:Bool}
inductive oS(K:zde)(H:Hp):V->Value->Prop where
 | fU:oS K H .fU (.type "NoneType")
 | bl (x:Bool):oS K H (.bl x) (.type "bool")
 | int (i:Int):oS K H (.int i) (.type "int")
 | str (x:Str):oS K H (.str x) (.type "str")
 | Lf (x:UInt64):oS K H (.Lf x) (.type "float")
 | lst {a:Addr} {xs:List V} (e:H a=some (.lst xs)):oS K H (.ref a) (.type "list")
 | mZ {a:Addr} {o:Obj} {xs:List V} (e:H a=some (.mZ o (.lst xs))):oS K H (.ref a) (.type "list")
 | tup {a:Addr} {xs:List V} (e:H a=some (.tup xs)):oS K H (.ref a) (.type "tuple")
 | dK {a:Addr} {kvs:List (Key×V)} (e:H a=some (.dK kvs)):oS K H (.ref a) (.type "dict")
 | dT {a:Addr} {kvs:List (List Key×V)} (e:H a=some (.dT kvs)):oS K H (.ref a) (.type "dict")
 | ins {a C dx:Addr} {fs:List (Str×V)} (e:H a=some (.ins C dx fs)) (cl:Cls K C) (ha:PySem.W.findIn K (.ref C) "__class__"=some (some (.builtin "object.__class__")))
   (hn:PySem.W.specialIn K (.builtin "object.__class__") "__get__"=some (some (.builtin "getset_descriptor.__get__"))) (Xc:PySem.W.takesIn K (.builtin "object.__class__")=some true)
   (hm:PySem.W.mroIn K C (.type "object")=some true):oS K H (.ref a) (.ref C)
theorem Hu(I:Inv X pins σ H s)(f:RelV x u)(m:oS X.K H x t)(e:PySem.W.kitOne X.K t c=some b)(h:∀l,Q (.bool b) { s with toks:=l }) :
  wpAny (model X.prog X.w) A (call (.builtin "isinstance") [u,c]) Q E s:=by
 cases m with
 | fU=>cases(show u=Value.none from f);exact zcd PySem.W.kitx_none I.AB True.intro e (λz=>nomatch z) h
 | bl y=>cases(show u=Value.bool y from f);exact zcd PySem.W.kitx_bool I.AB True.intro e (λz=>nomatch z) h
 | int i=>obtain⟨t,q⟩:=(show ∃t,u=Value.int i t from f);cases q;exact zcd PySem.W.kitx_int I.AB True.intro e (λz=>nomatch z) h
 | str y=>obtain⟨t,q⟩:=(show ∃t,u=Value.str y t from f);cases q;exact zcd PySem.W.kitx_str I.AB True.intro e (λz=>nomatch z) h
 | Lf y=>obtain⟨t,q⟩:=(show ∃t,u=Value.float y t from f);cases q;exact zcd PySem.W.kitx_float I.AB True.intro e (λz=>nomatch z) h
 | @lst a xs d=>
  cases(show u=Value.ref a from f);let#[_,_,n,_,g]:=(show bU X.prog X.w H s.heap a (.lst xs)from I.cw a _ d);exact zcd PySem.W.kitx_list I.AB #[_,g,rfl] e (λz=>nomatch z) h
 | @mZ a L xs d=>
  cases(show u=Value.ref a from f);let#[_,_,_,n,_,g]:=(show bU X.prog X.w H s.heap a (.mZ L<|.lst xs)from I.cw a _ d);exact zcd PySem.W.kitx_list I.AB #[_,g,rfl] e (λz=>nomatch z) h
 | @tup a xs d=>
  cases(show u=Value.ref a from f);let#[_,_,_,p]:=(show bU X.prog X.w H s.heap a (.tup xs)from I.cw a _ d);let#[o,g,k,_]:=p;exact zcd PySem.W.kitx_tuple I.AB #[o,g,k] e (λz=>nomatch z) h
 | @dK a j d=>
  cases(show u=Value.ref a from f);let#[_,_,vs,_,p]:=(show bU X.prog X.w H s.heap a (.dK j)from I.cw a _ d);let#[o,v,F,g,k,_]:=p;exact zcd PySem.W.kitx_dict I.AB #[o,g,k.1] e (λz=>nomatch z) h
 | @dT a j d=>
  cases(show u=Value.ref a from f);let#[_,_,xs,_,o,v,F,g,k,_]:=(show bU X.prog X.w H s.heap a (.dT j)from I.cw a _ d);exact zcd PySem.W.kitx_dict I.AB #[o,g,k.1] e (λz=>nomatch z) h
 | @ins a C R N d cl D B r G=>
  cases(show u=Value.ref a from f);let#[M,O,_]:=NC I.cw d;let#[P,J,_]:=O.look;exact zcd (PySem.W.kitx_own (cl.get _) cl.hd D B r G) I.AB J e (λz=>nomatch z) h
end
structure gJ(k:Nat)(A:Around):Prop where
 hd:A.handled=none
 dp:A.depth+3*k+5<recursionLimit
 un:A.units+16*k+200<cLine
theorem gJ.mono(r:gJ k A)(h:j<=k):gJ j A:=#[r.hd,by let:=r.dp;lia,by let:=r.un;lia]
theorem gJ.deeper(r:gJ (k+1) A)(env:Env):gJ k<|A.deeper env:=
 #[r.hd,by let:=r.dp;show A.depth+1+3*k+5<_;lia,by let:=r.un;show A.units+3+16*k+200<_;lia]
theorem gJ.depth(r:gJ k A):A.depth<recursionLimit:=by let:=r.dp;lia
theorem gJ.units(r:gJ k A):A.units+64<cLine:=by let:=r.un;lia
theorem gJ.P4(r:gJ k A):A.units<cLine:=by let:=r.un;lia
noncomputable def ph:TA:=λ_ H Q=>Q [] H
noncomputable def fo(d:TE)(tr:TA):TA:=λa H Q=>d a H λx b=>tr a b λxs c=>Q (x::xs) c
theorem ah:PA X [] ph:=λ_ _ _ _ H Q I h=>zbT #[[],H,I,.nil,h]
theorem aa(m:PE X e te)(l:PA X es t)(g:starEach (e::es) X.env=(false,eval e X.env)::starEach es X.env:=by rfl):PA X (e::es)<|fo te t:=by ext a pins s b H Q I h;rw[g];refine zbH<|dD (m pins s b H _ I h) λu j ⟨x,c,n,p,k⟩=>?_;exact dD (l a pins j b c _ n k) λq r ⟨xs,d,o,i,f⟩=>#[x::xs,d,o,.cons p i,f]
noncomputable def MC(t:TA):TE:=λb H Q=>t b H λxs a=>xs.c<=sizeLine/\∀p,a p=none->Q (.ref p) (upd a p<|.tup xs)
noncomputable def IW(t:TA):TE:=λb H Q=>t b H λxs a=>xs.c<=sizeLine/\∀p,a p=none->Q (.ref p) (upd a p<|.lst xs)
theorem cR{x1}(h:PA X es t):PE X (.Tuple es x1 pos)<|MC t:=by ext pins s g H Q I i;refine wpAny_Tuple_spliced<|dD (h pos pins s g H _ I i) λd a ⟨xs,f,c,r,z,q⟩=>#[by erw[<-r.c,z],?_];refine#[.ref a.d,upd f a.d<|.tup xs,c.laid (λb u e=>zap _ e) (zaf _) ?_,rfl,q _<|c.cw.fresh<|zaf _];exact#[z,d,r,#[_,zaK _ rfl,rfl,_,rfl]]
theorem bH(h:PA X es t):PE X (.List es pos)<|IW t:=by ext pins s g H Q I i;refine wpAny_List_spliced<|dD (h pos pins s g H _ I i) λd a ⟨xs,f,c,r,z,q⟩=>#[by erw[<-r.c,z],?_];refine#[.ref a.d,upd f a.d<|.lst xs,c.laid (λb u e=>zap _ e) (zaf _) ?_,rfl,q _<|c.cw.fresh<|zaf _];exact#[z,d,0,r,zaK _ rfl]
abbrev Sp:=List V->Hp->VK->XK->Prop
abbrev Dj:=List Env->Hp->Shared->XK->Value->Shared->Prop
structure OD(P:Program)(w:World)(K:zde)(mg:cB)(base:Heap)(A:Around)(outer:List Env)(s:Shared)(H:Hp):Prop where
 frames:A.frames=some outer
 mod:Mod K mg base
 bs:∀b o,base.get? b=some o->s.heap.get? b=some o/\H b=none
 R5:base.e<=s.d
 uR:s.heap.FunFrames base outer
 SR:∀b∈Cz outer,H b=none
 cw:mT P w H s.heap
 bare:AllBare s.gens
noncomputable def CE(outer:List Env)(P:Program)(w:World)(H:Hp)(s:Shared)(Q:VK)(u:Value)(a:Shared):Prop:=
 ∃v b,a.os=s.os/\AllBare a.gens/\Un (Cz outer) [] H b s.heap a.heap/\mT P w b a.heap/\RelV v u/\Q v b
noncomputable def CR(b:Dj)(outer:List Env)(P:Program)(w:World)(H:Hp)(s:Shared)(Q:VK)(E:XK)(r:Result)(a:Shared):Prop:=
 match r with
 | .ok (.ret u)=>CE outer P w H s Q u a
 | .ok _=>False
 | .error e=>b outer H s E e a
structure rq(P:Program)(w:World)(K:zde)(mg:cB)(base:Heap)(CX:Dj)(k:Nat)(f:Addr)(fd:FuncData)(ps:List Str)(sp:Sp):Prop where
 len:∀vs H Q E,sp vs H Q E->vs.c=ps.c
 run:∀(A:Around) (outer:List Env) (s:Shared) (H:Hp) (args:Args) (us:cq) (vs:List V) (Q:VK) (E:XK),gJ k A->OD P w K mg base A outer s H->BindsTo s fd args (ps.zip us)->Vals vs us->sp vs H Q E->
  codeAny (model P w) A (.call (.ref f) args) (CR CX outer P w H s Q E) s
section
variable {X:Cx} {pins:de} {σ:St} {H:Hp} {s s':Shared}
theorem Inv.ZX(I:Inv X pins σ H s):OD X.prog X.w X.K X.mg X.base X.A X.stack s H:=
 #[I.ok.frames,I.ok.mod,I.bs,zaX I.ok.R5 I.sz,I.stack,I.EX,I.cw,I.bare]
theorem Inv.after(I:Inv X pins σ H s)(h:CE X.stack X.prog X.w H s Q u s'):EP X pins σ Q u s':=by let#[v,c,e,bare,un,f,r,q]:=h;let#[i,g,d,t,a]:=s';obtain rfl:a=s.os:=e;exact#[v,c,I.call un f bare<|λb z=>absurd z A?,r,q]
end
noncomputable def wR(sp:Sp)(a:List V)(E:XK)(t:TA):TE:=λc H Q=>t c H λvs b=>sp (vs++a) b Q E
noncomputable def Binds(K:zde)(d:FuncData)(c:List Str)(b:cq):Prop:=
 ∀(s:Shared) (a:cq),K.In s.heap->(a++b).c=c.c->BindsTo s d #[a,[]] (c.zip<|a++b)
theorem Binds.all{K:zde}{d:FuncData}{b:List Str}(h:∀a:cq,a.c=b.c->bindArgs d #[a,[]]=pure (b.zip a)):Binds K d b []:=λs a _ c=>by rw[zdd]at c ⊢;exact .of_eq<|h a c
noncomputable def Passes(c:Dj)(X:Cx)(E:XK):Prop:=∀(pins:de) (b:St) (H:Hp) (s:Shared) (e:Value) (a:Shared),Inv X pins b H s->c X.stack H s E e a->X.xe e a
section
variable {X:Cx} {CX:Dj} {k:Nat} {f C:Addr} {fd:FuncData} {ps:List Str} {sp:Sp} {Mk:List V} {ds:cq} {E:XK} {x m:Str} {p pos apos:Pos} {e o:Expr} {es:List Expr} {ta:TE} {t:TA}
theorem Jm{b:St}{s:Shared}(F:rq X.prog X.w X.K X.mg X.base CX k f fd ps sp)(j:gJ k X.A)(i:Binds X.K fd ps ds)(l:Vals Mk ds)(n:Passes CX X E)(I:Inv X pins b H s)(r:Vals vs us)(h:sp (vs++Mk) H Q E):wpAny (model X.prog X.w) X.A (call (.ref f) us) (EP X pins b Q) X.xe s:=by
 let c:=r.append l;let d:(us++ds).c=ps.c:=by erw[<-c.c,F.len _ _ _ _ h]
 refine wpAny_call<|codeAny_mono (F.run X.A X.stack s H #[us,[]] (us++ds) (vs++Mk) Q E j I.ZX (i s us I.AB d) c h) λr g a=>?_;cases r with
 | error e=>exact n pins b H s e g I a
 | ok fl=>
  cases fl with
  | ret u=>exact I.after a
  | next=>exact False.elim a
  | brk=>exact False.elim a
  | cont=>exact False.elim a
theorem FQ(F:rq X.prog X.w X.K X.mg X.base CX k f fd ps sp)(u:gJ k X.A)(c:Gl X x)(n:X.mg x=f.i)(g:PySem.W.keepIn X.K (.ref f)=true)(b:Binds X.K fd ps ds)(y:Vals Mk ds)(j:Passes CX X E)(v:PA X (e::es) t)(l:(x==("__debug__":Str))=false:=by decide)(i:starEach (e::es) X.env=(false,eval e X.env)::starEach es X.env:=by rfl)(z:(backTo pos<|starEach es X.env).any (·.1)=false:=by rfl) :
  PE X (.Call (.Name x p) (e::es) [] pos) (wR sp Mk E t):=by
 ext pins s d H Q I h;refine zeh<|F1 I c n ?_ l;refine PySem.W.callWith_K I.ok.mod.YW g (dD (v pos pins s d H _ I h) λB G ⟨vs,D,a,r,q⟩=>#[a.AB,?_]) i z;exact Jm F u b y j a r q
theorem JU(F:rq X.prog X.w X.K X.mg X.base CX k f fd ps sp)(g:gJ k X.A)(d:Gl X x)(b:X.mg x=f.i)(i:PySem.W.keepIn X.K (.ref f)=true)(c:Binds X.K fd ps ds)(j:Vals Mk ds)(l:Passes CX X E)(a:(x==("__debug__":Str))=false:=by decide):PE X (.Call (.Name x p) [] [] pos)<|wR sp Mk E ph:=by ext pins s n H Q I h;refine zeh<|F1 I d b ?_ a;exact PySem.W.callWith_K0 I.AB i<|Jm F g c j l I .nil h
end
structure aM(N P:List Str)(sc:Scope):Prop where
 kind:sc.kind=.function
 co:sc.isCoroutine=false
 gen:sc.isGenerator=false
 nd:N.Nodup
 pre:N.take P.c=P
 par:∀x∈P,sc.names.lookup x=some .local\/sc.names.lookup x=some .cell
 QP:∀y∈sc.names,y.2≠.free
theorem yc{kindOf:Str->Option NameKind}{x:Str}:∀{binds:List<|Str×Value} {m:cB},(∀v,(x,v)∉binds)->bindL kindOf binds m x=m x
 | [],_,_=>rfl
 | (n,v)::r,m,h=>by
  unfold bindL;rw[yc λw a=>h w<|zae _ a];split;let:x≠n:=by ext rfl;exact h v zan
  simp[this];rfl
theorem ye{kindOf:Str->Option NameKind}{x:Str}:∀{binds:List<|Str×Value} {m:cB},(∀v,(x,v)∉binds)->bindC kindOf binds m x=m x
 | [],_,_=>rfl
 | (n,v)::r,m,h=>by
  unfold bindC;rw[ye λw a=>h w<|zae _ a];split;rfl;let:x≠n:=by ext rfl;exact h v zan
  simp[this]
theorem yd{kindOf:Str->Option NameKind}{x:Str}{v:Value}:∀{P:List Str} {vs:cq} {i:Nat} {m:cB},P.Nodup->P[i]?=some x->vs[i]?=some v->kindOf x=some .local->
  bindL kindOf (P.zip vs) m x=some v
 | [],_,_,_,_,h,_,_=>by simp at h
 | _::_,[],_,_,_,_,h,_=>by simp at h
 | p::P,w::vs,0,m,nd,h1,h2,hk=>by simp at h1 h2;subst h1;subst h2;show bindL kindOf ((p,w)::P.zip vs) m p=_;unfold bindL;rw[yc λv a=>(zau.mp nd).1 (of_mem_zip a).1,zam hk];simp
 | p::P,w::vs,i+1,m,nd,h1,h2,hk=>by unfold bindL;exact yd (zau.mp nd).2 (~~~h1) (~~~h2) hk
theorem yf{kindOf:Str->Option NameKind}{x:Str}{v:Value}:∀{P:List Str} {vs:cq} {i:Nat} {m:cB},P.Nodup->P[i]?=some x->vs[i]?=some v->kindOf x≠some .local->
  bindC kindOf (P.zip vs) m x=some v
 | [],_,_,_,_,h,_,_=>by simp at h
 | _::_,[],_,_,_,_,h,_=>by simp at h
 | p::P,w::vs,0,m,nd,h1,h2,hk=>by simp at h1 h2;subst h1;subst h2;show bindC kindOf ((p,w)::P.zip vs) m p=_;unfold bindC;rw[ye λv a=>(zau.mp nd).1 (of_mem_zip a).1,zaj hk];simp
 | p::P,w::vs,i+1,m,nd,h1,h2,hk=>by unfold bindC;exact yf (zau.mp nd).2 (~~~h1) (~~~h2) hk
noncomputable def start(N:List Str)(vs:List V):St:=vs.map some++List.replicate (N.c-vs.c) none
noncomputable def Ag(c:Dj)(P:Program)(w:World)(K:zde)(mg:cB)(base:Heap)(N:List Str)(qual:Str)(scope:Scope)(f:Addr)(a:Value)(A:Around)(outer:List Env)(s:Shared)(H:Hp)(E:XK):Cx where
 prog:=P
 w:=w
 K:=K
 mg:=mg
 base:=base
 A:=A.deeper<|envOfC qual scope s.d f a
 N:=N
 s₀:=s
 H₀:=H
 env:=envOfC qual scope s.d f a
 outer:=outer
 stack:=envOfC qual scope s.d f a::outer
 ex:=[]
 calm:=true
 fn:=λ_=>true
 pn:=[]
 xe:=λe d=>wpAny (model P w) (A.deeper<|envOfC qual scope s.d f a) (leaving (envOfC qual scope s.d f a) e) (λ_ b=>c outer H s E e b) (λg b=>c outer H s E g b) d
theorem CQ{a:Scope}{n:Nat}{x:Str}(h:a.names.lookup x=some .cell):∃c,(cellsFrom n a.names []).lookup x=some c:=by exact zdn.mp<|PySem.W.cellsFrom_some a.names n []<|.inl h
theorem Hv{L:Dj}{P:Program}{w:World}{K:zde}{mg:cB}{base:Heap}{N l:List Str}{qual:Str}{scope:Scope}{f:Addr}{t:Value}{A:Around}{outer:List Env}{s I:Shared}{H:Hp}{E:XK}{C:cq}{vs:List V}(S:aM N l scope)(O:A.handled=none)(g:OD P w K mg base A outer s H)(Q:vs.c=l.c)(r:Vals vs C)(x:InCallC s s.d (bindL (envOfC qual scope s.d f t).kindOf (l.zip C) λ_=>none) (cellsFrom (s.d+1) scope.names []) (bindC (envOfC qual scope s.d f t).kindOf (l.zip C) λ_=>none) I) :
  Inv (Ag L P w K mg base N qual scope f t A outer s H E) [] (start N vs) H I:=by
 let W:l.c<=N.c:=by let:=zaC List.length S.pre;rw[zaL]at this;lia
 let#[n,R,rfl,G]:=x.done;let B:∀b:Addr,b∉(Ag L P w K mg base N qual scope f t A outer s H E).ex:=λb z=>absurd (show b∈([]:cx)from z) A?;refine#[#[g.mod,S.kind,rfl,rfl,zaf _,λy z c n d=>?_,λy j=>?_,λy c _ h=>?_,λ_=>O,Around.frames_deeper g.frames,.inr #[rfl,rfl],λb z=>absurd z<|B b,g.bs,g.R5,λb _ _=>B b,λb z=>absurd z<|B b,g.uR,g.SR],
  rfl,g.bare,Un.kept G,#[_,x.toInCall.ns,λi y v n d U=>?_],λy c h=>#[_,x.cell y c h],g.cw.fresh<|zaf _,λy c h=>?_,λp m=>absurd (show p∈([]:de)from m) A?,g.cw.kept G,?_]
 exact name_of_addr x.apart (zdq n)<|zdq d;let j:=j;ext(j|j:j);exact CQ j;exact absurd rfl<|S.QP _<|zdq j;exact zbL<|x.above y c<|zdq h;let o:i<vs.c:=by unfold start at d;ext(o:i<vs.c);exact o;rw[zaO<|~~~o]at d;rw[getElem?_replicate]at d;split at d<;>cases d
 let M:vs[i]?=some v:=by
  unfold start at d;rw[zaU (~~~o),zao]at d;cases e:vs[i]? with
  | none=>rw[e]at d;cases d
  | some a=>rw[e]at d;cases d;rfl
 let#[u,F,rv]:=r.get M;let m:l[i]?=some y:=by erw[<-S.pre,getElem?_take_of_lt (),n]
 let D:l.Nodup:=by erw[<-S.pre,S.nd.sublist<|take_sublist _ _]
 refine#[u,rv,?_];ext(k|k:S.par y<|zag m);exact .inl #[k,yd D m F k];let#[c,e]:=CQ k;refine .inr #[.inl k,c,e,?_];let q:=x.cell y c e;rw[yf D m F<|by show scope.names.lookup y≠_;rw[k];decide]at q;exact q;exact g.cw.fresh<|zbL<|x.above y c<|zdq h;unfold start;show _=N.c;rw[zav,zaa,length_replicate];lia
theorem Ld{p:Dj}{P:Program}{w:World}{K:zde}{mg:cB}{base:Heap}{k:Nat}{f:Addr}{name qual:Str}{params:Arguments}{body:List Stmt}{scope:Scope}{F kV i M d ct X:Value}{C od:Option Addr}{U:Array<|Option Value}{N m:List Str}{sp:Sp}(lk:K.lookup f=some #[X,od,.func<|PySem.W.fnOf name qual params body scope F kV i M C d ct,U])(kO:PySem.W.codeIn K d qual=true)(S:aM N m scope)(h:∀vs H Q E,sp vs H Q E->vs.c=m.c)(uL:∀(A:Around) (outer:List Env) (s:Shared) (H:Hp) (vs:List V) (Q:VK) (E:XK),gJ k (A.deeper<|envOfC qual scope s.d f d)->sp vs H Q E->
   ∃t,AL (Ag p P w K mg base N qual scope f d A outer s H E) body t/\t { nx:=λ_ c=>Q .fU c,rt:=Q } (start N vs) H) :
  rq P w K mg base p (k+1) f (PySem.W.fnOf name qual params body scope F kV i M C d ct) m sp:=by
 refine#[h,λA outer s H args Y vs Q E B j Z r G=>?_];let D:=j.mod.YW.keeps λb o e=>(j.bs b o e).1;let Vs:∀y∈m.zip Y,scope.names.lookup y.1=some .local\/(scope.names.lookup y.1=some .cell/\((cellsFrom (s.d+1) scope.names []).lookup y.1).isSome=true):=λ⟨n,v⟩ hy=>by ext(q|q:S.par n (of_mem_zip hy).1);exact .inl q;exact .inr #[q,PySem.W.cellsFrom_some _ _ _<|.inl q]
 refine codeAny_call_function B.depth (D _ _ lk) rfl S.co S.gen rfl (PySem.W.codeRec_of D kO)<|Z _ _ _ _ ?_;refine wpAny_newFunctionEnv_cells S.kind Vs λenv he L x=>?_;subst he;refine#[(j.mod.nolimit.keeps λb o e=>(j.bs b o e).1).keeps x.toInCall.keep,codeAny_func ?_];let#[t,O,R]:=uL A outer s H vs Q E (B.deeper _) G;let I:Inv (Ag p P w K mg base N qual scope f d A outer s H E) [] (start N vs) H L:=Hv S B.hd j (h _ _ _ _ G) r x;refine zbK (O [] L (start N vs) H _ I R) (λfl z g=>?_) λe z g=>g;let l:∀{a:St} {c:Hp} {v:V} {u:Value},Inv (Ag p P w K mg base N qual scope f d A outer s H E) [] a c z->RelV v u->Q v c->CE outer P w H s Q u z:=
  λ{a c v u} J rv q=>#[v,c,J.os,J.bare,J.base,J.cw,rv,q]
 cases fl with
 | ret u=>
  let#[v,a,c,J,rv,q]:=g;exact l J rv q
 | next=>
  let#[a,c,J,q]:=g;exact l (v:=V.fU) (u:=Value.none) J rfl q
 | brk=>
  let#[_,_,_,q]:=g;exact False.elim q
 | cont=>
  let#[_,_,_,q]:=g;exact False.elim q
section
variable {X:Cx} {x:Str} {p pos:Pos} {e:Expr} {es:List Expr} {t:TA} {id T:String} {r:List V->Hp->VK->Prop}
noncomputable def TJ(r:List V->Hp->VK->Prop)(t:TA):TE:=λa H Q=>t a H λvs b=>r vs b Q
theorem aE(g:eF X (.builtin id) r)(d:Gl X x)(l:X.mg x=none)(c:bootBuiltins x=some (.builtin id))(o:PA X (e::es) t)(n:x≠ "__name__":=by decide)(k:(x==("__debug__":Str))=false:=by decide)(i:starEach (e::es) X.env=(false,eval e X.env)::starEach es X.env:=by rfl)(u:(backTo pos<|starEach es X.env).any (·.1)=false:=by rfl):PE X (.Call (.Name x p) (e::es) [] pos)<|TJ r t:=by ext pins s a H Q I h;refine zeh<|dM I d l c ?_ n k;exact PyProof.Rows.callWith_builtin1 (dD (o pos pins s a H _ I h) λb j ⟨vs,f,q,v,m⟩=>g pins j a f vs b Q q v m) i u
theorem iD(g:eF X (.type T) r)(d:Gl X x)(l:X.mg x=none)(c:bootBuiltins x=some (.type T))(o:PA X (e::es) t)(n:x≠ "__name__":=by decide)(k:(x==("__debug__":Str))=false:=by decide)(i:starEach (e::es) X.env=(false,eval e X.env)::starEach es X.env:=by rfl)(u:(backTo pos<|starEach es X.env).any (·.1)=false:=by rfl):PE X (.Call (.Name x p) (e::es) [] pos)<|TJ r t:=by ext pins s a H Q I h;refine zeh<|dM I d l c ?_ n k;exact zaJ (dD (o pos pins s a H _ I h) λb j ⟨vs,f,q,v,m⟩=>g pins j a f vs b Q q v m) i u
end
end L2
namespace HT
open PySem PyProof.Rows
noncomputable def fi:dm->dm->Bool
 | [],[]=>false
 | [],_::_=>true
 | _::_,[]=>false
 | x::xs,y::ys=>if x=y then fi xs ys else decide (x<y)
theorem iT(x y:Int)(xs ys:dm):fi (x::xs) (y::ys)=if x=y then fi xs ys else decide (x<y):=rfl
theorem vT:fi [] []=false:=rfl
theorem uo(y:Int)(ys:dm):fi [] (y::ys)=true:=rfl
theorem ur(x:Int)(xs:dm):fi (x::xs) []=false:=rfl
theorem Ll(A:Around)(s:Shared)(a:Int)(t:Tok)(c:Int)(u:Tok):∃e,SeqAt.EqAt A s (.int a t) (.int c u) e/\(e=true↔a=c):=
 #[(a==c),zdv a t c u,by simp]
theorem Jx(A:Around)(s:Shared)(a:Int)(t:Tok)(c:Int)(u:Tok)(prog:Program)(w:World)(E:da)(Q:da)(h:Q (.bool<|decide<|a<c) s) :
  wpAny (model prog w) A (richCompare .Lt (.int a t)<|.int c u) Q E s:=
 (PyProof.Rows.lt_int h:wpAny (model prog w) A (compareOp .Lt (.int a t)<|.int c u) Q E s)
noncomputable def yP(n d:Nat):Option Int->Nat
 | none=>d
 | some v=>if v<0 then(v+(n:Int)).toNat else min v.toNat n
end HT
namespace L2
open PySem PySem.Spec PyProof.Rows
abbrev TO:=St->Hp->(Option Int->Hp->Prop)->Prop
noncomputable def PO(X:Cx)(e:Option Expr)(t:TO):Prop:=
 ∀(pins:de) (s:Shared) (a:St) (H:Hp) (Q:Option Int->Hp->Prop),Inv X pins a H s->t a H Q->
  wpAny (model X.prog X.w) X.A (evalPart e X.env) (λu c=>∃o b,Inv X pins a b c/\IsPart u o/\Q o b) X.xe s
noncomputable def i9:TO:=λ_ H Q=>Q none H
noncomputable def qD(t:TE):TO:=λa H Q=>t a H λx b=>∃i,x=.int i/\Q (some i) b
theorem intsAre_of:∀{a:cq},Vals ns.f a->IntsAre a ns:=by
 induction ns with
 | nil=>intro a r;rw[map_nil]at r;cases r;exact .nil
 | cons n ns b=>
  ext a r;rw[zbx]at r;cases r with
  | cons d c=>
   let#[t,e]:=d;subst e;exact .cons n t<|b c
section
variable {te:TE} {lo hi:Option Expr} {tl th:TO}
theorem b7:PO X none i9:=by ext pins s a H Q I h;erw[evalPart_none,zay #[none,H,I,.none,h]]
theorem bZ(h:PE X e te):PO X (some e)<|qD te:=by ext pins s b H Q I d;rw[evalPart_some];refine dD (h pins s b H _ I d) λu j ⟨x,a,f,g,c⟩=>?_;let#[i,rfl,q]:=c;let#[t,rfl]:=g;exact#[some i,a,f,.int i t,q]
noncomputable def SlR(X:Cx)(r:V->Option Int->Option Int->Hp->VK->Prop):Prop:=
 ∀(pins:de) (s:Shared) (a:St) (H:Hp) (x:V) (v b c:Value) (lo hi:Option Int) (d:Addr) (Q:VK),Inv X pins a H s->RelV x v->s.heap.IsSliceOf d b c .none->IsPart b lo->IsPart c hi->r x lo hi H Q->
  ∃T id,typeLookup (.type T) "__getitem__"=pure (some<|.builtin id)/\s.TypeIs v T/\wpAny (model X.prog X.w) X.A (getItem v<|.ref d) (EP X pins a Q) X.xe s
noncomputable def LX(r:V->Option Int->Option Int->Hp->VK->Prop)(te:TE)(tl th:TO):TE:=λa H Q=>te a H λx b=>tl a b λl c=>th a c λu d=>r x l u d Q
theorem bF(y:SlR X r)(F:PE X e te)(g:PO X lo tl)(A:PO X hi th):PE X (.Subscript e (.Slice lo hi none p2) pos)<|LX r te tl th:=by ext pins s a H Q I h;refine Subscript_<|dD (F pins s a H _ I h) λv K ⟨x,i,z,B,p⟩=>?_;refine wpAny_Slice<|dD (g pins K a i _ z p) λd k ⟨l,E,L,n,m⟩=>dD (A pins k a E _ L m) λf c ⟨u,G,t,o,D⟩=>?_;rw[evalPart_none];refine zay ?_;let#[T,id,w,j,C]:=y pins { c with heap:=c.heap.push { cls:=.type "slice",data:=.fields #[d,f,.none,] } } a G x v d f l u c.d Q (t.kept λb M q=>zap _ q) B (Heap.IsSliceOf.new ..) n o D;exact tail_any j w C (by with_unfolding_all rfl)
noncomputable def oP(xs:List V)(lo hi:Option Int):List V:=(xs.drop<|HT.yP xs.c 0 lo).take<|HT.yP xs.c xs.c hi-HT.yP xs.c 0 lo
theorem CN(xs:List V)(lo hi:Option Int):(oP xs lo hi).c<=xs.c:=by unfold oP;rw[zaL,zbz];lia
end
noncomputable def F8(n:Nat)(i:Int):Option Nat:=if 0<=i then(if i<n then some i.toNat else none)else if -(n:Int)<=i then some (i+n).toNat else none
noncomputable def jJ{a:Type}(xs:List a)(i:Int):Option a:=(F8 xs.c i).bind λj=>xs[j]?
theorem F7(h:F8 n i=some j):seqIndex? i n=some j/\j<n/\-(n:Int)<=i/\i<n:=by unfold F8 at h;ext(b:0<=i);rw[zam b]at h;ext(a:i<n);rw[zam a]at h;let e:=zas h;exact#[by rw[seqIndex_of b a,e],(),(),a];rw[zaj a]at h;cases h;rw[zaj b]at h;by_cases a : -(n:Int)<=i;rw[zam a]at h;exact#[by rw[seqIndex_neg () a,zas h],(),a,()];rw[zaj a]at h;cases h
theorem GK{a:Type}{xs:List a}{i:Int}{v:a}(h:jJ xs i=some v):∃j,seqIndex? i xs.c=some j/\xs[j]?=some v/\j<xs.c/\-(xs.c:Int)<=i/\i<xs.c:=by
 unfold jJ at h;cases e:F8 xs.c i with
 | none=>rw[e]at h;cases h
 | some j=>
  rw[e]at h;let#[c,d,b,f]:=F7 e;exact#[j,c,h,d,b,f]
theorem bV{a:Type}{xs:List a}{j:Nat}{v:a}(h:xs[j]?=some v):jJ xs (j:Int)=some v:=by
 let b:=(zab.mp h).1;let e:F8 xs.c (j:Int)=some j:=by unfold F8;rw[zam (),zam ()];simp
 unfold jJ;erw[e,h]
theorem CY(xs:List α)(v:α):jJ (xs++[v]) (-1)=some v:=by
 let a:(xs++[v]).c=xs.c+1:=by simp
 let e:F8 (xs++[v]).c (-1)=some xs.c:=by unfold F8;rw[a,zaj B!,zam ()];congr 1;lia
 unfold jJ;rw[e];show(xs++[v])[xs.c]?=some v;simp
noncomputable def Ou(b:Expr):Prop:=∀o i,subscripted b false o i=operate [o,i] (getItem o i)
noncomputable def Wu(X:Cx)(r:R2):Prop:=
 ∀(value slice:Expr) (pins:de) (s:Shared) (a:St) (H:Hp) (x y:V) (v u:Value) (Q:VK),Inv X pins a H s->RelV x v->RelV y u->r x y H Q->
  subscripted slice false v u=operate [v,u] (getItem v u)->wpAny (model X.prog X.w) X.A (subscriptTail value slice v u) (EP X pins a Q) X.xe s
noncomputable def MtR(X:Cx)(id:String)(r:V->List V->Hp->VK->Prop):Prop:=
 ∀(pins:de) (s:Shared) (b:St) (H:Hp) (x:V) (xs:List V) (v:Value) (a:cq) (Q:VK),Inv X pins b H s->RelV x v->Vals xs a->r x xs H Q->
  wpAny (model X.prog X.w) X.A (call (.builtin id)<|v::a) (EP X pins b Q) X.xe s
section
variable {X:Cx} {a b:Expr} {ta tb:TE} {pos:Pos}
theorem aF(j:Wu X r)(l:PE X a ta)(c:PE X b tb)(i:Ou b):PE X (.Subscript a b pos)<|Ip r ta tb:=by ext pins s e H Q I h;exact Subscript_<|R7 l c I h λv u d x y g m k f q=>j a b pins d e g x y v u Q m k f q<|i _ _
noncomputable def M1(K:zde):R2:=λx y H Q=>∃p xs i v,x=.ref p/\y=.int i/\aI K H p xs/\jJ xs i=some v/\Q v H
noncomputable def MZ(K:zde):R2:=λx y H Q=>∃p xs i v,x=.ref p/\y=.int i/\SqT K H p xs/\jJ xs i=some v/\Q v H
theorem aw:Wu X<|M1 X.K:=by
 ext value slice pins s o H x y v u Q I L E h k;let#[p,xs,i,z,rfl,rfl,A,F,q]:=h;cases L;let#[t,rfl]:=E;let#[n,r,f,O]:=I.list A;let#[j,d,G,M,B,C]:=GK F;let#[w,l,D]:=r.get G;let m:=r.c;let N:=um;let c:EP X pins o Q w s:=#[z,H,I,D,q];ext(g:0<=i);let e:i.toNat=j:=by rw[seqIndex_of g C]at d;exact zas d
 exact item_listR f.isList g () (by rw[e];simpa using l) c k;let e:(i+(n.toArray.size:Int)).toNat=j:=by rw[seqIndex_neg () B]at d;erw[zaW,<-m,zas d]
 exact subscriptTail_builtinR f.isList.typeIs slot_list_getitem.lookup
  (wpAny_getItem_list_neg f.isList () (by rw[zaW]<;>lia) () (by rw[e];simpa using l) #[rfl,c]) k
theorem dZ:Wu X<|MZ X.K:=by
 ext value slice pins s C H x y v u Q I o g h l;let#[p,xs,i,z,rfl,rfl,e,k,q]:=h;cases o;let#[t,rfl]:=g;let#[A,r,c,G]:=I.tuple e;let#[j,d,n,B,D,F]:=GK k;let#[w,m,f]:=r.get n;let E:=um;exact subscriptTail_builtinR c.typeIs slot_tuple_getitem.lookup
  (getItem_tuple c () () (by erw[zaW,<-r.c,d]) (~~~m) #[rfl,#[z,H,I,f,q]]) l
theorem D8(c:cq)(n j:Nat)(u:Value):Obj.mapSeq (·.setIfInBounds j u) { cls:=.type "list",data:=.seq c.toArray n }={ cls:=.type "list",data:=.seq (c.set j u).toArray n }:=by simp[Obj.mapSeq]
theorem Inv.lst{pins:de}{d:St}{H:Hp}{s:Shared}{p:Addr}{xs:List V}(I:Inv X pins d H s)(h:H p=some (.lst xs)) :
  ∃(c:cq) (n:Nat),Vals xs c/\s.heap.get? p=some { cls:=.type "list",data:=.seq c.toArray n }/\xs.c<=sizeLine:=by
 let#[z,c,n,r,e]:=I.cw p _ h;exact#[c,n,r,e,z]
theorem Inv.QW{pins:de}{i:St}{H:Hp}{s:Shared}{p:Addr}{xs ys:List V}{g its':cq}{n c:Nat}{f:Obj->Obj}(I:Inv X pins i H s)(h:H p=some (.lst xs))(l:s.heap.get? p=some { cls:=.type "list",data:=.seq g.toArray n })(d:f { cls:=.type "list",data:=.seq g.toArray n }={ cls:=.type "list",data:=.seq its'.toArray c })(r:Vals ys its')(k:ys.c<=sizeLine)(t:Nat) :
  Inv X pins i (upd H p<|.lst ys) { s with heap:=s.heap.update p f,toks:=t }:=by
 let e:(s.heap.update p f).get? p=some { cls:=.type "list",data:=.seq its'.toArray c }:=by rw[zbI f l (by rw[d]<;>rfl),d]
 refine I.write (by rw[h];trivial) (.inl rfl) (λb u j q=>(zbF _ _<|zbl j).trans q) #[_,e] ?_;exact#[k,its',c,r,e]
noncomputable def Uc:V->V->V->Hp->(Hp->Prop)->Prop:=λo i v H Q=>∃p xs k j,o=.ref p/\i=.int k/\H p=some (.lst xs)/\F8 xs.c k=some j/\Q (upd H p<|.lst<|xs.set j v)
theorem set_list:Wn X Uc:=by
 ext pins s D H o i v E C u Q I z ri rv h;let#[p,xs,k,j,rfl,rfl,y,A,q]:=h;cases z;let#[t,rfl]:=ri;let#[l,n,r,f,B]:=I.lst y;let#[c,G,m,x]:=F7 A;let d:=r.c;let F:=um;let g:=
  I.QW y f (D8 l n j u) (r.set rv j) (zcq>>B) s.toks
 ext(w:0<=k);let e:k.toNat=j:=by rw[seqIndex_of w x]at c;exact zas c
 exact PySem.W.ki_setAt f w () (by erw[zaW,<-d,x]) (e>>#[_,g,q]);let e:(k+(l.toArray.size:Int)).toNat=j:=by rw[seqIndex_neg () m]at c;erw[zaW,<-d,zas c]
 exact PySem.W.ki_setBack f () (by erw[zaW,<-d,m]) () (e>>#[_,g,q])
theorem yD(lo c:Option Int)(n:Nat):(sliceBounds lo c none n).1=((HT.yP n 0 lo:Nat):Int)/\(sliceBounds lo c none n).2.1=((HT.yP n n c:Nat):Int)/\(sliceBounds lo c none n).2.2=1:=by
 refine#[?_,?_,rfl];cases lo with
 | none=>simp[sliceBounds,HT.yP]
 | some i=>
  simp[sliceBounds,HT.yP,Option.getD_none,show(1:Int) > 0 by decide,zfM];ext(h:i<0);simp[h,zfM]<;>lia;simp[h,zcP]<;>lia
 cases c with
 | none=>simp[sliceBounds,HT.yP]
 | some i=>
  simp[sliceBounds,HT.yP,Option.getD_none,show(1:Int) > 0 by decide,zfM];ext(h:i<0);simp[h,zfM]<;>lia;simp[h,zcP]<;>lia
theorem vB(c:cq)(lo d:Option Int):slicePick c.toArray lo d none=((c.drop<|HT.yP c.c 0 lo).take<|HT.yP c.c c.c d-HT.yP c.c 0 lo).toArray:=by let#[g,e,f]:=yD lo d c.toArray.size;unfold slicePick;rw[g,e,f];simp only[sliceRange_one,pick_run,zaW]<;>rfl
noncomputable def yZ(K:zde):V->Option Int->Option Int->Hp->VK->Prop:=λx lo c H Q=>∃a xs,x=.ref a/\aI K H a xs/\∀p,H p=none->Q (.ref p) (upd H p<|.lst<|oP xs lo c)
theorem cp:SlR X<|yZ X.K:=by ext pins s m H x v p t lo c n Q I k g i j h;let#[a,xs,rfl,f,q]:=h;cases k;let#[l,r,d,e]:=I.list f;let hlen:=r.c;refine#["list",_,slot_list_getitem.lookup,d.isList.typeIs,?_];refine wpAny_getItem_list_slice d.isList g i j .none A? ?_ (by rw[zaW]<;>lia);rw[vB,<-hlen];refine#[.ref s.d,_,I.laid (λb o q=>zap _ q) (zaf _) ?_,rfl,q _<|I.cw.fresh<|zaf _];exact#[zaX (CN xs lo c) e,_,0,(r.drop<|HT.yP xs.c 0 lo).take<|HT.yP xs.c xs.c c-HT.yP xs.c 0 lo,zaK _ rfl]
noncomputable def oM:V->Bool
 | .fU=>true
 | .bl _=>true
 | .int _=>true
 | .str _=>true
 | _=>false
noncomputable def N4:V->V->Bool
 | .fU,.fU=>true
 | .bl a,.bl b=>a==b
 | .bl a,.int b=>(if a then 1 else 0)==b
 | .int a,.bl b=>a==(if b then 1 else 0)
 | .int a,.int b=>a==b
 | .str a,.str b=>a==b
 | _,_=>false
theorem RJ(e:RelV y u)(c:RelV x v)(f:oM y=true)(d:oM x=true):SeqAt.EqAt A s u v<|N4 y x:=by
 cases y with
 | fU=>
  cases e;cases x with
  | fU=>cases c;exact SeqAt.EqAt.same _
  | bl b=>cases c;exact SeqAt.EqAt.none_bool b
  | int b=>obtain⟨t,rfl⟩:=c;exact SeqAt.EqAt.none_int b t
  | str b=>obtain⟨t,rfl⟩:=c;exact SeqAt.EqAt.none_str b t
  | _=>exact absurd (show false=true from d) zaE
 | bl a=>
  cases e;cases x with
  | fU=>cases c;exact SeqAt.EqAt.bool_none a
  | bl b=>cases c;exact SeqAt.EqAt.bool_bool a b
  | int b=>obtain⟨t,rfl⟩:=c;exact SeqAt.EqAt.bool_int a b t
  | str b=>obtain⟨t,rfl⟩:=c;exact SeqAt.EqAt.bool_str a b t
  | _=>exact absurd (show false=true from d) zaE
 | int a=>
  let#[t',rfl]:=e;cases x with
  | fU=>cases c;exact SeqAt.EqAt.int_none a t'
  | bl b=>cases c;exact SeqAt.EqAt.int_bool a t' b
  | int b=>obtain⟨t,rfl⟩:=c;exact zdv a t' b t
  | str b=>obtain⟨t,rfl⟩:=c;exact SeqAt.EqAt.int_str a t' b t
  | _=>exact absurd (show false=true from d) zaE
 | str a=>
  let#[t',rfl]:=e;cases x with
  | fU=>cases c;exact SeqAt.EqAt.str_none a t'
  | bl b=>cases c;exact SeqAt.EqAt.str_bool a t' b
  | int b=>obtain⟨t,rfl⟩:=c;exact SeqAt.EqAt.str_int a t' b t
  | str b=>obtain⟨t,rfl⟩:=c;exact SeqAt.EqAt.str_str a t' b t
  | _=>exact absurd (show false=true from d) zaE
 | _=>exact absurd (show false=true from f) zaE
noncomputable def Ex(x:V)(u:Value):Bool:=match u with
 | .none=>N4 .fU x
 | .bool b=>N4 (.bl b) x
 | .int i _=>N4 (.int i) x
 | .str z _=>N4 (.str z) x
 | _=>false
theorem Lk(r:RelV y u)(f:oM y=true):Ex x u=N4 y x:=by
 cases y with
 | fU=>cases r;rfl
 | bl b=>cases r;rfl
 | int i=>obtain⟨t,rfl⟩:=r;rfl
 | str z=>obtain⟨t,rfl⟩:=r;rfl
 | _=>exact absurd (show false=true from f) zaE
theorem oR{x:V}:∀{xs:List V} {c:cq},Vals xs c->xs.all oM=true->c.any (Ex x)=xs.any λy=>N4 y x
 | _,_,.nil,_=>rfl
 | y::xs,u::c,.cons r t,f=>by rw[all_cons,zdT]at f;rw[any_cons,any_cons,Lk r f.1,oR t f.2]
theorem lZ{A:Around}{s:Shared}{x:V}{v:Value}(g:RelV x v)(e:oM x=true):∀{xs:List V} {d:cq},Vals xs d->xs.all oM=true->∀u∈d,SeqAt.EqAt A s u v (Ex x u)
 | _,_,.nil,_=>λu c=>by cases c
 | y::xs,u::d,.cons r t,f=>λh c=>by rw[all_cons,zdT]at f;ext(rfl|c:zaw.mp c);rw[Lk r f.1];exact RJ r g f.1 e;exact lZ g e t f.2 h c
noncomputable def W9(x:V)(xs:List V):Bool:=xs.any λy=>N4 y x
noncomputable def WU(K:zde)(neg:Bool):R2:=λx y H Q=>∃p xs,y=.ref p/\(aI K H p xs\/SqT K H p xs)/\oM x=true/\xs.all oM=true/\Q (.bl<|if neg then !W9 x xs else W9 x xs) H
theorem Hh:oX X (compareOp .In)<|WU X.K false:=by ext pins s m H x y v u Q I j l h;let#[p,xs,rfl,d,i,e,q]:=h;cases l;ext(d|d:d);let#[c,r,f,k]:=I.list d;refine SeqAt.in_listAt (Ex x) f.isList (λw g=>lZ j i r e w<|~~~g) #[.bl _,H,I,rfl,?_];rw[show c.toArray.any (Ex x)=c.any (Ex x)by simp,oR r e];exact q;let#[c,r,f,k]:=I.tuple d;refine SeqAt.in_tupleAt (Ex x) f (λw g=>lZ j i r e w<|~~~g) #[.bl _,H,I,rfl,?_];erw[show c.toArray.any (Ex x)=c.any (Ex x)by simp,oR r e,q]
theorem kE:oX X (compareOp .NotIn)<|WU X.K true:=by ext pins s m H x y v u Q I j l h;let#[p,xs,rfl,d,i,e,q]:=h;cases l;ext(d|d:d);let#[c,r,f,k]:=I.list d;refine SeqAt.notIn_listAt (Ex x) f.isList (λw g=>lZ j i r e w<|~~~g) #[.bl _,H,I,rfl,?_];rw[show c.toArray.any (Ex x)=c.any (Ex x)by simp,oR r e];exact q;let#[c,r,f,k]:=I.tuple d;refine SeqAt.notIn_tupleAt (Ex x) f (λw g=>lZ j i r e w<|~~~g) #[.bl _,H,I,rfl,?_];erw[show c.toArray.any (Ex x)=c.any (Ex x)by simp,oR r e,q]
theorem oQ:eF X (.type "list") (λxs H Q=>∃p ys,xs=[.ref p]/\(aI X.K H p ys\/SqT X.K H p ys)/\∀l,H l=none->Q (.ref l) (upd H l<|.lst ys)):=by
 ext pins s z H xs B Q I r h;let#[p,ys,rfl,g,q]:=h;let#[u,rfl,A]:=vals1 r;cases A;let i:∀(c:cq),Vals ys c->ys.c<=sizeLine->∀(h':Heap) (f:Nat),(∀b y,s.heap.get? b=some y->h'.get? b=some y)->
   h'.get? s.d=some { cls:=.type "list",dict:=none,data:=.seq c.toArray f,slots:=#[] }->EP X pins z Q (.ref s.d) { s with heap:=h' }:=λc d k h' f j e=>
  #[.ref s.d,_,I.laid j (zaf _)<|show bU X.prog X.w _ h' _ (.lst ys)from#[k,c,f,d,e],rfl,q _<|I.cw.fresh<|zaf _]
 ext(g|g:g);let#[c,d,t,k]:=I.list g;let hlen:=d.c;let#[o,v,m,n,x]:=t.isList;exact call_list_seq p (.inl rfl) v m x (λh' f j e=>i c d k h' f j e) (by simp[zaW]<;>lia);let#[c,d,t,k]:=I.tuple g;let hlen:=d.c;let#[o,v,m,n,x]:=t;exact call_list_seq p (.inr rfl) v m x (λh' f j e=>i c d k h' f j e) (by simp[zaW]<;>lia)
noncomputable def Tr(K:zde)(T:String)(x:V)(H:Hp):Prop:=match x with
 | .str _=>T = "str"
 | .int _=>T = "int"
 | .ref p=>(T = "list"/\∃xs,aI K H p xs)\/(T = "tuple"/\∃o,K.lookup p=some o/\o.cls=.type "tuple"/\o.dict=none)\/
   (T = "dict"/\((∃c,H p=some (.dK c))\/∃c,H p=some (.dT c)))\/(T = "set"/\∃S n,H p=some (.set S n))
 | _=>False
theorem Dm{m:St}{s:Shared}{T:String}(I:Inv X pins m H s)(r:RelV x v)(f:Tr X.K T x H) :
  s.TypeIs v T/\∀a,v=.ref a->∃l,s.heap.get? a=some l/\l.dict=none:=by
 cases x with
 | str z=>
  let#[t,rfl]:=r;cases(show T = "str" from f);exact#[typeIs_str s z t,λ_ e=>nomatch e]
 | int i=>
  let#[t,rfl]:=r;cases(show T = "int" from f);exact#[typeIs_int s i t,λ_ e=>nomatch e]
 | ref p=>
  cases r;ext(⟨rfl,xs,q⟩|⟨rfl,o,d,u,j⟩|⟨rfl,d⟩|⟨rfl,S,n,d⟩:f);let#[w,_,k,_]:=I.list q;refine#[k.isList.typeIs,λa e=>?_];cases e;let#[o,n,e,c,j,_]:=k;exact#[o,e,j];refine#[#[o,I.AB p o d,u],λa e=>?_];cases e;exact#[o,I.AB _ o d,j];let z:∃o,s.heap.get? p=some o/\o.ExactDict:=by ext(⟨h,d⟩|⟨h,d⟩:d);let#[_,_,_,_,o,_,_,e,ex,_]:=I.cw p _ d;exact#[o,e,ex];let#[_,_,_,_,o,_,_,e,ex,_]:=I.cw p _ d;exact#[o,e,ex]
  let#[o,e,ex]:=z;refine#[#[o,e,ex.1],λa g=>?_];cases g;exact#[o,e,ex.2.1];let#[o,_,_,_,e,ex,_]:=I.cw p _ d;refine#[#[o,e,ex.1],λa g=>?_];cases g;exact#[o,e,ex.2.1]
 | _=>exact False.elim f
noncomputable def TK(K:zde)(T:String)(r:V->List V->Hp->VK->Prop)(d:TE):TE:=λe H Q=>d e H λx c=>Tr K T x c/\r x [] c Q
noncomputable def tBM(K:zde)(T:String)(r:V->List V->Hp->VK->Prop)(e:TE)(t:TA):TE:=λd H Q=>e d H λx c=>Tr K T x c/\t d c λxs f=>r x xs f Q
variable {o e:Expr} {es:List Expr} {to:TE} {t:TA} {name:Str} {apos i5:Pos} {T id:String} {r:V->List V->Hp->VK->Prop}
theorem QJ(p:PlainAttrs T)(slot:Slot T name id)(k:typeOf (.builtin id)=pure (.type "method_descriptor"))(q:MtR X id r)(y:PE X o to)(i:attributeBase o name X.env (eval o X.env)=eval o X.env:=by rfl)(m:(apos.endLine==i5.line)=true:=by rfl):PE X (.Call (.Attribute o name apos) [] [] i5)<|TK X.K T r to:=by ext pins s c H Q I h;refine wpAny_Call_method0_late i m<|dD (y pins s c H _ I h) λv n ⟨x,g,d,f,l,u⟩=>?_;let#[j,w]:=Dm d f l;exact#[T,id,p,slot,k,j,w,zdw rfl<|PySem.evalArgs_none<|q pins n c g x [] v [] Q d f .nil u]
theorem fS(F:PlainAttrs T)(slot:Slot T name id)(A:typeOf (.builtin id)=pure (.type "method_descriptor"))(G:MtR X id r)(M:PE X o to)(y:PA X (e::es) t)(j:attributeBase o name X.env (eval o X.env)=eval o X.env:=by rfl)(u:((backTo i5<|starEach (e::es) X.env).all (λx=>!x.1)&&(backToKw i5<|keywordEach [] X.env).all (λx=>x.1.isSome)
  &&decide ((e::es).c+([]:List Keyword).c+(if([]:List Keyword).isEmpty then 0 else 1)<30))=true:=by rfl)(B:(apos.endLine==i5.line)=true:=by rfl)(D:starEach (e::es) X.env=(false,eval e X.env)::starEach es X.env:=by rfl)(w:(backTo i5<|starEach es X.env).any (·.1)=false:=by rfl) :
  PE X (.Call (.Attribute o name apos) (e::es) [] i5) (tBM X.K T r to t):=by
 ext pins s c H Q I h;refine wpAny_Call_method_late j u B rfl<|dD (M pins s c H _ I h) λv E ⟨x,i,d,g,m,q⟩=>?_;let#[k,L]:=Dm d g m;refine#[T,id,F,slot,A,k,L,?_];let f:=y i5 pins E c i _ d q;rw[D]at f ⊢;refine zdw (by show(false || (backTo i5<|starEach es X.env).any (·.1))=false;rw[w]<;>rfl)<|Calls.evalArgs_plain ?_;exact dD f λz l ⟨vs,C,N,p,n⟩=>G pins l c C x vs v z Q N g p n
end
noncomputable def Ws(X:Cx)(id:String)(r:V->List V->Hp->VK->Prop):Prop:=
 ∀(pins:de) (s:Shared) (b:St) (H:Hp) (x:V) (xs:List V) (v:Value) (a:cq) (Q:VK),Inv X pins b H s->RelV x v->Vals xs a->r x xs H Q->
  wpAny (model X.prog X.w) X.A (call (.builtin id)<|v::a) (EP X pins b Q) X.xe s
theorem Vals.one:∀{x:V} {a:cq},Vals [x] a->∃u,a=[u]/\RelV x u
 | _,_,.cons r .nil=>#[_,rfl,r]
theorem Vals.zero:∀{a:cq},Vals [] a->a=[]
 | _,.nil=>rfl
theorem Vals.dropLast(h:Vals xs us):Vals xs.dropLast us.dropLast:=by
 induction h with
 | nil=>exact .nil
 | cons r t a=>
  cases t with
  | nil=>exact .nil
  | cons q t'=>exact .cons r a
theorem Vals.eraseIdx:∀{xs:List V} {a:cq} (i:Nat),Vals xs a->Vals (xs.eraseIdx i) (a.eraseIdx i)
 | _,_,_,.nil=>.nil
 | _,_,0,.cons _ t=>t
 | _,_,i+1,.cons r t=>.cons r<|Vals.eraseIdx i t
theorem Vals.reverse(h:Vals xs us):Vals xs.reverse us.reverse:=by
 induction h with
 | nil=>exact .nil
 | cons r t a=>rw[reverse_cons,reverse_cons];exact Vals.append a<|.cons r .nil
theorem Ew{c:Type}(l:List c):l.eraseIdx (l.c-1)=l.dropLast:=by
 induction l with
 | nil=>rfl
 | cons a r d=>
  cases r with
  | nil=>rfl
  | cons b r=>
   let e:(a::b::r).c-1=((b::r).c-1)+1:=(by let f:(a::b::r).c=r.c+2:=rfl;let g:(b::r).c=r.c+1:=rfl;lia);rw[e,eraseIdx_cons_succ,d];all_goals rfl
section
variable {X:Cx} {pins:de} {σ:St} {H:Hp} {s:Shared} {l b:Addr} {xs ys zs:List V}
theorem Inv.Nx{a its':cq}{n:Nat}{f:Array Value->Array Value}{t':Nat}(I:Inv X pins σ H s)(i:H l=some (.lst xs))(e:s.heap.get? l=some { cls:=.type "list",data:=.seq a.toArray n })(c:f a.toArray=its'.toArray)(g:Vals ys its')(h:ys.c<=sizeLine) :
  Inv X pins σ (upd H l<|.lst ys) { s with heap:=s.heap.update l<|Obj.mapSeq f,toks:=t' }:=by
 let q:=PySem.IsL.update e f;rw[c]at q;refine I.write (i>>trivial) (.inl rfl) (λk u d j=>(zbF s.heap (Obj.mapSeq f)<|zbl d).trans j) #[_,q] ?_;exact#[h,its',_,g,q]
theorem Inv.YO(I:Inv X pins σ H s)(a:Vals ys aZ)(c:ys.c<=sizeLine) :
  Inv X pins σ (upd H s.d<|.lst ys) { s with heap:=s.heap.push { cls:=.type "list",data:=.seq aZ.toArray },toks:=t' }:=
 I.laid (λ_ _ q=>zap _ q) (zaf _) #[c,aZ,0,a,zaK _ rfl]
theorem Inv.fresh(I:Inv X pins σ H s):H s.d=none:=I.cw.fresh<|zaf _
theorem Inv.BZ(I:Inv X pins σ H s)(c:H l=some (.lst xs)):xs.c<=sizeLine/\∃(a:cq) (n:Nat),Vals xs a/\xs.c=a.c/\s.heap.get? l=some { cls:=.type "list",data:=.seq a.toArray n }:=by let#[z,a,n,r,e]:=I.cw l _ c;exact#[z,a,n,r,r.c,e]
theorem Km(h:n<=sizeLine):Builtin.List.listTooLong n=false:=by unfold Builtin.List.listTooLong;exact zaZ ()
end
noncomputable def FE:V->List V->Hp->VK->Prop:=λx vs H Q=>∃l xs y,x=.ref l/\vs=[y]/\H l=some (.lst xs)/\xs.c<sizeLine/\Q .fU (upd H l<|.lst<|xs++[y])
theorem cL:Ws X "list.append" FE:=by ext pins s j H x vs v g Q I c rv h;let#[l,xs,y,rfl,rfl,a,i,q]:=h;cases c;let#[u,rfl,d]:=rv.one;let#[z,b,n,r,f,e]:=I.BZ a;refine zdM F.slot_list_append #[_,e,rfl] F.entry_list_append (F.args_list_append_2 _ _) (PySem.list_append l b.toArray n u<|by rw[zaW];lia) #[e,?_];refine#[.fU,_,I.Nx a e A? (r.append<|.cons d .nil) ?_,rfl,q];rw[zav,zbd];lia
noncomputable def FD:V->List V->Hp->VK->Prop:=λx vs H Q=>∃l b xs zs,x=.ref l/\vs=[.ref b]/\H l=some (.lst xs)/\H b=some (.lst zs)/\xs.c+zs.c<=sizeLine/\Q .fU (upd H l<|.lst<|xs++zs)
theorem pV:Ws X "list.extend" FD:=by
 ext pins s p H x vs v t Q I m rv h;let#[l,b,xs,zs,rfl,rfl,d,i,w,q]:=h;cases m;let#[u,rfl,g]:=rv.one;cases g;let#[z,a,n,r,o,e]:=I.BZ d;let#[y,c,n2,f,A,j]:=I.BZ i;let hsz:a.toArray.size+c.toArray.size<=sizeLine:=by rw[zaW,zaW];lia
 let k:¬(!a.toArray.isEmpty&&Builtin.List.listTooLong (a.toArray.size+c.toArray.size))=true:=Km hsz>>Bool.and_false>>zaE
 refine zdM F.slot_list_extend #[_,e,rfl] F.entry_list_extend (F.args_list_extend_2 _ _)
  (AutoSeq1.list_extend_list_list_0 l a.toArray n b c.toArray n2 k (by rw[zaW];lia) ()) #[e,j,?_]
 refine#[.fU,_,I.Nx d e A? (r.append f) ?_,rfl,q];rw[zav];lia
noncomputable def Ym:V->List V->Hp->VK->Prop:=λx vs H Q=>∃l xs y,x=.ref l/\vs=[]/\H l=some (.lst xs)/\xs[xs.c-1]?=some y/\Q y (upd H l<|.lst xs.dropLast)
theorem QT:Ws X "list.pop" Ym:=by
 ext pins s o H x vs v m Q I i rv h;let#[l,xs,y,rfl,rfl,c,g,q]:=h;cases i;let b:=rv.zero;subst b;let#[z,a,n,r,d,e]:=I.BZ c;let#[u,j,k]:=r.get g;let f:a.toArray[a.toArray.size-1]?=some u:=by show a.toArray[a.c-1]?=some u;erw[<-zcY,<-d,j]
 refine zdM F.slot_list_pop #[_,e,rfl] F.entry_list_pop (F.args_list_pop_1 _) (MeetsSeq.list_pop_last l a.toArray n u f<|by rw[zaW];lia) #[e,?_];refine#[y,_,I.Nx c e ?_ r.dropLast ?_,k,q];rw[zaW,eraseIdxIfInBounds_toArray,Ew];rw[length_dropLast];lia
noncomputable def Ui:R2:=λx y H Q=>∃l b xs zs,x=.ref l/\y=.ref b/\H l=some (.lst xs)/\H b=some (.lst zs)/\xs.c+zs.c<=sizeLine/\∀p,H p=none->Q (.ref p) (upd H p<|.lst<|xs++zs)
theorem dG:oX X (binaryOp .Add) Ui:=by
 ext pins s t H x y v u Q I k f h;let#[l,b,xs,zs,rfl,rfl,j,m,p,q]:=h;cases k;cases f;let#[z,a,n,r,o,e]:=I.BZ j;let#[w,c,n2,i,A,d]:=I.BZ m;refine PySem.P.add_list e d ?_ (by rw[zaW,zaW];lia);let g:a.toArray++c.toArray=(a++c).toArray:=by simp
 erw[g,#[.ref _,_,I.YO (r.append i) (by rw[zav];lia),rfl,q _ I.fresh]]
section
variable {κ:Type} [DecidableEq κ]
noncomputable def eR(a:List<|κ×V)(k:κ):Option V:=(a.find? λkv=>decide<|kv.1=k).map (·.2)
noncomputable def ff(a:List<|κ×V)(k:κ)(v:V):List<|κ×V:=
 if(a.any λkv=>decide<|kv.1=k)=true then a.map (λkv=>if kv.1=k then(kv.1,v)else kv)else a++[(k,v)]
theorem cO{p:κ×V}{k:κ}(e:p.1=k):eR (p::r) k=some p.2:=by simp[eR,zei,e]
theorem cA{p:κ×V}{k:κ}(e:¬p.1=k):eR (p::r) k=eR r k:=by simp[eR,zei,e]
theorem lq(k:κ):∀a:List (κ×V),(a.any λkv=>decide<|kv.1=k)=(eR a k).isSome
 | []=>rfl
 | p::r=>by rw[any_cons];ext(e:p.1=k);simp[cO e,zbc e,Bool.true_or,Option.isSome_some];erw[cA e,zaZ e,Bool.false_or,lq k r]
theorem AS(k j:κ)(y:V):∀a:List (κ×V),eR (a.map λkv=>if kv.1=k then(kv.1,y)else kv) j=(eR a j).map λx=>if j=k then y else x
 | []=>rfl
 | p::r=>by let b:=AS k j y r;rw[zbx];ext(h:p.1=k);rw[zam h];ext(e:p.1=j);rw[cO (p:=(p.1,y)) e,cO e,zeY,zam<|e.symm.trans h];rw[cA (p:=(p.1,y)) e,cA e,b];rw[zaj h];ext(e:p.1=j);rw[cO e,cO e,zeY,zaj<|λz=>h<|e.trans z];rw[cA e,cA e,b]
theorem wL(k j:κ)(y:V):∀a:List (κ×V),eR a k=none->eR (a++[(k,y)]) j=if j=k then some y else eR a j
 | [],_=>by ext(e:k=j);rw[zam e.symm];exact cO e;erw[zaj<|λz=>e z.symm,cA e]
 | p::r,hn=>by
  rw[zcF];let b:¬p.1=k:=λz=>by rw[cO z]at hn;cases hn
  rw[cA b]at hn;ext(e:p.1=j);rw[cO e,cO e,zaj<|λz=>b<|e.trans z];rw[cA e,cA e,wL k j y r hn]
theorem AR(b:List<|κ×V)(k j:κ)(y:V):eR (ff b k y) j=if j=k then some y else eR b j:=by
 unfold ff;ext(a:(b.any λkv=>decide<|kv.1=k)=true);rw[zam a,AS];rw[lq]at a;ext(e:j=k);let#[x,c]:=zdn.mp a;rw[zam e,e,c,zeY,zam rfl];rw[zaj e];cases eR b j with
 | none=>rfl
 | some x=>rw[zeY,zaj e]
 rw[zaj a];refine wL k j y b ?_;rw[lq]at a;cases q:eR b k with
 | none=>rfl
 | some x=>rw[q]at a;exact(a rfl).elim
theorem fT(a:List<|κ×V)(k:κ)(v:V):(ff a k v).c<=a.c+1:=by unfold ff;split;rw[zaa];lia;rw[zav,zbi,zej];lia
theorem tF{k:κ}(v:V)(h:eR kvs k=none):ff kvs k v=kvs++[(k,v)]:=by unfold ff;erw[lq,h,zaj B!]
theorem qA.pY(r:qA o u):o.isSome=u.isSome:=by
 cases o with
 | none=>cases u with
  | none=>rfl
  | some _=>exact(show False from r).elim
 | some _=>cases u with
  | none=>exact(show False from r).elim
  | some _=>rfl
theorem qA.getD(r:qA o u)(rd:RelV d d'):RelV (o.getD d)<|u.getD d':=by
 cases o with
 | none=>cases u with
  | none=>exact rd
  | some _=>exact(show False from r).elim
 | some _=>cases u with
  | none=>exact(show False from r).elim
  | some _=>exact r
theorem KV.val(r:KV kvs vs)(k:κ):qA (eR kvs k)<|valueAt vs k:=by
 unfold KV at r;induction r with
 | nil=>exact True.intro
 | @cons p q i a h t f=>
  let#[d,g]:=h;ext(e:p.1=k);let c:=d.symm.trans e;let b:valueAt (q::a) k=some q.2:=by simp[valueAt,zei,c]
  rw[cO e,b];exact g;let c:¬q.1=k:=λz=>e<|d.trans z;let b:valueAt (q::a) k=valueAt a k:=by simp[valueAt,zei,c]
  erw[cA e,b,f]
theorem KV.any(r:KV kvs vs)(k:κ):(kvs.any λkv=>decide<|kv.1=k)=vs.any λkv=>decide<|kv.1=k:=by
 unfold KV at r;induction r with
 | nil=>rfl
 | cons h t a=>rw[any_cons,any_cons,a,h.1]
theorem KV.Qr(r:KV kvs vs)(k:κ)(c:RelV y u) :
  KV (kvs.map λkv=>if kv.1=k then(kv.1,y)else kv) (vs.map λkv=>if kv.1=k then(kv.1,u)else kv):=by
 unfold KV at r ⊢;induction r with
 | nil=>exact .nil
 | @cons p q f g h t d=>
  rw[zbx,zbx];refine .cons ?_ d;let#[a,b]:=h;ext(e:p.1=k);rw[zam e,zam<|a.symm.trans e];exact#[a,c];erw[zaj e,zaj<|λz=>e<|a.trans z,#[a,b]]
theorem KV.put(r:KV kvs vs)(k:κ)(a:RelV y u):KV (ff kvs k y)<|stored vs k u:=by unfold ff stored;rw[r.any k];ext(e:(vs.any λkv=>decide<|kv.1=k)=true);rw[zam e,zam e];exact r.Qr k a;erw[zaj e,zaj e,Paired.snoc r #[rfl,a]]
theorem KV.length{a:List<|κ×V}{vs:List<|κ×Value}(r:KV a vs):a.c=vs.c:=Paired.length r
end
theorem uD(r:RelV (kV k) u):(cg P w).is k u=true:=by
 cases k with
 | inl i=>obtain⟨t,e⟩:=(show ∃t,u=Value.int i t from r);subst e;exact BV P w i t
 | inr x=>obtain⟨t,e⟩:=(show ∃t,u=Value.str x t from r);subst e;exact BU P w x t
theorem xE{P:Program}{w:World}:∀{a:List Key} {b:cq},Vals (a.map kV) b->ItemsAre (cg P w) a b
 | [],_,r=>by rw[map_nil]at r;cases r;exact .nil
 | k::a,_,r=>by
  rw[zbx]at r;cases r with
  | cons h t=>exact .cons (uD h)<|xE t
abbrev KT(H:Hp):List (List Key×V)->List (List Key×Addr×Value)->Prop:=Paired λp q=>p.1=q.1/\H q.2.1=some (.tup<|p.1.map kV)/\RelV p.2 q.2.2
theorem KT.val(r:KT H kvs xs)(k:List Key):qA (eR kvs k)<|(atKey xs k).map (·.2):=by
 induction r with
 | nil=>exact True.intro
 | @cons p q i a h t f=>
  let#[d,_,g]:=h;ext(e:p.1=k);let c:=d.symm.trans e;let b:atKey (q::a) k=some q.2:=by simp[atKey,zei,c]
  rw[cO e,b];exact g;let c:¬q.1=k:=λz=>e<|d.trans z;let b:atKey (q::a) k=atKey a k:=by simp[atKey,zei,c]
  erw[cA e,b,f]
theorem KT.Qr(r:KT H kvs xs)(k:List Key)(d:RelV y u) :
  KT H (kvs.map λkv=>if kv.1=k then(kv.1,y)else kv) (xs.map<|putAt k u):=by
 induction r with
 | nil=>exact .nil
 | @cons p q g i h t f=>
  rw[zbx,zbx];refine .cons ?_ f;let#[a,b,c]:=h;unfold putAt;ext(e:p.1=k);rw[zam e,zam<|a.symm.trans e];exact#[a,b,d];erw[zaj e,zaj<|λz=>e<|a.trans z,#[a,b,c]]
theorem KT.put(r:KT H kvs xs)(k:List Key)(c:H b=some (.tup<|k.map kV))(a:RelV y u) :
  KT H (ff kvs k y) (storedH xs k b u):=by
 let e:(kvs.any λkv=>decide<|kv.1=k)=(atKey xs k).isSome:=by rw[lq,(r.val k).pY,Option.isSome_map]
 unfold ff storedH;rw[e];ext(q:(atKey xs k).isSome=true);rw[zam q,zam q];exact r.Qr k a;erw[zaj q,zaj q,Paired.snoc r #[rfl,c,a]]
theorem KT.keeps(r:KT H kvs xs)(a:∀b ys,H b=some (.tup ys)->H' b=some (.tup ys)):KT H' kvs xs:=
 Paired.BY r λ_ _ z=>#[z.1,a _ _ z.2.1,z.2.2]
theorem OV(b:mT P w H h)(e:Rd H a u):bU P w H h a u:=e.ok b
theorem uX(b:mT P w H h)(e:Rd H a<|.dK kvs):kvs.c<=sizeLine/\(a==sysModules)=false/\∃vs,KV kvs vs/\h.DictOf (cg P w) a vs:=
 show bU P w H h a (.dK kvs)from OV b e
theorem xS(b:mT P w H h)(e:H a=some (.dK kvs)):kvs.c<=sizeLine/\(a==sysModules)=false/\∃vs,KV kvs vs/\h.DictOf (cg P w) a vs:=uX b<|.inl e
theorem uA(g:mT P w H h)(e:H a=some (.tup<|ks.map kV)):(tupleKind<|cg P w).is h ks a:=by let#[_,b,r,o,d,f,n,c]:=(show bU P w H h a (.tup<|ks.map kV)from g a _ e);exact#[o,b.toArray,n,d,f,c,~~~xE r]
theorem xR(d:mT P w H h)(e:Rd H a<|.dT kvs):kvs.c<=sizeLine/\(a==sysModules)=false/\
  ∃xs,KT H kvs xs/\h.DictOfH (tupleKind<|cg P w) a xs:=by
 let#[z,y,xs,r,o,n,k,g,s,i,j,f]:=(show bU P w H h a (.dT kvs)from OV d e);refine#[z,y,xs,r,o,n,k,g,s,i,j,λx b=>?_,f];let all:∀{l:List<|List Key×V} {m:List<|List Key×Addr×Value},KT H l m->∀x∈m,(tupleKind<|cg P w).is h x.1 x.2.1:=by
  ext l m q;induction q with
  | nil=>intro x b;exact nomatch b
  | @cons p q A v c t u=>
   ext x b;ext(e|b:zaw.mp b);subst e;exact uA d (by erw[<-c.1,c.2.1]);exact u x b
 exact all r x b
theorem Gv(b:mT P w H h)(e:H a=some (.dT kvs)):kvs.c<=sizeLine/\(a==sysModules)=false/\
  ∃xs,KT H kvs xs/\h.DictOfH (tupleKind<|cg P w) a xs:=xR b<|.inl e
noncomputable def jL(H:Hp)(a:Addr)(y:V)(r:Option V):Prop:=
 (∃c k,Rd H a (.dK c)/\y=kV k/\r=eR c k)\/∃c k b,Rd H a (.dT c)/\y=.ref b/\H b=some (.tup<|k.map kV)/\r=eR c k
noncomputable def vm(H:Hp)(a:Addr)(y v:V)(d:Hp):Prop:=
 (∃c k,H a=some (.dK c)/\y=kV k/\c.c<sizeLine/\d=upd H a (.dK<|ff c k v))\/
 ∃c k b,H a=some (.dT c)/\y=.ref b/\H b=some (.tup<|k.map kV)/\c.c<sizeLine/\d=upd H a (.dT<|ff c k v)
theorem jL.k{k:Key}(e:H a=some (.dK kvs)):jL H a (kV k)<|eR kvs k:=.inl #[kvs,k,.inl e,rfl,rfl]
theorem jL.t{H:Hp}{a b:Addr}{c:List<|List Key×V}{k:List Key}(e:H a=some (.dT c))(d:H b=some (.tup<|k.map kV)):jL H a (.ref b)<|eR c k:=.inr #[c,k,b,.inl e,rfl,d,rfl]
theorem vm.k{k:Key}(e:H a=some (.dK kvs))(b:kvs.c<sizeLine):vm H a (kV k) v<|upd H a<|.dK<|ff kvs k v:=.inl #[kvs,k,e,rfl,b,rfl]
theorem vm.t{H:Hp}{a b:Addr}{c:List<|List Key×V}{k:List Key}{v:V}(e:H a=some (.dT c))(f:H b=some (.tup<|k.map kV))(d:c.c<sizeLine) :
  vm H a (.ref b) v (upd H a<|.dT<|ff c k v):=.inr #[c,k,b,e,rfl,f,d,rfl]
section
variable {X:Cx} {pins:de} {σ:St} {H:Hp} {s:Shared} {a:Addr} {y v:V} {u r:Value} {o:Option V} {A:Around} {E:da}
theorem Inv.big(I:Inv X pins σ H s):sysModules<s.d:=by exact zcZ B!<|(I.mod.glob.keeps I.bk).lt
theorem HU(D:A.units+1<cLine)(I:Inv X pins σ H s)(g:jL H a y<|some v)(q:RelV y u)(h:∀d t,Inv X pins σ H t->RelV v d->Q d t) :
  wpAny (model X.prog X.w) A (getItem (.ref a) u) Q E s:=by
 ext(⟨i,k,e,n,l⟩|⟨i,k,b,e,n,F,l⟩:g);subst n;let#[z,C,vs,c,m]:=uX I.cw e;let#[d,j,f]:=qA.some_of (l>>c.val k);exact wpAny_getItem_of (uD q) m.mapOf j<|h d _ (I.tok _) f;subst n;cases(show u=Value.ref b from q);let#[z,C,xs,c,m]:=xR I.cw e;let#[d,j,f]:=qA.some_of (l>>c.val k);let#[p,x,B]:=Option.map_eq_some_iff.mp j;refine wpAny_getItem_heap (zek D) (uA I.cw F) m x ?_;erw[B,h d _ (I.tok _) f]
theorem Od(p:A.units+1<cLine)(I:Inv X pins σ H s)(g:jL H a y o)(m:RelV y u)(h:∀n,Inv X pins σ H n->Q (.bool<|!o.isSome) n) :
  wpAny (model X.prog X.w) A (compareOp .NotIn u<|.ref a) Q E s:=by
 ext(⟨d,k,e,j,l⟩|⟨d,k,b,e,j,t,l⟩:g);subst j;let#[z,f,vs,c,i]:=uX I.cw e;refine wpAny_notIn_of (uD m) f i.mapOf ?_;rw[<-(c.val k).pY,<-l];exact h _<|I.tok _;subst j;cases(show u=Value.ref b from m);let#[z,f,xs,c,i]:=xR I.cw e;refine wpAny_notIn_heap (zek p) (uA I.cw t) f i ?_;let q:=(c.val k).pY;rw[Option.isSome_map]at q;erw[<-q,<-l,h _<|I.tok _]
theorem sr(I:Inv X pins σ H s)(e:Wr<|H a)(g:Heap.SameBut a s.heap h')(f:∃q,h'.get? a=some q)(c:bU X.prog X.w (upd H a ob) h' a ob) :
  Inv X pins σ (upd H a ob) { s with heap:=h',toks:=t' }:=
 I.write e (.inl rfl) (λb q d z=>(g.2 b d).trans z) f c
theorem EA(z:kvs.c<=sizeLine)(c:(a==sysModules)=false)(b:KV kvs vs)(d:h'.DictOf (cg P w) a vs) :
  bU P w H' h' a (.dK kvs):=#[z,c,vs,b,d]
theorem HS(N:A.units+1<cLine)(I:Inv X pins σ H s)(g:vm H a y v H')(F:RelV y u)(rv:RelV v r)(h:∀D,Inv X pins σ H' D->Q Unit.unit D) :
  wpAny (model X.prog X.w) A (setItem (.ref a) u r) Q E s:=by
 ext(⟨d,k,e,B,l,n⟩|⟨d,k,b,e,B,G,l,n⟩:g);subst B n;let#[z,t,vs,f,x]:=xS I.cw e;let P:vs.c<=sizeLine:=by erw[<-f.c,z]
 let m:(ff d k v).c<=sizeLine:=by let:=fT d k v;lia
 refine wpAny_setItem_pairs (uD F) x λh' j p=>h _ ?_;let R:∃q,h'.get? a=some q:=let ⟨q,_,_,i,_⟩:=j;#[q,i]
 exact sr I (by erw[e,True.intro]) p R<|EA m t (f.put k rv) j;subst B n;cases(show u=Value.ref b from F);let#[z,t,xs,f,x]:=Gv I.cw e;let P:xs.c<=sizeLine:=by erw[<-Paired.length f,z]
 let m:(ff d k v).c<=sizeLine:=by let:=fT d k v;lia
 refine wpAny_setItem_heap (zek N) (uA I.cw G) x λh' j p=>h _ ?_;let#[q,M,S,i,U,K,L,_,O]:=j;refine sr I (by erw[e,True.intro]) p #[q,i] #[m,t,_,(f.put k G rv).keeps λc ys C=>?_,q,M,S,i,U,K,L,O];erw[aG (Ux C e<|λz=>nomatch z),C]
end
section
variable {X:Cx} {pins:de} {σ:St} {H:Hp} {s:Shared} {a:Addr} {kvs:List (Key×V)} {k:Key} {u:Value} {A:Around} {E:da}
theorem V7(I:Inv X pins σ H s)(e:Rd H a<|.dK kvs)(h:∀t c,Inv X pins σ H c->Q (.int kvs.c t) c):wpAny (model X.prog X.w) A (call (.builtin "len") [.ref a]) Q E s:=by let#[z,d,vs,b,f]:=uX I.cw e;refine call_len_dict d f (by rw[<-b.c];rw[zcE]at z;lia) ?_;erw[<-b.c,h _ _<|I.tok _]
end
noncomputable def Wq(i:Expr):Prop:=∀b a,subscripted i false b a=operate [b,a] (getItem b a)
theorem MF{A:Around}{s:Shared}{env:Env}{g:Pos}{T id:String}(k:typeLookup (.type T) "__getitem__"=pure (some<|.builtin id))(l:Wq slice)(h:wpAny (model prog w) A (eval value env) (λo c=>wpAny (model prog w) A (eval slice env) (λi a=>a.TypeIs o T/\wpAny (model prog w) A (getItem o i) Q E a) E c) E s) :
  wpAny (model prog w) A (eval (.Subscript value slice g) env) Q E s:=by
 refine Subscript_<|zbK h (λo c h₁=>zbK h₁ (λi a b=>?_) λ_ _ x=>x) λ_ _ x=>x;let#[j,b]:=b;unfold subscriptTail;refine zad ?_;rw[getitemInPython_of_ne j.not_modules];refine zad<|zdB j k ?_;let e:wpAny (model prog w) A (subscripted slice false o i) (λr d=>wpAny (model prog w) A (letTemporaryGo value o r >>= λ_=>pure r) Q E d) E a:=by erw[l o i,wpAny_operating<|zbK b (λr d f=>zad<|wpAny_letTemporaryGo<|zay f) λ_ _ x=>x]
 first
  | exact zay<|zad e
  | exact zad<|zay<|zad e
  | exact zad e
theorem CK{f:St}{s:Shared}{o:Option V}(I:Inv X pins f H s)(g:jL H a y o):s.TypeIs (.ref a) "dict":=by ext(⟨d,k,e,_,_⟩|⟨d,k,b,e,_,_,_⟩:g);let#[_,_,vs,_,c]:=uX I.cw e;exact c.typeIs;let#[_,_,xs,_,c]:=xR I.cw e;exact c.typeIs
noncomputable def IX(d f:TE):TE:=λb H Q=>d b H λx e=>f b e λy c=>∃a v,x=.ref a/\jL c a y (some v)/\Q v c
noncomputable def EW(f d:TE):TE:=λb H Q=>f b H λy e=>d b e λx c=>∃a o,x=.ref a/\jL c a y o/\Q (.bl<|!o.isSome) c
noncomputable def OT(d g f:TE):TS:=λD b H=>f b H λv e=>d b e λx h=>g b h λy i=>∃a c,x=.ref a/\vm i a y v c/\D.nx b c
theorem rP(z:X.A.units+1<cLine)(w:PE X o td)(d:PE X i ty)(m:Wq i):PE X (.Subscript o i pos)<|IX td ty:=by ext pins s b H Q I h;refine MF PySem.F.slot_dict_getitem.lookup m<|dD (w pins s b H _ I h) λu n ⟨x,e,t,r,p⟩=>dD (d pins n b e _ t p) λB E ⟨y,k,c,j,a,v,ex,g,l⟩=>?_;subst ex;obtain rfl:u=Value.ref a:=r;exact#[CK c g,HU z c g j λD C q f=>#[v,k,q,f,l]]
theorem pP(t:X.A.units+1<cLine)(c:PE X i ty)(r:PE X o td):PC X .NotIn i o<|EW ty td:=by ext pins s b H Q I h;refine dD (c pins s b H _ I h) λw l ⟨y,d,q,e,m⟩=>dD (r pins l b d _ q m) λu B ⟨x,j,v,p,a,f,ex,g,k⟩=>?_;subst ex;obtain rfl:u=Value.ref a:=p;exact Od t v g e λz n=>#[.bl<|!f.isSome,j,n,rfl,k]
theorem rO(p:X.A.units+1<cLine)(F:PE X o td)(q:PE X i ty)(c:PE X value tv)(B:swapsWith value (some<|.Subscript o i pos') pos.line X.env=pure false) :
  PS X (.Assign [.Subscript o i pos'] value pos) (OT td ty tv):=by
 ext pins s b H D I h;refine wpAny_Assign_Subscript (dD (c pins s b H _ I h) λr C ⟨v,d,n,rv,k⟩=>dD (F pins C b d _ n k) λu e ⟨x,z,G,E,f⟩=>dD (q pins e b z _ G f) λK M ⟨y,N,m,w,a,j,ex,g,t⟩=>?_) B;subst ex;obtain rfl:u=Value.ref a:=E;exact HS p m g w rv λL l=>#[b,j,l,t]
theorem Lu(h:Heap)(a:sysModules<h.e):bU P w H (h.push { cls:=.type "dict",data:=.dict #[] }) h.e<|.dK []:=
 #[zaR _,zdp.mpr<|zbl<|zba a,[],.nil,Heap.DictOf.new h]
theorem Lr(h:Heap)(a:sysModules<h.e):bU P w H (h.push { cls:=.type "dict",data:=.dict #[] }) h.e<|.dT []:=
 #[zaR _,zdp.mpr<|zbl<|zba a,[],.nil,_,#[],0,zaK _ rfl,#[rfl,rfl,rfl],rfl,rfl,nodup_nil]
noncomputable def Qd:TE:=λ_ H Q=>∀p,H p=none->Q (.ref p) (upd H p<|.dT [])
theorem BJ:PE X (.Dict [] [] pos) Qd:=λpins s a H Q I h=>
 wpAny_Dict_empty #[.ref s.d,_,I.laid (λ_ _ q=>zap _ q) (zaf _)<|Lr s.heap I.big,rfl,h _<|I.cw.fresh<|zaf _]
noncomputable def Dw:List (TE×TE)->St->Hp->(List (V×V)->Hp->Prop)->Prop
 | [],_,H,Q=>Q [] H
 | (tk,tv)::r,σ,H,Q=>tk σ H λx b=>tv σ b λy a=>Dw r σ a λc d=>Q ((x,y)::c) d
abbrev VV:List (V×V)->List (Value×Value)->Prop:=Paired λp q=>RelV p.1 q.1/\RelV p.2 q.2
noncomputable def XE(X:Cx)(b:Pos)(keys:List<|Option Expr)(values:List Expr)(f:List<|TE×TE):Prop:=
 ∀(pins:de) (s:Shared) (a:St) (H:Hp) (Q:List (V×V)->Hp->Prop),Inv X pins a H s->Dw f a H Q->
  wpAny (model X.prog X.w) X.A (evalPairs<|pairTrees keys values X.env b) (λvs e=>∃d c,Inv X pins a c e/\VV d vs/\Q d c) X.xe s
theorem M9:XE X pos [] [] []:=λpins s a H Q I h=>pairTrees_nil_walk #[[],H,I,.nil,h]
theorem JQ(i:PE X k tk)(c:PE X v tv)(r:XE X pos ks vs MB) :
  XE X pos (some k::ks) (v::vs) ((tk,tv)::MB):=λpins s a H Q I h=>
 pairTrees_cons_walk (dD (i pins s a H _ I h) λu n ⟨x,d,w,t,o⟩=>dD (c pins n a d _ w o) λB f ⟨y,j,z,g,l⟩=>
  dD (r pins f a j _ z l) λC A ⟨q,m,p,b,e⟩=>#[(x,y)::q,m,p,.cons #[t,g] b,e])
noncomputable def lX(a more:List<|Key×V):List<|Key×V:=more.foldl (λb kv=>ff b kv.1 kv.2) a
theorem KV.merge:∀{more:List<|Key×V} {b:List<|Key×Value} {a:List<|Key×V} {vs:List<|Key×Value},KV more b->KV a vs->KV (lX a more) (merged vs b):=by
 ext more b a vs r;unfold KV at r;induction r generalizing a vs with
 | nil=>intro q;exact q
 | @cons p q f g h t d=>
  ext c;let e:KV (ff a p.1 p.2)<|stored vs q.1 q.2:=by erw[<-h.1,c.put p.1 h.2]
  exact d e
theorem nE:∀(more a:List<|Key×V),(lX a more).c<=a.c+more.c
 | [],a=>by show a.c<=a.c+0;lia
 | p::r,a=>by let c:=nE r<|ff a p.1 p.2;let b:=fT a p.1 p.2;show(lX (ff a p.1 p.2) r).c<=_;rw[zbi];lia
theorem u4{P:Program}{w:World}:∀{d:List<|Key×V} {f:List<|Value×Value},VV (d.map λkv=>(kV kv.1,kv.2)) f->∃e,Carries (cg P w) f e/\KV d e
 | [],_,r=>by rw[map_nil]at r;cases r;exact#[[],True.intro,.nil]
 | p::d,_,r=>by
  rw[zbx]at r;cases r with
  | @cons a b g i h t=>
   let#[e,c,q]:=u4 t;let#[b1,b2]:=b;exact#[(p.1,b2)::e,#[uD h.1,rfl,c],.cons #[rfl,h.2] q]
noncomputable def TH(e:List<|TE×TE):TE:=λd H Q=>∀p,H p=none->Dw e d (upd H p<|.dK []) λc b=>b p=some (.dK [])/\∃a:List (Key×V),c=a.map (λkv=>(kV kv.1,kv.2))/\a.c<=15/\Q (.ref p) (upd b p<|.dK<|lX [] a)
theorem Nc(h:XE X pos keys values MB)(n:keys.all (·.isSome)=true)(g:keys.c=values.c)(k:keys≠[])(v:keys.c<=15):PE X (.Dict keys values pos)<|TH MB:=by
 ext pins s j H Q I q;refine wpAny_Dict_walk (knd:=cg X.prog X.w) n g k v<|dD (h pins _ j _ _ (I.laid (t':=s.toks) (λ_ _ q=>zap _ q) (zaf _)<|Lu s.heap I.big)<|q _<|I.cw.fresh<|zaf s.d) λC B ⟨E,D,f,b,e,a,t,lk,l⟩=>?_;subst t;let#[x,c,rk]:=u4 b;let#[z,y,m,u,A]:=xS f.cw e;cases u;refine#[x,c,A,λh' d r=>#[.ref s.d,_,?_,rfl,l]];let o:(lX [] a).c<=sizeLine:=by let i:=nE a [];rw[zej]at i;rw[zcE];lia
 let p:∃q,h'.get? s.d=some q:=let ⟨q,_,_,hq,_⟩:=d;#[q,hq]
 exact sr f (by erw[e,True.intro]) r p<|EA o y (rk.merge .nil) d
structure M2(X:Cx)(o:Expr)(m:Str)(apos:Pos)(e f:Expr)(i5:Pos):Prop where
 base:attributeBase o m X.env (eval o X.env)=eval o X.env
 few:((backTo i5<|starEach [e,f] X.env).all (λx=>!x.1)&&(backToKw i5<|keywordEach [] X.env).all (λx=>x.1.isSome)
 &&decide (([e,f]:List Expr).c+([]:List Keyword).c+(if([]:List Keyword).isEmpty then 0 else 1)<30))=true
 line:(apos.endLine==i5.line)=true
 trees:backTo i5 (starEach [e,f] X.env)=[(false,eval e X.env),(false,eval f X.env)]
noncomputable def IsD(H:Hp)(a:Addr):Prop:=(∃b,Rd H a<|.dK b)\/∃b,Rd H a<|.dT b
theorem Q8{k:St}{s:Shared}(I:Inv X pins k H s)(d:IsD H a) :
  s.TypeIs (.ref a) "dict"/\(∀b,Value.ref a=.ref b->∃c,s.heap.get? b=some c/\c.dict=none)/\(a==sysModules)=false:=by
 ext(⟨j,e⟩|⟨j,e⟩:d);let#[_,i,vs,_,f]:=uX I.cw e;refine#[f.typeIs,λb q=>?_,i];cases q;let#[c,_,_,g,h,_]:=f;exact#[c,g,h.2.1];let#[_,i,xs,_,f]:=xR I.cw e;refine#[f.typeIs,λb q=>?_,i];cases q;let#[c,_,_,g,h,_]:=f;exact#[c,g,h.2.1]
section
variable {X:Cx} {pins:de} {σ:St} {H:Hp} {s:Shared} {a:Addr} {y d:V} {u r:Value} {o:Option V} {A:Around} {E:da}
theorem RT(t:A.units+1<cLine)(I:Inv X pins σ H s)(g:jL H a y o)(n:RelV y u)(rd:RelV d r)(h:∀p q,Inv X pins σ H q->RelV (o.getD d) p->Q p q) :
  wpAny (model X.prog X.w) A (call (.builtin "dict.get") [.ref a,u,r]) Q E s:=by
 ext(⟨i,k,e,m,l⟩|⟨i,k,b,e,m,v,l⟩:g);subst m;let#[z,j,vs,c,f]:=uX I.cw e;refine call_meetsIn zeG f.typeIs PySem.F.entry_dict_get (PySem.F.args_dict_get_3 _ _ _) (meets_dict_get_default (cg X.prog X.w) a (uD n) j r) #[_,f.mapOf,h _ _ (I.tok _) ?_];rw[l];exact(c.val k).getD rd;subst m;cases(show u=Value.ref b from n);let#[z,j,xs,c,f]:=xR I.cw e;refine call_meetsIn zeG f.typeIs PySem.F.entry_dict_get (PySem.F.args_dict_get_3 _ _ _) (meetsH_dict_get_default (tupleKind<|cg X.prog X.w) a b j r) #[zek t,k,xs,uA I.cw v,f,h _ _ (I.tok _) ?_];erw[l,(c.val k).getD rd]
end
noncomputable def Qe(e g f:TE):TE:=λb H Q=>e b H λx c=>∃a,x=.ref a/\IsD c a/\g b c λy h=>f b h λz d=>∃o,jL d a y o/\Q (o.getD z) d
theorem JT(r:X.A.units+1<cLine)(N:PE X o td)(E:PE X e ty)(i:PE X f tx)(m:M2 X o "get" apos e f i5):PE X (.Call (.Attribute o "get" apos) [e,f] [] i5)<|Qe td ty tx:=by
 ext pins s b H Q I h;refine wpAny_Call_method m.base m.few m.line PySem.F.plainAttrs_dict zeG PySem.F.type_dict_get<|dD (N pins s b H _ I h) λu K ⟨x,j,c,M,a,ex,d,n⟩=>?_;subst ex;obtain rfl:u=Value.ref a:=M;let#[t,C,_]:=Q8 c d;refine#[t,C,?_];rw[m.trees];refine zdw rfl<|Calls.evalArgs_plain<|zbH<|dD (E pins K b j _ c n) λP k ⟨y,D,O,B,l⟩=>
  zbH<|dD (i pins k b D _ O l) λS W ⟨z,G,q,L,U,g,v⟩=>zbT ?_
 exact RT r q g B L λY R p w=>#[_,G,p,w,v]
end L2
namespace Att
open PySem PySem.W PySem.Calls PyProof.Rows
theorem qY:∀(ns:dm) (vs:cq),WellAll P h vs (ns.map WData.int)->IntsAre vs ns:=by
 ext ns;induction ns with
 | nil=>
  ext vs w;rw[map_nil]at w;cases w;exact .nil
 | cons n ns c=>
  ext vs w;rw[zbx]at w;cases w with
  | cons a b=>
   cases a;exact .cons _ _<|c _ b
theorem G3{l:OpenLaw}{n:Nat}(s:l.most=some n){P:Params}{h:Heap}(e:l.row.toRowW.claim.pre args=true)(m:WellAll P h vals args) :
  ∃a vs ns,vals=[Value.ref a]/\args=[WData.list<|ns.map WData.int]/\h.get? a=some { cls:=.type "list",data:=.seq vs.toArray }/\IntsAre vs ns/\ns.c<=n:=by
 let f:l.pre.holds [] { args:=args }=true:=(pre_splitW e).2;let#[d,r,rfl,i,t]:=hasAllW_cons<|(pre_splitW e).1;obtain rfl:=hasAllW_nil t;let#[xs,rfl,j]:=hasW_list i;let#[ns,rfl]:=items_int j;let hlen:ns.c<=n:=by
  unfold OpenLaw.pre at f;let c:(WTm.not<|.lt (.lit<|.int (n:Int))<|.len<|.arg 0).holds [] { args:=[.list<|ns.map .int] }=true:=by let c:=(holds_andW f).1;rwa[s]at c
  let b:=condW_of c<|w_not<|w_lt w_lit<|w_len_list<|w_arg rfl;rw[zaa]at b;refine Nat.le_of_not_lt λq=>?_;let k:(n:Int)<((ns.c:Nat):Int):=();first
   | (rw[zbc k]at b;exact absurd b B!)
   | (simp at b;lia)
 cases m with
 | cons g o=>
  cases o;cases g with
  | list u p=>exact#[_,_,ns,rfl,rfl,u,qY ns _ p,hlen]
theorem Hb(l:OpenLaw)(args:List WData):l.row.toRowW.claim.post args (.bool true) args=true:=
 postW_of
  (show WShape.has [] (.bool true) .bool=true by first|rfl|decide|simp[WShape.has,WShape.arms,WShape.armsAll])
  (show(WTm.eq .res<|.lit<|.bool true).value [] { args:=args,res:=some<|.bool true,after:=args }=some (.bool<|true==true)from w_eq_bool (w_res rfl) w_lit) rfl
theorem CW{l:OpenLaw}{n:Nat}{k:(Str->Option Value)->Heap->Prop}{d:DefRec}(v:l.most=some n)(L:d.params.defaults=[])(call:∀(w:World) (s₀ b:Shared) (mg h:cB) (fa:Addr) (o:Obj) (i g c:Value) (a:Addr) (vs:cq) (ns:dm),
   Ground q loose [] k w s₀ mg h b.heap->YP w b.heap->
   b.heap.get? fa=some o->o.data=.func (docDef d.name d.params d.body d.scope i g c)->b.heap.CodeRec g d.name->mg d.name=fa.i->
   b.heap.get? a=some { cls:=.type "list",data:=.seq vs.toArray }->IntsAre vs ns->ns.c<=n->b.gens=#[]->
   codeAny (model l.prog w) callerA (.call (.ref fa) #[[.ref a],[]]) (λr e=>r=.ok (.ret<|.bool true)/\OldK b.heap e.heap/\e.os=b.os/\AllBare e.gens) b) :
  WalkO q loose k YP l.row.toRowW d [] (λf vs=>PySem.call f vs):=by
 ext w s₀ b mg h G Y fa o i g c y kV H I x j z C args vals M m u B D A;obtain rfl:y=.none:=Dflts.none j L;obtain rfl:kV=.none:=Dflts.noKw j;let#[a,vs,ns,rfl,rfl,K,hints,hlen]:=G3 v m D;refine enter_call<|codeAny_mono (call w s₀ b mg h fa o i g c a vs ns G Y H (fd_plain I) x z K hints hlen C) λr e s=>?_;let#[rfl,F,p,t]:=s;exact#[.inl #[.bool true,.bool true,[],rfl,λ_=>rfl,.bool true,Hb l _,λ_=>#[List.Pairwise.nil,λ_ E=>(nomatch E)]],F,p,t]
end Att
namespace L2
open PySem PySem.Spec PyProof.Rows
theorem o5:∀{vs:cq} {ns:dm},IntsAre vs ns->Vals ns.f vs
 | _,_,.nil=>.nil
 | _,_,.cons n t h=>.cons #[t,rfl]<|o5 h
noncomputable def Sa(H:Hp):Prop:=∀b,H b=none\/∃o xs,H b=some (.mZ o<|.lst xs)
theorem KL{P:Program}{w:World}{K:zde}{mg C:cB}{I:Dj}{k:Nat}{fa a:Addr}{O:FuncData}{x:Str}{sp:Sp}{c:Shared}{vs:cq}{ns:dm}(N:K.In c.heap)(E:c.heap.Ns mainGlobals mg)(f:c.heap.Ns builtinsNs C)(B:∀x:Str,x≠ "__name__"->C x=bootBuiltins x)(Zl:c.heap.NoLimit)(hg:c.gens=#[])(t:c.heap.get? a=some { cls:=.type "list",data:=.seq vs.toArray })(Q:IntsAre vs ns)(D:ns.c<=sizeLine)(Z:gJ k callerA)(F:∀base:Heap,K.In base->base.Ns mainGlobals mg->rq P w K mg base I k fa O [x] sp)(Vy:∀(s:Shared) (u:Value),BindsTo s O #[[u],[]] [(x,u)])(Gb:∀H:Hp,Sa H->aI K H a ns.f->sp [.ref a] H (λv _=>v=.bl true) λ_ _ _=>False)(X:∀H e g,I [] H c (λ_ _ _=>False) e g->False) :
  codeAny (model P w) callerA (.call (.ref fa) #[[.ref a],[]]) (λr g=>r=.ok (.ret<|.bool true)/\OldK c.heap g.heap/\g.os=c.os/\AllBare g.gens) c:=by
 let rv:=o5 Q;let core:∀H:Hp,Sa H->aI K H a ns.f->mT P w H c.heap->(∀b,H b≠none->b=a)->(H a≠none->K.lookup a=none)->
   codeAny (model P w) callerA (.call (.ref fa) #[[.ref a],[]]) (λr g=>r=.ok (.ret<|.bool true)/\OldK c.heap g.heap/\g.os=c.os/\AllBare g.gens) c:=by
  ext H L hS R S hK;let G:∀{b:Addr} {o:Obj},c.heap.get? b=some o->H b=none->(zL c.heap H).get? b=some o:=λe n=>K0 e n;let Uv:∀{b:Addr} {o:Obj} {p:Array DictEntry} {y:Nat},c.heap.get? b=some o->o.data=.dict p y->H b=none:=λ{b o p y} e d=>by
   cases q:H b with
   | none=>rfl
   | some u=>
    let A:=S b (by rw[q];simp);subst A;rw[t]at e;cases e;let d':=d;cases d'
  let l:∀{b:Addr} {m:cB},c.heap.Ns b m->(zL c.heap H).Ns b m:=λ{b m} ⟨o,p,y,e,d,r⟩=>#[o,p,y,G e<|Uv e d,d,r];let j:K.In<|zL c.heap H:=λb o e=>G (N b o e) (by
   cases q:H b with
   | none=>rfl
   | some u=>
    let A:=S b (by rw[q];simp);subst A;rw[hK<|by rw[q];simp]at e;cases e)
  let Y:OD P w K mg (zL c.heap H) callerA [] c H:=#[rfl,#[j,l E,#[C,l f,B],let ⟨mc,h1,h2⟩:=Zl;#[mc,l h1,h2]],λb o e=>Nm e,Nat.le_of_eq<|HD _ _,trivial,λb f=>absurd (show b∈([]:cx)from f) A?,R,.of_eq hg];refine codeAny_mono ((F _ j<|l E).run callerA [] c H #[[.ref a],[]] [.ref a] [.ref a] _ _ Z Y (Vy c<|.ref a) (.cons rfl .nil)<|Gb H L hS) λr g h=>?_;cases r with
  | error e=>exact(X H e g h).elim
  | ok fl=>
   cases fl with
   | next=>exact False.elim h
   | brk=>exact False.elim h
   | cont=>exact False.elim h
   | ret u=>
    let#[v,H',W,bare,un,U,r',q]:=h;let q':=q;subst q';obtain rfl:u=Value.bool true:=r';refine#[rfl,OldK.of_keep λb o e=>?_,W,bare];cases q:H b with
    | none=>exact un.keep b o e q (by ext z;exact absurd (show b∈([]:cx)from z) A?) A?
    | some u=>
     ext(z|⟨ob,xs,z⟩:L b);rw[q]at z;cases z;let#[M,_]:=R b _ z;let#[e2,_]:=U b _<|un.we b ob _ z;rw[e]at M;cases M;exact e2
 cases hk:K.lookup a with
 | some o=>
  let e:=N a o hk;rw[t]at e;cases e;refine core (λ_=>none) (λ_=>.inl rfl) (.inr #[_,vs.toArray,_,hk,rfl,rfl,rfl,zaW>>Q.c>>D,~~~rv]) (λb u z=>by let i:=z;cases i) (λb z=>absurd rfl z) λz=>absurd rfl z
 | none=>
  refine core (λb=>if b=a then some (.mZ { cls:=.type "list",data:=.seq vs.toArray }<|.lst ns.f)else none) (λb=>?_) (.inl<|.inr #[{ cls:=.type "list",data:=.seq vs.toArray },zam rfl]) (λb u z=>?_) (λb z=>?_) λ_=>hk;ext(f:b=a);exact .inr #[_,_,zam f];exact .inl<|zaj f;ext(f:b=a);let i:=(zam f).symm.trans z;cases i;subst f;exact#[t,zaa>>D,vs,_,rv,t];let i:=(zaj f).symm.trans z;cases i;ext(f:b=a);exact f;exact absurd (zaj f) z
theorem My{l:PySem.W.OpenLaw}{n k:Nat}{q:Program}{loose:List Str}{O:(Str->Option Value)->Heap->Prop}{p:World->Heap->Prop}{d:DefRec}{K:Params->zde}{t:World->Dj}{sp:World->Sp}{x:Str}(z:l.most=some n)(j:n<=sizeLine)(R:d.params.defaults=[])(C:gJ k callerA)(B:∀(w:World) (h:Heap),p w h->(K w.params).In h)(F:∀(w:World) (mg:cB) (fa:Addr) (h:Heap),(K w.params).In h->h.Ns mainGlobals mg->mg d.name=fa.i->
   ∃m:FuncData,(∀(s:Shared) (u:Value),BindsTo s m #[[u],[]] [(x,u)])/\
    ∀base:Heap,(K w.params).In base->base.Ns mainGlobals mg->rq l.prog w (K w.params) mg base (t w) k fa m [x] (sp w))(I:∀(w:World) (H:Hp) (a:Addr) (ns:dm),ns.c<=n->Sa H->aI (K w.params) H a ns.f->sp w [.ref a] H (λv _=>v=.bl true) λ_ _ _=>False)(D:∀(w:World) (H:Hp) (s:Shared) (e:Value) (i:Shared),t w [] H s (λ_ _ _=>False) e i->False) :
  PySem.W.WalkO q loose O p l.row.toRowW d [] (λf vs=>PySem.call f vs):=by
 refine Att.CW z R λw s₀ c mg X fa o Z U A a vs ns G Y ho hd S E P hints hlen M=>?_;let r:=B w _ Y;let#[m,L,N]:=F w mg fa _ r G.T.g E;exact KL r G.T.g G.T.b G.T.builtins G.T.nolimit M P hints (zaX hlen j) C N L (λH y Q=>I w H a ns hlen y Q) λH e i=>D w H c e i
noncomputable def fh(s:Stmt):Arguments:=match s with
 | .FunctionDef _ a _ _ _ _ _ _ _ _=>a
 | _=>{ posonlyargs:=[],args:=[],vararg:=none,kwonlyargs:=[],kw_defaults:=[],kwarg:=none,defaults:=[] }
noncomputable def dI(s:Stmt):List Stmt:=match s with
 | .FunctionDef _ _ b _ _ _ _ _ _ _=>b
 | _=>[]
noncomputable def aB(s:Stmt):Scope:=match s with
 | .FunctionDef _ _ _ _ _ _ sc _ _ _=>sc
 | _=>{ kind:=.function,names:=[],isGenerator:=false,isCoroutine:=false }
abbrev E0:XK:=λ_ _ _=>False
structure Sh(K:zde)(x qual:Str)(st:Stmt)(f:Addr)(fd:FuncData):Prop where
 ex:∃(oc:Value) (od:Option Addr) (kV doc pm:Value) (an:Option Addr) (c8 ct:Value) (Ng:Array<|Option Value),
  fd=PySem.W.fnOf x qual (fh st) (dI st) (aB st) .none kV doc pm an c8 ct/\K.lookup f=some #[oc,od,.func fd,Ng]/\PySem.W.codeIn K c8 qual=true
 kp:PySem.W.keepIn K (.ref f)=true
section
variable {P:Program} {w:World} {K:zde} {mg:cB} {base:Heap}
theorem Sh.binds{x qual:Str}{st:Stmt}{g:FuncData}(F:Sh K x qual st f g)(h:∀(kV a e:Value) (d:Option Addr) (b ct:Value) (c:cq),c.c=ps.c->bindArgs (PySem.W.fnOf x qual (fh st) (dI st) (aB st) .none kV a e d b ct) #[c,[]]=pure (ps.zip c)):Binds K g ps []:=by let#[k,i,kV,a,e,d,b,ct,j,rfl,lk,l]:=F.ex;exact .all<|h kV a e d b ct
theorem En{x qual:Str}{st:Stmt}{f:Addr}{g:Value}{h e:Option Addr}{i:Array<|Option Value}{kV a d b ct:Value}(l:K.lookup f=some #[g,h,.func<|PySem.W.fnOf x qual (fh st) (dI st) (aB st) .none kV a d e b ct,i])(c:PySem.W.codeIn K b qual=true)(k:PySem.W.keepIn K (.ref f)=true):Sh K x qual st f<|PySem.W.fnOf x qual (fh st) (dI st) (aB st) .none kV a d e b ct:=#[#[g,h,kV,a,d,e,b,ct,i,rfl,l,c],k]
end
theorem kW(a:gJ k A):A.units+1<cLine:=zaY (Nat.add_le_add_left (by decide:1<=64) _) a.units
section
variable {X:Cx}
theorem pv(i:Nat){x:Str}{a:Pos}(d:X.N[i]?=some x:=by rfl)(c:XC X.env.scope x:=by first|exact Or.inl rfl|exact Or.inr (Or.inl rfl) | exact Or.inr<|Or.inr rfl)(b:(x==("__debug__":Str))=false:=by decide)(e:(x==("__classdict__":Str))=false:=by decide):PE X (.Name x a)<|fP i:=QF d c b e
theorem xX:eF X (.builtin "len") (λxs H Q=>∃a b,xs=[V.ref a]/\H a=some (.dK b)/\Q (.int b.c) H):=by ext pins s g H xs f Q I r h;let#[a,b,rfl,d,q]:=h;let#[u,rfl,e]:=vals1 r;cases e;exact V7 I (.inl d) λt i c=>#[.int b.c,H,c,#[t,rfl],q]
end
theorem KR{A B:Prop}(h:B):if false=true then A else B:=zaj zaE>>h
theorem KQ{A B:Prop}(h:A):if true=true then A else B:=zam rfl>>h
noncomputable def af(H a:Hp):Prop:=∀b o,H b=some o->a b=some o
theorem af.refl(H:Hp):af H H:=λ_ _ h=>h
theorem af.trans(a:af H H1)(b:af H1 H2):af H H2:=λc o h=>b c o<|a c o h
theorem af.free(e:af H H')(h:H' l=Option.none):H l=Option.none:=by
 cases q:H l with
 | none=>rfl
 | some o=>
  rw[e l o q]at h;cases h
theorem af.seq{K:zde}{H b:Hp}{a:Addr}{xs:List V}(e:af H b)(h:aI K H a xs):aI K b a xs:=by ext((h|⟨o,h⟩) | h:h);exact .inl<|.inl<|e _ _ h;exact .inl<|.inr #[o,e _ _ h];exact .inr h
end L2
namespace L2
open PySem PySem.Spec PyProof.Rows
noncomputable def Sz(n:Nat)(x:Int):Prop:=x.natAbs<2 ^ n
theorem Sz.mono(h:Sz m x)(a:m<=n):Sz n x:=zaQ h<|zdk B! a
theorem Sz.le(h:Sz n y)(a:x.natAbs<=y.natAbs):Sz n x:=zaY a h
theorem Sz.mul(a:Sz m x)(b:Sz n y):Sz (m+n)<|x*y:=by unfold Sz at *;erw[zbA,Nat.pow_add,Nat.mul_lt_mul'' a b]
theorem Sz.sub(a:Sz n x)(b:Sz n y):Sz (n+1)<|x-y:=by unfold Sz at *;let:=Int.natAbs_sub_le x y;rw[Nat.pow_succ];lia
theorem Sz.neg(a:Sz n x):Sz n<|-x:=by unfold Sz at *;erw[zds,a]
theorem Sz.dJ(a:Sz m x)(c:Sz n y)(b:m+n<=134217728:=by decide):IntMulOk x y:=
 PySem.IntMulOk.of_le (PySem.intBits_le_iff.mpr a) (PySem.intBits_le_iff.mpr c) b
theorem bG:oX X (binaryOp .Mult)<|rI IntMulOk λi j=>.int<|i*j:=Us λ_ _ _ _ _ _ _ a q=>mul_int q a
noncomputable def Ms(_ j:Int):Prop:=j≠0/\Sz 9000 j
theorem Ms.np(h:Ms i j):Builtin.divisionGoesByPylong i j=false:=by refine PyProof.noPylong_of_log2 ?_;exact(Nat.log2_lt λe=>h.1<|Int.natAbs_eq_zero.mp e).mpr h.2
theorem DX:oX X (binaryOp .FloorDiv)<|rI Ms λi j=>.int<|i.fdiv j:=Us λ_ _ _ _ _ _ _ a q=>floordiv_int a.1 q<|.inl a.np
noncomputable def PX(_ j:Int):Prop:=0<j/\Sz 9000 j
theorem dF:oX X (binaryOp .FloorDiv)<|rI PX λi j=>.int<|i / j:=Us λi j _ _ _ _ _ a q=>by let b:=a.1;exact floordiv_int () (Int.fdiv_eq_ediv_of_nonneg i ()>>q)<|.inl<|Ms.np #[(),a.2]
structure bW(P:Program)(w:World)(K:zde)(mg:cB)(base:Heap)(CX:Dj)(x:Str)(k:Nat)(ps:List Str)(sp:Sp):Prop where
 ex:∃f fd,rq P w K mg base CX k f fd ps sp/\mg x=f.i/\PySem.W.keepIn K (.ref f)=true/\Binds K fd ps []
section
variable {X:Cx} {CX:Dj} {k j:Nat} {ps:List Str} {sp:Sp} {E:XK} {x:Str} {p pos:Pos} {e:Expr} {es:List Expr} {t:TA}
theorem av(h:bW X.prog X.w X.K X.mg X.base CX x k ps sp)(g:gJ j X.A)(n:Passes CX X E)(i:PA X (e::es) t)(l:k<=j:=by decide)(d:Gl X x:=by rfl)(a:(x==("__debug__":Str))=false:=by decide)(m:starEach (e::es) X.env=(false,eval e X.env)::starEach es X.env:=by rfl)(q:(backTo pos<|starEach es X.env).any (·.1)=false:=by rfl) :
  PE X (.Call (.Name x p) (e::es) [] pos) (wR sp [] E t):=by
 let#[f,r,F,b,o,c]:=h.ex;exact FQ F (g.mono l) d b o c .nil n i a m q
end
inductive OF:V->Value->Prop where
 | ty (n:String):OF (.ty n) (.type n)
 | ref (a:Addr):OF (.ref a) (.ref a)
noncomputable def O1(K:zde):List V->Hp->VK->Prop:=λxs H Q=>∃x c t u b,xs=[x,c]/\oS K H x t/\OF c u/\PySem.W.kitOne K t u=some b/\Q (.bl b) H
theorem Ig:eF X (.builtin "isinstance")<|O1 X.K:=by
 ext pins s m H xs k Q I r h;let#[x,c,t,u,b,rfl,d,i,e,q]:=h;let#[n,g,rfl,j,f]:=vals2 r;let a:g=u:=by cases i<;>(cases f;rfl)
 subst a;exact Hu I j d e λl=>#[.bl b,H,I.tok _,rfl,q]
section
variable {X:Cx} {pins:de} {σ:St} {H:Hp} {s:Shared} {h':Heap}
theorem Inv.jO{t':Nat}{ch:cx}{a:Addr}{o:HO}(I:Inv X pins σ H s)(k:∀b u,b∉ch->s.heap.get? b=some u->h'.get? b=some u)(h:∀b∈ch,oU X pins H b)(l:s.d<=a)(i:bU X.prog X.w (upd H a o) h' a o):Inv X pins σ (upd H a o) { s with heap:=h',toks:=t' }:=by
 let f:=I.cw.fresh l;let j:∀b u,H b=some u->b∉ch:=λb u e z=>by rw[(h b z).1]at e;cases e
 refine I.step (λb g=>?_) (λb o _ _ d e _=>k b o d e) (λb o _ _ d e _=>#[o.slots,k b o d e]) (λb u _ e n=>?_) (λb o d e=>#[o,k b o d e])
  (λb xs e=>by erw[aG<|bu e f,e]) (λb u v e=>by erw[aG<|bu e f,e]) (λb F e=>#[#[],by rw[aG<|bu e f,e];simp]) (λm C=>?_) (λb u e=>?_) I.bare
 let#[f0,y,E,B,p,x]:=h b g;exact#[B,y,p,x];rw[aG<|zba<|zaQ (zar e) l];exact n;let#[o,t,A,D,r]:=C;exact#[o,t,A,k _ o (λz=>(h _ z).2.1 rfl) D,r];ext(g:b=a);subst g;rw[ae]at e;cases e;exact i;rw[aG g]at e;refine(I.cw b u e).lA (λc v d q=>k c v ?_ q) (λc q=>by erw[aG<|bu q f,q]) λc xs q=>by erw[aG<|bu q f,q]
 ext(z|z:d);rw[z];exact j b u e;exact j c _ z
theorem Inv.rC{t':Nat}{ch:cx}(I:Inv X pins σ H s)(k:∀b u,b∉ch->s.heap.get? b=some u->h'.get? b=some u)(d:∀b∈ch,oU X pins H b):Inv X pins σ H { s with heap:=h',toks:=t' }:=by
 let f:∀b u,H b=some u->b∉ch:=λb u e z=>by rw[(d b z).1]at e;cases e
 refine I.step (λb g=>?_) (λb o _ _ a e _=>k b o a e) (λb o _ _ a e _=>#[o.slots,k b o a e]) (λb u _ e n=>n) (λb o a e=>#[o,k b o a e])
  (λb xs e=>e) (λb u v e=>e) (λb A e=>#[#[],by rw[e];simp]) (λm t=>?_) (λb u e=>?_) I.bare
 let#[f0,h,y,l,i,w]:=d b g;exact#[l,h,i,w];let#[o,p,j,x,r]:=t;exact#[o,p,j,k _ o (λz=>(d _ z).2.1 rfl) x,r];refine(I.cw b u e).lA (λc v a q=>k c v ?_ q) (λc q=>q) λc xs q=>q;ext(z|z:a);rw[z];exact f b u e;exact f c _ z
end
noncomputable def Ow(K:zde)(a:Addr):It:=
 #[λi H=>∃xs x,aI K H a xs/\xs[i]?=some x,
  λi H x b=>∃p y,H p=none/\x=.ref p/\(∀xs,aI K H a xs->xs[i]?=some y)/\b=upd H p (.tup [.int i,y]),
  λi H=>∃xs,aI K H a xs/\xs.c<=i]
theorem GX{P:Program}{w:World}{K:zde}{elts:List Expr}{kx:Nat}{O:Pos}(a e it:Addr)(G:e≠it) :
  Turn P w K (.Tuple elts kx O) (Ow K a) [e,it] e (λi h=>(∃g,IsEnum h e it (i:Nat) g)/\h.IsListIter it a i) where
 mem:=by simp
 obj:=λi h st b j=>by
  let#[#[g,l],f]:=st;ext(rfl|j:zaw.mp j);exact#[_,l,λv z=>by cases z];obtain rfl:b=it:= ~~~j
  let#[o,M,c,d]:=f;exact#[o,M,λv z=>by rw[d]at z;cases z]
 keep:=λi h h' st k=>by let#[#[g,l],f]:=st;exact#[#[g,k e A? _ l],f.at λo q=>k it A? o q]
 item:=by
  ext X y B C D i pins s R H E I n st t;subst y B C;let#[#[g,l],f]:=st;let#[xs,x,r,A]:=t;let#[N,rv,p,hz]:=I.list r;let#[u,Y,W]:=rv.get A;let F:=zar l;let Q:it<s.d:=by let#[_,q,_]:=id f;exact zar q
  refine wpAny_pyNext_enum_item l f p.isList (~~~Y) G λh' ho Z S hsz hk=>#[_,rfl,?_];refine wpAny_letOwnedTupleGo_enum ho λL U m=>?_;replace m:Heap.SameBut e h' L:=m;refine#[.ref s.d,upd H s.d<|.tup [.int i,x],Inv.jO (s:=s) (h':=L) (t':=s.toks+1) I (λb o j q=>(m.2 b λz=>j<|by simp[z]).trans<|hk b o (λz=>j<|by simp[z]) (λz=>j<|by simp[z]) q) n (zaf _) #[by simp[zbi,zej];rw[zcE];decide,[.int i s.toks,u],.cons #[_,rfl]<|.cons W .nil,#[_,(m.2 _<|zbM F).trans S,rfl,_,rfl]],rfl,
   #[_,x,I.cw.fresh<|zaf _,rfl,λys hy=>I.oD hy r>>A,rfl],#[#[_,U],Z.at λo q=>(m.2 it<|zbl G).trans q],λb j=>?_]
  rw[aG ?_];exact(n b j).1;ext(rfl|j:zaw.mp j);exact zba F;obtain rfl:b=it:= ~~~j
  exact zba Q
 done:=by ext X y B C D i pins s R H E I n st t;subst y B C;let#[#[g,l],f]:=st;let#[xs,r,A]:=t;let#[N,rv,p,hz]:=I.list r;let hl:=rv.c;exact wpAny_pyNext_enum_end (I.ok.hd D) l f p.isList (by simp;lia) λh' eb=>#[rfl,Inv.rC I (λb o j q=>eb b o (λz=>j<|by simp[z]) q) n]
 self:=λ_ _ _ _ _ st h=>by let#[#[g,l],f]:=st;exact wpAny_pyIter_enum l h
noncomputable def Pb(K:zde)(d:TA):TI:=λc H R=>d c H λvs b=>∃a,vs=[.ref a]/\(∃xs,aI K b a xs)/\R (Ow K a) b
theorem mN{X:Cx}{l:Expr}{k:TA}{p d:Pos}{elts:List Expr}{E:Nat}{m:Pos}(D:X.mg "enumerate"=none)(x:PA X [l] k)(A:Gl X "enumerate":=by rfl)(C:starEach [l] X.env=[(false,eval l X.env)]:=by rfl) :
  PI X (.Tuple elts E m) (.Call (.Name "enumerate" p) [l] [] d) (Pb X.K k):=by
 ext pins s r H R I h;refine Call_<|dM I A D boot_enumerate<|zaJ (dD (x d pins s r H _ I h) λG i ⟨vs,n,c,z,w⟩=>?_) C rfl;let#[a,rfl,#[xs,t],q]:=w;let#[u,rfl,y]:=vals1 z;cases y;let#[F,rv,v,L]:=c.list t;refine call_enumerate_list v.isList λh' j f hsz B=>?_;refine wpAny_pyIter_enum j ?_;refine#[_,[i.d+1,i.d],_,_,n,rfl,c.kept λb o e=>B b o e,GX a _ _<|Nat.succ_ne_self _,#[#[_,j],f],λb g=>?_,q];ext(rfl|g:zaw.mp g);exact c.qZ (zdN _)<|c.cw.fresh<|zdN _;obtain rfl:b=i.d:= ~~~g
 exact c.qZ (zaf _)<|c.cw.fresh<|zaf _
theorem mq{K:zde}{a:Addr}{xs:List V}{g:TG}{tb:TS}{D:Ends}{σ:St}{H:Hp}(c:Nat->St->Hp->Prop)(s:c 0 σ H)(o:∀i σ H,i<=xs.c->c i σ H->aI K H a xs)(t:∀i x p σ H,xs[i]?=some x->c i σ H->H p=none->InF (c (i+1)) g tb D (.ref p) σ (upd H p (.tup [.int i,x])))(v:∀σ H,c xs.c σ H->D.nx σ H):FW (Ow K a) g tb D σ H:=
 FW.of xs.c c s (λi b H u p=>by let q:=o i b H () p;exact#[#[xs,xs[i],q,by simp[u]],λx d y=>by obtain⟨r,y,hr,rfl,hy,rfl⟩:=y;exact t i y r b H (hy xs q) p hr]) (λb H p=>#[xs,o _ b H (zaf _) p,zaf _]) v
theorem eS(h:σ[i]?=some (some v))(q:Q v H):fP i σ H Q:=#[v,h,q]
theorem r_c(q:Q v H):tC v σ H Q:=q
theorem eo(h:ta σ H λx b=>tb σ b λy a=>r x y a Q):Ip r ta tb σ H Q:=h
theorem Jy(h:ta σ H λx a=>r x a Q):X9 r ta σ H Q:=h
theorem jb(q:Q (g i j) H):Iq g (.int i) (.int j) H Q:=#[i,j,rfl,rfl,q]
theorem DM(c:C i j)(q:Q (g i j) H):rI C g (.int i) (.int j) H Q:=#[i,j,rfl,rfl,c,q]
theorem JA(q:Q (g i) H):rU g (.int i) H Q:=#[i,rfl,q]
theorem FA(q:Q (.bl<|decide<|i=j) H):Yn (.int i) (.int j) H Q:=#[rfl,oO>>zeH>>q]
theorem JC(q:Q (.bl<|!decide (i=j)) H):rNe (.int i) (.int j) H Q:=#[rfl,oO>>zeH>>q]
theorem en(h:t { D with nx:=u D } σ H):MD t u D σ H:=h
theorem nNx(h:∀N:St->Hp->Prop,(∀a b,u D a b->N a b)->t { D with nx:=NNx N } σ H):MD t u D σ H:=h _ λ_ _ x=>x
theorem nNy{b N:St->Hp->Prop}(h:∀a c,b a c->N a c)(x:b σ H):NNx N σ H:=h _ _ x
theorem DP(h:D.nx σ H):OO D σ H:=h
theorem ef(h:te σ H λx a=>g x σ a D.nx):GZ te g D σ H:=h
theorem eB(h:R (σ.set i<|some v) H):ji i v σ H R:=h
theorem oj(h:te σ H D.rt):Qb te D σ H:=h
theorem pJ(h:te σ H λ_ a=>D.nx σ a):OP te D σ H:=h
theorem JF(h:c σ H λb a=>if b=true then t D σ a else u D σ a):TC c t u D σ H:=h
theorem pG(h:t σ H λx a=>∃k,x=.bl k/\R k a):IV t σ H R:=h
theorem Yl(h:t σ H λx a=>∃k,x=.bl k/\R k a):tB t σ H R:=h
theorem Qw{k:Bool}{R:Bool->Prop}(h:R k):∃a,V.bl k=.bl a/\R a:=#[k,rfl,h]
theorem JB(h:t σ H λc a=>R (!c) a):Tz t σ H R:=h
theorem JK(h:t σ H λc a=>if c=true then u σ a R else R false a):TL t u σ H R:=h
theorem MS(h:t σ H λc a=>if c=true then R true a else u σ a R):tOr t u σ H R:=h
theorem DU(h:ta σ H λx a=>∃c,x=.bl c/\if c=true then tb σ a Q else Q (.bl false) a):OQ ta tb σ H Q:=h
theorem DN(h:ta σ H λx a=>∃c,x=.bl c/\Q (.bl<|!c) a):OM ta σ H Q:=h
theorem aW(h:R [] H):ph σ H R:=h
theorem aJ(h:ta σ H λx b=>tr σ b λxs a=>R (x::xs) a):fo ta tr σ H R:=h
theorem jE(h:t σ H λvs a=>sp (vs++[]) a Q E):wR sp [] E t σ H Q:=h
theorem jD(h:t σ H λvs a=>r vs a Q):TJ r t σ H Q:=h
theorem qH(h:t σ H λxs a=>xs.c<=sizeLine/\∀p,a p=none->Q (.ref p) (upd a p<|.tup xs)):MC t σ H Q:=h
theorem nD(h:t σ H λxs a=>xs.c<=sizeLine/\∀p,a p=none->Q (.ref p) (upd a p<|.lst xs)):IW t σ H Q:=h
theorem cP(h:wi a H λJ f=>FW J g tb D a f):TF wi g tb D a H:=h
theorem ND{A B:Prop}(h:A):if true=true then A else B:=KQ h
theorem Xa{A B:Prop}(h:B):if false=true then A else B:=KR h
theorem if2{c A B:Prop}[Decidable c](b:c->A)(a:¬c->B):if decide c=true then A else B:=by ext(h:c);rw[zbc h];exact KQ<|b h;erw[zaZ h,KR<|a h]
theorem nQ{c A B:Prop}[Decidable c](b:¬c->A)(a:c->B):if(!decide c)=true then A else B:=by ext(h:c);rw[zbc h];exact KR<|a h;erw[zaZ h,KQ<|b h]
theorem ifb{b:Bool}{A B:Prop}(c:b=true->A)(a:b=false->B):if b=true then A else B:=by cases b;exact KR<|a rfl;exact KQ<|c rfl
theorem LJ:bootBuiltins "abs"=some (.builtin "abs"):=by decide +kernel
theorem aU:bootBuiltins "len"=some (.builtin "len"):=by decide +kernel
theorem wo:bootBuiltins "isinstance"=some (.builtin "isinstance"):=by decide +kernel
theorem R1:bootBuiltins "int"=some (.type "int"):=by decide +kernel
theorem Of:bootBuiltins "bool"=some (.type "bool"):=by decide +kernel
theorem Ak:bootBuiltins "list"=some (.type "list"):=by decide +kernel
structure Def(K:zde)(mg:cB)(x:Str)(st:Stmt)(ps:List Str):Prop where
 ex:∃f fd,Sh K x x st f fd/\mg x=f.i/\Binds K fd ps []
theorem af.upd(h:H p=none):af H<|upd H p o:=λb u e=>by erw[aG<|bu e h,e]
section
variable {σ:St} {H:Hp} {Q:VK} {K:zde}
theorem BA(h:SqT K H p xs)(a:jJ xs i=some v)(q:Q v H):MZ K (.ref p) (.int i) H Q:=#[p,xs,i,v,rfl,rfl,h,a,q]
theorem aT(h:aI K H p xs)(a:jJ xs i=some v)(q:Q v H):M1 K (.ref p) (.int i) H Q:=#[p,xs,i,v,rfl,rfl,h,a,q]
theorem JE(a:oS K H x t)(d:OF c u)(e:PySem.W.kitOne K t u=some b)(q:Q (.bl b) H):O1 K [x,c] H Q:=#[x,c,t,u,b,rfl,a,d,e,q]
theorem fD(h:SqT K H a xs)(b:xs.c=n)(q:t xs σ H R):N1 K n t (.ref a) σ H R:=#[a,xs,rfl,h,b,q]
theorem hV(q:t v σ H λa b=>u vs a b R):Gi t u (v::vs) σ H R:=#[v,vs,rfl,q]
theorem pI(q:R σ H):RD [] σ H R:=#[rfl,q]
end
end L2
namespace Fr
structure Low(a b t u:Int):Prop where
 pos:0<u
 co:Int.gcd t u=1
 eq:t*b=a*u
 ta:t.natAbs<=a.natAbs
 ub:u.natAbs<=b.natAbs
theorem xJ(a b:Int):((Int.gcd a b:Nat):Int) ∣ a:=Int.gcd_dvd_left _ _
theorem xI(a b:Int):((Int.gcd a b:Nat):Int) ∣ b:=Int.gcd_dvd_right _ _
theorem oK(a:Int)(c:b≠0):0<Int.gcd a b:=Int.gcd_pos_of_ne_zero_right _ c
theorem Ky(s:b≠0)(j:d=if b<0 then -((Int.gcd a b:Nat):Int)else((Int.gcd a b:Nat):Int)):Low a b (a.fdiv d)<|b.fdiv d:=by
 let o:=oK a s;let#[x,i]:=xJ a b;let#[y,e]:=xI a b;generalize t:Int.gcd a b=g at *;let p:(g:Int)≠0:=();let m:Int.gcd x y=1:=by
  let n:Int.gcd a b=g*Int.gcd x y:=by rw[i,e,Int.gcd_mul_left];simp
  rw[t]at n;exact Nat.eq_of_mul_eq_mul_left o ()
 let k:x.natAbs<=a.natAbs:=by rw[i,zbA];simp;exact zbV _ o
 let l:y.natAbs<=b.natAbs:=by rw[e,zbA];simp;exact zbV _ o
 ext(r:b<0);rw[zam r]at j;let f:a.fdiv d=-x:=by
  rw[j,i];let:(g:Int)*x=-(g:Int)*(-x):=by rw[Int.neg_mul_neg]
  erw[this,zcC _ ()]
 let c:b.fdiv d=-y:=by
  rw[j,e];let:(g:Int)*y=-(g:Int)*(-y):=by rw[Int.neg_mul_neg]
  erw[this,zcC _ ()]
 let q:y<0:=by ext(h|h|h:Int.lt_trichotomy y 0);exact h;rw[h]at e;lia;let:=zbN (show(0:Int)<g by lia) h;lia
 refine#[by rw[c];lia,f>>c>>Int.gcd_neg>>Int.neg_gcd>>m,?_,f>>zds>>k,c>>zds>>l];rw[f,c];let n:x*b=a*y:=by
  calc x*b=x*(g*y):=by rw[<-e]
   _=(g*x)*y:=by rw[Int.mul_left_comm,zeL]
   _=a*y:=by rw[<-i]
 rw[Int.neg_mul,Int.mul_neg,n];rw[zaj r]at j;let f:a.fdiv d=x:=j>>i>>zcC _ p
 let c:b.fdiv d=y:=j>>e>>zcC _ p
 let q:0<y:=by ext(h|h|h:Int.lt_trichotomy y 0);let:=Int.mul_neg_of_pos_of_neg (show(0:Int)<g by lia) h;lia;rw[h]at e;lia;exact h
 refine#[c>>q,f>>c>>m,?_,f>>k,c>>l];rw[f,c]
 calc x*b=x*(g*y):=by rw[<-e]
  _=(g*x)*y:=by rw[Int.mul_left_comm,zeL]
  _=a*y:=by rw[<-i]
theorem K9(a b:Int)(c:0<=a)(d:0<b):Int.gcd b (a%b)=Int.gcd a b:=by let#[m,rfl]:=zaM c;let#[n,rfl]:=zaM<|zcQ d;show Nat.gcd _ _=Nat.gcd _ _;simp only[Int.natAbs_natCast,show((m:Int)%(n:Int)).natAbs=m%n by erw[<-Int.natCast_emod,Int.natAbs_natCast _]];rw[Nat.gcd_comm n<|m%n,<-Nat.gcd_rec,Nat.gcd_comm]
theorem N0(a b:Int):Int.gcd (if a<0 then -a else a) (if b<0 then -b else b)=Int.gcd a b:=by split<;>split<;>simp[Int.gcd_neg,Int.neg_gcd]
theorem NZ(a:Int)(b:0<=a):((Int.gcd a 0:Nat):Int)=a:=by simp[Int.gcd];lia
end Fr
namespace L2
open PySem PySem.Spec PyProof.Rows
theorem nW(e:St->Hp->Prop)(g:St->Hp->Nat)(j:e a H)(k:∀a H,e a H->c a H λb h=>if b=true then ∃N:St->Hp->Prop,(∀d f,N d f->∃i,i<g a H/\(i=g d f/\e d f))/\tb { D with nx:=N,ct:=N,bk:=D.nx } a h else D.nx a h):IT c tb D a H:=
 #[λm a H=>m=g a H/\e a H,#[_,rfl,j],by ext m a H ⟨rfl,p⟩;exact k a H p]
theorem w_turn{e:TS}{bk:St->Hp->Prop}{f:St}{c:St->Hp->Prop}{d:St->Hp->Nat}{m:Nat}(h:e { nx:=λa b=>c a b/\d a b<m,rt:=r,bk:=bk,ct:=λa b=>c a b/\d a b<m } f H) :
  ∃N:St->Hp->Prop,(∀a b,N a b->∃g,g<m/\(g=d a b/\c a b))/\e { nx:=N,rt:=r,bk:=bk,ct:=N } f H:=#[_,λ_ _ p=>#[_,p.2,rfl,p.1],h]
theorem Ra{A B:Prop}(h:B):if(!true)=true then A else B:=KR h
theorem Rb{A B:Prop}(h:A):if(!false)=true then A else B:=KQ h
theorem OR:2<=sizeLine:=by rw[zcE];decide
theorem Ye:3<=sizeLine:=by rw[zcE];decide
theorem cN{b:Dj}{P:Program}{w:World}{K:zde}{mg:cB}{base:Heap}{N:List Str}{q:Str}{c:Scope}{f:Addr}{a:Value}{A:Around}{o:List Env}{s:Shared}{H:Hp}{E:XK}:(Ag b P w K mg base N q c f a A o s H E).K=K:=rfl
section
variable {K:zde}
theorem KP:PySem.W.kitOne K (.type "bool") (.type "bool")=some true:=by kernel_rfl
end
theorem mulL(h1 : -(2 ^ 64)<a)(c:a<2 ^ 64):IntMulOk a b:=.of_left<|intBits_le_64 h1 c
theorem mulR(h1 : -(2 ^ 64)<b)(c:b<2 ^ 64):IntMulOk a b:=.of_right<|intBits_le_64 h1 c
theorem Sz.s64(h1 : -(2 ^ 64)<x)(b:x<2 ^ 64)(a:64<=n):Sz n x:=Sz.mono (by unfold Sz;lia) a
theorem su(b:0<j)(a:j<2 ^ 64):PX i j:=#[b,Sz.s64 () a B!]
theorem FP(k:oX X (binaryOp op)<|rI C g)(l:PE X a<|tC<|.int i)(d:PE X b<|tC<|.int j)(c:C i j)(e:g i j=.int v):PE X (.BinOp a op b pos)<|tC<|.int v:=
 λpins s f H Q I h=>ao k l d pins s f H Q I #[i,j,rfl,rfl,c,e>>h]
theorem BI(f:oX X (binaryOp op)<|Iq g)(k:PE X a<|tC<|.int i)(c:PE X b<|tC<|.int j)(e:g i j=.int v):PE X (.BinOp a op b pos)<|tC<|.int v:=
 λpins s d H Q I h=>ao f k c pins s d H Q I #[i,j,rfl,rfl,e>>h]
end L2
namespace Kd
open PySem
noncomputable def Kp{b:Type}:Sem b->Prop
 | .pure _=>True
 | .raise _=>True
 | .unsupported _=>True
 | .finish _=>True
 | .rule _ k=>Kp<|k Unit.unit
 | .at _ k=>Kp<|k Unit.unit
 | .load _ _ k=>∀o,Kp<|k o
 | .update _ _ f k=>(∀o,(f o).dict=o.dict)/\Kp (k Unit.unit)
 | .alloc _ k=>∀a,Kp<|k a
 | .loadIfAlive _ k=>∀o,Kp<|k o
 | .point _ k=>Kp<|k Unit.unit
 | .register _ _=>True
 | .fresh k=>∀t,Kp<|k t
 | .ask k=>∀x,Kp<|k x
 | .choose _ _ k=>∀x,Kp<|k x
 | .os _ _ k=>∀x,Kp<|k x
 | .call ..=>False
 | .handled _ k=>∀x,Kp<|k x
 | .newGen _ k=>∀x,Kp<|k x
 | .genState _ k=>∀x,Kp<|k x
 | .resume ..=>False
 | .yield ..=>True
 | .stack k=>∀x,Kp<|k x
 | .fork ..=>True
 | .thread k=>∀x,Kp<|k x
 | .await ..=>True
noncomputable def Dc(e:Addr)(D:Option Addr)(h:Heap):Prop:=∃o,h.objs[e]?=some o/\o.dict=D
end Kd
namespace L2
open PySem PySem.Spec PySem.W PySem.Calls PyProof.Rows
noncomputable def WG(B:Heap)(fr:cx)(h:Heap):Prop:=∀b o,h.get? b=some o->b∉fr->∃a,B.get? b=some a
structure aav(P:Program)(w:World)(outer:List Env)(H:Hp)(s:Shared)(a:Addr)(cls:Value)(D:Option Addr)(H':Hp)(s':Shared):Prop where
 os:s'.os=s.os
 bare:AllBare s'.gens
 un:Un (Cz outer) [] H H' s.heap s'.heap
 cw:mT P w H' s'.heap
 fly:∃B a0,Heap.FlyingW B outer a cls a0 s'.heap/\WG B (Cz outer) s.heap/\∀b o,H' b=some o->∃ob,B.get? b=some ob
 new:H' a=none
 fresh:s.heap.get? a=none
 dct:Kd.Dc a D s'.heap
noncomputable def bO(P:Program)(w:World):Dj:=λouter H s E e c=>∃a cls D b,e=.ref a/\aav P w outer H s a cls D b c/\E cls D b
theorem aP:Passes (bO P w) X E0:=by ext pins g f b e d I ⟨a,cls,D,c,rfl,F,q⟩;exact q.elim
end L2
namespace L2
open PySem PySem.Spec PySem.W PySem.Calls PyProof.Rows
section
variable {P:Program} {w:World} {K:zde} {mg:cB} {base:Heap}
theorem Def.cE{x:Str}{st:Stmt}{k:Nat}{sp:Sp}(D:Def K mg x st ps)(S:aM N ps<|aB st)(b:∀vs H Q E,sp vs H Q E->vs.c=ps.c)(m:∀(f:Addr) (a:Value) (A:Around) (outer:List Env) (s:Shared) (H:Hp) (vs:List V) (Q:VK) (E:XK),gJ k (A.deeper<|envOfC x (aB st) s.d f a)->sp vs H Q E->
   ∃t,AL (Ag (bO P w) P w K mg base N x (aB st) f a A outer s H E).O6 (dI st) t/\t { nx:=λ_ i=>Q .fU i,rt:=Q } (start N vs) H):W! x (k+1) ps sp:=by
 let#[f,u,F,l,j]:=D.ex;let#[r,v,kV,c,y,n,a,ct,p,rfl,lk,e]:=F.ex;refine#[#[f,_,Ld lk e S b λA o s H vs Q E d g=>?_,l,F.kp,j]];let#[t,h,q]:=m f a A o s H vs Q E d g;exact#[t,h.O6,q]
theorem Sh.okN{x:Str}{st:Stmt}{c:FuncData}{k:Nat}{sp:Sp}(F:Sh K x x st f c)(S:aM N ps<|aB st)(b:∀vs H Q E,sp vs H Q E->vs.c=ps.c)(l:∀(a:Value) (A:Around) (outer:List Env) (s:Shared) (H:Hp) (vs:List V) (Q:VK) (E:XK),gJ k (A.deeper<|envOfC x (aB st) s.d f a)->sp vs H Q E->
   ∃t,AL (Ag (bO P w) P w K mg base N x (aB st) f a A outer s H E).O6 (dI st) t/\t { nx:=λ_ j=>Q .fU j,rt:=Q } (start N vs) H):rq P w K mg base (bO P w) (k+1) f c ps sp:=by
 let#[p,r,kV,d,u,m,a,ct,n,rfl,lk,g]:=F.ex;refine Ld lk g S b λA o s H vs Q E e i=>?_;let#[t,h,q]:=l a A o s H vs Q E e i;exact#[t,h.O6,q]
end
theorem HV(h:bO P w o H s (λ_ _ _=>False) e s'):False:=by let#[_,_,_,_,_,_,z]:=h;exact z
noncomputable def Ue(K:Frag):R2:=λx y H Q=>∃p q a b c d,x=.ref p/\y=.ref q/\SqT K H p [.int a,.int b]/\SqT K H q [.int c,.int d]/\Q (.bl<|!decide (a=c/\b=d)) H
theorem QL(n:X.A.units<cLine):oX X (compareOp .NotEq)<|Ue X.K:=by
 ext pins s M H x y v u Q I E B h;let#[p,q,a,b,c,d,rfl,rfl,C,k,r]:=h;cases E;cases B;let#[G,t,m,_]:=I.tuple C;let#[R,l,o,_]:=I.tuple k;let#[O,P,rfl,#[z,rfl],#[D,rfl]]:=vals2 t;let#[L,N,rfl,#[t3,rfl],#[F,rfl]]:=vals2 l;refine SeqAt.RcNeAt.tuples (e:=λj=>if j=0 then a==c else b==d) m o n (λj f g=>?_) X.prog X.w X.xe _<|bQ I r ?_;let i:j=0\/j=1:=by let:j<2:=f;lia
 ext(rfl|rfl:i);exact zdv a z c t3;exact zdv b D d F;show(!decide (a=c/\b=d))=(!((List.range 2).all (λj=>if j=0 then a==c else b==d)&&(2==2)));let e:(List.range 2).all (λj=>if j=0 then a==c else b==d)=((a==c)&&(b==d)):=by rw[show List.range 2=[0,1]from rfl];simp
 rw[e];by_cases f:a=c<;>by_cases g:b=d<;>simp[f,g]
theorem T9{K:Frag}{H:Hp}{Q:VK}{p q:Addr}{a b c d:Int}(e:SqT K H p [.int a,.int b])(f:SqT K H q [.int c,.int d])(k:Q (.bl<|!decide (a=c/\b=d)) H):Ue K (.ref p) (.ref q) H Q:=#[p,q,a,b,c,d,rfl,rfl,e,f,k]
theorem JD(h:ta σ H λx a=>Q (.bl<|decide<|x=.fU) a):TB ta σ H Q:=h
theorem DO(h:ta σ H λx a=>Q (.bl<|!decide (x=.fU)) a):ON ta σ H Q:=h
theorem II{X:Cx}{k:Nat}(a:gJ k X.A):X.A.units<cLine:=a.P4
noncomputable def AllIn(cells:List<|Str×Addr):List (Str×Addr)->Prop
 | []=>True
 | p::r=>cells.lookup p.1=some p.2/\AllIn cells r
theorem AllIn.get{cells:List<|Str×Addr}:∀{cl:List<|Str×Addr},AllIn cells cl->∀{x c},cl.lookup x=some c->cells.lookup x=some c
 | [],_,x,c,e=>by cases e
 | (n,d)::r,h,x,c,e=>by
  rw[lookup_cons]at e;cases q:x==n with
  | true=>
   rw[q]at e;cases e;let z:x=n:= ~~~q
   subst z;exact h.1
  | false=>rw[q]at e;exact AllIn.get h.2 e
noncomputable def LS(X:Cx)(a:List Expr)(t:TT):Prop:=
 ∀(pins:de) (s:Shared) (b:St) (H:Hp) (Q:Bool->Hp->Prop),Inv X pins b H s->t b H Q->
  wpAny (model X.prog X.w) X.A (forIn a true λc r=>if r=true then do let d <-isTrue c X.env (eval c X.env);pure (ForInStep.yield d)else pure (ForInStep.yield r)) (TP X pins b Q) X.xe s
noncomputable def qC:TT:=λ_ H Q=>Q true H
theorem aY:LS X [] qC:=λ_ _ _ H _ I h=>wpAny_tests_nil #[H,I,h]
theorem gU(h:PT X c t):LS X [c] t:=λpins s a H Q I b=>wpAny_tests_one<|h pins s a H Q I b
theorem HW{k target iter:Expr}{i:List Expr}{scope:Scope}{q:Pos}{it j:Value}{env:Env}(I:Nat->Shared->Prop)(turn:∀n s,I n s->wpAny (model prog w) A (pyNext it) (λr a=>match r with
   | none=>R (.ok .next) a
   | some v=>wpAny (model prog w) A (letOwnedTupleGo target it v) (λ_ u=>wpAny (model prog w) A (assign target env v) (λ_ f=>
     wpAny (model prog w) A (forIn i true λc r=>if r=true then do let t <-isTrue c env (eval c env);pure (ForInStep.yield t)else pure (ForInStep.yield r)) (λt b=>
      if t=true then wpAny (model prog w) A (eval k env) (λx e=>wpAny (model prog w) A (call (.builtin "list.append") [j,x]) (λ_ d=>∃m,m<n/\I m d) (λ_ _=>False) e) (λ_ _=>False) b
      else ∃m,m<n/\I m b) (λ_ _=>False) f) (λ_ _=>False) u) (λ_ _=>False) a) (λ_ _=>False) s)(n:Nat)(h:I n s):codeAny (model prog w) A (.compLoop (.ListComp k [#[target,iter,i,0]] scope q) 0 it j env) R s:=by
 refine codeAny_loop rfl I (λn s B=>?_) n h;show wpAny _ A ((compTurn (.ListComp k [#[target,iter,i,0]] scope q) 0 it j env).onRaise<|λx=>do noteFrame x env;theTreesLotGoes x) _ _ s;refine wpAny_noted ?_;rw[compTurn_list];refine zad<|wpAny_standAt<|zad<|zbK (turn n s B) (λr a h₁=>?_) λ_ _ z=>False.elim z;cases r with
 | none=>exact zay h₁
 | some v=>
  refine zad<|zbK h₁ (λ_ u y=>zad<|zbK y (λ_ f o=>zad<|zbK o (λt b g=>?_) λ_ _ z=>False.elim z) λ_ _ z=>False.elim z) λ_ _ z=>False.elim z;cases t with
  | false=>exact zay #[rfl,g]
  | true=>
   exact zad<|zad<|zbK g (λx e l=>zad<|zbK l (λ_ d p=>zay<|zay #[rfl,p]) λ_ _ z=>False.elim z) λ_ _ z=>False.elim z
noncomputable def Cx.block(X:Cx)(scope:Scope)(cl:List<|Str×Addr)(C:Addr)(N:List Str)(a:cx)(pins:de)(s:Shared)(H:Hp):Cx:=
 { X with N:=N,s₀:=s,H₀:=H,env:=compEnvC scope cl C X.env,outer:=X.stack,ex:=a,fn:=λ_=>false,pn:=X.pn++pins,xe:=λ_ _=>False }
noncomputable def jk(n:Nat)(fr:List Nat)(a:St):St:=List.replicate n none++fr.map λi=>(a[i]?).join
structure sv(X:Cx)(scope:Scope)(cl:List<|Str×Addr)(tg:List Str)(fr:List<|Str×Nat):Prop where
 kind:scope.kind=.function
 QQ:∀y∈scope.names,y.2≠.cell
 names:∀y∈scope.names,y.2=.local->scope.names.lookup y.1=some .local
 Wb:closureFor scope X.env=pure cl
 PQ:AllIn X.env.cells cl
 has:((relabel scope X.env).names.all λp=>!(p.2==.cell || p.2==.free) || (cl.lookup p.1).isSome)=true
 frN:∀p∈fr,X.N[p.2]?=some p.1/\XC X.env.scope p.1/\(cl.lookup p.1).isSome=true/\((relabel scope X.env).names.lookup p.1==some .cell || (relabel scope X.env).names.lookup p.1==some .free)=true
 frL:∀p∈fr,(X.env.kindOf p.1==some .local)=false
section
variable {X:Cx} {pins:de} {σ:St} {H:Hp} {s:Shared} {scope:Scope} {cl:List (Str×Addr)} {tg:List Str} {fr:List (Str×Nat)}
theorem lookup_mem{κ a:Type}[BEq κ][LawfulBEq κ]:∀{l:List<|κ×a} {x:κ} {v:a},l.lookup x=some v->(x,v)∈l
 | [],_,_,e=>by cases e
 | (k,u)::r,x,v,e=>by
  rw[lookup_cons]at e;cases q:x==k with
  | true=>
   rw[q]at e;cases e;let z:x=k:= ~~~q
   subst z;exact zan
  | false=>rw[q]at e;exact zae _<|lookup_mem e
theorem CU{C:Addr}{h:cx}{h':Heap}{t':Nat}{m:cB}(B:sv X scope cl tg fr)(I:Inv X pins σ H s)(j:∀b∈h,oU X pins H b/\b<s.d)(G:s.d<=C)(hn:h'.Ns C m)(k:∀b o,s.heap.get? b=some o->h'.get? b=some o){A:Hp}(O:Un (Cz X.stack) h H A s.heap h')(cw:mT X.prog X.w A h')(Ge:A C=none) :
  Inv (X.block scope cl C (tg++fr.map (·.1)) h pins s H) [] (jk tg.c (fr.map (·.2)) σ) A { s with heap:=h',toks:=t' }:=by
 let cells:∀{x c},cl.lookup x=some c->X.env.cells.lookup x=some c:=λe=>B.PQ.get e;let cC:∀x c,X.env.cells.lookup x=some c->c≠C:=λx c e z=>by let#[v,o,E,_]:=I.cell x c e;exact absurd (zaQ (zar E) G) (z>>zbq _)
 let cellK:∀{c v},s.heap.IsCell c v->h'.IsCell c v:=λ{c v} ⟨o,e,d⟩=>#[o,k c o e,d];let U:∀x c,X.env.cells.lookup x=some c->c∉h/\A c=none:=λx c e=>by let f:c∉h:=λz=>(j c z).1.2.2.2.2.1 x c e rfl;let#[v,o,E,_]:=I.cell x c e;exact#[f,O.free c o E (I.kX x c e) f]
 let Yx:∀p∈X.pn++pins,p.1∉h/\A p.1=none:=λp t=>by let f:p.1∉h:=λz=>(j p.1 z).1.2.2.2.2.2 p t rfl;let#[e,n,_]:=I.pin p t;exact#[f,O.free p.1 _ e n f]
 let ac:∀b∈Cz X.stack,b<s.d:=λb g=>by let#[_,o,E,_]:=I.stack.mem g;exact zar E
 refine#[#[I.ok.mod,B.kind,I.ok.glob,I.ok.blt,G,λx y c M a=>I.ok.inj x y c (cells M)<|cells a,λx hx=>?_,λx c z=>absurd (show false=true from z) zaE,I.ok.hd,I.ok.frames,.inl rfl,λb g=>?_,λb o e=>#[?_,?_],?_,λb o e z=>?_,λb g z=>?_,I.stack,I.EX],
  rfl,I.bare,O,#[m,hn,λi x v M a h3=>?_],λx c e=>?_,Ge,λx c e=>(U x c<|cells e).2,λp t=>?_,cw,?_]
 let e:=hx;let mem:∃L,(x,L)∈(relabel scope X.env).names/\(L==NameKind.cell || L==NameKind.free)=true:=by ext(e|e:e);exact#[_,lookup_mem e,rfl];exact#[_,lookup_mem e,rfl]
 let#[L,mm,K]:=mem;let z:=List.all_eq_true.mp B.has _ mm;simp only[K,Bool.not_true,Bool.false_or]at z;exact zdn.mp z;exact#[λz=>absurd (zaQ (j b g).2 G) (z>>zbq _),λx c e z=>(U x c<|cells e).1<|z▸g];exact(I.bs b o e).1;exact(I.bs b o e).2;exact zaX I.ok.R5 I.sz;ext(q|q:(j b z).1.2.2.2.1);exact I.ok.Kn b o e q;exact absurd (zaQ (zar (I.ok.bs b o e).1) q)<|zbq _;ext(q|q:zaw.mp<|I.sF b z);exact(j b g).1.2.1 q;exact(j b g).1.2.2.1 q;let W:tg.c<=i:=by refine Nat.le_of_not_lt λz=>?_;unfold jk at a;rw[zaU (~~~z),getElem?_replicate,zam z]at a;cases a
 let D:(fr.map (·.1))[i-tg.c]?=some x:=by let z:(tg++fr.map (·.1))[i]?=some x:=M;rw[zaO W]at z;exact z
 let Q:((fr.map (·.2)).map λi=>(σ[i]?).join)[i-tg.c]?=some (some v):=by unfold jk at a;rw[zaO<|~~~W]at a;simpa using a
 rw[zao]at D;rw[zao,zao]at Q;cases q:fr[i-tg.c]? with
 | none=>rw[q]at D;cases D
 | some p=>
  rw[q]at D Q;let ex:p.1=x:=zas D;let F:(σ[p.2]?).join=some v:=zas Q;subst ex;let#[f1,f2,f3,Z]:=B.frN p<|zag q;let P:σ[p.2]?=some (some v):=by
   cases z:σ[p.2]? with
   | none=>rw[z]at F;cases F
   | some w'=>rw[z]at F;exact zaC some F
  let#[m0,ad,N]:=I.loc;let#[u,r,l]:=N p.2 p.1 v f1 P f2;refine#[u,r,?_];let#[c,R]:=zdn.mp f3;let K:=B.frL p<|zag q;ext(⟨kl,_⟩|⟨_,c',Y,z⟩:l);rw[kl]at K;cases K;let S:=cells R;rw[Y]at S;cases S;exact .inr #[(Bool.or_eq_true_iff.mp Z).imp eq_of_beq eq_of_beq,c,R,cellK z]
 let#[v,z]:=I.cell x c<|cells e;exact#[v,cellK z];rw[zdd]at t;let#[e,n,ne,f,d]:=I.pin p t;refine#[k _ _ e,(Yx p t).2,λz=>absurd (zaQ (zar e) G) (z>>zbq _),λz=>?_,d];ext(q|q:zaw.mp<|I.sF _ z);exact ne q;exact f q;unfold jk;show _=(tg++fr.map (·.1)).c;simp
end
noncomputable def CW(J:It)(g:TG)(q:TT)(s:TE)(a:Addr)(k:St)(H:Hp)(R:Hp->Prop):Prop:=∃W:Nat->Nat->St->List V->Hp->Prop,(∃m,W 0 m k [] H)/\∀i m f ys d,W i m f ys d->((J.stop i d/\R d)\/(J.go i d/\∀x l,J.vw i d x l->g x f l λc r=>q c r λb o=>if b=true then s c o λy h=>h a=some (.lst ys)/\ys.c<sizeLine/\∃e,e<m/\W (i+1) e c (ys++[y]) (upd h a<|.lst<|ys++[y])else ∃e,e<m/\W (i+1) e c ys o))
noncomputable def qE(p:TI)(g:TG)(q:TT)(s:TE)(n:Nat)(fr:List Nat):TE:=λk H Q=>p k H λJ j=>∀a,j a=none->CW J g q s a (jk n fr k) (upd j a<|.lst []) λd=>Q (.ref a) d
section
variable {X:Cx} {scope:Scope} {cl:List (Str×Addr)} {tg:List Str} {fr:List (Str×Nat)} {elt target iter:Expr} {ifs:List Expr} {wi:TI} {g:TG} {tt:TT} {te:TE} {pos:Pos}
theorem xU(B:sv X scope cl tg fr)(hc:X.calm=true)(hi:PI X target iter wi)(hg:∀C h pins s H,PG (X.block scope cl C (tg++fr.map (·.1)) h pins s H) target g)(ht:∀C h pins s H,LS (X.block scope cl C (tg++fr.map (·.1)) h pins s H) ifs tt)(he:∀C h pins s H,PE (X.block scope cl C (tg++fr.map (·.1)) h pins s H) elt te){pins:de}{σ:St}{H:Hp}{s:Shared}{Q:VK}(I:Inv X pins σ H s)(hw:qE wi g tt te tg.c (fr.map (·.2)) σ H Q){RR:Value->Addr->Result->Shared->Prop}(ag:∀D C N t m,Inv X pins σ t N->N.heap.Ns C m->t C=none->C≠X.env.locals->X.s₀.d<=C->(∀x c,X.env.cells.lookup x=some c->c≠C)->(∀p∈X.pn++pins,p.1≠C)->Q (.ref D) t->RR (.ref D) C (.ok .next) N) :
  wpAny (model X.prog X.w) X.A (eval iter X.env) (λxv N=>wpAny (model X.prog X.w) X.A (pyIter xv) (λit a=>wpAny (model X.prog X.w) X.A (newList []) (λR Z=>
   wpAny (model X.prog X.w) X.A (newFunctionEnv scope X.env.globals cl [] X.env.qual none .none<|some X.env) (λWc s4=>
    codeAny (model X.prog X.w) X.A (.compStart (.ListComp elt [#[target,iter,ifs,0]] scope pos) 0 it R { Wc with scope:=relabel scope X.env }) (RR R Wc.locals) s4) X.xe Z) X.xe a) X.xe N) X.xe s:=by
 refine zbK (hi pins s σ H _ I hw) (λxv N h1=>zbK h1 (λYY a h2=>?_) λ_ _ z=>z) λ_ _ z=>z;let#[it,h,tn,J,L,rfl,F,T,X5,f2,ap]:=h2;let Lf:∀b∈h,b<a.d:=λb f=>by let#[o,e,_]:=T.obj _ _ X5 b f;exact zar e
 refine zdJ<|wpAny_newFunctionEnv B.QQ (by ext y hy;simp at hy) (λh3 AG Xd=>?_) B.kind;dsimp only at AG Xd ⊢;generalize hP:a.heap.push { cls:=.type "list",dict:=none,data:=.seq ([]:cq).toArray }=E at AG Xd ⊢;let hC:E.e=a.d+1:=by rw[<-hP,Heap.size_push]
 let K:a.d<E.e:=hC>>zbv _
 let U:∀b o,a.heap.get? b=some o->h3.get? b=some o:=λb o e=>by let l:=zar e;refine Xd.extBut b o (zba<|zcZ l K)<|zap _<|hP▸zap _ e
 let hD:=F.cw.fresh<|zaf _;let#[W,#[m0,w0],turn]:=ap _ hD;let an:mT X.prog X.w (upd L a.d<|.lst []) h3:=F.cw.laid U (zaf _) #[zaR _,[],0,.nil,Xd.extBut _ _ (zba K)<|zap _<|hP▸zaK _ rfl];let fC:upd L a.d (.lst []) E.e=none:=by erw[aG<|zbM K,F.cw.fresh<|zbL K]
 let nL:=zbM<|zcZ F.lt K;let cC:∀x c,X.env.cells.lookup x=some c->c≠E.e:=λx c e z=>by let#[v,o,ho,_]:=F.cell x c e;exact absurd (zcZ (zar ho) K) (z>>zbq _)
 let pC:∀p∈X.pn++pins,p.1≠E.e:=λp Vk z=>by exact absurd (zcZ (zar (F.pin p Vk).1) K) (z>>zbq _)
 let J0:=CU (t':=a.toks+([]:List<|Str×Value).c) B F (λb f=>#[f2 b f,Lf b f]) (zbL K) AG U (Un.laid U (zaf _) hD) an fC;let ZU:∀{H':Hp} {pl:de},(∀b∈h,H' b=none)->(∀p∈pl,p.1∉h)->∀b∈h,oU (X.block scope cl E.e (tg++fr.map (·.1)) h pins a L) pl H' b:=λhn AD b f=>by let#[g0,g1,g2,g3,g4,g5]:=f2 b f;refine#[hn b f,λz=>?_,λz=>?_,.inl f,λx c e=>g4 x c<|B.PQ.get e,λp Vk z=>?_];exact absurd (zcZ (Lf b f) K) (z>>zbq _);ext(q|q:zaw.mp<|F.sF b z);exact g1 q;exact g2 q;ext(q|q:zal.mp Vk);exact g5 p q z;exact AD p q<|z▸f
 let loop:∀Z:Shared,Z={ a with heap:=h3,toks:=a.toks+([]:List<|Str×Value).c }->
   codeAny (model X.prog X.w) X.A (.compLoop (.ListComp elt [#[target,iter,ifs,0]] scope pos) 0 (.ref it) (.ref a.d)<|compEnvC scope cl E.e X.env) (RR (.ref a.d) E.e) Z:=by
  ext Z rfl;refine HW (λn S=>∃i j ys t,Inv (X.block scope cl E.e (tg++fr.map (·.1)) h pins a L) [] j t S/\tn i S.heap/\(∀b∈h,t b=none)/\W i n j ys t) ?_ m0
   #[0,_,[],_,J0,T.keep _ _ _ X5 λb f o e=>U b o e,λb f=>?_,w0]
  ext n S ⟨i,j,ys,t,J5,t5,f5,w5⟩;ext(⟨stop,q⟩|⟨go,step⟩:turn i n j ys t w5);refine zbK (T.done (X.block scope cl E.e (tg++fr.map (·.1)) h pins a L) rfl rfl rfl hc i [] S j t (λ_ _=>False) J5 (ZU f5 A?) t5 stop) (λr s6 ⟨hr,O⟩=>?_) λ_ _ z=>z;subst hr;let#[m6,ad,_]:=O.loc;exact ag _ _ _ t m6 (F.Wf (ch:=h) O.os O.base O.cw O.bare λb f=>by let#[g0,g1,g2,g3,g4,g5]:=f2 b f;exact#[g3,g1,g4,g5]) ad O.free nL (zaX F.sz<|zbL K) cC pC q;refine zbK (T.item (X.block scope cl E.e (tg++fr.map (·.1)) h pins a L) rfl rfl rfl hc i [] S j t (λ_ _=>False) J5 (ZU f5 A?) t5 go) (λr s6 ⟨u,hr,h6⟩=>?_) λ_ _ z=>z;subst hr;refine zbK h6 (λ_ s7 ⟨x,H7,J7,r7,y7,t7,f7⟩=>?_) λ_ _ z=>z;let again:∀{k:St} {M:Hp} {P:Shared} {Td:List V},Inv (X.block scope cl E.e (tg++fr.map (·.1)) h pins a L) ([]++tL h s7.heap) k M P->(∃G,G<n/\W (i+1) G k Td M)->
    ∃G,G<n/\∃i j ys t,Inv (X.block scope cl E.e (tg++fr.map (·.1)) h pins a L) [] j t P/\tn i P.heap/\(∀b∈h,t b=none)/\W i G j ys t:=λ{k M P Td} Y ⟨G,hm,w8⟩=>by
   refine#[G,hm,i+1,k,Td,M,Y.n6,T.keep _ _ _ t7 λb f o e=>(Y.pin (b,o)<|zaP _<|zaP _<|kI f e).1,λb f=>?_,w8];let#[o,e,d]:=T.obj _ _ t7 b f;exact(Y.pin (b,o)<|zaP _<|zaP _<|kI f e).2.1
  refine zbK (hg _ _ _ _ _ _ s7 j H7 x u _ (J7.pinned (ZU f7 A?)<|T.obj _ _ t7) r7<|step x H7 y7) (λ_ P ⟨k,M,Y,q8⟩=>?_) λ_ _ z=>z;refine zbK (ht _ _ _ _ _ _ P k M _ Y q8) (λb s9 ⟨H9,J9,q9⟩=>?_) λ_ _ z=>z;cases b with
  | false=>
   rw[zaj zaE]at q9 ⊢;exact again J9 q9
  | true=>
   rw[zam rfl]at q9 ⊢;refine zbK (he _ _ _ _ _ _ s9 k H9 _ J9 q9) (λy ar ⟨v,yh,ac,al,ZI,Zo,Yq⟩=>?_) λ_ _ z=>z;refine zbK (cL (X:=X.block scope cl E.e (tg++fr.map (·.1)) h pins a L) _ ar k yh (.ref a.d) [v] (.ref a.d) [y] (λ_ vt=>∃G,G<n/\W (i+1) G k (ys++[v]) vt) ac rfl (.cons al .nil) #[_,ys,v,rfl,rfl,ZI,Zo,Yq]) (λ_ as ⟨_,vt,am,_,Yp⟩=>?_) λ_ _ z=>z;exact again am Yp
  erw[aG<|zba<|Lf b f,(f2 b f).1]
 exact codeAny_compStart_list (loop _ rfl)<|T.self X.A 0 _ _ _ (T.keep _ _ _ X5 λb f o e=>U b o e)<|loop _ rfl
theorem bR(B:sv X scope cl tg fr)(f:X.calm=true)(j:PI X target iter wi)(n:∀C a pins s H,PG (X.block scope cl C (tg++fr.map (·.1)) a pins s H) target g)(c:∀C a pins s H,LS (X.block scope cl C (tg++fr.map (·.1)) a pins s H) ifs tt)(r:∀C a pins s H,PE (X.block scope cl C (tg++fr.map (·.1)) a pins s H) elt te)(t:∀x,foldedSetIterable iter X.env x=pure x:=by ext _;rfl):PE X (.ListComp elt [#[target,iter,ifs,0]] scope pos)<|qE wi g tt te tg.c<|fr.map (·.2):=by ext pins s y H Q I w;rw[eval_ListComp];refine wpAny_comprehension_free rfl t B.Wb B.kind B.names<|xU B f j n c r I w λD C z i m J h f0 l v u d q=>?_;refine#[m,h,λh' p=>#[.ref D,i,?_,rfl,q]];exact J.turned (λb o k e=>(p.2 b k).trans e) f0 l (.inr v) u d
theorem eO{i:Nat}{y:Str}{l h:Pos}(O:X.N.Nodup)(Q:X.N[i]?=some y)(n:Loc X.env.scope y)(B:sv X scope cl tg fr)(w:X.calm=true)(K:PI X target iter wi)(M:∀C c pins s H,PG (X.block scope cl C (tg++fr.map (·.1)) c pins s H) target g)(r:∀C c pins s H,LS (X.block scope cl C (tg++fr.map (·.1)) c pins s H) ifs tt)(S:∀C c pins s H,PE (X.block scope cl C (tg++fr.map (·.1)) c pins s H) elt te)(U:∀x,foldedSetIterable iter X.env x=pure x:=by ext _;rfl)(d:swapsWith (.ListComp elt [#[target,iter,ifs,0]] scope pos) (some<|.Name y l) h.line X.env=pure true:=by rfl)(p:X.fn y=true\/X.env.scope.names.lookup y=some .local:=by first|exact .inl rfl|exact .inr rfl|assumption) :
  PS X (.Assign [.Name y l] (.ListComp elt [#[target,iter,ifs,0]] scope pos) h) (GZ (qE wi g tt te tg.c<|fr.map (·.2))<|ji i):=by
 ext pins s σ H D I Z;rw[exec_Assign_Name_used _ _ _ _ d];refine zad<|wpAny_standAt<|zad ?_;refine zad<|zbK (wpAny_comprehension_free rfl U B.Wb B.kind B.names<|xU B w K M r S I Z λR C s1 G m J E f0 j W k t q=>?_) (λ_ s' u=>zay<|zay u) λ_ _ z=>z
 refine wpAny_assign_Name<|wU (v:=.ref R) J O Q n rfl (λs2 Y ⟨a,P,F⟩=>?_) p;let A:C≠a:=by ext(z|z:F);rw[z];exact j;exact zbl<|k y a z
 refine#[m,E.sameBut P A,λh' f=>#[_,G,?_,q]];exact Y.turned (λb o L e=>(f.2 b L).trans e) f0 j (.inr W) k t
end
noncomputable def MX(K:Frag):List V->Hp->VK->Prop:=λvs H Q=>∃(a:Addr) (ns:dm),vs=[.ref a]/\aI K H a ns.f/\ns.c<64/\∀(b:dm) p,b.Perm ns->b.Pairwise (·<=·)->H p=none->Q (.ref p) (upd H p<|.lst b.f)
theorem CS:eF X (.builtin "sorted")<|MX X.K:=by
 ext pins s z H xs A Q I r h;let#[a,ns,rfl,p,y,q]:=h;let#[u,rfl,t]:=vals1 r;cases t;let#[i,rv,m,B]:=I.list p;let f:=rv.c;rw[zaa]at f;refine sorted_ints m.isList (intsAre_of rv) () λc d j k l=>?_;let lo:=j.c;let#[x,v]:=sortedAll_at s.heap i c;let C:=k.length_eq;let n:(d.f).c<=sizeLine:=by rw[zaa,zak];lia
 let g:bU X.prog X.w (upd H (s.d+1)<|.lst d.f) (sortedAll s.heap i c) (s.d+1)<|.lst d.f:=#[n,c.toList,x,o5 j,by simpa[seqObj]using v];exact#[.ref<|s.d+1,_,I.laid (λb o e=>sortedAll_old e) (zdN _) g,rfl,q d _ k l<|I.cw.fresh<|zdN _]
mutual
inductive vc(H:Hp):V->PyData->Prop where
 | int (i:Int):vc H (.int i) (.int i)
 | lst {a:Addr} {vs:List V} {ds:List PyData}:H a=some (.lst vs)->dQ H vs ds->vc H (.ref a) (.list ds)
 | tup {a:Addr} {vs:List V} {ds:List PyData}:H a=some (.tup vs)->dQ H vs ds->vc H (.ref a) (.tuple ds)
inductive dQ(H:Hp):List V->List PyData->Prop where
 | nil:dQ H [] []
 | cons {v:V} {vs:List V} {d:PyData} {ds:List PyData}:vc H v d->dQ H vs ds->dQ H (v::vs) (d::ds)
end
section
variable {X:Cx} {pins:de} {σ:St} {H:Hp} {s:Shared}
mutual
theorem vc.reads(I:Inv X pins σ H s):∀{v:V} {d:PyData} {u:Value},vc H v d->RelV v u->∃b,Reads s.heap u d b
 | _,_,u,.int i,r=>by let#[t,rfl]:=r;exact#[_,.int i t]
 | _,_,u,.lst (a:=a) (vs:=vs) e h,r=>by cases(show u=Value.ref a from r);let#[_,f,n,rv,g]:=(show bU X.prog X.w H s.heap a (.lst vs)from I.cw a _ e);let#[b,c]:=dQ.reads I h rv;exact#[_,.list g rfl rfl<|~~~c]
 | _,_,u,.tup (a:=a) (vs:=vs) e h,r=>by cases(show u=Value.ref a from r);let#[_,f,rv,o,g,k,n,j]:=(show bU X.prog X.w H s.heap a (.tup vs)from I.cw a _ e);let#[b,c]:=dQ.reads I h rv;exact#[_,.tuple g k j<|~~~c]
theorem dQ.reads(I:Inv X pins σ H s):∀{vs:List V} {c:List PyData} {a:cq},dQ H vs c->Vals vs a->∃b,ReadsAll s.heap a c b
 | _,_,_,.nil,.nil=>#[_,.nil]
 | _,_,_,.cons h t,.cons r q=>by let#[b,e]:=vc.reads I h r;let#[f,d]:=dQ.reads I t q;exact#[_,.cons e d]
end
end
noncomputable def Uh(neg:Bool):R2:=λx y H Q=>∃b a,vc H x b/\vc H y a/\SeqAt.shaped b=true/\SeqAt.shaped a=true/\Q (.bl<|if neg then !PyData.eqv b a else PyData.eqv b a) H
theorem Kb(i:X.A.units+64<cLine):oX X (compareOp .Eq)<|Uh false:=by ext pins s l H x y v u Q I e b h;let#[m,n,g,d,f,a,q]:=h;let#[k,j]:=vc.reads I g e;let#[o,c]:=vc.reads I d b;exact SeqAt.compareEq_shaped j c f a i<|bQ I q rfl
theorem Ka(i:X.A.units+64<cLine):oX X (compareOp .NotEq)<|Uh true:=by ext pins s l H x y v u Q I e b h;let#[m,n,g,d,f,a,q]:=h;let#[k,j]:=vc.reads I g e;let#[o,c]:=vc.reads I d b;exact SeqAt.compareNe_shaped j c f a i<|bQ I q rfl
noncomputable def nH(l:dm):PyData:=.list<|l.map .int
noncomputable def gw(p:Int×Int):PyData:=.tuple [.int p.1,.int p.2]
noncomputable def Ae(L:List<|Int×Int):PyData:=.list<|L.map gw
theorem lay_ints:∀l:dm,PyData.canLayAll0 (l.map .int)=true/\PyData.depthAll (l.map .int)=0
 | []=>#[by simp[PyData.canLayAll0],by simp[PyData.depthAll]]
 | i::l=>by let#[b,a]:=lay_ints l;simp[PyData.canLayAll0,PyData.depthAll,PyData.canLay0,PyData.depth,b,a]
theorem pW:∀L:List (Int×Int),PyData.canLayAll0 (L.map gw)=true/\PyData.depthAll (L.map gw)<=1
 | []=>#[by simp[PyData.canLayAll0],by simp[PyData.depthAll]]
 | p::L=>by let#[a,b]:=pW L;simp[PyData.canLayAll0,PyData.depthAll,PyData.canLay0,PyData.depth,gw,a];lia
theorem CF:∀l m:dm,PyData.eqvAll (l.map .int) (m.map .int)=decide (l=m)
 | [],[]=>by simp[PyData.eqvAll]
 | [],_::_=>by simp[PyData.eqvAll]
 | _::_,[]=>by simp[PyData.eqvAll]
 | i::l,j::m=>by simp[zbx,PyData.eqvAll,PyData.eqv,CF l m];by_cases b:i=j<;>by_cases a:l=m<;>simp[b,a]
theorem Aa:∀L M:List (Int×Int),PyData.eqvAll (L.map gw) (M.map gw)=decide (L=M)
 | [],[]=>by simp[PyData.eqvAll]
 | [],_::_=>by simp[PyData.eqvAll]
 | _::_,[]=>by simp[PyData.eqvAll]
 | (a,b)::l,(c,d)::m=>by
  rw[zbx,zbx,PyData.eqvAll,Aa l m];let e:PyData.eqv (gw (a,b)) (gw (c,d))=(decide (a=c)&&decide (b=d)):=by unfold gw;simp[PyData.eqv,PyData.eqvAll,Bool.and_true];by_cases g:a=c<;>by_cases f:b=d<;>simp[g,f]
  rw[e];by_cases g:a=c<;>by_cases f:b=d<;>by_cases h:l=m<;>simp[g,f,h]
theorem HN(L M:List<|Int×Int):PyData.eqv (Ae L) (Ae M)=decide (L=M):=by unfold Ae;erw[PyData.eqv,Aa L M]
theorem qw:bootBuiltins "min"=some (.builtin "min"):=by decide +kernel
theorem xY:bootBuiltins "sorted"=some (.builtin "sorted"):=by decide +kernel
theorem aV{a:Type}{p:a->Prop}:∀x∈([]:List a),p x:=λ_ h=>by cases h
theorem az{b:Type}{p:b->Prop}{a:b}{l:List b}(h:p a)(t:∀x∈l,p x):∀x∈a::l,p x:=List.forall_mem_cons.mpr #[h,t]
section
variable {σ:St} {H:Hp} {Q:VK} {D:Ends} {K:Frag}
theorem Ha(h:to σ H λx a=>Tr K T x a/\t σ a λxs b=>r x xs b Q):tBM K T r to t σ H Q:=h
theorem JJ(h:to σ H λx a=>Tr K T x a/\r x [] a Q):TK K T r to σ H Q:=h
theorem lT(h:R true H):qC σ H R:=h
theorem cV(h:H l=some (.lst xs))(a:xs.c<sizeLine)(q:Q .fU<|upd H l<|.lst<|xs++[y]):FE (.ref l) [y] H Q:=#[l,xs,y,rfl,rfl,h,a,q]
theorem JH(h:H l=some (.lst xs))(c:H b=some (.lst zs))(a:xs.c+zs.c<=sizeLine)(q:Q .fU<|upd H l<|.lst<|xs++zs):FD (.ref l) [.ref b] H Q:=#[l,b,xs,zs,rfl,rfl,h,c,a,q]
theorem MT{p:Addr}{x:Int}{ns:dm}{neg:Bool}(h:aI K H p ns.f)(q:Q (.bl<|if neg then !decide (x∈ns)else decide (x∈ns)) H):WU K neg (.int x) (.ref p) H Q:=by
 let e:W9 (.int x) ns.f=decide (x∈ns):=by
  unfold W9;rw[any_map];let:(λy=>N4 y<|V.int x) ∘ V.int=λy=>y==x:=by funext y;rfl
  rw[this];clear this q h;induction ns with
  | nil=>simp
  | cons a l d=>
   rw[any_cons,d];ext(b:a=x);subst b;simp;let c:¬x=a:=λz=>b z.symm;simp[b,c]
 refine#[p,_,rfl,.inl h,rfl,?_,e>>q];rw[all_map];simp[oM]
def InS(P:St->List V->Hp->Prop)(g:TG)(r:TT)(s:TE)(f:Addr)(ys:List V)(x:V)(a:St)(H:Hp):Prop:=∀N:St->List V->Hp->Prop,(∀a b d,P a b d->N a b d)->g x a H λc o=>r c o λb l=>if b=true then s c l λy j=>j f=some (.lst ys)/\ys.c<sizeLine/\N c (ys++[y]) (upd j f<|.lst<|ys++[y])else N c ys l
theorem inS(h:∀N:St->List V->Hp->Prop,(∀a b d,P a b d->N a b d)->g x a H λc o=>r c o λb l=>if b=true then s c l λy j=>j f=some (.lst ys)/\ys.c<sizeLine/\N c (ys++[y]) (upd j f<|.lst<|ys++[y])else N c ys l):InS P g r s f ys x a H:=h
theorem CW.of{J:It}{g:TG}{r:TT}{s:TE}{f:Addr}{σ:St}{H:Hp}{R:Hp->Prop}(n:Nat)(c:Nat->St->List V->Hp->Prop)(w:c 0 σ [] H)(o:∀i σ ys H,i<n->c i σ ys H->J.go i H/\∀x d,J.vw i H x d->InS (c (i+1)) g r s f ys x σ d)(z:∀σ ys H,c n σ ys H->J.stop n H)(v:∀σ ys H,c n σ ys H->R H):CW J g r s f σ H R:=by
 refine#[λi m b ys H=>m=n-i/\i<=n/\c i b ys H,#[n,by simp,zaR _,w],?_];ext i m b ys H ⟨rfl,r,p⟩;ext(u:i<n);let#[q,y]:=o i b ys H u p;exact .inr #[q,λx d k=>y x d k (λa b d=>∃e,e<n-i/\(e=n-(i+1)/\i+1<=n/\c (i+1) a b d)) λ_ _ _ z=>#[n-(i+1),(),rfl,u,z]];let e:i=n:=();subst e;exact .inl #[z b ys H p,v b ys H p]
theorem cX{R:Hp->Prop}{f:Addr}{lo:Int}{n:Nat}{g:TG}{r:TT}{s:TE}(h:Nat->St->List V->Hp->Prop)(w:h 0 σ [] H)(A:∀i σ ys H,i<n->h i σ ys H->InS (h (i+1)) g r s f ys (.int (lo+i)) σ H)(B:∀σ ys H,h n σ ys H->R H):CW (Ii lo n) g r s f σ H R:=
 CW.of n h w (λi b ys H u p=>#[u,λx d y=>by obtain⟨rfl,rfl⟩:=y;exact A i b ys _ u p]) (λ_ _ _ _=>zaf _) B
theorem bD{R:Hp->Prop}{f a:Addr}{xs:List V}{g:TG}{r:TT}{s:TE}(h:Nat->St->List V->Hp->Prop)(w:h 0 σ [] H)(v:∀i σ ys H,i<=xs.c->h i σ ys H->aI K H a xs)(A:∀i x σ ys H,xs[i]?=some x->i<xs.c->h i σ ys H->InS (h (i+1)) g r s f ys x σ H)(B:∀σ ys H,h xs.c σ ys H->R H):CW (C1 K a) g r s f σ H R:=
 CW.of xs.c h w (λi b ys H u p=>by let q:=v i b ys H () p;exact#[#[xs,xs[i],q,by simp[u]],λx d y=>by let#[e,y]:=y;subst e;exact A i x b ys _ (y xs q) u p]) (λb ys H p=>#[xs,v _ b ys H (zaf _) p,zaf _]) B
theorem bC(h:wi σ H λJ k=>∀a,k a=none->CW J g tt te a (jk n fr σ) (upd k a<|.lst []) λd=>Q (.ref a) d):qE wi g tt te n fr σ H Q:=h
end
end L2
namespace Gm
open PySem L2
noncomputable def put(l:dm)(k:Nat)(x:Int):dm:=l.take k++x::l.drop k
theorem jT(l:dm)(k:Nat)(x:Int):(put l k x).Perm<|x::l:=by unfold put;refine List.perm_middle.trans ?_;rw[zcA]
theorem kH:y∈put l k x↔y=x\/y∈l:=by rw[(jT l k x).mem_iff,zbp]
theorem xB(h:x∉l)(n:l.Nodup):(put l k x).Nodup:=(jT l k x).nodup_iff.mpr<|zau.mpr #[h,n]
structure aH(L:dy):Prop where
 nd:∀(i:Nat) (l:dm),L[i]?=some l->l.Nodup
 rg:∀(i:Nat) (l:dm),L[i]?=some l->∀x∈l,0<=x/\x<L.c/\x≠i
 sy:∀(i:Nat) (l:dm),L[i]?=some l->∀x∈l,∀j:Nat,x=j->∀m,L[j]?=some m->(i:Int)∈m
structure aQ(H:Hp)(p:Addr)(as:cx)(L:dy):Prop where
 top:H p=some (.lst as.h)
 len:as.c=L.c
 row:∀(i:Nat) (a:Addr) (l:dm),as[i]?=some a->L[i]?=some l->H a=some (.lst l.f)
theorem aQ.at(g:aQ H p as L)(b:i<L.c):∃a l,as[i]?=some a/\L[i]?=some l/\H a=some (.lst l.f):=by
 let c:i<as.c:=g.len>>b
 exact#[as[i],L[i],by simp[c],by simp[b],g.row i _ _ (by simp[c])<|by simp[b]]
theorem aQ.same(g:aQ H p as L)(e:af H H'):aQ H' p as L:=#[e _ _ g.top,g.len,λi a l c b=>e _ _<|g.row i a l c b]
theorem aQ.set(g:aQ H p as L)(h:(p::as).Nodup)(e:as[i]?=some a):aQ (upd H a<|.lst l'.f) p as<|L.set i l':=by
 let n:p≠a:=λz=>(zau.mp h).1<|z▸zag e;refine#[aG n>>g.top,zcq>>g.len,λj b l d c=>?_];ext(f:j=i);subst f;rw[e]at d;cases d;rw[zda,zam rfl]at c;split at c;cases c;exact ae;cases c;rw[zdi<|λz=>f z.symm]at c;let k:b≠a:=λz=>by subst z;let#[q,m]:=zab.mp d;let#[r,o]:=zab.mp e;exact f<|(zco (zau.mp h).2).mp<|m.trans o.symm
 erw[aG k,g.row j b l d c]
theorem aQ.ix(g:aQ H p as L){i:Nat}(b:as[i]?=some a):jJ as.h (i:Int)=some (V.ref a):=bV (by rw[zao,b];rfl)
theorem oh{H:Hp}:∀l:dm,dQ H l.f (l.map PyData.int)
 | []=>.nil
 | i::l=>.cons (.int i)<|oh l
theorem rN(h:H a=some (.lst l.f)):vc H (.ref a)<|nH l:=.lst h<|oh l
theorem af.fresh(e:af H H')(h:H a=none):af H<|upd H' a o:=λb u q=>aG (λz=>by rw[z,h]at q;cases q)>>e b u q
theorem qLy{H G:Hp}{p:Addr}{o:HO}(h:H p=none)(q:upd H p o=G):af H G/\G p=some o:=by subst q;exact#[af.upd h,ae]
theorem qFy{H J G:Hp}{p:Addr}{o:HO}(e:af H J)(h:H p=none)(q:upd J p o=G):af H G/\G p=some o:=by subst q;exact#[af.fresh e h,ae]
inductive Reach(L:dy)(s:Int):Int->Prop where
 | here:Reach L s s
 | step {i:Nat} {l:dm} {x:Int}:Reach L s i->L[i]?=some l->x∈l->Reach L s x
theorem eM{a:Type}[BEq a][LawfulBEq a]:∀{l r:List a},l.Nodup->(∀x∈l,x∈r)->l.c<=r.c
 | [],_,_,_=>zaR _
 | x::l,r,n,h=>by
  let c:=h x zan;let n2:=zau.mp n;let e:=eM n2.2 λy b=>by let d:y≠x:=λz=>n2.1<|z▸b;exact(mem_erase_of_ne d).mpr<|h y<|zae _ b
  rw[length_erase_of_mem c]at e;let:=zcJ c;rw[zbi];lia
theorem fb{n:Nat}{l:dm}(h:l.Nodup)(r:∀x∈l,0<=x/\x<n):l.c<=n:=by
 let:=eM (r:=(List.range n).map λi:Nat=>(i:Int)) h λx a=>by let:=r x a;exact zaq.mpr #[x.toNat,zaD.mpr (),()]
 simpa using this
theorem len_eq{a:Type}[BEq a][LawfulBEq a]{l r:List a}(c:l.Nodup)(b:r.Nodup)(h:∀x,x∈l↔x∈r):l.c=r.c:=
 zeZ (eM c λx=>(h x).mp) (eM b λx=>(h x).mpr)
theorem aq(h:n<=1000):n<sizeLine:=by rw[zak];lia
noncomputable def vD(i:Nat)(l:dm):Nat->dm
 | 0=>[]
 | j+1=>vD i l j++(if((i+1+j:Nat):Int)∈l then [((i+1+j:Nat):Int)]else [])
noncomputable def iq(L:dy):Nat->List (Int×Int)
 | 0=>[]
 | k+1=>iq L k++(vD k (L.getD k [])<|L.c-(k+1)).map λx=>((k:Int),x)
theorem lY{i:Nat}{l:dm}:∀{j:Nat} {x:Int},x∈vD i l j↔(i:Int)<x/\x<(i+1+j:Nat)/\x∈l
 | 0,x=>by simp[vD,zaV,false_iff];ext h;lia
 | j+1,x=>by rw[vD,mem_append,lY];ext(h:((i+1+j:Nat):Int)∈l);rw[zam h,mem_singleton];constructor;rintro (⟨b,c,a⟩|rfl);exact#[b,(),a];exact#[(),(),h];ext⟨b,c,a⟩;ext(e:x=((i+1+j:Nat):Int));exact .inr e;exact .inl #[b,(),a];rw[zaj h];simp only[zaV,zbs];constructor;ext⟨b,c,a⟩;exact#[b,(),a];ext⟨b,c,a⟩;let:x≠((i+1+j:Nat):Int):=λz=>h<|z▸a;exact#[b,(),a]
theorem lD{i:Nat}{l:dm}:∀j,(vD i l j).Pairwise (·<·)
 | 0=>.nil
 | j+1=>by rw[vD,pairwise_append];refine#[lD j,by split<;>simp,λa d b c=>?_];let:=lY.mp d;split at c;rw[mem_singleton]at c;lia;cases c
theorem sQ:∀{l r:dm},l.Pairwise (·<·)->r.Pairwise (·<·)->(∀x,x∈l↔x∈r)->l=r
 | [],[],_,_,_=>rfl
 | [],b::r,_,_,h=>absurd ((h b).mpr zan) A?
 | a::l,[],_,_,h=>absurd ((h a).mp zan) A?
 | a::l,b::r,hl,hr,h=>by
  let#[c,f]:=zel.mp hl;let#[d,g]:=zel.mp hr;let e:a=b:=by ext(z|z:zaw.mp<|(h a).mp zan);exact z;ext(y|y:zaw.mp<|(h b).mpr zan);exact y.symm;let:=d a z;let:=c b y;lia
  subst e;rw[sQ f g λx=>?_];constructor;ext z;ext(y|y:zaw.mp<|(h x).mp<|zae _ z);let:=c x z;lia;exact y;ext z;ext(y|y:zaw.mp<|(h x).mpr<|zae _ z);let:=d x z;lia;exact y
theorem strict{l:dm}(h:l.Pairwise (·<=·))(n:l.Nodup):l.Pairwise (·<·):=by exact (h.and n).imp λ⟨x,y⟩=>()
theorem Qm{i n:Nat}{l s:dm}(p:s.Perm l)(h:s.Pairwise (·<=·))(n1:l.Nodup)(r:∀x∈l,x<n)(d:i<n):s.filter (λx=>decide<|(i:Int)<x)=vD i l (n-(i+1)):=by refine sQ ((strict h<|p.nodup_iff.mpr n1).filter _) (lD _) λx=>?_;rw[zft,lY,p.mem_iff];simp[zdK];constructor;ext⟨a,b⟩;let:=r x a;exact#[b,(),a];ext⟨a,b,c⟩;exact#[c,a]
theorem B6{i:Nat}{l:dm}:∀j,(vD i l j).c<=j
 | 0=>zaf _
 | j+1=>by rw[vD,zav];let:=B6 (i:=i) (l:=l) j;split<;>simp<;>lia
theorem B7{L:dy}:∀k,(iq L k).c<=k*L.c
 | 0=>zaR _
 | k+1=>by rw[iq,zav,zaa];let:=B7 (L:=L) k;let:=B6 (i:=k) (l:=L.getD k [])<|L.c-(k+1);rw[Nat.succ_mul];lia
abbrev PR(H:Hp):cx->List (Int×Int)->Prop:=Paired λa x=>H a=some (.tup [.int x.1,.int x.2])
theorem PR.lst{H:Hp}{t:Addr}{xs zs:List V}{b:cx}{T:List<|Int×Int}(h:PR H b T)(c:H t=some (.lst xs)):PR (upd H t<|.lst zs) b T:=
 Paired.BY h λa x e=>aG (λz=>by rw[z,c]at e;cases e)>>e
theorem PR.same(h:PR H ps T)(e:af H H'):PR H' ps T:=Paired.BY h λa x q=>e _ _ q
theorem PR.app{H:Hp}:∀{b a:cx} {T U:List<|Int×Int},PR H b T->PR H a U->PR H (b++a) (T++U)
 | _,_,_,_,.nil,h=>h
 | _,_,_,_,.cons r t,h=>.cons r<|PR.app t h
theorem PR.T7{H:Hp}:∀{a:cx} {T:List<|Int×Int},PR H a T->dQ H a.h (T.map gw)
 | _,_,.nil=>.nil
 | _,_,.cons r t=>.cons (.tup r<|.cons (.int _)<|.cons (.int _) .nil)<|PR.T7 t
theorem PR.len(h:PR H ps T):ps.c=T.c:=Paired.length h
structure Fl(L:dy)(s:Int)(ks ws:dm):Prop where
 nd:ks.Nodup
 nw:ws.Nodup
 st:s∈ks
 re:∀x∈ks,Reach L s x
 sub:∀x∈ws,x∈ks
 cl:∀(i:Nat) (l:dm),(i:Int)∈ks->(i:Int)∉ws->L[i]?=some l->∀x∈l,x∈ks
section
variable {L:dy} {s:Int} {ks ws:dm} {pl k:Nat} {l:dm} {x:Int}
theorem yA:(l++[x]).Nodup↔x∉l/\l.Nodup:=by rw[(zdg x l).nodup_iff,nodup_cons]
theorem AX(h:l[k]?=some x)(a:y∈l.take (k+1)):y∈l.take k\/y=x:=by rw[zer,h]at a;simpa using a
theorem sC:∀(ks:dm) (x:Int),(eR (ks.map λx=>((Sum.inl x:Key),V.bl true))<|.inl x).isSome=decide (x∈ks)
 | [],x=>rfl
 | y::ks,x=>by rw[zbx];ext(e:y=x);subst e;rw[cO rfl];simp;rw[cA<|λz=>e<|Sum.inl.inj z,sC ks x];let a:¬x=y:=λz=>e z.symm;simp[a]
theorem JM(h:x∉ks):ff (ks.map λx=>((Sum.inl x:Key),V.bl true)) (.inl x) (.bl true)=(ks++[x]).map λx=>((Sum.inl x:Key),V.bl true):=by rw[tF,zat];rfl;let:=sC ks x;rw[zaZ h]at this;exact Option.isNone_iff_eq_none.mp (by rw[<-Option.not_isSome,this];rfl)
end
theorem shaped_ints(l:dm):SeqAt.shaped (nH l)=true:=by let#[b,a]:=lay_ints l;unfold SeqAt.shaped nH;simp[PyData.canLay0,PyData.depth,b,a]
theorem Gq(l m:dm):PyData.eqv (nH l) (nH m)=decide (l=m):=by unfold nH;erw[PyData.eqv,CF l m]
end Gm
namespace L2
open PySem PySem.Spec PySem.W PySem.Calls PyProof.Rows
section
variable {X:Cx} {K:Frag}
theorem vG(h:X.K=K):oX X (compareOp .NotIn)<|WU K true:=h▸kE
theorem dO(h:X.K=K):Wu X<|M1 K:=h▸aw
theorem fN(h:X.K=K):Wu X<|MZ K:=h▸dZ
theorem qv(h:X.K=K):eF X (.builtin "len") (λxs H Q=>∃x n,xs=[x]/\Wt K x H n/\Q (.int n) H):=by subst h;exact aL
theorem wm(h:X.K=K):eF X (.type "list") (λxs H Q=>∃p ys,xs=[.ref p]/\(aI K H p ys\/SqT K H p ys)/\∀l,H l=none->Q (.ref l) (upd H l<|.lst ys)):=by subst h;exact oQ
end
end L2
namespace L2
open PySem PySem.Spec PySem.W PySem.Calls PyProof.Rows HT
section
open PySem.SeqAt
open PySem.AutoSeq1 (wpAny_loadPart')
open PySem.MeetsSeq PySem.MeetsSeq2 PySem.MeetsSeq3
theorem r9(h:IntsAre vs ns)(b:i<ns.c):∃t,vs[i]?=some (.int ns[i] t):=by
 induction h generalizing i with
 | nil=>simp at b
 | cons a t r c=>
  cases i with
  | zero=>exact#[t,rfl]
  | succ i=>
   let#[u,d]:=c (~~~b);exact#[u,~~~d]
theorem Nu(l b:Addr)(c vs:Array Value)(n1 n2:Nat)(I G:Option Addr)(H C:Array<|Option Value)(ns a:dm)(F:IntsAre c.toList ns)(z:IntsAre vs.toList a)(k:Nat) :
  ∀i:Nat,c.size-i=k->i<=ns.c->i<=a.c->Meets (Builtin.«list.__eq__.loop» #[[.ref l,.ref b,rawInt i,rawInt 0],[]])
   (λA R s=>s.heap.get? l=some { cls:=.type "list",dict:=I,data:=.seq c n1,slots:=H }/\
    s.heap.get? b=some { cls:=.type "list",dict:=G,data:=.seq vs n2,slots:=C }/\R (.ok<|.ret<|.bool<|fi (ns.drop i)<|a.drop i) s):=by
 let W:c.size=ns.c:=by rw[<-F.c];simp
 let X:vs.size=a.c:=by rw[<-z.c];simp
 let stop:∀i,i<=ns.c->i<=a.c->¬(i<ns.c/\i<a.c)->fi (ns.drop i) (a.drop i)=decide (c.size<vs.size):=λi m o B=>by ext(q:i<ns.c);let M:a.drop i=[]:=drop_eq_nil_of_le ();rw[M,zcc q,ur];exact(zaZ ()).symm;rw[drop_eq_nil_of_le ()];ext(Q:i<a.c);rw[zcc Q,uo];exact(zbc ()).symm;erw[drop_eq_nil_of_le (),vT,(zaZ ()).symm]
 let ends:∀i,i<=ns.c->i<=a.c->¬(i<ns.c/\i<a.c)->Meets (Builtin.«list.__eq__.loop» #[[.ref l,.ref b,rawInt i,rawInt 0],[]])
   (λA R s=>s.heap.get? l=some { cls:=.type "list",dict:=I,data:=.seq c n1,slots:=H }/\
    s.heap.get? b=some { cls:=.type "list",dict:=G,data:=.seq vs n2,slots:=C }/\R (.ok<|.ret<|.bool<|fi (ns.drop i)<|a.drop i) s):=by
  ext i m o B prog w A R s h;let e:=stop i m o B;let#[x,g,d,r,t]:=s;let#[f,j,h]:=h;rw[e]at h
  wp_walk using zbQ j,zbQ f
  ext(q:i<c.size);let n:c[((i:Nat):Int).toNat]?=some c[i]:=by simp[q]
  let p:vs[((i:Nat):Int).toNat]?=none:=by simp;lia
  rw[n,p]
  wp_walk using zbQ j,zbQ f
  exact h;let n:c[((i:Nat):Int).toNat]?=none:=by simp;lia
  rw[n]
  wp_walk using zbQ j,zbQ f
  exact h
 induction k with
 | zero=>exact λi S m o=>ends i m o ()
 | succ k N=>
  ext i S m o;ext(K:i<a.c);let D:i<ns.c:=();ext prog w A R s h;let#[x,g,d,r,t]:=s;let#[f,j,h]:=h;let#[v,L]:=r9 F D;let#[y,O]:=r9 z K;let n:c[((i:Nat):Int).toNat]?=some (.int ns[i] v):= ~~~L
  let p:vs[((i:Nat):Int).toNat]?=some (.int a[i] y):= ~~~O
  rw[zcc D,zcc K,iT]at h
  wp_walk using zbQ j,zbQ f
  rw[n,p];let#[e,U,E]:=Ll A.in1 #[x,g,d,r,t] ns[i] v a[i] y;refine zad<|U prog w _ _ ?_;let P:((i:Int)+1)=((i+1:Nat):Int):=();cases e with
  | true=>
   rw[zam<|E.mp rfl]at h
   wp_walk
   rw[P];refine#[zci plain_eq_loop _,zck entry_eq_loop ?_];erw[zbO plain_eq_loop _,N (i+1) () () () prog w A R _ #[f,j,h]]
  | false=>
   rw[zaj<|λq=>absurd (E.mpr q) zaE]at h
   wp_walk using zbQ j,zbQ f
   rw[n,p];let u:=Jx A.in1 #[x,g,d,r,t] ns[i] v a[i] y prog w
   wp_walk using u
   exact h
  exact ends i m o ()
theorem oC(l b:Addr)(a vs:Array Value)(n1 n2:Nat)(m j:Option Addr)(k i:Array<|Option Value)(ns c:dm)(n:IntsAre a.toList ns)(o:IntsAre vs.toList c) :
  Meets (Builtin.«list.__lt__» #[[.ref l,.ref b],[]])
   (λA R s=>s.heap.get? l=some { cls:=.type "list",dict:=m,data:=.seq a n1,slots:=k }/\
    s.heap.get? b=some { cls:=.type "list",dict:=j,data:=.seq vs n2,slots:=i }/\R (.ok<|.ret<|.bool<|fi ns c) s):=by
 ext prog w A R s h;let#[q,g,d,p,t]:=s;let#[e,f,h]:=h;let r:=AutoSeq1.sub_list_list
 wp_walk using zbQ f,zbQ e
 refine#[zci plain_eq_loop _,zck entry_eq_loop ?_];erw[zbO plain_eq_loop _,Nu l b a vs n1 n2 m j k i ns c n o _ 0 rfl (zaR _) (zaR _) prog w A R _ #[e,f,h]]
end
theorem Kv(i:s.heap.IsList l us)(k:s.heap.IsList b vs)(j:IntsAre us.toList ns)(m:IntsAre vs.toList ms)(r:A.units<cLine)(h:Q (.bool<|fi ns ms) s) :
  wpAny (model prog w) A (compareOp .Lt (.ref l)<|.ref b) Q E s:=by
 let#[#[x,q,t,n],a,f,n1,d]:=id i;let#[#[u,p,v,o],e,g,n2,c]:=id k;dsimp only at f d g c;subst f d g c;exact richCompare_meets_room (op:=.Lt) #[_,a,rfl] #[_,e,rfl] zeO PySem.F.entry_list_lt (PySem.F.args_list_lt_2 _ _) (oC l b us vs n1 n2 q p n o ns ms j m)
  #[a,e,show Value.bool (fi ns ms)≠Value.notImplemented/\Q (.bool<|fi ns ms) s from#[nofun,h]] r
theorem BN(g:s.heap.IsList l us)(j:s.heap.IsList b vs)(i:IntsAre us.toList ns)(k:IntsAre vs.toList ms)(q:A.units<cLine)(h:Q (fi ns ms) s) :
  wpAny (model prog w) A (oneLt' true (.ref l)<|.ref b) Q E s:=by
 let#[#[x,p,t,m],a,e,n1,d]:=id g;let#[#[u,o,v,n],r,f,n2,c]:=id j;dsimp only at e d f c;subst e d f c;rw[oneLt'_eq];simp[zfM];refine zad<|wpAny_cRoomFor q ?_;refine zad<|wpAny_callSpecialIfBound?_slot #[_,a,rfl] zeO<|zdM zeO #[_,a,rfl] PySem.F.entry_list_lt (PySem.F.args_list_lt_2 _ _) (oC l b us vs n1 n2 p o m n ns ms i k) #[a,r,?_];exact zcp h
theorem rZ:∀a:dm,fi a a=false
 | []=>rfl
 | x::a=>iT>>zam rfl>>rZ a
theorem lex_trans:∀{a b c:dm},fi a b=true->fi b c=true->fi a c=true
 | [],[],_,h,_=>by cases h
 | [],_::_,[],_,h=>by cases h
 | [],_::_,_::_,_,_=>rfl
 | _::_,[],_,h,_=>by cases h
 | _::_,_::_,[],_,h=>by cases h
 | x::a,y::b,z::c,h1,h2=>by rw[iT]at h1 h2 ⊢;ext(e:x=y);subst e;ext(d:x=z);subst d;rw[zam rfl]at h1 h2 ⊢;exact lex_trans h1 h2;rw[zaj d]at h2 ⊢;exact h2;rw[zaj e]at h1;let f:=zcK h1;ext(d:y=z);subst d;rw[zaj e];exact h1;rw[zaj d]at h2;let g:=zcK h2;erw[zaj (),zbc ()]
theorem oE:∀{a b:dm},fi a b=false->fi b a=false->a=b
 | [],[],_,_=>rfl
 | [],_::_,h,_=>by cases h
 | _::_,[],_,h=>by cases h
 | x::a,y::b,h1,h2=>by rw[iT]at h1 h2;ext(e:x=y);subst e;rw[zam rfl]at h1 h2;rw[oE h1 h2];rw[zaj e]at h1;rw[zaj<|λz=>e z.symm]at h2;let d:=of_decide_eq_false h1;let c:=of_decide_eq_false h2;lia
theorem B4{a b:dm}(h:fi a b=true):fi b a=false:=by
 cases q:fi b a with
 | false=>rfl
 | true=>have:=lex_trans h q;rw[rZ]at this;cases this
noncomputable def Le(a b:dm):Prop:=fi b a=false
theorem Le.refl(a:dm):Le a a:=rZ a
theorem Le.trans(f:Le a b)(d:Le b c):Le a c:=by
 unfold Le at *;cases q:fi c a with
 | false=>rfl
 | true=>
  ext(e:fi a b=true);let:=lex_trans q e;rw[d]at this;cases this;let g:=oE (~~~e) f;subst g;rw[d]at q;cases q
theorem Le.of_lt{a b:dm}(h:fi a b=true):Le a b:=B4 h
theorem Le.Wm(d:Le a b)(c:Le b a):a=b:=oE c d
end L2
namespace L2
open PySem PySem.Spec PySem.W PySem.Calls PyProof.Rows
noncomputable def Az(a:Nat->Nat->(Bool->Shared->Prop)->Shared->Prop)(n:Nat)(f:Nat->dm)(s:Shared):Prop:=∀i j C,i<n->j<n->C (HT.fi (f i)<|f j) s->a i j C s
structure Arr(n:Nat)(p:Array Nat):Prop where
 size:p.size=n
 perm:p.Perm (List.toArray<|List.range n)
noncomputable def kf(f:Nat->dm)(p:Array Nat)(i:Nat):dm:=f<|p.getD i 0
theorem Arr.lt(h:Arr n p)(a:i<n):p.getD i 0<n:=by
 let e:p.getD i 0=p[i]'(h.size>>a):=by simp[Array.getD,h.size,a]
 let m:p[i]'(h.size>>a)∈p:=Array.getElem_mem _;let:=(h.perm.mem_iff).mp m;rw[e];simpa using this
theorem kf_at(h:p[i]?=q[j]?):kf f p i=kf f q j:=by unfold kf;rw[zcR,zcR,h]
theorem Arr.rev(h:Arr n p)(i j:Nat):Arr n<|kas_rev p i j:=#[by unfold kas_rev;erw[mirror_size,h.size],(mirror_perm _ _ _ _).trans h.perm]
theorem Arr.bub(h:Arr n p)(i j:Nat):Arr n<|bubble p i j:=#[bubble_size>>h.size,(bubble_perm _ _ _).trans h.perm]
theorem zH(h:Arr n p)(a:j<=n)(k:Nat):kf f (kas_rev p i j) k=if i<=k/\k<j then kf f p (i+j-1-k)else kf f p k:=by let e:=getElem?_mirror_all (i:=i) (h.size>>a) k;ext(q:i<=k/\k<j);rw[zam q]at e ⊢;exact kf_at e;rw[zaj q]at e ⊢;exact kf_at e
noncomputable def Up(f:Nat->dm)(p:Array Nat)(m:Nat):Prop:=∀i,i+1<m->Le (kf f p i) (kf f p<|i+1)
noncomputable def Dn(f:Nat->dm)(p:Array Nat)(m:Nat):Prop:=∀i,i+1<m->Le (kf f p<|i+1) (kf f p i)
theorem Up.le(h:Up f p m)(c:i<=j)(b:j<m):Le (kf f p i)<|kf f p j:=by
 induction j with
 | zero=>
      obtain rfl:i=0:=();exact Le.refl _
 | succ j a=>
  ext(e:i=j+1);rw[e];exact Le.refl _;exact(a () ()).trans<|h j b
theorem Dn.le(h:Dn f p m)(c:i<=j)(b:j<m):Le (kf f p j)<|kf f p i:=by
 induction j with
 | zero=>
      obtain rfl:i=0:=();exact Le.refl _
 | succ j a=>
  ext(e:i=j+1);rw[e];exact Le.refl _;exact(h j b).trans<|a () ()
theorem EM(d:Az cmp n f s){p:Array Nat}(c:Arr n p){Q:Nat->Shared->Prop}:∀(b m:Nat),1<=m->m+b<=n->Up f p m->(∀a,m<=a->a<=m+b->Up f p a->(a=m+b\/HT.fi (kf f p a) (kf f p<|a-1)=true)->Q a s)->(kas_asc p b m).kasWp cmp Q s
 | 0,m,_,_,u,k=>k m (zaf _) (zaf _) u<|.inl rfl
 | b+1,m,h1,h2,u,k=>by
  refine d _ _ _ (c.lt ()) (c.lt ()) ?_;show(if _ then _ else _:KasT Nat).kasWp cmp Q s;cases q:HT.fi (f<|p.getD m 0) (f<|p.getD (m-1) 0)with
  | true=>rw[zam rfl];exact k m (zaf _) () u<|.inr q
  | false=>
   rw[zaj B!];refine EM d c b (m+1) () () (λi j=>?_) λa l o g h=>k a () () g<|h.imp (λz=>()) id;ext(e:i+1=m);let:i=m-1:=();rw[e,this];exact q;exact u i ()
noncomputable def Flt(f:Nat->dm)(p:Array Nat)(m q:Nat):Prop:=∀i,m-(q+1)<=i->i<m->kf f p i=kf f p (m-1)
theorem tq(a:Arr n p)(b:m<=n)(c:q+1<=m)(h:Flt f p m q)(k:Nat):kf f (kas_rev p (m-(q+1)) m) k=kf f p k:=by rw[zH a b];ext(e:m-(q+1)<=k/\k<m);rw[zam e,h _ () (),<-h k e.1 e.2];rw[zaj e]
theorem so(v:Az cmp n f s){Q:Array Nat×Nat×Nat->Shared->Prop}:∀(o:Nat) (p:Array Nat) (m q:Nat),Arr n p->1<=m->m+o<=n->q+1<=m->Dn f p m->Flt f p m q->
  (∀g h l,Arr n g->1<=h->h<=m+o->l+1<=h->Dn f g h->Flt f g h l->Q (g,h,l) s)->(kas_desc o p m q).kasWp cmp Q s
 | 0,p,m,q,hp,h1,_,hq,d,fl,k=>k p m q hp h1 (zaf _) hq d fl
 | o+1,p,m,q,hp,h1,h2,hq,d,fl,k=>by
  refine v _ _ _ (hp.lt ()) (hp.lt ()) ?_;show(if _ then _ else _:KasT _).kasWp cmp Q s;cases c:HT.fi (f<|p.getD m 0) (f<|p.getD (m-1) 0)with
  | true=>
   rw[zam rfl];let A:∀g,(∀j,kf f g j=kf f p j)->Dn f g (m+1):=λg e i C=>by
    rw[e,e];ext(z:i+1=m);let:i=m-1:=();rw[z,this];exact Le.of_lt c;exact d i ()
   let B:∀g,Flt f g (m+1) 0:=λg i a b=>by
    let:i=m:=();rw[this];rfl
   ext(z:q > 0);rw[zam z];refine so v o _ (m+1) 0 (hp.rev _ _) () () () (A _ λj=>tq hp () hq fl j) (B _) λg h l t u y x r w=>k g h l t u () x r w;rw[zaj z];refine so v o _ (m+1) 0 hp () () () (A _ λ_=>rfl) (B _) λg h l t u y x r w=>k g h l t u () x r w
  | false=>
   rw[zaj B!];refine v _ _ _ (hp.lt ()) (hp.lt ()) ?_;show(if _ then _ else _:KasT _).kasWp cmp Q s;cases c2:HT.fi (f<|p.getD (m-1) 0) (f<|p.getD m 0)with
   | true=>rw[zam rfl];exact k p m q hp h1 () hq d fl
   | false=>
    rw[zaj B!];let e:kf f p m=kf f p (m-1):=oE c c2;refine so v o p (m+1) (q+1) hp () () () (λi C=>?_) (λi a b=>?_) λg h l t u y x r w=>k g h l t u () x r w;ext(z:i+1=m);let:i=m-1:=();rw[z,this,e];exact Le.refl _;exact d i ();rw[zcB];ext(z:i=m);rw[z];rw[fl i () (),e]
theorem AY(j:Az cmp n f s)(b:Arr n p)(g:1<=m)(e:m<=n)(d:Dn f p m)(k:∀a c,Arr n c->a<=n->1<=a->Up f c a->Q (a,c) s):(kas_tail3 m n p).kasWp cmp Q s:=by unfold kas_tail3;rw[zee];refine EM j (b.rev 0 m) (n-m) m g () (λi l=>?_) λa o q h _=>k a _ (b.rev 0 m) () () h;erw[zH b e,zH b e,zam (),zam (),d.le () ()]
theorem qO(h:Az cmp n f s)(t:Arr n p)(x:m+1<=n)(v:1<=m)(d:Dn f p<|m+1)(k:∀c g,Arr n g->c<=n->1<=c->Up f g c->Q (c,g) s):(kas_descPart m n p).kasWp cmp Q s:=by
 unfold kas_descPart;rw[zee];refine so h (n-(m+1)) p (m+1) 0 t () () () d (λi a b=>?_) λg c u e l w q j o=>?_;let:i=m:=();rw[this];rfl;ext(z:u > 0);rw[zam z];refine AY h (e.rev _ _) l () (λi r=>?_) k;rw[tq e () q o,tq e () q o];exact j i r;erw[zaj z,AY h e l () j k]
theorem LB(h:Az cmp n f s)(a:Arr n p)(u:1<=n)(k:∀l q,Arr n q->l<=n->1<=l->Up f q l->Q (l,q) s):(kas_count n p).kasWp cmp Q s:=by
 unfold kas_count;rw[zee];refine EM h a (n-1) 1 (zaf _) () (λi b=>()) λm d v g t=>?_;ext(z:m=n);rw[zam<|~~~z];exact k m p a () d g;rw[zaj<|~~~z];let st:=t.resolve_left ();ext(y:m > 1);rw[zam y];refine h _ _ _ (a.lt ()) (a.lt ()) ?_;show(if _ then _ else _:KasT _).kasWp cmp Q s;cases c:HT.fi (f<|p.getD 0 0) (f<|p.getD (m-1) 0)with
 | true=>rw[zam rfl];exact k m p a () d g
 | false=>
  rw[zaj B!];let o:∀i,i<m->kf f p i=kf f p (m-1):=λi b=>Le.Wm (g.le () ())<|Le.trans (show Le (kf f p<|m-1) (kf f p 0)from c)<|g.le (zaR _) b;let rv:∀j,kf f (kas_rev p 0 m) j=kf f p j:=λj=>by rw[zH a ()];ext(e:0<=j/\j<m);rw[zam e,o _ (),<-o j e.2];rw[zaj e]
  refine qO h (a.rev 0 m) () d (λi b=>?_) k;rw[rv,rv];ext(e:i+1=m);let:i=m-1:=();rw[e,this];exact Le.of_lt st;erw[o i (),o (i+1) (),Le.refl _]
 rw[zaj y];refine qO h a () d (λi b=>?_) k;let:i+1=m:=();let r:i=m-1:=();erw[this,r,Le.of_lt st]
theorem tK(h:Az cmp n f s){p:Array Nat}(e:Arr n p){k:Nat}(g:k<n)(u:Up f p k){Q:Nat->Shared->Prop}:∀(d l r:Nat),r-l<=d->l<=r->r<=k->(∀i,i<l->Le (kf f p i) (kf f p k))->(∀i,r<=i->i<k->Le (kf f p k) (kf f p i))->
  (∀l',l'<=k->(∀i,i<l'->Le (kf f p i) (kf f p k))->(∀i,l'<=i->i<k->Le (kf f p k) (kf f p i))->Q l' s)->(kas_place p k d l r).kasWp cmp Q s
 | 0,l,r,h1,h2,h3,h4,h5,q=>q l () h4 λi a b=>h5 i () b
 | d+1,l,r,h1,h2,h3,h4,h5,q=>by
  unfold kas_place;ext(z:l>=r);rw[zam z];exact q l () h4 λi a b=>h5 i () b;rw[zaj z];refine h _ _ _ (e.lt g) (e.lt ()) ?_;show(if _ then _ else _:KasT _).kasWp cmp Q s;cases c:HT.fi (f<|p.getD k 0) (f<|p.getD ((l+r) / 2) 0)with
  | true=>
   erw[zam rfl,tK h e g u d l ((l+r) / 2) () () () h4 (λi a b=>Le.trans (Le.of_lt c)<|u.le a b) q]
  | false=>
   erw[zaj B!,tK h e g u d ((l+r) / 2+1) r () () h3 (λi a=>Le.trans (u.le () ())<|show Le (kf f p<|(l+r) / 2) (kf f p k)from c) h5 q]
theorem LL(o:Az cmp n f s){Q:Array Nat->Shared->Prop}:∀(d:Nat) (p:Array Nat) (k:Nat),Arr n p->k+d=n->Up f p k->(∀g,Arr n g->Up f g n->Q g s)->(kas_bin d p k).kasWp cmp Q s
 | 0,p,k,hp,h1,u,q=>q p hp (by erw[<-h1,u])
 | d+1,p,k,hp,h1,u,q=>by
  unfold kas_bin;rw[zee];refine tK o hp () u k 0 k () (zaR _) (zaf _) (λi h=>()) (λi a b=>()) λl v lo r=>?_;let m:∀j,kf f (bubble p k<|k-l) j=if j=l then kf f p k else if l<j/\j<=k then kf f p (j-1)else kf f p j:=λj=>by
   let e:=getElem?_bubble (src:=k) (by rw[hp.size];lia) (k-l) () j;let t:k-(k-l)=l:=();rw[t]at e;ext(a:j=l);rw[zam a]at e ⊢;exact kf_at e;rw[zaj a]at e ⊢;ext(b:l<j/\j<=k);rw[zam b]at e ⊢;exact kf_at e;rw[zaj b]at e ⊢;exact kf_at e
  refine LL o d _ (k+1) (hp.bub _ _) () (λi w=>?_) q;rw[m,m];ext(a:i+1<l);rw[zaj (),zaj (),zaj (),zaj ()];exact u i ();ext(b:i+1=l);rw[zaj (),zaj (),zam b];exact lo i ();ext(c:i=l);rw[zam c,zaj (),zam ()];rw[zcB];exact r i () ();rw[zaj c,zam (),zaj (),zam ()];let:i+1-1=(i-1)+1:=();erw[this,u (i-1) ()]
theorem MI(b:Az cmp n f s)(c:1<=n)(q:∀p,Arr n p->Up f p n->Q p s):(kas_sort n).kasWp cmp Q s:=by
 unfold kas_sort;rw[zee];refine LB b #[by simp,Array.Perm.refl _] c λm p a d g u=>?_;ext(z:m<n);rw[zam z];let e:max m 1=m:=();rw[e];exact LL b (n-m) p m a () u q;rw[zaj z];let e:m=n:=();exact q p a<|e▸u
theorem aaj(n:Nat):Arr n<|List.toArray<|List.range n:=#[by simp,Array.Perm.refl _]
noncomputable def jK(h:Heap)(vs:cq)(f:Nat->dm):Prop:=∀i,i<vs.c->∃b a,vs[i]?=b.i/\h.IsList b a/\IntsAre a.toList (f i)
theorem jK.keep(r:jK h vs f)(k:∀(i:Nat) (b:Addr),vs[i]?=b.i->∀o,h.get? b=some o->h'.get? b=some o):jK h' vs f:=λi a=>by let#[b,c,e,l,q]:=r i a;exact#[b,c,e,l.at λo z=>k i b e o z,q]
noncomputable def jU(vs:cq)(p:Array Nat):Array Value:=List.toArray<|p.toList.map λi=>vs.getD i Value.none
theorem xA(vs:cq):jU vs (List.toArray<|List.range vs.c)=vs.toArray:=by unfold jU;congr 1;apply zez;ext i;rw[zao];ext(h:i<vs.c);simp[h];simp[h]
theorem EU:∀l:cq,(l.zip l).map (λx=>x.snd)=l
 | []=>rfl
 | x::l=>by rw[zip_cons_cons,zbx,EU l]
noncomputable def BW(h:Heap)(a:Addr)(vs:cq):Heap:=((h.update a<|Obj.mapSeq λ_=>#[]).push<|seqObj "tuple" vs.toArray 0).push<|seqObj "list" #[] 0
theorem Nr(c:b≠a)(e:h.get? b=some o):(BW h a vs).get? b=some o:=by let l:=zar e;unfold BW;rw[zeA,zeA,Heap.get?_update_ne _ _ _ _ c];exact e;rw[zdU];exact zba l;erw[size_push',zdU,zba<|zbt l]
theorem Oj(a:jK s.heap vs f)(o:A.units<cLine):Az (kas_cmp prog w A oneType'<|pairsOf vs) vs.c f s:=by
 ext i j C d e c;let#[b1,q,b,h,n]:=a i d;let#[b2,r,g,k,m]:=a j e;rw[<-kas_ask_eq];unfold kas_ask;let l:vs.getD i Value.none=.ref b1:=by rw[zah,b];rfl
 let p:vs.getD j Value.none=.ref b2:=by rw[zah,g];rfl
 erw[l,p,keyLt'_oneType,BN h k n m o c]
theorem MJ(D:s.heap.get? a=some (seqObj "list" vs.toArray n))(Xr:vs.c<64)(R:A.units<cLine)(O:jK s.heap vs f)(zK:∀(i:Nat) (b:Addr),vs[i]?=b.i->b≠a)(k:∀p:Array Nat,Arr vs.c p->Up f p vs.c->P (.done<|.ret .none) { s with heap:=sortedHeap s.heap a vs (jU vs p) }) :
  wpAny (model prog w) A (Builtin.«list.sort» #[[.ref a],[]]) P E s:=by
 let r:vs.c<=sizeLine:=by rw[zcE];lia
 obtain⟨C,j⟩:∃C,(s.heap.update a<|Obj.mapSeq λ_=>#[]).get? a=some (seqObj "list" #[] C):=#[_,get?_update_seq D<|λ_=>#[]];let m:(BW s.heap a vs).get? a=some (seqObj "list" #[] C):=zap _<|zap _ j;let F:jK (BW s.heap a vs) vs f:=O.keep λi b e o z=>Nr (zK i b e) z;rw[list_sort_plain];refine zad<|listItems_at D rfl<|zad<|listUpdate_at D rfl (zad<|seqEpoch_at j rfl<|zad<|wpAny_newTuple (zad<|wpAny_newList (zbS ?_)<|zaR _) r) (zaW>>r)<|zaR _;dsimp only;ext(d:vs.toArray.size<2);rw[zam d,zam d];refine zad<|zay ?_;rw[StateT.run_pure];refine zad<|zay<|zad<|seqEpoch_at m rfl ?_;let t:(arrOf<|SortSt.mk' general' (vs.toArray.zip vs.toArray) #[] 7 none).map (·.2)=jU vs (List.toArray<|List.range vs.c):=by rw[xA];show(vs.toArray.zip vs.toArray).map (·.2)=vs.toArray;apply Array.ext';simp;exact EU vs
 dsimp only;rw[t];refine zad (listUpdate_at m rfl ?_ (zaR _)<|xA>>zaW>>zfD r);simp only[bne_self_eq_false,zbD,zcP];refine zay<|k _ (aaj _) λi x=>?_;rw[zaW]at d;lia;rw[zaj d,zaj d];let I:2<=vs.c:=by rw[zaW]at d;lia
 refine zad<|kas_kind (T:=.type "list") I (λv L=>?_) rfl rfl ?_;let#[i,x,rfl]:=zaH.mp L;let#[b,us,e,l,q]:=F i x;rw[zac x]at e;rw[zas e];let#[o,W,X,z3]:=l;ext A' Q' E' c kk S;exact zfk (T:= "list") #[o,kk _ _ W,X] S;let y:SortSt.mk' oneType' (vs.toArray.zip vs.toArray) #[] 7 none=kas_st oneType' (pairsOf vs) (List.toArray<|List.range vs.c):=by let e:=kas_range<|pairsOf vs;rw[pairsOf_size]at e;unfold kas_st;rw[e];rfl
 let h:=kas_runs (prog:=prog) (w:=w) (A:=A) (κ:=oneType') (it:=pairsOf vs) (E:=E) (Q:=λ_ g c=>c={ s with heap:=BW s.heap a vs }/\∃p:Array Nat,Arr vs.c p/\Up f p vs.c/\arrOf g=p.map (kas_item<|pairsOf vs)/\failedOf g=none)
  (G:=λp c=>c={ s with heap:=BW s.heap a vs }/\Arr vs.c p/\Up f p vs.c) I Xr (λp' g c a1 Z Y u=>#[u.1,p',u.2.1,u.2.2,Z,Y]) (MI (Oj (s:={ s with heap:=BW s.heap a vs }) F R) () λp N M=>#[rfl,N,M])
 rw[<-y]at h;refine zad<|zbK h ?_ λ_ _ e=>e;ext⟨⟨⟩,g⟩ c ⟨rfl,p,H,Rg,B,K⟩;let t:(arrOf g).map (·.2)=jU vs p:=by unfold jU;apply Array.toList_inj.mp;rw[B,Array.map_map,Array.toList_map];refine zcr λi _=>?_;rw[Function.comp_apply,kas_item_eq]
 rw[t];let U:(jU vs p).size=vs.c:=by unfold jU;rw[zaW,zaa,zbm,H.size]
 refine zad (seqEpoch_at m rfl<|zad<|listUpdate_at m rfl ?_ (zaR _)<|U>>zfD r);rw[K];simp only[bne_self_eq_false,zbD,zcP];exact zay<|k p H Rg
theorem G0(t:s.heap.IsList l vs.toArray)(x:vs.c<64)(B:A.in1.in1.units<cLine)(r:jK s.heap vs f)(k:∀p:Array Nat,Arr vs.c p->Up f p vs.c->Q (.ref<|s.d+1) { s with heap:=sortedAll s.heap vs (jU vs p) }) :
  wpAny (model prog w) A (call (.builtin "sorted") [.ref l]) Q E s:=by
 let j:vs.c<=sizeLine:=by rw[zcE];lia
 refine Calls.call_function_entry kind_sorted plain_sorted entry_sorted (args_sorted1 _) ?_;unfold Builtin.«sorted»;refine zad<|zay<|zad<|collect_list t (zad<|wpAny_newList ?_ j) j;generalize d:(s.heap.push<|seqObj "list" #[] 0).update s.d (Obj.mapSeq (·++vs.toArray))=c;let a:c.e=s.d+1:=by rw[<-d,zdU,size_push']
 let m:(c.push<|seqObj "list" vs.toArray 0).get? (s.d+1)=some (seqObj "list" vs.toArray 0):=by erw[<-a,zaK _ rfl]
 let h:∀b o,s.heap.get? b=some o->(c.push<|seqObj "list" vs.toArray 0).get? b=some o:=λb o q=>by let g:=zar q;erw[zeA _ _ _ (by erw[a,zba<|zbt g]),<-d,Heap.get?_update_ne _ _ _ _<|zba g,zeA _ _ _<|zba g,q]
 rw[a];refine zad<|zbS<|zcT slot_list_sort #[_,m,rfl] entry_list_sort (MJ m x B (r.keep λi b e o z=>h b o z) (λi b e=>?_) λp v y=>#[_,rfl,?_])<|args_list_sort _;let#[u,_]:=zab.mp e;let#[D,C,n,#[o,z,_],_]:=r i u;rw[e]at n;cases n;exact zba<|zbt<|zar z;refine zay #[_,rfl,?_];let:=k p v y;unfold sortedAll at this;rwa[d]at this
section
variable {A:Around} {R:Result->Shared->Prop} {n:Nat} {P:Nat->Value->Prop} {St:Nat->Heap->Prop} {Kp:Heap->Prop} {bt:Nat->Nat->Bool}
noncomputable def PV(prog:Program)(w:World)(A:Around)(P:Nat->Value->Prop)(Kp:Heap->Prop)(bt:Nat->Nat->Bool):Prop:=
 ∀(i j:Nat) (x y:Value) (t:Shared) (Q E:da),P i x->P j y->Kp t.heap->Q (.bool<|bt i j) t->wpAny (model prog w) A (richCompare .Lt x y) Q E t
theorem Eb(W:Walks prog w A.in1 I fp wr n P St)(M:PV prog w A.in1 P Kp bt)(D:S∉fp)(K:∀h h',Kp h->(∀b o,b∉wr->b≠S->h.get? b=some o->h'.get? b=some o)->Kp h') :
  ∀(k j:Nat) (t:Shared) (x:Value) (c:Nat),n-(j+1)=k->j+1<=n->St (j+1) t.heap->Kp t.heap->P (argBest bt j) x->t.heap.get? S=some { cls:=.type "list",dict:=none,data:=.seq #[x,x,] c,slots:=#[] }->
  (∀v h' i,P (argBest bt<|n-1) v->(∀b o,b∉wr->b≠S->t.heap.get? b=some o->h'.get? b=some o)->R (.ok<|.ret v) { t with heap:=h',toks:=i })->codeAny (model prog w) A (.builtin "min.loop" #[[.ref I,.none,.ref S],[]]) R t:=by
 let C:S∉wr:=λz=>D<|W.sub _ z;let nm:(toString "min"++toString ".loop" : String) = "min.loop":=by decide
 ext k;induction k with
 | zero=>
  ext j t x c O L st G g f l;let B:j+1=n:=();refine zck F.entry_min_loop ?_;rw[zbO zcU _];refine zad<|zcG f rfl ?_;refine zad<|zeB<|W.done t _ _ (B▸st) λh' i a=>?_;let d:=a S _ C f;refine zad<|zcN d rfl<|zad<|zeP<|zay<|l x _ i (by erw[<-B,g]) λb o b1 b2 e=>?_;erw[zbF _ _<|zbl b2,a b o b1 e]
 | succ k E=>
  ext j t x c O L st G g f l;let p:j+1<n:=();refine zck F.entry_min_loop ?_;rw[zbO zcU _];refine zad<|zcG f rfl ?_;refine zad<|zeB<|W.item (j+1) t _ _ p st λv h' i pv H a=>?_;let d:=a S _ C f;let m:=K _ _ G λb o b1 _ e=>a b o b1 e;show wpAny _ A.in1 (tryCatch (holding [v,v]<|richCompare .Lt v x >>= _) _ >>= _) _ _ _;refine zad<|zeB<|zbS<|zad<|M (j+1) (argBest bt j) v x _ _ _ pv g m<|zad<|zbS<|zcp<|zad<|zeP<|zay ?_;cases hb:bt (j+1) (argBest bt j)with
  | true=>
   simp[zfM];refine zad<|zcN d rfl<|zad<|zeP ?_;rw[nm];let up:∀b o,b≠S->h'.get? b=some o->(h'.update S<|Obj.mapSeq λ_=>#[v,v,]).get? b=some o:=λb o b2 e=>by erw[zbF _ _<|zbl b2,e]
   refine zay #[zci zcU _,E (j+1) _ v _ () p (W.frame _ _ _ H λb N o e=>up b o (λz=>D<|z▸N) e) (K _ _ m λb o _ b2 e=>up b o b2 e) (by simp[argBest,hb,zfM];exact pv) (zbI _ d rfl) λu y q s r=>?_];exact l u y q s λb o b1 b2 e=>r b o b1 b2<|up b o b2<|a b o b1 e
  | false=>
   simp[zbD,zcP];refine zad<|zeP ?_;erw[nm,zay #[zci zcU _,E (j+1) _ x c () p H m (by simp[argBest,hb,zbD,zcP];exact g) d λu y q s r=>l u y q s λb o b1 b2 e=>r b o b1 b2<|a b o b1 e]]
theorem B9(W:Walks prog w A.in1 I fp wr n P St)(l:PV prog w A.in1 P Kp bt)(a:S∉fp)(f:∀h h',Kp h->(∀b o,b∉wr->b≠S->h.get? b=some o->h'.get? b=some o)->Kp h')(i:0<n)(st:St 0 t.heap)(B:Kp t.heap)(j:t.heap.get? S=some { cls:=.type "list",dict:=none,data:=.seq #[] c,slots:=#[] })(m:∀v h' g,P (argBest bt<|n-1) v->(∀b o,b∉wr->b≠S->t.heap.get? b=some o->h'.get? b=some o)->R (.ok<|.ret v) { t with heap:=h',toks:=g }):codeAny (model prog w) A (.builtin "min.loop" #[[.ref I,.none,.ref S],[]]) R t:=by
 let nm:(toString "min"++toString ".loop" : String) = "min.loop":=by decide
 refine zck F.entry_min_loop ?_;rw[zbO zcU _];refine zad<|zcG j rfl ?_;refine zad<|zeB<|W.item 0 t _ _ i st λv h' g pv q d=>?_;let k:=d S _ (λz=>a<|W.sub _ z) j;show wpAny _ A.in1 (updateSeq S (λ_=>#[v,v,]) >>= _) _ _ _;refine zad<|zcN k rfl ?_;rw[nm];let up:∀b o,b≠S->h'.get? b=some o->(h'.update S<|Obj.mapSeq λ_=>#[v,v,]).get? b=some o:=λb o b2 e=>by erw[zbF _ _<|zbl b2,e]
 exact zay #[zci zcU _,Eb W l a f _ 0 _ v _ rfl i (W.frame _ _ _ q λb u o e=>up b o (λz=>a<|z▸u) e) (f _ _ (f _ _ B λb o b1 _ e=>d b o b1 e) λb o _ b2 e=>up b o b2 e) pv (zbI _ k rfl)
  λp s r y x=>m p s r y λb o b1 b2 e=>x b o b1 b2<|up b o b2<|d b o b1 e]
end
theorem GH(f:Nat->dm):∀k,argBest (λi j=>HT.fi (f i)<|f j) k<=k/\∀j,j<=k->Le (f<|argBest (λi j=>HT.fi (f i)<|f j) k) (f j)
 | 0=>#[zaf _,λj a=>by
                    obtain rfl:j=0:=();exact Le.refl _]
 | k+1=>by
  let#[c,b]:=GH f k;unfold argBest;cases q:HT.fi (f<|k+1) (f<|argBest (λi j=>HT.fi (f i)<|f j) k)with
  | true=>
   rw[zam rfl];refine#[zaf _,λj a=>?_];ext(e:j=k+1);rw[e];exact Le.refl _;exact Le.trans (Le.of_lt q)<|b j ()
  | false=>
   rw[zaj B!];refine#[(),λj a=>?_];ext(e:j=k+1);rw[e];exact q;exact b j ()
theorem KI(hh:A.handled=none)(n:s.heap.IsList l vs.toArray)(Y:A.in1.units<cLine)(I:jK s.heap vs f)(P:0<vs.c)(k:∀(i:Nat) (v:Value) h' p,vs[i]?=some v->(∀j,j<vs.c->Le (f i) (f j))->(∀b o,s.heap.get? b=some o->h'.get? b=some o)->Q v { s with heap:=h',toks:=p }) :
  wpAny (model prog w) A (call (.builtin "min") [.ref l]) Q E s:=by
 let nm:(toString "min"++toString ".loop" : String) = "min.loop":=by decide
 let M:l<s.d:=by let#[_,e,_]:=id n;exact zar e
 let d:∀(i:Nat) (b:Addr),vs[i]?=b.i->b<s.d:=λi b e=>by let#[b',us,H,#[o,z,_],_]:=I i (zab.mp e).1;rw[e]at H;cases H;exact zar z
 refine call_function_tree F.kind_min F.plain_min F.entry_min (F.args_min1 _) ?_;refine zad<|zdO (show Builtin.Builtins.bindParams "min" ["key", "default"] 0 #[[],[]]=pure [none,none]from rfl)<|zad<|zay<|zad<|zey n<|zad<|zdJ ?_;rw[nm];generalize u:s.heap.push { cls:=.type "list_iterator",data:=.fields #[.ref l,.int 0 0,] }=g;let m:g.e=s.d+1:=by rw[<-u,Heap.size_push]
 let C:∀b o,s.heap.get? b=some o->g.get? b=some o:=λb o e=>u▸zap _ e;let U:g.IsListIter s.d l 0:=u▸#[_,zaK _ rfl,rfl,rfl];refine zay #[zci zcU _,B9 (Kp:=λh=>jK h vs f) (bt:=λi j=>HT.fi (f i)<|f j) (W:=Walks.list (A:=A.in1) hh s.d l (zba M) vs.toArray) (S:=g.e)
  (λi j x y t Q' E' N py K q=>?_) (λz=>?_) (λh h' r D=>?_) (~~~P) #[U.at λo e=>zap _ e,n.at λo e=>zap _<|C _ _ e] (I.keep λi b _ o e=>zap _<|C _ _ e) (zaK _ rfl) λv h' p pv D=>?_]
 let a:vs[i]?=some x:= ~~~N
 let c:vs[j]?=some y:= ~~~py
 let#[b1,u1,G,O,X]:=K i (zab.mp a).1;let#[b2,u2,L,Z,R]:=K j (zab.mp c).1;rw[a]at G;rw[c]at L;cases G;cases L;exact Kv O Z X R Y q;let:g.e=s.d\/g.e=l:= ~~~z
 ext(e|e:this);exact absurd (m.symm.trans e)<|Nat.succ_ne_self _;exact absurd (m.symm.trans e)<|zbM<|zbt M;refine r.keep λi b e o z=>D b o (λy=>?_) (λy=>?_) z;let:b=s.d:= ~~~y
 exact absurd (d i b e) (this>>zbq _);exact absurd (d i b e) (by erw[y,m,Nat.lt_asymm<|zbv _]);let B:vs[argBest (λi j=>HT.fi (f i)<|f j)<|vs.c-1]?=some v:= ~~~pv
 refine k _ v h' p B (λj hj=>(GH f<|vs.c-1).2 j ()) λb o e=>D b o ?_ ?_<|zap _<|C b o e;ext z;let:b=s.d:= ~~~z
 exact absurd (zar e) (this>>zbq _);ext z;exact absurd (zar e) (by erw[z,m,Nat.lt_asymm<|zbv _])
theorem sE:∀(l:dm) (x:Int),(l++[x]).sum=l.sum+x
 | [],x=>by simp
 | y::l,x=>by rw[zcF,sum_cons,sum_cons,sE l x];lia
theorem pZ:∀(l:dm) (y:Int) (m:Nat) (h:m<l.c),m<l.idxOf y->l[m]≠y
 | [],_,m,h,_=>by simp at h
 | z::l,y,m,h,hm=>by
  rw[zdx]at hm;ext(e:z=y);rw[e]at hm;simp at hm;rw[zdC e]at hm;cases m with
  | zero=>exact e
  | succ m=>
   let a:m<l.c:= ~~~h
   let b:m<l.idxOf y:= ~~~hm
   exact pZ l y m a b
theorem Fo{g:St}{s:Shared}(I:Inv X pins g H s):∀{b:cx} {L:dy} {c:cq},Vals b.h c->b.c=L.c->(∀(i:Nat) (a:Addr) (l:dm),b[i]?=some a->L[i]?=some l->aI X.K H a l.f)->jK s.heap c (λi=>L.getD i []):=by
 ext b L c rv p h i q;let z:=rv.c;rw[zaa]at z;let f:i<b.c:=();let d:i<L.c:=();let#[u,n,k]:=rv.get (show(b.h)[i]?=some (V.ref b[i])by simp[f]);cases k;let#[j,o,m,_]:=I.list (h i b[i] L[i] (by simp[f])<|by simp[d]);refine#[b[i],j.toArray,n,m.isList,?_];let e:L.getD i []=L[i]:=by simp[d]
 dsimp only;erw[e,intsAre_of o]
noncomputable def pick{a:Type}(d:a)(L:List a)(p:Array Nat):List a:=p.toList.map λi=>L.getD i d
noncomputable def JL(K:Frag):List V->Hp->VK->Prop:=λvs H Q=>∃(a:Addr) (c:cx) (L:dy),vs=[.ref a]/\aI K H a c.h/\c.c=L.c/\(∀(i:Nat) (b:Addr) (l:dm),c[i]?=some b->L[i]?=some l->aI K H b l.f)/\c.c<64/\
 ∀(p:Array Nat) (q:Addr),Arr L.c p->Up (λi=>L.getD i []) p L.c->H q=none->Q (.ref q) (upd H q<|.lst<|(pick 0 c p).h)
theorem Ah(t:X.A.units+64<cLine):eF X (.builtin "sorted")<|JL X.K:=by
 ext pins s U H xs W Q I r h;let#[a,c,L,rfl,G,f,O,Z,q]:=h;let#[u,rfl,g]:=vals1 r;cases g;let#[d,rv,C,Y]:=I.list G;let z:=rv.c;rw[zaa]at z;refine G0 C.isList () (by simp[Around.in1_units];lia) (Fo I rv f O) λp m R=>?_;let#[P,M]:=sortedAll_at s.heap d<|jU d p;let S:Arr L.c p:=by erw[<-f,z,m]
 let D:((pick 0 c p).h).c<=sizeLine:=by unfold pick;rw[zaa,zaa,zbm,m.size,zak];lia
 let n:Vals ((pick 0 c p).h) (jU d p).toList:=by
  let E:∀l:List Nat,(∀i∈l,i<d.c)->Vals ((l.map λi=>c.getD i 0).h) (l.map λi=>d.getD i Value.none):=by
   ext l;induction l with
   | nil=>intro _;exact .nil
   | cons i l F=>
    ext h;refine .cons ?_<|F λj B=>h j<|zae _ B;let v:=h i zan;let x:i<c.c:=();let#[u,t,g]:=rv.get (show(c.h)[i]?=some (V.ref c[i])by simp[x]);let y:c.getD i 0=c[i]:=by simp[x]
    let N:d.getD i Value.none=u:=by rw[zah,t];rfl
    dsimp only;erw[y,N,g]
  refine E _ λi v=>?_;simpa using ((m.perm.mem_iff).mp<|Array.mem_toList_iff.mp v)
 let k:bU X.prog X.w (upd H (s.d+1)<|.lst<|(pick 0 c p).h) (sortedAll s.heap d<|jU d p) (s.d+1)<|.lst<|(pick 0 c p).h:=#[D,(jU d p).toList,P,n,by simpa[seqObj]using M];exact#[.ref<|s.d+1,_,I.laid (λb o e=>sortedAll_old e) (zdN _) k,rfl,q p _ S (by erw[<-f,z,R])<|I.cw.fresh<|zdN _]
noncomputable def Ug(K:Frag):List V->Hp->VK->Prop:=λvs H Q=>∃(a:Addr) (c:cx) (L:dy),vs=[.ref a]/\aI K H a c.h/\c.c=L.c/\(∀(i:Nat) (b:Addr) (l:dm),c[i]?=some b->L[i]?=some l->aI K H b l.f)/\0<c.c/\
 ∀(i:Nat) (b:Addr) (l:dm),c[i]?=some b->L[i]?=some l->(∀m∈L,Le l m)->Q (.ref b) H
theorem Ia(p:X.calm=true)(d:X.A.units+64<cLine):eF X (.builtin "min")<|Ug X.K:=by
 ext pins s G H xs M Q I r h;let#[a,b,L,rfl,w,l,y,F,q]:=h;let#[u,rfl,c]:=vals1 r;cases c;let#[D,rv,t,O]:=I.list w;let z:=rv.c;rw[zaa]at z;refine KI (I.ok.hd p) t.isList (by simp[Around.in1_units];lia) (Fo I rv l y) () λi v h' E f e C=>?_;let N:=(zab.mp f).1;let k:i<b.c:=();let g:i<L.c:=();let#[u,d,c]:=rv.get (show(b.h)[i]?=some (V.ref b[i])by simp[k]);rw[f]at d;cases d;cases c;refine#[.ref b[i],H,I.kept C,rfl,q i b[i] L[i] (by simp[k]) (by simp[g]) λm B=>?_];let#[j,o,rfl]:=zaH.mp B;let:=e j ();let n:L.getD i []=L[i]:=by simp[g]
 let x:L.getD j []=L[j]:=by simp[o]
 rwa[n,x]at this
noncomputable def OZ(K:Frag):List V->Hp->VK->Prop:=λvs H Q=>∃(a:Addr) (ns:dm),vs=[.ref a]/\aI K H a ns.f/\ns≠[]/\∀m,m∈ns->(∀x∈ns,m<=x)->Q (.int m) H
theorem qu(m:X.calm=true):eF X (.builtin "min")<|OZ X.K:=by
 ext pins s B H xs D Q I r h;let#[a,ns,rfl,o,l,q]:=h;let#[u,rfl,p]:=vals1 r;cases p;let#[z,rv,n,E]:=I.list o;let d:=intsAre_of rv;let#[xs,e]:=d.allInts.items;let b:ns=xs.toList.map (·.1):=by rw[<-d.numsOf,<-nums_intItems,<-e]
 let c:=n.isList;rw[e]at c;let k:0<xs.size:=by let:=zce.mpr l;rwa[b,zaa,zbm]at this
 refine min_intList (I.ok.hd m) c k λv h' A g y=>?_;let#[t,rfl]:=intItems_at g;let#[C,w]:=argBest_lt (numAt xs)<|xs.size-1;refine#[.int _,H,I.kept y,#[t,rfl],q _ ?_ λx f=>?_];rw[b,numAt_eq];exact getD_mem (by rw[zaa,zbm];lia);rw[b]at f;let#[j,i,rfl]:=mem_getD f;rw[zaa,zbm]at i;erw[<-numAt_eq,w j ()]
noncomputable def Ub(K:Frag):List V->Hp->VK->Prop:=λvs H Q=>∃(a:Addr) (ns:dm),vs=[.ref a]/\aI K H a ns.f/\ns.c<=1000/\(∀x∈ns,0<=x/\x<=100000)/\Q (.int ns.sum) H
theorem LG(p:X.calm=true):eF X (.builtin "sum")<|Ub X.K:=by
 ext pins s D H xs L Q I r h;let#[a,ns,rfl,x,C,l,q]:=h;let#[u,rfl,y]:=vals1 r;cases y;let#[A,rv,t,M]:=I.list x;let o:=intsAre_of rv;let#[xs,e]:=o.allInts.items;let n:ns=xs.toList.map (·.1):=by rw[<-o.numsOf,<-nums_intItems,<-e]
 let g:=t.isList;rw[e]at g;let m:xs.size=ns.c:=by rw[n,zaa,zbm]
 let k:∀j,j<ns.c->numAt xs j=ns.getD j 0:=λj c=>by rw[numAt_eq,n]
 let i:∀j,j<=ns.c->preSum (numAt xs) j=(ns.take j).sum/\0<=preSum (numAt xs) j/\preSum (numAt xs) j<=100000*j:=by
  ext j;induction j with
  | zero=>intro _;simp[preSum]
  | succ j w=>
   ext c;let#[v,E,N]:=w ();let f:j<ns.c:=();let d:ns.getD j 0=ns[j]:=by simp[f]
   let b:=l ns[j]<|zbo _;rw[preSum,k j f,d];refine#[?_,(),()];rw[show ns.take (j+1)=ns.take j++[ns[j]]by rw[zer,zac f];rfl,sE,v]
 refine sum_intList (I.ok.hd p) g (λj c=>?_) λh' B t' z=>#[.int ns.sum,H,I.kept z,#[t',?_],q];rw[m]at c;let d:ns.getD j 0=ns[j]:=by simp[c]
 let b:=l ns[j]<|zbo _;let#[_,G,F]:=i (j+1) c;rw[k j c,d];unfold InLong;refine#[#[(),()],#[(),()]];rw[m,(i ns.c<|zaf _).1,zbg]
noncomputable def Qy(K:Frag):V->List V->Hp->VK->Prop:=λx vs H Q=>∃(l:Addr) (ns:dm) (y:Int),x=.ref l/\vs=[.int y]/\H l=some (.lst ns.f)/\y∈ns/\Q (.int (ns.idxOf y:Nat)) H
theorem BS:Ws X "list.index"<|Qy X.K:=by
 ext pins s L H x vs v N Q I C rv h;let#[l,ns,y,rfl,rfl,B,A,q]:=h;cases C;let#[u,rfl,t,rfl]:=rv.one;let#[z,c,n,r,G,e]:=I.BZ B;let j:=intsAre_of r;let M:=j.c;let p:=um;let g:=zbW A;rw[zaa]at z;refine let o:Value->Bool:=λv=>match v with | .int i _=>i==y|_=>false;?_
 let a:∀m (f:m<ns.c),∃t,c[m]?=some (.int ns[m] t):=λm f=>r9 j f;refine zdM F.slot_list_index #[_,e,rfl] F.entry_list_index (F.args_list_index_2 _ _) (SeqAt.list_indexAt l c.toArray n none #[] (.int y t) o (ns.idxOf y) (by rw[zaW];lia) () ?_ ?_) #[e,?_,?_];let#[d,b]:=a _ g;let:c.toArray[ns.idxOf y]'(by rw[zaW];lia)=.int ns[ns.idxOf y] d:=by let:=(zab.mp b).2;simpa using this
 rw[this];show(ns[ns.idxOf y]==y)=true;rw[zdY g];simp;ext m f E;let#[d,b]:=a m ();let:c.toArray[m]=.int (ns[m]'()) d:=by let:=(zab.mp b).2;simpa using this
 rw[this];show(ns[m]'()==y)=false;exact zdC<|pZ ns y m () E;ext w D;let k:w∈c:= ~~~D
 let#[m,f,rfl]:=zaH.mp k;let#[d,b]:=a m ();rw[(zab.mp b).2];exact zdv _ _ _ _;exact#[.int (ns.idxOf y:Nat),H,I.tok _,#[_,rfl],q]
section
variable {X:Cx} {K:Frag}
theorem Bq(h:X.K=K):SlR X<|yZ K:=h▸cp
end
theorem RY:bootBuiltins "sum"=some (.builtin "sum"):=by decide +kernel
end L2
namespace Gm
open PySem L2
noncomputable def cy(r:dm)(j:Nat):Int:=r.getD (j%r.c) 0
theorem bT(h:i%r.c=j%r.c):cy r i=cy r j:=by unfold cy;rw[h]
theorem fB(h:j<r.c):cy r j=r[j]:=by unfold cy;rw[zaz h];simp[h]
theorem fE(h:0<r.c):cy r j∈r:=by
 let a:=zaI j h;let:cy r j=r[j%r.c]:=by unfold cy;simp[a]
 erw[this,zbo _]
theorem hJ{i:Int}{j:Nat}(h1 : -(r.c:Int)<=i)(g:i<r.c)(e:(j:Int)=i\/(j:Int)=i+r.c):jJ r.f i=some (V.int<|cy r j):=by
 unfold jJ F8;rw[zaa];ext(c:0<=i);rw[zam c,zam g];let b:i.toNat<r.c:=();let f:j%r.c=i.toNat:=by
  ext(e|e:e);rw[zaz ()];lia;let:j=i.toNat+r.c:=();rw[this,zax,zaz b]
 show(r.f)[i.toNat]?=_;unfold cy;rw[f];simp[b];rw[zaj c,zam h1];let d:(i+(r.c:Int)).toNat=j:=();let a:j<r.c:=();show(r.f)[(i+(r.c:Int)).toNat]?=_;rw[d,fB a];simp[a]
theorem Lz(b:r.c=q.c)(h:∀j,cy r j=cy q j):r=q:=by refine zes b λi c a=>?_;let:=h i;rwa[fB c,fB a]at this
noncomputable def du(r:dm)(k:Nat):dm:=r.drop k++r.take k
theorem cZ(h:k<=r.c):(du r k).c=r.c:=by unfold du;simp;lia
theorem wu{a b n:Nat}(c:a<n)(d:b<n):(a+b)%n=if a+b<n then a+b else a+b-n:=by ext(h:a+b<n);rw[zam h,zaz h];rw[zaj h,zcV (),zaz ()]
theorem iZ(h:k<r.c)(j:Nat):cy (du r k) j=cy r (j+k):=by
 let a:=zaI j (show 0<r.c by lia);let e:(j+k)%r.c=if j%r.c+k<r.c then j%r.c+k else j%r.c+k-r.c:=by rw[<-wu a h,zdD]
 unfold cy;rw[cZ (),e];unfold du;rw[zah,zah];congr 1;ext(c:j%r.c+k<r.c);rw[zam c,zaU (by rw[zbz];lia),zdG,zdy];rw[zaj c,zaO (by rw[zbz];lia),zbz,getElem?_take,zam ()];congr 1;lia
theorem yQ(b:k<r.c)(d:i<r.c):du (du r k) i=du r ((i+k)%r.c):=by let a:(du r k).c=r.c:=cZ ();let c:=zaI (i+k) (show 0<r.c by lia);refine Lz (by rw[cZ (by rw[a];lia),a,cZ ()]) λj=>?_;rw[iZ (a>>d),iZ b,iZ c];refine bT ?_;rw[zdZ,zfa]
abbrev aA:=Int×Int
noncomputable def ez(L:dy)(a:Int):dm:=L.getD a.toNat []
noncomputable def pre(l:dm)(x:Int):Int:=cy l<|l.idxOf x+l.c-1
structure Dt(L:dy)(d:aA):Prop where
 lo:0<=d.1
 hi:d.1<L.c
 mem:d.2∈ez L d.1
noncomputable def nx(L:dy)(d:aA):aA:=(d.2,pre (ez L d.2) d.1)
theorem aK(b:0<=a)(c:a<L.c):L[a.toNat]?=some (ez L a):=by
 unfold ez;let:a.toNat<L.c:=();simp[this]
theorem M6(h:x∈l):pre l x∈l:=fE<|zcJ h
theorem md(h:i<n):(i+n-1)%n=if i=0 then n-1 else i-1:=by
 ext(e:i=0);rw[zam e,e,zcl,zaz ()];rw[zaj e];let:i+n-1=(i-1)+n:=();rw[this,zax,zaz ()]
theorem y8(n:l.Nodup)(g:x∈l)(j:y∈l)(h:pre l x=pre l y):x=y:=by
 let b:=zbW g;let c:=zbW j;let a:0<l.c:=();unfold pre cy at h;let mx:=zaI (l.idxOf x+l.c-1) a;let i:=zaI (l.idxOf y+l.c-1) a;let d:l.getD ((l.idxOf x+l.c-1)%l.c) 0=l[(l.idxOf x+l.c-1)%l.c]:=by simp[mx]
 let f:l.getD ((l.idxOf y+l.c-1)%l.c) 0=l[(l.idxOf y+l.c-1)%l.c]:=by simp[i]
 rw[d,f]at h;let e:=(zco n).mp h;rw[md b,md c]at e;let k:l.idxOf x=l.idxOf y:=by split at e<;>split at e<;>lia
 rw[<-(zdY b),<-(zdY c)];congr 1
theorem Oh(h:x∈l):jJ l.f ((l.idxOf x:Int)-1)=some (V.int<|pre l x):=by let a:=zbW h;exact hJ () ()<|.inr ()
theorem Dt.back(h:Dt L d)(m:aH L):0<=d.2/\d.2<L.c/\d.2≠d.1/\d.1∈ez L d.2:=by let r:=aK h.lo h.hi;let g:=m.rg _ _ r _ h.mem;let a:=zcf h.lo;refine#[g.1,g.2.1,by rw[a]at g;exact g.2.2,?_];let:=m.sy _ _ r _ h.mem d.2.toNat () _<|aK g.1 g.2.1;rwa [a]at this
theorem Dt.nx(h:Dt L d)(m:aH L):Dt L<|nx L d:=by let#[a,b,c,f]:=h.back m;exact#[a,b,M6 f]
theorem fQ(m:aH L)(k:Dt L d)(l:Dt L e)(h:Gm.nx L d=Gm.nx L e):d=e:=by let#[a,b,c,f]:=k.back m;let#[p,o,n,j]:=l.back m;unfold Gm.nx at h;let g:d.2=e.2:=zaC Prod.fst h;let i:pre (ez L d.2) d.1=pre (ez L e.2) e.1:=zaC Prod.snd h;rw[<-g]at i j;exact zbP (y8 (m.nd _ _<|aK a b) f j i) g
noncomputable def dR(L:dy):Nat->List aA
 | 0=>[]
 | k+1=>dR L k++(ez L k).map λx=>((k:Int),x)
theorem kJ:∀{k:Nat},d∈dR L k↔0<=d.1/\d.1<k/\d.2∈ez L d.1
 | 0=>by simp[dR,zaV,false_iff];ext h;lia
 | k+1=>by rw[dR,mem_append,kJ,mem_map];constructor;rintro (⟨b,c,a⟩|⟨x,hx,rfl⟩);exact#[b,(),a];exact#[by simp,by simp;lia,hx];ext⟨b,c,a⟩;ext(e:d.1=k);right;rw[e]at a;exact#[d.2,a,zbP e.symm rfl];left;exact#[b,(),a]
theorem cv(m:aH L):∀{k:Nat},k<=L.c->(dR L k).Nodup
 | 0,_=>.nil
 | k+1,h=>by rw[dR,zeC];refine#[cv m (),?_,λa d b c z=>?_];exact zbZ _ (λx y e z=>e<|zaC Prod.snd z)<|m.nd _ _<|aK (a:=(k:Int)) () ();let:=(kJ.mp d).2.1;let#[x,_,rfl]:=zaq.mp c;rw[z]at this;simp at this
theorem F0:∀{k:Nat},k<=L.c->((dR L k).c:Int)=((L.take k).map<|λl=>(l.c:Int)).sum
 | 0,_=>by simp[dR]
 | k+1,h=>by
  let a:k<L.c:=();let e:ez L (k:Int)=L[k]:=by unfold ez;simp[a]
  rw[dR,zav,zaa,show L.take (k+1)=L.take k++[L[k]]by rw[zer,zac a];rfl,zat,zea,sE,<-F0 (),e];lia
theorem Dt.all(h:Dt L d):d∈dR L L.c:=kJ.mpr #[h.lo,h.hi,h.mem]
theorem Dt.of(h:d∈dR L L.c):Dt L d:=by let:=kJ.mp h;exact#[this.1,this.2.1,this.2.2]
noncomputable def it(L:dy)(d:aA):Nat->aA
 | 0=>d
 | k+1=>Gm.nx L<|it L d k
theorem uF(m:aH L)(h:Dt L d):∀k,Dt L (it L d k)
 | 0=>h
 | k+1=>(uF m h k).nx m
theorem uG(i:Nat):∀k,it L d (i+k)=it L (it L d i) k
 | 0=>rfl
 | k+1=>by show Gm.nx L (it L d<|i+k)=Gm.nx L (it L (it L d i) k);rw[uG i k]
theorem Ga(m:aH L)(h:Dt L d){k:Nat}:∀i,it L d i=it L d (i+k)->it L d k=d
 | 0,e=>by rw[zcl]at e;exact e.symm
 | i+1,e=>by rw[Nat.add_right_comm]at e;exact Ga m h i<|fQ m (uF m h _) (uF m h _) e
noncomputable def mD(L:dy)(d:aA)(k:Nat):Prop:=∀i,0<i->i<k->it L d i≠d
noncomputable def tr(L:dy)(d:aA)(k:Nat):List aA:=(List.range k).map<|it L d
theorem sD(m:aH L)(h:Dt L d)(n:mD L d k):(tr L d k).Nodup:=by unfold tr;refine zbZ _ (R:=λa b=>a<b/\a<k/\b<k) (λa b c z=>?_) ?_;obtain⟨j,rfl⟩:∃j,b=a+j:=#[b-a,()];exact n j () ()<|Ga m h a z;refine zbX (λf e c=>#[c,zaD.mp f,zaD.mp e])<|pairwise_lt_range (n:=k)
theorem ud(m:aH L)(h:Dt L d)(n:mD L d k):k<=(dR L L.c).c:=by
 let:=eM (sD m h n) λx a=>by let#[i,_,rfl]:=zaq.mp a;exact(uF m h i).all
 simpa[tr]using this
noncomputable def dj(r:dm)(j:Nat):aA:=(cy r j,cy r<|j+1)
structure Good(L:dy)(r:dm):Prop where
 two:2<=r.c
 dt:∀j,Dt L<|dj r j
 st:∀j,Gm.nx L (dj r j)=dj r (j+1)
noncomputable def sh(s:Nat)(r:dm):List aA:=(List.range r.c).map λj=>dj r<|j+s
theorem bX(h:i%r.c=j%r.c):dj r i=dj r j:=by unfold dj;rw[bT h,bT<|show(i+1)%r.c=(j+1)%r.c by rw[zbU,h,<-zbU]]
theorem ML(r:dm)(s:Nat):(sh (s+1) r).Perm<|sh s r:=by
 unfold sh;cases hn:r.c with
 | zero=>exact zfu _
 | succ n=>
  let a:(List.range<|n+1).map (λj=>dj r<|j+(s+1))=(List.range n).map (λj=>dj r<|j+(s+1))++[dj r<|n+(s+1)]:=by rw[zcn,zat];rfl
  let b:(List.range<|n+1).map (λj=>dj r<|j+s)=dj r s::(List.range n).map (λj=>dj r<|j+(s+1)):=by rw[zdL,zbx,zfl,zcl];congr 1;refine zcr λj _=>?_;show dj r (j+1+s)=_;congr 1;lia
  let c:dj r (n+(s+1))=dj r s:=bX (by rw[hn,show n+(s+1)=s+(n+1)by lia,zax]);erw[a,b,c,zdg _ _]
theorem gL(r:dm):∀s,(sh s r).Perm (sh 0 r)
 | 0=>zfu _
 | s+1=>(ML r s).trans<|gL r s
theorem bN(a:0<r.c):d∈sh s r↔∃j,d=dj r j:=by rw[(gL r s).mem_iff];unfold sh;rw[mem_map];constructor;ext⟨j,_,rfl⟩;exact#[_,rfl];ext⟨j,rfl⟩;exact#[j%r.c,zaD.mpr<|zaI _ a,bX<|by rw[zbu,zbJ]]
theorem uY(h:k<r.c)(j:Nat):dj (du r k) j=dj r (j+k):=by unfold dj;rw[iZ h,iZ h];congr 2;lia
theorem DE(h:k<r.c):sh 0 (du r k)=sh k r:=by unfold sh;erw[cZ (),zcr λj _=>uY h j]
theorem Good.du(g:Good L r)(h:k<r.c):Good L<|Gm.du r k:=by refine#[cZ ()>>g.two,λj=>uY h>>g.dt _,λj=>?_];rw[uY h,uY h,g.st];congr 1;lia
noncomputable def bj(L:dy)(d:aA)(k:Nat):dm:=(List.range k).map λi=>(it L d i).1
theorem Q6(e:it L d k=d)(j:Nat):it L d (j+k)=it L d j:=by rw[zdy,uG,e]
theorem Ed(e:it L d k=d)(j:Nat):it L d (j%k)=it L d j:=by
 let b:∀q,it L d (j%k+k*q)=it L d (j%k):=by
  ext q;induction q with
  | zero=>rfl
  | succ q a=>rw[zdV,<-zdZ,Q6 e,a]
 rw[<-b (j / k),Nat.mod_add_div]
theorem GC(b:0<k)(e:it L d k=d)(j:Nat):cy (bj L d k) j=(it L d j).1:=by
 let a:(bj L d k).c=k:=by unfold bj;simp
 unfold cy;rw[a];unfold bj;rw[zah,zao,getElem?_range<|zaI j b];show(it L d<|j%k).1=_;rw[Ed e]
theorem kQ(a:0<k)(e:it L d k=d)(j:Nat):dj (bj L d k) j=it L d j:=by unfold dj;rw[GC a e,GC a e];rfl
theorem xo(m:aH L)(h:Dt L d)(a:0<k)(e:it L d k=d):Good L<|bj L d k:=by
 refine#[?_,λj=>kQ a e>>uF m h j,λj=>by rw[kQ a e,kQ a e];rfl];let b:(bj L d k).c=k:=by unfold bj;simp
 rw[b];ext(z:k=1);subst z;exact absurd (zaC Prod.fst e)<|(h.back m).2.2.1;lia
theorem DJ(m:aH L)(h:Dt L d)(b:0<k)(e:it L d k=d)(n:mD L d k):(sh 0<|bj L d k).Nodup:=by
 let a:(bj L d k).c=k:=by unfold bj;simp
 let:sh 0 (bj L d k)=tr L d k:=by unfold sh tr;erw[a,zcr λj _=>by rw[kQ b e,zbu]]
 erw[this,sD m h n]
noncomputable def GL(r:dm):Prop:=∀k,k<r.c->Le r (du r k)
theorem Ho(b:k<r.c)(h:∀j,j<r.c->Le (du r k) (du r j)):GL<|du r k:=λi a=>by rw[cZ ()]at a;erw[yQ b a,h _<|zaI _ ()]
structure dU(L R:dy):Prop where
 good:∀r∈R,Good L r
 least:∀r∈R,GL r
 sorted:R.Pairwise (λa b=>HT.fi a b=true)
 nd:(R.flatMap<|sh 0).Nodup
 all:∀d,Dt L d->d∈R.flatMap (sh 0)
structure Lp(L R:dy)(ks:List aA):Prop where
 good:∀r∈R,Good L r
 least:∀r∈R,GL r
 nd:ks.Nodup
 pm:ks.Perm (R.flatMap<|sh 0)
 two:2*R.c<=ks.c
theorem Lp.start:Lp L [] []:=#[by simp,by simp,.nil,.nil,zaf _]
theorem Lp.dt(p:Lp L R ks)(h:d∈ks):Dt L d:=by let#[r,a,b]:=zaG.mp<|p.pm.mem_iff.mp h;let#[j,rfl]:=(bN (by let:=(p.good r a).two;lia)).mp b;exact(p.good r a).dt j
theorem Lp.len(p:Lp L R ks):ks.c<=(dR L L.c).c:=eM p.nd λx a=>(p.dt a).all
theorem Lp.on(p:Lp L R ks)(h:d∈ks):∀t,it L d t∈ks:=by
 ext t;let#[r,b,c]:=zaG.mp<|p.pm.mem_iff.mp h;let g:=p.good r b;let a:0<r.c:=by let:=g.two;lia
 let#[j,rfl]:=(bN a).mp c;let e:it L (dj r j) t=dj r (j+t):=by
  induction t with
  | zero=>rfl
  | succ t f=>show Gm.nx L (it L (dj r j) t)=_;rw[f,g.st];rfl
 erw[e,p.pm.mem_iff.mpr<|zaG.mpr #[r,b,(bN a).mpr #[_,rfl]]]
theorem Lp.new(p:Lp L R ks)(a:0<k)(e:it L d k=d)(n:d∉ks)(j:Nat):it L d j∉ks:=by ext h;refine n ?_;let:=p.on h<|k*j-j;rw[<-uG,show j+(k*j-j)=k*j from by let:=zbV j a;lia,zdb]at this;let z:=Ed e<|j*k;rw[Nat.mul_mod_left]at z;rwa[<-z]at this
theorem Lp.add(m:aH L)(p:Lp L R ks)(h:Dt L d)(f:0<k)(e:it L d k=d)(u:mD L d k)(n:d∉ks)(t:c<k)(q:∀j,j<k->Le (Gm.du (bj L d k) c) (Gm.du (bj L d k) j)) :
  Lp L (R++[Gm.du (bj L d k) c]) (ks++sh (k-1) (bj L d k)):=by
 let o:(bj L d k).c=k:=by unfold bj;simp
 let g:=xo m h f e;let i:c<(bj L d k).c:=o>>t
 refine#[λr l=>?_,λr l=>?_,?_,?_,?_];ext(z|z:zal.mp l);exact p.good r z;rw[zai.mp z];exact g.du i;ext(z|z:zal.mp l);exact p.least r z;rw[zai.mp z];exact Ho i (o>>q);rw[zeC];refine#[p.nd,((gL _ _).nodup_iff).mpr<|DJ m h f e u,λa v b s z=>?_];let#[j,rfl]:=(bN ()).mp s;rw[kQ f e]at z;exact p.new f e n j<|z▸v;rw[zcj,flatMap_singleton,DE i];exact p.pm.append<|(gL _ _).trans (gL _ _).symm;let:=g.two;let:=p.two;rw[zav,zav,zbd];unfold sh;rw[zaa,zby];lia
theorem Ep{R:dy}(h:(R.flatMap<|sh 0).Nodup)(n:∀r∈R,2<=r.c):R.Nodup:=by
 refine zbX (λ{a b} e f d z=>?_)<|(zdH.mp h).2;subst z;let c:0<a.c:=by let:=n a e;lia
 exact d (dj a 0) ((bN c).mpr #[0,rfl]) (dj a 0) ((bN c).mpr #[0,rfl]) rfl
theorem FK{a:Type}{d:a}{L:List a}{p:Array Nat}(i:Nat):(pick d L p)[i]?=(p[i]?).map λj=>L.getD j d:=by unfold pick;simp
theorem range_getD{a:Type}{d:a}(L:List a):((List.range L.c).map λi=>L.getD i d)=L:=by apply zez;ext i;rw[zao];ext(h:i<L.c);simp[h];simp[h]
theorem pO{a:Type}{d:a}{L:List a}{p:Array Nat}(h:Arr L.c p):(pick d L p).Perm L:=by
 let:p.toList.Perm<|List.range L.c:=by let:=h.perm;rw[Array.perm_iff_toList_perm]at this;simpa using this
 let q:=this.map λi=>L.getD i d;rwa[range_getD (d:=d) L]at q
theorem tN{a:Type}{d:a}{L:List a}{p:Array Nat}{n:Nat}(h:Arr n p):(pick d L p).c=n:=by unfold pick;simp[h.size]
theorem aQ.pick(g:aQ H t as R)(h:Arr R.c p)(r:H q=none):aQ (upd H q<|.lst<|(pick 0 as p).h) q (pick 0 as p)<|pick [] R p:=by
 refine#[ae,by rw[tN h,tN h],λi a l b d=>?_];rw[FK]at b d;cases e:p[i]? with
 | none=>rw[e]at b;cases b
 | some j=>
  rw[e]at b d;let m:i<p.size:=by ext(z|z:zdc i p.size);exact z;rw[zeD z]at e;cases e
  let c:j<R.c:=by let:=h.lt (by erw[<-h.size,m]);rwa[zcR,e]at this
  let f:j<as.c:=g.len>>c
  let k:as.getD j 0=as[j]:=by simp[f]
  let n:R.getD j []=R[j]:=by simp[c]
  let s:as.getD j 0=a:=zas b;let o:R.getD j []=l:=zas d;let:=g.row j as[j] R[j] (by simp[f]) (by simp[c]);rw[<-k,<-n,s,o]at this;erw[aG<|bu this r,this]
theorem Lp.lands(h:Lp L R ks)(f:Arr R.c p)(up:Up (λi=>R.getD i []) p R.c)(all:∀d,Dt L d->d∈ks):dU L<|pick [] R p:=by
 let c:=pO (d:=([]:dm)) f;let l:=((c.flatMap_right<|sh 0).nodup_iff).mpr<|(h.pm.nodup_iff).mp h.nd;let good:∀r∈pick [] R p,Good L r:=λr a=>h.good r<|c.mem_iff.mp a;refine#[good,λr a=>h.least r<|c.mem_iff.mp a,?_,l,λd t=>((c.flatMap_right<|sh 0).mem_iff).mpr<|h.pm.mem_iff.mp<|all d t];refine zbr.mpr λi j n o v=>?_;let u:=tN (d:=([]:dm)) (L:=R) f;let b:∀k (g:k<(pick [] R p).c),(pick [] R p)[k]=kf (λi=>R.getD i []) p k:=λk g=>by
  let e:=FK (d:=([]:dm)) (L:=R) (p:=p) k;rw[zac g]at e;unfold kf;rw[zcR];cases z:p[k]? with
  | none=>rw[z]at e;cases e
  | some m=>rw[z]at e;exact zas e
 let s:Le (pick [] R p)[i] (pick [] R p)[j]:=b i n>>b j o>>up.le () ()
 cases q:HT.fi (pick [] R p)[i] (pick [] R p)[j]with
 | true=>rfl
 | false=>
  let:=(zco<|Ep l λr a=>(good r a).two).mp<|oE q s;lia
noncomputable def jH(d:aA):List Key:=[.inl d.1,.inl d.2]
noncomputable def kD(a:List aA):List<|List Key×V:=a.map λd=>(jH d,V.bl true)
theorem uC(h:jH d=jH e):d=e:=by unfold jH at h;simp[List.cons.injEq,Sum.inl.injEq,and_true]at h;exact zbP h.1 h.2
theorem pf:∀(a:List aA) (d:aA),(eR (kD a)<|jH d).isSome=decide (d∈a)
 | [],d=>rfl
 | e::a,d=>by unfold kD;rw[zbx];ext(z:e=d);subst z;rw[cO rfl];simp;rw[cA<|λy=>z<|uC y];let:=pf a d;unfold kD at this;rw[this];let b:¬d=e:=λy=>z y.symm;simp[b]
theorem JN(h:d∉ks):ff (kD ks) (jH d) (.bl true)=kD (ks++[d]):=by rw[tF];unfold kD;rw[zat];rfl;let:=pf ks d;rw[zaZ h]at this;exact Option.isNone_iff_eq_none.mp (by rw[<-Option.not_isSome,this];rfl)
theorem Q5(a:List aA):(kD a).c=a.c:=by unfold kD;simp
theorem mv{r:dm}{k:Nat}(h:k<=r.c):oP r.f (some (k:Int)) none=(r.drop k).f:=by unfold oP HT.yP;rw[zaa];dsimp only;rw[zaj (),show min ((k:Int).toNat) r.c=k by lia,zca (by rw[zbz,zaa];lia),zeQ]
theorem jY{r:dm}{k:Nat}(h:k<=r.c):oP r.f none (some (k:Int))=(r.take k).f:=by unfold oP HT.yP;rw[zaa];dsimp only;rw[zaj (),show min ((k:Int).toNat) r.c=k by lia,drop_zero,zfm,zeR]
theorem BB(h:ty σ H λy c=>td σ c λx b=>∃a o,x=.ref a/\jL b a y o/\Q (.bl<|!o.isSome) b):EW ty td σ H Q:=h
theorem DS(h:tv σ H λv c=>td σ c λx d=>ty σ d λy e=>∃a b,x=.ref a/\vm e a y v b/\D.nx σ b):OT td ty tv D σ H:=h
theorem G9{a:Addr}{i k n:Nat}{r:dm}(c:σ[i]?=some (a.i))(e:σ[k]?=some (n.l))(f:aI K H a r.f)(b:n<=r.c)(q:∀p,H p=none->Q (.ref p) (upd H p<|.lst<|(r.drop n).f)) :
  LX (yZ K) (fP i) (qD<|fP k) i9 σ H Q:=#[_,c,#[_,e,#[_,rfl,#[a,_,rfl,f,λp d=>mv b>>q p d]]]]
theorem MV{a:Addr}{i k n:Nat}{r:dm}(c:σ[i]?=some (a.i))(e:σ[k]?=some (n.l))(f:aI K H a r.f)(b:n<=r.c)(q:∀p,H p=none->Q (.ref p) (upd H p<|.lst<|(r.take n).f)) :
  LX (yZ K) (fP i) i9 (qD<|fP k) σ H Q:=#[_,c,#[_,e,#[_,rfl,#[a,_,rfl,f,λp d=>jY b>>q p d]]]]
theorem aQ.snoc(g:aQ H t bs R)(h:t∉bs)(k:b≠t)(f:H b=some (.lst l.f)):aQ (upd H t<|.lst<|bs.h++[.ref b]) t (bs++[b])<|R++[l]:=by
 refine#[zat>>ae,by rw[zav,zav,g.len];rfl,λi a m c d=>?_];ext(e|e:zdc i bs.c);rw[zaU e]at c;rw[zaU<|by erw[<-g.len,e]]at d;let j:a≠t:=λz=>h (by erw[<-z,zag c]);rw[aG j];exact g.row i a m c d;rw[zaO e]at c;rw[zaO (by erw[<-g.len,e]),<-g.len]at d;let:i-bs.c=0:=by let:=(zab.mp c).1;rw[zbd]at this;lia
 rw[this]at c d;simp at c d;subst c d;erw[aG k,f]
theorem aQ.other(h:aQ H t bs R)(b:H g=some (.dT kvs)):aQ (upd H g o) t bs R:=by refine#[?_,h.len,λi a l d c=>?_];rw[aG (λz=>by let:=h.top;rw[z,b]at this;cases this)];exact h.top;let:=h.row i a l d c;erw[aG (λz=>by rw[z,b]at this;cases this),this]
theorem aQ.gu(g:aQ H t bs R)(a:H b=none):b∉t::bs:=λz=>by
 ext(z|z:zaw.mp z);rw[z,g.top]at a;cases a;let#[k,c,e]:=zaH.mp z;let d:k<R.c:=by erw[<-g.len,c]
 let:=g.row k b _ (by rw[zac c,e])<|zac d;rw[a]at this;cases this
theorem kF{b:Type}{A B:List b}{x:b}{j:Nat}(h:(A++B).Nodup)(e:B[j]?=some x):x∉A++B.take j:=by let#[k,f,d]:=zbf.mp h;ext z;ext(z|z:zal.mp z);exact d x z x (zag e) rfl;let#[g,ex]:=zab.mp e;let#[i,c,a]:=zaH.mp z;rw[getElem_take]at a;rw[zaL]at c;let:=(zco f).mp<|a.trans ex.symm;lia
theorem dE(s:Nat)(r:dm):(sh s r).c=r.c:=by unfold sh;simp
theorem xg(h:j<r.c):(sh s r)[j]?=some (dj r<|j+s):=by unfold sh;simp[h]
theorem take_snoc{a:Type}{l:List a}{j:Nat}{x:a}(h:l[j]?=some x):l.take (j+1)=l.take j++[x]:=by rw[zer,h];rfl
theorem iH{l:cx}{x:Addr}:(l++[x]).Nodup↔x∉l/\l.Nodup:=by rw[(zdg x l).nodup_iff,nodup_cons]
theorem qh:∀R:dy,(R.flatMap λr=>sh (r.c-2) r).Perm (R.flatMap<|sh 0)
 | []=>.nil
 | r::R=>by erw[zcs,zcs,(gL r _).append<|qh R]
noncomputable def fl(R:dy)(k:Nat):List aA:=(R.take k).flatMap λr=>sh (r.c-2) r
theorem Gn(h:R[k]?=some r):fl R (k+1)=fl R k++sh (r.c-2) r:=by unfold fl;rw[take_snoc h,zcj,flatMap_singleton]
theorem dU.Lg(h:dU L R)(k:Nat):(fl R k).Nodup:=by let n:=((qh R).nodup_iff).mpr h.nd;rw[<-zcA k R,zcj]at n;exact(zbf.mp n).1
theorem dU.mem(h:dU L R)(d:aA):d∈fl R R.c↔d∈dR L L.c:=by unfold fl;rw[zbg,(qh R).mem_iff];constructor;ext z;let#[r,a,b]:=zaG.mp z;let#[j,rfl]:=(bN (by let:=(h.good r a).two;lia)).mp b;exact((h.good r a).dt j).all;ext z;exact h.all d<|Dt.of z
theorem dU.Lh(h:dU L R)(m:aH L)(k:Nat):(fl R k).c<=(dR L L.c).c:=by refine eM (h.Lg k) λd a=>(h.mem d).mp ?_;unfold fl at a ⊢;let#[r,b,z]:=zaG.mp a;erw[zbg,zaG.mpr #[r,zcO b,z]]
theorem CA:∀S:dy,(∀r∈S,2<=r.c)->S.c<=(S.flatMap λr=>sh (r.c-2) r).c
 | [],_=>zaf _
 | r::S,h=>by let c:=CA S λx a=>h x<|zae _ a;let b:=h r zan;rw[zcs,zav,dE,zbi];lia
theorem dU.small(h:dU L R)(m:aH L):R.c<=(dR L L.c).c:=by let n:=h.Lh m R.c;let z:=CA R λr a=>(h.good r a).two;unfold fl at n;rw[zbg]at n;lia
theorem uW{L:dy}(m:aH L):∀{k:Nat},k<=L.c->(dR L k).c<=k*(L.c-1)
 | 0,_=>zaR _
 | k+1,h=>by
  let i:=uW m (k:=k) ();let e:=aK (L:=L) (a:=(k:Int)) () ();let n:(ez L (k:Int)).c<=L.c-1:=by
   let:=fb (n:=L.c) (zau.mpr #[λz=>by let:=m.rg _ _ e _ z;rw[zaB]at this;exact this.2.2 rfl,m.nd _ _ e]) λx b=>by ext(z|z:zaw.mp b);lia;let:=m.rg _ _ e _ z;exact#[this.1,this.2.1]
   rw[zbi]at this;lia
  rw[dR,zav,zaa,Nat.succ_mul];lia
theorem HQ(m:aH L)(h:L.c<=11):(dR L L.c).c<128:=by let b:=uW m<|zaf L.c;let a:L.c*(L.c-1)<=11*10:=zbE h ();lia
theorem Bw(a:i<r.c):du r i=cy r i::(r.drop (i+1)++r.take i):=by unfold du;rw[zcc a,fB a];rfl
theorem Qp(a:i<r.c)(b:j<r.c)(h:cy r i<cy r j):HT.fi (du r i) (du r j)=true:=Bw a>>Bw b>>HT.iT>>zaj ()>>zbc h
noncomputable def gO:Int->dm->Int->Int
 | p,[],_=>p
 | p,h::t,x=>if h=x then p else gO h t x
noncomputable def lst(l:dm):Int:=l.getD (l.c-1) 0
theorem ui(h:Int)(n:t≠[]):lst (h::t)=lst t:=by
 unfold lst;cases t with
 | nil=>exact absurd rfl n
 | cons a t=>simp
theorem kK(u:dm)(n:v≠[]):lst (u++v)=lst v:=by
 induction u with
 | nil=>rfl
 | cons h t a=>rw[zcF,ui h (by simp[n]),a]
theorem Nw(n:l≠[]):lst l∈l:=by
 unfold lst;let:l.c-1<l.c:=by let:=zce.mpr n;lia
 simp[this]
theorem FN:∀{l:dm} {p x:Int},x∈l->gO p l x=if l.idxOf x=0 then p else l.getD (l.idxOf x-1) 0
 | [],_,_,h=>by cases h
 | h::t,p,x,hx=>by
  unfold gO;rw[zdx];ext(e:h=x);rw[zam e,e];simp;rw[zaj e];rw[zdC e];rw[FN<|(zaw.mp hx).resolve_left<|λz=>e z.symm];simp[cond_false,zaj<|Nat.succ_ne_zero _];cases q:t.idxOf x with
  | zero=>simp
  | succ k=>simp
theorem oq(h:x∈l):pre l x=gO (lst l) l x:=by rw[FN h];unfold pre cy lst;rw[md<|zbW h];split<;>rfl
theorem zc:∀(l:dm) (p x:Int),gO p l x=p\/gO p l x∈l
 | [],p,x=>.inl rfl
 | h::t,p,x=>by unfold gO;ext(e:h=x);rw[zam e];exact .inl rfl;rw[zaj e];ext(z|z:zc t h x);rw[z];exact .inr zan;exact .inr<|zae _ z
theorem xw:∀{l:dm} {p x y:Int},l.Nodup->p≠y->x∈l->x≠y->gO p (l.erase y) x=if gO p l x=y then gO p l y else gO p l x
 | [],_,_,_,_,_,h,_=>by cases h
 | h::t,p,x,y,n,hp,hx,uH=>by
  let#[n1,n2]:=zau.mp n;ext(e:h=y);subst e;rw[zdE];let d:=(zaw.mp hx).resolve_left uH;let b:gO p (h::t) x=gO h t x:=by show(if h=x then p else gO h t x)=_;rw[zaj<|λz=>uH z.symm]
  let c:gO p (h::t) h=p:=by show(if h=h then p else gO h t h)=_;rw[zam rfl]
  rw[b,c];cases t with
  | nil=>cases d
  | cons k s=>
   ext(a:k=x);let b1:gO p (k::s) x=p:=by show(if k=x then p else gO k s x)=_;rw[zam a]
   let b2:gO h (k::s) x=h:=by show(if k=x then h else gO k s x)=_;rw[zam a]
   rw[b1,b2,zam rfl];let b1:gO p (k::s) x=gO k s x:=by show(if k=x then p else gO k s x)=_;rw[zaj a]
   let b2:gO h (k::s) x=gO k s x:=by show(if k=x then h else gO k s x)=_;rw[zaj a]
   rw[b1,b2,zaj];ext z;ext(y|y:zc s k x);rw[y]at z;exact n1 (by erw[<-z,zan]);rw[z]at y;exact n1<|zae _ y
  rw[erase_cons_tail<|~~~e];ext(a:h=x);let b1:∀s,gO p (h::s) x=p:=λs=>by show(if h=x then p else gO h s x)=_;rw[zam a]
  rw[b1,b1,zaj hp];let b1:∀s,gO p (h::s) x=gO h s x:=λs=>by show(if h=x then p else gO h s x)=_;rw[zaj a]
  let b2:gO p (h::t) y=gO h t y:=by show(if h=y then p else gO h t y)=_;rw[zaj e]
  erw[b1,b1,b2,xw n2 e ((zaw.mp hx).resolve_left<|λz=>a z.symm) uH]
theorem BH:∀{u:dm} {w:dm} {p x:Int},x∈u->gO p (u++w) x=gO p u x
 | [],_,_,_,h=>by cases h
 | h::t,w,p,x,hx=>by show(if h=x then p else gO h (t++w) x)=if h=x then p else gO h t x;ext(e:h=x);rw[zam e,zam e];erw[zaj e,zaj e,BH<|(zaw.mp hx).resolve_left<|λz=>e z.symm]
theorem FO:∀{u:dm} {p y:Int},y∉u->gO p (u++[y]) y=if u=[]then p else lst u
 | [],p,y,_=>by show(if y=y then p else gO y [] y)=_;rw[zam rfl,zam rfl]
 | h::t,p,y,n=>by show(if h=y then p else gO h (t++[y]) y)=_;rw[zaj λz=>n (z>>zan),zaj A?,FO<|λz=>n<|zae _ z];ext(q:t=[]);subst q;rw[zam rfl];rfl;rw[zaj q,ui h q]
theorem mH(n:l.Nodup)(d:x∈l)(g:y∈l)(f:x≠y):pre (l.erase y) x=if pre l x=y then pre l y else pre l x:=by
 rw[oq<|(mem_erase_of_ne f).mpr d,oq d,oq g];let#[u,v,rfl]:=zeM g;let#[n1,n2,n3]:=zbf.mp n;let#[m,p]:=zau.mp n2;let c:y∉u:=λz=>n3 y z y zan rfl;let i:(u++y::v).erase y=u++v:=by rw[zem _ c,zdE]
 ext(q:v=[]);subst q;rw[i,zdd];let a:x∈u:=by ext(z|z:zal.mp d);exact z;exact absurd (zai.mp z) f
 let o:u≠[]:=λz=>by rw[z]at a;cases a
 rw[kK u A?,BH a,FO c,zaj o];show gO (lst u) u x=if gO y u x=y then lst u else gO y u x;cases u with
 | nil=>cases a
 | cons h t=>
  ext(e:h=x);let b:∀q,gO q (h::t) x=q:=λq=>by show(if h=x then q else gO h t x)=_;rw[zam e]
  rw[b,b,zam rfl];let b:∀q,gO q (h::t) x=gO h t x:=λq=>by show(if h=x then q else gO h t x)=_;rw[zaj e]
  rw[b,b,zaj];ext z;ext(w|w:zc t h x);rw[w]at z;exact c (by erw[<-z,zan]);rw[z]at w;exact c<|zae _ w
 let j:lst (u++y::v)=lst v:=by rw[kK u A?,ui y q]
 let k:lst ((u++y::v).erase y)=lst v:=by rw[i,kK u q]
 erw[j,k,xw n (λz=>m<|by erw[<-z,Nw q]) d f]
theorem oo(n:l.Nodup)(a:x∈l)(h:pre l x=x):l=[x]:=by
 let b:=zbW a;unfold pre cy at h;let mx:=zaI (l.idxOf x+l.c-1) (show 0<l.c by lia);let c:l.getD ((l.idxOf x+l.c-1)%l.c) 0=l[(l.idxOf x+l.c-1)%l.c]:=by simp[mx]
 rw[c]at h;let e:=(zco n).mp<|h.trans (zdY b).symm;rw[md b]at e;let d:l.c=1:=by split at e<;>lia
 match l,d,a with
 | [z],_,a=>rw[zai.mp a]
theorem me(h:∀x:Int,0<=x->x<L.c->(ez L x).Nodup/\∀y∈ez L x,0<=y/\y<L.c/\y≠x/\x∈ez L y):aH L:=by
 let b:∀(i:Nat) (l:dm),L[i]?=some l->ez L (i:Int)=l/\(i:Int)<L.c:=λi l e=>by let o:=(zab.mp e).1;let:=aK (L:=L) (a:=(i:Int)) () ();rw[zaB,e]at this;exact#[(zas this).symm,()]
 refine#[λi l e=>?_,λi l e x f=>?_,λi l e x f j g m k=>?_];let#[c,d]:=b i l e;rw[<-c];exact(h i () d).1;let#[c,d]:=b i l e;rw[<-c]at f;let:=(h i () d).2 x f;exact#[this.1,this.2.1,this.2.2.1];let#[c,d]:=b i l e;let#[n,p]:=b j m k;rw[<-c]at f;let:=((h i () d).2 x f).2.2.2;rwa[g,n]at this
noncomputable def rem(L:dy)(a b:Int):dy:=(L.set a.toNat<|(ez L a).erase b).set b.toNat<|(ez L b).erase a
theorem gN:(rem L a b).c=L.c:=by unfold rem;simp
theorem rK(m:aH L)(h:Dt L (a,b))(j:0<=x):ez (rem L a b) x=if x=b then(ez L b).erase a else if x=a then(ez L a).erase b else ez L x:=by let#[g,b1,b2,f]:=h.back m;let i:=h.lo;let d:=h.hi;dsimp only at i d g b1 b2 f;show(rem L a b).getD x.toNat []=_;unfold rem;rw[zah,zda];ext(e:x=b);subst e;rw[zam rfl,zam rfl,zam<|by rw[zcq];lia];rfl;rw[zaj (),zaj e,zda];ext(c:x=a);subst c;rw[zam rfl,zam rfl,zam ()];rfl;rw[zaj (),zaj c,<-zah];rfl
theorem rL(m:aH L)(h:Dt L (a,b)){x y:Int}(g:0<=x)(i:x<L.c):y∈ez (rem L a b) x↔y∈ez L x/\¬(x=a/\y=b)/\¬(x=b/\y=a):=by let#[n,b1,b2,l]:=h.back m;let o:=h.lo;let k:=h.hi;dsimp only at o k n b1 b2 l;rw[rK m h g];ext(e:x=b);subst e;rw[zam rfl,(m.nd _ _<|aK g i).mem_erase_iff];constructor;ext⟨c,d⟩;exact#[d,λz=>b2 z.1,λz=>c z.2];ext⟨c,d,j⟩;exact#[λz=>j #[rfl,z],c];rw[zaj e];ext(f:x=a);subst f;rw[zam rfl,(m.nd _ _<|aK g i).mem_erase_iff];constructor;ext⟨c,d⟩;exact#[d,λz=>c z.2,λz=>e z.1];ext⟨c,d,j⟩;exact#[λz=>d #[rfl,z],c];erw[zaj f,#[λz=>#[z,λy=>f y.1,λy=>e y.1],λz=>z.1]]
theorem c5(m:aH L)(h:Dt L (a,b)):Dt (rem L a b) d↔Dt L d/\d≠(a,b)/\d≠(b,a):=by constructor;ext q;let c:=q.hi;rw[gN]at c;let:=(rL m h q.lo c).mp q.mem;exact#[#[q.lo,c,this.1],λz=>this.2.1 #[zaC Prod.fst z,zaC Prod.snd z],λz=>this.2.2 #[zaC Prod.fst z,zaC Prod.snd z]];ext⟨q,f,e⟩;refine#[q.lo,gN>>q.hi,(rL m h q.lo q.hi).mpr #[q.mem,λz=>f<|zbP z.1 z.2,λz=>e<|zbP z.1 z.2]]
theorem yT(m:aH L)(h:Dt L (a,b)):aH<|rem L a b:=by refine me λx c f=>?_;rw[gN]at f;let n:=m.nd _ _<|aK c f;refine#[?_,λy k=>?_];rw[rK m h c];split;rename_i e;rw[<-e];exact n.erase _;split;rename_i e;rw[<-e];exact n.erase _;exact n;let q:=(rL m h c f).mp k;let#[g,i,j,l]:=Dt.back (d:=(x,y)) #[c,f,q.1] m;rw[gN];refine#[g,i,j,(rL m h g i).mpr #[l,λz=>q.2.2 #[z.2,z.1],λz=>q.2.1 #[z.2,z.1]]]
theorem pF(m:aH L)(h:Dt L (a,b))(r:Dt (rem L a b) d) :
  nx (rem L a b) d=if nx L d=(b,a)then nx L (a,b)else if nx L d=(a,b)then nx L (b,a)else nx L d:=by
 let#[q,n,p]:=(c5 m h).mp r;let#[o,b1,b2,j]:=h.back m;let#[c,i,l,g]:=q.back m;let#[x,y]:=d;dsimp only at o b1 b2 j c i l g;let k:=h.mem;dsimp only at k;unfold nx;rw[rK m h c];ext(e:y=b);subst e;rw[zam rfl,mH (m.nd _ _<|aK c i) g j<|λz=>n<|by rw[z]];ext(z:pre (ez L y) x=a);rw[zam z,z,zam rfl];rw[zaj z,zaj<|λw=>z<|zaC Prod.snd w,zaj<|λw=>b2<|zaC Prod.fst w];rw[zaj e];ext(f:y=a);subst f;rw[zam rfl,mH (m.nd _ _<|aK c i) g k λz=>p (by rw[z]),zaj<|λw=>e<|zaC Prod.fst w];ext(z:pre (ez L y) x=b);rw[zam z,z,zam rfl];rw[zaj z,zaj<|λw=>z<|zaC Prod.snd w];rw[zaj f,zaj<|λw=>e<|zaC Prod.fst w,zaj<|λw=>f<|zaC Prod.fst w]
inductive Wk(f:aA->aA):aA->List aA->aA->Prop where
 | nil (x:aA):Wk f x [] x
 | cons {x y:aA} {l:List aA}:Wk f (f x) l y->Wk f x (x::l) y
theorem Wk.append(h:Wk f x l y)(k:Wk f y m z):Wk f x (l++m) z:=by
 induction h with
 | nil _=>exact k
 | cons _ a=>exact .cons<|a k
theorem Wk.split:∀{l:List aA} {x:aA},Wk f x (l++m) z->∃y,Wk f x l y/\Wk f y m z
 | [],x,h=>#[x,.nil x,h]
 | a::l,x,h=>by
  cases h with
  | cons h=>
   let#[y,c,b]:=Wk.split h;exact#[y,.cons c,b]
theorem Wk.nil_eq(h:Wk f x [] y):x=y:=by cases h;rfl
theorem Wk.hd(h:Wk f x (d::l) y):d=x:=by cases h;rfl
theorem Wk.tl(h:Wk f x (d::l) y):Wk f (f x) l y:=by cases h;assumption
theorem Wk.on(h:Wk f x l y):∀d∈l,f d∈l\/f d=y:=by
 induction h with
 | nil _=>intro d a;cases a
 | @cons x y l h b=>
  ext d a;ext(e|e:zaw.mp a);subst e;cases h with
  | nil _=>exact .inr rfl
  | cons h=>exact .inl<|zae _ zan
  ext(q|q:b d e);exact .inl<|zae _ q;exact .inr q
theorem Wk.new(h:Wk f x l y)(n:l≠[])(i:y∉l)(b:∀d∈l,f d=y->g d=w)(c:∀d∈l,f d≠y->g d=f d):Wk g x l w:=by
 induction h with
 | nil _=>exact absurd rfl n
 | @cons x y l h j=>
  cases h with
  | nil _=>
   erw[<-(b x zan rfl),.cons<|.nil _]
  | @cons _ _ k h=>
   let e:=c x zan λq=>i (by erw[<-q,zae _ zan]);refine .cons ?_;erw[e,j A? (λq=>i<|zae _ q) (λd a=>b d<|zae _ a) λd a=>c d<|zae _ a]
theorem Wk.congr(h:Wk f x l y)(e:∀d∈l,g d=f d):Wk g x l y:=by
 induction h with
 | nil _=>exact .nil _
 | @cons x y l h a=>
  refine .cons ?_;erw[e x zan,a λd b=>e d<|zae _ b]
noncomputable def yi(f:aA->aA)(c:List aA):Prop:=∃x l,c=x::l/\Wk f x c x
theorem yi.ne(h:yi f c):c≠[]:=by let#[x,l,rfl,_]:=h;simp
theorem yi.on(h:yi f c)(a:d∈c):f d∈c:=by let#[x,l,rfl,k]:=h;ext(q|q:k.on d a);exact q;erw[q,zan]
theorem yi.turn(h:yi f c)(b:d∈c):∃v,(d::v).Perm c/\Wk f (f d) v d:=by let#[x,l,e,k]:=h;let#[u,v,rfl]:=zeM b;let#[y,g,a]:=k.split;let:=a.hd;subst this;exact#[v++u,by erw[<-zcF,perm_append_comm],a.tl.append g]
structure Dec(L:dy)(R:List<|List aA):Prop where
 jM:∀c∈R,yi (nx L) c
 nd:R.flatten.Nodup
 mem:∀d,d∈R.flatten↔Dt L d
theorem tO{a:Type}{x:a}{l:List a}(h:x∈l):∃r,l.Perm<|x::r:=by let#[u,v,rfl]:=zeM h;exact#[u++v,perm_middle]
theorem Dec.perm(h:Dec L R)(p:R.Perm S):Dec L S:=
 #[λc a=>h.jM c<|p.mem_iff.mpr a,(p.flatten.nodup_iff).mp h.nd,λd=>by erw[<-p.flatten.mem_iff,h.mem d]]
theorem Dec.swap(h:Dec L<|c::R)(p:e.Perm c)(k:yi (nx L) e):Dec L<|e::R:=by
 let q:(e::R).flatten.Perm (c::R).flatten:=zcb>>zcb>>p.append_right _
 refine#[λs a=>?_,q.nodup_iff.mpr h.nd,λd=>q.mem_iff>>h.mem d];ext(z|z:zaw.mp a);rw[z];exact k;exact h.jM s<|zae _ z
theorem Dec.front(h:Dec L R)(e:Dt L d):∃v S,Dec L ((d::v)::S)/\R.c=S.c+1/\Wk (nx L) (nx L d) v d/\(∀c∈S,c∈R):=by let#[c,a,b]:=zbb.mp<|(h.mem d).mpr e;let#[S,p]:=tO a;let#[v,pv,k]:=(h.jM c a).turn b;exact#[v,S,(h.perm p).swap pv #[d,v,rfl,.cons k],p.length_eq,k,λs f=>p.mem_iff.mpr<|zae _ f]
theorem lQ(m:aH L)(h:Dt L (a,b)):(dR L L.c).Perm ((a,b)::(b,a)::dR (rem L a b) (rem L a b).c)/\(dR L L.c).c=(dR (rem L a b) (rem L a b).c).c+2:=by
 let#[n,b1,b2,j]:=h.back m;let i:Dt L (b,a):=#[n,b1,j];let n2:((a,b)::(b,a)::dR (rem L a b) (rem L a b).c).Nodup:=by refine zau.mpr #[λz=>?_,zau.mpr #[λz=>?_,cv (yT m h)<|zaf _]];ext(z|z:zaw.mp z);exact b2 (zaC Prod.fst z).symm;exact((c5 m h).mp<|Dt.of z).2.1 rfl;exact((c5 m h).mp<|Dt.of z).2.2 rfl
 let e:∀x,x∈dR L L.c↔x∈(a,b)::(b,a)::dR (rem L a b) (rem L a b).c:=λx=>by constructor;ext z;ext(f:x=(a,b));rw[f];exact zan;ext(g:x=(b,a));rw[g];exact zae _ zan;exact zae _<|zae _ ((c5 m h).mpr #[Dt.of z,f,g]).all;ext z;ext(z|z:zaw.mp z);rw[z];exact h.all;ext(z|z:zaw.mp z);rw[z];exact i.all;exact((c5 m h).mp<|Dt.of z).1.all
 let n1:=cv m<|zaf L.c;let l:=len_eq n1 n2 e;refine#[?_,by rw[l];rfl];exact(List.perm_iff_count.mpr λx=>by
  let c:∀{l:List aA},l.Nodup->l.count x=if x∈l then 1 else 0:=λ{l} k=>by ext(d:x∈l);rw[zam d];let o:=List.nodup_iff_count.mp k x;let p:=List.count_pos_iff.mpr d;lia;rw[zaj d,List.count_eq_zero.mpr d]
  rw[c n1,c n2];ext(d:x∈dR L L.c);rw[zam d,zam<|(e x).mp d];rw[zaj d,zaj<|λz=>d<|(e x).mpr z])
theorem yV(m:aH L)(h:Dt L (a,b))(D:Dec L R) :
  (∃A B S,Dec (rem L a b) ((if A=[]then []else [A])++(if B=[]then []else [B])++S)/\R.c=S.c+1/\Wk (nx L) (nx L (a,b)) A (b,a)/\Wk (nx L) (nx L (b,a)) B (a,b))\/
  (∃A B S,Dec (rem L a b) ((A++B)::S)/\R.c=S.c+2/\A≠[]/\B≠[]/\Wk (nx<|rem L a b) (nx L (a,b)) A (nx L (b,a))/\Wk (nx<|rem L a b) (nx L (b,a)) B (nx L (a,b))/\(∀d∈A++B,Dt (rem L a b) d)):=by
 let#[b0,b1,b2,b3]:=h.back m;let ne:(a,b)≠(b,a):=λz=>b2 (zaC Prod.fst z).symm;let spec:∀d,Dt L d->d≠(a,b)->d≠(b,a)->nx (rem L a b) d=if nx L d=(b,a)then nx L (a,b)else if nx L d=(a,b)then nx L (b,a)else nx L d:=λd h0 h1 h2=>pF m h<|(c5 m h).mpr #[h0,h1,h2];let#[v,S,i,UJ,kv,_]:=D.front h;let Dd:=i.nd;rw[zcb,zcF,nodup_cons,mem_append]at Dd;let#[x,W]:=Dd;let#[Y,X,ad]:=zbf.mp W;let I:∀d∈v,Dt L d:=λd f=>(i.mem d).mp (by erw[zcb,zaT _<|zae _ f]);ext(q:(b,a)∈v);left;let#[A,B,rfl]:=zeM q;let#[y,kA,F]:=kv.split;let:=F.hd;subst this;let F:=F.tl;let#[nA,nB,nX]:=zbf.mp Y;let#[YM,an]:=zau.mp nB;let o:(b,a)∉A:=λz=>nX _ z _ zan rfl;let l:(a,b)∉A:=λz=>x<|.inl<|zaT _ z;let C:(a,b)∉B:=λz=>x<|.inl<|zaP _<|zae _ z;refine#[A,B,S,#[λc g=>?_,?_,λd=>?_],UJ,kA,F];ext(g|g:zal.mp g);ext(g|g:zal.mp g);ext(z:A=[]);rw[zam z]at g;cases g;rw[zaj z]at g;rw[zai.mp g];let j:Wk (nx<|rem L a b) (nx L (a,b)) A<|nx L (a,b):=kA.new z o (λd f e=>by rw[spec d (I d<|zaT _ f) (λy=>l<|y▸f)<|λy=>o<|y▸f,zam e]) λd f e=>by rw[spec d (I d<|zaT _ f) (λy=>l<|y▸f)<|λy=>o<|y▸f,zaj e,zaj];ext y;ext(w|w:kA.on d f);exact l<|y▸w;exact e w
 cases A with
 | nil=>exact absurd rfl z
 | cons p A=>have:=j.hd;subst this;exact#[_,_,rfl,j]
 ext(z:B=[]);rw[zam z]at g;cases g;rw[zaj z]at g;rw[zai.mp g];let dB:∀d∈B,Dt L d:=λd f=>I d<|zaP _<|zae _ f;let j:Wk (nx<|rem L a b) (nx L (b,a)) B<|nx L (b,a):=F.new z C (λd f e=>by rw[spec d (dB d f) (λy=>C<|y▸f)<|λy=>YM<|y▸f,e,zaj ne,zam rfl]) λd f e=>by rw[spec d (dB d f) (λy=>C<|y▸f)<|λy=>YM<|y▸f,zaj,zaj e];ext y;ext(w|w:F.on d f);exact YM<|y▸w;exact e w
 cases B with
 | nil=>exact absurd rfl z
 | cons p B=>have:=j.hd;subst this;exact#[_,_,rfl,j]
 let cy:=i.jM c<|zae _ g;let Z:∀d∈c,d∈S.flatten:=λd f=>zbb.mpr #[c,g,f];let M:(a,b)∉c:=λz=>x<|.inr<|Z _ z;let O:(b,a)∉c:=λz=>ad _ q _ (Z _ z) rfl;let#[p,r,rfl,k]:=id cy;refine#[p,r,rfl,k.congr λd f=>?_];let dd:=(i.mem d).mp (by erw[zcb,zaP _<|Z d f]);let N:=cy.on f;let o1:nx L d≠(b,a):=λy=>O (by erw[<-y,N]);let o2:nx L d≠(a,b):=λy=>M (by erw[<-y,N]);rw[spec d dd (λy=>M<|y▸f)<|λy=>O<|y▸f,zaj o1,zaj o2];let K:∀A:List aA,(if A=[]then([]:List<|List aA)else [A]).flatten=A:=λA=>by ext(z:A=[]);rw[zam z,z];rfl;rw[zaj z];simp
 rw[zct,zct,K,K,zcu];let:(A++(B++S.flatten)).Perm<|A++(B++S.flatten):=zfu _;let e:((A++(b,a)::B)++S.flatten).Perm<|(b,a)::(A++(B++S.flatten)):=zcu>>zcF>>perm_middle
 exact(zau.mp<|e.nodup_iff.mp W).2;let K:∀A:List aA,(if A=[]then([]:List<|List aA)else [A]).flatten=A:=λA=>by ext(z:A=[]);rw[zam z,z];rfl;rw[zaj z];simp
 rw[zct,zct,K,K,zcu,c5 m h,<-i.mem];let e:((A++(b,a)::B)++S.flatten).Perm<|(b,a)::(A++(B++S.flatten)):=zcu>>zcF>>perm_middle
 rw[zcb,zcF];constructor;ext z;exact#[zae _<|e.mem_iff.mpr<|zae _ z,λy=>(λz=>x<|zal.mp<|e.mem_iff.mpr<|zae _ z)<|y▸z,λy=>(zau.mp<|e.nodup_iff.mp W).1<|y▸z];ext⟨z,z1,z2⟩;ext(z|z:zaw.mp z);exact absurd z z1;ext(z|z:zaw.mp<|e.mem_iff.mp z);exact absurd z z2;exact z;right;let q2:(b,a)∈S.flatten:=by let:=(i.mem (b,a)).mpr #[b0,b1,b3];rw[zcb,zcF]at this;ext(z|z:zaw.mp this);exact absurd z.symm ne;ext(z|z:zal.mp z);exact absurd z q;exact z
 let#[c,g,ag]:=zbb.mp q2;let#[T,pT]:=tO g;let#[w,pw,Q]:=(i.jM c<|zae _ g).turn ag;let U:S.flatten.Perm<|((b,a)::w)++T.flatten:=by refine pT.flatten.trans ?_;erw[zcb,pw.symm.append_right _]
 let nS:=U.nodup_iff.mp X;rw[zcF,nodup_cons,mem_append]at nS;let#[al,ap]:=nS;let n:(a,b)∉w:=λz=>(λz=>x<|.inr z)<|U.mem_iff.mpr<|zaT _<|zae _ z;let t:(b,a)∉w:=λz=>al<|.inl z;let E:(a,b)∉v:=λz=>x<|.inl z;let P:∀d∈w,Dt L d:=λd f=>(i.mem d).mp (by erw[zcb,zaP _<|U.mem_iff.mpr<|zaT _<|zae _ f]);let v0:v≠[]:=λz=>by rw[z]at kv;let:=kv.nil_eq;exact b2<|zaC Prod.fst this
 let w0:w≠[]:=λz=>by rw[z]at Q;let:=Q.nil_eq;exact b2 (zaC Prod.fst this).symm
 let k1:Wk (nx<|rem L a b) (nx L (a,b)) v<|nx L (b,a):=kv.new v0 E (λd f e=>by rw[spec d (I d f) (λy=>E<|y▸f)<|λy=>q<|y▸f,e,zaj ne,zam rfl]) λd f e=>by rw[spec d (I d f) (λy=>E<|y▸f)<|λy=>q<|y▸f,zaj,zaj e];ext y;ext(u|u:kv.on d f);exact q<|y▸u;exact e u
 let j:Wk (nx<|rem L a b) (nx L (b,a)) w<|nx L (a,b):=Q.new w0 t (λd f e=>by rw[spec d (P d f) (λy=>n<|y▸f)<|λy=>t<|y▸f,zam e]) λd f e=>by rw[spec d (P d f) (λy=>n<|y▸f)<|λy=>t<|y▸f,zaj e,zaj];ext y;ext(u|u:Q.on d f);exact n<|y▸u;exact e u
 let pe:((a,b)::(v++S.flatten)).Perm<|(a,b)::(b,a)::((v++w)++T.flatten):=by refine List.Perm.cons _ ?_;erw[zcu,(U.append_left v).trans<|zcF>>perm_middle]
 let#[G,am]:=zau.mp<|pe.nodup_iff.mp<|zau.mpr #[λz=>x<|zal.mp z,W];let#[H,ac]:=zau.mp am;let mm:∀d,d∈(v++w)++T.flatten↔Dt (rem L a b) d:=λd=>by rw[c5 m h,<-i.mem,zcb,zcF,pe.mem_iff];constructor;ext z;exact#[zae _<|zae _ z,λy=>G<|zae _<|y▸z,λy=>H<|y▸z];ext⟨z,z1,z2⟩;ext(z|z:zaw.mp z);exact absurd z z1;ext(z|z:zaw.mp z);exact absurd z z2;exact z
 refine#[v,w,T,#[λs hs=>?_,zcb>>ac,λd=>zcb>>mm d],by rw[UJ,pT.length_eq];rfl,v0,w0,k1,j,λd f=>(mm d).mp<|zaT _ f];ext(z|z:zaw.mp hs);rw[z];let k:=k1.append j;cases v with
 | nil=>exact absurd rfl v0
 | cons p v=>have:=k1.hd;subst this;exact#[_,_,rfl,k]
 let cy:=i.jM s<|zae _<|pT.mem_iff.mpr<|zae _ z;let Q9:∀d∈s,d∈T.flatten:=λd f=>zbb.mpr #[s,z,f];let M:(a,b)∉s:=λy=>G<|zae _<|zaP _<|Q9 _ y;let O:(b,a)∉s:=λy=>H<|zaP _<|Q9 _ y;let#[p,r,rfl,k]:=id cy;refine#[p,r,rfl,k.congr λd f=>?_];let N:=cy.on f;rw[spec d (((c5 m h).mp<|(mm d).mp<|zaP _<|Q9 d f).1) (λy=>M<|y▸f)<|λy=>O<|y▸f,zaj λy=>O (by erw[<-y,N]),zaj<|λy=>M<|by erw[<-y,N]]
noncomputable def iso(L:dy):Nat:=L.countP (·.isEmpty)
noncomputable def mC(L:dy)(S:dm):Prop:=∀x:Int,0<=x->x<L.c->∃s∈S,Reach L s x
theorem Reach.one(h:Reach L s d.1)(q:Dt L d):Reach L s d.2:=by exact .step (zcf q.lo>>h) (aK q.lo q.hi) q.mem
theorem Reach.trans(h:Reach L s x)(k:Reach L x y):Reach L s y:=by
 induction k with
 | here=>exact h
 | step _ e b a=>exact .step a e b
theorem Reach.rh{i:Nat}{x:Int}(e:L[i]?=some l)(c:x∈l):Dt L ((i:Int),x):=by let b:=(zab.mp e).1;let:=aK (L:=L) (a:=(i:Int)) () ();rw[zaB,e]at this;exact#[by simp,~~~b,by erw[<-zas this,c]]
theorem Reach.off(m:aH L)(h:Dt L (a,b))(r:Reach L s x):Reach (rem L a b) s x\/Reach (rem L a b) a x\/Reach (rem L a b) b x:=by
 induction r with
 | here=>exact .inl .here
 | step r e j g=>
  rename_i i l y;ext(d:((i:Int),y)=(a,b));let:y=b:=zaC Prod.snd d;rw[this];exact .inr<|.inr .here;ext(f:((i:Int),y)=(b,a));let:y=a:=zaC Prod.snd f;rw[this];exact .inr<|.inl .here;let c:=(c5 m h).mpr #[Reach.rh e j,d,f];ext(z|z|z:g);exact .inl<|Reach.one z c;exact .inr<|.inl<|Reach.one z c;exact .inr<|.inr<|Reach.one z c
theorem Reach.near(m:aH L)(h:Dt L (a,b))(r:Reach L s x):Reach (rem L a b) s x\/Reach (rem L a b) s a\/Reach (rem L a b) s b:=by
 induction r with
 | here=>exact .inl .here
 | step r e g f=>
  rename_i i l y;ext(z|z:f);ext(c:((i:Int),y)=(a,b));let:(i:Int)=a:=zaC Prod.fst c;rw[this]at z;exact .inr<|.inl z;ext(d:((i:Int),y)=(b,a));let:(i:Int)=b:=zaC Prod.fst d;rw[this]at z;exact .inr<|.inr z;exact .inl<|Reach.one z<|(c5 m h).mpr #[Reach.rh e g,c,d];exact .inr z
theorem Wk.reach(h:Wk (nx L) x l y)(q:∀d∈l,Dt L d):Reach L x.1 y.1:=by
 induction h with
 | nil _=>exact .here
 | @cons x y l _ a=>
  let d:=q x zan;exact(Reach.one .here d).trans<|a λd b=>q d<|zae _ b
theorem mC.more(m:aH L)(h:Dt L (a,b))(s:mC L S):∃t,mC (rem L a b)<|t::S:=by
 let#[n,b1,b2,l]:=h.back m;let#[d,j,k]:=s a h.lo h.hi;let pick:Reach (rem L a b) d a\/Reach (rem L a b) d b:=by ext(z|z|z:k.near m h);exact .inl z;exact .inl z;exact .inr z
 ext(p|p:pick);refine#[b,λx e c=>?_];rw[gN]at c;let#[f,g,i]:=s x e c;ext(z|z|z:i.off m h);exact#[f,zae _ g,z];exact#[d,zae _ j,p.trans z];exact#[b,zan,z];refine#[a,λx e c=>?_];rw[gN]at c;let#[f,g,i]:=s x e c;ext(z|z|z:i.off m h);exact#[f,zae _ g,z];exact#[a,zan,z];exact#[d,zae _ j,p.trans z]
theorem mC.TM(m:aH L)(h:Dt L (a,b))(l:Reach (rem L a b) a b)(i:Reach (rem L a b) b a)(s:mC L S):mC (rem L a b) S:=by
 let#[c,d,f]:=s a h.lo h.hi;let pick:Reach (rem L a b) c a:=by ext(z|z|z:f.near m h);exact z;exact z;exact z.trans i
 ext x j e;rw[gN]at e;let#[g,k,q]:=s x j e;ext(z|z|z:q.off m h);exact#[g,k,z];exact#[c,d,pick.trans z];exact#[c,d,(pick.trans l).trans z]
theorem yU(m:aH L)(h:Dt L (a,b)):iso (rem L a b)=iso L+(if(ez L b).erase a=[]then 1 else 0)+(if(ez L a).erase b=[]then 1 else 0):=by
 let#[i,b1,b2,c]:=h.back m;let g:=h.lo;let e:=h.hi;let d:=h.mem;dsimp only at g e i b1 b2 c d;let f:a.toNat<L.c:=();let lb:b.toNat<L.c:=();let n:L[a.toNat]=ez L a:=by let:=aK g e;rw[zac f]at this;exact zas this
 let s:L[b.toNat]=ez L b:=by let:=aK i b1;rw[zac lb]at this;exact zas this
 let o:(ez L a).isEmpty=false:=by cases q:ez L a with|nil=>rw[q]at d;cases d|cons _ _=>rfl
 let r:(ez L b).isEmpty=false:=by cases q:ez L b with|nil=>rw[q]at c;cases c|cons _ _=>rfl
 let j:∀l:dm,(if l.isEmpty=true then 1 else 0)=(if l=[]then 1 else 0):=λl=>by cases l<;>simp
 unfold iso rem;let p:¬a.toNat=b.toNat:=();let k:(L.set a.toNat<|(ez L a).erase b)[b.toNat]'(zcq>>lb)=ez L b:=by rw[getElem_set,zaj p,s]
 rw[countP_set (zcq>>lb),countP_set f,k,n,o,r,j,j];simp[zbD,zcP,zfm];lia
theorem iA(m:aH L)(h:Dt L (a,b)):(ez L b).erase a=[]↔nx L (a,b)=(b,a):=by
 let#[d,b1,b2,c]:=h.back m;dsimp only at d b1 b2 c;let n:=m.nd _ _<|aK d b1;constructor;ext z;let:ez L b=[a]:=by let#[u,v,e]:=zeM c;rw[e]at z n ⊢;rw[zem _ λy=>(zbf.mp n).2.2 a y a zan rfl,zdE]at z;let#[f,g]:=List.append_eq_nil_iff.mp z;rw[f,g];rfl
 unfold nx;rw[this];refine zbP rfl ?_;unfold pre cy;simp[Nat.mod_one];ext z;rw[oo n c<|zaC Prod.snd z];simp
theorem Wk.all{f:aA->aA}{x y:aA}{P:aA->Prop}(h:Wk f x l y)(b:P x)(s:∀d∈l,P d->P (f d)):∀d∈l,P d:=by
 induction h with
 | nil _=>intro d a;cases a
 | @cons x y l _ c=>
  ext d a;ext(e|e:zaw.mp a);rw[e];exact b;exact c (s x zan b) (λd a=>s d<|zae _ a) d e
theorem yi.conn{f:aA->aA}{x y:aA}{P:aA->Prop}(h:yi f c)(i:x∈c)(e:y∈c)(a:P x)(s:∀d∈c,P d->P (f d)):P y:=by let#[v,p,k]:=h.turn i;let g:Wk f x (x::v) x:=.cons k;exact g.all a (λd b=>s d<|p.mem_iff.mp b) y<|p.mem_iff.mpr e
theorem jW{R:List<|List aA}(n:R.flatten.Nodup){c e:List aA}{d:aA}(h:c∈R)(k:e∈R)(f:d∈c)(g:d∈e):c=e:=by let#[i,a,rfl]:=zaH.mp h;let#[j,b,rfl]:=zaH.mp k;let q:=zbr.mp<|(zch.mp n).2;ext(z|z|z:zcL i j);exact absurd rfl<|q i j a b z d f d g;subst z;rfl;exact absurd rfl<|q j i b a z d g d f
noncomputable def Rv(c:List aA):aA:=c.headD (0,0)
noncomputable def rep(R:List<|List aA)(d:aA):aA:=((R.find? λc=>decide<|d∈c).map Rv).getD (0,0)
theorem DK(h:d∈R.flatten):∃c∈R,d∈c/\rep R d=Rv c:=by
 let#[c,b,a]:=zbb.mp h;unfold rep;cases q:R.find? λc=>decide (d∈c)with
 | none=>have:=List.find?_eq_none.mp q c b;simp[a]at this
 | some e=>
  exact#[e,mem_of_find?_eq_some q,~~~(find?_some q),rfl]
theorem uK(h:c≠[]):Rv c∈c:=by cases c with|nil=>exact absurd rfl h|cons a l=>exact zan
theorem Dec.le(h:Dec L R)(k:Dec L S):R.c<=S.c:=by
 let i:∀c∈R,Rv c∈S.flatten:=λc a=>(k.mem _).mpr<|(h.mem _).mp<|zbb.mpr #[c,a,uK (h.jM c a).ne];let n:(R.map λc=>rep S<|Rv c).Nodup:=by refine zbZ _ (λx y r=>r)<|zbX (λ{c e} a m j z=>?_)<|(zch.mp h.nd).2;let#[f,b,o,g]:=DK<|i c a;let#[t,l,v,s]:=DK<|i e m;rw[g,s]at z;let p:=jW k.nd b l (uK (k.jM f b).ne) (z>>uK (k.jM t l).ne);subst p;let:=(k.jM f b).conn o v (uK (h.jM c a).ne) λd _ u=>(h.jM c a).on u;exact j _ this _ (uK (h.jM e m).ne) rfl
 let:=eM n λx q=>by let#[c,a,rfl]:=zaq.mp q;let#[f,b,o,g]:=DK<|i c a;erw[g,zaq.mpr #[f,b,rfl]]
 simpa using this
theorem Dec.count(h:Dec L R)(k:Dec L S):R.c=S.c:=zeZ (h.le k)<|k.le h
theorem OI{L:dy}{r:dm}(g:Good L r):∀(n s:Nat),Wk (nx L) (dj r s) ((List.range n).map λj=>dj r<|j+s) (dj r<|s+n)
 | 0,s=>.nil _
 | n+1,s=>by
  let a:(List.range<|n+1).map (λj=>dj r<|j+s)=dj r s::(List.range n).map (λj=>dj r<|j+(s+1)):=by rw[zdL,zbx,zfl,zcl];congr 1;refine zcr λj _=>?_;show dj r (j+1+s)=_;congr 1;lia
  rw[a];refine .cons ?_;erw[g.st,show s+(n+1)=s+1+n by lia,OI g n<|s+1]
theorem Good.jM(g:Good L r):yi (nx L)<|sh 0 r:=by
 let k:=OI g r.c 0;let e:dj r (0+r.c)=dj r 0:=bX (by rw[zcl,zdz,zfn]);rw[e]at k;let b:=g.two;let a:Wk (nx L) (dj r 0) (sh 0 r)<|dj r 0:=k;cases q:sh 0 r with
 | nil=>have:=dE 0 r;rw[q]at this;simp at this;lia
 | cons x l=>
  rw[q]at a;let:=a.hd;subst this;exact#[_,_,rfl,a]
theorem l6{L:dy}:∀{k:Nat} {d:aA},k<=L.c->(d∈iq L k↔0<=d.1/\d.1<k/\d.1<d.2/\d.2<L.c/\d.2∈ez L d.1)
 | 0,d,_=>by simp[iq,zaV,false_iff];ext h;lia
 | k+1,d,hk=>by rw[iq,mem_append,l6 (),mem_map];let g:L.getD k []=ez L (k:Int):=rfl;rw[g];constructor;rintro (⟨c,f,a⟩|⟨x,hx,rfl⟩);exact#[c,(),a];let:=lY.mp hx;exact#[by simp,by simp;lia,this.1,by let:=this.2.1;lia,this.2.2];ext⟨c,f,a,i,b⟩;ext(e:d.1=k);right;rw[e]at b a;exact#[d.2,lY.mpr #[a,(),b],zbP e.symm rfl];left;exact#[c,(),a,i,b]
theorem uc{L:dy}:∀{k:Nat},k<=L.c->(iq L k).Nodup
 | 0,_=>.nil
 | k+1,hk=>by rw[iq,zeC];refine#[uc (),?_,λa d b c z=>?_];exact zbZ _ (λx y e z=>by let:=zaC Prod.snd z;dsimp only at this;lia)<|lD<|L.c-(k+1);let:=((l6 ()).mp d).2.1;let#[x,_,rfl]:=zaq.mp c;rw[z]at this;simp at this
theorem CC:∀(l:List aA) (p:aA->Bool),l.c=(l.filter p).c+(l.filter λd=>!p d).c
 | [],_=>rfl
 | x::l,p=>by
  let:=CC l p;cases q:p x with
  | true=>rw[zcW q,zcX (by simp[q]),zbi,zbi];lia
  | false=>rw[zcX (by simp[q]),zcW (by simp[q]),zbi,zbi];lia
theorem dP(m:aH L):(dR L L.c).c=2*(iq L L.c).c:=by
 let n:=cv m<|zaf L.c;let i:=uc<|zaf L.c;let s:=CC (dR L L.c) (λd:aA=>decide<|d.1<d.2);let p:((dR L L.c).filter λd=>decide<|d.1<d.2).c=(iq L L.c).c:=by refine len_eq (n.filter _) i λd=>?_;rw[zft,l6<|zaf _];constructor;ext⟨a,b⟩;let q:=Dt.of a;exact#[q.lo,q.hi,~~~b,(q.back m).2.1,q.mem];ext⟨a,b,h,k,c⟩;exact#[Dt.all #[a,b,c],~~~h]
 let j:((dR L L.c).filter λd=>!decide (d.1<d.2)).c=((iq L L.c).map λd=>(d.2,d.1)).c:=by
  refine len_eq (n.filter _) (zbZ _ (λx y o z=>o<|zbP (zaC Prod.snd z)<|zaC Prod.fst z) i) λd=>?_;rw[zft,mem_map];constructor;ext⟨a,b⟩;let q:=Dt.of a;let#[g,b1,b2,f]:=q.back m;refine#[(d.2,d.1),(l6<|zaf _).mpr #[g,b1,?_,q.hi,f],rfl];let:¬d.1<d.2:= ~~~b
  lia;ext⟨e,l,rfl⟩;let#[a,b,h,k,c]:=(l6<|zaf _).mp l;let#[g,b1,b2,f]:=Dt.back #[a,b,c] m;refine#[Dt.all #[g,b1,f],?_];let:¬e.2<e.1:=();simpa using this
 rw[zaa]at j;lia
theorem OH{L:dy}{d:aA}:∀k,Wk (nx L) d (tr L d k) (it L d k)
 | 0=>.nil _
 | k+1=>by
  let e:tr L d (k+1)=tr L d k++[it L d k]:=by unfold tr;rw[zcn,zat];rfl
  erw[e,(OH k).append<|.cons<|.nil _]
theorem P9(b:0<k)(e:it L d k=d):yi (nx L)<|tr L d k:=by
 let w:=OH (L:=L) (d:=d) k;rw[e]at w;obtain⟨j,rfl⟩:∃j,k=j+1:=#[k-1,()];let a:tr L d (j+1)=d::(tr L d<|j+1).tail:=by unfold tr;rw[zdL];rfl
 exact#[d,_,a,w]
theorem Eu(m:aH L)(h:Dt L d):∃k,0<k/\it L d k=d/\mD L d k:=by
 let b:∀n,(∃k,0<k/\it L d k=d/\mD L d k)\/mD L d (n+1):=by
  ext n;induction n with
  | zero=>exact .inr λi a c=>()
  | succ n f=>
   ext(z|z:f);exact .inl z;ext(e:it L d (n+1)=d);exact .inl #[n+1,(),e,z];refine .inr λi a c=>?_;ext(q:i=n+1);rw[q];exact e;exact z i a ()
 ext(z|z:b (dR L L.c).c);exact z;let:=ud m h z;lia
structure Dp(L:dy)(R:List<|List aA):Prop where
 jM:∀c∈R,yi (nx L) c
 nd:R.flatten.Nodup
 dt:∀d∈R.flatten,Dt L d
theorem Dp.start:Dp L []:=#[by simp,.nil,by simp]
theorem Dp.on(p:Dp L R)(h:d∈R.flatten):∀t,it L d t∈R.flatten
 | 0=>h
 | t+1=>by let#[c,a,b]:=zbb.mp<|p.on h t;exact zbb.mpr #[c,a,(p.jM c a).on b]
theorem Dp.new(p:Dp L R)(a:0<k)(e:it L d k=d)(n:d∉R.flatten)(j:Nat):it L d j∉R.flatten:=by ext h;refine n ?_;let:=p.on h<|k*j-j;rw[<-uG,show j+(k*j-j)=k*j from by let:=zbV j a;lia,zdb]at this;let z:=Ed e<|j*k;rw[Nat.mul_mod_left]at z;rwa[<-z]at this
theorem Dp.add(m:aH L)(p:Dp L R)(h:Dt L d)(b:0<k)(e:it L d k=d)(f:mD L d k)(n:d∉R.flatten):Dp L<|R++[tr L d k]:=by refine#[λc i=>?_,?_,λx a=>?_];ext(z|z:zal.mp i);exact p.jM c z;rw[zai.mp z];exact P9 b e;rw[zct,zdl,zeC];refine#[p.nd,sD m h f,λx a y g z=>?_];let#[j,_,rfl]:=zaq.mp g;exact p.new b e n j<|z▸a;rw[zct,zdl]at a;ext(z|z:zal.mp a);exact p.dt x z;let#[j,_,rfl]:=zaq.mp z;exact uF m h j
theorem Dp.dec(p:Dp L R)(all:∀d,Dt L d->d∈R.flatten):Dec L R:=#[p.jM,p.nd,λd=>#[p.dt d,all d]]
end Gm
namespace L2
open PySem PySem.Spec PySem.W PySem.Calls PyProof.Rows
theorem xN:∀{l:dm} {y:Int},y∈l->l.erase y=l.eraseIdx (l.idxOf y)
 | [],_,h=>by cases h
 | z::l,y,h=>by ext(e:z=y);subst e;rw[zdE,zdx];simp;rw[erase_cons_tail (~~~e),zdx,zdC e,xN<|(zaw.mp h).resolve_left<|λw=>e w.symm];simp
theorem uh:∀(l:dm) (k:Nat),(l.eraseIdx k).f=(l.f).eraseIdx k
 | [],_=>rfl
 | _::_,0=>rfl
 | x::l,k+1=>by rw[eraseIdx_cons_succ,zbx,zbx,eraseIdx_cons_succ,uh l k]
noncomputable def EB(ns:dm):dm:=ns.foldl step_dedup []
theorem Er(ns:dm):firstMet (λi=>ns.getD i 0) ns.c=EB ns:=by unfold firstMet EB;rw[show((List.range ns.c).map λi=>ns.getD i 0)=ns from Gm.range_getD ns]
theorem GB:∀(ns a:dm),a.Nodup->((ns.foldl step_dedup a).c=a.c+ns.c↔(a++ns).Nodup)
 | [],a,h=>by simp[h]
 | x::ns,a,h=>by
  rw[foldl_cons];ext(e:x∈a);let b:step_dedup a x=a:=by unfold step_dedup;rw[zam<|~~~e]
  rw[b];constructor;ext z;let:=foldl_step_dedup_length_le a ns;rw[zbi]at z;lia;ext z;exact absurd rfl<|(zbf.mp z).2.2 x e x zan;let b:step_dedup a x=a++[x]:=by unfold step_dedup;rw[zaj<|~~~e]
  rw[b];let:=GB ns (a++[x])<|(zdg x a).nodup_iff.mpr<|zau.mpr #[e,h];rw[zav,zbd,zcu,singleton_append]at this;rw[<-this,zbi];lia
theorem Ly(ns:dm):(EB ns).c=ns.c↔ns.Nodup:=by let:=GB ns [] .nil;rwa[zej,zcl,zdA]at this
noncomputable def Ud(K:Frag):List V->Hp->VK->Prop:=λvs H Q=>∃(a:Addr) (ns:dm),vs=[.ref a]/\aI K H a ns.f/\ns.c<=1000/\∀(p:Addr) (S:Int->Bool),H p=none->Q (.ref p) (upd H p<|.set S (EB ns).c)
theorem HZ(j:X.calm=true):eF X (.type "set")<|Ud X.K:=by
 ext pins s y H xs t Q I r h;let#[a,ns,rfl,m,g,q]:=h;let#[u,rfl,n]:=vals1 r;cases n;let#[i,rv,k,x]:=I.list m;let c:=intsAre_of rv;let d:=c.c;refine call_set_list (I.ok.hd j) k.isList (~~~c) (zaW>>d>>zaY (Nat.succ_le_succ g) B!) λh' v f p=>?_;let l:i.toArray.size=ns.c:=zaW>>d
 rw[l,Er]at f;exact#[.ref s.d,_,I.laid (λb o e=>p b o (zar e) e) (zaf _)<|show bU X.prog X.w _ h' s.d (.set _ (EB ns).c)from f,rfl,q _ _<|I.cw.fresh<|zaf _]
theorem Ic:eF X (.builtin "len") (λxs H Q=>∃a S n,xs=[V.ref a]/\H a=some (.set S n)/\Q (.int (n:Nat)) H):=by ext pins s m H xs l Q I r h;let#[a,S,n,rfl,f,q]:=h;let#[u,rfl,g]:=vals1 r;cases g;let#[o,d,t,p,i,b,j,_,_,k,c,e]:=(show s.heap.SetOf (intKind X.prog X.w) a S n from I.cw a _ f);let v:d.size<4096:=k;refine call_len_set i b j c () #[.int (n:Nat),H,I.tok _,#[_,by rw[e]],q]
noncomputable def MY:V->List V->Hp->VK->Prop:=λx vs H Q=>∃(l:Addr) (ns:dm) (y:Int),x=.ref l/\vs=[.int y]/\H l=some (.lst ns.f)/\y∈ns/\Q .fU (upd H l<|.lst<|(ns.erase y).f)
theorem xC:Ws X "list.remove" MY:=by
 ext pins s G H x vs v L Q I B rv h;let#[l,ns,y,rfl,rfl,p,k,q]:=h;cases B;let#[u,rfl,t,rfl]:=rv.one;let#[z,a,n,r,E,e]:=I.BZ p;let j:IntsAre a ns:=intsAre_of r;let K:=j.c;let g:ns.idxOf y<ns.c:=zbW k;rw[zaa]at z;let b:∀m (f:m<ns.c),∃t,a[m]?=some (.int ns[m] t):=λm f=>r9 j f;refine zdM F.slot_list_remove #[_,e,rfl] F.entry_list_remove (F.args_list_remove_2 _ _) (MeetsSeq.list_remove l a.toArray n (.int y t) (λv=>match v with | .int i _=>i==y|_=>false) (λw C=>?_) (ns.idxOf y) (by rw[zaW];lia) ?_ ?_<|by rw[zaW];lia) #[e,?_];let A:w∈a:= ~~~C
 let#[m,f,rfl]:=zaH.mp A;let#[d,c]:=b m ();rw[(zab.mp c).2];exact MeetsSeq.EqGives.int _ _ _ _;let#[d,c]:=b _ g;let:a.toArray[ns.idxOf y]'(by rw[zaW];lia)=.int ns[ns.idxOf y] d:=by let:=(zab.mp c).2;simpa using this
 rw[this];show(ns[ns.idxOf y]==y)=true;rw[zdY g];simp;ext m f D;let#[d,c]:=b m ();let:a.toArray[m]=.int (ns[m]'()) d:=by let:=(zab.mp c).2;simpa using this
 rw[this];exact zdC<|pZ ns y m () D;let o:(ns.erase y).f=((ns.f).eraseIdx<|ns.idxOf y):=by rw[xN k,uh]
 refine#[.fU,_,I.Nx (its':=a.eraseIdx<|ns.idxOf y) p e ?_ ?_ ?_,rfl,q];rw[eraseIdxIfInBounds_toArray];rw[o];exact r.eraseIdx _;rw[o,length_eraseIdx];split<;>(try rw[zaa])<;>lia
end L2
namespace Gm
open PySem L2
theorem uT(m:aH L):∃R,Dec L R:=by
 let j:∀b:List aA,(∀d∈b,Dt L d)->∃R,Dp L R/\∀d∈b,d∈R.flatten:=by
  ext b;induction b with
  | nil=>intro _;exact#[[],Dp.start,by simp]
  | cons d b l=>
   ext h;let#[R,p,q]:=l λx a=>h x<|zae _ a;ext(e:d∈R.flatten);refine#[R,p,λx a=>?_];ext(z|z:zaw.mp a);rw[z];exact e;exact q x z;let dt:=h d zan;let#[k,f,g,i]:=Eu m dt;refine#[_,p.add m dt f g i e,λx a=>?_];rw[zct,zdl];ext(z|z:zaw.mp a);rw[z];exact zaP _<|zaq.mpr #[0,zaD.mpr f,rfl];exact zaT _<|q x z
 let#[R,p,q]:=j (dR L L.c) λd c=>Dt.of c;exact#[R,p.dec λd c=>q d c.all]
theorem Wk.last(h:Wk f x l y)(n:l≠[]):∃d∈l,f d=y:=by
 induction h with
 | nil _=>exact absurd rfl n
 | @cons x y l k a=>
  cases l with
  | nil=>exact#[x,zan,k.nil_eq]
  | cons p l=>
   let#[d,b,e]:=a A?;exact#[d,zae _ b,e]
theorem Om(c:aH M)(h:Dt M (a,b))(t:nx M (z1,a)=(a,b))(u:nx M (z2,b)=(b,a))(K:Dt (rem M a b) (z1,a))(I:Dt (rem M a b) (z2,b))(D:Dec (rem M a b) R)(C:Dec M R')(conn:∀P:aA->Prop,P (z1,a)->(∀d,Dt (rem M a b) d->P d->P (nx (rem M a b) d))->P (z2,b)):R'.c=R.c+1/\iso M=iso (rem M a b):=by
 let#[F,b1,b2,x]:=h.back c;let s:Dt M (b,a):=#[F,b1,x];let i:=(c5 c h).mp K;let l:=(c5 c h).mp I;let n:nx M (a,b)≠(b,a):=λz=>l.2.1 (fQ c h l.1<|z.trans u.symm).symm;let w:nx M (b,a)≠(a,b):=λz=>i.2.2 (fQ c s i.1<|z.trans t.symm).symm;let v:=yU c h;rw[zaj λz=>n<|(iA c h).mp z,zaj<|λz=>w<|(iA c s).mp z]at v;refine#[?_,v.symm];ext(⟨A,B,S,e,y,kA,g⟩|⟨A,B,S,e,y,_⟩:yV c h C);exfalso;let r:A≠[]:=λz=>by rw[z]at kA;exact n kA.nil_eq
 let m:B≠[]:=λz=>by rw[z]at g;exact w g.nil_eq
 rw[zaj r,zaj m]at e;let#[p,k,H]:=kA.last r;let#[q,j,L]:=g.last m;let E:=fQ c ((λd f=>((c5 c h).mp<|(e.mem d).mp<|zbb.mpr #[A,by simp,f]).1) p k) l.1<|H.trans u.symm;let G:=fQ c ((λd f=>((c5 c h).mp<|(e.mem d).mp<|zbb.mpr #[B,by simp,f]).1) q j) i.1<|L.trans t.symm;rw[E]at k;rw[G]at j;let:=conn (λd=>d∈B) j λd _ f=>(e.jM B A?).on f;let o:=e.nd;rw[zct,zct,zdl,zdl,zcu]at o;exact(zbf.mp o).2.2 _ k _ (zaT _ this) rfl;let:=D.count e;rw[zbi]at this;lia
theorem KJ(c:aH M)(h:Dt M (a,b))(e:nx M (a,b)=(b,a))(n:nx M (z1,a)=(a,b))(t:Dt (rem M a b) (z1,a))(D:Dec (rem M a b) R)(s:Dec M R'):R'.c=R.c/\iso (rem M a b)=iso M+1:=by
 let#[u,b1,b2,o]:=h.back c;let i:Dt M (b,a):=#[u,b1,o];let j:=(c5 c h).mp t;let m:nx M (b,a)≠(a,b):=λz=>j.2.2 (fQ c i j.1<|z.trans n.symm).symm;let l:=yU c h;rw[zam<|(iA c h).mpr e,zaj<|λz=>m<|(iA c i).mp z]at l;refine#[?_,l];ext(⟨A,B,S,d,r,kA,f⟩|⟨A,B,S,d,r,g,k,kA,f,v⟩:yV c h s);let g:A=[]:=by
  cases A with
  | nil=>rfl
  | cons p A=>
   let q:=kA.hd;let dt:=(d.mem p).mp<|zbb.mpr #[p::A,by simp,zan];rw[q,e]at dt;exact absurd rfl ((c5 c h).mp dt).2.2
 let k:B≠[]:=λz=>by rw[z]at f;exact m f.nil_eq
 rw[zam g,zaj k]at d;let:=D.count d;rw[zdA,singleton_append,zbi]at this;lia;cases A with
 | nil=>exact absurd rfl g
 | cons p A=>
  let dt:=v p A?;rw[kA.hd,e]at dt;exact absurd rfl ((c5 c h).mp dt).2.2
structure ck(L:dy):Prop where
 map:aH L
 two:2<=L.c
 span:mC L [0]
 Mm:∃R,Dec L R/\(L.c:Int)+R.c+iso L=(iq L L.c).c+2
theorem Reach.mono(h:∀d,Dt L d->Dt M d)(r:Reach L s x):Reach M s x:=by
 induction r with
 | here=>exact .here
 | step r e b a=>
  rename_i i l y;exact Reach.one a<|h _<|Reach.rh e b
noncomputable def both(L:dy)(a b:Int)(A B:dm):dy:=(L.set a.toNat A).set b.toNat B
structure cF(L:dy)(a b:Int)(A B:dm):Prop where
 map:aH L
 a0:0<=a
 a1:a<L.c
 b0:0<=b
 b1:b<L.c
 ne:a≠b
 no:b∉ez L a
 pa:A.Perm (b::ez L a)
 pb:B.Perm (a::ez L b)
 ea:A.erase b=ez L a
 eb:B.erase a=ez L b
theorem cF.Sv(F:cF L a b A B):a∉ez L b:=λz=>F.no (Dt.back (d:=(b,a)) #[F.b0,F.b1,z] F.map).2.2.2
theorem eY:(both L a b A B).c=L.c:=by unfold both;simp
theorem cF.row(F:cF L a b A B)(d:0<=x):ez (both L a b A B) x=if x=b then B else if x=a then A else ez L x:=by let:=F.a0;let:=F.a1;let:=F.b0;let:=F.b1;let:=F.ne;show(both L a b A B).getD x.toNat []=_;unfold both;rw[zah,zda];ext(e:x=b);subst e;rw[zam rfl,zam rfl,zam<|by rw[zcq];lia];rfl;rw[zaj (),zaj e,zda];ext(c:x=a);subst c;rw[zam rfl,zam rfl,zam ()];rfl;rw[zaj (),zaj c,<-zah];rfl
theorem cF.mem(F:cF L a b A B)(d:0<=x):y∈ez (both L a b A B) x↔y∈ez L x\/(x=a/\y=b)\/(x=b/\y=a):=by rw[F.row d];ext(e:x=b);subst e;rw[zam rfl,F.pb.mem_iff,zbp];constructor;rintro (z|z);exact .inr<|.inr #[rfl,z];exact .inl z;rintro (z|z|z);exact .inr z;exact absurd z.1.symm F.ne;exact .inl z.2;rw[zaj e];ext(c:x=a);subst c;rw[zam rfl,F.pa.mem_iff,zbp];constructor;rintro (z|z);exact .inr<|.inl #[rfl,z];exact .inl z;rintro (z|z|z);exact .inr z;exact .inl z.2;exact absurd z.1 e;erw[zaj c,#[.inl,λz=>z.elim id λz=>z.elim (λw=>absurd w.1 c) λw=>absurd w.1 e]]
theorem cF.iV(F:cF L a b A B):aH<|both L a b A B:=by let:=F.a0;let:=F.a1;let:=F.b0;let:=F.b1;let g:=F.ne;refine me λx c f=>?_;rw[eY]at f ⊢;let n:=F.map.nd _ _<|aK c f;refine#[?_,λy j=>?_];rw[F.row c];split;rename_i e;subst e;exact F.pb.nodup_iff.mpr<|zau.mpr #[F.Sv,n];split;rename_i e;subst e;exact F.pa.nodup_iff.mpr<|zau.mpr #[F.no,n];exact n;ext(z|⟨z,w⟩|⟨z,w⟩:(F.mem c).mp j);let#[h,l,i,k]:=Dt.back (d:=(x,y)) #[c,f,z] F.map;exact#[h,l,i,(F.mem h).mpr<|.inl k];subst z w;exact#[F.b0,F.b1,g.symm,(F.mem F.b0).mpr<|.inr<|.inr #[rfl,rfl]];subst z w;exact#[F.a0,F.a1,g,(F.mem F.a0).mpr<|.inr<|.inl #[rfl,rfl]]
theorem cF.dt(F:cF L a b A B):Dt (both L a b A B) (a,b):=#[F.a0,eY>>F.a1,(F.mem F.a0).mpr<|.inr<|.inl #[rfl,rfl]]
theorem cF.rem(F:cF L a b A B):rem (both L a b A B) a b=L:=by
 let f:=F.a0;let g:=F.a1;let d:=F.b0;let b1:=F.b1;let h:=F.ne;unfold Gm.rem;rw[F.row f,F.row d,zaj h,zam rfl,zam rfl,F.ea,F.eb];unfold both;apply zez;ext i;rw[zda];ext(e:b.toNat=i);rw[zam e];let:i<L.c:=();rw[zam (by simp;lia),<-e,aK d b1];rw[zaj e,zda];ext(c:a.toNat=i);rw[zam c,zam (by simp;lia),<-c,aK f g];rw[zaj c,zda,zaj e,zda,zaj c]
theorem cF.sub(F:cF L a b A B)(d:aA)(h:Dt L d):Dt (both L a b A B) d:=#[h.lo,eY>>h.hi,(F.mem h.lo).mpr<|.inl h.mem]
theorem cF.Z6(F:cF L a b A B):(iq (both L a b A B) L.c).c=(iq L L.c).c+1:=by let c:=(lQ F.iV F.dt).2;rw[F.rem]at c;let d:=dP F.iV;let e:=dP F.map;rw[eY]at c d;lia
theorem cF.cT(F:cF L a b A B)(s:ck L)(l:z1∈ez L a)(u:z2∈ez L b)(j:pre A z1=b)(o:pre B z2=a)(conn:∀P:aA->Prop,P (z1,a)->(∀d,Dt L d->P d->P (nx L d))->P (z2,b)):ck<|both L a b A B:=by
 let#[v,w,z,n]:=Dt.back (d:=(a,z1)) #[F.a0,F.a1,l] F.map;let#[q,g,y,p]:=Dt.back (d:=(b,z2)) #[F.b0,F.b1,u] F.map;let#[R,D,ch]:=s.Mm;let#[i,e]:=uT F.iV;let n1:nx (both L a b A B) (z1,a)=(a,b):=by unfold nx;rw[F.row F.a0,zaj F.ne,zam rfl,j]
 let n2:nx (both L a b A B) (z2,b)=(b,a):=by unfold nx;rw[F.row F.b0,zam rfl,o]
 let#[h,c]:=Om F.iV F.dt n1 n2 (F.rem>>#[v,w,n]) (F.rem>>#[q,g,p]) (F.rem>>D) e (F.rem>>conn);rw[F.rem]at c;refine#[F.iV,eY>>s.two,λx m f=>?_,i,e,?_];rw[eY]at f;let#[t,k,r]:=s.span x m f;exact#[t,k,r.mono F.sub];rw[eY,F.Z6,h,c];lia
theorem iC:∀{l:dm} {k:Nat} {x:Int},x∉l->(put l k x).erase x=l:=λ{l k x} h=>by unfold put;rw[zem _<|λz=>h<|zcO z,zdE,zcA]
theorem FL:∀{l:dm} {p z x:Int},z∈l->x≠z->gO p (put l (l.idxOf z) x) z=x
 | [],_,_,_,h,_=>by cases h
 | h::t,p,z,x,hz,hx=>by
  rw[zdx];ext(e:h=z);subst e;let:(h==h)=true:=by simp
  rw[this];show(if x=h then p else if h=h then x else gO h t h)=x;rw[zaj hx,zam rfl];rw[zdC e];show(if h=z then p else gO h (put t (t.idxOf z) x) z)=x;erw[zaj e,FL ((zaw.mp hz).resolve_left<|λw=>e w.symm) hx]
theorem hW(a:z∈l)(b:x∉l):pre (put l (l.idxOf z) x) z=x:=by erw[oq<|kH.mpr<|.inr a,FL a<|λw=>b<|w▸a]
theorem Dz{x:Int}(h:x∉l):(l++[x]).erase x=l:=by rw[zem _ h,zdE,zdd]
theorem JP:pre ((y::l)++[x]) y=x:=by rw[oq A?,kK (y::l) A?];show(if y=y then lst [x]else _)=x;rw[zam rfl];rfl
theorem Reach.inv(r:Reach L s x):x=s\/∃(j:Nat) (l:dm),L[j]?=some l/\x∈l:=by
 cases r with
 | here=>exact .inl rfl
 | step r e a=>exact .inr #[_,_,e,a]
theorem ck.NB(s:ck L):iso L=0:=by
 unfold iso;refine zfg.mpr λl f=>?_;let#[i,g,rfl]:=zaH.mp f;let c:=zac g;ext z;let d:L[i]=[]:= ~~~z
 let k:=s.two;ext(h:i=0);subst h;let#[t,b,r]:=s.span 1 () ();let:=zai.mp b;subst this;let m:∀x,Reach L 0 x->x=0:=λx r=>by
  induction r with
  | here=>rfl
  | step r e a n=>
   rename_i j l y;let:j=0:=();subst this;rw[c]at e;cases e;rw[d]at a;cases a
 exact absurd (m 1 r) ();let#[t,b,r]:=s.span i () ();let:=zai.mp b;subst this;ext(w|⟨j,l,e,a⟩:r.inv);lia;let:=s.map.sy _ _ e _ a i rfl _ c;rw[d]at this;cases this
theorem ck.three(s:ck L)(U:3<=L.c)(D:Dec L R)(o:c∈R):3<=c.c:=by
 let dt:∀d∈c,Dt L d:=λd Q=>(D.mem d).mp<|zbb.mpr #[c,o,Q];let#[x,l,e,k]:=D.jM c o;subst e;let a:=dt x zan;let#[I,b1,b2,B]:=a.back s.map;let j:=k.tl;cases l with
 | nil=>exact absurd (zaC Prod.fst j.nil_eq) b2
 | cons y l=>
  cases l with
  | cons w l=>simp
  | nil=>
   exfalso;let m:=j.hd;let ex:=j.tl.nil_eq;rw[<-m]at ex;let P:y.1=x.2:=by rw[m];rfl
   let n:y.2=x.1:=zaC Prod.fst ex;let M:pre (ez L x.2) x.1=x.1:=by
    let:y.2=pre (ez L x.2) x.1:=by rw[m];rfl
    rw[<-this,n]
   let N:pre (ez L x.1) x.2=x.2:=(by let:pre (ez L y.2) y.1=x.2:=zaC Prod.snd ex;rwa [P,n]at this);let q:=oo (s.map.nd _ _<|aK I b1) B M;let p:=oo (s.map.nd _ _<|aK a.lo a.hi) a.mem N;let g:∀u,Reach L 0 u->((u=x.1\/u=x.2)↔((0:Int)=x.1\/(0:Int)=x.2)):=λu r=>by
    induction r with
    | here=>exact Iff.rfl
    | step r e A K=>
     rename_i i l v;refine Iff.trans ?_ K;let d:=Reach.rh e A;let#[O,H,G,f]:=d.back s.map;let b:=d.mem;dsimp only at O H G f b;constructor;rintro (z|z);rw[z,p]at f;exact .inr<|zai.mp f;rw[z,q]at f;exact .inl<|zai.mp f;rintro (z|z);rw[z,p]at b;exact .inr<|zai.mp b;rw[z,q]at b;exact .inl<|zai.mp b
   let reach:∀u:Int,0<=u->u<L.c->Reach L 0 u:=λu F C=>by let#[t,E,r]:=s.span u F C;rwa[zai.mp E]at r
   let h:=(g x.1<|reach x.1 a.lo a.hi).mp<|.inl rfl;let S:=a.lo;let W:=(g 0<|reach 0 () ()).mpr h;let Y:=(g 1<|reach 1 () ()).mpr h;let X:=(g 2<|reach 2 () ()).mpr h;lia
theorem uS:∀{R:List<|List aA},(∀c∈R,3<=c.c)->3*R.c<=R.flatten.c
 | [],_=>zaf _
 | c::R,h=>by let:=uS λx a=>h x<|zae _ a;let:=h c zan;rw[zcb,zav,zbi];lia
theorem Dec.len(m:aH L)(D:Dec L R):R.flatten.c=(dR L L.c).c:=
 len_eq D.nd (cv m<|zaf _) λd=>(D.mem d).trans #[λh=>h.all,λh=>Dt.of h]
noncomputable def jG(L:dy):dy:=L++[[]]
theorem gW(a:0<=x):ez (jG L) x=if x<L.c then ez L x else []:=by
 unfold ez jG;rw[zah,zah];ext(h:x<L.c);rw[zam h,zaU ()];rw[zaj h,zaO ()];cases q:([[]]:dy)[x.toNat-L.c]? with
 | none=>rfl
 | some l=>
  rw[zai.mp<|zag q];rfl
theorem kM:Dt (jG L) d↔Dt L d:=by constructor;ext h;let m:=h.mem;rw[gW h.lo]at m;ext(z:d.1<L.c);rw[zam z]at m;exact#[h.lo,z,m];rw[zaj z]at m;cases m;ext h;refine#[h.lo,by unfold jG;let:=h.hi;simp;lia,?_];erw[gW h.lo,zam h.hi,h.mem]
theorem oA:(jG L).c=L.c+1:=by unfold jG;simp
theorem B3(m:aH L):aH<|jG L:=by refine me λx a h=>?_;rw[gW a];ext(z:x<L.c);rw[zam z];refine#[m.nd _ _<|aK a z,λy c=>?_];let#[b,g,e,f]:=Dt.back (d:=(x,y)) #[a,z,c] m;dsimp only at b g e f;rw[gW b,zam g,oA];exact#[b,(),e,f];erw[zaj z,#[.nil,λy c=>by cases c]]
theorem zG(m:aH L)(h:Dt L d):nx (jG L) d=nx L d:=by let#[a,b1,b2,b]:=h.back m;unfold nx;rw[gW a,zam b1]
theorem KC(m:aH L)(D:Dec L R):Dec (jG L) R:=by refine#[λc a=>?_,D.nd,λd=>(D.mem d).trans kM.symm];let#[x,l,e,k]:=D.jM c a;exact#[x,l,e,k.congr λd b=>zG m<|(D.mem d).mp<|zbb.mpr #[c,a,b]]
theorem Kz:iso (jG L)=iso L+1:=by unfold iso jG;rw[countP_append];rfl
theorem KA(m:aH L):(dR (jG L) (jG L).c).c=(dR L L.c).c:=
 len_eq (cv (B3 m)<|zaf _) (cv m<|zaf _) λd=>#[λh=>(kM.mp<|Dt.of h).all,λh=>(kM.mpr<|Dt.of h).all]
structure Pl(L:dy)(r:dm)(c1 cj:Nat)(dn:List Nat)(M:dy):Prop where
 sh:ck M
 len:M.c=L.c+1
 new:ez M (L.c:Int)=dn.map (cy r)
 hd:∃rest,dn=c1::rest
 keep:∀x:Int,0<=x->x<L.c->(∀c∈dn,cy r c≠x)->ez M x=ez L x
 sub:∀d,Dt L d->Dt M d
 le:c1<=cj
 top:cj<r.c
 i1:∀i,cj<=i->i+1<c1+r.c->nx M (dj r i)=dj r (i+1)
 i2:nx M (dj r<|c1+(r.c-1))=(cy r c1,(L.c:Int))
 i3:nx M (cy r c1,(L.c:Int))=((L.c:Int),cy r cj)
 i4:nx M ((L.c:Int),cy r cj)=dj r cj
theorem mr(n:(sh 0 r).Nodup)(h:i<j)(q:j<i+r.c):dj r i≠dj r j:=by
 ext z;let f:0<r.c:=();let m:dj r (i%r.c)=dj r i:=bX<|zbJ _ _;let o:dj r (j%r.c)=dj r j:=bX<|zbJ _ _;let g:=zaI i f;let l:=zaI j f;let d:∀k (e:k<r.c),(sh 0 r)[k]'(dE>>e)=dj r k:=λk e=>by let:=xg (s:=0) e;rw[zac<|dE>>e]at this;exact zas this
 let p:i%r.c=j%r.c:=by refine(zco (h₀:=dE>>g) (h₁:=dE>>l) n).mp ?_;rw[d _ g,d _ l,m,o,z]
 let:=zfb i r.c;let:=zfb j r.c;let a:r.c*(i / r.c)<r.c*(j / r.c):=();let b:i / r.c+1<=j / r.c:=Nat.lt_of_mul_lt_mul_left a;let c:=zfh r.c b;rw[Nat.mul_add,Nat.mul_one]at c;lia
theorem eK(g:Good L r)(m:aH L):cy r (c+(r.c-1))∈ez L (cy r c)/\0<=cy r c/\cy r c<L.c/\dj r (c+(r.c-1))=(cy r<|c+(r.c-1),cy r c):=by
 let a:=g.two;let e:cy r (c+(r.c-1)+1)=cy r c:=bT (by rw[show c+(r.c-1)+1=c+r.c by lia,zax]);let b:=(g.dt<|c+(r.c-1)).back m;let ed:dj r (c+(r.c-1))=(cy r<|c+(r.c-1),cy r c):=by unfold dj;rw[e]
 rw[ed]at b;exact#[b.2.2.2,b.1,b.2.1,ed]
theorem nP{x:Int}(m:aH L)(a:0<=x)(b:x<L.c):(L.c:Int)∉ez L x:=λz=>by let:=m.rg _ _ (aK a b) _ z;lia
theorem Pl.first(s:ck L)(g:Good L r)(nd:(Gm.sh 0 r).Nodup)(Y:c<r.c) :
  cF (jG L) (cy r c) (L.c:Int) (put (ez L<|cy r c) ((ez L<|cy r c).idxOf<|cy r<|c+(r.c-1)) L.c) [cy r c]/\
  Pl L r c c [c] (both (jG L) (cy r c) (L.c:Int) (put (ez L<|cy r c) ((ez L<|cy r c).idxOf<|cy r<|c+(r.c-1)) L.c) [cy r c]):=by
 let ac:=g.two;let#[A,b,l,ed]:=eK g s.map;generalize o:cy r c=x at A b l ed ⊢;generalize hz:cy r (c+(r.c-1))=z at A ed ⊢;let H:=nP s.map b l;let I:ez (jG L) x=ez L x:=by rw[gW b,zam l]
 let S:ez (jG L) (L.c:Int)=[]:=by rw[gW (),zaj ()]
 let F:cF (jG L) x (L.c:Int) (put (ez L x) ((ez L x).idxOf z) L.c) [x]:=
  #[B3 s.map,b,by rw[oA];lia,(),by rw[oA];lia,(),I>>H,I>>jT _ _ _,by rw[S],I>>iC H,by rw[S];simp]
 refine#[F,?_];generalize n:both (jG L) x (L.c:Int) (put (ez L x) ((ez L x).idxOf z) L.c) [x]=M at F ⊢;let a:=n▸F.iV;let m:=n▸F.dt;let f:=n▸F.rem;let p:∀{y:Int},0<=y->ez M y=if y=(L.c:Int)then [x]else if y=x then put (ez L x) ((ez L x).idxOf z) L.c else ez (jG L) y:=λh=>n▸F.row h;let C:M.c=L.c+1:=by rw[<-n,eY,oA]
 let O:x≠(L.c:Int):=();let sub:∀d,Dt L d->Dt M d:=λd j=>n▸F.sub d (kM.mpr j);let u:nx M (z,x)=(x,(L.c:Int)):=by unfold nx;rw[p b,zaj O,zam rfl,hW A H]
 let K:nx M (x,(L.c:Int))=((L.c:Int),x):=by unfold nx;rw[p (),zam rfl];refine zbP rfl ?_;unfold pre cy;simp[Nat.mod_one]
 let v:Dt L (z,x):=by let#[c0,c1,c2,c3]:=Dt.back (d:=(x,z)) #[b,l,A] s.map;exact#[c0,c1,c3]
 let Mb:∀d,Dt L d->d≠(z,x)->nx M d=nx L d:=λd j zK=>by
  let k:=pF a m (f>>kM.mpr j);rw[f,zG s.map j]at k;let Q:=sub d j;let n1:nx M d≠((L.c:Int),x):=λw=>by let:=fQ a Q m<|w.trans K.symm;rw[this]at j;exact nP s.map b l j.mem
  rw[zaj n1,zaj<|λw=>zK<|fQ a Q (sub _ v)<|w.trans u.symm]at k;exact k.symm
 let Z:nx M ((L.c:Int),x)=nx L (z,x):=by let k:=pF a m (f>>kM.mpr v);rw[f,zG s.map v,u,zaj<|λw=>O<|zaC Prod.fst w,zam rfl]at k;exact k.symm
 let#[R,D,ch]:=s.Mm;let#[R',P]:=uT a;let#[U,l2]:=KJ a m K u (f>>kM.mpr v) (f>>KC s.map D) P;rw[f,Kz]at l2;let Z6:(iq M M.c).c=(iq L L.c).c+1:=by let W:=(lQ a m).2;rw[f,KA s.map]at W;let h2:=dP a;let h3:=dP s.map;lia
 let X:ck M:=by
  refine#[a,by let:=s.two;lia,λy B N=>?_,R',P,?_];ext(e:y<L.c);let#[t,G,q]:=s.span y B e;exact#[t,G,q.mono sub];let ey:y=(L.c:Int):=by rw[C]at N;lia
  let#[t,G,q]:=s.span x b l;rw[ey];exact#[t,G,Reach.one (q.mono sub) m];rw[Z6,C,U];lia
 let E:=ed;refine#[X,C,by rw[p (),zam rfl,zea,o],#[[],rfl],λy B N hy=>?_,sub,zaf _,Y,λi ad qM=>?_,?_,?_,?_];let:=hy c A?;rw[o]at this;rw[p B,zaj (),zaj<|λw=>this w.symm,gW B,zam N];rw[Mb _ (g.dt i) (by erw[<-E,mr nd () ()]),g.st];rw[E,u,o];rw[o,K];erw[o,Z,<-E,g.st,bX<|by rw[show c+(r.c-1)+1=c+r.c by lia,zax]]
theorem Pl.next(s:ck L)(g:Good L r)(W:(Gm.sh 0 r).Nodup)(p:Pl L r c1 cj dn M)(hc:cj<c)(Co:c<r.c)(un:∀e∈dn,cy r e≠cy r c) :
  cF M (cy r c) (L.c:Int) (put (ez L<|cy r c) ((ez L<|cy r c).idxOf<|cy r<|c+(r.c-1)) L.c) (ez M (L.c:Int)++[cy r c])/\
  Pl L r c1 c (dn++[c]) (both M (cy r c) (L.c:Int) (put (ez L<|cy r c) ((ez L<|cy r c).idxOf<|cy r<|c+(r.c-1)) L.c)<|ez M (L.c:Int)++[cy r c]):=by
 let ac:=g.two;let le:=p.le;let#[v,l,D,ed]:=eK g s.map;let o:=p.keep (cy r c) l D un;let S:cy r c∉ez M (L.c:Int):=by rw[p.new];ext w;let#[e,H,h]:=zaq.mp w;exact un e H h
 let Uw:=p.new;generalize A:cy r c=x at v l D ed o S ⊢;generalize hz:cy r (c+(r.c-1))=z at v ed ⊢;let G:=nP s.map l D;let F:cF M x (L.c:Int) (put (ez L x) ((ez L x).idxOf z) L.c)<|ez M (L.c:Int)++[x]:=
  #[p.sh.map,l,by rw[p.len];lia,(),by rw[p.len];lia,(),o>>G,o>>jT _ _ _,zdg _ _,o>>iC G,Dz S]
 refine#[F,?_];let#[rest,a]:=p.hd;let E:ez M (L.c:Int)=cy r c1::rest.map (cy r):=by rw[Uw,a];rfl
 let j:dj r (c-1)=(z,x):=by erw[<-ed,(bX<|by rw[show c+(r.c-1)=(c-1)+r.c by lia,zax]).symm]
 let Z:=j▸g.dt (c-1);let I:Dt M (cy r c1,(L.c:Int)):=by let:=Dt.back (d:=((L.c:Int),cy r c1)) #[by simp,by rw[p.len];simp;lia,E>>zan] p.sh.map;exact#[this.1,this.2.1,this.2.2.2]
 let n:=hW v G;let q:pre (ez M (L.c:Int)++[x]) (cy r c1)=x:=E>>JP
 let conn:∀P:aA->Prop,P (z,x)->(∀d,Dt M d->P d->P (nx M d))->P (cy r c1,(L.c:Int)):=λP b hs=>by
  let go:∀k,c-1+k<=c1+(r.c-1)->P (dj r<|c-1+k):=by
   ext k;induction k with
   | zero=>intro _;erw[zbu,j,b]
   | succ k ih=>
    ext hk;let:=hs _ (p.sub _<|g.dt<|c-1+k)<|ih ();rwa[p.i1 (c-1+k) () ()]at this
  let:=go (c1+(r.c-1)-(c-1)) ();rw[show c-1+(c1+(r.c-1)-(c-1))=c1+(r.c-1)by lia]at this;let:=hs _ (p.sub _<|g.dt _) this;rwa[p.i2]at this
 let Q:=F.cT p.sh (o>>v) (E>>zan) n q conn;generalize f:both M x (L.c:Int) (put (ez L x) ((ez L x).idxOf z) L.c) (ez M (L.c:Int)++[x])=N at F Q ⊢;let u:=f▸F.iV;let X:=f▸F.dt;let C:=f▸F.rem;let t:∀{y:Int},0<=y->ez N y=if y=(L.c:Int)then ez M (L.c:Int)++[x]else if y=x then put (ez L x) ((ez L x).idxOf z) L.c else ez M y:=λh=>f▸F.row h;let Nl:N.c=L.c+1:=by rw[<-f,eY,p.len]
 let K:x≠(L.c:Int):=();let B:∀d,Dt M d->Dt N d:=λd a=>f▸F.sub d a;let Y:nx N (z,x)=(x,(L.c:Int)):=by unfold nx;rw[t l,zaj K,zam rfl,n]
 let f2:nx N (cy r c1,(L.c:Int))=((L.c:Int),x):=by unfold nx;rw[t (),zam rfl,q]
 let U:∀d,Dt M d->d≠(z,x)->d≠(cy r c1,(L.c:Int))->nx N d=nx M d:=λd a zK Zi=>by let b:=pF u X (C>>a);rw[C]at b;let R:=B d a;rw[zaj λw=>Zi<|fQ u R (B _ I)<|w.trans f2.symm,zaj<|λw=>zK<|fQ u R (B _<|p.sub _ Z)<|w.trans Y.symm]at b;exact b.symm
 let YB:nx N ((L.c:Int),x)=nx M (z,x):=by let b:=pF u X (C>>p.sub _ Z);rw[C,Y,zaj<|λw=>K<|zaC Prod.fst w,zam rfl]at b;exact b.symm
 let m:∀i,dj r i≠(cy r c1,(L.c:Int)):=λi w=>by let d:=g.dt i;let:=(d.back s.map).2.1;rw[w]at this;simp at this
 refine#[Q,Nl,?_,#[rest++[c],by rw[a];rfl],λy y0 y1 hy=>?_,λd a=>B d<|p.sub d a,(),Co,λi ad qM=>?_,?_,?_,?_];rw[t (),zam rfl,Uw,zat,zea,A];let O:=hy c A?;rw[A]at O;rw[t y0,zaj (),zaj<|λw=>O w.symm];exact p.keep y y0 y1 λe H=>hy e<|zaT _ H;rw[U _ (p.sub _<|g.dt i) (by erw[<-j,(mr W () ()).symm])<|m i];exact p.i1 i () qM;rw[U _ (p.sub _<|g.dt _) (by erw[<-j,(mr W () ()).symm])<|m _];exact p.i2;rw[f2,A];rw[A,YB,<-j,p.i1 (c-1) () (),show c-1+1=c by lia]
end Gm
namespace L2
open PySem PySem.Spec PySem.W PySem.Calls PyProof.Rows
theorem RZ:bootBuiltins "set"=some (.type "set"):=by decide +kernel
theorem BF{X:Cx}{K:Frag}(h:X.K=K){tg l:Expr}{a:TE}(b:PE X l a):PI X tg l<|Ci K a:=h▸bJ b
end L2
namespace Gm
open PySem L2
theorem PR.at{H:Hp}:∀{b:cx} {T:List<|Int×Int},PR H b T->∀{i:Nat} {a:Addr},b[i]?=some a->∃x:Int×Int,T[i]?=some x/\H a=some (.tup [.int x.1,.int x.2])
 | _,_,.nil,_,_,e=>by simp at e
 | _,_,.cons r t,0,_,e=>by simp at e;subst e;exact#[_,rfl,r]
 | _,_,.cons r t,i+1,_,e=>by let#[x,c,d]:=PR.at t (~~~e);exact#[x,~~~c,d]
theorem F9(k:Nat):it L (nx L d) k=it L d (k+1):=by rw[zdy,uG];rfl
theorem IF(h:Wk (nx L) x l y):l=tr L x l.c/\y=it L x l.c:=by
 induction h with
 | nil x=>exact#[rfl,rfl]
 | @cons x y l _ c=>
  let#[a,b]:=c;refine#[?_,by erw[zbi,<-F9,b]];rw[zbi];unfold tr;rw[zdL,zbx,zfl];show x::l=x::_;congr 1;refine a.trans ?_;unfold tr;refine zcr λj _=>?_;exact F9 j
theorem MM(b:0<k)(e:it L d k=d):sh 0 (bj L d k)=tr L d k:=by
 let a:(bj L d k).c=k:=by unfold bj;simp
 unfold sh tr;erw[a,zcr λj _=>by rw[kQ b e,zbu]]
theorem Dec.good(m:aH L)(D:Dec L R)(a:c∈R):Good L (c.map (·.1))/\sh 0 (c.map (·.1))=c/\c.Nodup:=by
 let#[x,l,e,k]:=D.jM c a;let#[b,d]:=IF k;let f:0<c.c:=by rw[e];simp
 let g:c.map (·.1)=bj L x c.c:=by
  conv=>lhs;rw[b]
  unfold bj tr;rw[zfl];rfl
 erw[g,#[xo m ((D.mem x).mp<|zbb.mpr #[c,a,e>>zan]) f d.symm,(MM f d.symm).trans b.symm,(zch.mp D.nd).1 c a]]
theorem Good.on(g:Good L r){P:aA->Prop}(f:∀d,Dt L d->P d->P (nx L d)){i:Nat}(h:P<|dj r i)(j:Nat):P<|dj r j:=by
 let a:=g.two;let b:∀k,P<|dj r<|i+k:=by
  ext k;induction k with
  | zero=>exact h
  | succ k c=>have:=f _ (g.dt _) c;rwa[g.st]at this
 let:=b<|j+i*r.c-i;let e:i<=i*r.c:=zdt i ();rw[show i+(j+i*r.c-i)=j+i*r.c by lia]at this;rw[bX (j:=j)<|by rw[Nat.add_mul_mod_self_right]]at this;exact this
end Gm
namespace L2
open PySem PySem.Spec PySem.W PySem.Calls PyProof.Rows
noncomputable def PU(K:Frag)(a b:Addr):It:=
 #[λi H=>∃xs ys x y,aI K H a xs/\aI K H b ys/\xs[i]?=some x/\ys[i]?=some y,
  λi H v c=>∃p x y,H p=none/\v=.ref p/\(∀xs,aI K H a xs->xs[i]?=some x)/\(∀ys,aI K H b ys->ys[i]?=some y)/\c=upd H p (.tup [x,y]),
  λi H=>∃xs ys,aI K H a xs/\aI K H b ys/\(xs.c<=i\/ys.c<=i)]
theorem IK{P:Program}{w:World}{K:Frag}{elts:List Expr}{kx:Nat}{px:Pos}{a b z TI TO p j:Addr}(D:ZipApart z TI TO p j a b) :
  Turn P w K (.Tuple elts kx px) (PU K a b) [z,TI,TO,p,j] z (λi h=>IsZip h z TI TO .none/\IsPair h TI (.ref p) (.ref j)/\(∃u v,IsPair h TO u v)/\h.IsListIter p a i/\h.IsListIter j b i) where
 mem:=by simp
 obj:=λi h st c e=>by let#[m,f,#[u,v,g],n,l]:=st;simp[zbp,zaV,zbs]at e;ext(rfl|rfl|rfl|rfl|rfl:e);exact#[_,m,λv q=>by cases q];exact#[_,f,λv q=>by cases q];exact#[_,g,λv q=>by cases q];let#[o,Q,_,d]:=n;exact#[o,Q,λv q=>by rw[d]at q;cases q];let#[o,Q,_,d]:=l;exact#[o,Q,λv q=>by rw[d]at q;cases q]
 keep:=λi h h' st k=>by let#[m,f,#[u,v,g],n,l]:=st;exact#[k z A? _ m,k TI A? _ f,#[u,v,k TO A? _ g],n.at λo q=>k p A? o q,l.at λo q=>k j A? o q]
 item:=by
  ext X F M O e i pins s σ H E I t st S;subst F M O;let#[m,f,#[u,v,g],n,l]:=st;let#[xs,ys,x,y,A,B,hx,hy]:=S;let#[ia,N,G,za]:=I.list A;let#[ib,L,C,zb]:=I.list B;let#[W,Y7,MO]:=N.get hx;let#[Y,Y6,MN]:=L.get hy;let U:∀c∈[z,TI,TO,p,j],c<s.d:=λc e=>by simp[zbp,zaV,zbs]at e;ext(rfl|rfl|rfl|rfl|rfl:e);exact zar m;exact zar f;exact zar g;let#[_,q,_]:=id n;exact zar q;let#[_,q,_]:=id l;exact zar q
  refine wpAny_pyNext_zip_item D m f g n l G.isList C.isList (~~~Y7) (~~~Y6) λh' k1 k2 k3 k4 hT hsz Z=>#[_,rfl,?_];refine wpAny_letOwnedTupleGo_zip k1 λzX vV r=>?_;let kk:∀c o,c∉[z,TI,TO,p,j]->s.heap.get? c=some o->zX.get? c=some o:=λc o e q=>by simp[zbp,zaV,zbs,zen]at e;exact(r.2 c e.1).trans<|Z c o e.1 e.2.2.1 e.2.2.2.1 e.2.2.2.2 q
  let ZK:=(r.2 _<|zbM<|U z A?).trans hT;refine#[.ref s.d,upd H s.d<|.tup [x,y],Inv.jO (s:=s) (h':=zX) (t':=s.toks) I kk t (zaf _) #[by simp[zbi,zej];rw[zcE];decide,[W,Y],.cons MO<|.cons MN .nil,#[_,ZK,rfl,_,rfl]],rfl,
   #[_,x,y,I.cw.fresh<|zaf _,rfl,λTd R=>I.oD R A>>hx,λTd R=>I.oD R B>>hy,rfl],#[vV,?_,#[W,Y,(r.2 _ D.TOz).trans k2],k3.at λo q=>(r.2 p D.i1z).trans q,k4.at λo q=>(r.2 j D.i2z).trans q],λc e=>?_]
  exact(r.2 _ D.TIz).trans<|Z TI _ D.TIz D.TITO D.TIi1 D.TIi2 f;erw[aG<|zba<|U c e,(t c e).1]
 done:=by ext X F M O e i pins s σ H E I t st S;subst F M O;let#[m,f,#[u,v,g],n,l]:=st;let#[xs,ys,A,B,Cm]:=S;let#[ia,N,G,za]:=I.list A;let#[ib,L,C,zb]:=I.list B;let la:=N.c;let lb:=L.c;refine wpAny_pyNext_zip_end (I.ok.hd e) D m f g n l G.isList C.isList ?_ λh' eb=>#[rfl,Inv.rC I (λc o e q=>?_) t];ext(q|q:Cm);left;simp;lia;right;simp;lia;simp[zbp,zaV,zbs,zen]at e;exact eb c o e.1 e.2.2.1 e.2.2.2.1 e.2.2.2.2 q
 self:=λ_ _ _ _ _ st h=>zeJ st.1 h
noncomputable def Y1(K:Frag)(e:TA):TI:=λd H R=>e d H λvs c=>∃a b,vs=[.ref a,.ref b]/\(∃xs,aI K c a xs)/\(∃ys,aI K c b ys)/\R (PU K a b) c
theorem qx:bootBuiltins "zip"=some (.type "zip"):=by decide +kernel
theorem y9{X:Cx}{l m:Expr}{y:TA}{p i:Pos}{elts:List Expr}{Z:Nat}{B:Pos}(Y:X.mg "zip"=none)(M:PA X [l,m] y)(Q:Gl X "zip":=by rfl)(U:starEach [l,m] X.env=(false,eval l X.env)::starEach [m] X.env:=by rfl)(AD:(backTo i<|starEach [m] X.env).any (·.1)=false:=by rfl) :
  PI X (.Tuple elts Z B) (.Call (.Name "zip" p) [l,m] [] i) (Y1 X.K y):=by
 ext pins s F H R I h;refine Call_<|dM I Q Y qx<|zaJ (dD (M i pins s F H _ I h) λus d ⟨vs,C,n,P,G⟩=>?_) U AD;let#[a,b,rfl,#[xs,Iv],#[ys,W],q]:=G;let#[u1,u2,rfl,O,L]:=vals2 P;cases O;cases L;let#[ia,ra,A,za]:=n.list Iv;let#[ib,rb,x,zb]:=n.list W;let r:a<d.d:=by let#[_,e,_]:=A.isList;exact zar e
 let t:b<d.d:=by let#[_,e,_]:=x.isList;exact zar e
 let f:∀{j k:Nat},j≠k->d.d+j≠d.d+k:=λh z=>h<|zfi z;let g:∀{c:Addr} (k:Nat),c<d.d->c≠d.d+k:=λk l=>zba<|zaQ l<|zbw _ _;let D:ZipApart (d.d+4) (d.d+2) (d.d+3) d.d (d.d+1) a b:=
  #[f B!,f B!,f (j:=0) B!,f B!,f B!,f (k:=0) B!,f B!,f (k:=0) B!,f B!,f (j:=0) B!,g _ r,g _ r,g 0 r,g _ r,g _ t,g _ t,g 0 t,g _ t]
 refine call_zip_2 A.isList x.isList λh' v N Em E h2 hsz S=>?_;refine zeJ v ?_;refine#[_,[d.d+4,d.d+2,d.d+3,d.d,d.d+1],_,_,C,rfl,n.kept (t':=d.toks) λc o e=>S c o e,IK D,#[v,N,#[_,_,Em],E,h2],λc u=>?_,q];let w:d.d<=c:=by simp[zbp,zaV,zbs]at u;ext(rfl|rfl|rfl|rfl|rfl:u);exact zbw _ _;exact zbw _ _;exact zbw _ _;exact zaf _;exact zbw _ _
 exact n.qZ w<|n.cw.fresh w
theorem N2{K:Frag}{a b:Addr}{xs ys:List V}{g:TG}{q:TS}{D:Ends}{c:St}{H:Hp}(d:Nat->St->Hp->Prop)(z:d 0 c H)(L:xs.c=ys.c)(t:∀i c H,i<=xs.c->d i c H->aI K H a xs/\aI K H b ys)(E:∀i x y p c H,xs[i]?=some x->ys[i]?=some y->d i c H->H p=none->InF (d (i+1)) g q D (.ref p) c (upd H p<|.tup [x,y]))(I:∀c H,d xs.c c H->D.nx c H):FW (PU K a b) g q D c H:=
 FW.of xs.c d z (λi c H s p=>by let#[k,l]:=t i c H () p;let G:i<ys.c:=();exact#[#[xs,ys,xs[i],ys[i],k,l,by simp[s],by simp[G]],λx j y=>by obtain⟨r,u,v,A,rfl,B,w,rfl⟩:=y;exact E i u v r c H (B xs k) (w ys l) p A]) (λc H p=>by let#[k,l]:=t _ c H (zaf _) p;exact#[xs,ys,k,l,.inl<|zaf _]) I
end L2
namespace Gm
open PySem L2
theorem FZ:∀{l r:dy},l.Pairwise (λa b=>HT.fi a b=true)->r.Pairwise (λa b=>HT.fi a b=true)->(∀x,x∈l↔x∈r)->l=r
 | [],[],_,_,_=>rfl
 | [],b::r,_,_,h=>absurd ((h b).mpr zan) A?
 | a::l,[],_,_,h=>absurd ((h a).mp zan) A?
 | a::l,b::r,hl,hr,h=>by
  let#[f,i]:=zel.mp hl;let#[g,j]:=zel.mp hr;let c:∀{x y:dm},HT.fi x y=true->HT.fi y x=true->False:=λp q=>by let:=B4 p;rw[q]at this;cases this
  let e:a=b:=by ext(z|z:zaw.mp<|(h a).mp zan);exact z;ext(y|y:zaw.mp<|(h b).mpr zan);exact y.symm;exact(c (g a z)<|f b y).elim
  subst e;let d:∀{x:dm},HT.fi x x=true->False:=λp=>by rw[rZ]at p;cases p
  rw[FZ i j λx=>?_];constructor;ext z;ext(y|y:zaw.mp<|(h x).mp<|zae _ z);subst y;exact(d<|f x z).elim;exact y;ext z;ext(y|y:zaw.mp<|(h x).mpr<|zae _ z);subst y;exact(d<|g x z).elim;exact y
theorem Good.it{L:dy}{r:dm}(g:Good L r)(j:Nat):∀i,dj r (j+i)=Gm.it L (dj r j) i
 | 0=>rfl
 | i+1=>by show dj r (j+i+1)=nx L (Gm.it L (dj r j) i);rw[<-g.it j i,g.st]
theorem G4(g:Good L r)(k:Good L q)(n1:(sh 0 r).Nodup)(n2:(sh 0 q).Nodup)(h:dj r 0=dj q j):∃c,c<q.c/\r=du q c:=by
 let s:0<r.c:=by let:=g.two;lia
 let a:0<q.c:=by let:=k.two;lia
 let mem:∀x,x∈sh 0 r↔x∈sh 0 q:=λx=>by let cr:=g.jM;let m:=k.jM;let n:dj r 0∈sh 0 r:=(bN s).mpr #[0,rfl];let l:dj r 0∈sh 0 q:=(bN a).mpr #[j,h];constructor;ext z;exact cr.conn n z l λd _ e=>m.on e;ext z;exact m.conn l z n λd _ e=>cr.on e
 let b:r.c=q.c:=by let:=len_eq n1 n2 mem;rwa [dE,dE]at this
 refine#[j%q.c,zaI _ a,?_];refine Lz (by rw[cZ<|zbL<|zaI _ a,b]) λi=>?_;rw[iZ<|zaI _ a];let o:dj r i=dj q (j+i):=by let f:=g.it 0 i;rw[zcl]at f;rw[f,k.it j i,h]
 let p:cy r i=cy q (j+i):=zaC Prod.fst o;erw[p,bT<|by rw[zfa,zdy]]
theorem dU.sub(h:dU L R)(k:dU L S)(f:r∈R):r∈S:=by
 let g:=h.good r f;let t:0<r.c:=by let:=g.two;lia
 let#[q,a,p]:=zaG.mp<|k.all _<|g.dt 0;let i:=k.good q a;let n:0<q.c:=by let:=i.two;lia
 let#[j,o]:=(bN n).mp p;let#[c,d,e]:=G4 g i ((zdH.mp h.nd).1 r f) ((zdH.mp k.nd).1 q a) o;let l:Le q r:=e>>k.least q a c d
 let m:Le r q:=by
  ext(z:c=0);let:r=q:=by rw[e,z];unfold du;simp
  rw[this];exact Le.refl _;let s:r.c=q.c:=by rw[e,cZ<|zbL d]
  let:=h.least r f (q.c-c) ();rw[e]at this ⊢;rw[yQ d (),show q.c-c+c=q.c by lia,zdz]at this;let b:du q 0=q:=by unfold du;simp
  rwa[b]at this
 erw[Le.Wm m l,a]
theorem dU.unique(h:dU L R)(k:dU L S):R=S:=FZ h.sorted k.sorted λ_=>#[λz=>h.sub k z,λz=>k.sub h z]
noncomputable def eD(a b:dm):Prop:=a=b\/∃c,c<b.c/\a=du b c
theorem eD.len(h:eD a b):a.c=b.c:=by ext(rfl|⟨c,d,rfl⟩:h);rfl;exact cZ<|zbL d
end Gm
namespace L2
open PySem PySem.Spec PySem.W PySem.Calls PyProof.Rows
theorem EH:bootBuiltins "max"=some (.builtin "max"):=by decide +kernel
end L2
namespace Gm
open PySem L2
theorem eD.perm(h:eD a b):a.Perm b:=by ext(rfl|⟨c,d,rfl⟩:h);exact zfu _;unfold du;exact(perm_append_comm).trans (by rw[zcA])
theorem aH.Nk(m:aH M)(f:L.c=M.c)(h:∀(i:Nat) (l k:dm),L[i]?=some l->M[i]?=some k->l.Perm k):aH L:=by
 let a:∀(j:Nat) (x:dm),L[j]?=some x->∃y,M[j]?=some y/\x.Perm y:=λj x e=>by
  let g:j<M.c:=by erw[<-f,(zab.mp e).1]
  exact#[M[j],zac g,h j x M[j] e<|zac g]
 refine#[λj x e=>?_,λj x e y d=>?_,λj x e y d k n z o=>?_];let#[y,b,c]:=a j x e;exact c.nodup_iff.mpr<|m.nd _ _ b;let#[w,b,c]:=a j x e;rw[f];exact m.rg _ _ b y<|c.mem_iff.mp d;let#[w,b,c]:=a j x e;let#[r,p,q]:=a k z o;exact q.mem_iff.mpr<|m.sy _ _ b y (c.mem_iff.mp d) k n _ p
noncomputable def cY(L M:dy):Prop:=L.c=M.c/\∀(i:Nat) (l m:dm),L[i]?=some l->M[i]?=some m->eD l m
theorem cY.iV(h:cY L M)(m:aH M):aH L:=m.Nk h.1 λi l k a b=>(h.2 i l k a b).perm
theorem cY.mem(h:cY L M){x y:Int}(a:0<=x)(b:x<L.c):y∈ez L x↔y∈ez M x:=by exact(h.2 _ _ _ (aK a b)<|aK a<|by erw[<-h.1,b]).perm.mem_iff
theorem eD.trans(h:eD a b)(k:eD b c):eD a c:=by ext(rfl|⟨j,d,rfl⟩:k);exact h;ext(rfl|⟨i,e,rfl⟩:h);exact .inr #[j,d,rfl];rw[cZ<|zbL d]at e;erw[yQ d e,.inr #[_,zaI _ (),rfl]]
theorem cY.row(h:cY L M){x:Int}(a:0<=x)(b:x<L.c):eD (ez L x)<|ez M x:=h.2 _ _ _ (aK a b) (aK a<|by erw[<-h.1,b])
theorem cY.dt(h:cY L M)(k:Dt M d):Dt L d:=#[k.lo,h.1>>k.hi,(h.mem k.lo<|h.1>>k.hi).mpr k.mem]
end Gm
namespace PySem
abbrev wA(h:Heap)(z TI TO a:Addr)(f:Bool):Prop:=
 h.get? z=some { cls:=.type "zip",dict:=none,data:=.fields #[rawInt a,.bool f,.bool false,.ref TI,.ref TO,],slots:=#[] }
theorem IE(b:s.heap.get? a=some o)(h:Q (some o) s):wpAny (model prog w) A (loadIfAlive a) Q E s:=by
 let h':Q (s.heap.get? a) s:=b>>h
 exact λ_ _ _=>h'
theorem ET(d:wA s.heap z TI TO a f)(g:s.heap.get? a=some oa)(h:∀h',wA h' z TI TO a true->Heap.SameBut z s.heap h'->Q false { s with heap:=h' }):wpAny (model prog w) A (Builtin.SmallTypes.ownedTupleIsFree<|.ref z) Q E s:=by
 unfold Builtin.SmallTypes.ownedTupleIsFree;refine zad<|zdP d rfl rfl ?_;show wpAny _ _ (loadIfAlive ((a:Int).toNat) >>= _) _ _ _;rw[zaB];refine zad<|IE g ?_;simp only[Option.isNone_some,zbD,zcP];refine zad<|zdP d rfl (x:=.bool f) rfl ?_;cases f with
 | true=>
  erw[zaj<|show ¬((Value.bool true != Value.bool true)=true)from zaE,zay<|h _ d<|Heap.SameBut.refl _ _]
 | false=>
  rw[zam<|show(Value.bool false != Value.bool true)=true from rfl];refine zad<|wpAny_setField_rec d A? λe c b=>?_;exact zay<|h _ c b
theorem Mu{z TI TO m l n p a:Addr}{f:Bool}{F:Obj}{q t:Nat}{xs ys:Array Value}{x y:Value}{Q:da}(D:ZipApart z TI TO m l n p)(u:wA s.heap z TI TO a f)(H:s.heap.get? a=some F)(I:IsPair s.heap TI (.ref m)<|.ref l)(C:s.heap.IsListIter m n q)(S:s.heap.IsListIter l p t)(K:s.heap.IsList n xs)(N:s.heap.IsList p ys)(O:xs[q]?=some x)(P:ys[t]?=some y)(R:∀h',wA h' z TI TO a true->h'.IsListIter m n (q+1)->h'.IsListIter l p (t+1)->IsPair h' s.d x y->h'.e=s.d+1->
   (∀c o,c≠z->c≠m->c≠l->s.heap.get? c=some o->h'.get? c=some o)->Q (.ref s.d) { s with heap:=h' }) :
  wpAny (model prog w) A (Builtin.«zip.__next__» #[[.ref z],[]]) (λr G=>∃v,r=.done (.ret v)/\Q v G) E s:=by
 show wpAny _ _ (field (.ref z) 2 >>= _) _ _ _;refine zad<|zdP u rfl rfl ?_;refine zad<|zdP u rfl rfl ?_;refine zad<|zcG I rfl ?_;refine zad<|ET u H λh₁ j b=>?_;simp only[zbD,zcP];refine zad ?_;rw[<-Array.forIn_toList];simp only[forIn_cons,forIn_nil];refine zad<|zad<|zbS ?_;refine zad<|wpAny_nextOf_list_item (C.extBut b.extBut D.i1z) (K.extBut b.extBut D.l1z) O λB i d=>zay<|zay ?_;refine zad<|zad<|zbS ?_;refine zad<|wpAny_nextOf_list_item ((S.extBut b.extBut D.i2z).extBut d.extBut D.i12.symm)
  ((N.extBut b.extBut D.l2z).extBut d.extBut D.l2i1) P λk h g=>zay<|zay<|zay ?_
 refine zad<|wpAny_newTuple (hsz:=by show 2<=sizeLine;rw[zcE];decide) ?_;refine zay #[_,rfl,?_];let hsz:k.e=s.d:=by rw[g.1,d.1,b.1]
 rw[hsz];refine R _ (zap _<|g.extBut _ _ D.i2z.symm<|d.extBut _ _ D.i1z.symm j) ((i.extBut g.extBut D.i12).at λo e=>zap _ e) (h.at λo e=>zap _ e) (by erw[<-hsz,zaK _ rfl]) (by rw[Heap.size_push,hsz]) λc o U L M e=>
  zap _ (g.extBut _ _ M<|d.extBut _ _ L<|b.extBut _ _ U e)
theorem PY(n:A.handled=none)(D:ZipApart z TI TO i1 i2 l1 l2)(h:wA s.heap z TI TO a f)(r:s.heap.get? a=some oa)(t:IsPair s.heap TI (.ref i1)<|.ref i2)(l:s.heap.IsListIter i1 l1 k1)(y:s.heap.IsListIter i2 l2 k2)(j:s.heap.IsList l1 xs)(v:s.heap.IsList l2 ys)(k:xs[k1]?=none)(m:∀h' e,(∀c o,c≠z->c≠i1->c≠i2->s.heap.get? c=some o->h'.get? c=some o)->(∃o,h'.get? e=some o/\o.cls=.type "StopIteration")->E (.ref e) { s with heap:=h' }) :
  wpAny (model prog w) A (Builtin.«zip.__next__» #[[.ref z],[]]) Q E s:=by
 show wpAny _ _ (field (.ref z) 2 >>= _) _ _ _;refine zad<|zdP h rfl rfl ?_;refine zad<|zdP h rfl rfl ?_;refine zad<|zcG t rfl ?_;refine zad<|ET h r λh₁ i b=>?_;simp only[zbD,zcP];refine zad ?_;rw[<-Array.forIn_toList];simp only[forIn_cons,forIn_nil];refine zad<|zad<|zbS ?_;refine zad<|wpAny_nextOf_list_end n (l.extBut b.extBut D.i1z) (j.extBut b.extBut D.l1z) k λg e d q=>?_;exact m g e (λc o u p _ x=>d _ _ p<|b.extBut _ _ u x) q
theorem GR(D:ZipApart z TI TO i1 i2 l1 l2)(b:wA s.heap z TI TO a f)(t:s.heap.get? a=some oa)(u:IsPair s.heap TI (.ref i1)<|.ref i2)(i:s.heap.IsListIter i1 l1 k1)(r:s.heap.IsListIter i2 l2 k2)(e:s.heap.IsList l1 xs)(m:s.heap.IsList l2 ys)(n:xs[k1]?=some x)(k:ys[k2]?=some y)(p:∀h',wA h' z TI TO a true->h'.IsListIter i1 l1 (k1+1)->h'.IsListIter i2 l2 (k2+1)->IsPair h' s.d x y->h'.e=s.d+1->
   (∀c o,c≠z->c≠i1->c≠i2->s.heap.get? c=some o->h'.get? c=some o)->Q (some<|.ref s.d) { s with heap:=h' }) :
  wpAny (model prog w) A (pyNext<|.ref z) Q E s:=by
 let d:s.TypeIs (.ref z) "zip":=#[_,b,rfl];unfold pyNext;exact zad<|wpAny_attempt<|zcM d zfc<|zcT zfc d F.entry_zip_next
   (Mu D b t u i r e m n k λh' h l j v g q=>zay<|p h' h l j v g q)<|F.args_zip_next_1 _
theorem ID(k:A.handled=none)(D:ZipApart z TI TO i1 i2 l1 l2)(b:wA s.heap z TI TO a f)(t:s.heap.get? a=some oa)(u:IsPair s.heap TI (.ref i1)<|.ref i2)(i:s.heap.IsListIter i1 l1 k1)(q:s.heap.IsListIter i2 l2 k2)(g:s.heap.IsList l1 xs)(n:s.heap.IsList l2 ys)(h:xs[k1]?=none)(p:∀h',(∀c o,c≠z->c≠i1->c≠i2->s.heap.get? c=some o->h'.get? c=some o)->Q none { s with heap:=h' }):wpAny (model prog w) A (pyNext<|.ref z) Q E s:=by
 let d:s.TypeIs (.ref z) "zip":=#[_,b,rfl];unfold pyNext;refine zad<|wpAny_attempt<|zcM d zfc<|zcT zfc d F.entry_zip_next (PY k D b t u i q g n h λh' e j l=>?_)<|F.args_zip_next_1 _
 let#[o,r,m]:=l;refine zad<|wpAny_isInstance #[o,r,m] isSubtype_stop ?_;exact zay<|p _ j
structure qP(h:Heap)(z TI TO i1 i2 l1 l2 S:Addr)(i:Nat):Prop where
 own:(i=0/\IsZip h z TI TO .none/\∃a b,IsPair h TO a b)\/∃a f oa,wA h z TI TO a f/\h.get? a=some oa/\a∉[z,i1,i2,S]
 it:IsPair h TI (.ref i1) (.ref i2)
 one:h.IsListIter i1 l1 i
 two:h.IsListIter i2 l2 i
theorem qP.keep(x:qP h z TI TO i1 i2 l1 l2 S i)(c:∀b o,b≠S->h.get? b=some o->h'.get? b=some o)(k:S∉[z,TI,TO,i1,i2]):qP h' z TI TO i1 i2 l1 l2 S i:=by simp[zbp,zaV,zbs,zen]at k;let#[n1,n2,n3,l,n]:=k;refine#[?_,c _ _ (zbl n2) x.it,x.one.at λo e=>c _ _ (zbl l) e,x.two.at λo e=>c _ _ (zbl n) e];ext(⟨e,d,a,b,j⟩|⟨a,f,m,d,j,g⟩:x.own);exact .inl #[e,c _ _ (zbl n1) d,a,b,c _ _ (zbl n3) j];refine .inr #[a,f,m,c _ _ (zbl n1) d,c _ _ ?_ j,g];simp[zbp,zaV,zbs,zen]at g;exact g.2.2.2
structure Oo(xs ys:Array Value)(lo:Addr)(h:Heap)(as:cx):Prop where
 rise:as.Pairwise (·<·)
 above:∀a∈as,lo<=a
 pairs:∀(j:Nat) (a:Addr),as[j]?=some a->∃x y,xs[j]?=some x/\ys[j]?=some y/\IsPair h a x y
theorem ES(D:ZipApart z TI TO i1 i2 l1 l2)(st:qP s.heap z TI TO i1 i2 l1 l2 S i)(X:S<s.d)(K:s.heap.IsList l1 xs)(N:s.heap.IsList l2 ys)(O:xs[i]?=some x)(M:ys[i]?=some y)(P:∀h',qP h' z TI TO i1 i2 l1 l2 S (i+1)->IsPair h' s.d x y->h'.e=s.d+1->
   (∀c o,c∉[z,TO,i1,i2]->s.heap.get? c=some o->h'.get? c=some o)->Q (some<|.ref s.d) { s with heap:=h' }) :
  wpAny (model prog w) A (pyNext<|.ref z) Q E s:=by
 let B:i1<s.d:=by let#[_,e,_]:=st.one;exact zar e
 let H:i2<s.d:=by let#[_,e,_]:=st.two;exact zar e
 let f:∀{c p q r t:Addr},c∉[p,q,r,t]->c≠p/\c≠q/\c≠r/\c≠t:=λh=>by simpa only [zbp,zaV,zbs,zen]using h
 let g:∀{c p q r t:Addr},c≠p->c≠q->c≠r->c≠t->c∉[p,q,r,t]:=λd k l U=>by simp[zbp,zaV,zbs,zen];exact#[d,k,l,U]
 ext(⟨rfl,d,a,b,k⟩|⟨a,fl,W,d,k,l⟩:st.own);refine wpAny_pyNext_zip_item D d st.it k st.one st.two K N O M λh' F Y C n m hsz j=>P h' #[.inr #[_,false,_,F,m,g (zbM<|zar d) (zbM B) (zbM H)<|zbM X],j _ _ D.TIz D.TITO D.TIi1 D.TIi2 st.it,C,n] m hsz λc o v e=>?_;let#[I,L,G,u]:=f v;exact j c o I L G u e;let#[b1,b2,R,Z]:=f l;refine GR D d k st.it st.one st.two K N O M λh' F C n m hsz j=>P h' #[.inr #[a,true,W,F,j _ _ b1 b2 R k,l],j _ _ D.TIz D.TIi1 D.TIi2 st.it,C,n] m hsz λc o v e=>?_;let#[I,L,G,u]:=f v;exact j c o I G u e
theorem IC(y:A.handled=none)(D:ZipApart z TI TO i1 i2 l1 l2)(st:qP s.heap z TI TO i1 i2 l1 l2 S i)(u:s.heap.IsList l1 xs)(B:s.heap.IsList l2 ys)(v:xs[i]?=none)(C:∀h',(∀c o,c∉[z,TO,i1,i2]->s.heap.get? c=some o->h'.get? c=some o)->Q none { s with heap:=h' }):wpAny (model prog w) A (pyNext<|.ref z) Q E s:=by
 let f:∀{c p q r t:Addr},c∉[p,q,r,t]->c≠p/\c≠q/\c≠r/\c≠t:=λh=>by simpa only [zbp,zaV,zbs,zen]using h
 ext(⟨rfl,d,a,b,m⟩|⟨a,fl,G,d,m,F⟩:st.own);refine wpAny_pyNext_zip_end y D d st.it m st.one st.two u B (.inl v) λh' g=>C h' λc o l e=>?_;let#[n,x,k,j]:=f l;exact g c o n x k j e;refine ID y D d m st.it st.one st.two u B v λh' g=>C h' λc o l e=>?_;let#[n,x,k,j]:=f l;exact g c o n k j e
section
variable {prog:Program} {w:World} {A:Around} {s:Shared} {R:Result->Shared->Prop} {xs ys:Array Value}
theorem Mt(hh:A.handled=none)(D:ZipApart z TI TO i1 i2 l1 l2)(r:S∉[z,TI,TO,i1,i2])(Xq:l1≠S)(Dg:l2≠S)(uH:xs.size=ys.size)(hn:xs.size<=sizeLine)(res:Value){h₁:Heap}(hR:∀h' p d c f,(∀b o,b≠S->b∉[z,TO,i1,i2]->h₁.get? b=some o->h'.get? b=some o)->h'.get? S=some { cls:=.type "list",dict:=none,data:=.seq d c,slots:=#[] }->f.c=xs.size->Oo xs ys h₁.e h' f->
   d.toList=f.map Value.ref->R (.ok<|.ret res) { s with heap:=h',toks:=p }) :
  ∀(k i:Nat) (h:Heap) (p c:Nat) (d:Array Value) (f:cx),xs.size-i=k->i<=xs.size->qP h z TI TO i1 i2 l1 l2 S i->h.IsList l1 xs->h.IsList l2 ys->(∀b o,b≠S->b∉[z,TO,i1,i2]->h₁.get? b=some o->h.get? b=some o)->
   h.get? S=some { cls:=.type "list",dict:=none,data:=.seq d c,slots:=#[] }->d.toList=f.map Value.ref->f.c=i->Oo xs ys h₁.e h f->h₁.e<=h.e->(∀c∈[z,TO,i1,i2],c<h₁.e)->S<h₁.e->
   codeAny (model prog w) A (.builtin "list.extend.loop" #[[.ref S,.ref z,res],[]]) R { s with heap:=h,toks:=p }:=by
 let v:S∉[z,TO,i1,i2]:=by simp[zbp,zaV,zbs,zen]at r ⊢;exact#[r.1,r.2.2.1,r.2.2.2.1,r.2.2.2.2]
 ext k;induction k with
 | zero=>
  ext i h p c d f hk hi X G H N C E u l hsz I W;let ac:i=xs.size:=();refine zck PySem.F.entry_extend_loop ?_;rw[zbO zcx _];refine zad<|IC hh D X G H (by rw[zeD];lia) λh' Y=>?_;refine zay<|hR h' p d c f (λb o m B e=>Y b o B<|N b o m B e) (Y S _ v C) () #[l.rise,l.above,λj a g=>?_] E;let#[x,y,K,U,P]:=l.pairs j a g;refine#[x,y,K,U,Y a _ (λZ=>?_) P];exact absurd (I a Z)<|zfS.mpr<|l.above a<|zag g
 | succ k ih=>
  ext i h p c d f hk hi X G H N C E u l hsz I W;let L:i<xs.size:=();let Pm:i<ys.size:=();let UT:d.size=i:=by rw[<-zbm,E,zaa,u]
  refine zck PySem.F.entry_extend_loop ?_;rw[zbO zcx _];refine zad<|ES (x:=xs[i]) (y:=ys[i]) D X (zar C) G H (by simp[L]) (by simp[Pm]) λh' Za M hz t=>?_;dsimp only at M hz t ⊢;let SO:=t S _ v C;let up:∀b o,b≠S->h'.get? b=some o->(h'.update S<|Obj.mapSeq (·.push (Value.ref h.e))).get? b=some o:=λb o n e=>(zbF _ _<|zbl n).trans e;let VD:=zar C;let O:l1∉[z,TO,i1,i2]:=by simp[zbp,zaV,zbs,zen];exact#[D.l1z,D.l1TO,D.l1i1,D.l1i2]
  let Q:l2∉[z,TO,i1,i2]:=by simp[zbp,zaV,zbs,zen];exact#[D.l2z,D.l2TO,D.l2i1,D.l2i2]
  refine zad ?_;refine zcN SO rfl (zay #[zci zcx _,ih (i+1) _ p _ (d.push<|Value.ref h.e) (f++[h.e]) () L (Za.keep up r)
   (G.at λo e=>up l1 o Xq<|t l1 o O e) (H.at λo e=>up l2 o Dg<|t l2 o Q e)
   (λb o m B e=>up b o m<|t b o B<|N b o m B e) (zbI _ SO rfl) (by rw[Array.toList_push,E,zat];rfl) (by rw[zav,u];rfl) #[?_,?_,?_] ?_ I W]) (by rw[UT];lia) (by show(d.push<|Value.ref h.e).size<=sizeLine+1;rw[Array.size_push,UT];lia)
  refine List.pairwise_append.mpr #[l.rise,pairwise_singleton _ _,λa q b n=>?_];rw[zai.mp n];let#[j,g]:=zaS.mp q;let#[_,_,_,_,e]:=l.pairs j a g;exact zar e;ext a q;ext(q|q:zal.mp q);exact l.above a q;rw[zai.mp q];exact hsz;ext j b g;ext(m|m|m:zcL j f.c);rw[zaU m]at g;let#[x',y',K,U,P]:=l.pairs j b g;let n:=l.above b<|zag g;exact#[x',y',K,U,up b _ (zbM<|zaQ W n)<|t b _ (λZ=>absurd (I b Z)<|zfS.mpr n) P];subst m;let n:h.e=b:= ~~~g
  subst n;exact#[xs[i],ys[i],by rw[u];simp[L],by rw[u];simp[Pm],up _ _ (zbM VD) M];rw[zbR<|by rw[zav,zbd];lia]at g;cases g;exact zaX hsz<|zbL<|zar<|up _ _ (zbM VD) M
end
namespace F
theorem Dk:typeLookup (.type "zip") "__len__"=pure none:=by rw[zdF,zcy];kernel_rfl
theorem AN:typeLookup (.type "zip") "__length_hint__"=pure none:=by rw[zdF,zcy];kernel_rfl
end F
section
variable {prog:Program} {w:World} {A:Around} {E:da} {s:Shared} {xs ys:Array Value}
theorem GQ(Y:A.handled=none)(D:ZipApart z TI TO i1 i2 l1 l2)(x:S∉[z,TI,TO,i1,i2])(u:l1≠S)(B:l2≠S)(M:xs.size=ys.size)(O:xs.size<=sizeLine)(res:Value)(i:Nat)(m:IsZip s.heap z TI TO .none)(n:∃a b,IsPair s.heap TO a b)(Q:IsPair s.heap TI (.ref i1)<|.ref i2)(v:s.heap.IsListIter i1 l1 0)(C:s.heap.IsListIter i2 l2 0)(W:s.heap.IsList l1 xs)(oI:s.heap.IsList l2 ys)(t:s.heap.get? S=some { cls:=.type "list",data:=.seq #[] i })(Z:∀h' I h c r,(∀b o,b≠S->b∉[z,TO,i1,i2]->s.heap.get? b=some o->h'.get? b=some o)->h'.get? S=some { cls:=.type "list",dict:=none,data:=.seq h c,slots:=#[] }->r.c=xs.size->Oo xs ys s.d h' r->
   h.toList=r.map Value.ref->R (.ok<|.ret res) { s with heap:=h',toks:=I }) :
  wpAny (model prog w) A.in1 (Builtin.List.listExtendWith (.ref S) (.ref z) res)
   (λq k=>match q with | .done f=>R (.ok f) k | .again c'=>c'.quiet=true/\codeAny (model prog w) A c' R k) (λe k=>R (.error e) k) s:=by
 let G:=x;simp[zbp,zaV,zbs,zen]at G;let#[n1,n2,n3,K,U]:=G;let p:s.TypeIs (.ref z) "zip":=#[_,m,rfl];unfold Builtin.List.listExtendWith;refine zad<|zfk p ?_;let N:Builtin.List.listSameRef (.ref S) (.ref z)=false:=by simp[Builtin.List.listSameRef,n1]
 let L:(Value.type "zip"==Value.type "list")=false:=by decide
 let X:(Value.type "zip"==Value.type "tuple")=false:=by decide
 simp[N,L,X,Bool.or_false,zbD,zcP];refine zad<|zeJ m ?_;refine zad<|zbS ?_;unfold Builtin.List.listLengthHint;refine zad<|zdB p F.Dk ?_;refine zad<|zdB p F.AN ?_;refine zay ?_;show wpAny _ A.in1 (rule "list.extend.makes-room" >>= λ_=>Builtin.List.listTouch (.ref S) >>= λ_=>
  again<|.builtin "list.extend.loop" #[[.ref S,.ref z,res],[]]) _ _ _
 refine zad<|wpAny_rule ?_;refine zad ?_;refine zad<|zcN t rfl ?_;let d:=zbI (Obj.mapSeq (·.push Value.none)) t rfl;refine zcN d rfl ?_;let g:∀b o,b≠S->s.heap.get? b=some o->((s.heap.update S<|Obj.mapSeq (·.push Value.none)).update S<|Obj.mapSeq (·.pop)).get? b=some o:=λb o l e=>(zbF _ _<|zbl l).trans<|(zbF _ _<|zbl l).trans e;let#[a,b,n]:=n;refine zay #[zci zcx _,Mt Y D x u B M O res Z xs.size 0 _ _ _ #[] [] (zfm _) (zaR _)
  #[.inl #[rfl,g _ _ (zbl n1) m,a,b,g _ _ (zbl n3) n],g _ _ (zbl n2) Q,v.at λo e=>g _ _ (zbl K) e,C.at λo e=>g _ _ (zbl U) e] (W.at λo e=>g _ _ u e) (oI.at λo e=>g _ _ B e)
  (λb o l _ e=>g b o l e) (zbI (Obj.mapSeq (·.pop)) d rfl) rfl rfl #[List.Pairwise.nil,(λ_ P=>nomatch P),(λj a H=>by simp at H)] (by simp[zdU]) (λc y=>?_)<|zar t]
 simp[zbp,zaV,zbs]at y;ext(rfl|rfl|rfl|rfl:y);exact zar m;exact zar n;let#[_,e,_]:=v;exact zar e;let#[_,e,_]:=C;exact zar e
theorem wj(R:A.handled=none)(D:ZipApart z TI TO i1 i2 l1 l2)(I:xs.size=ys.size)(L:xs.size<=sizeLine)(x:IsZip s.heap z TI TO .none)(j:∃a b,IsPair s.heap TO a b)(u:IsPair s.heap TI (.ref i1)<|.ref i2)(r:s.heap.IsListIter i1 l1 0)(C:s.heap.IsListIter i2 l2 0)(v:s.heap.IsList l1 xs)(B:s.heap.IsList l2 ys)(S:∀h' l f c i,(∀b o,b∉[z,TO,i1,i2]->s.heap.get? b=some o->h'.get? b=some o)->h'.get? s.d=some { cls:=.type "list",dict:=none,data:=.seq f c,slots:=#[] }->i.c=xs.size->Oo xs ys (s.d+1) h' i->
   f.toList=i.map Value.ref->Q (.ref s.d) { s with heap:=h',toks:=l }) :
  wpAny (model prog w) A (call (.type "list") [.ref z]) Q E s:=by
 refine callType_codes (Q₁:=λobj g=>obj=.ref s.d/\g={ s with heap:=s.heap.push { cls:=.type "list",data:=.seq #[] } }) PySem.F.called_list (PySem.F.typeCall_list_1 _) PySem.F.entry_list_init
  (code_list_new _ #[rfl,rfl]) λobj g h₁=>?_
 let#[rfl,rfl]:=h₁;let#[a,b,j]:=j;let k:(s.heap.push { cls:=.type "list",data:=.seq #[] }).get? s.d=some { cls:=.type "list",data:=.seq #[] }:=zaK _ rfl;let K:∀c∈[z,TI,TO,i1,i2],c<s.d:=λc t=>by simp[zbp,zaV,zbs]at t;ext(rfl|rfl|rfl|rfl|rfl:t);exact zar x;exact zar u;exact zar j;let#[_,e,_]:=r;exact zar e;let#[_,e,_]:=C;exact zar e
 let m:l1<s.d:=by let#[_,e,_]:=v;exact zar e
 let p:l2<s.d:=by let#[_,e,_]:=B;exact zar e
 let H:s.d∉[z,TI,TO,i1,i2]:=λW=>absurd (K _ W)<|zbq _;refine#[#[_,k,rfl],PySem.F.args_list_init_2 _ _,?_];show wpAny _ _ (do let q <-Builtin.List.listItems (.ref s.d);Builtin.List.listUpdate (.ref s.d) (λ_=>#[]);letGo q.toList.reverse;Builtin.List.listExtendWith (.ref s.d) (.ref z) .none) _ _ _;refine zad ?_;unfold Builtin.List.listItems;refine zad<|zcG k rfl<|zay ?_;show wpAny _ _ (updateSeq s.d (λ_=>#[]) >>= λ_=>letGo (#[]:Array Value).toList.reverse >>= λ_=>Builtin.List.listExtendWith (.ref s.d) (.ref z) .none) _ _ _;refine zad<|zcN k rfl ?_;let d:=zbI (Obj.mapSeq<|λ_=>(#[]:Array Value)) k rfl;generalize y:(s.heap.push { cls:=.type "list",data:=.seq #[] }).update s.d (Obj.mapSeq<|λ_=>(#[]:Array Value))=n at d;let hsz:n.e=s.d+1:=by rw[<-y];simp[zdU,Heap.size_push]
 let h:∀b o,s.heap.get? b=some o->n.get? b=some o:=λb o e=>by erw[<-y,(zbF _ _<|zbM<|zar e).trans<|zap _ e]
 refine zad<|zeP ?_;refine GQ (A:=A.in1) (s:={ s with heap:=n }) R D H (zba m) (zba p) I L .none _ (h _ _ x) #[a,b,h _ _ j] (h _ _ u) (r.at λo e=>h _ o e) (C.at λo e=>h _ o e) (v.at λo e=>h _ o e) (B.at λo e=>h _ o e) d λh' l f c i P U G O M=>?_;refine#[rfl,S h' l f c i (λb o N e=>P b o (zba<|zar e) N<|h b o e) U G ?_ M];erw[<-hsz,O]
end
end PySem
namespace L2
open PySem PySem.Spec PySem.W PySem.Calls PyProof.Rows
section
variable {X:Cx} {pins:de} {σ:St} {H H':Hp} {s:Shared} {h':Heap}
theorem Inv.YU{t':Nat}{ch:cx}(I:Inv X pins σ H s)(k:∀b u,b∉ch->s.heap.get? b=some u->h'.get? b=some u)(h:∀b∈ch,oU X pins H b)(d:∀b u,H b=some u->H' b=some u)(g:∀b u,H' b=some u->H b=none->s.d<=b/\bU X.prog X.w H' h' b u):Inv X pins σ H' { s with heap:=h',toks:=t' }:=by
 let j:∀b u,H b=some u->b∉ch:=λb u e z=>by rw[(h b z).1]at e;cases e
 refine I.step (λb x=>?_) (λb o _ _ a e _=>k b o a e) (λb o _ _ a e _=>#[o.slots,k b o a e]) (λb u _ e n=>?_) (λb o a e=>#[o,k b o a e])
  (λb xs e=>d _ _ e) (λb u v e=>d _ _ e) (λb F e=>#[#[],by rw[d _ _ e];simp]) (λm C=>?_) (λb u e=>?_) I.bare
 let#[f0,y,E,B,l,t]:=h b x;exact#[B,y,l,t];cases q:H' b with
 | none=>rfl
 | some v=>exact absurd (zar e)<|zfS.mpr (g b v q n).1
 let#[o,p,A,D,r]:=C;exact#[o,p,A,k _ o (λz=>(h _ z).2.1 rfl) D,r];cases q:H b with
 | none=>exact(g b u e q).2
 | some v=>
  let i:=d b v q;rw[e]at i;cases i;refine(I.cw b u q).lA (λc v a f=>k c v ?_ f) (λc f=>d _ _ f) λc xs f=>d _ _ f;ext(z|z:a);rw[z];exact j b u q;exact j c _ z
end
noncomputable def ux:cx->List (V×V)->Hp->Hp
 | a::as,p::ps,H=>upd (ux as ps H) a<|.tup [p.1,p.2]
 | _,_,H=>H
theorem uw:∀{c:cx} {d:List<|V×V} {H:Hp} {b:Addr},b∉c->ux c d H b=H b
 | [],_,_,_,_=>by simp[ux]
 | _::_,[],_,_,_=>by simp[ux]
 | a::c,p::d,H,b,h=>by rw[ux,aG λe=>h (e>>zan),uw λe=>h<|zae _ e]
theorem F2:∀{c:cx} {d:List<|V×V} {H:Hp} {j:Nat} {a:Addr} {p:V×V},c.Nodup->c[j]?=some a->d[j]?=some p->ux c d H a=some (.tup [p.1,p.2])
 | [],_,_,_,_,_,_,h,_=>by simp at h
 | _::_,[],_,_,_,_,_,_,h=>by simp at h
 | a::c,p::d,H,0,b,q,_,h1,h2=>by
  let i:a=b:= ~~~h1
  let k:p=q:= ~~~h2
  subst i k;rw[ux,ae]
 | a::c,p::d,H,j+1,b,q,hn,h1,h2=>by
  let g:c[j]?=some b:= ~~~h1
  let l:d[j]?=some q:= ~~~h2
  let f:=zau.mp hn;rw[ux,aG λe=>f.1 (by erw[<-e,zag g]),F2 f.2 g l]
theorem wK:∀(a:cx),Vals a.h (a.map Value.ref)
 | []=>.nil
 | _::a=>.cons rfl<|wK a
noncomputable def AZ(K:Frag)(g:TA):TE:=λf H Q=>g f H λvs c=>∃a b xs ys,vs=[.ref a,.ref b]/\aI K c a xs/\aI K c b ys/\xs.c=ys.c/\
 ∀(l:Addr) (e:cx) (d:Hp),af c d->c l=none->d l=some (.lst e.h)->e.c=xs.c->
  (∀(j:Nat) (a:Addr),e[j]?=some a->c a=none/\a≠l/\∃x y,xs[j]?=some x/\ys[j]?=some y/\d a=some (.tup [x,y]))->Q (.ref l) d
theorem i7:bootBuiltins "list"=some (.type "list"):=by decide +kernel
theorem tP{ta:TA}{p p2 t mX:Pos}(W:X.calm=true)(i:X.mg "zip"=none)(Ei:X.mg "list"=none)(ha:PA X [l,m] ta)(hg:Gl X "zip":=by rfl)(K2:Gl X "list":=by rfl)(he:starEach [l,m] X.env=(false,eval l X.env)::starEach [m] X.env:=by rfl)(AD:(backTo t<|starEach [m] X.env).any (·.1)=false:=by rfl)(vV:starEach [.Call (.Name "zip" p) [l,m] [] t] X.env=(false,eval (.Call (.Name "zip" p) [l,m] [] t) X.env)::starEach [] X.env:=by rfl) :
  PE X (.Call (.Name "list" p2) [.Call (.Name "zip" p) [l,m] [] t] [] mX) (AZ X.K ta):=by
 ext pins s σ H Q I h;refine Call_<|dM I K2 Ei i7<|zaJ ?_ vV rfl;rw[vV];refine zbH ?_;refine Call_<|dM I hg i qx<|zaJ (dD (ha t pins s σ H _ I h) λus d ⟨vs,E,M,r1,q1⟩=>?_) he AD;let#[a,b,xs,ys,rfl,Iv,Iu,uH,q]:=q1;let#[u1,u2,rfl,MO,MN]:=vals2 r1;cases MO;cases MN;let#[ia,ra,pa,za]:=M.list Iv;let#[ib,rb,pb,zb]:=M.list Iu;let la:=ra.c;let lb:=rb.c;let Y:a<d.d:=by let#[_,e,_]:=pa.isList;exact zar e
 let De:b<d.d:=by let#[_,e,_]:=pb.isList;exact zar e
 let y:∀{j k:Nat},j≠k->d.d+j≠d.d+k:=λh z=>h<|zfi z;let B:∀{c:Addr} (k:Nat),c<d.d->c≠d.d+k:=λk l=>zba<|zaQ l<|zbw _ _;let D:ZipApart (d.d+4) (d.d+2) (d.d+3) d.d (d.d+1) a b:=
  #[y B!,y B!,y (j:=0) B!,y B!,y B!,y (k:=0) B!,y B!,y (k:=0) B!,y B!,y (j:=0) B!,B _ Y,B _ Y,B 0 Y,B _ Y,B _ De,B _ De,B 0 De,B _ De]
 refine call_zip_2 pa.isList pb.isList λh' hz AI Em h1 h2 hsz hk=>?_;refine zbT ?_;let O:Inv X pins σ E { d with heap:=h' }:=M.kept λc o e=>hk c o e;let#[an,N,al,_]:=O.list Iv;let#[ac,L,ag,_]:=O.list Iu;let ar:=N.c;let ap:=L.c;refine wj (ys:=ac.toArray) (O.ok.hd W) D (by simp only[zaW];lia) (by simp only[zaW];lia) hz #[_,_,Em] AI h1 h2 al.isList ag.isList λh3 tk am c f ad hS hl hG aX=>?_;let S:f.c=xs.c:=by rw[hl,zaW];lia
 let Mi:∀x,h'.e<=x->E x=none:=λx hx=>O.cw.fresh hx;let Z:=hG.above;let P:h'.e∉f:=λi=>absurd (Z _ i)<|Nat.not_le.mpr<|zbv _;let US:∀x u,E x=some u->x∉f/\x≠h'.e:=λx u e=>by constructor;ext i;let g:=Mi x<|zfE<|Z x i;rw[e]at g;cases g;ext i;let g:=Mi x<|Nat.le_of_eq i.symm;rw[e]at g;cases g
 let NT:∀(j:Nat) (x:Addr),f[j]?=some x->∃v w F C,xs[j]?=some v/\ys[j]?=some w/\RelV v F/\RelV w C/\IsPair h3 x F C:=λj x r=>by
  let#[F,C,A,g,e3]:=hG.pairs j x r;let R:j<xs.c:=by let:=(zab.mp r).1;lia
  let#[u1,f1,U]:=N.get (show xs[j]?=some xs[j]by simp[R]);let#[u2,f2,g2]:=L.get (show ys[j]?=some (ys[j]'())by simp[show j<ys.c by lia]);rw[getElem?_toArray]at A g;rw[A]at f1;rw[g]at f2;cases f1;cases f2;exact#[_,_,F,C,by simp[R],by simp[show j<ys.c by lia],U,g2,e3]
 let G:∀(j:Nat) (x:Addr) (v w:V),f[j]?=some x->xs[j]?=some v->ys[j]?=some w->upd (ux f (xs.zip ys) E) h'.e (.lst f.h) x=some (.tup [v,w]):=λj x v w r hv hw=>by erw[aG (λe=>P<|by erw[<-e,zag r]),F2 (p:=(v,w)) (hG.rise.imp<|λe=>zba e) r<|getElem?_zip_eq_some>>#[hv,hw]]
 let Dg:∀x u,E x=some u->upd (ux f (xs.zip ys) E) h'.e (.lst f.h) x=some u:=λx u e=>by let#[A,g]:=US x u e;erw[aG g,uw A,e]
 let I3:Inv X pins σ (upd (ux f (xs.zip ys) E) h'.e<|.lst f.h) { d with heap:=h3,toks:=tk }:=by
  refine Inv.YU (s:={ d with heap:=h' }) (ch:=[d.d+4,d.d+3,d.d,d.d+1]) O (λb u hb e=>ad b u hb e) (λc W=>?_) Dg λx u e n=>?_;let le:d.d<=c:=by simp only[zbp,zaV,zbs]at W;ext(rfl|rfl|rfl|rfl:W);exact zbw _ _;exact zbw _ _;exact zaf _;exact zbw _ _
  exact M.qZ le<|M.cw.fresh le;ext(hx:x=h'.e);subst hx;rw[ae]at e;cases e;refine#[zaf _,show bU X.prog X.w _ h3 _ (.lst f.h)from#[zaa>>S>>za,f.map Value.ref,c,wK f,?_]];rw[<-aX,zcH];exact hS;ext(i:x∈f);let#[j,r]:=zaS.mp i;let#[v,w,F,C,A,g,U,g2,hP]:=NT j x r;rw[G j x v w r A g]at e;cases e;exact#[zfE<|Z x i,by simp only[zbi,zej];rw[zcE];decide,[F,C],.cons U<|.cons g2 .nil,#[_,hP,rfl,_,rfl]];rw[aG hx,uw i,n]at e;cases e
 refine#[.ref h'.e,_,I3,rfl,q _ f _ (λx u e=>Dg x u e) (Mi _<|zaf _) ae S λj x r=>?_];let#[v,w,F,C,A,g,U,g2,hP]:=NT j x r;let i:=zag r;exact#[Mi x<|zfE<|Z x i,λe=>P<|e▸i,v,w,A,g,G j x v w r A g]
end L2
namespace Gm
open PySem L2
theorem Lp.perm(p:Lp L R ks)(h:F4.Perm ks):Lp L R F4:=
 #[p.good,p.least,h.nodup_iff.mpr p.nd,h.trans p.pm,h.length_eq>>p.two]
theorem PR.mk{H:Hp}:∀{c:cx} {T:List<|Int×Int},c.c=T.c->(∀(j:Nat) (a:Addr) (d:Int×Int),c[j]?=some a->T[j]?=some d->H a=some (.tup [.int d.1,.int d.2]))->PR H c T
 | [],[],_,_=>.nil
 | [],_::_,h,_=>by simp at h
 | _::_,[],h,_=>by simp at h
 | a::c,d::T,h,f=>.cons (f 0 a d rfl rfl) (PR.mk (~~~h) λj b e g i=>f (j+1) b e (~~~g)<|~~~i)
theorem MP(h:j<r.c):(du r 1)[j]?=some (cy r<|j+1):=by
 let e:(du r 1).c=r.c:=cZ ();let a:cy (du r 1) j=(du r 1)[j]'():=fB ();ext(c:1<r.c);rw[iZ c]at a;rw[a];exact zac _;let b:r.c=1:=();let d:j=0:=();subst d
 match r,b with
 | [x],_=>unfold du cy;simp
theorem Wl(h:j<r.c):r[j]?=some (cy r j):=fB h>>zac _
theorem DT{a:Addr}{i n:Nat}{m:Int}{r:dm}(d:σ[i]?=some (a.i))(f:aI K H a r.f)(c:n<=r.c)(q:∀p,H p=none->Q (.ref p) (upd H p<|.lst<|(r.drop n).f))(b:m=(n:Int):=by rfl) :
  LX (yZ K) (fP i) (qD<|tC<|.int m) i9 σ H Q:=by
 subst b;exact#[_,d,#[_,rfl,#[a,_,rfl,f,λp e=>mv c>>q p e]]]
theorem JI{a:Addr}{i n:Nat}{m:Int}{r:dm}(d:σ[i]?=some (a.i))(f:aI K H a r.f)(c:n<=r.c)(q:∀p,H p=none->Q (.ref p) (upd H p<|.lst<|(r.take n).f))(b:m=(n:Int):=by rfl) :
  LX (yZ K) (fP i) i9 (qD<|tC<|.int m) σ H Q:=by
 subst b;exact#[_,d,#[_,rfl,#[a,_,rfl,f,λp e=>jY c>>q p e]]]
theorem G8(h:ta σ H λvs c=>∃a b xs ys,vs=[.ref a,.ref b]/\aI K c a xs/\aI K c b ys/\xs.c=ys.c/\
  ∀(l:Addr) (e:cx) (d:Hp),af c d->c l=none->d l=some (.lst e.h)->e.c=xs.c->
   (∀(j:Nat) (a:Addr),e[j]?=some a->c a=none/\a≠l/\∃x y,xs[j]?=some x/\ys[j]?=some y/\d a=some (.tup [x,y]))->Q (.ref l) d):AZ K ta σ H Q:=h
end Gm
namespace L2
open PySem PySem.Spec PySem.W PySem.Calls PyProof.Rows
theorem tE{a b:TE}{t:Oq}{Q:St->Hp->Prop}(h:a σ H λo c=>b σ c λi d=>t o i v d λe=>Q σ e):VM a b t v σ H Q:=h
theorem zI{n:Nat}{k:Int}(a:0<=k)(b:k<n):F8 n k=some k.toNat:=by unfold F8;rw[zam a,zam b]
end L2
namespace Gm
open PySem L2
theorem LD(R:∀(f:St) (g:Hp) (b:Addr) (l:dm) (C:VK),f[0]?=some (b.i)->g b=some (.lst l.f)->(∀c,g c=none->C (.ref c) (upd g c<|.lst l.f))->te f g C)(N:σ[i]?=some (p.i))(k:aQ H p as L)(hn:L.c<=1000)(q:∀d cs g,af H g->aQ g d cs L->(d::cs).Nodup->(∀b∈d::cs,H b=none)->Q (.ref d) g):qE (Ci K<|fP i) (ji 0) qC te 1 [] σ H Q:=by
 refine bC ?_;refine#[_,N,p,rfl,#[_,aI.of k.top],λd B=>?_];refine bD (λi f ys h=>∃(j:cx) (v:Option V),f=[v]/\ys=j.h/\af H h/\j.c=i/\aQ h d j (L.take i)/\(d::j).Nodup/\∀b∈d::j,H b=none)
  #[[],none,rfl,rfl,af.upd B,rfl,#[ae,rfl,λi a l z=>by simp at z],by simp,~~~B] (λi f ys h _ ⟨_,_,_,_,e,_⟩=>aI.of<|e _ _ k.top) ?_ ?_
 ext i x f ys h E r ⟨j,v,rfl,rfl,s,rfl,A,t,m⟩;let#[b,l,S,I,M]:=k.at (by rwa[zaa,k.len]at r);obtain rfl:x=V.ref b:=by rw[zao,S]at E;exact(zas E).symm
 let O:=r;rw[zaa,k.len]at O;refine inS λ_ nNN=>?_;refine eB ?_;refine lT ?_;refine ND<|R _ _ b l _ rfl (s _ _ M) λc n=>?_;let u:=A.gu n;let o:af h<|upd h c<|.lst l.f:=af.upd n;let D:upd h c (.lst l.f) c=some (.lst l.f):=ae;generalize upd h c (.lst l.f)=Hy at o D ⊢;let G:=A.same o;let w:c≠d:=λz=>u<|z▸zan;refine#[G.top,zaa>>aq (),nNN _ _ _ #[j++[c],_,rfl,by simp,af.fresh (s.trans o)<|m _ zan,by simp,?_,?_,λy X=>?_]];rw[take_snoc I];exact G.snoc (zau.mp t).1 w D;let#[n1,n2]:=zau.mp t;refine zau.mpr #[λz=>?_,iH.mpr #[λz=>u<|zae _ z,n2]];ext(z|z:zal.mp z);exact n1 z;exact w (zai.mp z).symm;ext(z|z:zaw.mp X);rw[z];exact m _ zan;ext(z|z:zal.mp z);exact m y<|zae _ z;rw[zai.mp z];exact s.free n;ext f ys P ⟨cs,v,rfl,rfl,Y,Z,F,U,W⟩;rw[zaa,k.len,zbg]at F;exact q d cs P Y F U W
theorem MW(d:σ[i]?=some (p.i))(k:aQ H p as L)(g:L.c<=1000)(q:∀a cs c,af H c->aQ c a cs L->(a::cs).Nodup->(∀b∈a::cs,H b=none)->Q (.ref a) c) :
  qE (Ci K<|fP i) (ji 0) qC (TJ (λxs H Q=>∃p ys,xs=[V.ref p]/\(aI K H p ys\/SqT K H p ys)/\∀(l:Addr),H l=none->Q (V.ref l) (upd H l<|HO.lst ys))<|fo (fP 0) ph) 1 [] σ H Q:=
 LD (λj c b l m e h f=>#[_,e,b,_,rfl,.inl<|aI.of h,f]) d k g q
end Gm
namespace L2
open PySem PySem.Spec PySem.W PySem.Calls PyProof.Rows
noncomputable def Yo(K:Frag):List V->Hp->VK->Prop:=λvs H Q=>∃(a:Addr) (b:List Bool),vs=[.ref a]/\aI K H a (b.map V.bl)/\Q (.bl<|b.all id) H
theorem xZ:∀{a:List Bool} {c:cq},Vals (a.map V.bl) c->c=a.map Value.bool
 | [],_,h=>by cases h;rfl
 | b::a,_,h=>by
  cases h with
  | @cons _ u _ e d rv=>
   cases d;rw[xZ rv];rfl
theorem all_range(a:List Bool):((List.range a.c).all λi=>a.getD i false)=a.all id:=by
 induction a with
 | nil=>rfl
 | cons b a c=>
  rw[zbi,zdL,all_cons,all_map,all_cons];congr 1
theorem LH(l:X.calm=true):eF X (.builtin "all")<|Yo X.K:=by
 ext pins s D H xs E Q I r h;let#[a,c,rfl,n,q]:=h;let#[u,rfl,p]:=vals1 r;cases p;let#[B,rv,f,F]:=I.list n;obtain rfl:=xZ rv;let y:a<s.d:=by let#[_,e,_]:=f.isList;exact zar e
 refine call_all_walk<|zey f.isList ?_;refine#[s.d,_,_,_,_,_,λi=>c.getD i false,rfl,Walks.list (A:=X.A.in1) (I.ok.hd l) s.d a (zba y) (c.map Value.bool).toArray,#[#[_,zaK _ rfl,rfl,rfl],f.isList.at λo e=>zap _ e],λi v m t G g k=>?_,λh' C w=>?_];let d:(c.map Value.bool)[i]?=some v:= ~~~g
 rw[zao]at d;cases e:c[i]? with
 | none=>rw[e]at d;cases d
 | some b=>
  rw[e]at d;cases d;let:c.getD i false=b:=by rw[zah,e];rfl
  let j:t b m:=by erw[<-this,k]
  exact zcp j
 let x:(c.map Value.bool).toArray.size=c.c:=by simp
 rw[x,all_range];exact#[.bl<|c.all id,H,I.kept λb o e=>w b o (λz=>by
  let:b=s.d:= ~~~z
  exact absurd (zar e)<|this>>zbq _)<|zap _ e,rfl,q]
section
variable {K:Frag} {σ:St} {H:Hp} {Q:VK}
theorem u3{R:Hp->Prop}{f a b:Addr}{xs ys:List V}{n:Nat}{g:TG}{w:TT}{z:TE}(P:n=min xs.c ys.c)(h:Nat->St->List V->Hp->Prop)(E:h 0 σ [] H)(B:∀i σ zs H,i<=n->h i σ zs H->aI K H a xs/\aI K H b ys)(L:∀i x y p σ zs H,xs[i]?=some x->ys[i]?=some y->i<n->h i σ zs H->H p=none->InS (h (i+1)) g w z f zs (.ref p) σ (upd H p<|.tup [x,y]))(N:∀σ zs H,h n σ zs H->R H):CW (PU K a b) g w z f σ H R:=
 CW.of n h E (λi c zs H u p=>by let#[k,l]:=B i c zs H () p;let D:i<xs.c:=();let M:i<ys.c:=();exact#[#[xs,ys,xs[i],ys[i],k,l,by simp[D],by simp[M]],λx j y=>by obtain⟨r,o,v,A,rfl,G,C,rfl⟩:=y;exact L i o v r c zs H (G xs k) (C ys l) u p A]) (λc zs H p=>by let#[k,l]:=B _ c zs H (zaf _) p;exact#[xs,ys,k,l,()]) N
end
end L2
namespace Gm
open PySem L2
noncomputable def lk(s:dm->Nat)(R:dy):Nat->List (aA×Int)
 | 0=>[]
 | k+1=>lk s R k++(sh (s<|R.getD k [])<|R.getD k []).map λd=>(d,(k:Int))
theorem iX{s:dm->Nat}:∀(R:dy),(R.flatMap λr=>sh (s r) r).Perm (R.flatMap<|sh 0)
 | []=>.nil
 | r::R=>by erw[zcs,zcs,(gL r _).append<|iX R]
noncomputable def lo(R:dy)(d:aA):Int:=(R.findIdx λr=>decide (d∈sh 0 r):Nat)
theorem KG(h:(R.flatMap<|sh 0).Nodup){i:Nat}(a:R[i]?=some r)(c:d∈sh 0 r):lo R d=i:=by
 induction R generalizing i with
 | nil=>simp at a
 | cons q R j=>
  rw[zcs,zeC]at h;let#[k,g,f]:=h;unfold lo;rw[findIdx_cons];cases i with
  | zero=>
   let e:q=r:= ~~~a
   subst e;rw[zbc c];rfl
  | succ i=>
   let b:R[i]?=some r:= ~~~a
   rw[zaZ<|λz=>f d z d (zaG.mpr #[r,zag b,c]) rfl];let:=j g b;unfold lo at this;show((R.findIdx (λr=>decide<|d∈sh 0 r)+1:Nat):Int)=_;lia
noncomputable def BM(R:dy)(s:Nat)(r:dm):dm:=(sh s r).map λd=>lo R (d.2,d.1)
theorem gP(R:dy)(s:Nat)(r:dm):(BM R s r).c=r.c:=by unfold BM;rw[zaa,dE]
theorem tR(h:j<r.c):(BM R s r)[j]?=some (lo R ((dj r<|j+s).2,(dj r<|j+s).1)):=by unfold BM;rw[zao,xg h];rfl
theorem J3(d:0<r.c)(j:Nat):cy (BM R s r) j=lo R ((dj r<|j+s).2,(dj r<|j+s).1):=by
 let b:j%r.c<r.c:=zaI _ d;let a:j%r.c<(BM R s r).c:=gP>>b
 rw[bT (by rw[gP,zbJ]),fB a];let c:=tR (R:=R) (s:=s) b;rw[zac a]at c;rw[zas c];let e:dj r (j%r.c+s)=dj r (j+s):=bX (by rw[zdD]);rw[e]
noncomputable def rA(D:dy):Prop:=∀(k:Nat) (l:dm),D[k]?=some l->(k:Int)∉l/\l.Nodup
theorem GJ(a:aH L)(h:Dt L d):Dt L (d.2,d.1):=by let:=h.back a;exact#[this.1,this.2.1,this.2.2.2]
theorem xM{a b:Type}(f:a->List b)(R:List a)(i:Nat):((R.take i).flatMap f).Sublist<|R.flatMap f:=by
 let e:R.flatMap f=(R.take i).flatMap f++(R.drop i).flatMap f:=by rw[<-zcj,zcA]
 erw[e,sublist_append_left _ _]
end Gm
namespace L2
open PySem
theorem mO(d:X.K=K){a:Pos}{k:Nat}{t:Mo}{n:Nat}(e:X.calm=true)(h:Wo X es t)(b:(assignEach es X.env).c=n:=by rfl)(c:(assignEach es X.env).findIdx? (·.1)=none:=by rfl):PG X (.Tuple es k a)<|N1 K n t:=by subst d;exact jF e h b c
theorem yY(h:td σ H λx c=>ty σ c λy b=>∃a v,x=.ref a/\jL b a y (some v)/\Q v b):IX td ty σ H Q:=h
end L2
namespace Gm
open PySem L2
inductive eg(L:dy)(S:dm)(s:Int):Int->Prop where
 | here:eg L S s s
 | step {i:Nat} {l:dm} {x:Int}:eg L S s i->L[i]?=some l->x∈l->x∉S->eg L S s x
theorem eg.rg(h:eg L S s x)(m:aH L)(b:0<=s/\s<L.c):0<=x/\x<L.c:=by
 cases h with
 | here=>exact b
 | step _ e a _=>
  let:=m.rg _ _ e x a;exact#[this.1,this.2.1]
structure IB(L:dy)(S:dm)(s:Int)(ks ws:dm):Prop where
 nd:ks.Nodup
 nw:ws.Nodup
 st:s∈ks
 re:∀x∈ks,eg L S s x
 sub:∀x∈ws,x∈ks
 cl:∀(i:Nat) (l:dm),(i:Int)∈ks->(i:Int)∉ws->L[i]?=some l->∀x∈l,x∉S->x∈ks
structure Mr(L:dy)(S:dm)(s:Int)(ks ws:dm)(pl:Nat)(l:dm)(k:Nat):Prop where
 nd:ks.Nodup
 nw:ws.Nodup
 st:s∈ks
 re:∀x∈ks,eg L S s x
 sub:∀x∈ws,x∈ks
 pk:(pl:Int)∈ks
 cl:∀(i:Nat) (m:dm),(i:Int)∈ks->(i:Int)∉ws->i≠pl->L[i]?=some m->∀x∈m,x∉S->x∈ks
 tk:∀x∈l.take k,x∉S->x∈ks
section
variable {L:dy} {S:dm} {s:Int} {ks ws:dm} {pl k:Nat} {l:dm} {x:Int}
theorem IB.start:IB L S s [s] [s]:=#[by simp,by simp,by simp,λx h=>by erw[zai.mp h,.here],λx h=>h,λi l b a=>absurd b a]
theorem IB.pop(h:IB L S s ks<|ws++[(pl:Int)]):Mr L S s ks ws pl l 0:=
 #[h.nd,(yA.mp h.nw).2,h.st,h.re,λx a=>h.sub x<|zaT _ a,h.sub _ A?,λi m b c e d x a=>h.cl i m b (λz=>by ext(z|z:zal.mp z);exact c z;let:=zai.mp z;lia) d x a,λx a=>by simp at a]
theorem Mr.add(h:Mr L S s ks ws pl l k)(e:l[k]?=some x)(n:x∉ks)(o:x∉S)(d:L[pl]?=some l):Mr L S s (ks++[x]) (ws++[x]) pl l<|k+1:=by refine#[yA.mpr #[n,h.nd],yA.mpr #[λz=>n<|h.sub _ z,h.nw],zaT _ h.st,λy a=>?_,λy a=>?_,zaT _ h.pk,λi m g c f j y a b=>?_,λy a b=>?_];ext(z|z:zal.mp a);exact h.re y z;rw[zai.mp z];exact .step (h.re _ h.pk) d (zag e) o;ext(z|z:zal.mp a);exact zaT _<|h.sub y z;exact zaP _ z;refine zaT _<|h.cl i m ?_ (λz=>c<|zaT _ z) f j y a b;ext(z|z:zal.mp g);exact z;exact absurd (zaP _ z) c;ext(z|z:AX e a);exact zaT _<|h.tk y z b;erw[z,zaP _ A?]
theorem Mr.skip(h:Mr L S s ks ws pl l k)(e:l[k]?=some x)(n:x∈ks\/x∈S):Mr L S s ks ws pl l<|k+1:=
 #[h.nd,h.nw,h.st,h.re,h.sub,h.pk,h.cl,λy b a=>by ext(z|z:AX e b);exact h.tk y z a;ext(n|n:n);rw[z];exact n;exact absurd (z▸n) a]
theorem Mr.done(h:Mr L S s ks ws pl l l.c)(d:L[pl]?=some l):IB L S s ks ws:=
 #[h.nd,h.nw,h.st,h.re,h.sub,λi m f g a x b c=>by ext(e:i=pl);subst e;rw[d]at a;cases a;exact h.tk x (zbg>>b) c;exact h.cl i m f g e a x b c]
theorem IB.all(h:IB L S s ks [])(x:Int):x∈ks↔eg L S s x:=by
 refine#[h.re x,λr=>?_];induction r with
 | here=>exact h.st
 | step _ e c b a=>exact h.cl _ _ a A? e _ c b
theorem IB.len(m:aH L)(d:0<=s/\s<L.c)(a:ks.Nodup)(b:∀x∈ks,eg L S s x):ks.c<=L.c:=fb a λx c=>(b x c).rg m d
end
noncomputable def eQ(n:Nat):dm:=(List.range n).map λi:Nat=>(i:Int)
theorem eX:x∈eQ n↔0<=x/\x<n:=by unfold eQ;rw[mem_map];constructor;ext⟨i,a,rfl⟩;let:=zaD.mp a;lia;intro#[h1,h2];exact#[x.toNat,zaD.mpr (),()]
theorem j5(n:Nat):(eQ n).Nodup:=zbZ _ (λa b h z=>h ()) zeS
theorem EV(h:i<n):(eQ n)[i]?=some (i:Int):=by unfold eQ;simp[h]
theorem eU(n:Nat):(eQ n).c=n:=by unfold eQ;simp
noncomputable def left(n:Nat)(S:dm):dm:=(eQ n).filter λx=>!decide (x∈S)
open Classical in
noncomputable def rn (L:dy) (S:dm) (s:Int):Nat:=((eQ L.c).filter λx=>decide<|eg L S s x).c
theorem T2{L:dy}{S a:dm}{s:Int}(m:aH L)(d:0<=s/\s<L.c)(c:a.Nodup)(b:∀x,x∈a↔eg L S s x):a.c=rn L S s:=by unfold rn;refine List.Perm.length_eq<|(perm_ext_iff_of_nodup c<|(j5 _).filter _).mpr λx=>?_;rw[b,zft,eX];constructor;ext r;exact#[r.rg m d,~~~r];intro#[_,r];simpa using r
theorem Qq(a:0<=s/\s<L.c):0<rn L S s:=by unfold rn;refine zcJ<|zbC.mpr #[eX.mpr a,?_];simpa using eg.here
noncomputable def AA (L:dy) (S:dm):Bool:=match left L.c S with | []=>false|s::r=>decide<|rn L S s<(s::r).c
theorem FF(h:left L.c S=[]):AA L S=false:=by unfold AA;rw[h]
theorem tG(h:left L.c S=s::r):AA L S=decide (rn L S s<(s::r).c):=by unfold AA;rw[h]
theorem oG(h:s∈left n S):0<=s/\s<n/\s∉S:=by unfold left at h;let#[b,a]:=zbC.mp h;let:=eX.mp b;exact#[this.1,this.2,~~~a]
theorem M4(h:left L.c S=[s]):AA L S=false:=by rw[tG h];let:=oG (n:=L.c) (S:=S) (s:=s) (h>>zai.mpr rfl);let:=Qq (S:=S) #[this.1,this.2.1];exact zaZ (by simp;lia)
theorem B8(n:Nat)(S:dm):(left n S).c<=n:=by let:=zeK (λx=>!decide (x∈S))<|eQ n;rwa[eU]at this
noncomputable def twos(n a:Nat):dy:=(List.range<|n-(a+1)).map λj:Nat=>[(a:Int),(a:Int)+1+(j:Int)]
noncomputable def eV(n:Nat):Nat->dy
 | 0=>[]::(eQ n).map λi=>[i]
 | k+1=>eV n k++twos n k
theorem twos_at{n a j:Nat}(h:j<n-(a+1)):(twos n a)[j]?=some [(a:Int),(a:Int)+1+j]:=by unfold twos;simp[h]
theorem twos_len(n a:Nat):(twos n a).c=n-(a+1):=by unfold twos;simp
theorem sS(n:Nat):∀k,k<=n->(eV n k).c<=1+n+k*n
 | 0,_=>by simp[eV,eU];lia
 | k+1,h=>by let:=sS n k ();rw[eV,zav,twos_len,Nat.succ_mul];lia
theorem aQ.cat(g:aQ H t bs R)(k:aQ H c cs M)(h:t∉bs)(m:t∉cs):aQ (upd H t<|.lst<|bs.h++cs.h) t (bs++cs)<|R++M:=by refine#[zat>>ae,by rw[zav,zav,g.len,k.len],λi a l b f=>?_];ext(d|d:zdc i bs.c);rw[zaU d]at b;rw[zaU<|by erw[<-g.len,d]]at f;let j:a≠t:=λe=>h (by erw[<-e,zag b]);rw[aG j];exact g.row i a l b f;rw[zaO d]at b;rw[zaO (by erw[<-g.len,d]),<-g.len]at f;erw[aG (λe=>m<|by erw[<-e,zag b]),k.row _ a l b f]
theorem aQ.wg(g:aQ H t bs R)(k:aQ H c cs M)(j:H u=none):aQ (upd H u<|.lst<|bs.h++cs.h) u (bs++cs)<|R++M:=by refine#[zat>>ae,by rw[zav,zav,g.len,k.len],λi a l b f=>?_];ext(d|d:zdc i bs.c);rw[zaU d]at b;rw[zaU<|by erw[<-g.len,d]]at f;let h:a≠u:=λe=>(g.gu j) (by erw[<-e,zae _<|zag b]);rw[aG h];exact g.row i a l b f;rw[zaO d]at b;rw[zaO (by erw[<-g.len,d]),<-g.len]at f;let h:a≠u:=λe=>(k.gu j) (by erw[<-e,zae _<|zag b]);erw[aG h,k.row _ a l b f]
theorem find_none{p:dm->Bool}{T:dy}(h:∀(k:Nat) (S:dm),k<T.c->T[k]?=some S->p S=false):T.find? p=none:=by rw[find?_eq_none];ext S b;let#[k,a]:=zaS.mp b;rw[h k S (zab.mp a).1 a];simp
theorem Es{p:dm->Bool}{T:dy}{i:Nat}{S:dm}(b:T[i]?=some S)(d:p S=true)(c:∀(k:Nat) (a:dm),k<i->T[k]?=some a->p a=false):T.find? p=some S:=by
 induction T generalizing i with
 | nil=>simp at b
 | cons t T f=>
  cases i with
  | zero=>
   let e:t=S:= ~~~b
   subst e;rw[zei,d]
  | succ i=>
   erw[zei,c 0 t () A?,f (~~~b) λk a g h=>c (k+1) a ()<|~~~h]
theorem wM(i:Nat):eQ (i+1)=eQ i++[(i:Int)]:=by unfold eQ;rw[zcn,zat];rfl
theorem Ny{i:Nat}(h:(i:Int)∉S):left (i+1) S=left i S++[(i:Int)]:=by unfold left;rw[wM,zcS,zdu,zam<|~~~h];rfl
theorem KH{i:Nat}(h:(i:Int)∈S):left (i+1) S=left i S:=by unfold left;rw[wM,zcS,zdu,zaj<|~~~h];simp
theorem Jt(m:aH L)(h:Dt L (a,b))(D:Dec L R)(s:mC L S) :
  ∃l j,Dec (rem L a b) l/\mC (rem L a b) j/\((l.c+iso (rem L a b)=R.c+iso L+1/\j.c=S.c+1)\/(l.c+1+iso (rem L a b)=R.c+iso L/\j.c=S.c)):=by
 let#[G,b1,b2,w]:=h.back m;let n:=yU m h;let k:=iA m h;let i:=iA m #[G,b1,w];ext(⟨A,B,T,e,x,kA,c⟩|⟨A,B,T,e,x,H,C,kA,c,v⟩:yV m h D);let#[t0,F]:=s.more m h;let r:A=[]↔nx L (a,b)=(b,a):=by
  constructor;ext z;rw[z]at kA;exact kA.nil_eq;ext z;cases A with
  | nil=>rfl
  | cons p A=>
   let f:=kA.hd;let dt:=(e.mem p).mp<|zbb.mpr #[p::A,by simp,zan];rw[f,z]at dt;exact absurd rfl ((c5 m h).mp dt).2.2
 let u:B=[]↔nx L (b,a)=(a,b):=by
  constructor;ext z;rw[z]at c;exact c.nil_eq;ext z;cases B with
  | nil=>rfl
  | cons p B=>
   let f:=c.hd;let dt:=(e.mem p).mp<|zbb.mpr #[p::B,by simp,zan];rw[f,z]at dt;exact absurd rfl ((c5 m h).mp dt).2.1
 let q:∀A:List aA,((if A=[]then []else [A]):List<|List aA).c=if A=[]then 0 else 1:=λA=>by ext(z:A=[]);rw[zam z,zam z];rfl;rw[zaj z,zaj z];rfl
 let I:(if A=[]then 0 else 1)+(if(ez L b).erase a=[]then 1 else 0)=1:=by ext(z:A=[]);rw[zam z,zam<|k.mpr<|r.mp z];rw[zaj z,zaj<|λy=>z<|r.mpr<|k.mp y]
 let K:(if B=[]then 0 else 1)+(if(ez L a).erase b=[]then 1 else 0)=1:=by ext(z:B=[]);rw[zam z,zam<|i.mpr<|u.mp z];rw[zaj z,zaj<|λy=>z<|u.mpr<|i.mp y]
 refine#[_,_,e,F,.inl #[?_,rfl]];rw[zav,zav,q,q,n];lia;let t:∀d∈A,Dt (rem L a b) d:=λd o=>v d<|zaT _ o;let g:∀d∈B,Dt (rem L a b) d:=λd o=>v d<|zaP _ o;let M:¬(ez L b).erase a=[]:=λz=>by
  cases A with
  | nil=>exact H rfl
  | cons p A=>
   let f:=kA.hd;let dt:=t p zan;rw[f,k.mp z]at dt;exact((c5 m h).mp dt).2.2 rfl
 let E:¬(ez L a).erase b=[]:=λz=>by
  cases B with
  | nil=>exact C rfl
  | cons p B=>
   let dt:=g p zan;rw[c.hd,i.mp z]at dt;exact((c5 m h).mp dt).2.1 rfl
 rw[zaj M,zaj E]at n;refine#[_,_,e,s.TM m h (c.reach g)<|kA.reach t,.inr #[?_,rfl]];rw[zbi,n];lia
structure Mp(L:dy):Prop where
 map:aH L
 Mm:∃R S,Dec L R/\mC L S/\2*(L.c+R.c+iso L)=(dR L L.c).c+4*S.c
theorem ck.pln(s:ck L):Mp L:=by let#[R,D,e]:=s.Mm;let:=dP s.map;exact#[s.map,R,[0],D,s.span,by simp[zbi,zej];lia]
theorem Mp.rem(f:Mp L)(h:Dt L (a,b)):Mp<|rem L a b:=by let#[R,S,D,s,e]:=f.Mm;let#[i,g,j,d,c]:=Jt f.map h D s;let:=(lQ f.map h).2;refine#[yT f.map h,i,g,j,d,?_];rw[gN]at *;lia
theorem nR{p:Int->Bool}{x:Int}(a:p x=false):∀(l:dm),(l.erase x).filter p=l.filter p
 | []=>rfl
 | y::l=>by rw[erase_cons];ext(e:y=x);subst e;rw[zam<|beq_self_eq_true _,zdu,a];rfl;rw[zaj (~~~e),zdu,zdu,nR a l]
theorem Mp.sub(K:aA->Bool)(r:∀x y,K (x,y)=K (y,x)):∀(N:Nat) {L:dy},Mp L->(dR L L.c).c=N->
  ∃M,Mp M/\M.c=L.c/\∀x:Int,0<=x->ez M x=(ez L x).filter λy=>K (x,y):=by
 ext N;induction N using Nat.strongRecOn with
 | _ N s=>
 ext L f t;ext(q:∀d,Dt L d->K d=true);refine#[L,f,rfl,λx c=>?_];ext(o:x<L.c);exact(List.filter_eq_self.mpr λy n=>q (x,y) #[c,o,n]).symm;let:ez L x=[]:=by unfold ez;rw[zah,zbR ()];rfl
 rw[this];rfl;have⟨d,j⟩:∃d,¬(Dt L d->K d=true):=Classical.not_forall.mp q;let h:=zaA λz=>j λy=>absurd y z;let k:K d=false:=by
  cases e:K d with
  | false=>rfl
  | true=>exact absurd (λ_=>e) j
 let#[a,b]:=d;let u:=(lQ f.map h).2;let#[M,m,p,l]:=s _ () (f.rem h) rfl;refine#[M,m,p.trans gN,λx c=>?_];rw[l x c,rK f.map h c];ext(g:x=b);subst g;rw[zam rfl];exact nR (r>>k) _;rw[zaj g];ext(i:x=a);subst i;rw[zam rfl];exact nR k _;rw[zaj i]
theorem yp:∀(L:dy),(∀l∈L,l=[]\/l.c=2)->(L.map List.length).sum+2*L.countP (·.isEmpty)=2*L.c
 | [],_=>by simp
 | l::L,h=>by let b:=yp L λl a=>h l<|zae _ a;rw[zbi,zbx,sum_cons,countP_cons];ext(z|z:h l zan);subst z;simp[zej,isEmpty_nil,zfM];lia;rw[zaj<|by cases l with|nil=>simp at z|cons _ _=>simp];lia
theorem N7(L:dy):(dR L L.c).c=(L.map List.length).sum:=by
 let h:=F0 (k:=L.c)<|zaf _;rw[zbg]at h;let g:∀(l:dy),(l.map λl=>(l.c:Int)).sum=((l.map List.length).sum:Nat):=λl=>by
  induction l with
  | nil=>rfl
  | cons a l b=>rw[zbx,zbx,sum_cons,sum_cons,b];simp
 rw[g]at h;exact Int.ofNat.inj h
theorem LM(L:dy):(List.range L.c).map (λi=>L.getD i [])=L:=by refine zes A? λi a b=>?_;simp at a ⊢;simp[a]
theorem Ja{x:Int}(s:mC L S)(p:0<=x)(q:x<L.c)(f:ez L x≠[])(m:aH L):iso L+1<=S.c:=by
 let#[d,B,r]:=s x p q;let C:ez L d≠[]:=λz=>by
  ext(e|⟨j,l,K,H⟩:r.inv);rw[e]at f;exact f z
  
  let:∀y,Reach L d y->y=d:=λy k=>by
   induction k with
   | here=>rfl
   | step k e c u=>
    rename_i i l' y;let:ez L d=l':=by erw[<-u,(by unfold ez;simp[e])]
    rw[z]at this;rw[<-this]at c;cases c
  rw[this x r]at f;exact f z
 refine let I:dm:=((List.range L.c).filter λi=>(L.getD i []).isEmpty).map λi:Nat=>(i:Int);?_;let D:I.c=iso L:=by show(((List.range L.c).filter λi=>(L.getD i []).isEmpty).map λi:Nat=>(i:Int)).c=_;rw[zaa,<-countP_eq_length_filter];unfold iso;let:=zaC (List.countP (·.isEmpty))<|LM L;rwa[countP_map]at this
 let g:∀y,y∈I->0<=y/\y<L.c/\ez L y=[]:=λy c=>by let#[i,v,rfl]:=zaq.mp c;let#[n,F]:=zbC.mp v;let:=zaD.mp n;exact#[(),(),by unfold ez;simpa using F]
 let:=eM (zau.mpr #[λz=>C (g _ z).2.2,(zbZ _ (λa b h z=>h ())<|List.nodup_range.filter _)]) λy c=>by
  ext(z|z:zaw.mp c);rw[z];exact B;let#[A,E,G]:=g y z;let#[t,o,rt]:=s y A E;cases rt with
  | here=>exact o
  | step M e w=>
   rename_i i l;let:=((Reach.rh e w).back m).2.2.2;rw[G]at this;cases this
 rwa[zbi,D]at this
theorem two_pre(n:l.Nodup)(h:∀z,z∈l↔z=a\/z=b)(d:a≠b):l.c=2/\pre l a=b/\pre l b=a:=by
 let e:=len_eq (r:=[a,b]) n (by simp[d]) λz=>by rw[h z];simp
 match l,e with
 | [x,y],_=>
  let c:x≠y:= ~~~n
  let g:=(h x).mp A?;let f:=(h y).mp A?;refine#[rfl,?_];ext(rfl|rfl:g)<;>ext(rfl|rfl:f);exact absurd rfl c;let b1:(x==y)=false:= ~~~c
  constructor<;>simp[pre,cy,zdx,b1];let b1:(x==y)=false:= ~~~c
  constructor<;>simp[pre,cy,zdx,b1];exact absurd rfl c
theorem Lc(n:[a,b,c,d].Nodup):pre [a,b,c,d] a=d/\pre [a,b,c,d] b=a/\pre [a,b,c,d] c=b/\pre [a,b,c,d] d=c:=by
 simp at n;let#[#[i,k,h],#[m,e],j]:=n;let b1:(a==b)=false:= ~~~i
 let b2:(a==c)=false:= ~~~k
 let g:(a==d)=false:= ~~~h
 let f:(b==c)=false:= ~~~m
 let l:(b==d)=false:= ~~~e
 let o:(c==d)=false:= ~~~j
 refine#[?_,?_,?_,?_]<;>simp[pre,cy,zdx,b1,b2,g,f,l,o]
theorem Et{P:Int->Bool}{s l:dm}(h:s.Sublist l):l.Nodup->(∀y∈l,P y=true↔y∈s)->l.filter P=s:=by
 induction h with
 | slnil=>intro _ _;rfl
 | @cons s l a h c=>
  ext n k;let#[n1,n2]:=zau.mp n;erw[zcX<|λz=>n1<|h.subset<|(k a zan).mp z,c n2 λy b=>k y<|zae _ b]
 | @cons_cons s l a h c=>
  ext n k;let#[n1,n2]:=zau.mp n;rw[zcW<|(k a zan).mpr zan,c n2 λy b=>(k y<|zae _ b).trans #[λz=>(zaw.mp z).resolve_left λe=>n1<|e▸b,λz=>zae _ z]]
noncomputable def lp(v:Int)(p:dm)(j:Nat):Int:=if j=0 then v else p.getD (j-1) v
noncomputable def On(v:Int)(p:dm)(d:aA):Prop:=∃j,j<=p.c/\(d=(lp v p j,lp v p<|j+1)\/d=(lp v p<|j+1,lp v p j))
section
variable {v:Int} {p:dm}
theorem zE:lp v p 0=v:=rfl
theorem l7(a:1<=i)(b:i<=p.c):lp v p i=p[i-1]'():=by unfold lp;rw[zaj (),zah,zac (),Option.getD_some]
theorem kL:lp v p (p.c+1)=v:=by unfold lp;rw[zaj (),zah,zbR (),Option.getD_none]
theorem zF(a:1<=i)(b:i<=p.c):lp v p i∈p:=l7 a b>>zbo _
theorem qL(b:v∉p)(a:1<=i)(c:i<=p.c):lp v p i≠v:=λz=>b<|z▸zF a c
theorem D9(n:p.Nodup)(a:1<=i)(d:i<=p.c)(b:1<=j)(c:j<=p.c)(e:lp v p i=lp v p j):i=j:=by rw[l7 a d,l7 b c]at e;let:=(zco n).mp e;lia
theorem B1(h:j<=p.c+1):lp v p j=v\/lp v p j∈p:=by ext(a:j=0);exact .inl (by rw[a];rfl);ext(b:j=p.c+1);exact .inl (b>>kL);exact .inr<|zF () ()
theorem On.sw(h:On v p (x,y)):On v p (y,x):=by let#[j,a,e]:=h;refine#[j,a,?_];ext(e|e:e);right;exact zbP (zaC Prod.snd e)<|zaC Prod.fst e;left;exact zbP (zaC Prod.snd e)<|zaC Prod.fst e
theorem On.fst(h:On v p d):d.1=v\/d.1∈p:=by let#[j,a,e]:=h;ext(e|e:e)<;>rw[e];exact B1 ();exact B1 (j:=j+1) ()
theorem On.mid(n:p.Nodup)(f:v∉p)(c:1<=i)(b:i<=p.c)(y:Int):On v p (lp v p i,y)↔y=lp v p (i-1)\/y=lp v p (i+1):=by constructor;rintro⟨j,g,e|e⟩;let a:=zaC Prod.fst e;let d:=zaC Prod.snd e;ext(z:j=0);rw[z]at a;exact absurd a<|qL f c b;let:=D9 n c b () g a;rw[this];exact .inr d;let a:lp v p i=lp v p (j+1):=zaC Prod.fst e;let d:y=lp v p j:=zaC Prod.snd e;ext(z:j+1=p.c+1);rw[z,kL]at a;exact absurd a<|qL f c b;left;rw[d,D9 n c b () () a];rfl;rintro (e|e);exact#[i-1,(),.inr<|by rw[e,show i-1+1=i by lia]];exact#[i,(),.inl<|by rw[e]]
theorem oz(n:p.Nodup)(a:v∉p)(b:2<=p.c)(c:1<=i)(d:i<=p.c):lp v p (i-1)≠lp v p (i+1):=λe=>by ext(z:i=1);subst z;exact qL a () b e.symm;ext(y:i=p.c);rw[y,kL]at e;exact qL a () () e;let:=D9 n () () () () e;lia
theorem On.at(b:v∉p)(f:1<=p.c)(y:Int):On v p (v,y)↔y=lp v p 1\/y=lp v p p.c:=by constructor;rintro⟨j,c,e|e⟩;let a:=zaC Prod.fst e;let d:=zaC Prod.snd e;ext(z:j=0);subst z;exact .inl d;exact absurd a.symm<|qL b () c;let a:v=lp v p (j+1):=zaC Prod.fst e;ext(z:j=p.c);subst z;exact .inr<|zaC Prod.snd e;exact absurd a.symm<|qL b () ();rintro (e|e);exact#[0,(),.inl<|by rw[e];rfl];exact#[p.c,(),.inr<|by rw[e,kL]]
end
theorem along(n:p.Nodup)(b:v∉p)(c:2<=p.c)(e:∀i,1<=i->i<=p.c->(ez M<|lp v p i).Nodup)(a:∀i,1<=i->i<=p.c->∀y,y∈ez M (lp v p i)↔y=lp v p (i-1)\/y=lp v p (i+1)){C:aA->Prop}(f:∀d,C d->C (nx M d))(h:C (v,lp v p 1)):∀j,j<=p.c->C (lp v p j,lp v p<|j+1)
 | 0,_=>h
 | j+1,hj=>by
  let g:=f _<|along n b c e a f h j ();let:nx M (lp v p j,lp v p<|j+1)=(lp v p<|j+1,lp v p<|j+1+1):=by show(_,_)=_;exact zbP rfl<|(two_pre (e (j+1) () hj) (a (j+1) () hj)<|oz n b c () hj).2.1
  rwa[this]at g
theorem LR(n:p.Nodup)(b:v∉p)(e:2<=p.c)(f:∀i,1<=i->i<=p.c->(ez M<|lp v p i).Nodup)(a:∀i,1<=i->i<=p.c->∀y,y∈ez M (lp v p i)↔y=lp v p (i-1)\/y=lp v p (i+1)){C:aA->Prop}(g:∀d,C d->C (nx M d))(h:C (v,lp v p p.c)):∀k,k<=p.c->C (lp v p<|p.c-k+1,lp v p<|p.c-k)
 | 0,_=>zfm>>kL>>h
 | k+1,hk=>by let c:=g _<|LR n b e f a g h k ();let:nx M (lp v p<|p.c-k+1,lp v p<|p.c-k)=(lp v p<|p.c-k,lp v p<|p.c-k-1):=zbP rfl<|(two_pre (f (p.c-k) () ()) (a (p.c-k) () ())<|oz n b e () ()).2.2;rw[this]at c;erw[show p.c-(k+1)+1=p.c-k by lia,show p.c-(k+1)=p.c-k-1 by lia,c]
theorem Kc(D:Dec L R)(a:c∈R)(all:∀d,Dt L d->d∈c):R.c<=1:=by
 match R,D,a with
 | [],_,_=>simp
 | [_],_,_=>simp
 | c1::c2::R,D,a=>
  exfalso;let w:∀e∈c1::c2::R,∃d∈e,d∈c:=λe g=>by let#[x,l,rfl,_]:=D.jM e g;exact#[x,zan,all x<|(D.mem x).mp<|zbb.mpr #[_,g,zan]]
  let#[f,b,n1]:=w c1 A?;let#[i,h,n2]:=w c2 A?;let:=D.nd;rw[zcb,zcb]at this;exact(zbf.mp this).2.2 f b f (zaT _<|by erw[jW D.nd A? a h n2,<-(jW D.nd A? a b n1),b]) rfl
theorem Mp.Wa(f:Mp L){v n n1 n2 n3:Int}(G:0<=v)(v1:v<L.c)(hs:[n,n1,n2,n3].Sublist<|ez L v)(U:p.Nodup)(P:q.Nodup)(r:v∉p)(A:v∉q)(pq:∀x∈p,x∉q)(p2:2<=p.c)(q2:2<=q.c)(Q:lp v p 1=n)(N:lp v p p.c=n2)(q0:lp v q 1=n1)(O:lp v q q.c=n3)(dp:∀i,1<=i->i<p.c->Dt L (lp v p i,lp v p<|i+1))(dq:∀i,1<=i->i<q.c->Dt L (lp v q i,lp v q<|i+1)):False:=by
 let Ut:=f.map.nd _ _<|aK G v1;let g:∀x∈[n,n1,n2,n3],Dt L (v,x):=λx hx=>#[G,v1,hs.subset hx];let back:∀x y,Dt L (x,y)->Dt L (y,x):=λx y h=>by let#[b0,b1,_,b3]:=h.back f.map;exact#[b0,b1,b3]
 let Yz:∀d,On v p d->Dt L d:=by
  ext d ⟨j,B,e⟩;let:Dt L (lp v p j,lp v p<|j+1):=by ext(z:j=0);subst z;rw[zE,Q];exact g _ A?;ext(y:j=p.c);rw[y,kL,N];exact back _ _<|g _ A?;exact dp j () ()
  ext(e|e:e)<;>rw[e];exact this;exact back _ _ this
 let F:∀d,On v q d->Dt L d:=by
  ext d ⟨j,B,e⟩;let:Dt L (lp v q j,lp v q<|j+1):=by ext(z:j=0);subst z;rw[zE,q0];exact g _ A?;ext(y:j=q.c);rw[y,kL,O];exact back _ _<|g _ A?;exact dq j () ()
  ext(e|e:e)<;>rw[e];exact this;exact back _ _ this
 let Y:∀d,Decidable<|On v p d\/On v q d:=λd=>Classical.propDecidable _;let#[M,fM,lM,rM]:=Mp.sub (λd=>@decide _<|Y d) (λx y=>by let:(On v p (x,y)\/On v q (x,y))↔(On v p (y,x)\/On v q (y,x)):=#[λh=>h.imp On.sw On.sw,λh=>h.imp On.sw On.sw];exact decide_eq_decide.mpr this) _ f rfl;let mem:∀x y:Int,0<=x->x<L.c->(y∈ez M x↔On v p (x,y)\/On v q (x,y)):=λx y t I=>rM x t>>zft>>zfv>>#[λh=>h.2,λh=>#[(h.elim (Yz _)<|F _).mem,h]]
 let K:∀x:Int,0<=x->x<L.c->(ez M x).Nodup:=λx t I=>rM x t>>(f.map.nd _ _<|aK t I).filter _
 let u:∀i,1<=i->i<=p.c->0<=lp v p i/\lp v p i<L.c:=λi b a=>by let:=Yz (lp v p i,lp v p<|i+1) #[i,a,.inl rfl];exact#[this.lo,this.hi]
 let w:∀i,1<=i->i<=q.c->0<=lp v q i/\lp v q i<L.c:=λi b a=>by let:=F (lp v q i,lp v q<|i+1) #[i,a,.inl rfl];exact#[this.lo,this.hi]
 let X:∀i,1<=i->i<=p.c->∀y,y∈ez M (lp v p i)↔y=lp v p (i-1)\/y=lp v p (i+1):=λi b a y=>by rw[mem _ _ (u i b a).1 (u i b a).2,On.mid U r b a];refine#[λh=>h.elim id λz=>?_,.inl];ext(z|z:z.fst);exact absurd z<|qL r b a;exact absurd z<|pq _<|zF b a
 let Qn:∀i,1<=i->i<=q.c->∀y,y∈ez M (lp v q i)↔y=lp v q (i-1)\/y=lp v q (i+1):=λi b a y=>by rw[mem _ _ (w i b a).1 (w i b a).2,On.mid P A b a];refine#[λh=>h.elim (λz=>?_) id,.inr];ext(z|z:z.fst);exact absurd z<|qL A b a;exact absurd (zF b a)<|pq _ z
 let E:ez M v=[n,n1,n2,n3]:=by rw[rM v G];refine Et hs Ut λy hy=>?_;rw[zfv,On.at r (),On.at A (),Q,N,q0,O];simp[zbp,zaV,zbs];constructor;rintro ((h|h) | (h|h))<;>simp[h];rintro (h|h|h|h)<;>simp[h]
 let#[R,S,D,s,e]:=fM.Mm;let dv:Dt M (v,n):=#[G,(),by rw[E];simp];let#[c,hc,o]:=zbb.mp<|(D.mem _).mpr dv;let m:∀d,d∈c->nx M d∈c:=λd o=>(D.jM c hc).on o;let Z:∀x,nx M (x,v)=(v,pre [n,n1,n2,n3] x):=λx=>by show(v,pre (ez M v) x)=_;rw[E]
 let#[f0,f1,f2,f3]:=Lc<|hs.nodup Ut;let Uy:=λi b a=>K _ (u i b a).1 (u i b a).2;let C:=λi b a=>K _ (w i b a).1 (w i b a).2;let a1:=along U r p2 Uy X m (Q>>o);let b1:(n2,v)∈c:=by let:=a1 p.c<|zaf _;rwa[kL,N]at this
 let c1:(v,n1)∈c:=by let:=m _ b1;rw[Z,f2]at this;exact this
 let a2:=along P A q2 C Qn m (q0>>c1);let b2:(n3,v)∈c:=by let:=a2 q.c<|zaf _;rw[kL,O]at this;exact this
 let c2:(v,n2)∈c:=by let:=m _ b2;rw[Z,f3]at this;exact this
 let a3:=LR U r p2 Uy X m (N>>c2);let b3:(n,v)∈c:=by let:=a3 p.c<|zaf _;rw[zcD,zE,zcl,Q]at this;exact this
 let c3:(v,n3)∈c:=by let:=m _ b3;rw[Z,f0]at this;exact this
 let all:∀d,Dt M d->d∈c:=λd o=>by let:=(mem d.1 d.2 o.lo (by let:=o.hi;lia)).mp o.mem;ext(⟨j,B,e|e⟩|⟨j,B,e|e⟩:this);rw[show d=(lp v p j,lp v p<|j+1)from e];exact a1 j B;rw[show d=(lp v p<|j+1,lp v p j)from e];let:=a3 (p.c-j) ();rw[show p.c-(p.c-j)=j by lia]at this;exact this;rw[show d=(lp v q j,lp v q<|j+1)from e];exact a2 j B;rw[show d=(lp v q<|j+1,lp v q j)from e];let:=(LR P A q2 C Qn m<|O>>c3) (q.c-j) ();rw[show q.c-(q.c-j)=j by lia]at this;exact this
 let r1:=Kc D hc all;let si:=Ja s G () (by rw[E];simp) fM.map;let Yh:∀x:Int,0<=x->x<L.c->x≠v->ez M x=[]\/(ez M x).c=2:=λx t I xv=>by ext(hp:x∈p);right;let#[i,H,rfl]:=zaH.mp hp;let:=((λi b a=>two_pre (K _ (u i b a).1 (u i b a).2) (X i b a)<|oz U r p2 b a) (i+1) () ()).1;rw[l7 () ()]at this;exact this;ext(hq:x∈q);right;let#[i,H,rfl]:=zaH.mp hq;let:=((λi b a=>two_pre (K _ (w i b a).1 (w i b a).2) (Qn i b a)<|oz P A q2 b a) (i+1) () ()).1;rw[l7 () ()]at this;exact this;left;refine List.eq_nil_iff_forall_not_mem.mpr λy hy=>?_;ext(z|z:(mem x y t I).mp hy);ext(z|z:z.fst);exact xv z;exact hp z;ext(z|z:z.fst);exact xv z;exact hq z
 let hv:v.toNat<M.c:=();let sp:M=M.take v.toNat++ez M v::M.drop (v.toNat+1):=by
  let:ez M v=M[v.toNat]:=by unfold ez;simp[hv]
  rw[this,getElem_cons_drop,zcA]
 let part:∀(k:Nat) (h:k<M.c),k≠v.toNat->M[k]=[]\/M[k].c=2:=λk h hk=>by
  let:=Yh (k:Int) () () ();let e:ez M (k:Int)=M[k]:=by unfold ez;simp[h]
  rw[e]at this;exact this
 let s1:=yp (M.take v.toNat) λl W=>by let#[i,H,rfl]:=zaH.mp W;rw[getElem_take];rw[zaL]at H;exact part i () ()
 let s2:=yp (M.drop<|v.toNat+1) λl W=>by let#[i,H,rfl]:=zaH.mp W;rw[getElem_drop];rw[zbz]at H;exact part _ () ()
 let t1:(dR M M.c).c=((M.take v.toNat).map List.length).sum+(4+((M.drop<|v.toNat+1).map List.length).sum):=by
  rw[N7]
  conv=>lhs;rw[sp]
  rw[zat,zbx,sum_append,sum_cons,E];rfl
 let t2:iso M=(M.take v.toNat).countP (·.isEmpty)+(M.drop<|v.toNat+1).countP (·.isEmpty):=by
  unfold iso
  conv=>lhs;rw[sp]
  rw[countP_append,countP_cons,E];rfl
 let t3:M.c=(M.take v.toNat).c+(1+(M.drop<|v.toNat+1).c):=by rw[zaL,zbz];lia
 lia
end Gm
namespace L2
open PySem PySem.Spec PySem.W PySem.Calls PyProof.Rows
theorem G6(n:Nat):sliceRange ((n:Int)-1) (-1) (-1)=(List.range n).reverse:=by
 unfold sliceRange;rw[zaj ()];let a:(if(n:Int)-1 > -1 then((n:Int)-1 - -1 - -1-1) / (- -1)else 0).toNat=n:=by
  ext(h:(n:Int)-1 > -1);rw[zam h];let:((n:Int)-1 - -1 - -1-1) / (- -1)=n:=by rw[show(n:Int)-1 - -1 - -1-1=n by lia,show(- -1:Int)=1 by decide,Int.ediv_one]
  rw[this];lia;rw[zaj h];lia
 dsimp only;rw[a];refine zes A? λi b c=>?_;simp[zaa,zby]at b;rw[zeT,getElem_reverse,zeN,zeN,zby];lia
theorem JS:∀(a:cq),slicePick a.toArray none none (some<|-1)=a.reverse.toArray:=by
 ext a;unfold slicePick;let b:sliceBounds none none (some<|-1) a.toArray.size=((a.toArray.size:Int)-1,-1,-1):=rfl;rw[b];rw[G6,filterMap_reverse];congr 2;rw[zaW];let:∀(l:cq),(List.range l.c).filterMap (λx=>l.toArray[x]?)=l:=by
  ext l;let h:∀k,k<=l.c->(List.range k).filterMap (λx=>l.toArray[x]?)=l.take k:=by
   ext k;induction k with
   | zero=>intro _;rfl
   | succ k c=>
    ext d;rw[zcn,filterMap_append,c (),zer,zac ()];simp[show k<l.c by lia]
  rw[h _<|zaf _,zbg]
 exact this a
section
variable {X:Cx} {e st:Expr} {te WO:TE} {p2 pos:Pos}
noncomputable def Ya(K:Frag)(te WO:TE):TE:=λc H Q=>te c H λx d=>WO c d λy b=>y=.int (-1)/\∃a xs,x=.ref a/\aI K b a xs/\∀p,b p=none->Q (.ref p) (upd b p<|.lst xs.reverse)
theorem QG{K:Frag}(D:X.K=K)(w:PE X e te)(u:PE X st WO):PE X (.Subscript e (.Slice none none (some st) p2) pos)<|Ya K te WO:=by subst D;ext pins s c H Q I h;refine Subscript_<|dD (w pins s c H _ I h) λv B ⟨x,i,l,m,j⟩=>?_;refine wpAny_Slice ?_;rw[evalPart_none];refine zay ?_;refine zay ?_;rw[evalPart_some];refine dD (u pins B c i _ l j) λvs g ⟨y,A,k,n,p⟩=>?_;let#[rfl,a,xs,rfl,z,q]:=p;let#[t,rfl]:=n;cases m;let d:Inv X pins c A { g with heap:=g.heap.push { cls:=.type "slice",data:=.fields #[.none,.none,.int (-1) t,] } }:=k.kept λb C q=>zap _ q;let#[E,r,f,o]:=d.list z;let hlen:=r.c;refine tail_any f.isList.typeIs PySem.F.slot_list_getitem.lookup ?_ (by with_unfolding_all rfl);refine wpAny_getItem_list_slice f.isList (Heap.IsSliceOf.new ..) .none .none (.int (-1) t) A? ?_ (by rw[zaW]<;>lia);rw[JS];refine#[.ref _,_,d.laid (λb C q=>zap _ q) (zaf _) ?_,rfl,q _<|d.cw.fresh<|zaf _];exact#[zdQ>>o,_,0,r.reverse,zaK _ rfl]
end
end L2
namespace Gm
open PySem L2
noncomputable def sw(d:aA):aA:=(d.2,d.1)
theorem KS{l:dm}{k:Nat}(n:l.Nodup)(a:k<l.c):l.idxOf l[k]=k:=by exact(zco n).mp<|zdY<|zbW<|zbo a
end Gm
namespace Gm
open PySem L2
noncomputable def nm(a:List<|Int×Int)(p:Int):Int:=(a.lookup p).getD 0
abbrev Wait:=Int×Int×Int
end Gm
namespace L2
open PySem PySem.Spec PySem.W PySem.Calls PyProof.Rows Gm
section
variable {X:Cx} {l:Expr} {tl:TE} {p p2 pos mX:Pos}
noncomputable def A1(tl:TE):TE:=λb H Q=>tl b H λx a=>∃n:Nat,x=.int (n:Int)/\n<=1000/\∀p,a p=none->Q (.ref p) (upd a p<|.lst<|(eQ n).f)
theorem GV(h:ItemsOf (λi v=>∃t,v=Value.int (0+(i:Int)*1) t) acc n):Vals ((eQ n).f) acc.toList:=by
 let#[g,h]:=h;let c:∀(l:cq) (k:Nat),(∀j v,l[j]?=some v->∃t,v=Value.int (((k+j:Nat):Int)) t)->Vals (((List.range' k l.c).map λi:Nat=>(i:Int)).f) l:=by
  ext l;induction l with
  | nil=>intro k _;exact .nil
  | cons a l f=>
   ext k d;rw[zbi,range'_succ,zbx,zbx];refine .cons ?_<|f (k+1) λj v e=>?_;let#[t,e]:=d 0 a rfl;exact#[t,e];let#[t,b]:=d (j+1) v (~~~e);exact#[t,by rw[b];congr 2;lia]
 let:=c acc.toList 0 λj v e=>by let#[t,b]:=h j v (by erw[<-zcY,e]);refine#[t,?_];rw[b];congr 1;lia
 rw[zbm,g]at this;unfold eQ;erw[range_eq_range',this]
theorem ky(z:X.calm=true)(M:X.mg "range"=none)(C:X.mg "list"=none)(D:PE X l tl)(K:Gl X "range":=by rfl)(y:Gl X "list":=by rfl)(r:starEach [l] X.env=(false,eval l X.env)::starEach [] X.env:=by rfl)(k:starEach [.Call (.Name "range" p) [l] [] pos] X.env=(false,eval (.Call (.Name "range" p) [l] [] pos) X.env)::starEach [] X.env:=by rfl) :
  PE X (.Call (.Name "list" p2) [.Call (.Name "range" p) [l] [] pos] [] mX) (A1 tl):=by
 ext pins s f H Q I h;refine Call_<|dM I y C i7<|zaJ ?_ k rfl;rw[k];refine zbH ?_;refine Call_<|dM I K M boot_range<|zaJ ?_ r rfl;rw[r];refine zbH<|dD (D pins s f H _ I h) λO a ⟨x,j,E,F,A⟩=>?_;refine zbT ?_;let#[n,rfl,P,q]:=A;let#[t,rfl]:=F;refine call_range_1 ?_;refine zbT ?_;generalize m:a.heap.push { cls:=Value.type "range",data:=Data.fields #[Value.int 0 a.toks,Value.int (n:Int) t,Value.int 1<|a.toks+1,] }=h';let i:Inv X pins f j { a with heap:=h',toks:=a.toks+1+1 }:=E.kept λc o e=>m▸zap _ e;refine call_list_range (n:=n) (i.ok.hd z) (m▸IsRange.new ..) (small_one () () () ()) (by rw[rangeSize_one];split<;>lia) () λw v d c L N g=>?_;let B:Inv X pins f (upd j h'.e<|.lst<|(eQ n).f) { a with heap:=w,toks:=v }:=by refine Inv.jO (s:={ a with heap:=h',toks:=a.toks+1+1 }) (ch:=[]) i (λb u _ e=>L b u e) (λb G=>by simp at G) (zaf _) ?_;exact#[by rw[zaa,eU,zak];lia,d.toList,c,GV g,zcH>>N]
 exact#[.ref h'.e,_,B,rfl,q _<|i.cw.fresh<|zaf _]
end
theorem xp(h:tl σ H λx a=>∃n:Nat,x=.int (n:Int)/\n<=1000/\∀p,a p=none->Q (.ref p) (upd a p<|.lst<|(eQ n).f)):A1 tl σ H Q:=h
theorem fL(h:te σ H λx b=>tl σ b λl a=>th σ a λu c=>r x l u c Q):LX r te tl th σ H Q:=h
theorem zZ{k:Nat}{y:Int}(h:xs[k]?=some y):(y::xs.eraseIdx k).Perm xs:=by let#[a,e]:=zab.mp h;rw[eraseIdx_eq_take_drop_succ];refine List.perm_middle.symm.trans ?_;rw[<-e,<-zcc a,zcA]
theorem UK(h:(cg P w).is k u=true):RelV (kV k) u:=by
 rw[D6]at h;cases k with
 | inl i=>
  let h:Value.isInt i u=true:=h;cases u<;>simp_all[Value.isInt,kV,RelV]
 | inr x=>exact Value.isStrOf_shape h
theorem KV.key(h:KV c vs):∀{i:Nat} {k:Key} {x:Value},vs[i]?=some (k,x)->∃v,c[i]?=some (k,v):=by
 induction h with
 | nil=>intro i k x e;cases i<;>cases e
 | @cons p q c vs r t d=>
  ext i k x e;cases i with
  | zero=>
   let e:q=(k,x):= ~~~e
   subst e;let#[a,b]:=p;let:a=k:=r.1;exact#[b,by rw[<-this];rfl]
  | succ i=>exact d (~~~e)
noncomputable def Qx:List V->Hp->VK->Prop:=λxs H Q=>∃a b,xs=[V.ref a]/\H a=some (.dK b)/\∀p,H p=none->Q (.ref p) (upd H p<|.lst<|b.map λkv=>kV kv.1)
theorem GW(kv:KV b vs)(h:ItemsOf (λi v=>∃k x,vs[i]?=some (k,x)/\(cg P w).is k v=true) acc vs.c):Vals (b.map λkv=>kV kv.1) acc.toList:=by
 let#[n,h]:=h;let f:∀(b:List<|Key×V) (l:cq),b.c=l.c->(∀(j:Nat) (u:Value),l[j]?=some u->∃k v,b[j]?=some (k,v)/\RelV (kV k) u)->Vals (b.map λkv=>kV kv.1) l:=by
  ext b;induction b with
  | nil=>intro l c _;cases l with|nil=>exact .nil|cons _ _=>simp at c
  | cons p b q=>
   ext l c d;cases l with
   | nil=>simp at c
   | cons a l=>
    refine .cons ?_<|q l (~~~c) λj u e=>?_;let#[k,v,e,r]:=d 0 a rfl;let e:p=(k,v):= ~~~e
    rw[e];exact r;let#[k,v,o,r]:=d (j+1) u (~~~e);exact#[k,v,~~~o,r]
 refine f _ _ (kv.length.trans<|n.symm.trans zbm.symm) λj u e=>?_;let#[k,x,g,d]:=h j u (by erw[<-zcY,e]);let#[v,m]:=kv.key g;exact#[k,v,m,UK d]
theorem EF(i:X.calm=true):eF X (.type "list") Qx:=by ext pins s v H xs p Q I r h;let#[a,d,rfl,g,q]:=h;let#[u,rfl,l]:=vals1 r;cases l;let#[f,k,vs,kv,m]:=xS I.cw g;let#[x,j]:=m.dictAt;let o:=kv.c;refine kdl_call (kdl_dict k) (I.ok.hd i) j () λh' t b c n e it=>?_;refine#[.ref s.d,_,I.laid n (zaf _)<|show bU X.prog X.w _ h' _ (.lst<|d.map λkv=>kV kv.1)from#[zaa>>f,b.toList,c,GW kv it,zcH>>e],rfl,q _<|I.cw.fresh<|zaf _]
end L2
namespace Gm
open PySem L2
noncomputable def gZ(l:dm)(i:Int):Int:=l.getD i.toNat 0
theorem Kr{k:Nat}{x:Int}(h:l[k]?=some x):gZ l (k:Int)=x:=by unfold gZ;rw[zaB,zah,h];rfl
theorem rV(b:0<=i)(c:i<l.c):l[i.toNat]?=some (gZ l i):=by
 let a:i.toNat<l.c:=();let:=Kr<|zac a;rw[zcf b]at this;erw[this,zac a]
structure vd(n:Nat)(l:dm):Prop where
 len:l.c=n
 nd:l.Nodup
 rg:∀x∈l,0<=x/\x<n
theorem vd.all{n:Nat}(h:vd n l){x:Int}(c:0<=x)(b:x<n):x∈l:=by
 refine zaA λz=>?_;let:=fb (zau.mpr #[z,h.nd]) λy a=>by ext(rfl|a:zaw.mp a);exact#[c,b];exact h.rg y a
 rw[zbi,h.len]at this;lia
theorem vd.T6{n:Nat}(h:vd n l){i:Int}(a:0<=i)(b:i<n):0<=gZ l i/\gZ l i<n:=
 h.rg _ (zag<|rV a<|h.len>>b)
theorem vd.inj{n:Nat}(h:vd n l){i j:Int}(b:0<=i)(g:i<n)(d:0<=j)(c:j<n)(e:gZ l i=gZ l j):i=j:=by let a:=rV b (h.len>>g);rw[e]at a;let#[k,f]:=zab.mp a;let#[b1,b2]:=zab.mp (rV d<|h.len>>c);let:=(zco h.nd).mp<|f.trans b2.symm;lia
theorem vd.vH{n:Nat}(h:vd n l){x:Int}(c:0<=x)(b:x<n):∃j:Int,0<=j/\j<n/\gZ l j=x:=by let#[k,a,e]:=zaH.mp<|h.all c b;exact#[(k:Int),(),by rw[h.len]at a;lia,Kr<|by rw[zac a,e]]
structure EN(A:dy)(l:dm)(R:dy):Prop where
 len:R.c=A.c
 row:∀j:Int,0<=j->j<A.c->R[(gZ l j).toNat]?=some ((ez A j).map<|gZ l)
theorem iw{i:Nat}(h:L[i]?=some l):ez L (i:Int)=l:=by unfold ez;rw[zaB,zah,h];rfl
theorem EN.iV(h:EN A l R)(n:vd A.c l)(m:aH A):aH R:=by
 let q:∀(i:Nat) (r:dm),R[i]?=some r->∃j:Int,0<=j/\j<A.c/\gZ l j=i/\r=(ez A j).map (gZ l):=λi r p=>by let H:=(zab.mp p).1;rw[h.len]at H;let#[j,f,c,e]:=n.vH (x:=(i:Int)) () ();let s:=h.row j f c;rw[e,zaB,p]at s;exact#[j,f,c,e,zas s]
 let t:∀{j x:Int},0<=j->j<A.c->x∈ez A j->0<=x/\x<A.c/\x≠j/\j∈ez A x:=λ{j x} f c g=>Dt.back (d:=(j,x)) #[f,c,g] m;refine#[λi r p=>?_,λi r p y u=>?_,λi r p y u k I M G=>?_];let#[j,f,c,e,rfl]:=q i r p;let:∀l':dm,l'.Nodup->(∀x∈l',0<=x/\x<A.c)->(l'.map<|gZ l).Nodup:=by
  ext l';induction l' with
  | nil=>intro _ _;exact nodup_nil
  | cons a l' F=>
   ext K v;rw[zbx,nodup_cons];let w:=zau.mp K;refine#[λz=>?_,F w.2 λx g=>v x<|zae _ g];let#[b,C,L]:=zaq.mp z;let E:=v a zan;let D:=v b<|zae _ C;exact w.1<|n.inj D.1 D.2 E.1 E.2 L▸C
 exact this _ (m.nd _ _<|aK f c) λx g=>#[(t f c g).1,(t f c g).2.1];let#[j,f,c,e,rfl]:=q i r p;let#[x,g,rfl]:=zaq.mp u;let o:=t f c g;let B:=n.T6 o.1 o.2.1;exact#[B.1,h.len>>B.2,λz=>o.2.2.1<|n.inj o.1 o.2.1 f c<|z.trans e.symm];let#[j,f,c,e,rfl]:=q i r p;let#[x,g,rfl]:=zaq.mp u;let o:=t f c g;let s:=h.row x o.1 o.2.1;rw[I,zaB,G]at s;erw[zas s,zaq.mpr #[j,o.2.2.2,e]]
noncomputable def wB(L:dy):Prop:=∀x:Int,0<=x->x<L.c->Reach L 0 x
theorem Reach.sym(h:Reach L s x)(m:aH L)(f:0<=s/\s<L.c):Reach L x s:=by
 induction h with
 | here=>exact .here
 | @step i l x r e c a=>
  let d:=Reach.rh e c;let b:=d.back m;exact(Reach.one (d:=(x,(i:Int))) .here #[b.1,b.2.1,b.2.2.2]).trans a
theorem wB.of(m:aH L){s:Int}(b:0<=s)(a:s<L.c)(h:∀x:Int,0<=x->x<L.c->Reach L s x):wB L:=λx c d=>
 ((h 0 (Int.le_refl 0) ()).sym m #[b,a]).trans (h x c d)
theorem pH(e:St->Hp->Prop)(f:∀c d,e c d->b D c d)(g:∀T:St->Hp->Prop,(∀c d,e c d->T c d)->a { D with nx:=T } σ H):MD a b D σ H:=g _ f
theorem dw(h:t σ H λx b=>∃a,x=.ref a/\(∃xs,aI K b a xs)/\R (C1 K a) b):Ci K t σ H R:=h
end Gm
namespace Gm
open PySem L2
theorem ig{c:List aA}(h:(c.map (·.1)).Nodup){d e:aA}(f:d∈c)(g:e∈c)(q:d.1=e.1):d=e:=by let#[i,a,rfl]:=zaH.mp f;let#[j,b,rfl]:=zaH.mp g;let:=(zco (h₀:=zaa>>a) (h₁:=zaa>>b) h).mp (zeT>>zeT>>q);subst this;rfl
theorem Wk.hold{f:aA->aA}{P:aA->Prop}{x y:aA}(k:Wk f x l y)(b:P x)(c:∀d,d∈l->P d->P (f d)):∀e∈l,P e:=by
 induction k with
 | nil _=>intro e a;cases a
 | @cons x y l k g=>
  ext e a;ext(z|z:zaw.mp a);rw[z];exact b;exact g (c x zan b) (λd h=>c d<|zae _ h) e z
theorem yi.all{f:aA->aA}{P:aA->Prop}(h:yi f c){d:aA}(b:d∈c)(a:P d)(g:∀e,e∈c->P e->P (f e)):∀e∈c,P e:=by let#[v,pv,k]:=h.turn b;ext e i;ext(z|z:zaw.mp<|pv.mem_iff.mpr i);rw[z];exact a;exact k.hold (g d b a) (λx j=>g x<|pv.mem_iff.mp<|zae _ j) e z
noncomputable def oW(L:dy):Prop:=∀d,Dt L d->∃c,d∈c/\yi (nx L) c/\(c.map (·.1)).Nodup
theorem oW.ring(s:oW L)(g:Good L r)(n:(sh 0 r).Nodup):r.Nodup:=by let#[c,m,a,h]:=s _<|g.dt 0;let all:∀j,dj r j∈c:=λj=>g.on (λd _ k=>a.on k) m j;refine zbr.mpr λi j b f l e=>?_;refine mr n l ()<|ig h (all i) (all j) ?_;show cy r i=cy r j;erw[fB b,fB f,e]
theorem oW.apart(s:oW L)(st:ck L)(n:3<=L.c)(D:Dec L R)(h:Dt L (a,b))(j:c∈R)(k:(a,b)∈c):(b,a)∉c:=by
 ext p;let#[q,f,g,m]:=s _ h;let l:=D.jM c j;let b1:=l.all k f (λe _ i=>g.on i) _ p;let all:=l.all (P:=λd=>d=(a,b)\/d=(b,a)) k (.inl rfl) λe _ i=>by ext(rfl|rfl:i);exact .inr<|ig m (g.on f) b1 rfl;exact .inl<|ig m (g.on b1) f rfl
 let:=eM (r:=[(a,b),(b,a)]) ((zch.mp D.nd).1 c j) λx o=>by ext(z|z:all x o)<;>simp[z]
 let:=st.three n D j;simp at *;lia
theorem dH(n:r.Nodup)(h:i<j)(m:j<i+r.c):cy r i≠cy r j:=by
 ext z;let d:0<r.c:=();let e:=zaI i d;let k:=zaI j d;let f:cy r i=r[i%r.c]:=by erw[<-fB e,bT<|by rw[zbJ]]
 let g:cy r j=r[j%r.c]:=by erw[<-fB k,bT<|by rw[zbJ]]
 rw[f,g]at z;let l:=(zco n).mp z;let:=zfb i r.c;let:=zfb j r.c;let a:r.c*(i / r.c)<r.c*(j / r.c):=();let b:i / r.c+1<=j / r.c:=Nat.lt_of_mul_lt_mul_left a;let c:=zfh r.c b;rw[Nat.mul_add,Nat.mul_one]at c;lia
theorem P1(n:r.Nodup)(s:Nat):∀{m:Nat},m<=r.c->((List.range m).map λt=>cy r<|s+t).Nodup:=λ{m} d=>by refine zbZ _ (R:=λa b=>a<b/\b<m) (λa b h=>?_) ?_;exact dH n () ();refine zbX (λ{a b} e c h=>#[h,zaD.mp c]) pairwise_lt_range
theorem seg_at(a:0<r.c):∃u,u<r.c/\dj r t=dj r (s+u):=by refine#[(t+s*r.c-s)%r.c,zaI _ a,bX ?_];let e:=zdt s a;rw[zfa,show s+(t+s*r.c-s)=t+s*r.c by lia,Nat.add_mul_mod_self_right]
theorem cF.Mb(F:cF L a b A B)(j:z1∈ez L a)(q:z2∈ez L b)(i:pre A z1=b)(n:pre B z2=a) :
  nx (both L a b A B) (z1,a)=(a,b)/\nx (both L a b A B) (z2,b)=(b,a)/\nx (both L a b A B) (a,b)=nx L (z2,b)/\nx (both L a b A B) (b,a)=nx L (z1,a)/\
  ∀d,Dt L d->d≠(z1,a)->d≠(z2,b)->nx (both L a b A B) d=nx L d:=by
 let#[r,s,u,k]:=Dt.back (d:=(a,z1)) #[F.a0,F.a1,j] F.map;let#[p,h,t,o]:=Dt.back (d:=(b,z2)) #[F.b0,F.b1,q] F.map;let g:Dt L (z1,a):=#[r,s,k];let f:Dt L (z2,b):=#[p,h,o];let n1:nx (both L a b A B) (z1,a)=(a,b):=by unfold nx;rw[F.row F.a0,zaj F.ne,zam rfl,i]
 let n2:nx (both L a b A B) (z2,b)=(b,a):=by unfold nx;rw[F.row F.b0,zam rfl,n]
 let e:∀d,Dt L d->nx L d=if nx (both L a b A B) d=(b,a)then nx (both L a b A B) (a,b)else if nx (both L a b A B) d=(a,b)then nx (both L a b A B) (b,a)else nx (both L a b A B) d:=λd c=>by let:=pF F.iV F.dt (F.rem>>c);rwa [F.rem]at this
 refine#[n1,n2,?_,?_,λd c m l=>?_];let:=e _ f;rw[zam n2]at this;exact this.symm;let:=e _ g;rw[n1,zaj<|λz=>F.ne<|zaC Prod.fst z,zam rfl]at this;exact this.symm;let:=e d c;rw[zaj<|λz=>l<|fQ F.iV (F.sub _ c) (F.sub _ f)<|z.trans n2.symm,zaj<|λz=>m<|fQ F.iV (F.sub _ c) (F.sub _ g)<|z.trans n1.symm]at this;exact this.symm
theorem cF.dR(F:cF L a b A B)(h:Dt (both L a b A B) d):Dt L d\/d=(a,b)\/d=(b,a):=by ext(z|⟨z,y⟩|⟨z,y⟩:(F.mem h.lo).mp h.mem);exact .inl #[h.lo,by let:=h.hi;rwa [eY]at this,z];exact .inr<|.inl<|zbP z y;exact .inr<|.inr<|zbP z y
theorem yi.keep(h:yi f c)(e:∀d∈c,g d=f d):yi g c:=by let#[x,l,rfl,k]:=h;exact#[x,l,rfl,k.congr e]
theorem ck.i8(s:ck L):wB L:=λx a b=>by let#[t,c,r]:=s.span x a b;rwa[zai.mp c]at r
noncomputable def near(L:dy)(a:dm)(v:Int):dm:=(ez L v).filter λz=>decide<|z∈a
theorem fG(m:aH L){x y:Int}(a:0<=x)(b:x<L.c)(h:y∈ez L x):0<=y/\y<L.c/\y≠x/\x∈ez L y:=Dt.back (d:=(x,y)) #[a,b,h] m
theorem eg.road(h:eg L S s x)(m:aH L)(K:0<=s/\s<L.c)(v:Int) :
  ∃p:dm,p.Nodup/\p≠[]/\lp v p 1=s/\lp v p p.c=x/\(∀y∈p,eg L S s y)/\∀i,1<=i->i<p.c->Dt L (lp v p i,lp v p<|i+1):=by
 induction h with
 | here=>exact#[[s],by simp,by simp,rfl,rfl,λy f=>by erw[zai.mp f,.here],λi c d=>by simp at d;lia]
 | @step i l x r e u H C=>
  let#[p,t,G,A,B,all,ch]:=C;let E:=zce.mpr G;ext(w:x∈p);let#[k,I,rfl]:=zaH.mp w;let o:(p.take<|k+1).c=k+1:=by rw[zaL];lia
  let g:∀j,1<=j->j<=k+1->lp v (p.take<|k+1) j=lp v p j:=λj c d=>by rw[l7 c (),l7 c (),getElem_take]
  refine#[p.take<|k+1,t.sublist<|take_sublist _ _,λz=>by rw[z]at o;simp at o,g 1 () ()>>A,?_,λy f=>all y<|zcO f,λj c d=>?_];rw[o,g _ () (),l7 () ()];rfl;rw[g j c (),g (j+1) () ()];exact ch j c ();let n:∀j,1<=j->j<=p.c->lp v (p++[x]) j=lp v p j:=λj c d=>by rw[l7 c (by simp;lia),l7 c d,getElem_append_left]
  let q:lp v (p++[x]) (p.c+1)=x:=by rw[l7 () A?];simp
  refine#[p++[x],?_,by simp,n 1 () ()>>A,zav>>zbd>>q,λy f=>?_,λj c d=>?_];exact zbf.mpr #[t,by simp,λa D b F z=>w<|by erw[<-zai.mp F,<-z,D]];ext(z|z:zal.mp f);exact all y z;rw[zai.mp z];exact eg.step r e u H;rw[zav,zbd]at d;rw[n j c ()];ext(z:j=p.c);rw[z,q,B];exact Reach.rh e u;erw[n (j+1) () (),ch j c ()]
theorem M7{f:Int->Int}{x:Int}(inj:∀a∈l,∀b∈l,f a=f b->a=b)(c:x∈l):pre (l.map f) (f x)=f (pre l x):=by
 let d:∀(l:dm),(∀a∈l,∀b∈l,f a=f b->a=b)->x∈l->(l.map f).idxOf (f x)=l.idxOf x:=by
  ext l;induction l with
  | nil=>intro _ h;cases h
  | cons y l k=>
   ext inj c;rw[zbx,zdx,zdx];ext(e:y=x);subst e;simp;let b1:(f y==f x)=false:=by simpa using λz=>e<|inj y zan x c z
   let b2:(y==x)=false:= ~~~e
   rw[b1,b2];rw[k (λa j b i=>inj a (zae _ j) b<|zae _ i)<|(zaw.mp c).resolve_left λz=>e z.symm]
 unfold pre;rw[d l inj c,zaa];unfold cy;rw[zaa];let g:=zaI (l.idxOf x+l.c-1)<|zcJ c;rw[zah,zah,zao,zac g];rfl
theorem EN.ez(h:EN A l R){j:Int}(a:0<=j)(b:j<A.c)(n:vd A.c l):ez R (gZ l j)=(ez A j).map (gZ l):=by let r:=n.T6 a b;unfold Gm.ez;rw[zah,h.row j a b];rfl
noncomputable def Ir(l:dm)(d:aA):aA:=(gZ l d.1,gZ l d.2)
theorem EN.dt(h:EN A l R)(n:vd A.c l)(m:aH A)(a:Dt A d):Dt R<|Ir l d:=by let r:=n.T6 a.lo a.hi;refine#[r.1,h.len>>r.2,?_];show gZ l d.2∈Gm.ez R (gZ l d.1);erw[h.ez a.lo a.hi n,zaq.mpr #[d.2,a.mem,rfl]]
theorem EN.Gv(h:EN A l R)(n:vd A.c l)(a:Dt R e):∃d,Dt A d/\Ir l d=e:=by let f:=a.hi;rw[h.len]at f;let#[j,i,c,g]:=n.vH a.lo f;let b:=a.mem;rw[<-g,h.ez i c n]at b;let#[y,m,k]:=zaq.mp b;exact#[(j,y),#[i,c,m],zbP g k]
theorem EN.nx(h:EN A l R)(n:vd A.c l)(m:aH A)(o:Dt A d):nx R (Ir l d)=Ir l (Gm.nx A d):=by let#[c,b1,b2,j]:=o.back m;unfold Gm.nx Ir;rw[h.ez c b1 n,M7 (λa k b i e=>?_) j];let g:=fG m c b1 k;let f:=fG m c b1 i;exact n.inj g.1 g.2.1 f.1 f.2.1 e
theorem FU(n:vd A.c l)(m:aH A)(a:Dt A d)(b:Dt A e)(q:Ir l d=Ir l e):d=e:=by let#[c,b1,_]:=a.back m;let#[f,g,_]:=b.back m;exact zbP (n.inj a.lo a.hi b.lo b.hi<|zaC Prod.fst q)<|n.inj c b1 f g<|zaC Prod.snd q
theorem Reach.OU(h:EN A l R)(n:vd A.c l)(m:aH A)(r:Reach A s x):Reach R (gZ l s)<|gZ l x:=by
 induction r with
 | here=>exact .here
 | step r e b a=>
  rename_i i c x;exact Reach.one a<|h.dt n m<|Reach.rh e b
end Gm
namespace L2
open PySem PySem.Spec PySem.W PySem.Calls PyProof.Rows Gm Fr
section
variable {X:Cx} {CX:Dj} {k j:Nat} {ps:List Str} {sp:Sp} {E:XK} {x:Str} {p pos:Pos}
theorem He(h:bW X.prog X.w X.K X.mg X.base CX x k ps sp)(e:gJ j X.A)(i:Passes CX X E)(g:k<=j:=by decide)(d:Gl X x:=by rfl)(a:(x==("__debug__":Str))=false:=by decide) :
  PE X (.Call (.Name x p) [] [] pos) (wR sp [] E ph):=by
 let#[f,m,F,b,l,c]:=h.ex;exact JU F (e.mono g) d b l c .nil i a
end
end L2
namespace Gm
open PySem L2
theorem tJ(g:l.Nodup)(b:z∈l)(a:n∉l)(d:y∈l)(i:y≠z):pre (put l (l.idxOf z) n) y=pre l y:=by let c:(put l (l.idxOf z) n).Nodup:=xB a g;let f:y∈put l (l.idxOf z) n:=kH.mpr<|.inr d;let h:=mH c f (kH.mpr<|.inl rfl) λe=>a<|e▸d;rw[iC a]at h;let:pre (put l (l.idxOf z) n) y≠n:=λe=>i<|y8 c f (kH.mpr<|.inr b)<|e.trans (hW b a).symm;rw[zaj this]at h;exact h.symm
theorem ck.place(s:ck L)(g:Good L r)(u:(sh 0 r).Nodup){cs:List Nat}(l:cs.Pairwise (·<·))(E:∀c∈cs,c<r.c)(un:(cs.map<|cy r).Nodup) :
  ∀k,1<=k->k<=cs.c->∃M q f,Pl L r q f (cs.take k) M/\cs[k-1]?=some f/\∀c∈cs.take k,ez M (cy r c)=put (ez L<|cy r c) ((ez L<|cy r c).idxOf<|cy r<|c+(r.c-1)) L.c:=by
 ext k;induction k with
 | zero=>intro h;lia
 | succ k H=>
  ext _ P;obtain⟨c,a⟩:∃c,cs[k]?=some c:=#[cs[k],zac ()];let v:=E c<|zag a;let#[O,t,N,ed]:=eK g s.map;let w:cs.take (k+1)=cs.take k++[c]:=by rw[take_add_one,a];rfl
  rw[w];ext(K:k=0);subst K;let#[F,m]:=Pl.first s g u v;refine#[_,c,c,m,~~~a,λe d=>?_];let i:e=c:= ~~~d
  subst i;rw[F.row t,zaj (),zam rfl];let#[M,q,f,m,p,rows]:=H () ();let o:f<c:=by let#[G,y]:=zab.mp p;let#[C,D]:=zab.mp a;let:=zbr.mp l (k-1) k G C ();rwa[y,D]at this
  let b:∀e∈cs.take k,cy r e≠cy r c:=λe d z=>by refine (kF (A:=[]) (B:=cs.map<|cy r) (j:=k) (x:=cy r c) (~~~un)<|by rw[zao,a];rfl) ?_;erw[zdA,<-zeR,<-z,zaq.mpr #[e,d,rfl]]
  let#[F,n]:=m.next s g u o v b;refine#[_,q,c,n,zcB>>a,λe d=>?_];ext(h|h:zal.mp d);let#[_,I,Q,_]:=eK g s.map;rw[F.row I,zaj (),zaj<|b e h,rows e h];let i:e=c:= ~~~h
  subst i;rw[F.row t,zaj (),zam rfl]
structure XD(L:dy)(r:dm)(cs:List Nat)(M:dy):Prop where
 cT:ck M
 len:M.c=L.c+1
 new:ez M (L.c:Int)=cs.map (cy r)
 sub:∀d,Dt L d->Dt M d
 keep:∀x:Int,0<=x->x<L.c->(∀c∈cs,cy r c≠x)->ez M x=ez L x
 Mb:∀d,Dt L d->(∀c∈cs,d≠dj r (c+(r.c-1)))->nx M d=nx L d
theorem ck.put(s:ck L)(g:Good L r)(q:(sh 0 r).Nodup)(t:cs≠[])(f:cs.Pairwise (·<·))(o:∀c∈cs,c<r.c)(un:(cs.map<|cy r).Nodup):∃M,XD L r cs M:=by let#[M,w,v,a,_,rows]:=s.place g q f o un cs.c (zce.mpr t)<|zaf _;rw[zbg]at a rows;refine#[M,a.sh,a.len,a.new,a.sub,a.keep,λd u p=>?_];let#[i,b1,b2,l]:=u.back s.map;unfold nx;ext(h:∃c∈cs,cy r c=d.2);let#[c,b,e]:=h;let#[k,m,n,ed]:=eK g s.map;rw[e]at k m n ed;let j:=rows c b;rw[e]at j;rw[j,tJ (s.map.nd _ _<|aK i b1) k (nP s.map i b1) l λz=>p c b ?_];rw[ed,<-z];rw[a.keep d.2 i b1 λc b e=>h #[c,b,e]]
theorem XD.good(p:XD L r cs M)(a:Good L q)(b:∀j c,dj q j≠dj r c):Good M q:=
 #[a.two,λj=>p.sub _<|a.dt j,λj=>by erw[p.Mb _ (a.dt j) λc _=>b j _,a.st j]]
noncomputable def u9(L:dy):Prop:=∀a b x y:Int,0<=x->x<L.c->0<=y->y<L.c->x≠a->x≠b->y≠a->y≠b->eg L [a,b] x y
theorem eg.gu(h:eg L S s x)(a:s∉S):x∉S:=by
 cases h with
 | here=>exact a
 | step _ _ _ h=>exact h
theorem xf(m:aH L)(D:Dec L R)(a:c∈R)(j:Nat):dj (c.map (·.1)) j∈c:=by let#[g,b,_]:=D.good m a;let:dj (c.map (·.1)) j∈sh 0 (c.map (·.1)):=(bN (by let:=g.two;lia)).mpr #[j,rfl];rwa[b]at this
theorem df(h:x∈r):∃i,i<r.c/\cy r i=x:=by let#[i,a,e]:=zaH.mp h;exact#[i,a,fB a>>e]
theorem u9.meet(t:u9 L)(s:ck L)(sm:oW L)(D:Dec L R)(v:c1∈R)(E:c2∈R)(ne:c1≠c2)(ab:a≠b)(a1:a∈c1.map (·.1))(b1:b∈c1.map (·.1))(a2:a∈c2.map (·.1))(b2:b∈c2.map (·.1)):(a,b)∈c1\/(b,a)∈c1:=by
 refine zaA λno=>?_;let B:=s.map;let#[l,s1,n1]:=D.good B v;let#[g2,s2,n2]:=D.good B E;let W4:=sm.ring l (s1>>n1);let ag:=sm.ring g2 (s2>>n2);let g:=xf B D v;let P:=xf B D E;let r:∀i j,dj (c2.map (·.1)) i≠dj (c1.map (·.1)) j:=λi j e=>ne (jW D.nd v E (g j)<|by erw[<-e,P i]);let H:(sh 0<|c1.map (·.1)).Nodup:=s1>>n1
 let O:(sh 0<|c2.map (·.1)).Nodup:=s2>>n2
 generalize c1.map (·.1)=f at l W4 a1 b1 g r H;generalize c2.map (·.1)=A at g2 ag a2 b2 P r O;let ax:=l.two;let#[i,X,F]:=df a1;let#[j,hj,eb]:=df b1;let ij:i≠j:=λz=>ab (by rw[<-F,<-eb,z]);obtain⟨k,k0,k1,Q⟩:∃k,0<k/\k<f.c/\cy f (i+k)=b:=by ext(z:i<j);exact#[j-i,(),(),by erw[show i+(j-i)=j by lia,eb]];exact#[j+f.c-i,(),(),by erw[show i+(j+f.c-i)=j+f.c by lia,bT<|zax _ _,eb]]
 let d1:=g i;let d2:=g<|i+k;let e1:dj f i=(a,cy f<|i+1):=by unfold dj;rw[F]
 let e2:dj f (i+k)=(b,cy f<|i+k+1):=by unfold dj;rw[Q]
 rw[e1]at d1;rw[e2]at d2;let W:cy f (i+1)≠b:=λz=>(λz=>no<|.inl z) (by erw[<-z,d1]);let qa:cy f (i+k+1)≠a:=λz=>(λz=>no<|.inr z) (by erw[<-z,d2]);let k2:2<=k:=by
  refine zaA λz=>W ?_;let:k=1:=();rw[this]at Q;exact Q
 let k3:k+1<f.c:=by
  refine zaA λz=>qa ?_;let:i+k+1=i+f.c:=();erw[this,bT<|zax _ _,F]
 let pa:cy f (i+1)≠a:=λz=>dH W4 () ()<|F.trans z.symm;let qb:cy f (i+k+1)≠b:=λz=>dH W4 () ()<|Q.trans z.symm;let pq:cy f (i+1)≠cy f (i+k+1):=dH W4 () ();let I:=l.dt<|i+1;let K:=l.dt<|i+k+1;let LC:[0,1,k,k+1].map (cy<|du f i)=[a,cy f<|i+1,b,cy f<|i+k+1]:=by simp only[zbx,map_nil,λm=>iZ X m];rw[show 0+i=i by lia,F,show 1+i=i+1 by lia,show k+i=i+k by lia,Q,show k+1+i=i+k+1 by lia]
 let#[M,G]:=s.put (l.du X) (DE X>>(gL f i).nodup_iff.mpr H) (cs:=[0,1,k,k+1]) A? (by simp;lia) (by rw[cZ ()];simp;lia)
  (by rw[LC];simp[zbl pa,ab,zbl qa,W,pq,zbl qb])
 let ad:=G.good g2 λj c=>uY X>>r j _
 let#[U,qM,Z0]:=df a2;let#[Z,NO,ZZ]:=df b2;let as:U≠Z:=λz=>ab (by rw[<-Z0,<-ZZ,z]);obtain⟨n,al,ap,am,o⟩:∃n:List Nat,n≠[]/\n.Pairwise (·<·)/\(∀c∈n,c<A.c)/\(n.map (cy A)=[a,b]\/n.map (cy A)=[b,a]):=by ext(z:U<Z);exact#[[U,Z],by simp,by simp[z],by simp;lia,.inl<|by simp[Z0,ZZ]];exact#[[Z,U],by simp,by simp;lia,by simp;lia,.inr<|by simp[Z0,ZZ]]
 let an:(n.map<|cy A).Nodup:=by ext(z|z:o)<;>rw[z]<;>simp[ab,zbl ab]
 let#[N,C]:=G.cT.put ad O al ap am an;let Ml:=G.len;let Nl:=C.len;let ar:0<=a/\a<L.c:=by let:=l.dt i;rw[e1]at this;exact#[this.lo,this.hi]
 let br:0<=b/\b<L.c:=by let:=l.dt<|i+k;rw[e2]at this;exact#[this.lo,this.hi]
 let pr:0<=cy f (i+1)/\cy f (i+1)<L.c:=#[I.lo,I.hi];let qr:0<=cy f (i+k+1)/\cy f (i+k+1)<L.c:=#[K.lo,K.hi];generalize cy f (i+1)=p at *;generalize cy f (i+k+1)=q at *;let rv:ez N (L.c:Int)=[a,p,b,q]:=by rw[C.keep (L.c:Int) () () λc hc z=>?_,G.new,LC];let:cy A c∈n.map (cy A):=zaq.mpr #[c,hc,rfl];rw[z]at this;ext(w|w:o)<;>(rw[w]at this;simp at this;lia)
 let C9:∀x,x=a\/x=b->Dt N ((M.c:Int),x)/\Dt N (x,(M.c:Int)):=λx Y=>by let:Dt N ((M.c:Int),x):=#[(),(),by rw[C.new];ext(w|w:o)<;>rw[w]<;>simp[Y,Or.comm]];let#[c0,ac,_,c3]:=this.back C.cT.map;exact#[this,c0,ac,c3]
 let#[u,nu,u0,us,ue,au,cu]:=eg.road (t a b p q pr.1 pr.2 qr.1 qr.2 pa W qa qb) B pr (L.c:Int);let S:∀y∈u,(0<=y/\y<L.c)/\y≠a/\y≠b:=λy hy=>by let h:=au y hy;let E:=h.gu (by simp[pa,W]);simp at E;exact#[h.rg B pr,E]
 let lu:2<=u.c:=by
  let:=zce.mpr u0;refine zaA λz=>?_;let e:u.c=1:=();rw[e]at ue;exact pq<|us.symm.trans ue
 refine C.cT.pln.Wa (n1:=p) (n2:=b) (n3:=q) () () (by erw[rv,.refl _]) (p:=[a,(M.c:Int),b]) (q:=u) ?_ nu ?_ ?_ ?_ A? lu rfl rfl us ue ?_ λi h0 v=>(λd hd=>C.sub _<|G.sub _ hd) _<|cu i h0 v;simp[ab];lia;simp;lia;ext z;let:=(S _ z).1;lia;ext x Y hu;let:=S x hu;simp at Y;ext(z|z|z:Y);exact this.2.1 z;lia;exact this.2.2 z;ext i h0 v;simp at v;let:i=1\/i=2:=();ext(rfl|rfl:this);exact(C9 a<|.inl rfl).2;exact(C9 b<|.inr rfl).1
theorem eg.up(h:∀d,Dt L d->Dt M d)(r:eg L S s x):eg M S s x:=by
 induction r with
 | here=>exact .here
 | step r e b c a=>
  let d:=h _<|Reach.rh e b;exact eg.step a (~~~(aK d.lo d.hi)) d.mem c
theorem eg.trans(h:eg L S s x)(k:eg L S x y):eg L S s y:=by
 induction k with
 | here=>exact h
 | step _ e c b a=>exact .step a e c b
theorem eg.one(h:Dt L d)(a:d.2∉S):eg L S d.1 d.2:=by refine eg.step (by erw[zcf h.lo,.here]) (aK h.lo h.hi) h.mem a
theorem u9.up(t:u9 L)(k:M.c=L.c)(h:∀d,Dt L d->Dt M d):u9 M:=λa b x y i m f l j c e g=>
 (t a b x y i () f () j c e g).up h
theorem Tx{l:dm}(n:l.Nodup)(g:3<=l.c)(a b:Int):∃z∈l,z≠a/\z≠b:=by
 refine zaA λd=>?_;let:=eM (r:=[a,b]) n λx f=>by ext(e:x=a);simp[e];ext(c:x=b);simp[c];exact absurd #[x,f,e,c] d
 simp at this;lia
theorem u9.more(t:u9 L)(m:aH M)(N:M.c=L.c+1)(h:∀d,Dt L d->Dt M d)(A:3<=(ez M (L.c:Int)).c):u9 M:=by
 ext a b x y l O r Q n o e f;let j:(0:Int)<=(L.c:Int):=();let n1:(L.c:Int)<M.c:=();let#[z,q,g,k]:=Tx (m.nd _ _<|aK j n1) A a b;let#[i,G,P,F]:=fG m j n1 q;let p:z<L.c:=();let up:∀u w:Int,0<=u->u<L.c->0<=w->w<L.c->u≠a->u≠b->w≠a->w≠b->eg M [a,b] u w:=λu w D C v s H E B I=>(t a b u w D C v s H E B I).up h;ext(ex:x=(L.c:Int));ext(c:y=(L.c:Int));rw[ex,c];exact .here;let K:eg M [a,b] x z:=by erw[ex,eg.one (d:=((L.c:Int),z)) #[j,n1,q]<|by simp[g,k]]
 exact K.trans<|up z y i p r () g k e f;ext(c:y=(L.c:Int));refine(up x z l () i p n o g k).trans ?_;rw[c];rw[c]at e f;exact eg.one (d:=(z,(L.c:Int))) #[i,G,F] (by simp[e,f]);exact up x y l () r () n o e f
theorem u9.Ad(t:u9 L)(m:aH L)(Y:4<=L.c){x:Int}(n:0<=x)(o:x<L.c):3<=(ez L x).c:=by
 refine zaA λN=>?_;obtain⟨a,b,E⟩:∃a b:Int,∀z∈ez L x,z=a\/z=b:=by
  match hr:ez L x with
  | []=>exact#[0,0,λz d=>by cases d]
  | [u]=>exact#[u,u,λz d=>.inl<|zai.mp d]
  | [u,w]=>exact#[u,w,λz d=>~~~d]
  | u::w::v::l=>rw[hr]at N;simp at N
 let C:∀z∈ez L x,z≠x:=λz d=>(fG m n o d).2.2.1;have⟨y,P,W,X,A⟩:∃y:Int,(0<=y/\y<L.c)/\y≠a/\y≠b/\y≠x:=by
  refine zaA λk=>?_;let:=eM (r:=[a,b,x]) (j5 _) λz d=>by let d:=eX.mp d;ext(g:z=a);simp[g];ext(O:z=b);simp[O];ext(j:z=x);simp[j];exact absurd #[z,d,g,O,j] k
  rw[eU]at this;simp at this;lia
 ext(D:x=a\/x=b)
 
 obtain⟨c,M⟩:∃c:Int,∀z∈ez L x,z=c:=by ext(e|e:D);exact#[b,λz d=>(E z d).resolve_left λw=>C z d<|w.trans e.symm];exact#[a,λz d=>(E z d).resolve_right λw=>C z d<|w.trans e.symm]
 have⟨w,B,S,G⟩:∃w:Int,(0<=w/\w<L.c)/\w≠c/\w≠x:=by
  refine zaA λk=>?_;let:=eM (r:=[c,x]) (j5 _) λz d=>by let d:=eX.mp d;ext(g:z=c);simp[g];ext(j:z=x);simp[j];exact absurd #[z,d,g,j] k
  rw[eU]at this;simp at this;lia
 let R:x≠c:=λe=>by
  let h:=t y y x w n o B.1 B.2 (zbl A)<|zbl A;let only:∀u,eg L [y,y] x u->u=x:=λu s=>by
   induction s with
   | here=>rfl
   | @step i l Q _ p f _ q=>
    let:ez L x=l:=by erw[<-q,iw p]
    rw[<-this]at f;exact absurd ((M _ f).trans e.symm)<|C _ f
  ext(I:w=y);obtain⟨v,H,K,U⟩:∃v:Int,(0<=v/\v<L.c)/\v≠y/\v≠x:=by
   refine zaA λk=>?_;let:=eM (r:=[y,x]) (j5 _) λz d=>by ext(g:z=y);simp[g];ext(j:z=x);simp[j];exact absurd #[z,eX.mp d,g,j] k
   rw[eU]at this;simp at this;lia
  exact U<|only v (t y y x v n o H.1 H.2 (zbl A) (zbl A) K K);exact G<|only w (h I I)
 let h:=t c c x w n o B.1 B.2 R R S S;let only:∀u,eg L [c,c] x u->u=x:=λu s=>by
  induction s with
  | here=>rfl
  | @step i l Q _ p f F q=>
   let:ez L x=l:=by erw[<-q,iw p]
   rw[<-this]at f;exact absurd (by simp[M _ f]) F
 exact G<|only w h;let h:=t a b x y n o P.1 P.2 (λe=>D<|.inl e) (λe=>D<|.inr e) W X;let only:∀u,eg L [a,b] x u->u=x:=λu s=>by
  induction s with
  | here=>rfl
  | @step i l Q _ p f F q=>
   let:ez L x=l:=by erw[<-q,iw p]
   rw[<-this]at f;exact absurd (~~~E _ f) F
 exact A<|only y h
theorem M5(n:l.Nodup)(g:a∈l)(f:z∈l)(p:a≠z)(i:pre l a=z)(j:pre l z=a):l.c<=2:=by
 let m:=zeb.mpr g;let o:=zeb.mpr f;let b:∀{x:Int},x∈l->l.idxOf (pre l x)=if l.idxOf x=0 then l.c-1 else l.idxOf x-1:=λ{x} k=>by
  let h:=zeb.mpr k;unfold pre cy;rw[md h];let d:(if l.idxOf x=0 then l.c-1 else l.idxOf x-1)<l.c:=by split<;>lia
  erw[zah,zac d,Option.getD_some,KS n d]
 let c:=b g;let e:=b f;rw[i]at c;rw[j]at e;split at c<;>split at e<;>lia
theorem zY{c:List aA}{d:aA}(h:d∈c):d.1∈c.map (·.1):=zaq.mpr #[d,h,rfl]
theorem yB(D:Dec L R)(a:c∈R)(h:d∈c):d.2∈c.map (·.1):=zaq.mpr #[nx L d,(D.jM c a).on h,rfl]
theorem u9.one(t:u9 L)(s:ck L)(sm:oW L)(O:4<=L.c)(D:Dec L R)(f:c1∈R)(l:c2∈R)(A:c1≠c2)(k:d∈c1)(q:e∈c1)(G:(d.2,d.1)∈c2)(K:(e.2,e.1)∈c2):d=e:=by
 refine zaA λU=>?_;let m:=s.map;let r:∀{c:List aA},c∈R->(c.map (·.1)).Nodup:=λ{c} o=>by let#[g,S,n]:=D.good m o;exact sm.ring g (S>>n)
 let h:∀{c:List aA} {x:aA},c∈R->x∈c->Dt L x:=λo p=>(D.mem _).mp<|zbb.mpr #[_,o,p];let#[a,b]:=d;let ab:a≠b:=λz=>((h f k).back m).2.2.1 z.symm;let b1:=yB D f k;let b2:=zY G;obtain⟨z,E,F,B,H⟩:∃z,z∈c1.map (·.1)/\z∈c2.map (·.1)/\z≠a/\z≠b:=by ext(j:e.1=a\/e.1=b);ext(i:e.2=a\/e.2=b);exfalso;let N:e.1≠e.2:=λw=>((h f q).back m).2.2.1 w.symm;ext(j|j:j)<;>ext(i|i:i);exact N<|j.trans i.symm;exact U<|zbP j.symm i.symm;let:e=(b,a):=zbP j i;rw[this]at q;exact (λo u=>sm.apart s () D (h o u) o u) f k q;exact N<|j.trans i.symm;exact#[e.2,yB D f q,zY K,λw=>i<|.inl w,λw=>i<|.inr w];exact#[e.1,zY q,yB D l K,λw=>j<|.inl w,λw=>j<|.inr w]
 let W:(z,a)∈c1:=by ext(w|w:t.meet s sm D f l A (zbl B) (zY k) E (yB D l G) F);exact absurd (zaC Prod.snd<|(λp v=>ig (r f) p v) w k rfl) H;exact w
 let C:(b,z)∈c1:=by ext(w|w:t.meet s sm D f l A (zbl H) b1 E b2 F);exact w;exact absurd (zaC Prod.fst<|(λ{x y} p v w=>fQ m (h f p) (h f v)<|ig (r f) ((D.jM c1 f).on p) ((D.jM c1 f).on v) w) w k rfl) B
 let P:(z,b)∈c2:=by ext(w|w:t.meet s sm D l f (zbl A) (zbl H) b2 F b1 E);exact((λu Q=>A<|jW D.nd f l u Q) C w).elim;exact w
 let#[I,M,_,ba]:=(h f k).back m;let:=M5 (m.nd _ _<|aK I M) ba ((h f C).mem) (zbl B) (zaC Prod.snd<|ig (r f) ((D.jM c1 f).on k) C rfl)<|zaC Prod.snd<|ig (r l) ((D.jM c2 l).on P) G rfl;let:=t.Ad m O I M;lia
structure gK(L R:dy):Prop where
 good:∀r∈R,Good L r
 nd:(R.flatMap<|sh 0).Nodup
 all:∀d,Dt L d->d∈R.flatMap (sh 0)
theorem dU.T5(h:dU L R):gK L R:=#[h.good,h.nd,h.all]
theorem gK.dec(h:gK L R):Dec L<|R.map<|sh 0:=by let e:(R.map<|sh 0).flatten=R.flatMap (sh 0):=rfl;refine#[λc f=>?_,e>>h.nd,λd=>?_];let#[r,a,rfl]:=zaq.mp f;exact(h.good r a).jM;rw[e];constructor;ext z;let#[r,a,b]:=zaG.mp z;let#[j,rfl]:=(bN (by let:=(h.good r a).two;lia)).mp b;exact(h.good r a).dt j;exact h.all d
theorem uk(b:gK L R)(e:Dt L d):0<=lo R d/\lo R d<R.c:=by let#[r,f,c]:=zaG.mp<|b.all d e;let#[i,a]:=zaS.mp f;rw[KG b.nd a c];let:=(zab.mp a).1;lia
theorem tm(a:gK L R)(b:r∈R):(sh 0 r).Nodup:=(zch.mp a.dec.nd).1 _<|zaq.mpr #[r,b,rfl]
theorem Dec.T5(m:aH L)(D:Dec L<|R.map<|sh 0):gK L R:=by
 let e:(R.map<|sh 0).flatten=R.flatMap (sh 0):=rfl;refine#[λr a=>?_,by erw[<-e,D.nd],λd c=>by erw[<-e,(D.mem d).mpr c]];let:=(D.good m<|zaq.mpr #[r,a,rfl]).1;let fst:(sh 0 r).map (·.1)=r:=by unfold sh;rw[zfl];refine zes A? λi f b=>?_;simp[zeT,zeN,Function.comp];show cy r (i+0)=_;rw[zbu,fB b]
 rwa [fst]at this
theorem Rc{l:dm}(n:l.Nodup)(b:0<l.c)(m:Nat):l.idxOf (cy l m)=m%l.c:=by let a:=zaI m b;unfold cy;erw[zah,zac a,Option.getD_some,KS n a]
theorem gY(n:l.Nodup)(a:0<l.c)(m:Nat):pre l (cy l<|m+1)=cy l m:=by unfold pre;rw[Rc n a];refine bT ?_;rw[show(m+1)%l.c+l.c-1=(m+1)%l.c+(l.c-1)by lia,zdD,show m+1+(l.c-1)=m+l.c by lia,zax]
theorem uZ(f:Int->Int)(a:0<l.c)(m:Nat):cy (l.map f) m=f (cy l m):=by unfold cy;rw[zaa,zah,zah,zao,zac<|zaI m a];rfl
abbrev Du(R:dy):dy:=R.map<|BM R 0
noncomputable def dl(R:dy)(d:aA):aA:=(lo R d,lo R (d.2,d.1))
theorem kN(f:gK L R)(h:Dt L d):∃(i:Nat) (r:dm) (j:Nat),R[i]?=some r/\j<r.c/\d=dj r j/\lo R d=i:=by let#[r,g,b]:=zaG.mp<|f.all d h;let#[i,c]:=zaS.mp g;let#[k,a,e]:=zaH.mp b;rw[dE]at a;let:=xg (s:=0) a;rw[zac (dE>>a),e]at this;exact#[i,r,k,c,a,zas this,KG f.nd c b]
theorem yR(a:gK L R)(b:r∈R):(sh 0 r).Nodup:=(zch.mp a.dec.nd).1 _<|zaq.mpr #[r,b,rfl]
theorem oB(a:gK L R){i:Nat}(b:R[i]?=some r)(j:Nat):lo R (dj r j)=i:=by exact KG a.nd b<|(bN (by let:=(a.good r<|zag b).two;lia)).mpr #[j,rfl]
theorem KD(a:gK L R)(c:Dt L d):lo R (nx L d)=lo R d:=by let#[i,r,j,b,f,rfl,e]:=kN a c;rw[(a.good r<|zag b).st,oB a b,e]
theorem uV{i:Nat}(a:R[i]?=some r):ez (Du R) (i:Int)=BM R 0 r:=iw (by rw[zao,a];rfl)
theorem gG:(Du R).c=R.c:=zaa _
theorem zD(g:Good L r):x∈BM R 0 r↔∃j,x=lo R ((dj r j).2,(dj r j).1):=by unfold BM;rw[mem_map];constructor;ext⟨d,a,rfl⟩;let#[j,rfl]:=(bN (by let:=g.two;lia)).mp a;exact#[j,rfl];ext⟨j,rfl⟩;exact#[dj r j,(bN (by let:=g.two;lia)).mpr #[j,rfl],rfl]
theorem CJ(a:gK L R)(h:aH L)(f:Dt L d):Dt (Du R)<|dl R d:=by let#[i,r,j,b,g,rfl,e]:=kN a f;let c:=uk a f;refine#[c.1,gG>>c.2,?_];show lo R _∈ez (Du R) (lo R<|dj r j);erw[e,uV b,(zD<|a.good r<|zag b).mpr #[j,rfl]]
theorem Pz(f:gK L R)(a:Dt (Du R) e):∃d,Dt L d/\dl R d=e:=by
 let l:=a.hi;rw[gG]at l;let#[i,c]:=zaM a.lo;let k:i<R.c:=();let h:=zac k;let b:=a.mem;rw[c]at b;let m:e.2∈BM R 0 R[i]:=by erw[<-uV h,b]
 let g:=f.good R[i]<|zbo k;let#[j,n]:=(zD g).mp m;exact#[dj R[i] j,g.dt j,zbP ((oB f h j).trans c.symm) n.symm]
theorem Ls(g:gK L R)(w:rA<|Du R)(A:Dt L d)(u:Dt L e)(q:dl R d=dl R e):d=e:=by
 let#[i,r,j,l,f,rfl,n]:=kN g A;let#[z,c,b,k,m,rfl,o]:=kN g u;let y:lo R (dj r j)=lo R (dj c b):=zaC Prod.fst q;let v:lo R ((dj r j).2,(dj r j).1)=lo R ((dj c b).2,(dj c b).1):=zaC Prod.snd q;rw[n,o]at y;let x:i=z:=();subst x;rw[l]at k;cases k;let a:=tR (R:=R) (s:=0) f;let h:=tR (R:=R) (s:=0) m;rw[zbu]at a h;rw[v,<-h]at a;let p:j<(BM R 0 r).c:=gP>>f
 let t:b<(BM R 0 r).c:=gP>>m
 rw[zac p,zac t]at a;let:=(zco<|(w i _<|by rw[zao,l];rfl).2).mp<|zas a;rw[this]
theorem Ey(a:gK L R)(f:aH L)(n:rA<|Du R):aH<|Du R:=by
 refine me λx l m=>?_;let#[i,rfl]:=zaM l;let e:i<R.c:=by rw[gG]at m;lia
 let c:=zac e;let#[k,o]:=n i (BM R 0 R[i]) (by rw[zao,c];rfl);rw[uV c];refine#[o,λy d=>?_];let g:=a.good R[i]<|zbo e;let#[j,h]:=(zD g).mp d;let bk:=GJ f<|g.dt j;let b:=uk a bk;rw[<-h]at b;refine#[b.1,gG>>b.2,λz=>k<|z▸d,?_];show(i:Int)∈ez (Du R) y;erw[h,<-oB a c j,(CJ a f bk).mem]
theorem V1(b:gK L R)(n:aH L)(h:rA<|Du R)(k:Dt L e):nx (Du R) (dl R ((nx L e).2,(nx L e).1))=dl R e:=by
 let#[i,r,j,a,m,rfl,l]:=kN b k;let g:=b.good r<|zag a;let c:0<r.c:=by let:=g.two;lia
 rw[g.st];let s:∀d:aA,dl R (d.2,d.1)=(lo R (d.2,d.1),lo R d):=λd=>rfl;rw[s];unfold nx;dsimp only;rw[oB b a,uV a];let f:=J3 (R:=R) (s:=0) c<|j+1;rw[zbu]at f;rw[<-f,gY ((h i _<|by rw[zao,a];rfl).2) (gP>>c),J3 c,zbu];unfold dl;rw[oB b a]
noncomputable def rd(L R:dy)(b:Int):dm:=(ez L b).map λx=>lo R (x,b)
theorem Fv(g:gK L R)(c:aH L){b:Int}(e:0<=b)(b1:b<L.c)(a:0<(ez L b).c)(m:Nat):dj (rd L R b) m=dl R (cy (ez L b) m,b):=by let bk:=fG c e b1<|fE (j:=m+1) a;let dt:Dt L (cy (ez L b)<|m+1,b):=#[bk.1,bk.2.1,bk.2.2.2];let f:nx L (cy (ez L b)<|m+1,b)=(b,cy (ez L b) m):=zbP rfl<|gY (c.nd _ _<|aK e b1) a m;let d:=KD g dt;rw[f]at d;unfold dj rd dl;rw[uZ _ a,uZ _ a,<-d]
theorem MR(c:gK L R)(a:aH L)(f:rA<|Du R){b:Int}(d:0<=b)(b1:b<L.c)(h:2<=(ez L b).c):Good (Du R)<|rd L R b:=by
 let e:0<(ez L b).c:=();let dt:∀m,Dt L (cy (ez L b) m,b):=λm=>by let bk:=fG a d b1<|fE (j:=m) e;exact#[bk.1,bk.2.1,bk.2.2.2]
 refine#[by unfold rd;erw[zaa,h],λm=>by erw[Fv c a d b1 e,CJ c a<|dt m],λm=>?_];rw[Fv c a d b1 e,Fv c a d b1 e];let g:nx L (cy (ez L b)<|m+1,b)=(b,cy (ez L b) m):=zbP rfl<|gY (a.nd _ _<|aK d b1) e m;let:=V1 c a f<|dt<|m+1;rwa[g]at this
theorem Good.along(b:Good L r)(c:Good L q)(h:dj r i=dj q j)(m:Nat):dj r (i+m)=dj q (j+m):=by
 induction m with
 | zero=>exact h
 | succ m a=>rw[<-zdZ,<-zdZ,<-b.st,<-c.st,a]
structure vk(L R:dy):Prop where
 im:aH L
 ld:gK L R
 k6:rA (Du R)
 two:∀x:Int,0<=x->x<L.c->2<=(ez L x).c
theorem vk.dt(D:vk L R){b:Int}(a:0<=b)(b1:b<L.c)(m:Nat):Dt L (cy (ez L b) m,b):=by
 let c:0<(ez L b).c:=by let:=D.two b a b1;lia
 let#[e,f,_,g]:=Dt.back (d:=(b,cy (ez L b) m)) #[a,b1,fE c] D.im;exact#[e,f,g]
theorem vk.dR(D:vk L R):(Gm.dR (Du R) (Du R).c).c=(Gm.dR L L.c).c:=by
 let:=len_eq (zcg.mpr<|(cv D.im<|zaf _).imp_of_mem λ{a b} i f g q=>g<|Ls D.ld D.k6 (Dt.of i) (Dt.of f) q) (cv (Ey D.ld D.im D.k6)<|zaf _) λe=>by constructor;ext h;let#[d,c,rfl]:=zaq.mp h;exact(CJ D.ld D.im<|Dt.of c).all;ext h;let#[d,c,rfl]:=Pz D.ld<|Dt.of h;exact zaq.mpr #[d,c.all,rfl]
 rw[zaa]at this;exact this.symm
theorem vk.iso(D:vk L R):Gm.iso (Du R)=0:=by
 unfold Gm.iso;refine zfg.mpr λl a=>?_;let#[r,b,rfl]:=zaq.mp a;let g:=(D.ld.good r b).two;let a:=gP R 0 r;ext z;let z:BM R 0 r=[]:= ~~~z
 rw[z]at a;simp at a;lia
theorem vk.i8(D:vk L R)(w:wB L)(h:0<L.c):wB<|Du R:=by
 let j:=Ey D.ld D.im D.k6;let step:∀{d:aA},Dt L d->Reach (Du R) (lo R d) (lo R (d.2,d.1)):=λ{d} A=>Reach.one .here<|CJ D.ld D.im A;let round:∀{b:Int},0<=b->b<L.c->∀m,Reach (Du R) (lo R (cy (ez L b) 0,b))<|lo R (cy (ez L b) m,b):=λ{b} c b1 m=>by
  induction m with
  | zero=>exact .here
  | succ m f=>
   let h:0<(ez L b).c:=by let:=D.two b c b1;lia
   let s:nx L (cy (ez L b)<|m+1,b)=(b,cy (ez L b) m):=zbP rfl<|gY (D.im.nd _ _<|aK c b1) h m;let o:=KD D.ld<|D.dt c b1<|m+1;rw[s]at o;erw[<-o,f.trans<|step<|D.dt c b1 m]
 let a:∀{b x:Int},0<=b->b<L.c->x∈ez L b->Reach (Du R) (lo R (cy (ez L b) 0,b)) (lo R (x,b)):=λ{b x} c b1 g=>by let#[i,B,e]:=df g;let:=round c b1 i;rwa[e]at this
 let p:(0:Int)<L.c:=();let all:∀b:Int,Reach L 0 b->Reach (Du R) (lo R (cy (ez L 0) 0,0)) (lo R (cy (ez L b) 0,b)):=λb z=>by
  induction z with
  | here=>exact .here
  | @step i l x r e g f=>
   let d:=Reach.rh e g;let bk:=d.back D.im;let v:=f.trans<|a d.lo d.hi d.mem;exact (v.trans<|step #[bk.1,bk.2.1,bk.2.2.2]).trans<|(a bk.1 bk.2.1 bk.2.2.2).sym j (by let:=uk D.ld<|D.dt bk.1 bk.2.1 0;erw[gG,this])
 refine wB.of j (uk D.ld<|D.dt () p 0).1 (gG>>(uk D.ld<|D.dt () p 0).2) λx t u=>?_;rw[gG]at u;let#[k,rfl]:=zaM t;let dt:=(D.ld.good R[k]<|zbo ()).dt 0;let#[n,q,_,y]:=dt.back D.im;let:=(all (dj R[k] 0).2<|w _ n q).trans<|a n q y;rw[show((dj R[k] 0).1,(dj R[k] 0).2)=dj R[k] 0 from rfl,oB D.ld<|zac ()]at this;exact this
theorem u9.k6(t:u9 L)(s:ck L)(sm:oW L)(H:4<=L.c)(h:gK L R):rA<|Du R:=by
 let D:=h.dec;ext k l f;rw[zao]at f;cases hr:R[k]? with
 | none=>rw[hr]at f;cases f
 | some r=>
  rw[hr]at f;cases f;let o:=zag hr;let g:=h.good r o;let Q:0<r.c:=by let:=g.two;lia
  let A:sh 0 r∈R.map (sh 0):=zaq.mpr #[r,o,rfl];let x:∀j,dj r j∈sh 0 r:=λj=>(bN Q).mpr #[j,rfl];let land:∀j,∃c,c∈R/\∃i:Nat,R[i]?=some c/\lo R ((dj r j).2,(dj r j).1)=i/\((dj r j).2,(dj r j).1)∈sh 0 c:=λj=>by let#[i,c,m,p,B,e,q]:=kN h<|GJ s.map<|g.dt j;exact#[c,zag p,i,p,q,e>>(bN (by let:=(h.good c<|zag p).two;lia)).mpr #[m,rfl]]
  let apart:∀j,((dj r j).2,(dj r j).1)∉sh 0 r:=λj=>sm.apart s () D (a:=(dj r j).1) (b:=(dj r j).2) (g.dt j) A<|x j;constructor;ext z;let#[j,S]:=(zD g).mp z;let#[c,_,i,d,q,B]:=land j;rw[<-S]at q;let:i=k:=();subst this;rw[hr]at d;cases d;exact apart j B;refine zbr.mpr λi j d n G z=>?_;rw[gP]at d n;let u:=tR (R:=R) (s:=0) d;let v:=tR (R:=R) (s:=0) n;rw[zbu]at u v;rw[zac<|gP>>d]at u;rw[zac<|gP>>n]at v;rw[zas u,zas v]at z;let#[M,N,I,F,E,y]:=land i;let#[W,U,K,C,O,P]:=land j;rw[z,O]at E;let:I=K:=();subst this;rw[F]at C;cases C;let:=t.one s sm H D A (zaq.mpr #[M,N,rfl]) (λw=>apart i<|w>>y) (x i) (x j) y P;exact mr (Gm.yR h o) G () this
end Gm
namespace Gm
theorem eD.pre(h:eD l m)(n:m.Nodup)(f:y∈m):pre l y=pre m y:=by
 ext(rfl|⟨c,a,rfl⟩:h);rfl;let d:0<m.c:=();let#[i,g,e]:=df<|(eD.perm<|.inr #[c,a,rfl]).mem_iff.mpr f;let b:cy (du m c) (i+(m.c-1)+1)=y:=by erw[<-e,bT<|by rw[(eD.perm<|.inr #[c,a,rfl]).length_eq,show i+(m.c-1)+1=i+m.c by lia,zax]]
 rw[<-b,gY ((eD.perm<|.inr #[c,a,rfl]).nodup_iff.mpr n) (),iZ a,iZ a,show i+(m.c-1)+1+c=(i+(m.c-1)+c)+1 by lia,gY n d]
theorem cY.Xy(h:cY L M)(k:Dt L d):Dt M d:=#[k.lo,by erw[<-h.1,k.hi],(h.mem k.lo k.hi).mp k.mem]
theorem cY.nx(h:cY L M)(m:aH M)(k:Dt M d):nx L d=Gm.nx M d:=by let#[a,b1,_,b]:=k.back m;unfold Gm.nx;rw[(h.row a<|h.1>>b1).pre (m.nd _ _<|aK a b1) b]
theorem cY.dec(h:cY L M)(m:aH M)(D:Dec M R):Dec L R:=
 #[λc a=>(D.jM c a).keep λd b=>h.nx m<|(D.mem d).mp<|zbb.mpr #[c,a,b],D.nd,λd=>(D.mem d).trans #[λk=>h.dt k,λk=>h.Xy k]]
theorem cY.rF(h:cY L M)(m:aH M)(s:oW M):oW L:=λd f=>by let#[c,a,b,g]:=s d<|h.Xy f;refine#[c,a,b.keep λe i=>h.nx m ?_,g];exact b.all a (h.Xy f) (λe _ k=>k.nx m) e i
theorem cY.IQ(h:cY L M)(t:u9 M):u9 L:=t.up h.1 λd k=>h.dt k
theorem cY.iso(h:cY L M):iso L=Gm.iso M:=by
 obtain⟨hl,h⟩:=h;unfold Gm.iso
 induction L generalizing M with
 | nil=>cases M with
  | nil=>rfl
  | cons _ _=>simp at hl
 | cons l L ih=>cases M with
  | nil=>simp at hl
  | cons m M=>
   rw[countP_cons,countP_cons,ih (by simpa using hl) λi l m h1 h2=>h (i+1) l m (by simpa using h1) (by simpa using h2)];have:=(h 0 l m rfl rfl).len;have e:l.isEmpty=m.isEmpty:=by
    cases l<;>cases m<;>simp at this ⊢
   rw[e]
theorem cY.cT(h:cY L M)(s:ck M):ck L:=by
 let a:=h.iV s.map;refine#[a,h.1>>s.two,λx j m=>?_,?_];let#[k,l,r]:=s.span x j (by erw[<-h.1,m]);exact#[k,l,r.mono λd k=>h.dt k];let#[R,D,e]:=s.Mm;refine#[R,h.dec s.map D,?_];let i:=dP a;let o:=dP s.map;let n:(dR L L.c).c=(dR M M.c).c:=by refine zeZ (eM (cv a<|zaf _) λd g=>?_)<|eM (cv s.map<|zaf _) λd g=>?_;let#[c,b,f]:=kJ.mp g;exact(h.Xy #[c,b,f]).all;let#[c,b,f]:=kJ.mp g;exact(h.dt #[c,b,f]).all
 rw[h.1,h.iso,e];rw[h.1]at i n;lia
theorem ck.lands(s:ck L)(e:4<=L.c)(a:gK L R):R.c+4<=2*L.c/\(L.c:Int)+R.c=(iq L L.c).c+2:=by let#[R0,D,ch]:=s.Mm;let c:=a.dec.count D;rw[zaa]at c;let f:=uS λc b=>s.three () D b;rw[D.len s.map]at f;let i:=s.NB;let d:=dP s.map;lia
theorem u9.dua(t:u9 L)(s:ck L)(sm:oW L)(a:4<=L.c)(b:gK L R):vk L R:=
 #[s.map,b,t.k6 s sm a b,λx c d=>by let:=t.Ad s.map a c d;lia]
end Gm
namespace Gm
open PySem L2
theorem vk.Fu(D:vk L R){b:Int}(c:0<=b)(b1:b<L.c):sh 0 (rd L R b)=(ez L b).map λx=>dl R (x,b):=by
 let d:0<(ez L b).c:=by let:=D.two b c b1;lia
 refine zez λj=>?_;ext(a:j<(ez L b).c);rw[xg (by unfold rd;erw[zaa,a]),zao,zac a,zbu,Fv D.ld D.im c b1 d,fB a];rfl;rw[zbR (by rw[dE];unfold rd;rw[zaa];lia),zbR<|by rw[zaa];lia]
theorem vk.flat(D:vk L R):∀k,k<=L.c->(((List.range k).map λb:Nat=>sh 0<|rd L R (b:Int))).flatten=(Gm.dR L k).map λd=>dl R (d.2,d.1)
 | 0,_=>rfl
 | k+1,h=>by rw[zcn,zat,zct,D.flat k (),Gm.dR,zat,zfl];congr 1;rw[zea,zdl,D.Fu () ()];rfl
theorem vk.dec(D:vk L R):Dec (Du R) ((List.range L.c).map λb:Nat=>sh 0<|rd L R (b:Int)):=by refine#[λc j=>?_,?_,λd=>?_];let#[b,f,rfl]:=zaq.mp j;let f:=zaD.mp f;exact(MR D.ld D.im D.k6 () ()<|D.two b () ()).jM;rw[D.flat _<|zaf _];refine zcg.mpr<|(cv D.im<|zaf _).imp_of_mem λ{x y} a i g q=>g ?_;let bx:=Dt.back (Dt.of a) D.im;let e:=Dt.back (Dt.of i) D.im;let:=Ls D.ld D.k6 #[bx.1,bx.2.1,bx.2.2.2] #[e.1,e.2.1,e.2.2.2] q;exact zbP (zaC Prod.snd this)<|zaC Prod.fst this;rw[D.flat _<|zaf _];constructor;ext h;let#[x,a,rfl]:=zaq.mp h;let bx:=Dt.back (Dt.of a) D.im;exact CJ D.ld D.im #[bx.1,bx.2.1,bx.2.2.2];ext h;let#[x,a,rfl]:=Pz D.ld h;let bx:=Dt.back a D.im;exact zaq.mpr #[(x.2,x.1),(show Dt L (x.2,x.1)from#[bx.1,bx.2.1,bx.2.2.2]).all,rfl]
theorem vk.cT(D:vk L R)(s:ck L)(m:2<=R.c):ck<|Du R:=by
 let n:wB L:=λx a d=>by let#[t,i,r]:=s.span x a d;rw[zai.mp i]at r;exact r
 let j:=s.two;let f:=Ey D.ld D.im D.k6;refine#[f,gG>>m,λx a d=>#[0,by simp,(D.i8 n ()) x a d],_,D.dec,?_];let#[Q,k,ch]:=s.Mm;let c:=k.count D.ld.dec;rw[zaa]at c;let g:=dP f;let p:=dP D.im;let l:=D.dR;let o:=s.NB;let h:((List.range L.c).map λb:Nat=>sh 0<|rd L R (b:Int)).c=L.c:=by rw[zaa,zby]
 let e:=gG (R:=R);rw[h,D.iso,e];rw[e]at g l;lia
section
variable {a b:Int}
theorem eg.bk(m:aH L)(h:eg L S s x)(j:s∉S)(r:0<=s/\s<L.c):eg L S x s:=by
 induction h with
 | here=>exact .here
 | @step i l x g f d o n=>
  let k:=m.rg i l f x d;let#[c,rfl]:=zaM k.1;let e:c<L.c:=();exact eg.trans (eg.step .here (zac e) (m.sy i l f _ d c rfl _<|zac e)<|eg.gu g j) n
theorem eg.wk(m:aH L)(h:∀z:Int,0<=z->z<L.c->z∈S'->z∈S)(r:eg L S s x):eg L S' s x:=by
 induction r with
 | here=>exact .here
 | step _ d c f e=>exact .step e d c λz=>f<|h _ (m.rg _ _ d _ c).1 (m.rg _ _ d _ c).2.1 z
theorem pE{r:dm}(g:Good L r){S:dm}{i:Nat}:∀k,(∀t,1<=t->t<=k+1->cy r (i+t)∉S)->eg L S (cy r<|i+1) (cy r<|i+(k+1))
 | 0,_=>.here
 | k+1,h=>by exact (pE g k λt c d=>h t c ()).trans<|eg.one (g.dt _)<|h (k+2) () ()
theorem Lx(m:aH L)(D:Dec L R)(f:c∈R)(e:d∈c):∃i,d=dj (c.map (·.1)) i:=by let#[g,s,n]:=D.good m f;rw[<-s]at e;exact(bN (by let:=g.two;lia)).mp e
theorem nU(m:aH L)(sm:oW L)(D:Dec L R)(d:c∈R)(f:(x,a)∈c)(h:(y,a)∈c):x=y:=by let#[g,s,n]:=D.good m d;let e:=ig (sm.ring g<|s>>n) ((D.jM c d).on f) ((D.jM c d).on h) rfl;exact zaC Prod.fst<|fQ m ((D.mem _).mp<|zbb.mpr #[c,d,f]) ((D.mem _).mp<|zbb.mpr #[c,d,h]) e
theorem CO(m:aH L)(sm:oW L)(D:Dec L R)(e:c∈R)(j:(x,a)∈c)(f:b∉c.map (·.1)):eg L [a,b] (pre (ez L a) x) x:=by
 let#[g,s,n]:=D.good m e;let h:=sm.ring g (s>>n);let#[i,d]:=Lx m D e j;let st:=g.st i;generalize c.map (·.1)=r at g h d st f;let k:=g.two;let ex:cy r i=x:=(zaC Prod.fst d).symm;rw[<-d]at st;let l:cy r (i+2)=pre (ez L a) x:=(zaC Prod.snd st).symm;let p:=pE g (S:=[a,b]) (i:=i+1) (r.c-2) λt q o z=>by simp only[zbp,zaV,zbs]at z;ext(z|z:z);exact dH h () ()<|((zaC Prod.snd d).symm).trans z.symm;exact f<|z▸fE ()
 rwa[show i+1+(r.c-2+1)=i+r.c by lia,bT<|zax i _,ex,show i+1+1=i+2 by lia,l]at p
noncomputable def C0(R:List<|List aA):Prop:=∀c∈R,∀d∈R,c≠d->∀a b:Int,a≠b->a∈c.map (·.1)->b∈c.map (·.1)->a∈d.map (·.1)->b∈d.map (·.1)->(a,b)∈c\/(b,a)∈c
theorem u6(m:aH L)(e:0<=a)(c:a<L.c){S:dm}(d:0<(ez L a).c){i:Nat}:∀k,(∀t,t<k->eg L S (cy (ez L a)<|i+t) (cy (ez L a)<|i+t+1))->eg L S (cy (ez L a) i) (cy (ez L a)<|i+k)
 | 0,_=>.here
 | k+1,h=>(u6 m e c d k λt f=>h t ()).trans<|h k ()
theorem QS(m:aH L)(sm:oW L)(D:Dec L R)(mp:C0 R)(ab:a≠b)(w:0<=a)(A:a<L.c)(hx:x∈ez L a)(U:y∈ez L a)(xb:x≠b)(W:y≠b):eg L [a,b] x y:=by
 let r:=m.nd _ _<|aK w A;let G:∀{z:Int},z∈ez L a->(z∉[a,b]↔z≠b):=λ{z} N=>by let:=(Dt.back (d:=(a,z)) #[w,A,N] m).2.2.1;simp only[zbp,zaV,zbs,zen];exact#[λh=>h.2,λh=>#[this,h]]
 let Y:∀{z:Int},z∈ez L a->0<=z/\z<L.c:=λN=>#[(Dt.back (d:=(a,_)) #[w,A,N] m).1,(Dt.back (d:=(a,_)) #[w,A,N] m).2.1];let land:∀j,∃c∈R,(cy (ez L a)<|j+1,a)∈c/\(a,cy (ez L a) j)∈c:=λj=>by
  let l:=zcJ hx;let bk:=Dt.back (d:=(a,cy (ez L a)<|j+1)) #[w,A,fE (j:=j+1) l] m;let dt:Dt L (cy (ez L a)<|j+1,a):=#[bk.1,bk.2.1,bk.2.2.2];let#[c,f,B]:=zbb.mp<|(D.mem _).mpr dt;let nx:=(D.jM c f).on B;let e:Gm.nx L (cy (ez L a)<|j+1,a)=(a,cy (ez L a) j):=by show(a,pre (ez L a)<|cy (ez L a)<|j+1)=_;rw[gY r l]
  rw[e]at nx;exact#[c,f,B,nx]
 let F:∀i j,i<j->j<(ez L a).c->cy (ez L a) i≠b->cy (ez L a) j≠b->eg L [a,b] (cy (ez L a) i) (cy (ez L a) j):=by
  ext i j ij jn O K;let l:0<(ez L a).c:=();let good:∀t,(∀c∈R,(cy (ez L a)<|t+1,a)∈c->b∉c.map (·.1))->eg L [a,b] (cy (ez L a) t) (cy (ez L a)<|t+1):=λt h=>by let#[c,f,X,_]:=land t;let p:=CO m sm D f X<|h c f X;rwa [gY r l]at p
  let ad:cy (ez L a) i∈ez L a:=fE l;let UA:cy (ez L a) j∈ez L a:=fE l;ext(Z:∀t,i<=t->t<j->∀c∈R,(cy (ez L a)<|t+1,a)∈c->b∉c.map (·.1));let p:=u6 m w A l (S:=[a,b]) (i:=i) (j-i) λt ht=>good (i+t)<|Z (i+t) () ();rwa [show i+(j-i)=j by lia]at p;let g2:∀t,j<=t->t<i+(ez L a).c->∀c∈R,(cy (ez L a)<|t+1,a)∈c->b∉c.map (·.1):=by
   ext v ac am P I o Iy;refine Z λu ag al Q C M SM=>?_;let ne:Q≠P:=λz=>by subst z;let:=nU m sm D C M o;exact dH r (i:=u+1) (j:=v+1) () () this
   let fa:∀{t:Nat} {c:List aA},c∈R->(cy (ez L a)<|t+1,a)∈c->a∈c.map (·.1):=λf B=>zaq.mpr #[_,(D.jM _ f).on B,rfl];let at':∀{t:Nat} {c:List aA},c∈R->(cy (ez L a)<|t+1,a)∈c->((a,b)∈c\/(b,a)∈c)->cy (ez L a) t=b\/cy (ez L a) (t+1)=b:=λ{t c} f B h=>by ext(h|h:h);left;let#[g,s,n]:=D.good m f;let e:Gm.nx L (cy (ez L a)<|t+1,a)=(a,cy (ez L a) t):=(by show(a,pre (ez L a)<|cy (ez L a)<|t+1)=_;rw[gY r l]);let:=ig (sm.ring g<|s>>n) ((D.jM _ f).on B) h rfl;rw[e]at this;exact zaC Prod.snd this;right;exact nU m sm D f B h
   let k:=at' C M<|mp Q C P I ne a b ab (fa C M) SM (fa I o) Iy;let q:=at' I o<|mp P I Q C (zbl ne) a b ab (fa I o) Iy (fa C M) SM;ext(k|k:k)<;>ext(q|q:q);exact dH r (i:=u) (j:=v) () ()<|k.trans q.symm;ext(z:v+1=u+(ez L a).c);let:u=i:=();rw[this]at k;exact O k;exact dH r (i:=u) (j:=v+1) () ()<|k.trans q.symm;ext(z:u+1=v);let:v=j:=();rw[this]at q;exact K q;exact dH r (i:=u+1) (j:=v) () ()<|k.trans q.symm;exact dH r (i:=u+1) (j:=v+1) () ()<|k.trans q.symm
  let p:=u6 m w A l (S:=[a,b]) (i:=j) (i+(ez L a).c-j) λt ht=>good (j+t)<|g2 (j+t) () ();rw[show j+(i+(ez L a).c-j)=i+(ez L a).c by lia,bT<|zax i _]at p;exact p.bk m ((G UA).mpr K)<|Y UA
 let#[i,O,E]:=df hx;let#[j,K,H]:=df U;ext(z|z|z:zcL i j);rw[<-E,<-H];exact F i j z K (E>>xb) (H>>W);rw[<-E,<-H,z];exact .here;let p:=F j i z O (H>>W) (E>>xb);rw[E,H]at p;exact p.bk m ((G U).mpr W)<|Y U
theorem Reach.closed{P:Int->Prop}{s x:Int}(r:Reach L s x)(c:P s)(g:∀y z:Int,P y->Dt L (y,z)->P z):P x:=by
 induction r with
 | here=>exact c
 | @step i l x r e f d=>exact g _ _ d<|Reach.rh e f
theorem back_mem(m:aH L)(h:Dt L (x,y)):x∈ez L y:=(h.back m).2.2.2
theorem link(s:ck L)(sm:oW L)(D:Dec L R)(U:C0 R)(ab:a≠b)(h:0<=a)(k:a<L.c)(E:0<=b)(b1:b<L.c)(M:∀x:Int,0<=x->x<L.c->2<=(ez L x).c) :
  ∃x∈ez L a,x≠b/\∃y∈ez L b,y≠a/\eg L [a,b] x y:=by
 let m:=s.map;ext(C:b∈ez L a);let dt:Dt L (a,b):=#[h,k,C];let#[c,G,hd]:=zbb.mp<|(D.mem _).mpr dt;let#[g,X,n]:=D.good m G;let f:=sm.ring g (X>>n);let#[i,u]:=Lx m D G hd;let st:=g.st i;generalize c.map (·.1)=r at g f u st;let W:=g.two;let o:cy r i=a:=(zaC Prod.fst u).symm;let A:cy r (i+1)=b:=(zaC Prod.snd u).symm;let three:3<=r.c:=by
  refine zaA λz=>?_;let l2:r.c=2:=();let Z:cy r (i+2)=a:=by rw[show i+2=i+r.c by lia,bT<|zax i _,o]
  rw[<-u]at st;let e:pre (ez L b) a=a:=by let:=zaC Prod.snd st;exact this.trans Z
  let:=oo (m.nd _ _<|aK E b1) (back_mem m dt) e;let:=M b E b1;rw[‹ez L b=[a]›]at this;simp at this
 let p:=pE g (S:=[a,b]) (i:=i+1) (r.c-3) λt t1 t2 z=>by simp only[zbp,zaV,zbs]at z;ext(z|z:z);exact dH f () ()<|o.trans z.symm;exact dH f () ()<|A.trans z.symm
 rw[show i+1+1=i+2 by lia,show i+1+(r.c-3+1)=i+(r.c-1)by lia]at p;let N:Dt L (b,cy r<|i+2):=by let:=g.dt<|i+1;erw[<-A,this]
 let dx:Dt L (cy r<|i+(r.c-1),a):=by
  let e:cy r (i+(r.c-1)+1)=a:=by rw[show i+(r.c-1)+1=i+r.c by lia,bT<|zax i _,o]
  erw[<-e,g.dt<|i+(r.c-1)]
 let H:cy r (i+2)≠a:=λz=>dH f (i:=i) (j:=i+2) () ()<|o.trans z.symm;let I:=N.back m;exact#[_,back_mem m dx,λz=>dH f (i:=i+1) (j:=i+(r.c-1)) () ()<|A.trans z.symm,_,N.mem,H,p.bk m (by simp;exact#[H,λz=>dH f (i:=i+1) (j:=i+2) () ()<|A.trans z.symm]) #[I.1,I.2.1]];let ha:=M a h k;let Q:0<(ez L a).c:=();let q:cy (ez L a) 0∈ez L a:=fE Q;let B:cy (ez L a) 0≠b:=λz=>C<|z▸q;let K:cy (ez L a) 0∉[a,b]:=by simp;exact#[(Dt.back (d:=(a,cy (ez L a) 0)) #[h,k,q] m).2.2.1,B]
 refine zaA λY=>?_;let P:=(((s.i8 a h k).sym m #[(),()]).trans<|s.i8 b E b1).closed (P:=λw=>w=a\/eg L [a,b] (cy (ez L a) 0) w) (.inl rfl) λy z l v=>by ext(rfl|l:l);exact .inr<|QS m sm D U ab h k q v.mem B λw=>C<|w▸v.mem;ext(F:z=a);exact .inl F;ext(O:z=b);subst O;refine absurd #[_,q,B,y,back_mem m v,λw=>(eg.gu l K) (by simp[w]),l] Y;exact .inr (l.trans<|eg.one (d:=(y,z)) v<|by simp;exact#[F,O])
 ext(z|z:P);exact ab z.symm;exact eg.gu z K A?
theorem QK(s:ck L)(ab:a≠b)(l:0<=a)(h:a<L.c){z:Int}(k:0<=z)(i:z<L.c)(j:z≠a)(n:z≠b) :
  ∃x,eg L [a,b] z x/\((x∈ez L a/\x≠b)\/(x∈ez L b/\x≠a)):=by
 let m:=s.map;let g:z∉[a,b]:=by simp;exact#[j,n]
 refine zaA λf=>?_;let P:=(((s.i8 z k i).sym m #[(),()]).trans<|s.i8 a l h).closed (P:=λw=>eg L [a,b] z w) .here λy u c d=>by let e:=eg.gu c g;simp[zbp,zaV,zbs,zen]at e;refine c.trans<|eg.one d λw=>?_;simp[zbp,zaV,zbs]at w;ext(rfl|rfl:w);exact f #[y,c,.inl #[back_mem m d,e.2]];exact f #[y,c,.inr #[back_mem m d,e.1]]
 exact eg.gu P g A?
theorem P8(s:ck L)(sm:oW L)(D:Dec L R)(j:C0 R)(Z:∀x:Int,0<=x->x<L.c->2<=(ez L x).c)(ab:a≠b)(g:0<=a)(i:a<L.c)(k:0<=b)(b1:b<L.c){x y:Int}(M:0<=x)(P:x<L.c)(B:0<=y)(C:y<L.c)(Q:x≠a)(S:x≠b)(A:y≠a)(E:y≠b):eg L [a,b] x y:=by
 let m:=s.map;let#[u,l,r,v,G,U,W]:=link s sm D j ab g i k b1 Z;let X:∀{p q:Int},p∈ez L b->q∈ez L b->p≠a->q≠a->eg L [a,b] p q:=λc f H N=>(QS m sm D j (zbl ab) k b1 c f H N).wk m λz _ _ t=>by simp[zbp,zaV,zbs]at t ⊢;exact t.symm
 let e:∀{p:Int},p∈ez L a->(0<=p/\p<L.c)/\p≠a:=λn=>let h:=Dt.back (d:=(a,_)) #[g,i,n] m;#[#[h.1,h.2.1],h.2.2.1]
 let K:∀{p:Int},p∈ez L b->(0<=p/\p<L.c)/\p≠b:=λn=>let h:=Dt.back (d:=(b,_)) #[k,b1,n] m;#[#[h.1,h.2.1],h.2.2.1]
 let un:u∉[a,b]:=by simp;exact#[(e l).2,r]
 let o:∀{z:Int},0<=z->z<L.c->z≠a->z≠b->eg L [a,b] z u:=λ{z} O Y I zb=>by let#[w,F,h]:=QK s ab g i O Y I zb;ext(⟨c,f⟩|⟨c,f⟩:h);exact F.trans<|(QS m sm D j ab g i) c l f r;exact(F.trans<|X c G f U).trans<|W.bk m un (e l).1
 exact(o M P Q S).trans<|(o B C A E).bk m (by simp;exact#[A,E]) #[B,C]
theorem La{n:Nat}(h:4<=n)(p q r:Int):∃z:Int,0<=z/\z<n/\z≠p/\z≠q/\z≠r:=by
 refine zaA λd=>?_;let:=eM (j5 n) (r:=[p,q,r]) λx c=>by let c:=eX.mp c;simp only[zbp,zaV,zbs];refine zaA λz=>d #[x,c.1,c.2,?_];simp[zen]at z;exact z
 rw[eU]at this;simp at this;lia
theorem BX(s:ck L)(sm:oW L)(D:Dec L R)(u:C0 R)(K:∀x:Int,0<=x->x<L.c->2<=(ez L x).c)(l:4<=L.c):u9 L:=by
 ext a b x y o r G M p v F N;obtain⟨c,t,C,E,H,O⟩:∃c:Int,0<=c/\c<L.c/\x≠c/\y≠c/\(0<=a->a<L.c->a=c):=by ext(h:0<=a/\a<L.c);exact#[a,h.1,h.2,p,F,λ_ _=>rfl];let#[z,e,f,i,k,_]:=La l x y x;exact#[z,e,f,zbl i,zbl k,λg j=>absurd #[g,j] h]
 obtain⟨d,A,b1,bx,I,ba,B⟩:∃d:Int,0<=d/\d<L.c/\x≠d/\y≠d/\c≠d/\(0<=b->b<L.c->b=d\/b=c):=by ext(h:(0<=b/\b<L.c)/\c≠b);exact#[b,h.1.1,h.1.2,v,N,h.2,λ_ _=>.inl rfl];let#[z,e,f,i,k,n]:=La l x y c;refine#[z,e,f,zbl i,zbl k,zbl n,λg j=>.inr ?_];exact zaA λw=>h #[#[g,j],λq=>w q.symm]
 refine(P8 s sm D u K ba t C A b1 o r G M E bx H I).wk s.map λz e f m=>?_;simp[zbp,zaV,zbs]at m ⊢;ext(rfl|rfl:m);exact .inl<|O e f;exact(B e f).symm
end
theorem fY(r:dm):(sh 0 r).map (·.1)=r:=by unfold sh;rw[zfl];refine zes A? λi b a=>?_;simp[zeT,zeN,Function.comp];show cy r (i+0)=_;rw[zbu,fB a]
theorem zJ(c:gK L R)(k:aH L)(h:Dt L (x,b)):∃(i:Nat) (r:dm),R[i]?=some r/\lo R (x,b)=i/\(x,b)∈sh 0 r/\b∈r:=by
 let#[i,r,j,d,g,e,f]:=kN c h;let a:0<r.c:=();refine#[i,r,d,f,(bN a).mpr #[j,e],?_];let:b=cy r (j+1):=zaC Prod.snd e;erw[this,fE a]
theorem vk.Jv(D:vk L R)(sm:oW L){b:Int}(c:0<=b)(b1:b<L.c):(rd L R b).Nodup:=by
 refine zcg.mpr<|(D.im.nd _ _<|aK c b1).imp_of_mem λ{x y} m k n q=>n ?_;let bx:=fG D.im c b1 m;let a:=fG D.im c b1 k;let#[i,r,f,e,g,_]:=zJ D.ld D.im #[bx.1,bx.2.1,bx.2.2.2];let#[j,o,d,h,l,_]:=zJ D.ld D.im #[a.1,a.2.1,a.2.2.2];rw[q,h]at e;let:j=i:=();subst this;rw[f]at d;cases d;exact nU D.im sm D.ld.dec (zaq.mpr #[r,zag f,rfl]) g l
theorem vk.rF(D:vk L R)(sm:oW L):oW<|Du R:=λd g=>by let#[c,e,f]:=zbb.mp<|(D.dec.mem d).mpr g;refine#[c,f,D.dec.jM c e,?_];let#[b,a,rfl]:=zaq.mp e;let a:=zaD.mp a;erw[fY,D.Jv sm () ()]
theorem vk.meet(D:vk L R)(t:u9 L)(s:ck L)(sm:oW L):C0 ((List.range L.c).map λb:Nat=>sh 0<|rd L R (b:Int)):=by
 ext c1 h1 c2 h2 ne a b ab W b1 Z b2;let#[p,y,rfl]:=zaq.mp h1;let#[q,w,rfl]:=zaq.mp h2;let y:=zaD.mp y;let w:=zaD.mp w;let H:(p:Int)≠(q:Int):=λz=>ne (by rw[z]);rw[fY]at W b1 Z b2;let C:∀{z:Int} {u:Nat},u<L.c->z∈rd L R (u:Int)->∃(i:Nat) (r:dm),R[i]?=some r/\z=i/\(u:Int)∈r:=λ{z u} hu hz=>by let#[x,hx,e]:=zaq.mp hz;let bx:=fG D.im () () hx;let#[i,r,hr,el,_,hb]:=zJ D.ld D.im #[bx.1,bx.2.1,bx.2.2.2];exact#[i,r,hr,by erw[<-e,el],hb]
 let#[i,c,G,K,pa]:=C y W;let#[i',al,O,ag,U]:=C w Z;let#[j,o,F,eb,X]:=C y b1;let#[M,ac,P,ad,Y]:=C w b2;let:i'=i:=();subst this;let:M=j:=();subst this;rw[G]at O;cases O;rw[F]at P;cases P;let S:=zag G;let mb:=zag F;let I:sh 0 c∈R.map (sh 0):=zaq.mpr #[c,S,rfl];let cb:sh 0 o∈R.map (sh 0):=zaq.mpr #[o,mb,rfl];let E:=D.ld.good c S;let Q:=D.ld.good o mb;let n:∀{d:aA},d∈sh 0 c->lo R d=i':=λv=>by let#[k,rfl]:=(bN (by let:=E.two;lia)).mp v;exact oB D.ld G k
 let l:∀{d:aA},d∈sh 0 o->lo R d=M:=λv=>by let#[k,rfl]:=(bN (by let:=Q.two;lia)).mp v;exact oB D.ld F k
 let N:sh 0 c≠sh 0 o:=λz=>by let m:dj c 0∈sh 0 c:=(bN (by let:=E.two;lia)).mpr #[0,rfl];let f:=n m;rw[z]at m;let h:=l m;lia
 let A:=t.meet s sm D.ld.dec I cb N H (fY>>pa) (fY>>U) (fY>>X) (fY>>Y);let B:=t.meet s sm D.ld.dec cb I (zbl N) H (fY>>X) (fY>>Y) (fY>>pa) (fY>>U);rw[D.Fu () ()];let dt:∀{r:dm} {d:aA},Good L r->d∈sh 0 r->Dt L d:=λg v=>by let#[k,rfl]:=(bN (by let:=g.two;lia)).mp v;exact g.dt k
 ext(A|A:A)<;>ext(B|B:B);let f:=n A;let h:=l B;lia;right;refine zaq.mpr #[(q:Int),(dt E A).mem,?_];let f:=n A;let h:=l B;unfold dl;rw[f,h,K,eb];left;refine zaq.mpr #[(q:Int),(dt Q B).mem,?_];let f:=n A;let h:=l B;unfold dl;rw[f,h,K,eb];let f:=n A;let h:=l B;lia
theorem Ez{L:dy}{g:Nat}(h:∀x:Int,0<=x->x<L.c->g<=(ez L x).c):∀k,k<=L.c->g*k<=(dR L k).c
 | 0,_=>zaR _
 | k+1,hk=>by let a:=Ez h k ();let:=h (k:Int) () ();rw[dR,zav,zaa,zdV];lia
structure eA(L:dy):Prop where
 cT:ck L
 rF:oW L
 IQ:u9 L
 four:4<=L.c
theorem eA.map(t:eA L):aH L:=t.cT.map
theorem eA.Ad(t:eA L){x:Int}(a:0<=x)(b:x<L.c):3<=(ez L x).c:=t.IQ.Ad t.map t.four a b
theorem eA.KN(t:eA L)(c:gK L R):4<=R.c:=by let h:=(t.cT.lands t.four c).2;let g:=Ez (λx a b=>t.Ad a b) L.c<|zaf _;let d:=dP t.map;let:=t.four;lia
theorem eA.Z7(t:eA L)(a:gK L R):eA<|Du R:=by let D:=t.IQ.dua t.cT t.rF t.four a;let l4:=t.KN a;let sh:=D.cT t.cT ();let sm:=D.rF t.rF;refine#[sh,sm,BX sh sm D.dec (D.meet t.IQ t.cT t.rF) (λx c d=>?_) (gG>>l4),gG>>l4];rw[gG]at d;let#[k,rfl]:=zaM c;let b:R[k]?=some R[k]:=zac ();erw[uV b,gP,(a.good _<|zag b).two]
theorem sf(a:2<=r.c)(dt:∀j,j<r.c->Dt L (dj r j))(st:∀j,j<r.c->nx L (dj r j)=dj r (j+1)):Good L r:=by let e:∀j,dj r j=dj r (j%r.c):=λj=>bX (zbJ j _).symm;let b:∀j,j%r.c<r.c:=λj=>zaI _ ();refine#[a,λj=>by erw[e,dt _<|b j],λj=>?_];erw[e j,st _<|b j,bX<|by rw[zdD]]
theorem oN(h:0<r.c)(j:Nat):dj r j∈sh 0 r:=(bN h).mpr #[j,rfl]
theorem Jh(h:r.Nodup):(sh 0 r).Nodup:=by
 let:((sh 0 r).map (·.1)).Nodup:=fY>>h
 exact(zcg.mp this).imp λh z=>h (by rw[z])
theorem gK.rF(b:gK L R)(h:∀q∈R,q.Nodup):oW L:=λd e=>by let#[q,a,c]:=zaG.mp<|b.all d e;exact#[sh 0 q,c,(b.good q a).jM,fY>>h q a]
theorem oW.rings(s:oW L)(b:gK L R):∀q∈R,q.Nodup:=λq a=>s.ring (b.good q a)<|tm b a
theorem AW{a:Type}{R:List a}{k:Nat}{r:a}(b:R[k]?=some r):R=R.take k++r::R.drop (k+1):=by let#[h,e]:=zab.mp b;rw[<-e,<-zcc h,zcA]
theorem gK.off(a:gK L R)(f:R[k]?=some r)(g:q∈R.take k++R.drop (k+1))(i j:Nat):dj q i≠dj r j:=λz=>by
 let e:=AW f;let l:q∈R:=by rw[e];ext(h|h:zal.mp g);exact zaT _ h;exact zaP _<|zae _ h
 let c:=a.nd;rw[e,zcj,zcs]at c;let b:dj q i∈sh 0 q:=oN (by let:=(a.good q l).two;lia) i;let d:dj r j∈sh 0 r:=oN (by let:=(a.good r<|zag f).two;lia) j;rw[z]at b;ext(h|h:zal.mp g);exact(zbf.mp c).2.2 _ (zaG.mpr #[q,h,b]) _ (zaT _ d) rfl;exact(zbf.mp (zbf.mp c).2.1).2.2 _ d _ (zaG.mpr #[q,h,b]) rfl
theorem gK.split(A:gK L R)(O:R[k]?=some r)(f:∀q∈R.take k++R.drop (k+1),Good M q)(v:∀b∈B,Good M b)(Y:∀b∈B,(sh 0 b).Nodup)(S:B.Pairwise λb c=>∀i j,dj b i≠dj c j)(H:∀b∈B,∃j,¬Dt L (dj b j))(all:∀d,Dt M d->Dt L d\/d∈B.flatMap (sh 0))(E:∀j,dj r j∈B.flatMap (sh 0)):gK M<|R.take k++B++R.drop (k+1):=by
 let e:=AW O;let sub:∀q,q∈R.take k++R.drop (k+1)->q∈R:=λq a=>by rw[e];ext(h|h:zal.mp a);exact zaT _ h;exact zaP _<|zae _ h
 refine#[λq a=>?_,?_,λd K=>?_];ext(h|h:zal.mp a);ext(h|h:zal.mp h);exact f q<|zaT _ h;exact v q h;exact f q<|zaP _ h;let w:=A.nd;rw[e,zcj,zcs]at w;let u:∀d,d∈B.flatMap (sh 0)->∀q∈R.take k++R.drop (k+1),d∉sh 0 q:=λd K q a o=>by let#[b,g,Ek]:=zaG.mp K;let F:=v b g;let P:=f q a;let#[i,D]:=(bN (by let:=F.two;lia)).mp Ek;let#[j,G]:=(bN (by let:=P.two;lia)).mp o;let#[t,s]:=H b g;let N:=F.along P (D.symm.trans G)<|t+i*(b.c-1);let md:dj b (i+(t+i*(b.c-1)))=dj b t:=bX (by let W:=F.two;rw[show i+(t+i*(b.c-1))=t+b.c*i by obtain⟨n,X⟩:∃n,b.c=n+1:=#[b.c-1,()];rw[X,zcB,zet,zeU,zdb n i];lia,zdh]);rw[md]at N;rw[N]at s;exact s<|(A.good q<|sub q a).dt _
 let Z:(B.flatMap<|sh 0).Nodup:=by show((B.map<|sh 0).flatten).Nodup;refine zch.mpr #[λl Q=>?_,zcg.mpr<|S.imp_of_mem λ{b c} g U h x p y m z=>?_];let#[b,g,rfl]:=zaq.mp Q;exact Y b g;let#[i,D]:=(bN (by let:=(v b g).two;lia)).mp p;let#[j,G]:=(bN (by let:=(v c U).two;lia)).mp m;exact h i j<|D.symm.trans<|z.trans G
 rw[zcj,zcj];refine zbf.mpr #[zbf.mpr #[(zbf.mp w).1,Z,λx p y m z=>?_],(zbf.mp (zbf.mp w).2.1).2.1,λx p y m z=>?_];let#[q,a,C]:=zaG.mp p;exact u y m q (zaT _ a)<|z▸C;let#[q,a,I]:=zaG.mp m;ext(h|h:zal.mp p);exact(zbf.mp w).2.2 x h y (zaP _ m) z;exact u x h q (zaP _ a)<|z▸I;rw[zcj,zcj];ext(h|h:all d K);let#[q,a,o]:=zaG.mp<|A.all d h;rw[e]at a;ext(h|h:zal.mp a);exact zaT _<|zaT _<|zaG.mpr #[q,h,o];ext(rfl|h:zaw.mp h);let#[j,rfl]:=(bN (by let:=(A.good q<|zag O).two;lia)).mp o;exact zaT _<|zaP _<|E j;exact zaP _<|zaG.mpr #[q,h,o];exact zaT _<|zaP _ h
noncomputable def cQ(r:dm)(s m:Nat):dm:=(List.range m).map λt=>cy r<|s+t
theorem bA(r:dm)(s m:Nat):(cQ r s m).c=m:=by unfold cQ;simp
theorem o4(h:t<m):(cQ r s m)[t]?=some (cy r<|s+t):=by unfold cQ;simp[h]
theorem xT(h:q[j]?=some x):cy q j=x:=by let#[b,a]:=zab.mp h;erw[fB b,a]
theorem RU:cy q q.c=cy q 0:=bT (by rw[zdz,zfn])
theorem mR(h:t<m):cy (cQ r s m) t=cy r (s+t):=xT<|o4 h
theorem fO(h:t+1<m):dj (cQ r s m) t=dj r (s+t):=by unfold dj;rw[mR (),mR h];rfl
theorem Gx(h:0<m):dj (cQ r s m) (m-1)=(cy r<|s+(m-1),cy r s):=by unfold dj;rw[mR (),show m-1+1=(cQ r s m).c by rw[bA];lia,RU,mR h];rfl
theorem Gw(h:1<m):dj (cQ r s m) m=dj r s:=by let e:dj (cQ r s m) m=dj (cQ r s m) 0:=bX (by rw[bA,zdz,zfn]);rw[e,fO ()];rfl
theorem oZ(n:r.Nodup)(s:Nat)(h:m<=r.c):(cQ r s m).Nodup:=P1 n s h
theorem RQ(n:(sh 0 r).Nodup)(a:0<r.c)(e:dj r i=dj r j):i%r.c=j%r.c:=by let c:=zaI i a;let b:=zaI j a;rw[bX (zbJ i _).symm,bX (zbJ j _).symm]at e;ext(z|z|z:zcL (i%r.c)<|j%r.c);exact absurd e<|mr n z ();exact z;exact absurd e.symm<|mr n z ()
theorem eA.Sk(t:eA L)(a:gK L R)(K:R[k]?=some r)(m2:2<=m)(m1:m+2<=r.c)(A:cy r (i+m)∉ez L (cy r i)) :
  ∃M,eA M/\M.c=L.c/\gK M (R.take k++[cQ r i<|m+1,cQ r (i+m)<|r.c-m+1]++R.drop (k+1)):=by
 let O:=t.map;let Q:=zag K;let g:=a.good r Q;let ns:=tm a Q;let S:=t.rF.rings a r Q;let#[H,a0,a1,C]:=eK g O (c:=i);let#[I,b0,b1,E]:=eK g O (c:=i+m);let ne:cy r i≠cy r (i+m):=dH S () ();let F:cF L (cy r i) (cy r<|i+m) (put (ez L<|cy r i) ((ez L<|cy r i).idxOf<|cy r<|i+(r.c-1))<|cy r<|i+m)<|put (ez L<|cy r<|i+m) ((ez L<|cy r<|i+m).idxOf<|cy r<|i+m+(r.c-1))<|cy r i:=by exact#[O,a0,a1,b0,b1,ne,A,jT _ _ _,jT _ _ _,iC A,iC λz=>A (Dt.back (d:=(cy r<|i+m,cy r i)) #[b0,b1,z] O).2.2.2]
 let Sm:=F.cT t.cT H I (hW H A) (hW I F.Sv) (λPd Y hs=>by rw[<-C]at Y;erw[<-E,g.on hs Y _]);let#[n1,n2,n3,G,w]:=F.Mb H I (hW H A)<|hW I F.Sv;let hd:=λd (h:Dt _ d)=>F.dR (d:=d) h;let sub:=F.sub;let P:=F.dt;let o:=(F.dt.back F.iV);let n:(both L (cy r i) (cy r<|i+m) (put (ez L<|cy r i) ((ez L<|cy r i).idxOf<|cy r<|i+(r.c-1))<|cy r<|i+m)<|put (ez L<|cy r<|i+m) ((ez L<|cy r<|i+m).idxOf<|cy r<|i+m+(r.c-1))<|cy r i).c=L.c:=eY;rw[<-C]at n1 G w;rw[<-E]at n2 n3 w;rw[g.st]at n3 G;generalize both L (cy r i) (cy r<|i+m) (put (ez L<|cy r i) ((ez L<|cy r i).idxOf<|cy r<|i+(r.c-1))<|cy r<|i+m) (put (ez L<|cy r<|i+m) ((ez L<|cy r<|i+m).idxOf<|cy r<|i+m+(r.c-1))<|cy r i)=M at *;let q1:dj r (i+m+(r.c-1))=dj r (i+(m-1)):=bX (by rw[show i+m+(r.c-1)=i+(m-1)+r.c by lia,zax]);let q3:dj r (i+m+(r.c-1)+1)=dj r (i+m):=bX (by rw[show i+m+(r.c-1)+1=i+m+r.c by lia,zax]);let q4:dj r (i+(r.c-1)+1)=dj r i:=bX (by rw[show i+(r.c-1)+1=i+r.c by lia,zax]);rw[q1]at n2 w;rw[q3]at n3;rw[q4]at G;let W7:¬Dt L (cy r i,cy r<|i+m):=λz=>A z.mem;let D:¬Dt L (cy r<|i+m,cy r i):=λz=>F.Sv z.mem;let rn:cy r (i+m+(r.c-m))=cy r i:=bT (by rw[show i+m+(r.c-m)=i+r.c by lia,zax]);let p:dj (cQ r i<|m+1) m=(cy r<|i+m,cy r i):=by let:=Gx (r:=r) (s:=i) (m:=m+1) ();rwa [zcB]at this
 let x:dj (cQ r (i+m)<|r.c-m+1) (r.c-m)=(cy r i,cy r<|i+m):=by let:=Gx (r:=r) (s:=i+m) (m:=r.c-m+1) ();rw[zcB,rn]at this;exact this
 let G1:Good M<|cQ r i<|m+1:=by refine sf (by rw[bA];lia) (λj l=>?_)<|λj l=>?_;rw[bA]at l;ext(z:j<m);rw[fO ()];exact sub _<|g.dt _;rw[show j=m by lia,p];exact#[o.1,o.2.1,o.2.2.2];rw[bA]at l;ext(z:j+1<m);rw[fO (),fO (),w _ (g.dt _) (mr ns () ())<|mr ns () (),g.st];rfl;ext(y:j+1=m);rw[fO (),y,p,show i+j=i+(m-1)by lia,n2];rw[show j=m by lia,p,G,Gw ()]
 let G2:Good M<|cQ r (i+m)<|r.c-m+1:=by refine sf (by rw[bA];lia) (λj l=>?_)<|λj l=>?_;rw[bA]at l;ext(z:j<r.c-m);rw[fO ()];exact sub _<|g.dt _;rw[show j=r.c-m by lia,x];exact P;rw[bA]at l;ext(z:j+1<r.c-m);rw[fO (),fO (),w _ (g.dt _) (mr ns () ())<|zbl<|mr ns () (),g.st];rfl;ext(y:j+1=r.c-m);rw[fO (),y,x,show i+m+j=i+(r.c-1)by lia,n1];rw[show j=r.c-m by lia,x,n3,Gw ()]
 let W:∀j,Dt L (dj (cQ r (i+m)<|r.c-m+1) j)\/dj (cQ r (i+m)<|r.c-m+1) j=(cy r i,cy r<|i+m):=λj=>by let e:dj (cQ r (i+m)<|r.c-m+1) j=dj (cQ r (i+m)<|r.c-m+1) (j%(r.c-m+1)):=bX (by rw[bA,zbJ]);let lt:=zaI j (show 0<r.c-m+1 by lia);rw[e];ext(z:j%(r.c-m+1)<r.c-m);left;rw[fO ()];exact g.dt _;right;rw[show j%(r.c-m+1)=r.c-m by lia,x]
 let X:∀q∈R.take k++R.drop (k+1),Good M q:=λq B=>by
  let qm:q∈R:=by ext(h|h:zal.mp B);exact zcO h;exact zef h
  let N:=a.good q qm;refine#[N.two,λj=>sub _<|N.dt j,λj=>?_];rw[w _ (N.dt j) (a.off K B j _)<|a.off K B j _,N.st]
 let Dd:=oZ S i (m:=m+1) ();let Z:=oZ S (i+m) (m:=r.c-m+1) ();let RG:gK M<|R.take k++[cQ r i<|m+1,cQ r (i+m)<|r.c-m+1]++R.drop (k+1):=by
  refine a.split K X (λb f=>?_) (λb f=>?_) ?_ (λb f=>?_) (λd ZC=>?_)<|λj=>?_;simp only[zbp,zaV,zbs]at f;ext(rfl|rfl:f);exact G1;exact G2;simp only[zbp,zaV,zbs]at f;ext(rfl|rfl:f);exact Jh Dd;exact Jh Z;refine List.pairwise_pair.mpr λu v z=>?_;let U:=G1.along G2 z<|m+u*m;let md:dj (cQ r i<|m+1) (u+(m+u*m))=dj (cQ r i<|m+1) m:=bX (by rw[bA,show u+(m+u*m)=m+(m+1)*u by rw[zet,zeU,zdb m u];lia,zdh]);rw[md,p]at U;ext(h|h:W<|v+(m+u*m));rw[<-U]at h;exact D h;rw[<-U]at h;exact ne<|zaC Prod.snd h;simp only[zbp,zaV,zbs]at f;ext(rfl|rfl:f);exact#[m,p>>D];exact#[r.c-m,x>>W7];ext(h|h|h:hd d ZC);exact .inl h;right;refine zaG.mpr #[cQ r (i+m)<|r.c-m+1,by simp,?_];rw[h,<-x];exact oN (by rw[bA];lia) _;right;refine zaG.mpr #[cQ r i<|m+1,by simp,?_];rw[h,<-p];exact oN (by rw[bA];lia) _;let#[u,hu,e]:=seg_at (r:=r) (s:=i) (t:=j) ();rw[e];ext(z:u<m);refine zaG.mpr #[cQ r i<|m+1,by simp,?_];rw[<-fO (r:=r) (s:=i) (m:=m+1) ()];exact oN (by rw[bA];lia) _;refine zaG.mpr #[cQ r (i+m)<|r.c-m+1,by simp,?_];let:dj r (i+u)=dj (cQ r (i+m)<|r.c-m+1) (u-m):=by rw[fO (),show i+m+(u-m)=i+u by lia]
  erw[this,oN (by rw[bA];lia) _]
 let sm:oW M:=RG.rF λq B=>by ext(h|h:zal.mp B);ext(h|h:zal.mp h);exact t.rF.rings a q<|zcO h;simp only[zbp,zaV,zbs]at h;ext(rfl|rfl:h);exact Dd;exact Z;exact t.rF.rings a q<|zef h
 exact#[M,#[Sm,sm,t.IQ.up n sub,n>>t.four],n,RG]
theorem BC(c:l.Nodup)(b:z∈l)(a:n∉l):pre (put l (l.idxOf z) n) n=pre l z:=by let mn:n∈put l (l.idxOf z) n:=kH.mpr<|.inl rfl;let h:=mH (xB a c) (kH.mpr<|.inr b) mn<|λe=>a<|e▸b;rw[iC a,zam<|hW b a]at h;exact h.symm
theorem ck.put2(s:ck L)(g:Good L r)(q:(sh 0 r).Nodup)(t:cs≠[])(f:cs.Pairwise (·<·))(o:∀c∈cs,c<r.c)(un:(cs.map<|cy r).Nodup) :
  ∃M,XD L r cs M/\∀c∈cs,ez M (cy r c)=Gm.put (ez L<|cy r c) ((ez L<|cy r c).idxOf<|cy r<|c+(r.c-1)) L.c:=by
 let#[M,w,v,a,_,rows]:=s.place g q f o un cs.c (zce.mpr t)<|zaf _;rw[zbg]at a rows;refine#[M,#[a.sh,a.len,a.new,a.sub,a.keep,λd u p=>?_],rows];let#[i,b1,b2,l]:=u.back s.map;unfold nx;ext(h:∃c∈cs,cy r c=d.2);let#[c,b,e]:=h;let#[k,m,n,ed]:=eK g s.map;rw[e]at k m n ed;let j:=rows c b;rw[e]at j;rw[j,tJ (s.map.nd _ _<|aK i b1) k (nP s.map i b1) l λz=>p c b ?_];rw[ed,<-z];rw[a.keep d.2 i b1 λc b e=>h #[c,b,e]]
noncomputable def mV(cs:List Nat)(k:Nat):Nat:=cs.getD ((k+(cs.c-1))%cs.c) 0
noncomputable def mU(r:dm)(cs:List Nat)(k:Nat):Nat:=if cs.getD k 0<mV cs k then cs.getD k 0+r.c else cs.getD k 0
noncomputable def gS(r:dm)(cs:List Nat)(N:Nat)(k:Nat):dm:=cQ r (mV cs k) (mU r cs k-mV cs k+1)++[(N:Int)]
noncomputable def MG(r:dm)(cs:List Nat)(N:Nat):dy:=(List.range cs.c).map<|gS r cs N
structure Arc(r:dm)(cs:List Nat)(k h T:Nat):Prop where
 hm:∃j,j<cs.c/\cs[j]?=some h/\j=(k+(cs.c-1))%cs.c
 km:∃c,cs[k]?=some c/\(T=c\/T=c+r.c)
 lt:h<T
 le:T<h+r.c
 top:h<r.c
 no:∀u,h<u->u<T->∀c∈cs,c≠u/\c+r.c≠u
theorem LN(p:cs.Pairwise (·<·))(n:∀c∈cs,c<r.c)(B:2<=cs.c)(f:k<cs.c):Arc r cs k (mV cs k)<|mU r cs k:=by
 let mono:∀{i j:Nat} (l:i<cs.c) (b:j<cs.c),i<j->cs[i]<cs[j]:=λl b h=>zbr.mp p _ _ l b h;let o:∀{i j:Nat} (l:i<cs.c) (b:j<cs.c),cs[i]<cs[j]->i<j:=λ{i j} l b h=>by ext(z|z|z:zcL i j);exact z;subst z;lia;let:=mono b l z;lia
 let w:cs.getD k 0=cs[k]:=by rw[zah,zac f];rfl
 let A:=n cs[k]<|zbo _;ext(x:k=0);subst x;let e:(0+(cs.c-1))%cs.c=cs.c-1:=zcl>>zaz ()
 let a:cs.c-1<cs.c:=();let g:mV cs 0=cs[cs.c-1]:=by unfold mV;rw[e,zah,zac a];rfl
 let y:=n cs[cs.c-1]<|zbo _;let v:=mono f a ();let q:mU r cs 0=cs[0]+r.c:=by unfold mU;rw[w,g,zam v]
 rw[q];refine#[#[_,a,g>>zac a,e.symm],#[_,zac f,.inr rfl],(),(),(),λu d s c m=>?_];let#[j,b,t]:=zaH.mp m;rw[g]at d;let cl:=n c m;refine#[λz=>?_,λz=>?_];rw[<-z,<-t]at d;let:=o a b d;lia;let:cs[j]<cs[0]:=();let:=o b f this;lia;let e:(k+(cs.c-1))%cs.c=k-1:=by erw[show k+(cs.c-1)=k-1+cs.c by lia,zax,zaz ()]
 let a:k-1<cs.c:=();let g:mV cs k=cs[k-1]:=by unfold mV;rw[e,zah,zac a];rfl
 let y:=n cs[k-1]<|zbo _;let v:=mono a f ();let q:mU r cs k=cs[k]:=by unfold mU;rw[w,g,zaj ()]
 rw[q];refine#[#[_,a,g>>zac a,e.symm],#[_,zac f,.inl rfl],(),(),(),λu d s c m=>?_];let#[j,b,t]:=zaH.mp m;rw[g]at d;let cl:=n c m;refine#[λz=>?_,λz=>()];rw[<-z,<-t]at d s;let:=o a b d;let:=o b f s;lia
section
variable {s e N t:Nat}
theorem kS:(cQ r s (e+1)++[(N:Int)]).c=e+2:=by rw[zav,bA];rfl
theorem Af(h:t<=e):cy (cQ r s (e+1)++[(N:Int)]) t=cy r (s+t):=xT (by rw[zaU (by rw[bA];lia),o4 ()])
theorem GD:cy (cQ r s (e+1)++[(N:Int)]) (e+1)=(N:Int):=xT (by rw[zaO (by rw[bA];lia),bA,zcD];rfl)
theorem qo(h:t<e):dj (cQ r s (e+1)++[(N:Int)]) t=dj r (s+t):=by unfold dj;rw[Af (),Af ()];rfl
theorem N8:dj (cQ r s (e+1)++[(N:Int)]) e=(cy r<|s+e,(N:Int)):=by unfold dj;rw[Af<|zaf _,GD]
theorem Oa:dj (cQ r s (e+1)++[(N:Int)]) (e+1)=((N:Int),cy r s):=by unfold dj;rw[GD,show cy (cQ r s (e+1)++[(N:Int)]) (e+1+1)=cy (cQ r s (e+1)++[(N:Int)]) 0 from bT (by rw[kS,zdz,zfn]),Af<|zaR _];rfl
theorem N9(h:0<e):dj (cQ r s (e+1)++[(N:Int)]) (e+2)=dj r s:=by let q:dj (cQ r s (e+1)++[(N:Int)]) (e+2)=dj (cQ r s (e+1)++[(N:Int)]) 0:=bX (by rw[kS,zdz,zfn]);rw[q,qo h];rfl
end
theorem eA.stack(t:eA L)(I:gK L R)(hr:R[k]?=some r)(D:cs.Pairwise (·<·))(S:∀c∈cs,c<r.c)(c3:3<=cs.c) :
  ∃M,eA M/\M.c=L.c+1/\gK M (R.take k++MG r cs L.c++R.drop (k+1)):=by
 let U:=t.map;let rm:=zag hr;let g:=I.good r rm;let ns:=tm I rm;let nr:=t.rF.rings I r rm;let ap:=g.two;let r0:0<r.c:=();let c0:cs≠[]:=λz=>by rw[z]at c3;simp at c3
 let un:=zbZ _ (R:=λa b=>a<b/\b<r.c) (λa b h=>dH nr h.1 ())<|zbX (λ{a b} _ o h=>#[h,S b o]) D;let#[M,P,rows]:=t.cT.put2 g ns c0 D S un;let E:=P.len;let F:=P.new;let mM:=P.cT.map;let dt:∀d,Dt M d->Dt L d\/(∃c∈cs,d=(cy r c,(L.c:Int)))\/∃c∈cs,d=((L.c:Int),cy r c):=λd G=>by
  let h1:=G.hi;rw[E]at h1;ext(z:d.1=(L.c:Int));let K:=G.mem;rw[z,F]at K;let#[c,f,e]:=zaq.mp K;exact .inr<|.inr #[c,f,zbP z e.symm];let H:d.1<L.c:=();ext(y:∃c∈cs,cy r c=d.1);let#[c,f,e]:=y;let K:=G.mem;rw[<-e,rows c f]at K;ext(w|w:kH.mp K);exact .inr<|.inl #[c,f,zbP e.symm w];rw[e]at w;exact .inl #[G.lo,H,w];let K:=G.mem;rw[P.keep _ G.lo H λc f e=>y #[c,f,e]]at K;exact .inl #[G.lo,H,K]
 let dN:∀{c:Nat},c∈cs->Dt M ((L.c:Int),cy r c):=λ{c} f=>#[(),by rw[E];lia,F>>zaq.mpr #[c,f,rfl]];let dT:∀{c:Nat},c∈cs->Dt M (cy r c,(L.c:Int)):=λf=>let h:=(dN f).back mM;#[h.1,h.2.1,h.2.2.2]
 let nN:∀{x:Int},¬Dt L (x,(L.c:Int)):=λ{x} z=>by let:=(z.back U).2.1;lia
 let YD:∀{c:Nat},c∈cs->nx M (dj r<|c+(r.c-1))=(cy r c,(L.c:Int)):=λ{c} f=>by let#[zm,x0,H,ed]:=eK g U (c:=c);rw[ed];unfold nx;dsimp only;rw[rows c f,hW zm<|nP U x0 H]
 let ag:∀{c:Nat},c∈cs->nx M ((L.c:Int),cy r c)=dj r c:=λ{c} f=>by let#[zm,x0,H,ed]:=eK g U (c:=c);let st:=g.st<|c+(r.c-1);let e:dj r (c+(r.c-1)+1)=dj r c:=bX (by rw[show c+(r.c-1)+1=c+r.c by lia,zax]);rw[ed,e]at st;rw[<-st];unfold nx;dsimp only;rw[rows c f,BC (U.nd _ _<|aK x0 H) zm<|nP U x0 H]
 let Y:∀{k h:Nat} {c:Nat},cs[k]?=some c->(∃j,j<cs.c/\cs[j]?=some h/\j=(k+(cs.c-1))%cs.c)->nx M (cy r c,(L.c:Int))=((L.c:Int),cy r h):=λ{k h c} s ⟨j,Z,hh,ej⟩=>by
  let X:=(zab.mp s).1;show((L.c:Int),pre (ez M (L.c:Int))<|cy r c)=_;rw[F];let l0:0<(cs.map<|cy r).c:=by rw[zaa];lia
  let e1:cy (cs.map<|cy r) (k+(cs.c-1)+1)=cy r c:=by erw[bT (show(k+(cs.c-1)+1)%(cs.map<|cy r).c=k%(cs.map<|cy r).c by rw[zaa,show k+(cs.c-1)+1=k+cs.c by lia,zax]),xT<|by rw[zao,s];rfl]
  let e2:cy (cs.map<|cy r) (k+(cs.c-1))=cy r h:=by erw[bT (show(k+(cs.c-1))%(cs.map<|cy r).c=j%(cs.map<|cy r).c by rw[zaa,ej,zbJ]),xT<|by rw[zao,hh];rfl]
  rw[<-e1,gY un l0,e2]
 let m:∀k,k<cs.c->Good M (gS r cs L.c k)/\(gS r cs L.c k).Nodup/\(∃c,cs[k]?=some c/\dj (gS r cs L.c k) (mU r cs k-mV cs k)=(cy r c,(L.c:Int)))/\
   (∀j,Dt L (dj (gS r cs L.c k) j)\/(∃c,cs[k]?=some c/\dj (gS r cs L.c k) j=(cy r c,(L.c:Int)))\/∃x,dj (gS r cs L.c k) j=((L.c:Int),x))/\(gS r cs L.c k).c=mU r cs k-mV cs k+2:=λk s=>by
  let A:=(λ{k:Nat} (s:k<cs.c)=>LN D S (r:=r) () s) s;unfold gS;generalize mV cs k=h at A ⊢;generalize mU r cs k=T at A ⊢;let#[c,f,hT]:=A.km;let cm:=zag f;let#[jh,am,hh,_]:=A.hm;let hm:=zag hh;let an:=A.lt;let le:=A.le;let eT:cy r (h+(T-h))=cy r c:=by rw[show h+(T-h)=T by lia];ext(z|z:hT);rw[z];erw[z,bT<|zax _ _]
  let W:dj (cQ r h (T-h+1)++[(L.c:Int)]) (T-h)=(cy r c,(L.c:Int)):=by rw[N8,eT]
  let E2:dj (cQ r h (T-h+1)++[(L.c:Int)]) (T-h+1)=((L.c:Int),cy r h):=Oa;refine#[sf (by rw[kS];lia) (λj Z=>?_)<|λj Z=>?_,?_,#[c,f,W],λj=>?_,kS];rw[kS]at Z;ext(z:j<T-h);rw[qo z];exact P.sub _<|g.dt _;ext(y:j=T-h);rw[y,W];exact dT cm;rw[show j=T-h+1 by lia,E2];exact dN hm;rw[kS]at Z;ext(z:j+1<T-h);rw[qo (),qo z,P.Mb _ (g.dt _)<|λB p w=>?_,g.st];rfl;let q:=RQ ns r0 w;let n1:=A.no (h+j+1) () () B p;let N:=A.top;let Q:(h+j+1)%r.c=B%r.c:=by rw[zbU,q,<-zbU,show B+(r.c-1)+1=B+r.c by lia,zax]
  rw[zaz<|S B p]at Q;ext(w2:h+j+1<r.c);rw[zaz w2]at Q;exact n1.1 Q.symm;rw[show h+j+1=h+j+1-r.c+r.c by lia,zax,zaz ()]at Q;exact n1.2 ();ext(y:j+1=T-h);rw[qo (),y,W,<-YD cm];congr 1;refine bX ?_;ext(w|w:hT);rw[show c+(r.c-1)=h+j+r.c by lia,zax];rw[show h+j=c+(r.c-1)by lia];ext(x:j=T-h);rw[x,W,E2,Y f A.hm];rw[show j=T-h+1 by lia,E2,ag hm,show T-h+1+1=T-h+2 by lia,N9 ()];refine zbf.mpr #[oZ nr h (),by simp,λx hx y hy z=>?_];rw[zai.mp hy]at z;let#[u,hu,e]:=zaq.mp hx;let:=(g.dt<|h+u).hi;rw[show(dj r<|h+u).1=cy r (h+u)from rfl]at this;lia;let e:dj (cQ r h (T-h+1)++[(L.c:Int)]) j=dj (cQ r h (T-h+1)++[(L.c:Int)]) (j%(T-h+2)):=bX (by rw[kS,zbJ]);let jl:=zaI j (show 0<T-h+2 by lia);rw[e];ext(z:j%(T-h+2)<T-h);left;rw[qo z];exact g.dt _;ext(y:j%(T-h+2)=T-h);exact .inr<|.inl #[c,f,by rw[y,W]];exact .inr<|.inr #[_,by rw[show j%(T-h+2)=T-h+1 by lia,E2]]
 let rY:∀{b:dm},b∈MG r cs L.c->∃k,k<cs.c/\b=gS r cs L.c k:=λo=>by let#[k,s,e]:=zaq.mp o;exact#[k,zaD.mp s,e.symm]
 let yq:∀{k:Nat},k<cs.c->gS r cs L.c k∈MG r cs L.c:=λs=>zaq.mpr #[_,zaD.mpr s,rfl];let Q9:∀{k c:Nat},cs[k]?=some c->(cy r c,(L.c:Int))∈sh 0 (gS r cs L.c k):=λ{k c} f=>by let X:=(zab.mp f).1;let#[_,_,#[B,p,e],_,N]:=m k X;rw[f]at p;cases p;erw[<-e,oN (by rw[N];lia) _]
 let pred:∀{k:Nat} {d:aA},k<cs.c->Dt M d->nx M d∈sh 0 (gS r cs L.c k)->d∈sh 0 (gS r cs L.c k):=λ{k d} s G h=>by let#[gq,_,_,_,N]:=m k s;let#[j,ej]:=(bN<|by rw[N];lia).mp h;let e:dj (gS r cs L.c k) (j+((gS r cs L.c k).c-1)+1)=dj (gS r cs L.c k) j:=bX (by rw[show j+((gS r cs L.c k).c-1)+1=j+(gS r cs L.c k).c by lia,zax]);let:=gq.st<|j+((gS r cs L.c k).c-1);rw[e,<-ej]at this;erw[<-fQ mM (gq.dt _) G this,oN (by rw[N];lia) _]
 let ac:∀q∈R.take k++R.drop (k+1),Good M q:=λq hq=>by
  let qm:q∈R:=by ext(h|h:zal.mp hq);exact zcO h;exact zef h
  exact P.good (I.good q qm) λj c=>I.off hr hq j c
 let ad:∀n j,(∃c∈cs,(j+n)%r.c=(c+(r.c-1))%r.c)->∃k,k<cs.c/\dj r j∈sh 0 (gS r cs L.c k):=by
  ext n;induction n with
  | zero=>
   ext j ⟨c,f,e⟩;let#[i,l]:=zaS.mp f;let C:=(zab.mp l).1;refine#[i,C,pred C (P.sub _<|g.dt _) ?_];erw[show dj r j=dj r (c+(r.c-1))from bX e,YD f,Q9 l]
  | succ n ih=>
   ext j ⟨c,f,e⟩;ext(z:∃B∈cs,dj r j=dj r (B+(r.c-1)));let#[B,p,e']:=z;let#[i,l]:=zaS.mp p;let C:=(zab.mp l).1;refine#[i,C,pred C (P.sub _<|g.dt _) ?_];rw[e',YD p];exact Q9 l;let#[i,C,h]:=ih (j+1) #[c,f,by erw[show j+1+n=j+(n+1)by lia,e]];refine#[i,C,pred C (P.sub _<|g.dt _) ?_];erw[P.Mb _ (g.dt _) λB p w=>z #[B,p,w],g.st,h]
 let RG:gK M<|R.take k++MG r cs L.c++R.drop (k+1):=by
  refine I.split hr ac (λb o=>?_) (λb o=>?_) ?_ (λb o=>?_) (λd ZC=>?_)<|λj=>?_;let#[i,l,rfl]:=rY o;exact(m i l).1;let#[i,l,rfl]:=rY o;exact Jh (m i l).2.1;refine zcg.mpr<|zbX (λ{a b} ha o (Cq:a≠b) u v z=>?_) zeS;let o:=zaD.mp o;let#[ga,_,#[O,NR,ea],_,la]:=m a<|zaD.mp ha;let#[gb,_,_,ob,_]:=m b o;generalize hw:mU r cs a-mV cs a=w at ea la;let al:=ga.along gb z<|w+u*(w+1);let md:dj (gS r cs L.c a) (u+(w+u*(w+1)))=dj (gS r cs L.c a) w:=bX (by rw[la,show u+(w+u*(w+1))=w+(w+2)*u by rw[zet,Nat.mul_add,zdb w u];lia,zdh]);rw[md,ea]at al;ext(h|⟨cb,Rw,h⟩|⟨x,h⟩:ob<|v+(w+u*(w+1)));rw[<-al]at h;exact nN h;rw[<-al]at h;let e:cy r O=cy r cb:=zaC Prod.fst h;let l1:=S O<|zag NR;let l2:=S cb<|zag Rw;let ee:O=cb:=by ext(y|y|y:zcL O cb);exact absurd e<|dH nr y ();exact y;exact absurd e.symm<|dH nr y ()
  subst ee;let#[q1,w1]:=zab.mp NR;let#[Q,w2]:=zab.mp Rw;ext(y|y:Nat.lt_or_gt_of_ne Cq);let:=zbr.mp D _ _ q1 Q y;lia;let:=zbr.mp D _ _ Q q1 y;lia;rw[<-al]at h;let:=zaC Prod.fst h;let:=(g.dt O).hi;rw[show(dj r O).1=cy r O from rfl]at this;dsimp only at *;lia;let#[i,l,rfl]:=rY o;let#[_,_,#[c,_,e],_]:=m i l;exact#[_,e>>nN];ext(h|⟨c,f,e⟩|⟨c,f,e⟩:dt d ZC);exact .inl h;right;let#[i,l]:=zaS.mp f;exact zaG.mpr #[_,yq (zab.mp l).1,e>>Q9 l];right;let#[i,l]:=zaS.mp f;let C:=(zab.mp l).1;let X:(i+1)%cs.c<cs.c:=zaI _ ();refine zaG.mpr #[_,yq X,?_];let#[gq,_,#[B,p,e'],_,N]:=m _ X;let n3:=Y p (h:=c) #[i,C,l,by ext(z:i+1<cs.c);rw[zaz z,show i+1+(cs.c-1)=i+cs.c by lia,zax,zaz C];rw[show i+1=cs.c by lia,zdz,zcl,zaz ()];lia];rw[e,<-n3,<-e',gq.st];exact oN (by rw[N];lia) _;let#[c,f]:=zeV cs c0;let#[i,l,h]:=ad (c+(r.c-1)+j*(r.c-1)) j #[c,f,by rw[show j+(c+(r.c-1)+j*(r.c-1))=c+(r.c-1)+r.c*j by obtain⟨n,hn⟩:∃n,r.c=n+1:=#[r.c-1,()];rw[hn,zcB,zet,zeU,zdb n j];lia,zdh]];exact zaG.mpr #[_,yq l,h]
 let sm:oW M:=RG.rF λq hq=>by ext(h|h:zal.mp hq);ext(h|h:zal.mp h);exact t.rF.rings I q<|zcO h;let#[i,l,rfl]:=rY h;exact(m i l).2.1;exact t.rF.rings I q<|zef h
 exact#[M,#[P.cT,sm,t.IQ.more mM E P.sub (F>>zaa>>c3),by let:=t.four;lia],E,RG]
theorem gK.Yi(l:gK L R)(f:R'.c=R.c)(h:∀(i:Nat) (q r:dm),R'[i]?=some q->R[i]?=some r->eD q r):gK L R':=by
 let at':∀{i:Nat} {q:dm},R'[i]?=some q->∃r,R[i]?=some r/\eD q r:=λ{i q} j=>by let z:=(zab.mp j).1;let:=zac (show i<R.c by lia);exact#[_,this,h i q _ j this]
 let k:∀{q r:dm},eD q r->(sh 0 q).Perm (sh 0 r):=λ{q r} e=>by ext(rfl|⟨c,m,rfl⟩:e);exact .refl _;erw[DE m,gL _ _]
 let s:∀{q r:dm},eD q r->Good L r->Good L q:=λ{q r} e g=>by ext(rfl|⟨c,m,rfl⟩:e);exact g;exact g.du m
 let x:∀(A B:dy),A.c=B.c->(∀(i:Nat) (q r:dm),A[i]?=some q->B[i]?=some r->eD q r)->(A.flatMap<|sh 0).Perm (B.flatMap<|sh 0):=by
  ext A;induction A with
  | nil=>
   ext B f _;cases B with
   | nil=>exact .refl _
   | cons b B=>simp at f
  | cons a A w=>
   ext B f n;cases B with
   | nil=>simp at f
   | cons b B=>
    erw[zcs,zcs,(k<|n 0 a b rfl rfl).append<|w B (~~~f) λi q r t v=>n (i+1) q r (~~~t)<|~~~v]
 let p:=x R' R f h;refine#[λq j=>?_,p.nodup_iff.mpr l.nd,λd y=>p.mem_iff.mpr<|l.all d y];let#[i,o]:=zaS.mp j;let#[r,u,e]:=at' o;exact s e<|l.good r<|zag u
noncomputable def Bs1(L:dy):Prop:=∀i∈List.range L.c,(ez L (i:Int)).Nodup/\(∀y∈ez L (i:Int),0<=y/\y<(L.c:Int)/\y≠(i:Int)/\(i:Int)∈ez L y)/\2<=(ez L (i:Int)).c/\(i=0\/∃y∈ez L (i:Int),y<(i:Int))
noncomputable def Bs2(L R:dy):Prop:=∀r∈R,2<=r.c/\r.Nodup/\∀j∈List.range r.c,(0<=(dj r j).1/\(dj r j).1<(L.c:Int)/\(dj r j).2∈ez L (dj r j).1)/\nx L (dj r j)=dj r (j+1)
noncomputable def Bs3(L R:dy):Prop:=(R.flatMap<|sh 0).Nodup/\(∀d∈dR L L.c,d∈R.flatMap (sh 0))/\((L.c:Int)+R.c+iso L=(iq L L.c).c+2)/\4<=L.c
noncomputable def Bs4(R:dy):Prop:=∀c∈R,∀d∈R,c≠d->∀a∈c,∀b∈c,a≠b->a∈d->b∈d->(a,b)∈sh 0 c\/(b,a)∈sh 0 c
instance (L:dy):Decidable<|Bs1 L:=by unfold Bs1;infer_instance
instance (L R:dy):Decidable<|Bs2 L R:=by unfold Bs2;infer_instance
instance (L R:dy):Decidable<|Bs3 L R:=by unfold Bs3;infer_instance
instance (R:dy):Decidable<|Bs4 R:=by unfold Bs4;infer_instance
noncomputable def kU(L R:dy):Prop:=Bs1 L/\Bs2 L R/\Bs3 L R/\Bs4 R
instance (L R:dy):Decidable<|kU L R:=by unfold kU;infer_instance
theorem kU.AV(h:kU L R):eA L/\gK L R:=by
 let#[k,w,#[A,C,Q,v],H]:=h;let c:∀x:Int,0<=x->x<L.c->∃i:Nat,x=i/\i∈List.range L.c:=λx e f=>#[x.toNat,(),zaD.mpr ()];let Y:=me λx e f=>by let#[i,rfl,g]:=c x e f;exact#[(k i g).1,(k i g).2.1]
 let l:gK L R:=by refine#[λr N=>?_,A,λd hd=>C d hd.all];let#[I,_,s]:=w r N;refine sf I (λj o=>?_)<|λj o=>(s j<|zaD.mpr o).2;let:=(s j<|zaD.mpr o).1;exact#[this.1,this.2.1,this.2.2]
 let reach:∀n:Nat,n<L.c->Reach L 0 (n:Int):=by
  ext n;induction n using Nat.strongRecOn with
  | ind n O=>
   ext K;let#[_,D,_,E]:=k n<|zaD.mpr K;ext(rfl|⟨y,W,yl⟩:E);exact .here;let#[t,Z,_,X]:=D y W;let#[m,rfl]:=zaM t;exact Reach.one (d:=((m:Int),(n:Int))) (O m () ()) #[t,Z,X]
 let st:ck L:=#[Y,(),λx e f=>#[0,by simp,by let#[i,rfl,g]:=c x e f;exact reach i<|zaD.mp g],_,l.dec,zaa>>Q];let sm:=l.rF λq B=>(w q B).2.1;refine#[#[st,sm,BX st sm l.dec (λc1 U c2 M ne a b ab p b1 u b2=>?_) (λx e f=>?_) v,v],l];let#[P,S,rfl]:=zaq.mp U;let#[G,F,rfl]:=zaq.mp M;rw[fY]at p b1 u b2;exact H P S G F (λz=>ne<|by rw[z]) a p b b1 ab u b2;let#[i,rfl,g]:=c x e f;exact(k i g).2.2.1
theorem Ac(h:0<q.c)(j:Nat):dj (q.map<|gZ l) j=Ir l (dj q j):=by unfold dj Ir;rw[uZ _ h,uZ _ h]
theorem Qg(h:0<q.c):sh 0 (q.map<|gZ l)=(sh 0 q).map (Ir l):=by unfold sh;erw[zaa,zfl,zcr λj _=>Ac h _]
theorem gK.OU(f:gK A R)(h:EN A l B)(n:vd A.c l)(m:aH A):gK B<|R.map<|List.map<|gZ l:=by
 let fl:∀S:dy,(∀q∈S,0<q.c)->(S.map<|List.map<|gZ l).flatMap (sh 0)=(S.flatMap<|sh 0).map (Ir l):=by
  ext S;induction S with
  | nil=>intro _;rfl
  | cons q S C=>
   ext r;rw[zbx,zcs,zcs,zat,Qg<|r q zan,C λx u=>r x<|zae _ u]
 let c:∀q∈R,0<q.c:=λq e=>by let:=(f.good q e).two;lia
 let i:∀d∈R.flatMap (sh 0),Dt A d:=λd p=>by let#[q,e,w]:=zaG.mp p;let#[j,rfl]:=(bN<|c q e).mp w;exact(f.good q e).dt j
 refine#[λq e=>?_,?_,λd p=>?_];let#[k,o,rfl]:=zaq.mp e;let g:=f.good k o;refine#[zaa>>g.two,λj=>?_,λj=>?_];rw[Ac<|c k o];exact h.dt n m<|g.dt j;rw[Ac<|c k o,Ac<|c k o,h.nx n m<|g.dt j,g.st];rw[fl R c];exact zcg.mpr<|f.nd.imp_of_mem λ{a b} z t y q=>y<|FU n m (i a z) (i b t) q;rw[fl R c];let#[s,v,rfl]:=h.Gv n p;exact zaq.mpr #[s,f.all s v,rfl]
theorem eg.OU(h:EN A l B)(n:vd A.c l)(m:aH A)(c:∀z:Int,0<=z->z<A.c->z∉S->gZ l z∉S')(r:eg A S s x):eg B S' (gZ l s)<|gZ l x:=by
 induction r with
 | here=>exact .here
 | @step i f x r e a ns b=>
  let d:=Reach.rh e a;let bk:=d.back m;exact b.trans<|eg.one (h.dt n m d)<|c x bk.1 bk.2.1 ns
theorem eA.OU(t:eA A)(F:gK A R)(h:EN A l B)(n:vd A.c l):eA B:=by
 let m:=t.map;let U:=h.iV n m;let RB:=F.OU h n m;let r:∀x:Int,0<=x->x<B.c->∃j:Int,0<=j/\j<A.c/\gZ l j=x:=λx p f=>by rw[h.len]at f;exact n.vH p f
 let i8:=t.cT.i8;let four:=t.four;let Ad:∀x:Int,0<=x->x<B.c->3<=(ez B x).c:=λx p f=>by let#[j,H,G,rfl]:=r x p f;erw[h.ez H G n,zaa,t.Ad H G]
 let dl:(dR B B.c).c=(dR A A.c).c:=by
  let e:=len_eq (zcg.mpr<|(cv m<|zaf _).imp_of_mem λ{a b} k o P q=>P<|FU n m (Dt.of k) (Dt.of o) q) (cv U<|zaf _) λx=>by constructor;ext C;let#[d,Z,rfl]:=zaq.mp C;exact(h.dt n m<|Dt.of Z).all;ext C;let#[d,Z,rfl]:=h.Gv n<|Dt.of C;exact zaq.mpr #[d,Z.all,rfl]
  rw[zaa]at e;exact e.symm
 let iB:iso B=0:=by
  unfold iso;refine zfg.mpr λq I z=>?_;let#[i,X]:=zaS.mp I;let il:=(zab.mp X).1;let:=Ad (i:Int) () ();rw[iw X]at this;cases q with
  | nil=>simp at this
  | cons a q=>simp at z
 let st:ck B:=by refine#[U,by rw[h.len];lia,λx p f=>#[0,by simp,?_],_,RB.dec,?_];let#[j,H,G,rfl]:=r x p f;let#[u,u0,u1,eu]:=r 0 () (by rw[h.len];lia);let:=((i8 u u0 u1).sym m #[(),()]).trans<|i8 j H G;let:=this.OU h n m;rwa [eu]at this;let#[Q,DQ,ch]:=t.cT.Mm;let c:=DQ.count F.dec;rw[zaa]at c;let e1:=dP U;let e2:=dP m;let i0:=t.cT.NB;rw[zaa,zaa,iB];rw[h.len]at e1 dl ⊢;lia
 let sm:=RB.rF λq I=>by
  let#[M,Rj,rfl]:=zaq.mp I;let g:=F.good M Rj;let D:∀x∈M,0<=x/\x<A.c:=λx C=>by let#[i,X,e]:=df C;erw[<-e,#[(g.dt i).lo,(g.dt i).hi]]
  exact zcg.mpr<|(t.rF.rings F M Rj).imp_of_mem λ{a b} k o P q=>P<|n.inj (D a k).1 (D a k).2 (D b o).1 (D b o).2 q
 refine#[st,sm,λa b x y p f y0 y1 xa xb ya yb=>?_,h.len>>four];let#[W,L,O,rfl]:=r x p f;let#[K,Y,S,rfl]:=r y y0 y1;let pull:∀c:Int,∃N:Int,∀z:Int,0<=z->z<A.c->(z=N↔gZ l z=c):=λc=>by ext(E:0<=c/\c<B.c);let#[N,c0,c1,rfl]:=r c E.1 E.2;exact#[N,λz v s=>#[λe=>by rw[e],λe=>n.inj v s c0 c1 e]];refine#[-1,λz v s=>#[λe=>(),λe=>?_]];let:=n.T6 v s;rw[e]at this;rw[h.len]at E;exact absurd this E
 let#[a',k]:=pull a;let#[b',o]:=pull b;refine(t.IQ a' b' W K L O Y S (λe=>xa<|(k W L O).mp e) (λe=>xb<|(o W L O).mp e) (λe=>ya<|(k K Y S).mp e)<|λe=>yb<|(o K Y S).mp e).OU h n m λz v s hz w=>hz ?_;simp[zbp,zaV,zbs]at w ⊢;ext(w|w:w);exact .inl<|(k z v s).mpr w;exact .inr<|(o z v s).mpr w
theorem Qs(n:vd A.c l):∃B,EN A l B:=by
 refine#[(eQ A.c).map λi=>(ez A<|((eQ A.c).find? λj=>decide<|gZ l j=i).getD 0).map<|gZ l,by rw[zaa,eU],λj b a=>?_];let r:=n.T6 b a;let g:(gZ l j).toNat<A.c:=();rw[zao,EV g];let e:=zcf r.1;let f:(eQ A.c).find? (λi=>decide<|gZ l i=gZ l j)=some j:=by
  cases hf:(eQ A.c).find? (λi=>decide<|gZ l i=gZ l j)with
  | none=>
   let:=List.find?_eq_none.mp hf j<|eX.mpr #[b,a];simp at this
  | some u=>
   let c:=find?_some hf;let d:=eX.mp<|mem_of_find?_eq_some hf;simp[zdK]at c;rw[n.inj d.1 d.2 b a c]
 show some ((ez A<|((eQ A.c).find? λi=>decide<|gZ l i=((gZ l j).toNat:Int)).getD 0).map<|gZ l)=_;rw[e,f];rfl
theorem Yt:kU [[1,3,2],[0,2,3],[0,3,1],[0,1,2]] [[0,1,3],[1,2,3],[2,0,3],[2,1,0]]:=by decide +kernel
theorem Ys:kU [[1,4,3],[0,2,4],[1,3,4],[0,4,2],[0,1,2,3]] [[0,1,4],[1,2,4],[2,3,4],[3,0,4],[3,2,1,0]]:=by decide +kernel
theorem Yr:kU [[1,5,4],[0,2,5],[1,3,5],[2,4,5],[0,5,3],[0,1,2,3,4]] [[0,1,5],[1,2,5],[2,3,5],[3,4,5],[4,0,5],[4,3,2,1,0]]:=by decide +kernel
theorem Yw:kU [[1,3,2],[0,2,4],[0,5,1],[0,4,5],[1,5,3],[2,3,4]] [[0,1,4,3],[1,2,5,4],[2,0,3,5],[3,4,5],[2,1,0]]:=by decide +kernel
theorem Yv:kU [[1,4,3],[0,2,5],[1,3,6],[0,7,2],[0,5,7],[1,6,4],[2,7,5],[3,4,6]] [[0,1,5,4],[1,2,6,5],[2,3,7,6],[3,0,4,7],[4,5,6,7],[3,2,1,0]]:=by decide +kernel
noncomputable def TR(R:dy)(n:Nat):Prop:=∃L,eA L/\gK L R/\L.c=n
theorem Fs(a:gK L R)(b:r∈R):∀x∈r,0<=x/\x<L.c:=λx c=>by let#[i,d,e]:=df c;erw[<-e,#[((a.good r b).dt i).lo,((a.good r b).dt i).hi]]
theorem eA.three(t:eA L)(a:gK L R)(b:r∈R):3<=r.c:=by let:=t.cT.three (by let:=t.four;lia) a.dec<|zaq.mpr #[r,b,rfl];rwa [dE]at this
theorem eA.small(t:eA L)(a:gK L R)(b:r∈R):r.c<=L.c:=fb (t.rF.rings a r b)<|Fs a b
theorem eA.many(t:eA L)(a:gK L R):R.c+4<=2*L.c:=(t.cT.lands t.four a).1
theorem TR.four(h:TR R n):4<=n:=by let#[L,t,_,rfl]:=h;exact t.four
theorem TR.many(h:TR R n):4<=R.c/\R.c+4<=2*n:=by let#[L,t,a,rfl]:=h;exact#[t.KN a,t.many a]
theorem TR.ring(h:TR R n)(a:r∈R):3<=r.c/\r.c<=n/\r.Nodup/\∀x∈r,0<=x/\x<n:=by let#[L,t,b,rfl]:=h;exact#[t.three b a,t.small b a,t.rF.rings b r a,Fs b a]
theorem TR.on{n:Nat}(h:TR R n){x:Int}(a:0<=x)(b:x<n):∃r∈R,x∈r:=by let#[L,t,c,rfl]:=h;let d:=t.Ad a b;let#[y,g]:=exists_mem_of_length_pos (l:=ez L x) ();let#[r,e,f]:=zaG.mp<|c.all (x,y) #[a,b,g];refine#[r,e,?_];let:x∈(sh 0 r).map (·.1):=zaq.mpr #[(x,y),f,rfl];rwa [fY]at this
noncomputable def kC(a:List<|aA×Addr):List<|List Key×V:=a.map λp=>(jH p.1,V.ref p.2)
theorem uE(a:List<|aA×Addr):(kC a).c=a.c:=by unfold kC;simp
theorem F6:∀{a:List<|aA×Addr} {d:aA},d∉a.map (·.1)->eR (kC a) (jH d)=none
 | [],_,_=>rfl
 | p::a,d,h=>by unfold kC;erw[zbx,cA (λy=>h<|by erw[<-uC y,zan]),F6 λz=>h<|zae _ z]
theorem F5:∀{b:List<|aA×Addr} {d:aA} {a:Addr},(b.map (·.1)).Nodup->(d,a)∈b->eR (kC b) (jH d)=a.i
 | [],_,_,_,h=>by cases h
 | p::b,d,a,nd,h=>by unfold kC;rw[zbx];let#[n1,n2]:=zau.mp nd;ext(e:p.1=d);rw[cO<|zaC jH e];ext(z|z:zaw.mp h);rw[<-z];exact absurd (zaq.mpr #[(d,a),z,e.symm]) n1;rw[cA<|λy=>e<|uC y];ext(z|z:zaw.mp h);exact absurd (by rw[<-z]) e;exact F5 n2 z
theorem Uj(h:d∉ks.map (·.1)):ff (kC ks) (jH d) (.ref a)=kC (ks++[(d,a)]):=by rw[tF _<|F6 h];unfold kC;rw[zat];rfl
structure CD(H:Hp)(g:Addr)(L R:dy)(ks:List<|aA×Addr):Prop where
 top:H g=some (.dT<|kC ks)
 nd:(ks.map (·.1)).Nodup
 mem:∀d,d∈ks.map (·.1)↔Dt L d
 val:∀d a,(d,a)∈ks->∃c:Int,H a=some (.tup [.int c,.int<|lo R d])/\Dt L (c,d.1)/\nx L (c,d.1)=d
theorem CD.same(x:CD H g L R ks)(e:af H H'):CD H' g L R ks:=
 #[e _ _ x.top,x.nd,x.mem,λd a h=>let ⟨c,h1,h2⟩:=x.val d a h;#[c,e _ _ h1,h2]]
theorem CD.get(x:CD H g L R ks)(j:Dt L d):∃(a:Addr) (c:Int),eR (kC ks) (jH d)=a.i/\H a=some (.tup [.int c,.int<|lo R d])/\Dt L (c,d.1)/\nx L (c,d.1)=d:=by let#[p,b,e]:=zaq.mp<|(x.mem d).mpr j;let#[f,a]:=p;cases e;let#[c,h,i]:=x.val f a b;exact#[a,c,F5 x.nd b,h,i]
end Gm
namespace L2
open PySem PySem.Spec PySem.W PySem.Calls PyProof.Rows Gm
noncomputable def Am(lo:Int)(n:Nat):It:=#[λi _=>i<n,λi H x a=>a=H/\x=.int (lo-i),λi _=>n<=i]
theorem AU{P:Program}{w:World}{K:zde}{tg:Expr}(it:Addr)(lo:Int)(n:Nat):Turn P w K tg (Am lo n) [it] it (λi h=>IsRangeIter h it (lo+(i:Nat)*(-1)) ((n:Int)-(i:Nat))<|-1) where
 mem:=by simp
 obj:=λi h st b a=>by
  let e:b=it:= ~~~a
  subst e;exact#[_,st,λv z=>by let B:Data.fields _=Data.cell v:=z;cases B]
 keep:=λi h h' st k=>k it A? _ st
 item:=by ext X m q r f i pins s A H E I c st l;subst m q r;let#[f0,j,C,p,d,g]:=c it A?;refine (Walks.range (prog:=X.prog) (w:=X.w) (I.ok.hd f) it lo (-1) n).item i s _ _ l st λv h' y x u D=>?_;let#[t,rfl]:=x;refine#[_,rfl,Cy (s:={ s with heap:=h',toks:=y }) (n:= "range_iterator") u rfl rfl B! #[.int<|lo-i,H,I.turned (λb o a e=>D b o (~~~a) e) f0 j p d g,#[t,?_],#[rfl,rfl],u,λb a=>(c b a).1]];congr 1;lia
 done:=by ext X m q r f i pins s A H E I c st l;subst m q r;let#[f0,j,C,p,d,g]:=c it A?;exact wpAny_pyNext_range_end (I.ok.hd f) st (by let:n<=i:=l;lia) λh' F=>#[rfl,I.turned (t':=s.toks) (λb o a e=>F b o a e) f0 j p d g]
 self:=λ_ _ _ _ _ st h=>zex st h
section
variable {X:Cx} {tg:Expr}
theorem G7{c:St}{s:Shared}{R:It->Hp->Prop}{lo a:Int}{t u v:Tok}{f:Nat}(I:Inv X pins c H s)(h1 : -(2 ^ 62)<=lo)(k:lo<2 ^ 62)(h3 : -(2 ^ 62)<=a)(j:a<2 ^ 62)(q:R (Am lo (lo-a).toNat) H):wpAny (model X.prog X.w) X.A (pyIter<|.ref s.d) (PIE X pins c tg R) E { s with heap:=s.heap.push { cls:=.type "range",data:=.fields #[.int lo t,.int a u,.int (-1) v,] },toks:=f }:=by
 refine wpAny_pyIter_range (IsRange.new ..) (small_down h1 k h3 j) ?_;let d:Inv X pins c H { s with heap:=s.heap.push { cls:=.type "range",data:=.fields #[.int lo t,.int a u,.int (-1) v,] },toks:=f }:=I.kept λb o e=>zap _ e;refine#[(s.heap.push { cls:=.type "range",data:=.fields #[.int lo t,.int a u,.int (-1) v,] }).e,[(s.heap.push { cls:=.type "range",data:=.fields #[.int lo t,.int a u,.int (-1) v,] }).e],_,_,H,rfl,
  d.kept λb o e=>zap _ e,AU _ lo (lo-a).toNat,?_,λb h=>?_,q]
 let g:lo+((0:Nat):Int)*(-1)=lo:=by simp
 let i:(((lo-a).toNat:Nat):Int)-((0:Nat):Int)=Builtin.Range.rangeSize lo a (-1):=by rw[rangeSize_downNat];lia
 rw[g,i];exact zaK _ rfl;let e:b=(s.heap.push { cls:=.type "range",data:=.fields #[.int lo t,.int a u,.int (-1) v,] }).e:= ~~~h
 subst e;exact d.qZ (zaf _)<|d.cw.fresh<|zaf _
noncomputable def UM(b:TA):TI:=λa H R=>b a H λvs c=>∃i j:Int,vs=[.int i,.int j,.int<|-1]/\(-(2 ^ 62)<=i/\i<2 ^ 62/\-(2 ^ 62)<=j/\j<2 ^ 62)/\R (Am i (i-j).toNat) c
theorem xq{m:TA}{p f:Pos}(z:Gl X "range")(D:X.mg "range"=none)(w:PA X [a,b,c] m)(C:starEach [a,b,c] X.env=[(false,eval a X.env),(false,eval b X.env),(false,eval c X.env)]:=by rfl)(l:starEach [b,c] X.env=[(false,eval b X.env),(false,eval c X.env)]:=by rfl) :
  PI X tg (.Call (.Name "range" p) [a,b,c] [] f) (UM m):=by
 ext pins s n H R I h;refine Call_ (dM I z D boot_range<|zaJ (dD (w f pins s n H _ I h) λF G ⟨vs,E,x,y,g⟩=>?_) (by rw[C,l])<|by rw[l];rfl);let#[i,j,e,#[g,u,A,o],q]:=g;subst e;cases y with
 | cons r d=>
  cases d with
  | cons B d=>
   cases d with
   | cons k d=>
    cases d;let#[t,rfl]:=r;let#[t',rfl]:=B;let#[v,rfl]:=k;exact call_range_3 B! (G7 x g u A o q)<|Or.inl<|PyProof.noPylong_small ()
end
theorem Eo{lo:Int}{n:Nat}{g:TG}{tb:TS}{D:Ends}{σ:St}(c:Nat->St->Hp->Prop)(s:c 0 σ H)(t:∀i σ H,i<n->c i σ H->InF (c (i+1)) g tb D (.int (lo-i)) σ H)(v:∀σ H,c n σ H->D.nx σ H):FW (Am lo n) g tb D σ H:=
 FW.of n c s (λi b H u p=>#[u,λx d y=>by obtain⟨rfl,rfl⟩:=y;exact t i b _ u p]) (λ_ _ _=>zaf _) v
end L2
namespace PySem
namespace F
theorem G5:typeLookup (.type "range_iterator") "__len__"=pure none:=by rw[zdF,zcy];kernel_rfl
theorem MQ:typeLookup (.type "range_iterator") "__length_hint__"=pure (some<|.builtin "range_iterator.__length_hint__"):=by rw[zdF,zcy];kernel_rfl
theorem qQ:isSubtype (.type "range_iterator") (.type "reversed")=pure false:=by rw[isSubtype_type];kernel_rfl
end F
theorem lS(r:Addr)(a b c:Int)(t u v:Tok)(j:¬(!(Builtin.Range.rangeFitsLong a&&Builtin.Range.rangeFitsLong b&&Builtin.Range.rangeFitsLong c&&Builtin.Range.rangeFitsLong (-c)&&Builtin.Range.rangeFitsLong (a-c)&&Builtin.Range.rangeFitsLong (Builtin.Range.rangeSize a b c)))=true) :
  Meets (Builtin.«range.__reversed__» #[[.ref r],[]]) (λ_ R s=>s.heap.get? r=some { cls:=.type "range",dict:=none,data:=.fields #[.int a t,.int b u,.int c v,],slots:=#[] }/\R (.ok<|.ret<|Value.ref s.d) { s with heap:=s.heap.push { cls:=Value.type (if(Builtin.Range.rangeFitsLong a&&Builtin.Range.rangeFitsLong b&&Builtin.Range.rangeFitsLong c&&Builtin.Range.rangeFitsLong (-c)&&Builtin.Range.rangeFitsLong (a-c)&&Builtin.Range.rangeFitsLong (Builtin.Range.rangeSize a b c))=true then "range_iterator" else "longrange_iterator"),data:=Data.fields #[rawInt<|a+(Builtin.Range.rangeSize a b c-1)*c,rawInt<|Builtin.Range.rangeSize a b c,rawInt<|-c,] },toks:=s.toks }):=
 .of_wp λprog w A R s h=>by let#[i,g,d,f,k]:=s;let#[e,h]:=h;wp_walk;exact#[_,rfl,h]
theorem iY(h1 : -(2 ^ 62)<=i)(a:i<2 ^ 62):Builtin.Range.rangeFitsLong i=true:=by simp[Builtin.Range.rangeFitsLong,zdT,zdK];lia
theorem nj{n:Nat}(b:IsRange s.heap r 0 (n:Int) 1 t u v)(c:n<=1000)(h:Q (.ref s.d) { s with heap:=s.heap.push { cls:=.type "range_iterator",data:=.fields #[rawInt<|(n:Int)-1,rawInt (n:Int),rawInt<|-1,] } }):wpAny (model prog w) A (call (.builtin "range.__reversed__") [.ref r]) Q E s:=by
 let a:Builtin.Range.rangeSize 0 (n:Int) 1=(n:Int):=by rw[rangeSize_one];split<;>lia
 let sm:(Builtin.Range.rangeFitsLong 0&&Builtin.Range.rangeFitsLong (n:Int)&&Builtin.Range.rangeFitsLong 1&&Builtin.Range.rangeFitsLong (-1)&&Builtin.Range.rangeFitsLong (0-1)&&Builtin.Range.rangeFitsLong (Builtin.Range.rangeSize 0 (n:Int) 1))=true:=by rw[a,iY () (),iY () (),iY () (),iY () (),iY () ()];rfl
 refine zdM F.slot_range_reversed #[_,b,rfl] F.entry_range_reversed (F.args_range_reversed_1 _) (lS r 0 (n:Int) 1 t u v<|by rw[sm];decide) #[b,?_];erw[zam sm,a,show(0:Int)+((n:Int)-1)*1=(n:Int)-1 by lia,h]
theorem nh{n:Nat}(a:IsRange s.heap r 0 (n:Int) 1 t u v)(b:n<=1000)(h:Q₁ (.ref s.d) { s with heap:=s.heap.push { cls:=.type "range_iterator",data:=.fields #[rawInt<|(n:Int)-1,rawInt (n:Int),rawInt<|-1,] } }) :
  codeAny (model prog w) A (.call (.builtin "reversed.__new__") #[[.type "reversed",.ref r],[]]) (wants Q₁ E) s:=by
 refine codeAny_of_tree ?_;show wpAny _ A.in1 (do checkBuiltinCall "reversed.__new__" #[[.type "reversed",.ref r],[]];again (.builtin "reversed.__new__" #[[.type "reversed",.ref r],[]])) _ _ s;refine zad<|zdO (F.newCall_reversed_1 _)<|zay #[zci F.plain_reversed_new _,zck F.entry_reversed_new ?_];rw[zbO F.plain_reversed_new _];unfold Builtin.«reversed.__new__»;refine zad<|zdO (newClass_reversed _) ?_;try dsimp only
 refine zad<|zdO (by first|rfl|kernel_rfl) ?_;refine zad<|zdO (by first|rfl|kernel_rfl) ?_;try dsimp only
 refine zad<|zdB #[_,a,rfl] F.slot_range_reversed.lookup ?_;try dsimp only
 refine zad<|zdO (F.slot_range_reversed.bind _) ?_;try dsimp only
 first
 | rw[zaj<|show ¬((Value.builtin "range.__reversed__"==Value.none)=true)from zaE]
 | (show wpAny _ _ (if(Value.builtin "range.__reversed__"==Value.none)=true then _ else _) _ _ _;rw[zaj<|show ¬((Value.builtin "range.__reversed__"==Value.none)=true)from zaE])
 refine zad<|wpAny_rule ?_;refine zad<|show wpAny _ _ (call (.builtin "range.__reversed__") [.ref r]) _ _ _ from nj a b ?_;first
 | exact zay h
 | exact zad<|zay<|zay h
theorem ni{n:Nat}(c:IsRange s.heap r 0 (n:Int) 1 t u v)(b:n<=1000)(h:Q (.ref s.d) { s with heap:=s.heap.push { cls:=.type "range_iterator",data:=.fields #[rawInt<|(n:Int)-1,rawInt (n:Int),rawInt<|-1,] } }):wpAny (model prog w) A (call (.type "reversed") [.ref r]) Q E s:=by refine callType_other (Q₁:=λobj a=>obj=.ref s.d/\a={ s with heap:=s.heap.push { cls:=.type "range_iterator",data:=.fields #[rawInt<|(n:Int)-1,rawInt (n:Int),rawInt<|-1,] } }) B? F.create_reversed #[_,_,F.mro_reversed] F.made_reversed F.qQ (F.typeCall_reversed_1 _) (nh c b #[rfl,rfl]) ?_;ext obj a ⟨rfl,rfl⟩;exact#[#[_,zaK _ rfl,rfl],h]
theorem vE(it:Addr)(x left step:Int) :
  Meets (Builtin.«range_iterator.__length_hint__» #[[.ref it],[]]) (λ_ R s=>s.heap.get? it=some { cls:=.type "range_iterator",dict:=none,data:=.fields #[rawInt x,rawInt left,rawInt step,],slots:=#[] }/\R (.ok<|.ret<|Value.int left s.toks) { s with toks:=s.toks+1 }):=
 .of_wp λprog w A R s h=>by let#[e,g,d,b,c]:=s;let#[a,h]:=h;wp_walk;exact#[_,rfl,h]
theorem Js{x step:Int}{n:Nat}(f:IsRangeIter s.heap z x (n:Int) step)(g:n<=sizeLine)(h:Q false { s with toks:=s.toks+1 }):wpAny (model prog w) A (Builtin.List.listLengthHint<|.ref z) Q E s:=by
 let d:s.TypeIs (.ref z) "range_iterator":=#[_,f,rfl];unfold Builtin.List.listLengthHint;refine zad<|zdB d F.G5 ?_;show wpAny _ A (specialOf (Value.ref z) (Str.ofString "__length_hint__") >>= _) _ _ _;refine zad<|zdB d F.MQ ?_;generalize c:("range_iterator.__length_hint__" : String)=e
 wp_delta
 rw[show splitId e=some ("range_iterator", "__length_hint__")from by subst c;decide +kernel];subst c;refine zad<|wpAny_isInstance (b:=true) d (by rw[isSubtype_type];kernel_rfl) ?_;refine wpAny_ite_split (λa=>absurd a B!)<|λ_=>?_;refine wpAny_ite_split (λ_=>?_)<|λa=>absurd B? a;refine wpAny_ite_split (λ_=>?_)<|λa=>absurd B? a;refine zad<|zdM F.slot_range_iterator_length_hint d F.entry_range_iterator_length_hint (F.args_range_iterator_length_hint_1 _) (vE z x (n:Int) step) #[f,?_];show wpAny _ A (do
     let i <-asInt? (Value.int (n:Int) s.toks)
     _) Q E _
 refine zad<|zdO rfl ?_;dsimp only;erw[zaj (by unfold Builtin.List.listTooLong;rw[zaB];simpa using g),zay h]
theorem Ai{x step:Int}{n:Nat}(O:A.handled=none)(r:IsRangeIter s.heap z x (n:Int) step)(q:n<=sizeLine)(R:∀h' D f c,(∀b o,b≠z->s.heap.get? b=some o->h'.get? b=some o)->h'.get? s.d=some { cls:=.type "list",dict:=none,data:=.seq f c,slots:=#[] }->ItemsOf (λi v=>∃t,v=.int (x+i*step) t) f n->
   Q (.ref s.d) { s with heap:=h',toks:=D }):wpAny (model prog w) A (call (.type "list") [.ref z]) Q E s:=by
 refine callType_codes (Q₁:=λobj d=>obj=.ref s.d/\d={ s with heap:=s.heap.push { cls:=.type "list",data:=.seq #[] } }) PySem.F.called_list (PySem.F.typeCall_list_1 _) PySem.F.entry_list_init
  (code_list_new _ #[rfl,rfl]) λobj d h₁=>?_
 let#[rfl,rfl]:=h₁;let j:(s.heap.push { cls:=.type "list",data:=.seq #[] }).get? s.d=some { cls:=.type "list",data:=.seq #[] }:=zaK _ rfl;let C:=zar r;refine#[#[_,j,rfl],PySem.F.args_list_init_2 _ _,?_];show wpAny _ _ (do let m <-Builtin.List.listItems (.ref s.d);Builtin.List.listUpdate (.ref s.d) (λ_=>#[]);letGo m.toList.reverse;Builtin.List.listExtendWith (.ref s.d) (.ref z) .none) _ _ _;refine zad ?_;unfold Builtin.List.listItems;refine zad<|zcG j rfl<|zay ?_;refine zad<|zcN j rfl ?_;let a:=zbI (Obj.mapSeq<|λ_=>(#[]:Array Value)) j rfl;generalize M:(s.heap.push { cls:=.type "list",data:=.seq #[] }).update s.d (Obj.mapSeq<|λ_=>(#[]:Array Value))=u at a;let y:∀b o,s.heap.get? b=some o->u.get? b=some o:=λb o e=>by erw[<-M,(zbF _ _<|zbM<|zar e).trans<|zap _ e]
 let g:=y _ _ r;refine zad<|zeP ?_;unfold Builtin.List.listExtendWith;refine zad<|zfk (show Shared.TypeIs { s with heap:=u } (.ref z) "range_iterator" from#[_,g,rfl]) ?_;let H:Builtin.List.listSameRef (.ref s.d) (.ref z)=false:=by simp[Builtin.List.listSameRef,zbM C]
 let G:(Value.type "range_iterator"==Value.type "list")=false:=by decide
 let N:(Value.type "range_iterator"==Value.type "tuple")=false:=by decide
 simp[H,G,N,Bool.or_false,zbD,zcP];refine zad<|zex g ?_;refine zad<|zbS<|Js g q ?_;rw[zaj B!];refine zay #[zci zcx _,codeAny_extend_loopS (Walks.range (A:=A.in1.in1) O z x step n).toS q _ (λh=>absurd C<|by erw[<-zai.mp h,zbq _]) _ n 0 _ _ _ rfl (zaR _) (~~~g) a (ItemsOf.nil _) λp l S h P K=>?_];rw[Moved.eq_with h];refine#[rfl,R p.heap p.toks l S (λb B L e=>h.heap b B (λk=>?_)<|y b B e) P K];ext(I | k:zaw.mp k);exact absurd (zar e) (I>>zbq _);exact L<|zai.mp k
end PySem
namespace L2
open PySem PySem.Spec PySem.W PySem.Calls PyProof.Rows Gm
section
variable {σ:St} {H:Hp} {Q:VK} {K:Frag}
theorem HX{R:Hp->Prop}{f a:Addr}{xs:List V}{g:TG}{r:TT}{s:TE}(h:Nat->St->List V->Hp->Prop)(w:h 0 σ [] H)(v:∀i σ ys H,i<=xs.c->h i σ ys H->aI K H a xs)(A:∀i x p σ ys H,xs[i]?=some x->i<xs.c->h i σ ys H->H p=none->InS (h (i+1)) g r s f ys (.ref p) σ (upd H p (.tup [.int i,x])))(B:∀σ ys H,h xs.c σ ys H->R H):CW (Ow K a) g r s f σ H R:=
 CW.of xs.c h w (λi b ys H u p=>by let q:=v i b ys H () p;exact#[#[xs,xs[i],q,by simp[u]],λx d y=>by obtain⟨r,y,hr,rfl,hy,rfl⟩:=y;exact A i y r b ys H (hy xs q) u p hr]) (λb ys H p=>#[xs,v _ b ys H (zaf _) p,zaf _]) B
end
end L2
namespace Gm
open PySem L2
noncomputable def jl(s:List Nat):List (List Nat)->List Nat
 | []=>[]
 | [a]=>a
 | a::b::r=>a++s++jl s (b::r)
abbrev num(n:Int):Str:=((toString n:String):Str)
abbrev Yb:Str:=(("\n" : String):Str)
abbrev t0:Str:=(("" : String):Str)
noncomputable def mn(l:dm):Int:=l.min?.getD 0
noncomputable def lb(l:dm):dm:=du l<|l.idxOf<|mn l
end Gm
namespace L2
open PySem PySem.Spec PySem.W PySem.Calls PyProof.Rows Gm
theorem R4:bootBuiltins "all"=some (.builtin "all"):=by decide +kernel
section
variable {K:Frag} {σ:St} {H:Hp} {Q:VK}
theorem Fz(h:ta σ H λvs b=>∃a,vs=[.ref a]/\(∃xs,aI K b a xs)/\R (Ow K a) b):Pb K ta σ H R:=h
end
end L2
namespace L2
open PySem PySem.Spec PySem.W PySem.Calls PyProof.Rows Gm
section
variable {prog:Program} {w:World} {ar:Around} {E:da} {t0:Shared} {dk ik:Addr} {o:Obj} {ents:Array DictEntry} {ep:Nat}
theorem LQ(d:(dk==sysModules)=false)(a:t0.heap.get? dk=some o)(e:o.ExactDict)(c:o.data=.dict ents ep)(q:Q (.ref t0.d) { t0 with heap:=t0.heap.push { cls:=.type "dict_keyiterator",data:=.fields #[.ref dk,.int 0 0,.int ents.size 0,.int ep 0,] } }) :
  wpAny (model prog w) ar (pyIter<|.ref dk) Q E t0:=by
 let b:t0.TypeIs (.ref dk) "dict":=#[o,a,e.1];refine wpAny_pyIter_slot b F.slot_dict_iter<|zcT F.slot_dict_iter b F.entry_dict_iter ?_<|F.args_dict_iter_1 _;unfold Builtin.«dict.__iter__» Builtin.Dict.dictSlotNone;refine zad<|zad<|wpAny_notOrdered_dict b<|show wpAny _ _ (pure<|Value.ref dk) _ _ t0 from zay ?_;show wpAny _ _ (Builtin.Dict.showsAll dk >>= _) _ _ t0;unfold Builtin.Dict.showsAll;rw[zaj<|d>>zaE];refine zad<|zay<|zad<|wpAny_dictEntries a c<|zad<|wpAny_dictEpoch a c<|zad<|zdJ<|zay #[_,rfl, "dict_keyiterator",_,#[_,zaK _ rfl,rfl],F.slot_dict_keyiterator_next.lookup,?_];simpa[rawInt]using q
theorem LP(i:Nat)(a:t0.heap.IsKeyIter ik dk i ents.size ep)(c:t0.heap.get? dk=some o)(d:o.data=.dict ents ep)(e:i<ents.size)(q:∀h',h'.IsKeyIter ik dk (i+1) ents.size ep->Heap.SameBut ik t0.heap h'->Q (some ents[i].key) { t0 with heap:=h' }):wpAny (model prog w) ar (pyNext<|.ref ik) Q E t0:=by
 let#[g,b,f,di]:=id a;unfold pyNext;refine zad<|wpAny_attempt<|zcM a.typeIs zdf<|zcT zdf a.typeIs F.entry_dict_keyiterator_next ?_<|F.args_dict_keyiterator_next_1 _;refine zad<|zay<|zad<|zad ?_;first|refine zad (zcI a.typeIs<|zay<|zad<|wpAny_fieldsOf b di ?_) | refine zad<|zdo a.typeIs<|zay<|zad<|wpAny_fieldsOf b di ?_
 simp only[show Builtin.Dict_items.ownsTuple "dict_keyiterator"=false by decide,zbD,zcP];show wpAny _ _ (if(Value.ref dk==Value.none)=true then _ else _) _ _ t0;rw[zaj<|show ¬((Value.ref dk==Value.none)=true)from zaE];refine zad<|zay<|zad<|wpAny_dictEntries c d ?_;rw[zaj A?];refine zad<|zay<|zad<|wpAny_dictEpoch c d ?_;rw[zaj A?];refine zay ?_;simp[show ¬((i:Int)<0)from (),zcP,zaB,Array.getElem?_eq_getElem e];refine zad ?_;first|refine zad (zcI a.typeIs<|zay<|zad<|zeI a.typeIs ?_) | refine zad<|zdo a.typeIs<|zay<|zad<|zeI a.typeIs ?_
 show wpAny _ _ (setField (.ref ik) 1 (rawInt<|(i:Int)+1) >>= _) _ _ t0;refine zad<|wpAny_setField b di A? ?_;let nx:(t0.heap.update ik<|Obj.mapFields (·.setIfInBounds 1 (rawInt<|(i:Int)+1))).IsKeyIter ik dk (i+1) ents.size ep:=
  #[_,zbI _ b<|Obj.isFreed_of_fields<|zeo di _,(Obj.cls_mapFields ..).trans f,by rw[zeo di];simp[rawInt]]
 refine zad<|zbS<|zad<|zeI nx.typeIs ?_;exact zay<|zay #[_,rfl,zay<|q _ nx<|Heap.SameBut.update ..]
theorem LO(i:Nat)(f:ar.handled=none)(a:t0.heap.IsKeyIter ik dk i ents.size ep)(c:t0.heap.get? dk=some o)(d:o.data=.dict ents ep)(e:ents.size<=i)(q:∀h',Heap.ExtBut ik t0.heap h'->Q none { t0 with heap:=h' }):wpAny (model prog w) ar (pyNext<|.ref ik) Q E t0:=by
 let#[h,b,g,di]:=id a;unfold pyNext;refine zad<|wpAny_attempt<|zcM (a).typeIs zdf<|zcT zdf (a).typeIs F.entry_dict_keyiterator_next ?_<|F.args_dict_keyiterator_next_1 _;refine zad<|zay<|zad<|zad ?_;first|refine zad (zcI (a).typeIs<|zay<|zad<|wpAny_fieldsOf b di ?_) | refine zad<|zdo (a).typeIs<|zay<|zad<|wpAny_fieldsOf b di ?_
 simp only[show Builtin.Dict_items.ownsTuple "dict_keyiterator"=false by decide,zbD,zcP];show wpAny _ _ (if(Value.ref dk==Value.none)=true then _ else _) _ _ t0;rw[zaj<|show ¬((Value.ref dk==Value.none)=true)from zaE];refine zad<|zay<|zad<|wpAny_dictEntries c d ?_;rw[zaj A?];refine zad<|zay<|zad<|wpAny_dictEpoch c d ?_;rw[zaj A?];refine zay ?_;simp[show ¬((i:Int)<0)from (),zcP,zaB,zeD e];refine zad ?_;first|refine zad (zcI (a).typeIs<|zay ?_) | refine zad<|zdo (a).typeIs<|zay ?_
 show wpAny _ _ (setField (.ref ik) 0 .none >>= _) _ _ t0;refine zad<|wpAny_setField b di A?<|show wpAny _ _ (newExc (.type "StopIteration") [] >>= _) _ _ _ from zad ?_;simp[newExc,newTuple];refine zad (zdJ (zad<|zdO (by first|rfl | (simp[firstArgMember];rfl))<|zdJ ?_<|by size_fits)<|by size_fits);simp only[raiseNew];refine zad<|wpAny_handled ?_;rw[show ar.in1.handled=none from f];refine zad<|zay<|wpAny_throw ?_;refine zad<|wpAny_isInstance (T:= "StopIteration") #[_,zaK _ rfl,rfl] isSubtype_stop ?_;exact zay<|q _<|((Heap.SameBut.update ..).extBut.push _).push _
end
noncomputable def S0(d:Addr)(o:Obj)(a:List<|List Key×V):It:=
 #[λi H=>H d=some (.mZ o<|.dT a)/\i<a.c,λi H x c=>c=H/\∃k v b,a[i]?=some (k,v)/\H b=some (.tup<|k.map kV)/\x=.ref b,λi H=>H d=some (.mZ o<|.dT a)/\a.c<=i]
theorem MA{P:Program}{w:World}{K:Frag}{tg:Expr}{d it:Addr}{o:Obj}{a:List<|List Key×V}{t:Array DictEntry}{ep:Nat}(R:o.data=.dict t ep)(hn:t.size=a.c) :
  Turn P w K tg (S0 d o a) [it] it (λi h=>h.IsKeyIter it d i t.size ep) where
 mem:=by simp
 obj:=λi h st b f=>by
  let e:b=it:= ~~~f
  subst e;let#[o,e,c,d]:=st;exact#[o,e,λv z=>by rw[d]at z;cases z]
 keep:=λi h h' st k=>let ⟨o,e,r⟩:=st;#[o,k it A? o e,r]
 item:=by
  ext X D G L W i pins s σ H E I n st N;subst D G L;let#[Q,hi]:=N;let#[u,Y]:=(show bU X.prog X.w H s.heap d (.mZ o<|.dT a)from I.cw d _ Q);let#[z,y,xs,r,o2,ac,ad,Z,h2,U,h4,h5]:=(show bU X.prog X.w H s.heap d (.dT a)from Y);rw[u]at Z;cases Z;rw[R]at U;cases U;let#[f0,B,f2,F,M,A]:=n it A?;refine LP i st u R () λh' S sb=>?_;let#[o',e',c',d']:=id S;let xl:=r.c;let g:xs[i]?=some (xs[i]'()):=zac _;let C:∀{l:List<|List Key×V} {m:List<|List Key×Addr×Value} (_:Paired (λ(p:List Key×V) (q:List Key×Addr×Value)=>p.1=q.1/\H q.2.1=some (.tup<|p.1.map kV)/\RelV p.2 q.2.2) l m) (j:Nat) (x:List Key×Addr×Value),m[j]?=some x->∃v,l[j]?=some (x.1,v)/\H x.2.1=some (.tup<|x.1.map kV):=by
   ext l m pr;induction pr with
   | nil=>intro j x e;simp at e
   | @cons p q ps qs hq _ ih=>
    ext j x e;cases j with
    | zero=>
     let e:q=x:= ~~~e
     subst e;let#[p1,p2]:=p;let#[O,a2,_]:=hq;let O:=O;subst O;exact#[p2,rfl,a2]
    | succ j=>simpa using ih j x (~~~e)
  let#[v,hv,f]:=C r i _ g;let ek:t[i]'()=entryOfKey (tupleKind<|cg X.prog X.w) (xs[i]'()):=by let:=entry_at h4 i;rw[g,Array.getElem?_eq_getElem ()]at this;exact zas this
  erw[ek,#[_,rfl,Cy e' c' d' B! #[.ref (xs[i]'()).2.1,H,I.turned (λb o f e=>(sb.2 b f).trans e) f0 B F M A,rfl,#[rfl,_,v,_,hv,f,rfl],S,λb f=>(n b f).1]]]
 done:=by ext X D G L W i pins s σ H E I n st N;subst D G L;let#[Q,hi]:=N;let#[u,Y]:=(show bU X.prog X.w H s.heap d (.mZ o<|.dT a)from I.cw d _ Q);let#[f0,B,f2,F,M,A]:=n it A?;exact LO i (I.ok.hd W) st u R () λh' eb=>#[rfl,I.turned (λb o f e=>eb b o f e) f0 B F M A]
 self:=λ_ _ _ _ _ st h=>wpAny_pyIter_keyiter st h
noncomputable def Ef(d:TE):TI:=λe H R=>d e H λx c=>∃a b,x=.ref a/\c a=some (.dT b)/\∀o,R (S0 a o b)<|upd c a<|.mZ o<|.dT b
theorem BG(G:PE X l tl):PI X tg l<|Ef tl:=by
 ext pins s B H R I h;refine dD (G pins s B H _ I h) λv d ⟨x,m,j,M,L⟩=>?_;let#[a,g,e,t,q]:=L;subst e;cases M;let#[z,y,xs,r,o,A,E,i,F,n,C,N]:=(show bU X.prog X.w m d.heap a (.dT g)from j.cw a _ t);let P:A.size=g.c:=size_of_entries C>>r.length.symm
 refine LQ y i F n ?_;generalize D:d.heap.push { cls:=Value.type "dict_keyiterator",data:=Data.fields #[Value.ref a,Value.int 0 0,Value.int A.size 0,Value.int E 0,] }=h';let k:∀c o,d.heap.get? c=some o->h'.get? c=some o:=λc o e=>D▸zap _ e;let K:∀b ys,m b=some (.tup ys)->b≠a:=λb ys e z=>by rw[z,t]at e;cases e
 let Q:Inv X pins B (upd m a<|.mZ o<|.dT g) { d with heap:=h',toks:=d.toks }:=
  Inv.write (e:=a) (t':=d.toks) j (by rw[t];trivial) (.inl rfl) (λb u _ e=>k b u e) #[o,k _ _ i]
   #[k _ _ i,z,y,xs,Paired.BY r λp q w=>#[w.1,by erw[aG<|K _ _ w.2.1,w.2.1],w.2.2],o,A,E,k _ _ i,F,n,C,N]
 refine#[d.d,[d.d],_,_,_,rfl,Q,MA n P,#[_,D▸zaK _ rfl,rfl,rfl],λb O=>?_,q o];let e:b=d.d:= ~~~O
 subst e;let f:=j.qZ (zaf _)<|j.cw.fresh<|zaf _;exact#[(aG λz=>zbq _<|z▸zar i).trans f.1,f.2]
theorem JG(h:tl σ H λx c=>∃a b,x=.ref a/\c a=some (.dT b)/\∀o,R (S0 a o b)<|upd c a<|.mZ o<|.dT b):Ef tl σ H R:=h
theorem Inv.X8{h:St}{s:Shared}{o:Obj}{u:HO}(I:Inv X pins h H s)(a:H d=some (.mZ o u))(L:∀xs,u≠.tup xs)(K:∀x,u≠.own x)(t:∀l F,X.H₀ d≠some (.mZ l F)):Inv X pins h (upd H d u) s:=by
 let f:∀{b:Addr},H b=none->b≠d:=λ{b} e z=>by rw[z,a]at e;cases e
 let y:mT X.prog X.w (upd H d u) s.heap:=λb v e=>by
  let j:∀c xs,H c=some (.tup xs)->upd H d u c=some (.tup xs):=λc xs q=>aG (show c≠d from λz=>by rw[z,a]at q;cases q)>>q
  let i:∀c x,H c=some (.own x)->upd H d u c=some (.own x):=λc x q=>aG (show c≠d from λz=>by rw[z,a]at q;cases q)>>q
  ext(z:b=d);subst z;rw[ae]at e;cases e;let#[_,q]:=(show bU X.prog X.w H s.heap b (.mZ o u)from I.cw b _ a);exact q.lA (λc v _ r=>r) (λc q=>i c _ q) j;rw[aG z]at e;exact(I.cw b v e).lA (λc v _ r=>r) (λc q=>i c _ q) j
 let A:Un X.fs X.ex X.H₀ (upd H d u) X.s₀.heap s.heap:=by refine#[I.base.keep,I.base.slot,λb g e n E=>?_,I.base.there,λb xs e=>?_,λb g v e=>?_,λb G e=>?_];let:=I.base.free b g e n E;rw[aG<|f this];exact this;let:=I.base.ym b xs e;rw[aG<|show b≠d from λz=>by rw[z,a]at this;cases this];exact this;let:=I.base.we b g v e;rw[aG<|show b≠d from λz=>t g v<|by erw[<-z,e]];exact this;let#[m,this]:=I.base.yo b G e;exact#[m,aG (show b≠d from λz=>by rw[z,a]at this;cases this)>>this]
 exact#[I.ok,I.os,I.bare,A,I.loc,I.cell,by erw[aG<|f I.free,I.free],λx c e=>by erw[aG<|f<|I.kX x c e,I.kX x c e],λp C=>by let#[B,k,D]:=I.pin p C;exact#[B,by erw[aG<|f k,k],D],y,I.len]
noncomputable def IU(e:Hp)(t:TS):TS:=λD h H=>t { D with nx:=λb c=>∃(d:Addr) (o:Obj) (a:List<|List Key×V),c d=some (.mZ o<|.dT a)/\(∀g f,e d≠some (.mZ g f))/\D.nx b (upd c d<|.dT a) } h H
theorem FH{st:Stmt}{t:TS}(h:PS X st t):PS X st<|IU X.H₀ t:=by
 ext pins s e H D I q;refine dD (h pins s e H _ I q) λf l r=>?_;cases f with
 | next=>
  let#[a,k,b,d,o,j,c,g,i]:=r;exact#[a,_,b.X8 c (λxs z=>nomatch z) (λx z=>nomatch z) g,i]
 | brk=>exact r
 | cont=>exact r
 | ret u=>exact r
theorem Qt(h:t { D with nx:=λb c=>∃(d:Addr) (o:Obj) (a:List<|List Key×V),c d=some (.mZ o<|.dT a)/\(∀f e,H0 d≠some (.mZ f e))/\D.nx b (upd c d<|.dT a) } σ H):IU H0 t D σ H:=h
section
variable {X:Cx} {l a b:Expr} {tl:TE} {ta:TA} {p p2 p3 pos mX JR:Pos}
theorem wJ{lo st:Int}{n:Nat}(h:ItemsOf (λi v=>∃t,v=Value.int (lo+(i:Int)*st) t) acc n):Vals (((List.range n).map λi:Nat=>lo+(i:Int)*st).f) acc.toList:=by
 let#[m,h]:=h;let d:∀(l:cq) (k:Nat),(∀j v,l[j]?=some v->∃t,v=Value.int (lo+((k+j:Nat):Int)*st) t)->Vals (((List.range' k l.c).map λi:Nat=>lo+(i:Int)*st).f) l:=by
  ext l;induction l with
  | nil=>intro k _;exact .nil
  | cons a l g=>
   ext k f;rw[zbi,range'_succ,zbx,zbx];refine .cons ?_<|g (k+1) λj v e=>?_;let#[t,e]:=f 0 a rfl;exact#[t,e];let#[t,c]:=f (j+1) v (~~~e);refine#[t,?_];rw[c,show k+(j+1)=k+1+j by lia]
 let:=d acc.toList 0 λj v e=>by let#[t,c]:=h j v (by erw[<-zcY,e]);refine#[t,?_];rw[c,zcl]
 rw[zbm,m]at this;erw[range_eq_range',this]
noncomputable def wQ(ta:TA):TE:=λd H Q=>ta d H λvs c=>∃(lo:Int) (n:Nat),vs=[.int lo,.int<|lo+n]/\n<=1000/\-1000<=lo/\lo<=1000/\∀p,c p=none->Q (.ref p) (upd c p<|.lst<|((List.range n).map λi:Nat=>lo+(i:Int)).f)
theorem vF(C:X.calm=true)(S:X.mg "range"=none)(F:X.mg "list"=none)(G:PA X [a,b] ta)(N:Gl X "range":=by rfl)(B:Gl X "list":=by rfl)(R:starEach [a,b] X.env=[(false,eval a X.env),(false,eval b X.env)]:=by rfl)(w:starEach [b] X.env=[(false,eval b X.env)]:=by rfl)(x:starEach [.Call (.Name "range" p) [a,b] [] pos] X.env=(false,eval (.Call (.Name "range" p) [a,b] [] pos) X.env)::starEach [] X.env:=by rfl) :
  PE X (.Call (.Name "list" p2) [.Call (.Name "range" p) [a,b] [] pos] [] mX) (wQ ta):=by
 ext pins s g H Q I h;refine Call_<|dM I B F i7<|zaJ ?_ x rfl;rw[x];refine zbH ?_;refine Call_ (dM I N S boot_range<|zaJ (dD (G pos pins s g H _ I h) λZ d ⟨vs,v,K,L,D⟩=>?_) (by rw[R,w])<|by rw[w];rfl);let#[lo,n,rfl,Y,W,l2,q]:=D;cases L with
 | cons r k=>
  cases k with
  | cons P k=>
   cases k;let#[t,rfl]:=r;let#[t',rfl]:=P;refine call_range_2 ?_;refine zbT ?_;generalize y:d.heap.push { cls:=Value.type "range",data:=Data.fields #[Value.int lo t,Value.int (lo+n) t',Value.int 1 d.toks,] }=h';let m:Inv X pins g v { d with heap:=h',toks:=d.toks+1 }:=K.kept λc o e=>y▸zap _ e;refine call_list_range (n:=n) (m.ok.hd C) (y▸IsRange.new ..) (small_one () () () ()) (by rw[rangeSize_one];split<;>lia) () λA z f c O U j=>?_;let E:Inv X pins g (upd v h'.e<|.lst<|((List.range n).map λi:Nat=>lo+(i:Int)).f) { d with heap:=A,toks:=z }:=(by refine Inv.jO (s:={ d with heap:=h',toks:=d.toks+1 }) (ch:=[]) m (λb u _ e=>O b u e) (λb M=>by simp at M) (zaf _) ?_;refine#[by rw[zaa,zaa,zby,zak];lia,f.toList,c,?_,zcH>>U];simpa only [zfB]using (wJ j));exact#[.ref h'.e,_,E,rfl,q _<|m.cw.fresh<|zaf _]
noncomputable def down(n:Nat):dm:=(List.range n).map λi:Nat=>(n:Int)-1-(i:Int)
noncomputable def pj(tl:TE):TE:=λd H Q=>tl d H λx c=>∃n:Nat,x=.int (n:Int)/\n<=1000/\∀p,c p=none->Q (.ref p) (upd c p<|.lst<|(down n).f)
theorem qJ(L:X.calm=true)(Z:X.mg "range"=none)(y:X.mg "reversed"=none)(P:X.mg "list"=none)(R:PE X l tl)(W:Gl X "range":=by rfl)(z:Gl X "reversed":=by rfl)(K:Gl X "list":=by rfl)(D:starEach [l] X.env=(false,eval l X.env)::starEach [] X.env:=by rfl)(f:starEach [.Call (.Name "range" p) [l] [] pos] X.env=(false,eval (.Call (.Name "range" p) [l] [] pos) X.env)::starEach [] X.env:=by rfl)(B:starEach [.Call (.Name "reversed" p3) [.Call (.Name "range" p) [l] [] pos] [] JR] X.env=(false,eval (.Call (.Name "reversed" p3) [.Call (.Name "range" p) [l] [] pos] [] JR) X.env)::starEach [] X.env:=by rfl) :
  PE X (.Call (.Name "list" p2) [.Call (.Name "reversed" p3) [.Call (.Name "range" p) [l] [] pos] [] JR] [] mX) (pj tl):=by
 ext pins s j H Q I h;refine Call_<|dM I K P i7<|zaJ ?_ B rfl;rw[B];refine zbH ?_;refine Call_<|dM I z y boot_reversed<|zaJ ?_ f rfl;rw[f];refine zbH ?_;refine Call_<|dM I W Z boot_range<|zaJ ?_ D rfl;rw[D];refine zbH<|dD (R pins s j H _ I h) λu1 d ⟨x,m,S,U,M⟩=>?_;refine zbT ?_;let#[n,rfl,O,q]:=M;let#[t,rfl]:=U;refine call_range_1 ?_;refine zbT ?_;generalize C:d.heap.push { cls:=Value.type "range",data:=Data.fields #[Value.int 0 d.toks,Value.int (n:Int) t,Value.int 1<|d.toks+1,] }=h';let A:Inv X pins j m { d with heap:=h',toks:=d.toks+1+1 }:=S.kept λc o e=>C▸zap _ e;refine ni (C▸IsRange.new ..) O ?_;refine zbT ?_;generalize E:h'.push { cls:=Value.type "range_iterator",data:=Data.fields #[rawInt<|(n:Int)-1,rawInt (n:Int),rawInt<|-1,] }=g;let r:Inv X pins j m { d with heap:=g,toks:=d.toks+1+1 }:=A.kept λc o e=>E▸zap _ e;refine Ai (r.ok.hd L) (E▸zaK _ rfl) (by rw[zak];lia) λG F k c Y hS v=>?_;let N:Inv X pins j (upd m g.e<|.lst<|(down n).f) { d with heap:=G,toks:=F }:=by
  refine Inv.jO (s:={ d with heap:=g,toks:=d.toks+1+1 }) (ch:=[h'.e]) r (λb u w e=>Y b u (~~~w) e) (λb w=>by erw[zai.mp w,A.qZ (zaf _)<|A.cw.fresh<|zaf _]) (zaf _) ?_;refine#[by unfold down;rw[zaa,zaa,zby,zak];lia,k.toList,c,?_,zcH>>hS];let:=wJ v;let e:(List.range n).map (λi:Nat=>(n:Int)-1+(i:Int) * -1)=down n:=by unfold down;exact zcr λi _=>()
  rwa[e]at this
 exact#[.ref g.e,_,N,rfl,q _<|r.cw.fresh<|zaf _]
noncomputable def O0(K:Frag):List V->Hp->VK->Prop:=λvs H Q=>∃(a:Addr) (ns:dm),vs=[.ref a]/\aI K H a ns.f/\ns≠[]/\∀m,m∈ns->(∀x∈ns,x<=m)->Q (.int m) H
theorem xW(o:X.calm=true):eF X (.builtin "max")<|O0 X.K:=by
 ext pins s E H xs G Q I r h;let#[a,ns,rfl,y,n,q]:=h;let#[u,rfl,z]:=vals1 r;cases z;let#[C,rv,w,L]:=I.list y;let f:=intsAre_of rv;let#[xs,e]:=f.allInts.items;let c:ns=xs.toList.map (·.1):=by rw[<-f.numsOf,<-nums_intItems,<-e]
 let d:=w.isList;rw[e]at d;let m:0<xs.size:=by let:=zce.mpr n;rwa[c,zaa,zbm]at this
 refine max_intList (I.ok.hd o) d m λv h' D i B=>?_;let#[t,rfl]:=intItems_at i;let#[F,A]:=argBest_gt (numAt xs)<|xs.size-1;refine#[.int _,H,I.kept B,#[t,rfl],q _ ?_ λx g=>?_];rw[c,numAt_eq];exact getD_mem (by rw[zaa,zbm];lia);rw[c]at g;let#[j,k,rfl]:=mem_getD g;rw[zaa,zbm]at k;erw[<-numAt_eq,A j ()]
theorem EE{K:Frag}(h:X.K=K)(c:X.calm=true):eF X (.builtin "max")<|O0 K:=h▸xW c
end
theorem DR(h:ta σ H λvs a=>∃(lo:Int) (n:Nat),vs=[.int lo,.int<|lo+n]/\n<=1000/\-1000<=lo/\lo<=1000/\∀p,a p=none->Q (.ref p) (upd a p<|.lst<|((List.range n).map λi:Nat=>lo+(i:Int)).f)):wQ ta σ H Q:=h
theorem tw(h:tl σ H λx a=>∃n:Nat,x=.int (n:Int)/\n<=1000/\∀p,a p=none->Q (.ref p) (upd a p<|.lst<|(down n).f)):pj tl σ H Q:=h
theorem ED{R:Hp->Prop}{j d:Addr}{o:Obj}{a:List<|List Key×V}{g:TG}{w:TT}{z:TE}(l:Nat->St->List V->Hp->Prop)(D:l 0 f [] H)(C:∀i f ys H,i<=a.c->l i f ys H->H d=some (.mZ o<|.dT a))(I:∀i k v b f ys H,a[i]?=some (k,v)->H b=some (.tup<|k.map kV)->i<a.c->l i f ys H->InS (l (i+1)) g w z j ys (.ref b) f H)(L:∀f ys H,l a.c f ys H->R H):CW (S0 d o a) g w z j f H R:=
 CW.of a.c l D (λi f ys H u p=>#[#[C i f ys H () p,u],λx M y=>by obtain⟨e,k,v,b,G,F,rfl⟩:=y;subst e;exact I i k v b f ys _ G F u p]) (λf ys H p=>#[C _ f ys H (zaf _) p,zaf _]) L
end L2
namespace Dt
noncomputable def sm:Nat->(Nat->Int)->Int
 | 0,_=>0
 | n+1,f=>sm n f+f n
theorem bP{f g:Nat->Int}:∀{n:Nat},(∀i,i<n->f i=g i)->sm n f=sm n g
 | 0,_=>rfl
 | n+1,h=>by show sm n f+f n=sm n g+g n;rw[bP λi a=>h i<|zbt a,h n<|zbv n]
theorem yC{f:Nat->Int}:∀{n:Nat},(∀i,i<n->f i=0)->sm n f=0
 | 0,_=>rfl
 | n+1,h=>by show sm n f+f n=0;rw[yC λi a=>h i<|zbt a,h n<|zbv n];rfl
theorem DB{f g:Nat->Int}(a b:Int):∀(n:Nat),sm n (λi=>a*f i+b*g i)=a*sm n f+b*sm n g
 | 0=>by simp[sm]
 | n+1=>by show sm n (λi=>a*f i+b*g i)+(a*f n+b*g n)=a*(sm n f+f n)+b*(sm n g+g n);rw[DB a b n];grind
theorem Jf{f:Nat->Int}(a:Int):∀(n:Nat),sm n (λi=>a*f i)=a*sm n f
 | 0=>by simp[sm]
 | n+1=>by show sm n (λi=>a*f i)+a*f n=a*(sm n f+f n);rw[Jf a n];grind
theorem DC{f g:Nat->Int}:∀(n:Nat),sm n (λi=>f i+g i)=sm n f+sm n g
 | 0=>by simp[sm]
 | n+1=>by show sm n (λi=>f i+g i)+(f n+g n)=(sm n f+f n)+(sm n g+g n);rw[DC n];lia
theorem Je{f g:Nat->Int}:∀(n:Nat),sm n (λi=>f i-g i)=sm n f-sm n g
 | 0=>by simp[sm]
 | n+1=>by show sm n (λi=>f i-g i)+(f n-g n)=(sm n f+f n)-(sm n g+g n);rw[Je n];lia
theorem nJ{f:Nat->Int}{k:Nat}:∀{n:Nat},k<n->(∀i,i<n->i≠k->f i=0)->sm n f=f k
 | n+1,hk,h=>by show sm n f+f n=f k;ext(e:k=n);subst e;rw[yC λi a=>h i (zbt a)<|zba a];lia;rw[nJ () λi a=>h i<|zbt a,h n (zbv n)<|λz=>e z.symm];lia
theorem Jd{f:Nat->Int}{k l:Nat}:∀{n:Nat},k<l->l<n->(∀i,i<n->i≠k->i≠l->f i=0)->sm n f=f k+f l
 | n+1,hk,hl,h=>by show sm n f+f n=f k+f l;ext(e:l=n);subst e;rw[nJ hk λi a z=>h i () z ()];rw[Jd hk () λi a=>h i<|zbt a,h n (zbv n) () ()];lia
noncomputable def sg:Nat->Int
 | 0=>1
 | n+1=>- sg n
noncomputable def sk(j l:Nat):Nat:=if l<j then l else l+1
abbrev Mx:=Nat->Nat->Int
noncomputable def mi(A:Mx)(j:Nat):Mx:=λi l=>A (i+1)<|sk j l
noncomputable def det:Nat->Mx->Int
 | 0,_=>1
 | n+1,A=>sm (n+1) λj=>sg j*A 0 j*det n (mi A j)
theorem cI(n:Nat)(A:Mx):det (n+1) A=sm (n+1) λj=>sg j*A 0 j*det n (mi A j):=rfl
theorem Jg(h:l<n):sk j l<n+1:=by unfold sk;split<;>lia
theorem OS(j l:Nat):sk j l≠j:=by unfold sk;split<;>lia
theorem fe:∀{n:Nat} {A B:Mx},(∀i j,i<n->j<n->A i j=B i j)->det n A=det n B
 | 0,_,_,_=>rfl
 | n+1,A,B,h=>by rw[cI,cI];refine bP λj b=>?_;rw[h 0 j () b,fe (A:=mi A j) (B:=mi B j) λi l c a=>h _ _ ()<|Jg a]
noncomputable def cl(A:Mx)(c:Nat)(v:Nat->Int):Mx:=λi j=>if j=c then v i else A i j
theorem cz(A:Mx)(c:Nat)(v:Nat->Int)(i:Nat):cl A c v i c=v i:=zam rfl
theorem dS(v:Nat->Int)(i:Nat)(h:j≠c):cl A c v i j=A i j:=zaj h
theorem fR(A:Mx)(c:Nat)(v:Nat->Int):mi (cl A c v) c=mi A c:=by funext i l;exact dS _ _<|OS c l
noncomputable def dn(j c:Nat):Nat:=if c<j then c else c-1
theorem yE(h:j≠c):sk j l=c↔l=dn j c:=by unfold sk dn;split<;>split<;>lia
theorem PB(h:j≠c)(b:c<n+1)(a:j<n+1):dn j c<n:=by unfold dn;split<;>lia
theorem qK(v:Nat->Int)(h:j≠c):mi (cl A c v) j=cl (mi A j) (dn j c) λi=>v<|i+1:=by funext i l;unfold mi cl;ext(z:sk j l=c);rw[zam z,zam<|(yE h).mp z];rw[zaj z,zaj<|λy=>z<|(yE h).mpr y]
theorem fc(a b:Int):∀{n:Nat} (A:Mx) {c:Nat} (v w:Nat->Int),c<n->det n (cl A c λi=>a*v i+b*w i)=a*det n (cl A c v)+b*det n (cl A c w)
 | n+1,A,c,v,w,hc=>by rw[cI,cI,cI,<-DB];refine bP λj d=>?_;ext(e:j=c);subst e;rw[fR,fR,fR,cz,cz,cz];grind;rw[qK _ e,qK _ e,qK _ e,dS _ _ e,dS _ _ e,dS _ _ e,fc a b (mi A j) (λi=>v<|i+1) (λi=>w<|i+1)<|PB e hc d];grind
theorem ir:∀{n:Nat} {A:Mx} {c:Nat},c+1<n->(∀i,i<n->A i c=A i (c+1))->det n A=0
 | n+1,A,c,hc,h=>by
  rw[cI,Jd (k:=c) (l:=c+1) () hc λj g m o=>?_];let e:det n (mi A c)=det n (mi A<|c+1):=fe λi l d f=>by
   unfold mi;ext(z:l=c);subst z;let a:sk l l=l+1:=by unfold sk;rw[zaj ()]
   let b:sk (l+1) l=l:=by unfold sk;rw[zam ()]
   rw[a,b];exact(h _ ()).symm;let:sk c l=sk (c+1) l:=by unfold sk;split<;>split<;>lia
   rw[this]
  rw[e,<-h 0 ()];show sg c*A 0 c*det n (mi A<|c+1)+(- sg c)*A 0 c*det n (mi A<|c+1)=0;grind;let e:det n (mi A j)=0:=by
   ext(z:j<c);refine ir (c:=c-1) () λi d=>?_;unfold mi;let a:sk j (c-1)=c:=by unfold sk;rw[zaj ()];lia
   let b:sk j (c-1+1)=c+1:=by unfold sk;rw[zaj ()];lia
   rw[a,b];exact h _ ();refine ir (c:=c) () λi d=>?_;unfold mi;let a:sk j c=c:=by unfold sk;rw[zam ()]
   let b:sk j (c+1)=c+1:=by unfold sk;rw[zam ()]
   erw[a,b,h _ ()]
  rw[e,zdW]
theorem fj(v w:Nat->Int)(h:c≠d):cl (cl A c v) d w=cl (cl A d w) c v:=by funext i j;unfold cl;ext(z:j=d);rw[zam z,zaj (),zam z];rw[zaj z,zaj z]
theorem i6(A:Mx)(c:Nat):cl A c (λi=>A i c)=A:=by funext i j;unfold cl;split;rename_i e;rw[e];rfl
theorem n9(b:c<n)(f:d<n)(a:c≠d)(h:∀(A:Mx),(∀i,i<n->A i c=A i d)->det n A=0)(A:Mx)(u w:Nat->Int) :
  det n (cl (cl A c u) d w)=- det n (cl (cl A c w) d u):=by
 let z:∀v:Nat->Int,det n (cl (cl A c v) d v)=0:=λv=>h _ λi _=>by rw[cz,dS _ _ a,cz]
 let e:det n (cl (cl A c λi=>1*u i+1*w i) d λi=>1*u i+1*w i)=0:=z _;rw[fc 1 1 _ _ _ f,fj _ _ a,fj _ _ a,fc 1 1 _ _ _ b,fc 1 1 _ _ _ b,<-fj _ _ a,<-fj _ _ a,<-fj _ _ a,<-fj _ _ a,z,z]at e;lia
theorem kR:∀(k:Nat) {n:Nat} {A:Mx} {c:Nat},c+1+k<n->(∀i,i<n->A i c=A i (c+1+k))->det n A=0
 | 0,n,A,c,hc,h=>ir hc h
 | k+1,n,A,c,hc,h=>by let s:=n9 () hc () (λB b=>ir (c:=c+1+k) () b) A (λi=>A i<|c+1+k)<|λi=>A i<|c+1+(k+1);rw[i6]at s;rw[i6 A _]at s;rw[s,kR k (c:=c) () λi a=>?_];rfl;erw[dS _ _ (),dS _ _ (),dS _ _ (),cz,h i a]
theorem gj(e:c<n)(b:d<n)(f:c≠d)(h:∀i,i<n->A i c=A i d):det n A=0:=by ext(z:c<d);obtain⟨k,rfl⟩:∃k,d=c+1+k:=#[d-(c+1),()];exact kR k b h;obtain⟨k,rfl⟩:∃k,c=d+1+k:=#[c-(d+1),()];exact kR k e λi a=>(h i a).symm
theorem CL(b:c<n)(a:d<n)(e:c≠d)(A:Mx)(u w:Nat->Int):det n (cl (cl A c u) d w)=- det n (cl (cl A c w) d u):=
 n9 b a e (λ_ h=>gj b a e h) A u w
theorem Gy(a:c<n):det n (cl A c λ_=>0)=0:= ~~~(fc 0 0 A (λ_=>0) (λ_=>0) a)
theorem gI(a:Int)(v:Nat->Int)(b:c<n):det n (cl A c λi=>a*v i)=a*det n (cl A c v):= ~~~(fc a 0 A v v b)
theorem sj{n c:Nat}(A:Mx)(V:Nat->Nat->Int)(a:c<n):∀m:Nat,det n (cl A c λi=>sm m λl=>V l i)=sm m λl=>det n (cl A c<|V l)
 | 0=>Gy a
 | m+1=>by let e:=fc 1 1 A (λi=>sm m λl=>V l i) (V m) a;rw[sj A V a m]at e;simp[Int.one_mul]at e;exact e
noncomputable def un(k i:Nat):Int:=if i=k then 1 else 0
theorem nT:∀(k:Nat) (A:Mx),det (k+1) (cl A k<|un k)=det k A
 | 0,A=>by rw[cI];show 0+sg 0*cl A 0 (un 0) 0 0*1=1;rw[cz];rfl
 | k+1,A=>by
  rw[cI,cI];show sm (k+1) _+_=_;let d:cl A (k+1) (un<|k+1) 0 (k+1)=0:=by rw[cz];rfl
  dsimp only;rw[d,zdW,Int.zero_mul,Int.add_zero];refine bP λj e=>?_;let a:j≠k+1:=();rw[dS _ _ a,qK _ a,<-nT k (mi A j)];let b:dn j (k+1)=k:=by unfold dn;rw[zaj ()];lia
  let c:(λi=>un (k+1)<|i+1)=un k:=by funext i;unfold un;ext(z:i=k);rw[zam z,zam ()];rw[zaj z,zaj ()]
  rw[b,c]
theorem SW{d a b:Int}(h:d≠0)(e:d*a=d*b):a=b:=Int.eq_of_mul_eq_mul_left h e
structure Ba(k:Nat)(A W:Mx)(d:Int):Prop where
 ne:d≠0
 dt:d=det k A
 up:∀i j,i<k->d*A i j=sm k λl=>A i l*W l j
 lo:∀i j,k<=i->W i j=d*A i j-sm k λl=>A i l*W l j
theorem Ba.start(A:Mx):Ba 0 A A 1:=#[by decide,rfl,λi j h=>absurd h<|Nat.not_lt_zero _,λi j _=>by show _=1*A i j-0;lia]
noncomputable def rl(A:Mx)(k:Nat)(v:Nat->Int):Mx:=λi j=>if i=k then v j else A i j
theorem ja(A:Mx)(k:Nat)(v:Nat->Int)(j:Nat):rl A k v k j=v j:=zam rfl
theorem lP(v:Nat->Int)(j:Nat)(h:i≠k):rl A k v i j=A i j:=zaj h
theorem Ba.led(b:Ba k A W d)(h:k<r):Ba k (rl A k λj=>A k j+A r j) (rl W k λj=>W k j+W r j) d:=by
 let c:∀(v:Nat->Int) (j:Nat),sm k (λl=>v l*rl W k (λj=>W k j+W r j) l j)=sm k λl=>v l*W l j:=λv j=>bP λl f=>by rw[lP _ _ ()]
 refine#[b.ne,b.dt.trans<|fe λi j a g=>(lP _ _ ()).symm,λi j a=>?_,λi j a=>?_];let e:∀l,rl A k (λj=>A k j+A r j) i l=A i l:=λl=>lP _ _ ();erw[e,c,b.up i j a,bP λl _=>by rw[e]]
 rw[c];ext(z:i=k);subst z;rw[ja,ja,b.lo i j<|zaf _,b.lo r j ()];let e:sm i (λl=>rl A i (λj=>A i j+A r j) i l*W l j)=sm i (λl=>A i l*W l j)+sm i (λl=>A r l*W l j):=by rw[<-DC];exact bP λl _=>ja>>Int.add_mul _ _ _
 rw[e];grind;rw[lP _ _ z,lP _ _ z,b.lo i j a];let e:sm k (λl=>rl A k (λj=>A k j+A r j) i l*W l j)=sm k (λl=>A i l*W l j):=bP λl _=>by rw[lP _ _ z]
 rw[e]
theorem Ba.vec(b:Ba k A W d)(a:i<k+1)(j:Nat):d*A i j=sm k (λl=>W l j*A i l)+W k j*un k i:=by rw[bP λl _=>zcv _ _];unfold un;ext(z:i=k);subst z;rw[zam rfl,b.lo i j<|zaf _];lia;rw[zaj z,b.up i j ()];lia
theorem Ba.col(b:Ba k A W d)(B:Mx)(a:c<k+1)(j:Nat) :
  d*det (k+1) (cl B c λi=>A i j)=sm k (λl=>W l j*det (k+1) (cl B c λi=>A i l))+W k j*det (k+1) (cl B c<|un k):=by
 rw[<-gI d _ a];let e:det (k+1) (cl B c λi=>d*A i j)=det (k+1) (cl B c λi=>1*sm k (λl=>W l j*A i l)+W k j*un k i):=fe λi l f _=>by unfold cl;split;dsimp only;rw[b.vec f j];lia;rfl
 rw[e,fc 1 (W k j) _ _ _ a,Int.one_mul,sj B (λl i=>W l j*A i l) a];congr 1;exact bP λl _=>gI _ _ a
theorem Ba.last(b:Ba k A W d)(j:Nat):det (k+1) (cl A k λi=>A i j)=W k j:=by refine SW b.ne ?_;rw[b.col A (zbv k) j,nT,<-b.dt,yC λl a=>?_];rw[zbB];exact zcv _ _;erw[gj (c:=l) (d:=k) () () () λi _=>by rw[cz,dS _ _ ()],zdW _]
theorem Ba.WW(b:Ba k A W d):det (k+1) A=W k k:=by let:=b.last k;rwa[i6]at this
theorem Ba.unit(b:Ba k A W d)(g:i<k):det (k+1) (cl A i<|un k)=- W i k:=by
 refine SW b.ne ?_;let a:=zbv k;let e:=b.col (cl A i<|un k) a k;let f:cl (cl A i<|un k) k (λj=>A j k)=cl A i (un k):=by
  let:=i6 (cl A i<|un k) k;let h:(λj=>cl A i (un k) j k)=λj=>A j k:=by funext j;exact dS _ _ ()
  rwa[h]at this
 let m:det (k+1) (cl (cl A i<|un k) k<|un k)=0:=gj (c:=i) (d:=k) () a () λj _=>by rw[cz,dS _ _ (),cz]
 let n:det (k+1) (cl (cl A i<|un k) k λj=>A j i)=- d:=by rw[CL () a (),i6,nT,<-b.dt]
 rw[f,m,nJ g λl o z=>?_,n]at e;rw[e];grind;erw[gj (c:=l) () a () λj _=>by rw[cz,dS _ _ (),dS _ _ z],zdW _]
theorem Ba.aac(b:Ba k A W d)(a:i<k)(j:Nat):d*det (k+1) (cl A i λl=>A l j)=W k k*W i j-W i k*W k j:=by rw[b.col A () j,b.unit a,nJ a λl c z=>?_];rw[i6,b.WW];grind;erw[gj () () z λj _=>by rw[cz,dS _ _ z],zdW _]
theorem Ba.step(b:Ba k A W d)(p:W k k≠0):∃f:Mx,(∀i j,i≠k->d*f i j=W k k*W i j-W i k*W k j)/\(∀j,f k j=W k j)/\Ba (k+1) A f (W k k):=by
 refine let X:Mx:=λi j=>if i<k then det (k+1) (cl A i λl=>A l j)else W k j;?_;let h:∀i j,i<k->d*X i j=W k k*W i j-W i k*W k j:=λi j c=>by show d*(if i<k then _ else _)=_;erw[zam c,b.aac c j]
 let o:∀j,X k j=W k j:=λj=>zaj<|zbq k;let S:∀i j,d*sm (k+1) (λl=>A i l*X l j)=W k k*sm k (λl=>A i l*W l j)+(- W k j)*sm k (λl=>A i l*W l k)+d*A i k*W k j:=λi j=>by rw[<-Jf];show sm k (λl=>d*(A i l*X l j))+d*(A i k*X k j)=_;rw[o,<-DB,zeL d];congr 1;refine bP λl a=>?_;let:=h l j a;grind
 refine#[λi j=>if i<k+1 then X i j else W k k*A i j-sm (k+1) (λl=>A i l*X l j),λi j q=>?_,λj=>?_,p,b.WW.symm,λi j c=>?_,λi j c=>?_];dsimp only;ext(z:i<k+1);rw[zam z];exact h i j ();rw[zaj z,Int.mul_sub,S];let g:=b.lo i j ();let n:=b.lo i k ();grind;dsimp only;rw[zam<|zbv k];exact o j;let e:sm (k+1) (λl=>A i l*(if l<k+1 then X l j else W k k*A l j-sm (k+1) (λm=>A l m*X m j)))=sm (k+1) (λl=>A i l*X l j):=bP λl a=>by rw[zam a]
 rw[e];refine SW b.ne ?_;rw[S];ext(z:i=k);subst z;let g:=b.lo i j<|zaf _;let n:=b.lo i i<|zaf _;grind;let g:=b.up i j ();let n:=b.up i k ();grind;let e:sm (k+1) (λl=>A i l*(if l<k+1 then X l j else W k k*A l j-sm (k+1) (λm=>A l m*X m j)))=sm (k+1) (λl=>A i l*X l j):=bP λl a=>by rw[zam a]
 rw[e,zaj ()]
theorem Ob{n:Nat}{A:Mx}{v:Nat->Int}(h:∀i,i<n->sm n (λl=>v l*A i l)=0){c:Nat}(a:c<n):v c*det n A=0:=by
 let e:det n (cl A c λi=>sm n λl=>v l*A i l)=0:=by rw[<-Gy a];refine fe λi j b _=>?_;unfold cl;split;exact h i b;rfl
 rw[sj A (λl i=>v l*A i l) a,nJ a λl d z=>?_,gI _ _ a,i6]at e;exact e;erw[gI _ _ a,gj () a z λj _=>by rw[cz,dS _ _ z],zdW _]
theorem Oc{n:Nat}{A:Mx}(a:det n A≠0){v:Nat->Int}(h:∀i,i<n->sm n (λl=>v l*A i l)=0){c:Nat}(b:c<n):v c=0:=
 (Int.mul_eq_zero.mp<|Ob h b).resolve_right a
theorem Ba.stuck(b:Ba k A W d)(j:k<m)(h:∀i,k<=i->i<n->W i k=0):∀i,i<n->sm m (λl=>(if l<k then W l k else if l=k then-d else 0)*A i l)=0:=by
 ext i f;let a:∀m,k<m->sm m (λl=>(if l<k then W l k else if l=k then-d else 0)*A i l)=sm k (λl=>A i l*W l k)-d*A i k:=λm=>by
  induction m with
  | zero=>intro z;lia
  | succ m o=>
   ext z;show sm m _+_=_;dsimp only;ext(e:m=k);subst e;rw[zaj (),zam rfl,bP (g:=λl=>A i l*W l m) λl c=>zam c>>zcv _ _];grind;rw[o (),zaj (),zaj e];lia
 rw[a m j];ext(z:i<k);rw[b.up i k z];lia;let:=b.lo i k ();rw[h i () f]at this;lia
theorem Ba.done(b:Ba n A W d)(f:c<n)(g:j<n):W c j=if c=j then d else 0:=by
 let:=Oc (λz=>b.ne<|b.dt.trans z) (v:=λl=>W l j-if l=j then d else 0) (λi a=>?_) f;lia;let e:sm n (λl=>(W l j-if l=j then d else 0)*A i l)=sm n (λl=>A i l*W l j)-sm n (λl=>(if l=j then d else 0)*A i l):=by erw[<-Je,bP λl _=>by rw[Int.sub_mul,zcv<|W l j]]
 rw[e,<-b.up i j a,nJ g λl _ z=>zaj z>>Int.zero_mul _,zam rfl];lia
theorem DD{B:Nat}{f:Nat->Int}:∀{n:Nat},(∀i,i<n->(f i).natAbs<=B)->(sm n f).natAbs<=n*B
 | 0,_=>by simp[sm]
 | n+1,h=>by let c:=DD λi a=>h i<|zbt a;let d:=h n<|zbv n;let b:=Int.natAbs_add_le (sm n f)<|f n;show(sm n f+f n).natAbs<=_;rw[Nat.succ_mul];lia
theorem Ji:∀j,(sg j).natAbs=1
 | 0=>rfl
 | j+1=>by show(- sg j).natAbs=1;erw[zds,Ji j]
theorem mQ{M:Nat}:∀{n:Nat} {A:Mx},(∀i j,i<n->j<n->(A i j).natAbs<=M)->(det n A).natAbs<=(n*M) ^ n
 | 0,_,_=>by simp[det]
 | n+1,A,h=>by
  rw[cI];let:=DD (f:=λj=>sg j*A 0 j*det n (mi A j)) λj b=>by erw[zbA,zbA,Ji,zeU,zbE (h 0 j () b)<|mQ λi l c a=>h _ _ ()<|Jg a]
  refine zaX this ?_;erw[<-Nat.mul_assoc,Nat.pow_succ,zdb,zbG _<|zdr (zbG _<|zdN n) n]
theorem Ba.cr(b:Ba k A W d)(f:i<k)(j:Nat):W i j=det k (cl A i λl=>A l j):=by
 refine SW b.ne ?_;rw[<-gI d _ f];let e:det k (cl A i λl=>d*A l j)=det k (cl A i λl=>sm k λm=>W m j*A l m):=fe λa c h _=>by unfold cl;split;dsimp only;rw[b.up a j h];exact bP λl _=>zcv _ _;rfl
 rw[e,sj A (λm l=>W m j*A l m) f,nJ f λl g z=>?_,gI _ _ f,i6,<-b.dt];exact zcv _ _;erw[gI _ _ f,gj g f z λj _=>by rw[cz,dS _ _ z],zdW _]
theorem Ba.bound(b:Ba k A W d)(m:1<=M)(h:∀i j,(A i j).natAbs<=M)(i j:Nat):(W i j).natAbs<=((k+1)*M) ^ (k+1):=by
 let f:∀l j,l<k->(W l j).natAbs<=(k*M) ^ k:=λl j e=>by rw[b.cr e j];refine mQ λa c _ _=>?_;unfold cl;split;exact h _ _;exact h _ _
 let g:(k*M) ^ k<=((k+1)*M) ^ k:=zdr (zbG _<|zdN k) k;ext(z:i<k);refine zaX (f i j z)<|zaX g ?_;rw[Nat.pow_succ];exact zdt _<|zaX m<|zbV _<|Nat.succ_pos k;rw[b.lo i j ()];let n:(d*A i j).natAbs<=(k*M) ^ k*M:=by rw[zbA];refine zbE ?_<|h i j;erw[b.dt,mQ λa c _ _=>h a c]
 let o:=DD λl e=>by erw[zbA,zbE (h i l)<|f l j e]
 let p:(d*A i j-sm k λl=>A i l*W l j).natAbs<=(d*A i j).natAbs+(sm k λl=>A i l*W l j).natAbs:=();let q:(k*M) ^ k*M+k*(M*(k*M) ^ k)=(k+1)*M*(k*M) ^ k:=by rw[zdb ((k*M) ^ k) M,zet,zet,zeU,Nat.mul_assoc k M];lia
 rw[Nat.pow_succ,zdb<|((k+1)*M) ^ k];refine zaX p<|zaX (Nat.add_le_add n o) ?_;erw[q,zfh _ g]
theorem Ba.RS(b:Ba k A W d)(h:∀i j,(A i j).natAbs<=M):d.natAbs<=(k*M) ^ k:=by erw[b.dt,mQ λa c _ _=>h a c]
theorem great(u:Nat->Int):∀{n:Nat},0<n->∃m,m<n/\∀l,l<n->(u l).natAbs<=(u m).natAbs
 | 1,_=>#[0,(),λl a=>by erw[show l=0 by lia,zaf _]]
 | n+2,_=>by let#[m,b,h]:=great u (n:=n+1) ();ext(z:(u m).natAbs<=(u<|n+1).natAbs);exact#[n+1,(),λl a=>by ext(y:l=n+1);rw[y];exact zaf _;exact zaX (h l ()) z];exact#[m,(),λl a=>by ext(y:l=n+1);rw[y];lia;exact h l ()]
theorem DA{f:Nat->Int}{k:Nat}:∀{n:Nat},k<n->sm n f=f k+sm n λi=>if i=k then 0 else f i
 | n+1,hk=>by show sm n f+f n=f k+(sm n (λi=>if i=k then 0 else f i)+if n=k then 0 else f n);ext(z:n=k);subst z;rw[zam rfl,bP λi a=>zaj ()];lia;rw[zaj z,DA (k:=k) (n:=n) ()];lia
noncomputable def mx(L:dy):Mx:=λi j=>(L.getD i []).getD j 0
structure nV(L:dy)(n m:Nat):Prop where
 len:L.c=n
 row:∀l∈L,l.c=m
theorem lW(h:L[i]?=some l)(j:Nat):mx L i j=l.getD j 0:=by
 unfold mx;let e:L.getD i []=l:=by rw[zah,h];rfl
 rw[e]
theorem Nq(h:L.c<=i)(j:Nat):mx L i j=0:=by
 unfold mx;let e:L.getD i []=[]:=by rw[zah,zbR h];rfl
 rw[e];rfl
theorem getD_none{l:dm}{j:Nat}(h:l.c<=j):l.getD j 0=0:=by rw[zah,zbR h];rfl
theorem nV.at(r:nV L n m)(a:i<n):∃l,L[i]?=some l/\l.c=m:=by
 let h:i<L.c:=r.len>>a
 exact#[L[i],by simp[h],r.row _<|zbo h]
theorem nV.out(r:nV L n m)(h:n<=i\/m<=j):mx L i j=0:=by ext(z:i<n);let#[l,a,e]:=r.at z;rw[lW a];exact getD_none ();exact Nq (by rw[r.len];lia) j
theorem ox(h:L[i]?=some l)(a:l[j]?=some x):mx L i j=x:=by rw[lW h,zah,a];rfl
noncomputable def SY(n m:Nat)(A:Mx)(u:Nat->Int):Prop:=∀i,i<n->sm m (λl=>u l*A i l)=0
theorem NA(g:k<r)(d:r<n)(u:Nat->Int):SY n m (rl A k λj=>A k j+A r j) u↔SY n m A u:=by
 let b:∀i,i≠k->sm m (λl=>u l*rl A k (λj=>A k j+A r j) i l)=sm m (λl=>u l*A i l):=λi z=>bP λl _=>by rw[lP _ _ z]
 let c:sm m (λl=>u l*rl A k (λj=>A k j+A r j) k l)=sm m (λl=>u l*A k l)+sm m (λl=>u l*A r l):=by rw[<-DC];exact bP λl _=>ja>>Int.mul_add _ _ _
 constructor;ext h i a;ext(z:i=k);subst z;let e:=h i a;let f:=h r d;rw[c]at e;rw[b r ()]at f;lia;rw[<-b i z];exact h i a;ext h i a;ext(z:i=k);subst z;rw[c,h i a,h r d];rfl;erw[b i z,h i a]
structure Cd(n m M k t:Nat)(A0 W:Mx)(d:Int)(A:Mx):Prop where
 ba:Ba k A W d
 b2:∀i j,(A i j).natAbs<=2*M
 b1:∀i j,t<=i->(A i j).natAbs<=M
 Md:∀u,SY n m A u↔SY n m A0 u
 dt:∀f:(Mx->Int),(∀(B:Mx) (c r:Nat),c<r->r<n->f (rl B c λj=>B c j+B r j)=f B)->f A=f A0
theorem Cd.start(h:∀i j,(A i j).natAbs<=M):Cd n m M 0 0 A A 1 A:=#[Ba.start A,λi j=>by let:=h i j;lia,λi j _=>h i j,λ_=>Iff.rfl,λ_ _=>rfl]
theorem Cd.weak(c:Cd n m M k k A0 W d A):Cd n m M k (k+1) A0 W d A:=#[c.ba,c.b2,λi j a=>c.b1 i j (),c.Md,c.dt]
theorem Cd.led(c:Cd n m M k k A0 W d A)(a:k<r)(e:r<n):Cd n m M k (k+1) A0 (rl W k λj=>W k j+W r j) d (rl A k λj=>A k j+A r j) where
 ba:=c.ba.led a
 b2:=λi j=>by ext(z:i=k);subst z;rw[ja];let h:=c.b1 i j<|zaf _;let l:=c.b1 r j ();lia;erw[lP _ _ z,c.b2 i j]
 b1:=λi j g=>lP _ _ ()>>c.b1 i j ()
 Md:=λu=>(NA a e u).trans<|c.Md u
 dt:=λf b=>(b A k r a e).trans<|c.dt f b
theorem Cd.same(c:Cd n m M k t A0 W d A)(h:W=W'):Cd n m M k t A0 W' d A:=h▸c
structure Clr(L L':dy)(n m k:Nat)(d:Int):Prop where
 Ju:nV L' n m
 own:∀j,j<m->mx L' k j=mx L k j
 row:∀i j,i<n->i≠k->j<m->mx L' i j=(mx L k k*mx L i j-mx L i k*mx L k j).fdiv d
theorem Cd.next(c:Cd n m M k (k+1) A0 (mx L) d A)(r:nV L n m)(s:k<n)(o:mx L k k≠0)(h:Clr L L' n m k d):Cd n m M (k+1) (k+1) A0 (mx L') (mx L k k) A:=by
 let#[p,f,g,b]:=c.ba.step o;let e:p=mx L':=by funext i j;ext(l:j<m);ext(a:i=k);subst a;rw[g,h.own j l];ext(q:i<n);rw[h.row i j q a l,<-f i j a,zcC _ c.ba.ne];let:=f i j a;rw[r.out (j:=j)<|.inl (),r.out (i:=i) (j:=k)<|.inl ()]at this;rw[h.Ju.out<|.inl ()];refine SW c.ba.ne ?_;rw[this];lia;rw[h.Ju.out<|.inr ()];ext(a:i=k);subst a;rw[g];exact r.out<|.inr ();let:=f i j a;rw[r.out (j:=j)<|.inr (),r.out (j:=j)<|.inr ()]at this;refine SW c.ba.ne ?_;rw[this];lia
 erw[<-e,#[b,c.b2,c.b1,c.Md,c.dt]]
theorem Cd.bound(c:Cd n m M k t A0 W d A)(a:1<=M)(i j:Nat):(W i j).natAbs<=((k+1)*(2*M)) ^ (k+1):=c.ba.bound () c.b2 i j
theorem Cd.EJ(c:Cd n m M k t A0 W d A)(a:1<=M)(b:k<=n)(i j:Nat):(W i j).natAbs<=((n+1)*(2*M)) ^ (n+1):=by refine zaX (c.bound a i j) ?_;refine zaX (zdr (zbG _<|Nat.succ_le_succ b) _) ?_;exact zdk (Nat.mul_pos () ()) ()
theorem Cd.V6(c:Cd n m M k t A0 W d A)(b:1<=M)(a:k<=n):d.natAbs<=((n+1)*(2*M)) ^ (n+1):=by refine zaX (c.ba.RS c.b2) ?_;refine zaX (zdr (zbG _<|zfD a) _) ?_;exact zdk (Nat.mul_pos () ()) ()
noncomputable def Inj(n m:Nat)(A:Mx):Prop:=∀u:Nat->Int,(∀l,n<=l->u l=0)->SY n m A u->∀l,l<n->u l=0
theorem Cd.lead(c:Cd n m M k t A0 W d A)(e:k<n)(g:n<=m)(h:Inj n m A0):∃r,k<=r/\r<n/\W r k≠0:=by ext(z:∃r,k<=r/\r<n/\W r k≠0);exact z;exfalso;let:=h _ (λl f=>by rw[zaj (),zaj ()]) ((c.Md _).mp<|c.ba.stuck (m:=m) () λi a b=>Decidable.byContradiction λw=>z #[i,a,b,w]) k e;rw[zaj (),zam rfl]at this;exact c.ba.ne ()
theorem D5(a:k<L.c):mx (L.set k v)=rl (mx L) k λj=>v.getD j 0:=by
 funext i j;unfold rl;ext(z:i=k);subst z;rw[zam rfl,lW<|zdI a];rw[zaj z];unfold mx;let e:(L.set k v).getD i []=L.getD i []:=by rw[zah,zah,zdi<|λw=>z w.symm]
 rw[e]
theorem Mv{a b:dm}(h:a.c=b.c)(j:Nat):(List.zipWith (·+·) a b).getD j 0=a.getD j 0+b.getD j 0:=by
 rw[zah,zah,zah,getElem?_zipWith];ext(z:j<a.c);let:j<b.c:=();simp[z,this];rw[zbR (),zbR ()];rfl
noncomputable def Led(L c:dy)(n k:Nat):Prop:=(c=L/\mx L k k≠0)\/(mx L k k=0/\∃(r:Nat) (a b:dm),k<r/\r<n/\L[k]?=some a/\L[r]?=some b/\mx L r k≠0/\c=L.set k (List.zipWith (·+·) a b))
theorem Cd.YT(c:Cd n m M k k A0 (mx L) d A)(r:nV L n m)(s:k<n)(h:Led L L' n k):nV L' n m/\mx L' k k≠0/\∃u,Cd n m M k (k+1) A0 (mx L') d u:=by
 ext(⟨rfl,f⟩|⟨f,q,a,b,p,t,i,g,v,rfl⟩:h);exact#[r,f,A,c.weak];let w:=r.row a<|zag i;let lb:=r.row b<|zag g;let e:mx (L.set k<|List.zipWith (·+·) a b)=rl (mx L) k λj=>mx L k j+mx L q j:=by rw[D5<|r.len>>s];congr 1;funext j;rw[Mv (),lW i,lW g]
 refine#[#[zcq>>r.len,λl o=>?_],?_,_,(c.led p t).same e.symm];ext(z|rfl:zdR o);exact r.row l z;rw[zfx];lia;rw[e,ja,f];lia
end Dt
namespace Gm
open PySem L2
theorem iF{k:Nat}(h:k<=xs.c):oP xs (some (k:Int)) none=xs.drop k:=by unfold oP HT.yP;dsimp only;rw[zaj (),show min ((k:Int).toNat) xs.c=k by lia,zca<|by rw[zbz];lia]
theorem qp{k:Nat}(h:k<=xs.c):oP xs none (some (k:Int))=xs.take k:=by unfold oP HT.yP;dsimp only;rw[zaj (),show min ((k:Int).toNat) xs.c=k by lia,drop_zero,zfm]
theorem aQ.dropped(g:aQ H p as L)(k:Nat)(d:H q=none):aQ (upd H q<|.lst<|(as.drop k).h) q (as.drop k)<|L.drop k:=
 #[ae,by rw[zbz,zbz,g.len],λi a l b c=>by rw[zdG]at b c;let:=g.row _ a l b c;erw[aG (λz=>by rw[z,d]at this;cases this),this]]
theorem aQ.taken(g:aQ H p as L)(k:Nat)(d:H q=none):aQ (upd H q<|.lst<|(as.take k).h) q (as.take k)<|L.take k:=
 #[ae,by rw[zaL,zaL,g.len],λi a l b c=>by rw[getElem?_take]at b c;split at b;rename_i z;rw[zam z]at c;let:=g.row _ a l b c;rw[aG<|λz=>by rw[z,d]at this;cases this];exact this;cases b]
theorem aQ.one(h:H a=some (.lst l.f))(f:H q=none):aQ (upd H q<|.lst [.ref a]) q [a] [l]:=
 #[ae,rfl,λi b k c e=>by
  let d:i=0:=by let:=(zab.mp c).1;rw[zbd]at this;lia
  subst d;cases c;cases e;erw[aG (λz=>by rw[z,f]at h;cases h),h]]
theorem yX(c:σ[i]?=some (a.i))(e:σ[k]?=some (n.l))(f:aI K H a xs)(b:n+1<=xs.c)(q:∀p,H p=none->Q (.ref p) (upd H p<|.lst<|xs.drop<|n+1)) :
  LX (yZ K) (fP i) (qD<|Ip (Iq λi j=>V.int<|i+j) (fP k)<|tC<|.int 1) i9 σ H Q:=
 #[_,c,#[_,e,#[_,_,rfl,rfl,#[_,rfl,#[a,_,rfl,f,λp d=>by erw[show(n:Int)+1=((n+1:Nat):Int)from rfl,iF b,q p d]]]]]]
theorem yW(c:σ[i]?=some (a.i))(e:σ[k]?=some (n.l))(f:aI K H a xs)(b:n<=xs.c)(q:∀p,H p=none->Q (.ref p) (upd H p<|.lst<|xs.take n)) :
  LX (yZ K) (fP i) i9 (qD<|fP k) σ H Q:=#[_,c,#[_,e,#[_,rfl,#[a,_,rfl,f,λp d=>qp b>>q p d]]]]
theorem int_at{l:dm}{i:Nat}{x:V}(h:l.f[i]?=some x):∃y,l[i]?=some y/\x=V.int y:=by
 rw[zao]at h;cases e:l[i]? with
 | none=>rw[e]at h;cases h
 | some z=>rw[e]at h;exact#[z,rfl,(zas h).symm]
theorem jC{l:cx}{i:Nat}{x:V}(h:l.h[i]?=some x):∃y,l[i]?=some y/\x=V.ref y:=by
 rw[zao]at h;cases e:l[i]? with
 | none=>rw[e]at h;cases h
 | some z=>rw[e]at h;exact#[z,rfl,(zas h).symm]
theorem AM{f:Int->Int->Int}{i:Nat}{x y:Int}(d:a[i]?=some x)(c:b[i]?=some y):(List.zipWith f a b).take (i+1)=(List.zipWith f a b).take i++[f x y]:=by rw[zer,getElem?_zipWith,d,c];rfl
theorem xh{L:dy}{c:Nat}{v:dm}(h:c<L.c):L.take c++[v]++L.drop (c+1)=L.set c v:=by rw[set_eq_take_append_cons_drop,zam h];simp
structure Fq(z:Nat)(fs:List<|Int×Int):Prop where
 pos:∀f∈fs,0<f.2
 top:∀f∈fs,Sz z f.1
 bot:∀f∈fs,Sz z f.2
structure Wh(fs:List<|Int×Int)(b:Int)(l:dm):Prop where
 pos:0<b
 len:l.c=fs.c
 eq:∀(i:Nat) (f:Int×Int) (x:Int),fs[i]?=some f->l[i]?=some x->x*f.2=f.1*b
theorem uu(i:0<b)(f:0<u):0<b / ((Int.gcd b u:Nat):Int)*u/\b ∣ b / ((Int.gcd b u:Nat):Int)*u/\u ∣ b / ((Int.gcd b u:Nat):Int)*u/\(b / ((Int.gcd b u:Nat):Int)*u).natAbs<=b.natAbs*u.natAbs:=by
 let h:=Fr.oK b (show u≠0 by lia);let#[x,a]:=Fr.xJ b u;let#[y,d]:=Fr.xI b u;let j:0<((Int.gcd b u:Nat):Int):=();generalize ((Int.gcd b u:Nat):Int)=g at *;let e:b / g=x:=a>>zbY _ ()
 let c:0<x:=by ext(z:0<x);exact z;let:=zep (show 0<=g by lia) (show x<=0 by lia);lia
 rw[e];refine#[zbN c f,#[y,?_],#[x,zcv _ _],?_];rw[d];let:g*x*y=x*(g*y):=by grind
 rw[a,this];rw[zbA];refine zbG _ ?_;let:b.natAbs=g.natAbs*x.natAbs:=by rw[<-zbA,<-a]
 erw[this,zbV _ ()]
theorem Bv{R:Hp->Prop}{d:Addr}{n:Nat}{G:TE}{rest:List<|Option V}{H:Hp}(f:Nat->dm)(P:∀(i:Nat) (j:Hp) (M:VK),i<n->af H j->(∀c t,af j t->j c=none->t c=some (.lst<|(f i).f)->M (.ref c) t)->G (i.l::rest) j M)(K:H d=none)(hn:n<=1000)(q:∀cs j,af H j->aQ j d cs ((List.range n).map f)->(d::cs).Nodup->(∀b∈d::cs,H b=none)->R j):CW (Ii 0 n) (ji 0) qC G d (none::rest) (upd H d<|.lst []) R:=by
 refine cX (λi e ys p=>∃(h:cx) (v:Option V),e=v::rest/\ys=h.h/\af H p/\h.c=i/\aQ p d h ((List.range i).map f)/\(d::h).Nodup/\∀b∈d::h,H b=none)
  #[[],none,rfl,rfl,af.upd K,rfl,#[ae,rfl,λi a l z=>by simp at z],by simp,~~~K] ?_ ?_
 ext i e ys p L ⟨h,v,rfl,rfl,u,rfl,I,A,r⟩;refine inS λ_ nNN=>?_;refine eB ?_;refine lT ?_;refine ND ?_;rw[zbB];refine P h.c p _ L u λc Hy D C U=>?_;let B:=I.gu C;let O:=I.same D;let E:c≠d:=λz=>B<|z▸zan;refine#[O.top,zaa>>aq (),nNN _ _ _ #[h++[c],_,rfl,by simp,af.fresh (u.trans D)<|r _ zan,by simp,?_,?_,λy X=>?_]];rw[zcn,zat];exact O.snoc (zau.mp A).1 E U;let#[n1,n2]:=zau.mp A;refine zau.mpr #[λz=>?_,iH.mpr #[λz=>B<|zae _ z,n2]];ext(z|z:zal.mp z);exact n1 z;exact E (zai.mp z).symm;ext(z|z:zaw.mp X);rw[z];exact r _ zan;ext(z|z:zal.mp z);exact r y<|zae _ z;rw[zai.mp z];exact u.free C;ext e ys s ⟨cs,v,rfl,rfl,Z,ac,Y,Q,S⟩;exact q cs s Z Y Q S
noncomputable def nI(cs:List Nat):dm:=cs.map λc:Nat=>(c:Int)
theorem aQ.two(h:H a=some (.lst l.f))(k:H b=some (.lst m.f))(f:H q=none):aQ (upd H q<|.lst [.ref a,.ref b]) q [a,b] [l,m]:=by
 let n:a≠q:=λz=>by rw[z,f]at h;cases h
 let g:b≠q:=λz=>by rw[z,f]at k;cases k
 refine#[ae,rfl,λi c r d e=>?_]
 match i with
 | 0=>simp at d e;subst d e;erw[aG n,h]
 | 1=>simp at d e;subst d e;erw[aG g,k]
 | (j+2)=>simp at d
theorem yk(h:k<=r.c):du r k=cQ r k r.c:=by
 ext(z:k=r.c);subst z;unfold du cQ;rw[drop_length,zdA,zbg];refine zes A? λi a b=>?_;rw[zeT,zeN,bT (show(r.c+i)%r.c=i%r.c by rw[zdy,zax]),fB a];let c:k<r.c:=();refine zes (by rw[cZ h,bA]) λi a b=>?_;rw[cZ h]at a;let e:=iZ c i;rw[fB<|cZ h>>a]at e;rw[e];let w:=o4 (r:=r) (s:=k) a;rw[zac<|bA>>a]at w;rw[zas w,zdy]
theorem AQ(h:k<=m):(cQ r s m).take k=cQ r s k:=by unfold cQ;rw[<-zeR,take_range,Nat.min_eq_left h]
theorem IG(h:k<=m):(cQ r s m).drop k=cQ r (s+k) (m-k):=by refine zez λi=>?_;rw[zdG];ext(z:i<m-k);rw[o4 z,o4 (),zdZ];rw[zbR (by rw[bA];lia),zbR<|by rw[bA];lia]
theorem sA:cQ r s (m+1)=cQ r s m++[cy r<|s+m]:=by unfold cQ;rw[zcn,zat];rfl
noncomputable def Mc(b:List<|aA×Addr)(a:Int):dm:=((b.map (·.1)).filter λd=>decide<|d.1=a).map (·.2)
theorem Nt:x∈Mc ks pl↔(pl,x)∈ks.map (·.1):=by unfold Mc;constructor;ext h;let#[d,b,e]:=zaq.mp h;let#[c,a]:=zbC.mp b;rw[<-(zcK a),<-e];exact c;ext h;exact zaq.mpr #[(pl,x),zbC.mpr #[h,zbc rfl],rfl]
theorem CB{M t P:Nat}{c:Int}(E:CD H gd L R ks)(Q:H0 gd=none)(S:σ[M]?=some (gd.i))(Y:σ[t]?=some (c.j))(X:0<=c)(U:c<L.c)(ne:ez L c≠[])(hl:ks.c<=5000)(q:∀m O,m∈ez L c->(∀x∈ez L c,m<=x)->af H O->D.nx (σ.set P<|m.j) O) :
  IU H0 (GZ (TJ (OZ K)<|fo (qE (Ef<|fP M) (N1 K 2<|Gi (ji 0)<|Gi (ji 1) RD) (IV<|Ip Yn (fP 0)<|fP 2) (fP 1) 2 [t]) ph)<|ji P) D σ H:=by
 let g:∀x,x∈Mc ks c↔x∈ez L c:=λx=>Nt>>E.mem>>#[λh=>h.mem,λh=>#[X,U,h]]
 refine Qt<|ef<|jD<|aJ<|bC<|JG<|eS S #[gd,kC ks,rfl,E.top,λo=>?_];ext l w;let N:∀b u,b≠gd->H b=some u->upd H gd (.mZ o<|.dT<|kC ks) b=some u:=λb u nb e=>aG nb>>e
 let f0:upd H gd (.mZ o<|.dT<|kC ks) gd=some (.mZ o<|.dT<|kC ks):=ae;generalize upd H gd (.mZ o<|.dT<|kC ks)=Hf at N f0 w ⊢;let W:jk 2 [t] σ=[none,none,c.j]:=by unfold jk;simp[Y]
 rw[W];refine ED (λi f ys p=>∃y G:Option V,f=[y,G,c.j]/\ys=(Mc (ks.take i) c).f/\af Hf p/\p l=some (.lst ys)) #[none,none,rfl,rfl,af.upd w,ae] (λi f ys p _ ⟨_,_,_,_,e,_⟩=>e _ _ f0) ?_ ?_;ext i k v b f ys p j r A ⟨y,G,rfl,rfl,s,n⟩;rw[uE]at A;obtain⟨d,a,C,rfl⟩:∃d a,ks[i]?=some (d,a)/\k=jH d:=by
  unfold kC at j;rw[zao]at j;cases e:ks[i]? with
  | none=>rw[e]at j;cases j
  | some z=>rw[e]at j;cases j;exact#[z.1,z.2,rfl,rfl]
 let I:=take_snoc C;let nl:(Mc (ks.take i) c).c<=i:=by unfold Mc;rw[zaa];refine zaX (zeK _ _) ?_;rw[zaa,zaL];lia
 refine inS λ_ nNN=>?_;refine fD (SqT.of r) rfl ?_;refine hV<|eB<|hV<|eB<|pI ?_;refine pG<|eo<|eS rfl<|eS rfl<|FA ?_;refine#[_,rfl,?_];ext(z:d.1=c);rw[zbc z];refine ND<|eS rfl ?_;refine#[n,by rw[zaa,zak];lia,nNN _ _ _ #[_,_,rfl,?_,af.fresh s w,ae]];rw[I];unfold Mc;rw[zat,zcS,zat,zat,zea,zdu,zam<|zbc z];rfl;rw[zaZ z];refine Xa<|nNN _ _ _ #[_,_,rfl,?_,s,n];rw[I];unfold Mc;rw[zat,zcS,zat,zat,zea,zdu,zaj<|~~~z];simp;ext f ys p ⟨y,G,rfl,rfl,s,n⟩;rw[uE,zbg]at n;refine aW #[l,Mc ks c,rfl,aI.of n,λz=>?_,λm Z B=>?_];let#[x,F]:=zeV _ ne;let:=(g x).mpr F;rw[z]at this;cases this;refine eB #[gd,o,kC ks,s _ _ f0,(λo' u'=>by erw[Q,λz=>nomatch z]),?_];refine q m _ ((g m).mp Z) (λx F=>B x<|(g x).mpr F) λb u r=>?_;ext(z:b=gd);subst z;rw[E.top]at r;rw[ae];exact r;erw[aG z,s _ _<|N b u z r]
theorem behind(b:aH L){p:Int}(g:0<=p)(i:p<L.c){c:Int}{j:Nat}(h:Dt L (c,p))(e:nx L (c,p)=(p,cy (ez L p) j)):c=cy (ez L p) (j+1):=by let f:=b.nd _ _<|aK g i;let d:=(h.back b).2.2.2;let a:=zcJ d;exact y8 f d (fE a)<|(zaC Prod.snd e).trans (gY f a j).symm
noncomputable def gR(L R:dy)(b:Int)(a m:Nat):dm:=(List.range m).map λu=>lo R (b,cy (ez L b)<|a+u)
theorem IL(h:gK L R)(f:aH L){b:Int}(g:0<=b)(b1:b<L.c){a:Nat}(i:a<(ez L b).c):eD (gR L R b a (ez L b).c)<|rd L R b:=by
 let c:0<(ez L b).c:=();let rl:(rd L R b).c=(ez L b).c:=zaa _;let d:∀j,lo R (b,cy (ez L b) j)=cy (rd L R b) (j+1):=λj=>by
  let bk:=fG f g b1<|fE (j:=j+1) c;let e:nx L (cy (ez L b)<|j+1,b)=(b,cy (ez L b) j):=by show(b,pre (ez L b)<|cy (ez L b)<|j+1)=_;rw[gY (f.nd _ _<|aK g b1) c]
  rw[<-e,KD h #[bk.1,bk.2.1,bk.2.2.2]];unfold rd;rw[uZ _ c]
 let w:gR L R b a (ez L b).c=cQ (rd L R b) (a+1) (rd L R b).c:=by unfold gR cQ;rw[rl];refine zcr λu _=>?_;rw[d,show a+u+1=a+1+u by lia]
 rw[w,<-yk ()];ext(z:a+1<(rd L R b).c);exact .inr #[a+1,z,rfl];left;unfold du;rw[show a+1=(rd L R b).c by lia,drop_length,zbg,zdA]
theorem eA.turned(t:eA L)(c:gK L R)(g:R'.c=L.c)(h:∀(b:Nat) (q:dm),R'[b]?=some q->eD q (rd L R (b:Int))):TR R' R.c:=by
 let dt:=t.Z7 c;let e:((List.range L.c).map λb:Nat=>sh 0<|rd L R (b:Int))=((List.range L.c).map λb:Nat=>rd L R (b:Int)).map (sh 0):=by rw[zfl];rfl
 let d:=(t.IQ.dua t.cT t.rF t.four c).dec;rw[e]at d;refine#[Du R,dt,(d.T5 dt.map).Yi (by rw[g,zaa,zby]) λi q r f a=>?_,gG];rw[zao]at a;let j:i<L.c:=by let:=(zab.mp f).1;lia
 rw[getElem?_range j]at a;cases a;exact h i q f
theorem Ku(h:vd n l)(q:j<l.c)(r:k<l.c):vd n<|(l.set k l[j]).set j l[k]:=by
 let d:((l.set k l[j]).set j l[k]).c=l.c:=by rw[zcq,zcq]
 let at':∀i (c:i<((l.set k l[j]).set j l[k]).c),∃u,∃f:u<l.c,((l.set k l[j]).set j l[k])[i]=l[u]/\u=(if i=j then k else if i=k then j else i):=λi c=>by rw[d]at c;ext(z:i=j);subst z;exact#[k,r,by rw[getElem_set_self],by rw[zam rfl]];ext(y:i=k);subst y;exact#[j,q,by rw[getElem_set_ne<|zbl z,getElem_set_self],by rw[zaj z,zam rfl]];exact#[i,c,by rw[getElem_set_ne<|zbl z,getElem_set_ne<|zbl y],by rw[zaj z,zaj y]]
 refine#[d>>h.len,zbr.mpr λa b A o B e=>?_,λx s=>?_];let#[u,f,g,t]:=at' a A;let#[v,m,p,w]:=at' b o;rw[g,p]at e;let:u=v:=by ext(z|z|z:zcL u v);exact absurd e<|zbr.mp h.nd u v f m z;exact z;exact absurd e.symm<|zbr.mp h.nd v u m f z
 rw[t,w]at this;split at this<;>split at this<;>(try split at this)<;>(try split at this)<;>lia;let#[i,c,e]:=zaH.mp s;let#[u,f,g,_]:=at' i c;erw[<-e,g,h.rg _<|zbo f]
theorem Jp{K:zde}{R:Hp->Prop}{d p:Addr}{as:cx}{L:dy}{P:TE}{rest:List<|Option V}{H:Hp}(f:dm->dm)(o:aQ H p as L)(Rh:∀(b:Addr) (l:dm) (j:Hp) (U:VK),l∈L->af H j->j b=some (.lst l.f)->(∀c B,af j B->j c=none->B c=some (.lst<|(f l).f)->U (.ref c) B)->P (b.i::rest) j U)(S:H d=none)(hn:L.c<=1000)(q:∀cs j,af H j->aQ j d cs (L.map f)->(d::cs).Nodup->(∀b∈d::cs,H b=none)->R j):CW (C1 K p) (ji 0) qC P d (none::rest) (upd H d<|.lst []) R:=by
 refine bD (λi g ys r=>∃(k:cx) (v:Option V),g=v::rest/\ys=k.h/\af H r/\k.c=i/\aQ r d k ((L.map f).take i)/\(d::k).Nodup/\∀b∈d::k,H b=none)
  #[[],none,rfl,rfl,af.upd S,rfl,#[ae,rfl,λi a l z=>by simp at z],by simp,~~~S] (λi g ys r _ ⟨_,_,_,_,e,_⟩=>aI.of<|e _ _ o.top) ?_ ?_
 ext i x g ys r X C ⟨k,v,rfl,rfl,t,rfl,Q,F,u⟩;let#[b,l,ha,D,bL]:=o.at (by rwa[zaa,o.len]at C);obtain rfl:x=V.ref b:=by rw[zao,ha]at X;exact(zas X).symm
 let NP:=C;rw[zaa,o.len]at NP;let A:(L.map f)[k.c]?=some (f l):=by rw[zao,D];rfl
 refine inS λ_ nNN=>?_;refine eB ?_;refine lT ?_;refine ND<|Rh b l r _ (zag D) t (t _ _ bL) λc Hy M I c3=>?_;let G:=Q.gu I;let g3:=Q.same M;let N:c≠d:=λz=>G<|z▸zan;refine#[g3.top,zaa>>aq (),nNN _ _ _ #[k++[c],_,rfl,by simp,af.fresh (t.trans M)<|u _ zan,by simp,?_,?_,λy hy=>?_]];rw[take_snoc A];exact g3.snoc (zau.mp F).1 N c3;let#[n1,n2]:=zau.mp F;refine zau.mpr #[λz=>?_,iH.mpr #[λz=>G<|zae _ z,n2]];ext(z|z:zal.mp z);exact n1 z;exact N (zai.mp z).symm;ext(z|z:zaw.mp hy);rw[z];exact u _ zan;ext(z|z:zal.mp z);exact u y<|zae _ z;rw[zai.mp z];exact t.free I;ext g ys w ⟨cs,v,rfl,rfl,e4,ac,Z,Kt,Lb⟩;rw[zaa,o.len,zca<|zaa>>zaf _]at Z;exact q cs w e4 Z Kt Lb
theorem TR.named(h:TR R n)(nm:vd n l):TR (R.map<|List.map<|gZ l) n:=by let#[L,t,b,rfl]:=h;let#[B,a]:=Qs nm;exact#[B,t.OU b a nm,b.OU a nm t.map,a.len]
end Gm
namespace Fw
open Dt (sm)
abbrev C8:=Nat×Bool
noncomputable def bi(b:Bool):Int:=if b then 1 else 0
structure Flow where
 U:Nat->Bool
 F:Nat->Nat->Bool
noncomputable def Flow.inn(f:Flow)(n p:Nat):Int:=sm n λu=>bi<|f.F u p
noncomputable def Flow.out(f:Flow)(n p:Nat):Int:=sm n λv=>bi<|f.F p v
noncomputable def Flow.bal(f:Flow)(n:Nat):C8->Int
 | (p,false)=>f.inn n p-bi (f.U p)
 | (p,true)=>bi (f.U p)-f.out n p
noncomputable def Flow.push(f:Flow):C8->C8->Flow
 | (p,false),(q,true)=>if p=q then #[λx=>if x=p then true else f.U x,f.F]else #[f.U,λa b=>if a=q/\b=p then false else f.F a b]
 | (p,true),(q,false)=>if p=q then #[λx=>if x=p then false else f.U x,f.F]else #[f.U,λa b=>if a=p/\b=q then true else f.F a b]
 | _,_=>f
noncomputable def dl(d e:C8):Int:=if d=e then 1 else 0
structure Fl(n:Nat)(T:Nat->Nat->Prop)(a b:Nat)(i:Int)(f:Flow):Prop where
 Sk:∀u v,f.F u v=true->T u v
 u1:f.U a=false
 u2:f.U b=false
 bal:∀x:C8,x.1<n->f.bal n x=i*dl x (b,false)-i*dl x (a,true)
noncomputable def rk(a:List<|C8×Option C8)(d:C8):Nat:=(a.map Prod.fst).idxOf d
end Fw
namespace Fw
open PySem L2 Gm
noncomputable def Tw(L:dy)(a b:Nat)(p q:Nat):Prop:=(∃l,L[p]?=some l/\(q:Int)∈l)/\¬((p=a/\q=b)\/(p=b/\q=a))
structure Rd(f:Flow)(a b:Nat)(rd:List Nat):Prop where
 len:2<=rd.c
 hd:rd[0]?=some a
 nd:rd.Nodup
 go:∀(j u v:Nat),rd[j]?=some u->rd[j+1]?=some v->f.F u v=true
 nb:∀j,j+1<rd.c->rd[j]?≠some b
theorem R8{l:dm}{n:Nat}{y:Int}(a:l.c=n+1)(h:l[n]?=some y):jJ l.f (-1)=some (V.int y):=by
 let e:l=l.take n++[y]:=by let:=zer (l:=l) (i:=n);rwa[h,zca ()]at this
 erw[e,zat,CY _ _]
noncomputable def f0:Flow:=#[λ_=>false,λ_ _=>false]
noncomputable def lenOf(v:Option V)(H:Hp):Nat:=
 match v with
 | some (.ref c)=>(match H c with|some (.lst xs)=>xs.c|_=>0)
 | _=>0
theorem jV(h:H c=some (.lst xs)):lenOf (c.i) H=xs.c:=by unfold lenOf;dsimp only;rw[h]
theorem M3(m:aH L)(h:AA L S=true):∃a b:Int,(0<=a/\a<L.c)/\(0<=b/\b<L.c)/\a∉S/\b∉S/\¬eg L S a b:=by
 cases e:left L.c S with
 | nil=>rw[FF e]at h;cases h
 | cons s r=>
  rw[tG e]at h;let h:=zcK h;let f:=oG (by erw[e,.head _]);refine zaA λg=>?_;let all:∀x∈s::r,eg L S s x:=λx d=>by let c:=oG (e>>d);exact zaA λnx=>g #[s,x,#[f.1,f.2.1],#[c.1,c.2.1],f.2.2,c.2.2,nx]
  let i:(s::r).Nodup:=by erw[<-e,(j5 _).filter _]
  let:=i.length_le_of_subset (l₂:=(eQ L.c).filter<|λx=>@decide (eg L S s x)<|Classical.propDecidable _) λx d=>by let c:=oG (n:=L.c) (S:=S) (s:=x) (e>>d);exact zbC.mpr #[eX.mpr #[c.1,c.2.1],~~~all x d]
  unfold rn at h;lia
noncomputable def Wv(L:dy)(x y:Nat):Prop:=∃l f,L[x]?=some l/\Fl L.c (Tw L x y) x y (if(y:Int)∈l then 2 else 3) f
structure J(L:dy)(al:Bool)(fw:Nat)(Dn:Nat->Nat->Prop):Prop where
 t:al=true->∀x y,Dn x y->Wv L x y
 f:al=false->3<L.c->∃S'∈eV L.c L.c,AA L S'=true
 le:fw<=3
 sm:fw<3->∃S'∈eV L.c L.c,S'.c=fw/\AA L S'=true
 nb:∀x y,Dn x y->∀l,L[x]?=some l->(y:Int)∉l->Wv L x y\/fw<=2
end Fw
namespace Gm
open PySem L2
theorem sR{n:Nat}:∀(k:Nat) (S:dm),S∈eV n k->S.c<=2
 | 0,S,h=>by unfold eV at h;ext(rfl|h:zaw.mp h);simp;let#[i,_,rfl]:=zaq.mp h;simp
 | k+1,S,h=>by unfold eV at h;ext(h|h:zal.mp h);exact sR k S h;let#[j,a]:=zaS.mp h;let jl:=(zab.mp a).1;rw[twos_len]at jl;rw[twos_at jl]at a;cases a;simp
theorem u9.AA(t:u9 L)(m:aH L)(h:S.c<=2):AA L S=false:=by
 cases e:Gm.AA L S with
 | false=>rfl
 | true=>
  let#[a,b,i,g,f,c,k]:=Fw.M3 m e;exfalso;obtain⟨x,y,d⟩:∃x y:Int,(∀z∈S,z=x\/z=y)/\a≠x/\a≠y/\b≠x/\b≠y:=by
   match S,h with
   | [],_=>exact#[-1,-1,by simp,(),(),(),()]
   | [x],_=>exact#[x,x,by simp,~~~f,~~~f,~~~c,~~~c]
   | [x,y],_=>
    simp[zbp,zaV,zbs,zen]at f c;exact#[x,y,by simp,f.1,f.2,c.1,c.2]
  refine k<|(t x y a b i.1 i.2 g.1 g.2 d.2.1 d.2.2.1 d.2.2.2.1 d.2.2.2.2).wk m λz _ _ j=>?_;simp[zbp,zaV,zbs];exact d.1 z j
theorem HK{K:zde}{R:Hp->Prop}{c p:Addr}{N:cx}{L:dy}{z:TE}{H:Hp}(g:dm->V)(n:aQ H p N L)(I:∀(b:Addr) (l:dm) (f:Hp) (C:VK),l∈L->f b=some (.lst l.f)->C (g l) f->z [b.i] f C)(A:H c=none)(O:L.c<=1000)(q:∀f,af H f->f c=some (.lst<|L.map g)->R f):CW (C1 K p) (ji 0) qC z c [none] (upd H c<|.lst []) R:=by
 refine bD (λi a ys h=>∃v:Option V,a=[v]/\ys=(L.take i).map g/\af H h/\h c=some (.lst ys))
  #[none,rfl,rfl,af.upd A,ae] (λi a ys h _ ⟨_,_,_,e,_⟩=>aI.of<|e _ _ n.top) ?_ ?_
 ext i x a ys h D B ⟨v,rfl,rfl,o,r⟩;let u:=B;rw[zaa,n.len]at u;let#[b,l,M,s,F]:=n.at u;obtain rfl:x=V.ref b:=by rw[zao,M]at D;exact(zas D).symm
 refine inS λ_ nNN=>?_;refine eB<|lT<|ND<|I b l h _ (zag s) (o _ _ F) ?_;refine#[r,zaa>>zaL>>aq (),nNN _ _ _ #[_,rfl,?_,af.fresh o A,ae]];rw[take_snoc s,zat];rfl;ext a ys h ⟨v,rfl,rfl,o,r⟩;rw[zaa,n.len,zbg]at r;exact q h o r
end Gm
namespace L2
open PySem PySem.Spec PySem.W PySem.Calls PyProof.Rows
abbrev newExc(C:Addr)(t:Addr):Obj:={ cls:=.ref C,data:=.fields #[.ref t,.none,.none,.none,.bool false,.none,] }
end L2
namespace L2
open PySem PySem.Spec PySem.W PySem.Calls PyProof.Rows
structure DefIn(K:Frag)(x:Str)(st:Stmt):Prop where
 ex:∃(f:Addr) (od an:Option Addr) (sl:Array<|Option Value) (oc kV dc pm cd ct:Value),nsIn K mainGlobals x=some (f.i)/\K.lookup f=some #[oc,od,.func<|fnOf x x (fh st) (dI st) (aB st) .none kV dc pm an cd ct,sl]/\codeIn K cd x=true/\keepIn K (.ref f)=true
theorem DefIn.mk0{K:Frag}{x:Str}{st:Stmt}{f:Addr}{e j:Option Addr}{h:Array<|Option Value}{d kV i g b ct:Value}(a:nsIn K mainGlobals x=some (f.i))(l:K.lookup f=some #[d,e,.func<|fnOf x x (fh st) (dI st) (aB st) .none kV i g j b ct,h])(c:codeIn K b x=true)(k:keepIn K (.ref f)=true):DefIn K x st:=#[#[f,e,j,h,d,kV,i,g,b,ct,a,l,c,k]]
section
variable {K:Frag} {h:Heap} {mg:cB} {x q:Str} {st:Stmt} {ps:List Str} {C:Addr}
theorem DefIn.gH(d:DefIn K x st)(X:K.In h)(G:h.Ns mainGlobals mg)(m:∀(kV e i:Value) (g:Option Addr) (j ct:Value) (b:cq),b.c=ps.c->bindArgs (fnOf x x (fh st) (dI st) (aB st) .none kV e i g j ct) #[b,[]]=pure (ps.zip b)):Def K mg x st ps:=by let#[f,n,g,p,s,kV,r,i,o,ct,a,l,c,k]:=d.ex;exact#[#[f,_,En l c k,mg_of X G a,(En l c k).binds m]]
end
end L2
namespace Dt
open Fr Gm
noncomputable def qt(f:Int×Int):Rat:=(f.1:Rat) / (f.2:Rat)
theorem oH{u:Int}(h:u≠0):(u:Rat)≠0:=λz=>h<|zfd.mp z
theorem QA(c:b≠0)(h:Low a b t u):qt (t,u)=(a:Rat) / (b:Rat):=by let e:=zaC (λx:Int=>(x:Rat)) h.eq;simp[zcm]at e;let d:=oH c;let f:=oH (show u≠0 by let:=h.pos;lia);show(t:Rat) / (u:Rat)=_;grind
theorem Kw(j:0<e)(d:Int.gcd o e=1)(i:0<u)(f:Int.gcd t u=1)(a:t*e=o*u):t=o/\u=e:=by
 let b:u.natAbs ∣ e.natAbs:=by let:u ∣ t*e:=#[o,by rw[a,zcv]];let:=Int.natAbs_dvd_natAbs.mpr this;rw[zbA]at this;exact zeF (show Nat.gcd u.natAbs t.natAbs=1 by erw[Nat.gcd_comm,f]) this
 let g:e.natAbs ∣ u.natAbs:=by let:e ∣ o*u:=#[t,by rw[<-a,zcv]];let:=Int.natAbs_dvd_natAbs.mpr this;rw[zbA]at this;exact zeF (show Nat.gcd e.natAbs o.natAbs=1 by erw[Nat.gcd_comm,d]) this
 let h:=Nat.dvd_antisymm b g;let c:u=e:=();subst c;exact#[zdS () a,rfl]
noncomputable def Lw(f:Int×Int):Prop:=0<f.2/\Int.gcd f.1 f.2=1
theorem QB(a:Lw f)(b:Lw g)(h:qt f=qt g):f=g:=by
 let#[t,u]:=f;let#[o,e]:=g;let i:=oH (show u≠0 by let:=a.1;lia);let j:=oH (show e≠0 by let:=b.1;lia);let d:(t:Rat) / (u:Rat)=(o:Rat) / (e:Rat):=h;let c:((t*e:Int):Rat)=((o*u:Int):Rat):=by rw[zcm,zcm];grind
 let#[rfl,rfl]:=Kw b.1 b.2 a.1 a.2<|zfd.mp c;rfl
noncomputable def sq:Nat->(Nat->Rat)->Rat
 | 0,_=>0
 | n+1,f=>sq n f+f n
theorem iG{f g:Nat->Rat}:∀{n:Nat},(∀i,i<n->f i=g i)->sq n f=sq n g
 | 0,_=>rfl
 | n+1,h=>by show sq n f+f n=sq n g+g n;rw[iG λi a=>h i<|zbt a,h n<|zbv n]
theorem Dx{f:Nat->Rat}(a:Rat):∀(n:Nat),sq n (λi=>a*f i)=a*sq n f
 | 0=>by show(0:Rat)=a*0;grind
 | n+1=>by show sq n (λi=>a*f i)+a*f n=a*(sq n f+f n);rw[Dx a n];grind
theorem oe{f:Nat->Int}:∀(n:Nat),((sm n f:Int):Rat)=sq n λi=>(f i:Rat)
 | 0=>rfl
 | n+1=>by show((sm n f+f n:Int):Rat)=_+_;rw[Rat.intCast_add,oe n]
noncomputable def fa(a:List<|Int×Int)(j:Nat):Rat:=qt<|a.getD j (0,1)
theorem Gp(h:fs[j]?=some f):fa fs j=qt f:=by unfold fa;rw[zah,h];rfl
noncomputable def NS(n:Nat)(R:List<|List<|Int×Int):Prop:=∀u:Nat->Int,(∀a∈R,sq n (λj=>fa a j*(u j:Rat))=0)->∀j,j<n->u j=0
noncomputable def u7(n:Nat)(R:List<|List<|Int×Int)(c:List<|Int×Int)(L:dy):Prop:=
 L.c=R.c/\∀(i:Nat) (a:List<|Int×Int) (g:Int×Int) (l:dm),R[i]?=some a->c[i]?=some g->L[i]?=some l->∃b,Wh (a++[g]) b l
structure rA(n:Nat)(R:List<|List<|Int×Int)(gs:List<|Int×Int):Prop where
 rl:R.c=n
 gl:gs.c=n
 row:∀fs∈R,fs.c=n/\∀f∈fs,0<f.2
 goal:∀g∈gs,0<g.2
theorem OJ{b:Int}(w:Wh fs b l){i:Nat}{x:Int}(a:fs[i]?=some f)(c:l[i]?=some x)(g:0<f.2):(x:Rat)=qt f*(b:Rat):=by let e:=zaC (λx:Int=>(x:Rat))<|w.eq i f x a c;simp[zcm]at e;let d:=oH (show f.2≠0 by lia);unfold qt;grind
theorem u7.row(F:rA n R gs)(w:u7 n R gs L)(c:R[i]?=some fs)(k:gs[i]?=some g):∃b:Int,b≠0/\(∀j,j<n->(mx L i j:Rat)=fa fs j*(b:Rat))/\(mx L i n:Rat)=qt g*(b:Rat):=by
 let m:i<L.c:=w.1>>(zab.mp c).1
 obtain⟨l,h⟩:∃l,L[i]?=some l:=#[L[i],by simp[m]];let#[b,a]:=w.2 i fs g l c k h;let#[fl,o]:=F.row fs<|zag c;let e:=a.len;rw[zav,fl,zbd]at e;refine#[b,by let:=a.pos;lia,λj p=>?_,?_];obtain⟨f,d⟩:∃f,fs[j]?=some f:=#[fs[j],by simp[show j<fs.c by lia]];obtain⟨x,ex⟩:∃x,l[j]?=some x:=#[l[j],by simp[show j<l.c by lia]];rw[ox h ex,Gp d];exact OJ a (zaU ()>>d) ex<|o f<|zag d;obtain⟨x,ex⟩:∃x,l[n]?=some x:=#[l[n],by simp[show n<l.c by lia]];erw[ox h ex,OJ a (by rw[zaO (),fl,zcD];rfl) ex<|F.goal g<|zag k]
theorem u7.inj(F:rA n R gs)(w:u7 n R gs L)(h:NS n R):Inj n (n+1)<|mx L:=by
 ext u r Md;refine h u λm t=>?_;let#[i,f]:=zaS.mp t;let c:=(zab.mp f).1;rw[F.rl]at c;obtain⟨g,p⟩:∃g,gs[i]?=some g:=#[gs[i]'(F.gl>>c),by simp[show i<gs.c by erw[F.gl,c]]];let#[b,s,q,_]:=w.row F f p;let k:sm n (λl=>u l*mx L i l)+u n*mx L i n=0:=Md i c;rw[r n<|zaf _,Int.zero_mul,Int.add_zero]at k;let d:=zaC (λx:Int=>(x:Rat)) k;rw[oe]at d;let e:sq n (λa=>((u a*mx L i a:Int):Rat))=(b:Rat)*sq n (λj=>fa m j*(u j:Rat)):=by rw[<-Dx];exact iG λj o=>by rw[zcm,q j o];grind
 rw[e]at d;let:=oH s;let v:=d;grind
noncomputable def gn(n:Nat)(R:List<|List<|Int×Int)(b xs:List<|Int×Int):Prop:=∀(i:Nat) (a:List<|Int×Int) (g:Int×Int),R[i]?=some a->b[i]?=some g->sq n (λj=>fa a j*fa xs j)=qt g
theorem u7.sol(F:rA n R gs)(w:u7 n R gs L)(c:Cd n (n+1) M n n (mx L) W d A)(s:∀j,j<n->fa xs j=(W j n:Rat) / (d:Rat)):gn n R gs xs:=by
 ext i p g h q;let m:=(zab.mp h).1;rw[F.rl]at m;let#[b,t,r,u]:=w.row F h q;let Md:SY n (n+1) A λl=>if l<n then W l n else-d:=λa v=>by show sm n _+_=0;dsimp only;rw[zaj<|zbq n,bP (g:=λl=>A a l*W l n) λl f=>zam f>>zcv _ _,<-c.ba.up a n v];grind
 let x:sm n (λl=>(if l<n then W l n else-d)*mx L i l)+(if n<n then W n n else-d)*mx L i n=0:=(c.Md _).mp Md i m;rw[zaj<|zbq n,bP λl f=>by rw[zam f]]at x;let o:((sm n λl=>W l n*mx L i l:Int):Rat)=((d*mx L i n:Int):Rat):=zfd.mpr (by grind);rw[oe,zcm,u]at o;let e:sq n (λl=>((W l n*mx L i l:Int):Rat))=((b:Rat)*(d:Rat))*sq n (λj=>fa p j*fa xs j):=by rw[<-Dx];refine iG λj k=>?_;rw[zcm,r j k,s j k];let:=oH c.ba.ne;grind
 rw[e]at o;let y:=oH t;let z:=oH c.ba.ne;grind
noncomputable def ab(f:Int×Int):Int×Int:=((f.1.natAbs:Int),f.2)
theorem rW:∀(d:List<|Int×Int),(∀f∈d,0<f.2)->∃b:Int,0<b/\∀f∈d,f.2 ∣ b
 | [],_=>#[1,by decide,by simp]
 | f::d,h=>by let#[b,i,e]:=rW d λg a=>h g<|zae _ a;refine#[f.2*b,zbN (h f zan) i,λg a=>?_];ext(rfl|a:zaw.mp a);exact#[b,rfl];let#[c,j]:=e g a;exact#[f.2*c,by rw[j];grind]
end Dt
namespace Dt
open PySem L2 Fr Gm
noncomputable def pd:List (Int×Int)->Nat
 | []=>1
 | f::r=>f.2.natAbs*pd r
theorem eJ:∀(a b:List<|Int×Int),pd (a++b)=pd a*pd b
 | [],b=>by show pd b=1*pd b;lia
 | f::a,b=>by show f.2.natAbs*pd (a++b)=f.2.natAbs*pd a*pd b;rw[eJ a b,Nat.mul_assoc]
theorem kz(f:Int×Int):pd [f]=f.2.natAbs:=by show f.2.natAbs*1=_;lia
structure FG(H:Hp)(p:Addr)(as:cx)(R:List<|List<|Int×Int):Prop where
 top:H p=some (.lst as.h)
 len:as.c=R.c
 row:∀(i:Nat) (a:Addr) (fs:List<|Int×Int),as[i]?=some a->R[i]?=some fs->∃ps:cx,H a=some (.lst ps.h)/\PR H ps fs
theorem FG.same(g:FG H p as R)(e:af H H'):FG H' p as R:=#[e _ _ g.top,g.len,λi a b f h=>by let#[c,d,j]:=g.row i a b f h;exact#[c,e _ _ d,j.same e]]
theorem FG.at(g:FG H p as R)(c:i<R.c):∃a d b,as[i]?=some a/\R[i]?=some d/\H a=some (.lst b.h)/\PR H b d:=by
 let e:i<as.c:=g.len>>c
 let#[b,f,h]:=g.row i as[i] R[i] (by simp[e]) (by simp[c]);exact#[as[i],R[i],b,by simp[e],by simp[c],f,h]
theorem PR.off(h:PR H ps fs)(c:H b=none\/H b=some (.lst vs)):PR (upd H b o) ps fs:=Paired.BY h λa x q=>aG (λz=>by rw[z]at q;ext(c|c:c);rw[c]at q;cases q;rw[c]at q;cases q)>>q
theorem FG.snoc(g:FG H p as R)(j:p∉as)(l:b≠p)(h:H b=some (.lst ps.h))(pr:PR H ps fs):FG (upd H p<|.lst<|as.h++[.ref b]) p (as++[b])<|R++[fs]:=by
 refine#[zat>>ae,by rw[zav,zav,g.len];rfl,λi a f c d=>?_];ext(z:i<as.c);rw[zaU z]at c;rw[zaU<|by erw[<-g.len,z]]at d;let#[m,k,n]:=g.row i a f c d;exact#[m,aG (λy=>by rw[y]at c;exact j<|zag c)>>k,PR.off n<|.inr g.top];let o:=(zab.mp c).1;rw[zav,zbd]at o;let e:i=as.c:=();subst e;rw[zaO<|zaf _,zcD]at c;rw[zaO (g.len>>zaf _),g.len,zcD]at d;cases c;cases d;exact#[ps,aG l>>h,PR.off pr<|.inr g.top]
theorem Oi{l:dm}{n:Nat}{y:Int}(a:l.c=n+1)(h:l[n]?=some y):jJ l.f (-1)=some (V.int y):=by
 let e:l=l.take n++[y]:=by let:=zer (l:=l) (i:=n);rwa[h,zca ()]at this
 erw[e,zat,CY _ _]
theorem IH{b:Int}(w:Wh fs b l)(c:∀f∈fs,0<f.2){i:Nat}{x:Int}(a:fs[i]?=some f)(d:l[i]?=some x):x.natAbs<=f.1.natAbs*b.natAbs:=by let e:=zaC Int.natAbs<|w.eq i f x a d;rw[zbA,zbA]at e;erw[<-e,zdt _ (by let:=c f<|zag a;lia)]
theorem MU(c:σ[i]?=some (a.i))(e:σ[k]?=some (n.l))(f:aI K H a xs)(b:n<=xs.c)(q:∀p,H p=none->Q (.ref p) (upd H p<|.lst<|xs.drop n)) :
  LX (yZ K) (fP i) (qD<|fP k) i9 σ H Q:=#[_,c,#[_,e,#[_,rfl,#[a,_,rfl,f,λp d=>iF b>>q p d]]]]
theorem Nv{a:cx}(k:Nat):(a.h).drop k++(a.h).take k=(a.drop k++a.take k).h:=by rw[zat,zeQ,zeR]
end Dt
namespace gn
structure V4 where
 x:Int
 y:Int
 z:Int
 w:Int
structure V3 where
 u:Int
 v:Int
 w:Int
noncomputable def dot(a b:V4):Int:=a.x*b.x+a.y*b.y+a.z*b.z+a.w*b.w
noncomputable def neg(a:V4):V4:=#[-a.x,-a.y,-a.z,-a.w]
noncomputable def tn(a b c:V3):Int:=a.u*(b.v*c.w-b.w*c.v)+a.v*(b.w*c.u-b.u*c.w)+a.w*(b.u*c.v-b.v*c.u)
noncomputable def sp(a p:V4):V3:=if a.x≠0 then(if a.x<0 then #[p.z,p.y,p.w]else #[p.y,p.z,p.w])else if a.y≠0 then(if a.y<0 then #[p.x,p.z,p.w]else #[p.z,p.x,p.w])
 else(if a.z<0 then #[p.y,p.x,p.w]else #[p.x,p.y,p.w])
noncomputable def T(d a b c:V4):Int:=tn (sp d a) (sp d b)<|sp d c
end gn
namespace gn
noncomputable def Ok(c:Nat->V4)(a:V4)(i f q:Nat):Prop:=0<=T a (c i) (c f) (c q)/\(T a (c i) (c f) (c q)=0->((q:Int)-i).natAbs<=((f:Int)-i).natAbs)
end gn
namespace gn
noncomputable def pl0(c:Nat->V4):V4:=#[-(c 0).w,0,0,(c 0).x]
noncomputable def at'(r:List Nat)(j:Nat):Nat:=r.getD j 0
noncomputable def sts(r:List Nat):List<|Nat×Nat:=(List.range r.c).map λj=>(at' r j,at' r<|(j+1)%r.c)
noncomputable def adZ(F:List<|List Nat×V4):List<|Nat×Nat:=F.flatMap λp=>sts p.1
end gn
namespace Stb
open PySem PySem.Spec
theorem zZ{a:Type}:∀{l:List a} {i:Nat} {x:a},l[i]?=some x->(x::l.eraseIdx i).Perm l
 | [],i,x,h=>by simp at h
 | y::l,0,x,h=>by injection h with h;subst h;exact .refl _
 | y::l,i+1,x,h=>by exact(List.Perm.swap y x _).trans<|(zZ<|~~~h).cons y
theorem FJ{b:Type}(next:Nat->Nat):∀(fuel k:Nat) (left:List b) (a:Array b),left.c<=fuel->(pickOrder.go next fuel k left a).toList.Perm (a.toList++left)
 | 0,k,left,a,h=>by let:left=[]:=zeu.mp ();subst this;unfold pickOrder.go;rw[zdd]
 | fuel+1,k,left,a,h=>by
  unfold pickOrder.go;cases e:left[next k%left.c]? with
  | none=>
   let:left=[]:=by
    cases left with
    | nil=>rfl
    | cons y l=>
     let:=List.getElem?_eq_none_iff.mp e;let:=zaI (next k) (show 0<(y::l).c by simp);lia
   subst this;rw[zdd]
  | some x=>
   let:=FJ next fuel (k+1) (left.eraseIdx<|next k%left.c) (a.push x) (by rw[length_eraseIdx_of_lt<|(zab.mp e).1];lia)
   refine this.trans ?_;erw[Array.toList_push,zcu,(zZ e).append_left _]
theorem pO(next:Nat->Nat)(xs:Array α):(pickOrder next xs).toList.Perm xs.toList:=by
 let:=FJ next xs.size 0 xs.toList #[] A?
 exact this
end Stb
namespace L2
open PySem PySem.Spec PySem.W PySem.Calls PyProof.Rows
section
variable {K:Frag} {σ:St} {H:Hp} {Q:VK}
theorem LF{R:Hp->Prop}{f a:Addr}{xs:List V}{g:TG}{r:TT}{s:TE}(h:Nat->St->List V->Hp->Prop)(w:h 0 σ [] H)(v:∀i σ ys H,i<=xs.c->h i σ ys H->SqT K H a xs)(A:∀i x σ ys H,xs[i]?=some x->i<xs.c->h i σ ys H->InS (h (i+1)) g r s f ys x σ H)(B:∀σ ys H,h xs.c σ ys H->R H):CW (Ov K a) g r s f σ H R:=
 CW.of xs.c h w (λi b ys H u p=>by let q:=v i b ys H () p;exact#[#[xs,xs[i],q,by simp[u]],λx d y=>by let#[e,y]:=y;subst e;exact A i x b ys _ (y xs q) u p]) (λb ys H p=>#[xs,v _ b ys H (zaf _) p,zaf _]) B
end
section
variable {X:Cx} {st:Stmt} {rest:List Stmt} {t:TS}
noncomputable def OL(t:TS):TS:=λD a H=>t { D with nx:=λ_ _=>False } a H
theorem JO(a:PS X st t):AL X (st::rest)<|OL t:=by
 ext pins s b H D I h;refine wpAny_execs_cons<|dD (a pins s b H { D with nx:=λ_ _=>False } I h) λf c q=>?_;cases f with
 | next=>obtain⟨_,_,_,q⟩:=q;exact q.elim
 | ret v=>exact q
 | brk=>exact q
 | cont=>exact q
theorem Qu(h:t { D with nx:=λ_ _=>False } σ H):OL t D σ H:=h
end
end L2
namespace gn
open Gm L2
noncomputable def v4(l:dm):V4:=#[l.getD 0 0,l.getD 1 0,l.getD 2 0,l.getD 3 0]
noncomputable def l4(p:V4):dm:=[p.x,p.y,p.z,p.w]
noncomputable def l3(p:V3):dm:=[p.u,p.v,p.w]
theorem four{l:dm}(h:l.c=4):∃x y z w,l=[x,y,z,w]:=by
 match l,h with
 | [x,y,z,w],_=>exact#[x,y,z,w,rfl]
noncomputable def cl(L:dy)(i:Nat):V4:=v4<|L.getD i []
noncomputable def S3(z:Nat)(p:V3):Prop:=Sz z p.u/\Sz z p.v/\Sz z p.w
noncomputable def Yz(c:Nat->V4)(a:V4)(n:Nat):List Nat:=(List.range n).filter λi=>decide<|dot a (c i)=0
end gn
namespace gn
open PySem L2 Gm
noncomputable def kA(a:List Nat)(b:Nat->Addr):List<|Key×V:=a.map λ(i:Nat)=>((Sum.inl (i:Int):Key),V.ref<|b i)
end gn
namespace L2
open PySem PySem.Spec PySem.W PySem.Calls PyProof.Rows
theorem xP:entryFor table "dict.update.loop"=some Builtin.«dict.update.loop»:=entryFor_of_tree (by kernel_rfl)
theorem mK:plainId "dict.update.loop"=true:=by decide +kernel
end L2
theorem L2.Oe:PySem.bootBuiltins "dict"=some (.type "dict"):=by decide +kernel
namespace gn
open PySem L2 Gm
noncomputable def di(w:Nat×Nat):aA:=((w.1:Int),(w.2:Int))
noncomputable def ri(r:List Nat):dm:=r.map λ(i:Nat)=>(i:Int)
end gn
namespace Dq
open Dt
theorem EY{f:Nat->Rat}:∀{n:Nat},(∀i,i<n->f i=0)->sq n f=0
 | 0,_=>rfl
 | n+1,h=>by show sq n f+f n=0;rw[EY λi a=>h i<|zbt a,h n<|zbv n];grind
theorem I9{f g:Nat->Rat}(a b:Rat):∀(n:Nat),sq n (λi=>a*f i+b*g i)=a*sq n f+b*sq n g
 | 0=>by show(0:Rat)=a*0+b*0;grind
 | n+1=>by show sq n (λi=>a*f i+b*g i)+(a*f n+b*g n)=a*(sq n f+f n)+b*(sq n g+g n);rw[I9 a b n];grind
theorem I8{f:Nat->Rat}{k:Nat}:∀{n:Nat},k<n->(∀i,i<n->i≠k->f i=0)->sq n f=f k
 | n+1,hk,h=>by show sq n f+f n=f k;ext(e:k=n);subst e;rw[EY λi a=>h i (zbt a)<|zba a];grind;rw[I8 () λi a=>h i<|zbt a,h n (zbv n)<|λz=>e z.symm];grind
theorem I0{f:Nat->Rat}{k l:Nat}:∀{n:Nat},k<l->l<n->(∀i,i<n->i≠k->i≠l->f i=0)->sq n f=f k+f l
 | n+1,hk,hl,h=>by show sq n f+f n=f k+f l;ext(e:l=n);subst e;rw[I8 hk λi a z=>h i () z ()];rw[I0 hk () λi a=>h i<|zbt a,h n (zbv n) () ()];grind
noncomputable def sg:Nat->Rat
 | 0=>1
 | n+1=>- sg n
abbrev Mx:=Nat->Nat->Rat
noncomputable def mi(A:Mx)(j:Nat):Mx:=λi l=>A (i+1)<|sk j l
noncomputable def det:Nat->Mx->Rat
 | 0,_=>1
 | n+1,A=>sq (n+1) λj=>sg j*A 0 j*det n (mi A j)
theorem cI(n:Nat)(A:Mx):det (n+1) A=sq (n+1) λj=>sg j*A 0 j*det n (mi A j):=rfl
theorem fe:∀{n:Nat} {A B:Mx},(∀i j,i<n->j<n->A i j=B i j)->det n A=det n B
 | 0,_,_,_=>rfl
 | n+1,A,B,h=>by rw[cI,cI];refine iG λj b=>?_;rw[h 0 j () b,fe (A:=mi A j) (B:=mi B j) λi l c a=>h _ _ ()<|Jg a]
noncomputable def cl(A:Mx)(c:Nat)(v:Nat->Rat):Mx:=λi j=>if j=c then v i else A i j
theorem cz(A:Mx)(c:Nat)(v:Nat->Rat)(i:Nat):cl A c v i c=v i:=zam rfl
theorem dS(v:Nat->Rat)(i:Nat)(h:j≠c):cl A c v i j=A i j:=zaj h
theorem fR(A:Mx)(c:Nat)(v:Nat->Rat):mi (cl A c v) c=mi A c:=by funext i l;exact dS _ _<|OS c l
theorem qK(v:Nat->Rat)(h:j≠c):mi (cl A c v) j=cl (mi A j) (dn j c) λi=>v<|i+1:=by funext i l;unfold mi cl;ext(z:sk j l=c);rw[zam z,zam<|(yE h).mp z];rw[zaj z,zaj<|λy=>z<|(yE h).mpr y]
theorem fc(a b:Rat):∀{n:Nat} (A:Mx) {c:Nat} (v w:Nat->Rat),c<n->det n (cl A c λi=>a*v i+b*w i)=a*det n (cl A c v)+b*det n (cl A c w)
 | n+1,A,c,v,w,hc=>by rw[cI,cI,cI,<-I9];refine iG λj d=>?_;ext(e:j=c);subst e;rw[fR,fR,fR,cz,cz,cz];grind;rw[qK _ e,qK _ e,qK _ e,dS _ _ e,dS _ _ e,dS _ _ e,fc a b (mi A j) (λi=>v<|i+1) (λi=>w<|i+1)<|PB e hc d];grind
theorem ir:∀{n:Nat} {A:Mx} {c:Nat},c+1<n->(∀i,i<n->A i c=A i (c+1))->det n A=0
 | n+1,A,c,hc,h=>by
  rw[cI,I0 (k:=c) (l:=c+1) () hc λj g m o=>?_];let e:det n (mi A c)=det n (mi A<|c+1):=fe λi l d f=>by
   unfold mi;ext(z:l=c);subst z;let a:sk l l=l+1:=by unfold sk;rw[zaj ()]
   let b:sk (l+1) l=l:=by unfold sk;rw[zam ()]
   rw[a,b];exact(h _ ()).symm;let:sk c l=sk (c+1) l:=by unfold sk;split<;>split<;>lia
   rw[this]
  rw[e,<-h 0 ()];show sg c*A 0 c*det n (mi A<|c+1)+(- sg c)*A 0 c*det n (mi A<|c+1)=0;grind;let e:det n (mi A j)=0:=by
   ext(z:j<c);refine ir (c:=c-1) () λi d=>?_;unfold mi;let a:sk j (c-1)=c:=by unfold sk;rw[zaj ()];lia
   let b:sk j (c-1+1)=c+1:=by unfold sk;rw[zaj ()];lia
   rw[a,b];exact h _ ();refine ir (c:=c) () λi d=>?_;unfold mi;let a:sk j c=c:=by unfold sk;rw[zam ()]
   let b:sk j (c+1)=c+1:=by unfold sk;rw[zam ()]
   erw[a,b,h _ ()]
  rw[e];grind
theorem fj(v w:Nat->Rat)(h:c≠d):cl (cl A c v) d w=cl (cl A d w) c v:=by funext i j;unfold cl;ext(z:j=d);rw[zam z,zaj (),zam z];rw[zaj z,zaj z]
theorem i6(A:Mx)(c:Nat):cl A c (λi=>A i c)=A:=by funext i j;unfold cl;split;rename_i e;rw[e];rfl
theorem n9(b:c<n)(f:d<n)(a:c≠d)(h:∀(A:Mx),(∀i,i<n->A i c=A i d)->det n A=0)(A:Mx)(u w:Nat->Rat) :
  det n (cl (cl A c u) d w)=- det n (cl (cl A c w) d u):=by
 let z:∀v:Nat->Rat,det n (cl (cl A c v) d v)=0:=λv=>h _ λi _=>by rw[cz,dS _ _ a,cz]
 let e:det n (cl (cl A c λi=>1*u i+1*w i) d λi=>1*u i+1*w i)=0:=z _;rw[fc 1 1 _ _ _ f,fj _ _ a,fj _ _ a,fc 1 1 _ _ _ b,fc 1 1 _ _ _ b,<-fj _ _ a,<-fj _ _ a,<-fj _ _ a,<-fj _ _ a,z,z]at e;grind
theorem kR:∀(k:Nat) {n:Nat} {A:Mx} {c:Nat},c+1+k<n->(∀i,i<n->A i c=A i (c+1+k))->det n A=0
 | 0,n,A,c,hc,h=>ir hc h
 | k+1,n,A,c,hc,h=>by let s:=n9 () hc () (λB b=>ir (c:=c+1+k) () b) A (λi=>A i<|c+1+k)<|λi=>A i<|c+1+(k+1);rw[i6]at s;rw[i6 A _]at s;rw[s,kR k (c:=c) () λi a=>?_];grind;erw[dS _ _ (),dS _ _ (),dS _ _ (),cz,h i a]
theorem gj(e:c<n)(b:d<n)(f:c≠d)(h:∀i,i<n->A i c=A i d):det n A=0:=by ext(z:c<d);obtain⟨k,rfl⟩:∃k,d=c+1+k:=#[d-(c+1),()];exact kR k b h;obtain⟨k,rfl⟩:∃k,c=d+1+k:=#[c-(d+1),()];exact kR k e λi a=>(h i a).symm
theorem CL(b:c<n)(a:d<n)(e:c≠d)(A:Mx)(u w:Nat->Rat):det n (cl (cl A c u) d w)=- det n (cl (cl A c w) d u):=
 n9 b a e (λ_ h=>gj b a e h) A u w
noncomputable def tr(A:Mx):Mx:=λi j=>A j i
noncomputable def rl(A:Mx)(k:Nat)(v:Nat->Rat):Mx:=λi j=>if i=k then v j else A i j
theorem ja(A:Mx)(k:Nat)(v:Nat->Rat)(j:Nat):rl A k v k j=v j:=zam rfl
theorem lP(v:Nat->Rat)(j:Nat)(h:i≠k):rl A k v i j=A i j:=zaj h
noncomputable def pr:Nat->(Nat->Rat)->Rat
 | 0,_=>1
 | n+1,f=>f 0*pr n λi=>f<|i+1
end Dq
namespace Dt
open PySem L2 Fr Gm
noncomputable def gv(a:List<|Int×Int):Int:=a.foldl (λb f=>b / ((Int.gcd b f.2:Nat):Int)*f.2) 1
theorem gc(a:List<|Int×Int)(f:Int×Int):gv (a++[f])=gv a / ((Int.gcd (gv a) f.2:Nat):Int)*f.2:=by unfold gv;rw[foldl_append];rfl
noncomputable def dq(n:Nat)(R:List<|List<|Int×Int):Rat:=Dq.det n λi j=>fa (R.getD i []) j
end Dt
namespace L2
open PySem PySem.Spec PySem.W PySem.Calls PyProof.Rows Gm
mutual
theorem vc.det{H:Hp}:∀{v:V} {d e:PyData},vc H v d->vc H v e->d=e
 | _,_,_,.int _,.int _=>rfl
 | _,_,_,.lst h a,.lst k b=>by rw[h]at k;cases k;rw[dQ.det a b]
 | _,_,_,.lst h _,.tup k _=>by rw[h]at k;cases k
 | _,_,_,.tup h _,.lst k _=>by rw[h]at k;cases k
 | _,_,_,.tup h a,.tup k b=>by rw[h]at k;cases k;rw[dQ.det a b]
theorem dQ.det{H:Hp}:∀{vs:List V} {f e:List PyData},dQ H vs f->dQ H vs e->f=e
 | _,_,_,.nil,.nil=>rfl
 | _,_,_,.cons a b,.cons c d=>by rw[vc.det a c,dQ.det b d]
end
noncomputable def Si(H:Hp)(c:cx)(a:List PyData):Prop:=c.c=a.c/\∀(j:Nat) (b:Addr) (e:PyData),c[j]?=some b->a[j]?=some e->vc H (.ref b) e/\SeqAt.shaped e=true/\e.depth<=8
end L2
section
set_option maxHeartbeats 2000000
namespace L2
open PySem PySem.Spec PySem.W PySem.Calls PyProof.Rows
theorem drawn(J:s.heap.IsTupleIter i t k)(T:s.heap.IsTuple t xs)(e:xs[k]?=some x)(q:∀g,g.IsTupleIter i t (k+1)->Heap.SameBut i s.heap g->Q x { s with heap:=g }):wpAny (model prog w) A (Builtin.SmallTypes.nextOf<|.ref i) Q E s:=by let#[o,b,d,a]:=id J;let#[p,b1,_,m,c]:=T;unfold Builtin.SmallTypes.nextOf;refine zad<|zcM J.typeIs F.slot_tuple_iterator_next<|zcT F.slot_tuple_iterator_next J.typeIs F.entry_tuple_iterator_next (show wpAny _ _ (field (.ref i) 0 >>= _) _ _ s from zad<|zdP b a rfl ?_)<|F.args_tuple_iterator_next_1 _;show wpAny _ _ (if(Value.ref t==Value.none)=true then _ else(field (.ref i) 1 >>= _)) _ _ s;rw[zaj<|show ¬(Value.ref t==Value.none)=true from zaE];refine zad<|zdP b a rfl<|show wpAny _ _ (seqItems? (.ref t) >>= _) _ _ s from zad<|zcG b1 c ?_;simp[zaB,e];exact zad<|wpAny_setField b a A?<|zay #[x,rfl,zay<|q _ #[_,zbI _ b<|Obj.isFreed_of_fields<|zeo a _,(Obj.cls_mapFields ..).trans d,by rw[zeo a];simp[rawInt]]<|Heap.SameBut.update ..]
end L2
end
namespace gn
open PySem L2 Gm
theorem qG(f:Int×Int):SeqAt.shaped (gw f)=true:=by unfold SeqAt.shaped gw;simp[PyData.canLay0,PyData.canLayAll0,PyData.depth,PyData.depthAll]
theorem Lj(f g:Int×Int):PyData.eqv (gw f) (gw g)=decide (f=g):=by let:=HN [f] [g];unfold Ae at this;simp[PyData.eqv,PyData.eqvAll]at this;rw[this]
theorem By(h:H r=some (.tup [.int f.1,.int f.2])):vc H (.ref r)<|gw f:=.tup h<|.cons (.int _)<|.cons (.int _) .nil
noncomputable def kY(p:List<|Int×Int):PyData:=.tuple<|p.map gw
theorem CM(p:List<|Int×Int):(kY p).depth<=3:=by let:=(pW p).2;unfold kY;simp[PyData.depth];lia
theorem qF(p:List<|Int×Int):SeqAt.shaped (kY p)=true:=by let#[a,b]:=pW p;unfold SeqAt.shaped kY;simp[PyData.canLay0,PyData.depth,a];lia
theorem Li(p q:List<|Int×Int):PyData.eqv (kY p) (kY q)=decide (p=q):=by unfold kY;erw[PyData.eqv,Aa p q]
noncomputable def rj(P:List<|List<|Int×Int):PyData:=.list<|P.map kY
theorem Ft{H:Hp}:∀{f:cx} {c:List PyData},Si H f c->dQ H f.h c
 | [],[],_=>.nil
 | [],_::_,h=>by let:=h.1;simp at this
 | _::_,[],h=>by let:=h.1;simp at this
 | a::f,d::c,h=>.cons (h.2 0 a d rfl rfl).1<|Ft #[~~~h.1,λj b e g i=>h.2 (j+1) b e (~~~g)<|~~~i]
theorem xD:∀P:List (List<|Int×Int),PyData.canLayAll0 (P.map kY)=true/\PyData.depthAll (P.map kY)<=3
 | []=>#[by simp[PyData.canLayAll0],by simp[PyData.depthAll]]
 | p::P=>by let#[a,b]:=xD P;let c:=CM p;refine#[by simp[PyData.canLayAll0,a,SeqAt.canLay_of_shaped<|qF p],?_];simp[PyData.depthAll];lia
theorem j6(P:List<|List<|Int×Int):SeqAt.shaped (rj P)=true:=by let#[a,b]:=xD P;unfold SeqAt.shaped rj;simp[PyData.canLay0,PyData.depth,a];lia
theorem xO:∀P R:List (List<|Int×Int),PyData.eqvAll (P.map kY) (R.map kY)=decide (P=R)
 | [],[]=>by simp[PyData.eqvAll]
 | [],_::_=>by simp[PyData.eqvAll]
 | _::_,[]=>by simp[PyData.eqvAll]
 | p::P,r::R=>by rw[zbx,zbx,PyData.eqvAll,xO P R,Li];by_cases b:p=r<;>by_cases a:P=R<;>simp[b,a]
theorem Gr(P R:List<|List<|Int×Int):PyData.eqv (rj P) (rj R)=decide (P=R):=by unfold rj;erw[PyData.eqv,xO P R]
theorem oh{H:Hp}:∀l:dm,dQ H l.f (l.map .int)
 | []=>.nil
 | i::l=>.cons (.int i)<|oh l
noncomputable def ahd:List (Int×Int)->List (Int×Int)->Bool
 | f::fs,g::gs=>if f=g then ahd fs gs else decide (f.1*g.2<g.1*f.2)
 | _,_=>false
end gn
namespace gn
open PySem L2 Gm Dt
theorem VQ(c:Lw f)(d:Lw g)(h:f.1*g.2=g.1*f.2):f=g:=by
 refine QB c d ?_;let#[f0,_]:=c;let#[i,_]:=d;unfold qt;let a:((f.2:Int):Rat)≠0:=by simp[ne_eq,Rat.intCast_eq_zero_iff];lia
 let b:((g.2:Int):Rat)≠0:=by simp[ne_eq,Rat.intCast_eq_zero_iff];lia
 let e:((f.1*g.2:Int):Rat)=((g.1*f.2:Int):Rat):=by rw[h]
 rw[zcm,zcm]at e;rw[Rat.div_def,Rat.div_def];grind
noncomputable def cnt(P:List<|List<|Int×Int)(x:List<|Int×Int):Nat:=(P.filter λr=>ahd r x).c
noncomputable def un(P:List<|List<|Int×Int)(m:Nat):List Nat:=(List.range m).filter λi=>decide<|P.idxOf (P.getD i [])=i
noncomputable def wk(p:List<|Int×Int)(k:Nat):Int:=(p.getD k (0,1)).1*(gv p / (p.getD k (0,1)).2)
theorem O9:∀{p:List<|Int×Int},(∀f∈p,0<f.2)->0<gv p/\(∀f∈p,f.2 ∣ gv p)/\(gv p).natAbs<=pd p:=by
 ext p i;let a:∀(q r:List<|Int×Int),(∀f∈q++r,0<f.2)->(0<gv q/\(∀f∈q,f.2 ∣ gv q)/\(gv q).natAbs<=pd q)->(0<gv (q++r)/\(∀f∈q++r,f.2 ∣ gv (q++r))/\(gv<|q++r).natAbs<=pd (q++r)):=by
  ext q r;induction r generalizing q with
  | nil=>intro _ h;erw[zdd,h]
  | cons g r m=>
   ext b h;let e:q++g::r=(q++[g])++r:=by simp
   rw[e];refine m (q++[g]) (by erw[<-e,b]) ?_;let#[j,l,d]:=h;let#[k,n1,n2,n3]:=uu j<|b g A?;rw[gc];refine#[k,λf c=>?_,?_];ext(z|z:zal.mp c);exact Int.dvd_trans (l f z) n1;rw[zai.mp z];exact n2;erw[eJ,kz,zaX n3<|zbG _ d]
 simpa using (a [] p (~~~i) #[by decide,by simp,by simp[gv,pd]])
end gn
namespace L2
open PySem PySem.Spec PySem.W PySem.Calls PyProof.Rows
noncomputable def UO(K:Frag)(t:TE):TI:=λc H R=>t c H λx b=>∃a,x=.ref a/\(((∃xs,aI K b a xs)/\R (C1 K a) b)\/((∃xs,SqT K b a xs)/\R (Ov K a) b))
theorem Qv{K:Frag}{t:TE}{c:St}{H:Hp}{R:It->Hp->Prop}(h:t c H λx b=>∃a,x=.ref a/\(((∃xs,aI K b a xs)/\R (C1 K a) b)\/((∃xs,SqT K b a xs)/\R (Ov K a) b))):UO K t c H R:=h
theorem DW(hl:PE X l tl):PI X tg l (UO X.K tl):=by
 intro pins s σ H R I h;refine dD (hl pins s σ H _ I h) λv s1 ⟨x,H1,I1,r1,q1⟩=>?_;obtain⟨a,e,q1⟩:=q1;subst e;cases r1
 rcases q1 with⟨⟨xs,hq⟩,q⟩|⟨⟨xs,hq⟩,q⟩
 ·obtain⟨aZ,rv,p,hz⟩:=I1.list hq;refine zey p.isList ?_;refine⟨s1.heap.objs.size,[s1.heap.objs.size],_,_,H1,rfl,I1.kept λb o e=>zap _ e,wN a _,⟨_,zaK _ rfl,rfl,rfl⟩,λb hb=>?_,q⟩;have e:b=s1.heap.objs.size:=by simpa using hb
  subst e;exact I1.qZ (zaf _) (I1.cw.fresh (zaf _))
 ·obtain⟨aZ,rv,p,hz⟩:=I1.tuple hq;refine wpAny_pyIter_tuple (show s1.heap.IsTuple a aZ.toArray from p) ?_;refine⟨s1.heap.objs.size,[s1.heap.objs.size],_,_,H1,rfl,I1.kept λb o e=>zap _ e,Dr a _,⟨_,zaK _ rfl,rfl,rfl⟩,λb hb=>?_,q⟩;have e:b=s1.heap.objs.size:=by simpa using hb
  subst e;exact I1.qZ (zaf _) (I1.cw.fresh (zaf _))
theorem oY:typeLookup (.type "zip") "__getattr__"=pure none:=by rw[zdF,zcy];kernel_rfl
theorem vv:typeLookup (.type "zip") "keys"=pure none:=by rw[zdF,zcy];kernel_rfl
theorem kP:entryFor table "zip.__getattribute__"=some Builtin.«object.__getattribute__»:=entryFor_alias (id':= "object.__getattribute__") (by kernel_rfl) B? B? (by kernel_rfl)
theorem ug(a:Addr)(vs:Array Value)(i:Array<|Option Value)(name:Str)(u:Tok)(h:typeLookup (.type "zip") name=pure none)(c:(["__module__", "__name__", "__qualname__", "__doc__", "__annotations__"]:List Str).contains name=false)(hsz:name.c+100<=sizeLine:=by size_fits) :
  Meets (Builtin.«object.__getattribute__» #[[.ref a,.str name u],[]]) (λA R s=>s.heap.get? a=some { cls:=.type "zip",dict:=none,data:=.fields vs,slots:=i }/\raisesAttr (.ref a) name A R s):=
 Meets.of_wp λprog w A R s b=>by
  let#[f,g,d,e,k]:=s;let#[j,b]:=b;let l:(#[f,g,d,e,k]:Shared).TypeIs (.ref a) "zip":=#[_,j,rfl];unfold Builtin.«object.__getattribute__»;repeat (any_goals (first|assumption|wp_step))
  simp only[c,zbD,zcP];repeat (any_goals (first|assumption|wp_step))
  exact wpAny_raiseAttrError b.1 b.2<|attrMsg_fits B? hsz
theorem Kq(i:s.heap.get? a=some { cls:=.type "zip",dict:=none,data:=.fields xs,slots:=sl })(n:A.handled=none)(h:∀h' f,(∀b o,s.heap.get? b=some o->h'.get? b=some o)->Q none { s with heap:=h',toks:=f }):wpAny (model prog w) A (getAttr? (.ref a) "keys") Q E s:=by
 let#[l,g,d,f,m]:=s;let k:∀c,(#[l,g,d,c,m]:Shared).TypeIs (.ref a) "zip":=λ_=>#[_,i,rfl];let p:=sub_AttributeError;let t:=PySem.F.slot_zip_getattribute.lookup;let q:=PySem.F.slot_zip_getattribute.bind<|.ref a;let v:=oY;unfold getAttr? getAttrBy? getAttrBy;repeat (any_goals (first|assumption|exact k _ | ((with_reducible show wpAny _ _ (call (Value.builtin "zip.__getattribute__") _ _) _ _ _);refine zdM PySem.F.slot_zip_getattribute (k _) kP (PySem.F.args_zip_getattribute_2 _ _) (ug a xs sl "keys" _ vv B? B?) #[i,n,λh' c e j=>?_]) | wp_step))
 let#[t',u,r]:=j.there;unfold getattributeRaised;repeat (any_goals (first|assumption|wp_step))
 exact h h' c j.keeps
section
variable {X:Cx} {pins:de} {σ:St} {H:Hp} {s:Shared} {A:Around} {E:da}
theorem EC(I:Inv X pins σ H s)(e:H d=some (.dK kvs))(l:kvs.c<sizeLine)(m:RelV (kV k) u)(rv:RelV v r)(h:∀b,Heap.SameBut d s.heap b.heap->Inv X pins σ (upd H d<|.dK<|ff kvs k v) b->Q Unit.unit b):wpAny (model X.prog X.w) A (dictSet d u r) Q E s:=by
 let#[z,j,vs,a,n]:=xS I.cw e;let o:vs.c<=sizeLine:=by erw[<-a.c,z]
 let g:(ff kvs k v).c<=sizeLine:=by let:=fT kvs k v;lia
 refine wpAny_dictSet_pairs (uD m) n λh' c f=>h _ f ?_;let i:∃q,h'.get? d=some q:=let ⟨q,_,_,hq,_⟩:=c;#[q,hq]
 exact sr I (by erw[e,True.intro]) f i<|EA g j (a.put k rv) c
noncomputable def om(a kv:List<|Key×V):List<|Key×V:=kv.foldl (λb p=>ff b p.1 p.2) a
theorem GS{d z TI TO j g q t:Addr}{R:Result->Shared->Prop}{kv:List<|Key×V}(hA:A.in1.handled=none)(D:ZipApart z TI TO j g q t)(G:aI X.K H q<|kv.map λp=>kV p.1)(P:aI X.K H t<|kv.map (·.2))(hd:H d=none)(dn:d∉[z,TI,TO,j,g])(k:∀c∈[z,TI,TO,j,g],oU X pins H c)(n1:q≠d)(n2:t≠d) :
  ∀(m i:Nat) (a:List<|Key×V) (s:Shared),kv.c-i=m->i<=kv.c->a.c+(kv.c-i)<sizeLine->Inv X pins σ (upd H d<|.dK a) s->d<s.d->qP s.heap z TI TO j g q t d i->
   (∀r,Inv X pins σ (upd H d<|.dK<|om a<|kv.drop i) r->R (.ok<|.ret .none) r)->codeAny (model X.prog X.w) A (.builtin "dict.update.loop" #[[.ref d,.ref z,rawInt (i:Int),.none],[]]) R s:=by
 let sq:∀{a:List<|Key×V} {l:Addr} {xs:List V},l≠d->aI X.K H l xs->aI X.K (upd H d<|.dK a) l xs:=λ{a l xs} n h=>by unfold aI Rd at *;erw[aG n,h]
 let M:∀a:List (Key×V),∀c∈[z,TI,TO,j,g],oU X pins (upd H d<|.dK a) c:=λa c f=>#[aG (λe:c=d=>dn<|by erw[<-e,f])>>(k c f).1,(k c f).2];ext m;induction m with
 | zero=>
  ext i a s hm hi hz I v st h;let Y:i=kv.c:=();let#[U,F,C,_]:=I.list<|sq n1 G;let#[ib,O,x,_]:=I.list<|sq n2 P;let la:=F.c;rw[zaa]at la;refine zck xP ?_;rw[zbO mK _];unfold Builtin.«dict.update.loop»;refine zad<|IC hA D st C.isList x.isList (by simp;lia) λh' B=>?_;let I1:Inv X pins σ (upd H d<|.dK a) { s with heap:=h' }:=Inv.rC I (λc o f e=>B c o (λy=>f<|by simp[zbp,zaV,zbs]at y ⊢;ext(y|y|y|y:y)<;>simp[y]) e)<|M a;refine zad<|zay ?_;refine zay<|h _ ?_;erw[Y,drop_length,I1]
 | succ m ih=>
  ext i a s hm hi hz I v st h;let u:i<kv.c:=();let#[U,F,C,_]:=I.list<|sq n1 G;let#[ib,O,x,_]:=I.list<|sq n2 P;let#[u1,Z,MO]:=F.get (by rw[zao,zac u];rfl);let#[u2,Y6,MN]:=O.get (by rw[zao,zac u];rfl);refine zck xP ?_;rw[zbO mK _];unfold Builtin.«dict.update.loop»;refine zad<|ES D st v C.isList x.isList (~~~Z) (~~~Y6) λh' S L hsz B=>?_;refine zad<|zbS ?_;refine zad<|zeB ?_;unfold Builtin.Dict.pairItems;refine zad<|zfk #[_,L,rfl] ?_;rw[zam B!];refine zad<|zcG L rfl<|zay ?_;refine zbS<|EC (Inv.rC I (λc o f e=>B c o (λy=>f<|by simp[zbp,zaV,zbs]at y ⊢;ext(y|y|y|y:y)<;>simp[y]) e)<|M a) ae () MO MN λr N Q=>?_;rw[Mz]at Q;let lp:=fT a kv[i].1 kv[i].2;refine zay #[zci mK _,ih (i+1) (ff a kv[i].1 kv[i].2) r () () () Q (by rw[N.1];erw[hsz,zbt v]) (S.keep (λb o hb e=>(N.2 b hb).trans e) dn) λW J2=>h W ?_];erw[zcc u,J2]
noncomputable def A2(K:Frag)(e:TA):TE:=λσ H Q=>e σ H λvs c=>∃(a b:Addr) (kv:List<|Key×V),vs=[.ref a,.ref b]/\aI K c a (kv.map λp=>kV p.1)/\aI K c b (kv.map (·.2))/\kv.c<=1000/\∀d,c d=none->Q (.ref d) (upd c d<|.dK<|om [] kv)
theorem pK{K:Frag}{e:TA}{σ:St}{H:Hp}{Q:VK}(h:e σ H λvs c=>∃(a b:Addr) (kv:List<|Key×V),vs=[.ref a,.ref b]/\aI K c a (kv.map λp=>kV p.1)/\aI K c b (kv.map (·.2))/\kv.c<=1000/\∀d,c d=none->Q (.ref d) (upd c d<|.dK<|om [] kv)):A2 K e σ H Q:=h
theorem EI:bootBuiltins "dict"=some (.type "dict"):=by decide +kernel
theorem nO{Y:TA}{p p2 g O:Pos}(B:X.calm=true)(hm:X.mg "zip"=none)(Ei:X.mg "dict"=none)(ha:PA X [l,m] Y)(hg:Gl X "zip":=by rfl)(K2:Gl X "dict":=by rfl)(he:starEach [l,m] X.env=(false,eval l X.env)::starEach [m] X.env:=by rfl)(AD:(backTo g<|starEach [m] X.env).any (·.1)=false:=by rfl)(U:starEach [.Call (.Name "zip" p) [l,m] [] g] X.env=(false,eval (.Call (.Name "zip" p) [l,m] [] g) X.env)::starEach [] X.env:=by rfl) :
  PE X (.Call (.Name "dict" p2) [.Call (.Name "zip" p) [l,m] [] g] [] O) (A2 X.K Y):=by
 ext pins s σ H Q I h;refine Call_<|dM I K2 Ei EI<|zaJ ?_ U rfl;rw[U];show wpAny _ _ (spliced<|(false,eval (.Call (.Name "zip" p) [l,m] [] g) X.env)::backTo O (starEach [] X.env)) _ _ s;refine zbH ?_;refine Call_<|dM I hg hm qx<|zaJ (dD (ha g pins s σ H _ I h) λus d ⟨vs,C,r,r1,q1⟩=>?_) he AD;let#[a,b,kv,rfl,S,Z,hz,q]:=q1;let#[u1,u2,rfl,MO,MN]:=vals2 r1;cases MO;cases MN;let#[ia,ra,R,za]:=r.list S;let#[ib,rb,P,zb]:=r.list Z;let t:a<d.d:=by let#[_,e,_]:=R.isList;exact zar e
 let v:b<d.d:=by let#[_,e,_]:=P.isList;exact zar e
 let f:∀{j k:Nat},j≠k->d.d+j≠d.d+k:=λh z=>h<|zfi z;let n:∀{c:Addr} (k:Nat),c<d.d->c≠d.d+k:=λk l=>zba<|zaQ l<|zbw _ _;let D:ZipApart (d.d+4) (d.d+2) (d.d+3) d.d (d.d+1) a b:=
  #[f B!,f B!,f (j:=0) B!,f B!,f B!,f (k:=0) B!,f B!,f (k:=0) B!,f B!,f (j:=0) B!,n _ t,n _ t,n 0 t,n _ t,n _ v,n _ v,n 0 v,n _ v]
 refine call_zip_2 R.isList P.isList λh' y AI Em h1 h2 hsz hk=>?_;refine zbT ?_;let L:Inv X pins σ C { d with heap:=h' }:=r.kept (t':=d.toks) λc o e=>hk c o e;let hA:X.A.handled=none:=r.ok.hd B;let hd:C h'.e=none:=L.cw.fresh<|zaf _;refine callType_codes (s:={ d with heap:=h' }) (Q₁:=λobj i=>obj=.ref h'.e/\i={ d with heap:=h'.push { cls:=.type "dict",data:=.dict #[] } }) PySem.F.kt_called_dict (PySem.F.kt_typeCall_dict_1 _) PySem.F.entry_dict_init (kt_code_dict_new (s:={ d with heap:=h' }) _ #[rfl,rfl]) ?_;ext obj i ⟨rfl,rfl⟩;let Zc:(h'.e==sysModules)=false:=zdp>>zbM L.big
 let M:(h'.push { cls:=.type "dict",data:=.dict #[] }).DictOf (cg X.prog X.w) h'.e []:=Heap.DictOf.new h';let I3:Inv X pins σ (upd C h'.e<|.dK []) { d with heap:=h'.push { cls:=.type "dict",data:=.dict #[] } }:=L.laid (t':=d.toks) (λb u e=>zap _ e) (zaf _) #[zaR _,Zc,[],.nil,M];refine#[M.typeIs,PySem.F.args_dict_init_2 _ _,?_];unfold Builtin.«dict.__init__»;refine zad ?_;unfold Builtin.Dict.selfAndRest;refine zad<|wpAny_notOrdered_dict M.typeIs ?_;show wpAny _ _ (pure (h'.e,[Value.ref<|d.d+4])) _ _ _;refine zay ?_;show wpAny _ _ (Builtin.Dict.updateFrom _ h'.e (.ref<|d.d+4) [] .none) _ _ _;unfold Builtin.Dict.updateFrom;let G:=zap { cls:=.type "dict",data:=.dict #[] } y;refine zad<|zfk (T:= "zip") #[_,G,rfl] ?_;rw[zam B!];refine zad<|Kq G (show X.A.in1.in1.handled=none from hA) λN tk keep=>?_;let I4:=I3.kept (h':=N) (t':=tk) keep;dsimp only;rw[zam<|show(none:Option Value).isNone=true from rfl];refine zad<|wpAny_rule ?_;refine zad<|zeJ (keep _ _ G) ?_;let x:∀c o,h'.get? c=some o->N.get? c=some o:=λc o e=>keep c o<|zap _ e;refine zay #[zci mK _,?_];let Z9:h'.e∉[d.d+4,d.d+2,d.d+3,d.d,d.d+1]:=by rw[hsz];simp only[zbp,zaV,zbs,zen];exact#[f B!,f B!,f B!,f (k:=0) B!,f B!]
 refine GS (A:=X.A.in1) (kv:=kv) (H:=C) (show X.A.in1.in1.handled=none from hA) D S Z hd Z9 (λc B=>?_) (λe=>by rw[e,hsz]at t;exact absurd t<|zfS.mpr<|zbw _ _) (λe=>by rw[e,hsz]at v;exact absurd v<|zfS.mpr<|zbw _ _) kv.c 0 [] _ () (zaR _) (by rw[zak];simp;lia) I4 (zar<|keep _ _<|zaK h' (o:={ cls:=.type "dict",data:=.dict #[] }) rfl) ?_ λs' J=>#[rfl,.ref h'.e,_,J,rfl,q _ hd];let W:d.d<=c:=by simp only[zbp,zaV,zbs]at B;ext(rfl|rfl|rfl|rfl|rfl:B);exact zbw _ _;exact zbw _ _;exact zbw _ _;exact zaf _;exact zbw _ _
 exact r.qZ W<|r.cw.fresh W;exact#[.inl #[rfl,x _ _ y,_,_,x _ _ Em],x _ _ AI,h1.at λo e=>x _ o e,h2.at λo e=>x _ o e]
end
noncomputable def Qz:List V->Hp->VK->Prop:=λxs H Q=>∃(a:Addr) (b:List<|Key×V),xs=[.ref a]/\H a=some (.dK b)/\∀d,H d=none->Q (.ref d) (upd H d<|.dK b)
theorem EG:eF X (.type "dict") Qz:=by
 ext pins s t H xs p Q I r h;let#[a,c,rfl,j,q]:=h;let#[u,rfl,l]:=vals1 r;obtain rfl:u=Value.ref a:=l;let#[d,k,vs,kv,m]:=xS I.cw j;let n:=kv.c;refine kt_call_dict k m () λh' i f=>?_;let g:(s.d==sysModules)=false:=zdp>>zbM I.big
 refine#[.ref s.d,_,I.laid (λb o e=>?_) (zaf _)<|show bU X.prog X.w _ h' _ (.dK c)from#[d,g,vs,kv,i],rfl,q _<|I.cw.fresh<|zaf _];erw[f.2 b<|zba<|zar e,zap _ e]
theorem GU{b:List<|Key×V}{vs:List<|Key×Value}(kv:KV b vs){a:Array Value}(h:ItemsOf (λi v=>∃k,vs[i]?=some (k,v)) a vs.c):Vals (b.map (·.2)) a.toList:=by
 let e:a.toList=vs.map (·.2):=by refine kdl_vals_eq a.toList (zbm>>h.1) λj v c=>h.2 j v (by erw[<-zcY,c])
 rw[e];clear h e;induction kv with
 | nil=>exact .nil
 | cons h _ d=>exact .cons h.2 d
noncomputable def wO(e:TE):TE:=λd H Q=>e d H λx c=>∃(a:Addr) (b:List<|Key×V),x=.ref a/\c a=some (.dK b)/\∀p,c p=none->Q (.ref p) (upd c p<|.lst<|b.map (·.2))
theorem tD(h:te σ H λx c=>∃(a:Addr) (b:List<|Key×V),x=.ref a/\c a=some (.dK b)/\∀p,c p=none->Q (.ref p) (upd c p<|.lst<|b.map (·.2))):wO te σ H Q:=h
theorem qI{r:TE}{D R apos f:Pos}(A:X.calm=true)(C:X.mg "list"=none)(O:PE X o r)(z:Gl X "list":=by rfl)(u:attributeBase o "values" X.env (eval o X.env)=eval o X.env:=by rfl)(L:(apos.endLine==f.line)=true:=by rfl)(p:starEach [.Call (.Attribute o "values" apos) [] [] f] X.env=(false,eval (.Call (.Attribute o "values" apos) [] [] f) X.env)::starEach [] X.env:=by rfl) :
  PE X (.Call (.Name "list" D) [.Call (.Attribute o "values" apos) [] [] f] [] R) (wO r):=by
 ext pins s m H Q I h;refine Call_<|dM I z C i7<|zaJ ?_ p rfl;rw[p];refine zbH ?_;refine wpAny_Call_method0_late u L<|dD (O pins s m H _ I h) λv j ⟨x,t,i,G,B⟩=>?_;let#[a,d,rfl,n,q]:=B;cases G;let#[y,N]:=Dm (x:=.ref a) i rfl<|.inr<|.inr<|.inl #[rfl,.inl #[d,n]];let#[K,P,vs,kv,k]:=xS i.cw n;let S:=kv.c;refine#["dict", "dict.values",PySem.F.plainAttrs_dict,PySem.F.slot_dict_values,PySem.F.type_dict_values,y,N,zdw rfl<|PySem.evalArgs_none ?_];refine call_meetsIn PySem.F.slot_dict_values k.typeIs PySem.F.entry_dict_values (PySem.F.args_dict_values_1 _) (meets_dict_values (cg X.prog X.w) a P) #[#[vs,k],?_];refine zbT ?_;let l:Inv X pins m t { j with heap:=j.heap.push { cls:=.type "dict_values",data:=.fields #[.ref a,] } }:=i.kept λb o e=>zap _ e;let#[W,M]:=(k.push { cls:=.type "dict_values",data:=.fields #[.ref a,] }).dictAt;refine kdl_call (kdl_values) (l.ok.hd A) #[#[_,zaK _ rfl,rfl,rfl],M] () λh' U g c E e it=>?_;refine#[.ref (j.heap.push { cls:=.type "dict_values",data:=.fields #[.ref a,] }).e,_,l.laid E (zaf _)<|show bU X.prog X.w _ h' _ (.lst<|d.map (·.2))from#[zaa>>K,g.toList,c,GU kv it,zcH>>e],rfl,q _<|l.cw.fresh<|zaf _]
theorem CP{R:Hp->Prop}{f:Addr}{lo:Int}{n:Nat}{g:TG}{r:TT}{s:TE}(h:Nat->St->List V->Hp->Prop)(w:h 0 σ [] H)(A:∀i σ ys H,i<n->h i σ ys H->InS (h (i+1)) g r s f ys (.int (lo-i)) σ H)(B:∀σ ys H,h n σ ys H->R H):CW (Am lo n) g r s f σ H R:=
 CW.of n h w (λi b ys H u p=>#[u,λx d y=>by obtain⟨rfl,rfl⟩:=y;exact A i b ys _ u p]) (λ_ _ _ _=>zaf _) B
theorem HY{X:Cx}{K:Frag}(h:X.K=K)(a:X.calm=true):eF X (.builtin "sum")<|Ub K:=h▸LG a
structure OE(K:Frag)(mg:cB)(x:Str)(st:Stmt)(ps:List Str):Prop where
 ex:∃(f:Addr) (od an:Option Addr) (sl:Array<|Option Value) (oc dV kV dc pm cd ct:Value),K.lookup f=some #[oc,od,.func<|fnOf x x (fh st) (dI st) (aB st) dV kV dc pm an cd ct,sl]/\codeIn K cd x=true/\keepIn K (.ref f)=true/\mg x=f.i/\Binds K (fnOf x x (fh st) (dI st) (aB st) dV kV dc pm an cd ct) ps [.none]
structure Ox(P:Program)(w:World)(K:Frag)(mg:cB)(base:Heap)(CX:Dj)(x:Str)(k:Nat)(ps:List Str)(sp:Sp):Prop where
 ex:∃f fd,rq P w K mg base CX k f fd ps sp/\mg x=f.i/\keepIn K (.ref f)=true/\Binds K fd ps [.none]
section
variable {X:Cx} {CX:Dj} {k j:Nat} {ps:List Str} {sp:Sp} {E:XK} {x:Str} {p pos:Pos} {e:Expr} {es:List Expr} {t:TA}
theorem Hd(h:Ox X.prog X.w X.K X.mg X.base CX x k ps sp)(g:gJ j X.A)(n:Passes CX X E)(i:PA X (e::es) t)(l:k<=j:=by decide)(d:Gl X x:=by rfl)(a:(x==("__debug__":Str))=false:=by decide)(m:starEach (e::es) X.env=(false,eval e X.env)::starEach es X.env:=by rfl)(q:(backTo pos<|starEach es X.env).any (·.1)=false:=by rfl) :
  PE X (.Call (.Name x p) (e::es) [] pos) (wR sp [.fU] E t):=by
 let#[f,r,F,b,o,c]:=h.ex;exact FQ F (g.mono l) d b o c (.cons rfl .nil) n i a m q
end
section
variable {P:Program} {w:World} {K:Frag} {mg:cB} {base:Heap}
theorem OE.cE{x:Str}{st:Stmt}{k:Nat}{sp:Sp}(D:OE K mg x st ps)(S:aM N ps<|aB st)(a:∀vs H Q E,sp vs H Q E->vs.c=ps.c)(n:∀(f:Addr) (b:Value) (A:Around) (outer:List Env) (s:Shared) (H:Hp) (vs:List V) (Q:VK) (E:XK),gJ k (A.deeper<|envOfC x (aB st) s.d f b)->sp vs H Q E->
   ∃t,AL (Ag (bO P w) P w K mg base N x (aB st) f b A outer s H E).O6 (dI st) t/\t { nx:=λ_ i=>Q .fU i,rt:=Q } (start N vs) H):Ox P w K mg base (bO P w) x (k+1) ps sp:=by
 let#[f,y,r,z,u,v,kV,p,B,l,ct,lk,d,g,m,j]:=D.ex;refine#[#[f,_,Ld lk d S a λA o s H vs Q E c e=>?_,m,g,j]];let#[t,h,q]:=n f l A o s H vs Q E c e;exact#[t,h.O6,q]
end
structure DefDIn(K:Frag)(x:Str)(st:Stmt):Prop where
 ex:∃(f t:Addr) (od an:Option Addr) (sl:Array<|Option Value) (oc kV dc pm cd ct:Value) (o:Obj) (n:Nat),nsIn K mainGlobals x=some (f.i)/\K.lookup f=some #[oc,od,.func<|fnOf x x (fh st) (dI st) (aB st) (.ref t) kV dc pm an cd ct,sl]/\codeIn K cd x=true/\keepIn K (.ref f)=true/\K.lookup t=some o/\o.data=.seq #[.none,] n
theorem DefDIn.mk0{K:Frag}{x:Str}{st:Stmt}{f t:Addr}{d h:Option Addr}{e:Array<|Option Value}{i kV g j b ct:Value}{o:Obj}{n:Nat}(a:nsIn K mainGlobals x=some (f.i))(l:K.lookup f=some #[i,d,.func<|fnOf x x (fh st) (dI st) (aB st) (.ref t) kV g j h b ct,e])(c:codeIn K b x=true)(k:keepIn K (.ref f)=true)(m:K.lookup t=some o)(p:o.data=.seq #[.none,] n):DefDIn K x st:=#[#[f,t,d,h,e,i,kV,g,j,b,ct,o,n,a,l,c,k,m,p]]
section
variable {K:Frag} {h:Heap} {mg:cB} {x:Str} {st:Stmt} {ps:List Str}
theorem DefDIn.gH(d:DefDIn K x st)(X:K.In h)(G:h.Ns mainGlobals mg)(r:∀(t:Addr) (kV i g:Value) (e:Option Addr) (q ct:Value) (b:cq),b.c+1=ps.c->∃k:Option (Array Value)->Sem (List<|Str×Value),bindArgs (fnOf x x (fh st) (dI st) (aB st) (.ref t) kV i g e q ct) #[b,[]]=seqItems? (.ref t) >>= k/\k (some #[.none,])=pure (ps.zip<|b++[.none])):OE K mg x st ps:=by let#[f,t,v,e,w,A,kV,p,g,m,ct,o,n,a,l,c,D,y,C]:=d.ex;refine#[#[f,v,e,w,A,.ref t,kV,p,g,m,ct,l,c,D,mg_of X G a,λs b z j=>?_]];rw[zav]at j;let#[k,u,B]:=r t kV p g e m ct b j;exact BindsTo.of_defaults rfl (z _ _ y) C u B
end
theorem JZ(a:PE X (.List xs pos) te)(b:PA X es t):PA X (.List xs pos::es)<|fo te t:=aa a b C!
theorem JX(a:PE X (.Tuple xs x1 pos) te)(b:PA X es t):PA X (.Tuple xs x1 pos::es)<|fo te t:=aa a b C!
theorem BK(a:PE X (.Constant v j pos) te)(b:PA X es t):PA X (.Constant v j pos::es)<|fo te t:=aa a b C!
theorem gV(a:PE X (.Name x pos) te)(b:PA X es t):PA X (.Name x pos::es)<|fo te t:=aa a b C!
theorem JW(a:PE X (.UnaryOp o e pos) te)(b:PA X es t):PA X (.UnaryOp o e pos::es)<|fo te t:=aa a b C!
theorem JY(a:PE X (.Subscript e i pos) te)(b:PA X es t):PA X (.Subscript e i pos::es)<|fo te t:=aa a b C!
end L2
namespace Pg
structure V2 where
 x:Int
 y:Int
noncomputable def cr(a b:V2):Int:=a.x*b.y-a.y*b.x
noncomputable def sub(a b:V2):V2:=#[a.x-b.x,a.y-b.y]
noncomputable def ng(a:V2):V2:=#[-a.x,-a.y]
noncomputable def Pos(a:V2):Prop:=0<a.x\/(a.x=0/\0<a.y)
theorem DV(a:V2):Pos a\/Pos (ng a)\/(a.x=0/\a.y=0):=by unfold Pos ng;lia
theorem Na(h:Pos a):¬Pos (ng a):=by unfold Pos ng at *;dsimp only at *;lia
theorem hZ{a b:Int}(c:0<a):(0<a*b↔0<b):=by constructor;ext h;refine Int.not_le.mp λz=>?_;let:=zep (zcQ c) z;lia;exact zbN c
theorem BE(c:Pos a)(d:Pos b)(e:0<=s)(g:0<t):Pos #[s*a.x+t*b.x,s*a.y+t*b.y]:=by unfold Pos at *;ext(d|⟨d,h⟩:d);let:=zbN g d;ext(c|⟨c,_⟩:c);let:=Int.mul_nonneg e<|zcQ c;left;lia;rw[c];left;lia;rw[d];let:=zbN g h;ext(c|⟨c,f⟩:c);ext(z|z:Int.lt_or_eq_of_le e);let:=zbN z c;left;lia;rw[<-z];right;lia;rw[c];let:=Int.mul_nonneg e<|zcQ f;right;lia
theorem Hc(a:Pos b)(h:Pos #[k*b.x,k*b.y]):0<k:=by refine Int.not_le.mp λz=>?_;unfold Pos at *;dsimp only at h;ext(a|⟨a,c⟩:a);let:=zeq z<|zcQ a;ext(h|⟨h,h'⟩:h);lia;ext(y|y:Int.lt_or_eq_of_le z);let:=Int.mul_neg_of_neg_of_pos y a;lia;rw[y]at h';lia;rw[a]at h;let:=zeq z<|zcQ c;lia
theorem PH(e:Pos a)(g:Pos b)(i:Pos c)(j:0<=cr a b)(d:0<cr b c):0<cr a c:=by
 refine Hc g ?_;let:=BE i e j d;let f:cr a b*c.x+cr b c*a.x=cr a c*b.x:=by unfold cr;grind
 let h:cr a b*c.y+cr b c*a.y=cr a c*b.y:=by unfold cr;grind
 rwa[f,h]at this
theorem PJ(a b:V2):cr a (ng b)=- cr a b:=by unfold cr ng;grind
theorem FV(a b:V2):cr (ng a) (ng b)=cr a b:=by unfold cr ng;grind
theorem LA(a b:V2):cr b a=- cr a b:=by unfold cr;grind
noncomputable def ed(p:Nat->V2)(i:Nat):V2:=sub (p<|i+1)<|p i
noncomputable def tu(p:Nat->V2)(i j k:Nat):Int:=cr (sub (p j)<|p i)<|sub (p k)<|p i
structure Bl(p:Nat->V2)(n s a:Nat):Prop where
 fH:∀i,p (i+n)=p i
 Ih:∀i,0<cr (ed p i) (ed p<|i+1)
 up:∀i,s<=i->i<s+a->Pos (ed p i)
 dn:∀i,s+a<=i->i<s+n->Pos (ng<|ed p i)
theorem uU(h:∀i,p (i+n)=p i)(i:Nat):ed p (i+n)=ed p i:=by unfold ed;rw[show i+n+1=(i+1)+n by lia,h,h]
theorem Jn{e:Nat->V2}{lo c:Nat}(b:∀i,0<cr (e i) (e<|i+1))(a:∀i,lo<=i->i<c->Pos (e i)){i:Nat}(f:lo<=i):∀d,i+d+1<c->0<cr (e i) (e<|i+d+1)
 | 0,h=>b i
 | d+1,h=>PH (a i f ()) (a (i+d+1) () ()) (a (i+(d+1)+1) () h) (zcQ<|Jn b a f d ())<|b<|i+d+1
theorem Fn{e:Nat->V2}{lo a:Nat}(b:∀i,0<cr (e i) (e<|i+1))(d:∀i,lo<=i->i<a->Pos (e i)){i j:Nat}(c:lo<=i)(g:i<j)(f:j<a):0<cr (e i) (e j):=by let:=Jn b d c (j-i-1) ();rwa [show i+(j-i-1)+1=j by lia]at this
theorem Bl.VS(B:Bl p n s a)(b:s<=k)(c:k<s+a)(l:a<=n)(f:k<j)(g:j+1<k+n)(h:cr (ed p k) (ed p j)<=0):cr (ed p k) (ed p<|j+1)<0:=by ext(m:s+n<=j+1);let e:=uU B.fH<|j+1-n;rw[show j+1-n+n=j+1 by lia]at e;rw[e,LA];let:=Fn B.Ih B.up (i:=j+1-n) (j:=k) () () c;lia;ext(d:j<s+a);let:=Fn B.Ih B.up b f d;lia;let:=PH (B.up k b c) (B.dn j () ()) (B.dn (j+1) () ()) (by rw[PJ];lia) (FV>>B.Ih j);rw[PJ]at this;lia
theorem Bl.Pw{s a:Nat}(B:Bl p n s a){k:Nat}(b:s<=k)(c:k<s+a)(e:a<=n){j:Nat}(f:k<j)(h:cr (ed p k) (ed p j)<=0):∀d,j+d+1<k+n->cr (ed p k) (ed p<|j+d+1)<0
 | 0,h2=>B.VS b c e f h2 h
 | d+1,h2=>B.VS b c e () h2<|zcQ<|B.Pw b c e f h d ()
theorem rD(k j:Nat):tu p k (k+1) (j+1)=tu p k (k+1) j+cr (ed p k) (ed p j):=by unfold tu ed sub cr;grind
theorem IM(k:Nat):tu p k (k+1) (k+1)=0:=by unfold tu cr;grind
theorem P6(k:Nat):tu p k (k+1) k=0:=by unfold tu sub cr;grind
theorem Bl.left(B:Bl p n s a)(g:s<=k)(i:k<s+a)(o:a<=n):∀j,k+1<j->j<k+n->0<tu p k (k+1) j:=by
 ext j;induction j with
 | zero=>intro h;lia
 | succ j m=>
  ext r w;rw[rD];ext(c:j=k+1);subst c;let:=B.Ih k;rw[IM];lia;let v:=m () ();refine Int.not_le.mp λz=>?_;let st:cr (ed p k) (ed p j)<0:=();let e:∀d,j+d+1<=k+n->tu p k (k+1) (j+d+1)<=tu p k (k+1) (j+1)-d:=by
   ext d;induction d with
   | zero=>intro _;simp
   | succ d b=>
    ext h;let q:=b ();let u:=B.Pw g i o (j:=j) () (zcQ st) d ();let t:=rD (p:=p) k<|j+d+1;rw[show j+(d+1)+1=j+d+1+1 by lia];lia
  let f:=e (k+n-j-1) ();rw[show j+(k+n-j-1)+1=k+n by lia,rD]at f;let l:tu p k (k+1) (k+n)=0:=by let:=P6 (p:=p) k;unfold tu at this ⊢;erw[B.fH k,this]
  rw[l]at f;lia
variable {p:Nat->V2} {n:Nat}
noncomputable def Mn(p:Nat->V2)(i:Nat):Prop:=Pos (ng<|ed p i)/\Pos (ed p<|i+1)
noncomputable def Bd(p:Nat->V2):Prop:=∀i,0<cr (ed p i) (ed p<|i+1)
noncomputable def Gl(p:Nat->V2)(n:Nat):Prop:=∀k j,k+1<j->j<k+n->0<tu p k (k+1) j
noncomputable def Un(p:Nat->V2)(n:Nat):Prop:=∃m,m<n/\Mn p m/\∀i,i<n->Mn p i->i=m
theorem Gs(h:Bd p):¬((ed p i).x=0/\(ed p i).y=0):=λ⟨b,a⟩=>by let:=h i;unfold cr at this;rw[b,a]at this;simp at this
theorem QU(h:∀i,p (i+n)=p i)(i:Nat):Mn p (i+n)↔Mn p i:=by unfold Mn;rw[uU h,show i+n+1=(i+1)+n by lia,uU h]
theorem P5(h:∀i,p (i+n)=p i)(i j k:Nat):tu p (i+n) (j+n) (k+n)=tu p i j k:=by unfold tu;rw[h,h,h]
noncomputable def neg(p:Nat->V2):Nat->V2:=λi=>ng<|p i
theorem Ab(i:Nat):ed (neg p) i=ng (ed p i):=by unfold ed neg sub ng;congr 1<;>lia
theorem O7(a:V2):ng (ng a)=a:=by unfold ng;simp
theorem P7(i j k:Nat):tu (neg p) i j k=tu p i j k:=by unfold tu neg sub ng cr;grind
theorem Bl.turn(B:Bl p n s a)(d:a<=n):Bl (neg p) n (s+a) (n-a) where
 fH:=λi=>by unfold neg;rw[B.fH]
 Ih:=λi=>Ab>>Ab>>FV>>B.Ih i
 up:=λi b c=>Ab>>B.dn i b ()
 dn:=λi b c=>by let e:=uU B.fH<|i-n;rw[show i-n+n=i by lia]at e;erw[Ab,O7,e,B.up (i-n) () ()]
theorem Bl.all(B:Bl p n s a)(b:a<=n)(f:s<=k)(g:k<s+n)(e:k+1<j)(d:j<k+n):0<tu p k (k+1) j:=by ext(c:k<s+a);exact B.left f c b j e d;let:=(B.turn b).left () () () j e d;rwa [P7]at this
theorem HL{Q:Nat->Prop}:∀(b:Nat),¬Q b->∃a,a<=b/\¬Q a/\∀i,i<a->Q i:=by
 ext b;induction b using Nat.strongRecOn with
 | ind b g=>
  ext d;ext(h:∃i,i<b/\¬Q i);let#[i,c,j]:=h;let#[a,k,f,e]:=g i c j;exact#[a,(),f,e];exact#[b,zaf _,d,λi c=>zaA λz=>h #[i,c,z]]
theorem Wj(fH:∀i,p (i+n)=p i)(b:Bd p)(u:Un p n):∃s a,s<=n/\a<=n/\Bl p n s a:=by
 let#[m,l,#[g,r],un]:=u;let last:¬Pos (ed p<|m+1+(n-1)):=λz=>by rw[show m+1+(n-1)=m+n by lia,uU fH]at z;exact Na z g
 let#[a,t,k,all]:=HL (Q:=λd=>Pos<|ed p<|m+1+d) (n-1) last;refine#[m+1,a,l,(),fH,b,λi j o=>?_,?_];let:=all (i-(m+1)) ();rwa [show m+1+(i-(m+1))=i by lia]at this;let f:∀d,m+1+a+d<m+1+n->Pos (ng<|ed p<|m+1+a+d):=by
  ext d;induction d with
  | zero=>
   ext _;ext(z|z|z:DV<|ed p<|m+1+a);exact absurd z k;exact z;exact absurd z<|Gs b
  | succ d q=>
   ext h;ext(z|z|z:DV<|ed p<|m+1+a+(d+1));exfalso;let mn:Mn p<|m+1+a+d:=#[q (),z];ext(c:m+1+a+d<n);let:=un _ c mn;lia;let e:=QU fH<|m+1+a+d-n;rw[show m+1+a+d-n+n=m+1+a+d by lia]at e;let:=un _ ()<|e.mp mn;lia;exact z;exact absurd z<|Gs b
 ext i j o;let:=f (i-(m+1+a)) ();rwa [show m+1+a+(i-(m+1+a))=i by lia]at this
theorem Nb(fH:∀i,p (i+n)=p i)(q:Nat):∀i,p (i+n*q)=p i:=by
 induction q with
 | zero=>intro i;rfl
 | succ q a=>intro i;rw[zdV,<-zdZ,fH,a]
theorem jd(fH:∀i,p (i+n)=p i)(k d:Nat):p (k+d)=p (k%n+d):=by
 let e:k+d=(k%n+d)+n*(k / n):=by let:=Nat.mod_add_div k n;lia
 rw[e,Nb fH]
theorem IP(fH:∀i,p (i+n)=p i)(k a b:Nat):tu p k (k+a) (k+b)=tu p (k%n) (k%n+a) (k%n+b):=by unfold tu;rw[jd fH k a,jd fH k b];let:=jd fH k 0;rw[zbu,zbu]at this;rw[this]
theorem T8(h:0<n)(fH:∀i,p (i+n)=p i)(g:Bd p)(u:Un p n):Gl p n:=by
 let#[s,a,m,f,B]:=Wj fH g u;let small:∀k j,k<n->k+1<j->j<k+n->0<tu p k (k+1) j:=λk j l b d=>by ext(c:s<=k);exact B.all f c () b d;let:=B.all f (k:=k+n) () () (j:=j+n) () ();rwa[show k+n+1=(k+1)+n by lia,P5 fH]at this
 ext k j b d;let e:=IP fH k 1<|j-k;rw[show k+(j-k)=j by lia]at e;erw[e,small _ _ (zaI _ h) () ()]
theorem K8(a:3<=n)(h:Gl p n):Bd p:=λi=>by let:=h i (i+2) () ();let e:=rD (p:=p) i<|i+1;rw[IM]at e;rw[show i+2=i+1+1 by lia,e]at this;lia
theorem BD(a:0<k)(h:Pos #[k*v.x,k*v.y]):Pos v:=by unfold Pos at *;dsimp only at h;ext(h|⟨h,h'⟩:h);exact .inl<|(hZ a).mp h;refine .inr #[?_,(hZ a).mp h'];ext(z|z:Int.mul_eq_zero.mp h);lia;exact z
theorem oy(l:3<=n)(fH:∀i,p (i+n)=p i)(h:Gl p n)(m:Mn p i)(o:i+1<j)(q:j<i+1+n):Pos<|sub (p j)<|p<|i+1:=by
 let#[e,f]:=m;ext(d:j=i+2);subst d;exact f;ext(c:j=i+n);subst c;rw[fH];let:sub (p i) (p<|i+1)=ng (ed p i):=by unfold sub ng ed sub;congr 1<;>lia
 rw[this];exact e;refine BD (K8 l h i) ?_;let d:0<cr (sub (p j)<|p<|i+1) (ng<|ed p i):=by
  let:cr (sub (p j)<|p<|i+1) (ng<|ed p i)=tu p i (i+1) j:=by unfold tu cr ng ed sub;grind
  erw[this,h i j () ()]
 let c:0<cr (ed p<|i+1) (sub (p j)<|p<|i+1):=h (i+1) j () ();let:=BE f e (zcQ d) c;let g:cr (sub (p j)<|p<|i+1) (ng<|ed p i)*(ed p<|i+1).x+cr (ed p<|i+1) (sub (p j)<|p<|i+1)*(ng<|ed p i).x=cr (ed p i) (ed p<|i+1)*(sub (p j)<|p<|i+1).x:=by generalize sub (p j) (p<|i+1)=v;generalize ed p (i+1)=a;generalize ed p i=b;unfold cr ng;dsimp only;grind
 let k:cr (sub (p j)<|p<|i+1) (ng<|ed p i)*(ed p<|i+1).y+cr (ed p<|i+1) (sub (p j)<|p<|i+1)*(ng<|ed p i).y=cr (ed p i) (ed p<|i+1)*(sub (p j)<|p<|i+1).y:=by generalize sub (p j) (p<|i+1)=v;generalize ed p (i+1)=a;generalize ed p i=b;unfold cr ng;dsimp only;grind
 rw[g,k]at this;exact this
theorem Ca(p:Nat->V2):∀n,0<n->∃m,m<n/\∀i,i<n->Pos (sub (p i)<|p m)\/(p i).x=(p m).x/\(p i).y=(p m).y
 | 0,h=>absurd h<|zbq _
 | 1,_=>#[0,(),λi a=>.inr<|by erw[show i=0 by lia,#[rfl,rfl]]]
 | n+2,_=>by let#[m,b,h]:=Ca p (n+1) ();ext(z|z|z:DV<|sub (p<|n+1)<|p m);refine#[m,(),λi a=>?_];ext(c:i=n+1);rw[c];exact .inl z;exact h i ();refine#[n+1,(),λi a=>?_];ext(c:i=n+1);rw[c];exact .inr #[rfl,rfl];left;let:=h i ();unfold Pos sub ng at *;dsimp only at *;lia;refine#[m,(),λi a=>?_];ext(c:i=n+1);rw[c];right;unfold sub at z;dsimp only at z;lia;exact h i ()
theorem VJ(a:3<=n)(fH:∀i,p (i+n)=p i)(h:Gl p n):Un p n:=by
 let g:=K8 a h;let#[m,r,o]:=Ca p n ();let b:∀i,Pos (sub (p i)<|p m)\/(p i).x=(p m).x/\(p i).y=(p m).y:=λi=>by let e:=jd fH i 0;rw[zbu,zbu]at e;erw[e,o _<|zaI _ ()]
 obtain⟨i,l,e⟩:∃i,i<n/\p (i+1)=p m/\p (i+2)=p (m+1):=by
  cases m with
  | zero=>exact#[n-1,(),by rw[show n-1+1=0+n by lia,fH],by rw[show n-1+2=1+n by lia,fH]]
  | succ m=>exact#[m,(),rfl,rfl]
 let mn:Mn p i:=by
  constructor;let:=b i;ext(z|z:this);rw[<-e.1]at z;let:ng (ed p i)=sub (p i) (p<|i+1):=by unfold sub ng ed sub;dsimp only;congr 1<;>lia
  rw[this];exact z;exact absurd #[by unfold ed sub;dsimp only;rw[e.1];lia,by unfold ed sub;dsimp only;rw[e.1];lia]<|Gs (i:=i) g;ext(z|z:b<|m+1);unfold ed;rw[e.1,show i+1+1=i+2 by lia,e.2];exact z;exact absurd #[by unfold ed sub;dsimp only;lia,by unfold ed sub;lia]<|Gs (i:=m) g
 refine#[i,l,mn,λk q mk=>?_];refine zaA λs=>?_;let d:Pos<|sub (p<|k+1)<|p<|i+1:=by ext(c:i<k);exact oy a fH h mn (j:=k+1) () ();let:=oy a fH h mn (j:=k+1+n) () ();rwa [fH]at this
 let f:Pos<|sub (p<|i+1)<|p<|k+1:=by ext(c:k<i);exact oy a fH h mk (j:=i+1) () ();let:=oy a fH h mk (j:=i+1+n) () ();rwa [fH]at this
 unfold Pos sub at d f;dsimp only at d f;lia
theorem K7(a:3<=n)(fH:∀i,p (i+n)=p i):Gl p n↔Bd p/\Un p n:=
 #[λh=>#[K8 a h,VJ a fH h],λ⟨h,u⟩=>T8 () fH h u]
variable {p:Nat->V2} {n:Nat}
noncomputable def rv(p:Nat->V2)(n:Nat):Nat->V2:=λi=>p<|n-1-i%n
theorem Qi(i:Nat):rv p n (i+n)=rv p n i:=by unfold rv;rw[zax]
theorem FR(fH:∀i,p (i+n)=p i)(i:Nat):p (i%n)=p i:=by let:=jd fH i 0;rw[zbu,zbu]at this;exact this.symm
theorem xQ(b:0<n)(fH:∀i,p (i+n)=p i)(h:(i+a+2)%n=0):ed (rv p n) i=ng (ed p a):=by
 let c:rv p n i=p (a+1):=by
  unfold rv;rw[<-FR fH (a+1)];congr 1;let d:=zaI i b;let f:=zaI (a+1) b;let:(i%n+(a+1)%n+1)%n=0:=by rw[<-h,show i+a+2=i+(a+1)+1 by lia,zbU (i%n+(a+1)%n) 1,zbU (i+(a+1)) 1,zbU i<|a+1]
  ext(z|z:zdc (i%n+(a+1)%n+1) n);rw[zaz z]at this;lia;rw[zcV z]at this;ext(y|y:zdc (i%n+(a+1)%n+1-n) n);rw[zaz y]at this;lia;lia
 let e:rv p n (i+1)=p a:=by
  unfold rv;rw[<-FR fH a];congr 1;let d:=zaI (i+1) b;let f:=zaI a b;let:((i+1)%n+a%n+1)%n=0:=by rw[<-h,show i+a+2=i+1+a+1 by lia,zbU ((i+1)%n+a%n) 1,zbU (i+1+a) 1,zbU (i+1) a]
  ext(z|z:zdc ((i+1)%n+a%n+1) n);rw[zaz z]at this;lia;rw[zcV z]at this;ext(y|y:zdc ((i+1)%n+a%n+1-n) n);rw[zaz y]at this;lia;lia
 unfold ed;rw[c,e];unfold sub ng;dsimp only;congr 1<;>lia
theorem mS(b:0<n)(i:Nat):∃a,a<n/\(i+a+2)%n=0:=by refine#[(n-(i+2)%n)%n,zaI _ b,?_];let h:=zaI (i+2) b;rw[show i+(n-(i+2)%n)%n+2=(i+2)+(n-(i+2)%n)%n by lia,zbU,zbJ];ext(c:(i+2)%n=0);rw[c];simp;rw[zaz (show n-(i+2)%n<n by lia),show(i+2)%n+(n-(i+2)%n)=n by lia,zdz]
theorem TZ(b:0<n)(fH:∀i,p (i+n)=p i):Bd (rv p n)↔∀i,cr (ed p i) (ed p<|i+1)<0:=by constructor;ext h a;let#[i,_,d]:=mS b<|a+1;let:=h i;rw[xQ b fH (a:=a+1) (by rw[<-d];congr 1<;>lia),xQ b fH (a:=a) (by rw[<-d];congr 1<;>lia),FV,LA]at this;lia;ext h i;let#[a,_,c]:=mS b<|i+1;let:=h a;rw[xQ b fH (show(i+(a+1)+2)%n=0 from by rw[<-c];congr 1<;>lia),xQ b fH<|show(i+1+a+2)%n=0 from c,FV,LA];lia
theorem Fm(b:0<n)(fH:∀i,p (i+n)=p i)(h:(i+a+3)%n=0):Mn (rv p n) i↔Mn p a:=by unfold Mn;erw[xQ b fH (a:=a+1) (by rw[<-h];congr 1<;>lia),xQ b fH (a:=a) (by rw[<-h];congr 1<;>lia),O7,#[λ⟨x,y⟩=>#[y,x],λ⟨x,y⟩=>#[y,x]]]
theorem IJ(c:i<n)(d:j<n)(e:(i+a)%n=0)(f:(j+a)%n=0):i=j:=by
 let g:0<n:=();rw[zbU,zaz c]at e;rw[zbU,zaz d]at f;let k:=zaI a g;let b:∀x,x<n->(x+a%n)%n=0->(a%n=0/\x=0)\/x+a%n=n:=λx l h=>by ext(z|z:zdc (x+a%n) n);rw[zaz z]at h;lia;rw[zcV z,zaz ()]at h;lia
 let:=b i c e;let:=b j d f;lia
theorem TX(c:0<n)(fH:∀i,p (i+n)=p i):Un (rv p n) n↔Un p n:=by
 constructor;ext⟨m,l,h,u⟩;let#[a,o,e]:=mS c<|m+1;let g:(m+a+3)%n=0:=by rw[<-e];congr 1<;>lia
 refine#[a,o,(Fm c fH g).mp h,λb k q=>?_];let#[i,j,f]:=mS c<|b+1;let d:(i+b+3)%n=0:=by rw[<-f];congr 1<;>lia
 let:=u i j<|(Fm c fH d).mpr q;subst this;exact IJ (a:=i+3) k o (by rw[<-d];congr 1<;>lia) (by rw[<-g];congr 1<;>lia);ext⟨a,o,h,u⟩;let#[m,l,e]:=mS c<|a+1;let g:(m+a+3)%n=0:=by rw[<-e];congr 1<;>lia
 refine#[m,l,(Fm c fH g).mpr h,λi j mi=>?_];let#[b,k,f]:=mS c<|i+1;let d:(i+b+3)%n=0:=by rw[<-f];congr 1<;>lia
 let:=u b k<|(Fm c fH d).mp mi;subst this;exact IJ (a:=b+3) j l (by rw[<-d];congr 1<;>lia) (by rw[<-g];congr 1<;>lia)
theorem TY(a:3<=n)(fH:∀i,p (i+n)=p i):Gl (rv p n) n↔(∀i,cr (ed p i) (ed p<|i+1)<0)/\Un p n:=by rw[K7 a Qi,TZ () fH,TX () fH]
end Pg
section
set_option maxHeartbeats 1000000
namespace Al
open PySem L2 Fr Gm Fw
open Dt (gv gc pd eJ kz)
open gn (V3 l3 S3 tn)
def top(i:Nat):Stmt:=PySem.Challenge.pw_standup_k62_right_drawings.main.body.getD i<|.Pass #[0,0,0,0]
abbrev nK:Stmt:=top 10
abbrev sZ:Stmt:=top 11
abbrev DG:Stmt:=top 12
abbrev pB:Stmt:=top 13
abbrev yM:Stmt:=top 14
abbrev sY:Stmt:=top 15
abbrev lG:Stmt:=top 16
abbrev jx:Stmt:=top 17
abbrev yH:Stmt:=top 18
abbrev yL:Stmt:=top 19
abbrev yO:Stmt:=top 20
abbrev gC:Stmt:=top 22
abbrev yJ:Stmt:=top 23
abbrev gX:Stmt:=top 25
abbrev ke:Stmt:=top 26
abbrev Jl:Stmt:=top 27
abbrev jv:Stmt:=top 28
abbrev gD:Stmt:=top 29
abbrev pD:Stmt:=top 30
abbrev sX:Stmt:=top 31
abbrev yK:Stmt:=top 33
abbrev ju:Stmt:=top 34
abbrev pz:Stmt:=top 35
abbrev iL:Stmt:=top 37
abbrev ka:Stmt:=top 38
abbrev j9:Stmt:=top 39
abbrev DF:Stmt:=top 40
abbrev lH:Stmt:=top 41
abbrev jw:Stmt:=top 42
abbrev kd:Stmt:=top 44
abbrev pA:Stmt:=top 45
abbrev kg:Stmt:=top 46
abbrev yN:Stmt:=top 47
abbrev yI:Stmt:=top 48
abbrev iO:Stmt:=top 50
abbrev ku:Stmt:=top 51
abbrev lO:Stmt:=top 52
abbrev iN:Stmt:=top 53
abbrev lI:Stmt:=top 54
abbrev jy:Stmt:=top 55
abbrev iQ:Stmt:=top 56
abbrev eW:Stmt:=top 57
abbrev ko:Stmt:=top 58
abbrev jz:Stmt:=top 59
abbrev kr:Stmt:=top 60
abbrev lK:Stmt:=top 61
abbrev lJ:Stmt:=top 62
abbrev iP:Stmt:=top 63
abbrev kj:Stmt:=top 64
abbrev nM:Stmt:=top 65
abbrev jA:Stmt:=top 66
abbrev iM:Stmt:=top 67
abbrev ki:Stmt:=top 68
abbrev kh:Stmt:=top 69
abbrev tf:Stmt:=top 70
structure XW where
 nothing:Nat
structure Txt(K:zde)(mg:cB)(Z:XW):Prop where
 abs:mg "abs"=none
 len:mg "len"=none
 isinstance:mg "isinstance"=none
 int:mg "int"=none
 bool:mg "bool"=none
 enumerate:mg "enumerate"=none
 range:mg "range"=none
 min:mg "min"=none
 max:mg "max"=none
 list:mg "list"=none
 reversed:mg "reversed"=none
 sorted:mg "sorted"=none
 set:mg "set"=none
 zip:mg "zip"=none
 all:mg "all"=none
 sum:mg "sum"=none
 dict:mg "dict"=none
def sM(K:zde):Sp:=λvs H Q _=>∃(a:Addr) (ns:dm) (m:Nat),vs=[.ref a,.int (m:Int)]/\aI K H a ns.f/\ns.c<=63/\0<m/\m<=30/\
 ∀(t:Addr) (b:dm) H',af H H'->H t=none->H' t=some (.lst b.f)->b.c=m->(∀x∈b,0<=x/\x<10 ^ 60+7)->Q (.ref t) H'
def lC:Sp:=λvs H Q _=>∃(n b p:Int),vs=[.int n,.int b,.int p]/\0<=n/\n<10 ^ 61/\2<=b/\b<=100/\0<=p/\p<=100/\∀d:Int,0<=d->d<b->Q (.int d) H
def Fj:Sp:=λvs H Q _=>∃n:Int,vs=[.int n]/\0<=n/\n<10 ^ 61/\∀t b R m a,af H a->aQ a t b R->m<=8->TR R m->Q (.ref t) a
def jQ:Sp:=λvs H Q _=>∃(p:Addr) (b:cx) (R:dy) (n:Nat),vs=[.ref p]/\aQ H p b R/\TR R n/\n<=60/\∀a,af H a->Q (.int (n:Int)) a
def sH:Sp:=λvs H Q _=>∃(p:Addr) (c:cx) (R:dy) (n:Nat) (k:Int),vs=[.ref p,.int k,.int (n:Int)]/\aQ H p c R/\TR R n/\n<=60/\0<=k/\k<10 ^ 61/\∀t d b a,af H a->aQ a t d b->TR b (n+1)->Q (.ref t) a
def Bh:Sp:=λvs H Q _=>∃(p:Addr) (c:cx) (R:dy) (n:Nat) (k:Int),vs=[.ref p,.int k]/\aQ H p c R/\TR R n/\n<=60/\0<=k/\k<10 ^ 61/\∀t d b a,af H a->aQ a t d b->TR b n->Q (.ref t) a
def lB:Sp:=λvs H Q _=>∃(p:Addr) (c:cx) (L R:dy),vs=[.ref p]/\aQ H p c R/\eA L/\gK L R/\L.c<=60/\∀g b a,af H a->H g=none->CD a g L R b->Q (.ref g) a
def wV:Sp:=λvs H Q _=>∃(p:Addr) (c:cx) (R:dy) (n:Nat),vs=[.ref p]/\aQ H p c R/\TR R n/\n<=60/\∀t d b a,af H a->aQ a t d b->TR b R.c->Q (.ref t) a
def wZ:Sp:=λvs H Q _=>∃(h:Addr) (b:dm),vs=[.ref h]/\H h=some (.lst b.f)/\6<=b.c/\(∀x∈b,0<=x/\x<10 ^ 60+7)/\∀t c R n a,af H a->aQ a t c R->n<=8->TR R n->Q (.ref t) a
def Bg:Sp:=λvs H Q _=>∃(p:Addr) (c:cx) (R:dy) (n:Nat) (k:Int),vs=[.ref p,.int k]/\aQ H p c R/\TR R n/\n<=60/\0<=k/\k<10 ^ 61/\∀t d b a,af H a->aQ a t d b->TR b n->Q (.ref t) a
def sO:Sp:=λvs H Q _=>∃(p:Addr) (d:cx) (R:dy) (n:Nat) (k:Int),vs=[.ref p,.int k]/\aQ H p d R/\TR R n/\n<=60/\0<=k/\k<10 ^ 61/\∀t c L a,af H a->aQ a t c L->(t::c).Nodup->(∀b∈t::c,H b=none)->eA L->L.c=n->Q (.ref t) a
def wX:Sp:=λvs H Q _=>∃(p:Addr) (a:cx) (L:dy) (d:aA),vs=[.ref p,.int d.1,.int d.2]/\aQ H p a L/\aH L/\Dt L d/\Q (.int (nx L d).2) H
def Fc:Sp:=λvs H Q _=>∃(p:Addr) (a:cx) (L:dy) (d:aA),vs=[.ref p,.int d.1,.int d.2]/\aQ H p a L/\aH L/\Dt L d/\(dR L L.c).c<128/\
 ∀(r:Addr) (k:Nat) H',af H H'->H r=none->H' r=some (.lst<|(bj L d k).f)->0<k->it L d k=d->mD L d k->Q (.ref r) H'
def Bi:Sp:=λvs H Q _=>∃(a:Addr) (r:dm),vs=[.ref a]/\H a=some (.lst r.f)/\0<r.c/\r.c<=1000/\
 ∀(b:Addr) (c:Nat) H',af H H'->H b=none->H' b=some (.lst<|(du r c).f)->c<r.c->(∀j,j<r.c->Le (du r c) (du r j))->Q (.ref b) H'
def A6:Sp:=λvs H Q _=>∃(a:Addr) (r:dm),vs=[.ref a]/\H a=some (.lst r.f)/\0<r.c/\r.c<=1000/\
 ∀(t:Addr) (b:cx) H',af H H'->H t=none->H' t=some (.lst b.h)->PR H' b (sh 0 r)->Q (.ref t) H'
def jR:Sp:=λvs H Q _=>∃(p:Addr) (c:cx) (L:dy),vs=[.ref p]/\aQ H p c L/\aH L/\L.c<=60/\(dR L L.c).c<128/\
 ∀(t:Addr) (a:cx) (R:dy) H',af H H'->aQ H' t a R->(t::a).Nodup->(∀b∈t::a,H b=none)->dU L R->Q (.ref t) H'
def Fb:Sp:=λvs H Q _=>∃(p:Addr) (c:cx) (L:dy),vs=[.ref p]/\aQ H p c L/\L.c<=60/\aH L/\
 ∀t b a,af H a->H t=none->a t=some (.lst b.h)->PR a b (iq L L.c)->Q (.ref t) a
def yy:Sp:=λvs H Q _=>∃(p:Addr) (b:cx) (L:dy) (S:dm) (st:Int) (sh:Addr),vs=[.ref p,.int st,.ref sh]/\aQ H p b L/\H sh=some (.lst S.f)/\L.c<=60/\aH L/\0<=st/\st<L.c/\
 ∀(t:Addr) (a:dm) H',af H H'->H t=none->H' t=some (.dK<|a.map λx=>(Sum.inl x,V.bl true))->a.Nodup->(∀x,x∈a↔eg L S st x)->Q (.ref t) H'
section
open Dt
def Dy:Sp:=λvs H Q _=>∃a b:Int,vs=[.int a,.int b]/\Q (.int (Int.gcd a b:Nat)) H
def sJ:Sp:=λvs H Q _=>∃a b:Int,vs=[.int a,.int b]/\b≠0/\Sz 9000 b/\∀t u p c,Low a b t u->af H c->c p=some (.tup [.int t,.int u])->Q (.ref p) c
theorem PL(c:b≠0)(d:Sz 9000 b):Ms x ((Int.gcd a b:Nat):Int):=by let e:=oK a c;refine#[(),Sz.le d ?_];simpa using (zew a c)
theorem PK(h:Ms x d):Ms x<|-d:=#[λe=>h.1 (),h.2.neg]
def Jc:Sp:=λvs H Q _=>∃(p:Addr) (b:cx) (L:dy) (n m c:Nat),vs=[.ref p,.int (c:Int)]/\aQ H p b L/\nV L n m/\c<n/\c<m/\n<=1000/\m<=1000/\(∃r,c<=r/\r<n/\mx L r c≠0)/\
 ∀(q:Addr) (d:cx) (a:dy) H',af H H'->aQ H' q d a->Led L a n c->Q (.ref q) H'
def Jw(r l:dm)(c:Nat)(d:Int):dm:=List.zipWith (λx y=>(l.getD c 0*x-r.getD c 0*y).fdiv d) r l
def Bb:Sp:=λvs H Q _=>∃(a b:Addr) (r l:dm) (c m:Nat) (d:Int),vs=[.ref a,.ref b,.int (c:Int),.int d]/\H a=some (.lst r.f)/\H b=some (.lst l.f)/\r.c=m/\l.c=m/\c<m/\m<=1000/\d≠0/\Sz 9000 d/\(∀x∈r,Sz 9000 x)/\(∀x∈l,Sz 9000 x)/\
 ∀(t:Addr) H',af H H'->H t=none->H' t=some (.lst<|(Jw r l c d).f)->Q (.ref t) H'
def Bo:Sp:=λvs H Q _=>∃(p:Addr) (b:cx) (L:dy) (n m c:Nat) (d:Int),vs=[.ref p,.int (c:Int),.int d]/\aQ H p b L/\nV L n m/\c<n/\c<m/\n<=1000/\m<=1000/\d≠0/\Sz 9000 d/\(∀l∈L,∀x∈l,Sz 9000 x)/\
 ∀(q:Addr) (e:cx) (a:dy) H',af H H'->aQ H' q e a->Clr L a n m c d->Q (.ref q) H'
def sP:Sp:=λvs H Q _=>∃(p:Addr) (b:cx) (L:dy) (n m M:Nat),vs=[.ref p]/\aQ H p b L/\nV L n m/\n<=m/\n<=1000/\m<=1000/\1<=M/\(∀i j,(mx L i j).natAbs<=M)/\((n+1)*(2*M)) ^ (n+1)<2 ^ 9000/\Inj n m (mx L)/\
 ∀(q:Addr) (c:cx) (a:dy) (A:Mx) (d:Int) H',af H H'->aQ H' q c a->nV a n m->Cd n m M n n (mx L) (mx a) d A->Q (.ref q) H'
structure SzR(R:List<|List<|Int×Int)(gs:List<|Int×Int):Prop where
 rt:∀fs∈R,∀f∈fs,f.2=1/\f.1.natAbs<=2 ^ 20
 gt:∀g∈gs,g.2=1/\g.1.natAbs<=2 ^ 20
def wW:Sp:=λvs H Q _=>∃(p o:Addr) (d c:cx) (R:List<|List<|Int×Int) (a:List<|Int×Int) (n:Nat),vs=[.ref p,.ref o]/\FG H p d R/\H o=some (.lst c.h)/\PR H c a/\rA n R a/\n<=8/\SzR R a/\NS n R/\
 ∀(t:Addr) (b:cx) (xs:List<|Int×Int) H',af H H'->H t=none->H' t=some (.lst b.h)->PR H' b xs->xs.c=n->(∀x∈xs,Lw x/\Sz 226 x.1/\Sz 226 x.2)->gn n R a xs->Q (.ref t) H'
end
def Be:Sp:=λvs H Q _=>∃(p b:Addr) (c:cx) (L:dy) (S:dm),vs=[.ref p,.ref b]/\aQ H p c L/\H b=some (.lst S.f)/\aH L/\L.c<=60/\∀a,af H a->Q (.bl<|AA L S) a
def A9:Sp:=λvs H Q _=>∃n:Nat,vs=[.int (n:Int)]/\n<=60/\∀(t:Addr) (a:cx) H',af H H'->aQ H' t a (eV n n)->(t::a).Nodup->(∀b∈t::a,H b=none)->Q (.ref t) H'
def sL:Sp:=λvs H Q _=>∃(p:Addr) (b:cx) (L:dy),vs=[.ref p]/\aQ H p b L/\aH L/\L.c<=60/\
 ((eV L.c L.c).find? (AA L)=none->∀a,af H a->Q .fU a)/\(∀S,(eV L.c L.c).find? (AA L)=some S->∀(x:Addr) a,af H a->a x=some (.lst S.f)->Q (.ref x) a)
def Bn:Sp:=λvs H Q _=>∃(p:Addr) (a:cx) (L:dy),vs=[.ref p]/\aQ H p a L/\aH L/\L.c<=60/\(dR L L.c).c<128/\
 ∀(R:dy) H',af H H'->dU L R->Q (.int<|(L.c:Int)+R.c-(iq L L.c).c+iso L) H'
def A5:Sp:=λvs H Q _=>∃(p:Addr) (b:cx) (L:dy) (k:Nat),vs=[.ref p,.int (k:Int)]/\aQ H p b L/\aH L/\k<L.c/\L.c<=60/\∀a,af H a->Q (.bl false) a
def w9:Sp:=λvs H Q _=>∃(p:Addr) (b:cx) (L:dy),vs=[.ref p]/\aQ H p b L/\aH L/\L.c<=60/\∀a,af H a->Q .fU a
open gn (V3 l3 S3 tn)
def EZ:Sp:=λvs H Q _=>∃(a b c:Addr) (p q r:V3),vs=[.ref a,.ref b,.ref c]/\H a=some (.lst<|(l3 p).f)/\H b=some (.lst<|(l3 q).f)/\H c=some (.lst<|(l3 r).f)/\S3 3000 p/\S3 3000 q/\S3 3000 r/\Q (.int<|tn p q r) H
def LT(H:Hp)(a:Addr)(xs:List V):Prop:=H a=some (.lst xs)\/H a=some (.tup xs)
theorem LT.same(h:LT H a xs)(e:af H H'):LT H' a xs:=h.elim (λz=>.inl<|e _ _ z) λz=>.inr<|e _ _ z
def mG:Sp:=λvs H Q _=>∃(a:Addr) (c:cx) (b:List<|Int×Int) (z:Nat),vs=[.ref a]/\LT H a c.h/\PR H c b/\Fq z b/\z<=9000/\b.c<=1000/\
 (0<gv b->(∀f∈b,f.2 ∣ gv b)->(gv b).natAbs<=pd b->Q (.int<|gv b) H)
def rE:Sp:=λvs H Q _=>∃(a:Addr) (c:cx) (b:List<|Int×Int) (z:Nat),vs=[.ref a]/\LT H a c.h/\PR H c b/\Fq z b/\z<=9000/\b.c<=1000/\
 ∀(t:Addr) (l:dm) H',af H H'->H t=none->H' t=some (.lst l.f)->Wh b (gv b) l->(gv b).natAbs<=pd b->Q (.ref t) H'
def A4:Sp:=λvs H Q _=>∃(a:Addr) (c:cx) (b:List<|Int×Int) (z:Nat),vs=[.ref a]/\LT H a c.h/\PR H c b/\Fq z b/\z<=9000/\b.c<=900/\
 ∀(t:Addr) (l:dm) H',af H H'->H t=none->H' t=some (.lst<|(l++[gv b]).f)->Wh b (gv b) l->(∀f∈b,f.2 ∣ gv b)->Q (.ref t) H'
def Bj:Sp:=λvs H Q _=>∃(p:Addr) (b:cx) (L:dy),vs=[.ref p]/\aQ H p b L/\L.c<=60/\0<L.c/\aH L/\
 ∀(a:dm) H',af H H'->a.Nodup->(∀x,x∈a↔eg L [] 0 x)->Q (.bl<|decide<|(a.c:Int)=L.c) H'
def t3(l:dm):V3:=#[l.getD 0 0,l.getD 1 0,l.getD 2 0]
def ve(L:dy)(k:Nat):Prop:=∀i,2<=i->i<L.c->0<tn (t3<|L.getD k []) (t3<|L.getD ((k+1)%L.c) []) (t3<|L.getD ((k+i)%L.c) [])
def GP(L:dy):Prop:=3<=L.c/\∀k,k<L.c->ve L k
def Fg:Sp:=λvs H Q _=>∃(p:Addr) (b:cx) (L:dy),vs=[.ref p]/\aQ H p b L/\(∀l∈L,l.c=3/\∀x∈l,Sz 3000 x)/\L.c<=200/\(GP L->∀a,af H a->Q (.bl true) a)/\(¬GP L->∀a,af H a->Q (.bl false) a)
def k7(H:Hp)(a:Addr)(p:List<|Int×Int):Prop:=∃b,H a=some (.tup b.h)/\PR H b p
theorem k7.same(h:k7 H a p)(e:af H H'):k7 H' a p:=by let#[c,d,b]:=h;exact#[c,e _ _ d,b.same e]
structure qz(H:Hp)(l:Addr)(as:cx)(Y:List<|List<|Int×Int):Prop where
 top:H l=some (.lst as.h)
 len:as.c=Y.c
 row:∀(j:Nat) (a:Addr) (p:List<|Int×Int),as[j]?=some a->Y[j]?=some p->k7 H a p
theorem qz.same(h:qz H l as Y)(e:af H H'):qz H' l as Y:=#[e _ _ h.top,h.len,λj a p x y=>(h.row j a p x y).same e]
structure P2(p:List<|Int×Int):Prop where
 len:p.c=2
 fq:Fq 600 p
 low:∀f∈p,Dt.Lw f
open gn (wk) in
def wr(p:List<|Int×Int):dm:=[wk p 0,wk p 1,gv p]
theorem Tq(h:P2 p)(i:Wh p (gv p) row)(m:∀f∈p,f.2 ∣ gv p):row++[gv p]=wr p:=by
 let a:∀(k:Nat) (f:Int×Int) (x:Int),p[k]?=some f->row[k]?=some x->x=gn.wk p k:=λk f x b n=>by
  let e:=i.eq k f x b n;let d:=zag b;let#[y,c]:=m f d;let f0:=h.fq.pos f d;unfold gn.wk;rw[zah,b];show x=f.1*(gv p / f.2);rw[c,zbY _ ()];rw[c]at e;let:x*f.2=(f.1*y)*f.2:=by rw[e];grind
  exact zdS () this
 let l:=i.len;rw[h.len]at l;let l3:=h.len
 match row,l with
 | [x,y],_=>
  let g:∀k (j:k<2),p[k]?=some p[k]:=λk j=>zac ();rw[a 0 _ x (g 0 ()) rfl,a 1 _ y (g 1 ()) rfl];rfl
theorem Tp(h:P2 p):(wr p).c=3/\∀x∈wr p,Sz 3000 x:=by
 refine#[rfl,?_];let#[k,l,i]:=gn.O9 λf d=>h.fq.pos f d;let j:=h.len
 match p,j with
 | [f,g],_=>
  let b:Sz 1200<|gv [f,g]:=by let e:pd [f,g]=f.2.natAbs*(g.2.natAbs*1):=rfl;unfold Sz at *;refine zaY i ?_;erw[e,Nat.mul_one,show 2 ^ 1200=2 ^ 600*2 ^ 600 from by rw[<-Nat.pow_add],Nat.mul_lt_mul_of_lt_of_lt (h.fq.bot f A?)<|h.fq.bot g A?]
  let c:∀u:Int,Sz 1200<|gv [f,g] / u:=λu=>by unfold Sz at *;exact zaY (Int.natAbs_ediv_le_natAbs _ _) b
  ext x a;unfold wr at a;simp[zbp,zaV,zbs]at a;ext(rfl|rfl|rfl:a);exact(Sz.mul (h.fq.top f A?)<|c _).mono B!;exact(Sz.mul (h.fq.top g A?)<|c _).mono B!;exact b.mono B!
def rowsOf(Y:List<|List<|Int×Int)(land:Int)(i:Nat)(r:dm):dy:=if(i:Int)=land then(r.map λx=>wr<|Y.getD x.toNat []).reverse else r.map λx=>wr<|Y.getD x.toNat []
def vb(R:dy)(Y:List<|List<|Int×Int)(land:Int):Prop:=∀(i:Nat) (r:dm),R[i]?=some r->GP (rowsOf Y land i r)
def sI:Sp:=λvs H Q _=>∃(p b:Addr) (c d:cx) (L:dy) (Y:List<|List<|Int×Int) (land:Int),vs=[.ref p,.int land,.ref b]/\aQ H p c L/\aH L/\L.c<=60/\(dR L L.c).c<128/\qz H b d Y/\Y.c=L.c/\(∀q∈Y,P2 q)/\
 ∀R,dU L R->(vb R Y land->∀a,af H a->Q (.bl true) a)/\(¬vb R Y land->∀a,af H a->Q (.bl false) a)
theorem k7.two(h:k7 H a p)(i:p.c=2):∃c b1 f g,p=[f,g]/\H a=some (.tup [.ref c,.ref b1])/\H c=some (.tup [.int f.1,.int f.2])/\H b1=some (.tup [.int g.1,.int g.2]):=by
 let#[d,e,b]:=h
 match p,i with
 | [f,g],_=>
  cases b with
  | @cons c _ d _ k b=>
   cases b with
   | @cons b1 _ d _ j b=>
    cases b;exact#[c,b1,f,g,rfl,e,k,j]
def oF(f g:Int×Int):Bool:=decide<|f.1*g.2<g.1*f.2
def k5(p:List<|Int×Int):Int×Int:=p.getD 0 (0,1)
def mW(p:List<|Int×Int):Int×Int:=p.getD 1 (0,1)
def CH(p q:List<|Int×Int):Bool:=if k5 p≠k5 q then oF (k5 p) (k5 q)else oF (mW p) (mW q)
def share(p q r:List<|Int×Int):Int:=1*(k5 p).2*(mW p).2*(k5 q).2*(mW q).2*(k5 r).2*(mW r).2
def bx(s:Int)(f:Int×Int):Int:=f.1*(s / f.2)
def EJ(p q r:List<|Int×Int):Int:=(bx (share p q r) (k5 q)-bx (share p q r) (k5 p))*(bx (share p q r) (mW r)-bx (share p q r) (mW q))-(bx (share p q r) (mW q)-bx (share p q r) (mW p))*(bx (share p q r) (k5 r)-bx (share p q r) (k5 q))
def Ff:Sp:=λvs H Q _=>∃(a b:Addr) (f g:Int×Int),vs=[.ref a,.ref b]/\H a=some (.tup [.int f.1,.int f.2])/\H b=some (.tup [.int g.1,.int g.2])/\Sz 600 f.1/\Sz 600 f.2/\Sz 600 g.1/\Sz 600 g.2/\Q (.bl<|oF f g) H
def Fh:Sp:=λvs H Q _=>∃(a b:Addr) (p q:List<|Int×Int),vs=[.ref a,.ref b]/\k7 H a p/\k7 H b q/\P2 p/\P2 q/\Q (.bl<|CH p q) H
def Fi:Sp:=λvs H Q _=>∃(a b c:Addr) (p q r:List<|Int×Int),vs=[.ref a,.ref b,.ref c]/\k7 H a p/\k7 H b q/\k7 H c r/\P2 p/\P2 q/\P2 r/\∀d,af H d->Sz 20000 (EJ p q r)->Q (.int<|EJ p q r) d
def MK(Y:List<|List<|Int×Int):Nat->Int
 | 0=>1
 | n+1=>MK Y n*(k5<|Y.getD n []).2*(mW<|Y.getD n []).2
def bk(n k d:Nat):Nat:=(k+n-d)%n
def Ot(Y:List<|List<|Int×Int)(hand:Int)(k:Nat):Prop:=0<EJ (Y.getD (bk Y.c k 2) []) (Y.getD (bk Y.c k 1) []) (Y.getD k [])*hand
def AK(Y:List<|List<|Int×Int)(k:Nat):Bool:=CH (Y.getD (bk Y.c k 1) []) (Y.getD (bk Y.c k 2) [])&&CH (Y.getD (bk Y.c k 1) []) (Y.getD k [])
def Round(Y:List<|List<|Int×Int)(hand:Int):Prop:=(∀k,k<Y.c->Ot Y hand k)/\((List.range Y.c).filter<|AK Y).c=1
def Bc:Sp:=λvs H Q _=>∃(a:Addr) (c:cx) (Y:List<|List<|Int×Int) (hand:Int),vs=[.ref a,.int hand]/\qz H a c Y/\(∀q∈Y,P2 q)/\2<=Y.c/\Y.c<=200/\(hand=1\/hand=-1)/\(Round Y hand->∀b,af H b->Q (.bl true) b)/\(¬Round Y hand->∀b,af H b->Q (.bl false) b)
theorem qz.at(h:qz H l as Y)(b:i<Y.c):∃a,as[i]?=some a/\k7 H a (Y.getD i []):=by
 let c:i<as.c:=h.len>>b
 refine#[as[i],zac c,?_];erw[zah,zac b,h.row i _ _ (zac c)<|zac b]
theorem jI{a:Type}{Y:List a}{d:a}{i:Nat}(h:i<Y.c):Y.getD i d∈Y:=zah>>zac h>>zbo h
theorem CZ{xs:List V}{k d:Nat}{v:V}(a:k<xs.c)(b:d<=xs.c)(h:xs[bk xs.c k d]?=some v):jJ xs ((k:Int)-d)=some v:=by unfold bk at h;ext(c:d<=k);rw[show k+xs.c-d=(k-d)+xs.c by lia,zax,zaz ()]at h;let:=bV h;rwa [show((k-d:Nat):Int)=(k:Int)-d by lia]at this;rw[zaz ()]at h;unfold jJ F8;rw[zaj (),zam ()];erw[show((k:Int)-d+xs.c).toNat=k+xs.c-d by lia,h]
def wY:Sp:=λvs H Q _=>∃(p:Addr) (b:cx) (L:dy),vs=[.ref p]/\aQ H p b L/\eA L/\L.c<=60/\(dR L L.c).c<128/\∀a,af H a->Q .fU a
def Bf:Sp:=λvs H Q _=>∃(p:Addr) (a:cx) (L:dy) (land:Nat),vs=[.ref p,.int (land:Int)]/\aQ H p a L/\eA L/\L.c<=60/\(dR L L.c).c<128/\(∀R,dU L R->land<R.c)/\
 ∀(R:dy) (b:Addr) (r:dm) H',af H H'->dU L R->R[land]?=some r->H' b=some (.lst r.f)->Q (.ref b) H'
theorem Reach.rex(h:Reach L s x):eg L [] s x:=by
 induction h with
 | here=>exact .here
 | step _ e a b=>exact .step b e a A?
theorem ow{a:Type}[DecidableEq a]:∀{l m:List a},l.Nodup->(∀x∈l,x∈m)->l.c<=m.c
 | [],m,_,_=>zaR _
 | x::l,m,hn,hs=>by let c:=zau.mp hn;let d:=(perm_cons_erase<|hs x zan).length_eq;rw[zbi]at d;let:=ow (m:=m.erase x) c.2 λy b=>(mem_erase_of_ne λe=>c.1<|by erw[<-e,b]).mpr<|hs y<|zae _ b;rw[zbi];lia
def Gj(n i:Nat):List<|Int×Int:=[(((n-1-i:Nat):Int),1),(((n-1-i:Nat):Int)*((n-1-i:Nat):Int),1)]
def Bk:Sp:=λvs H Q _=>∃n:Nat,vs=[.int (n:Int)]/\n<=60/\∀t b a,af H a->qz a t b ((List.range n).map<|Gj n)->Q (.ref t) a
def gE(l:dm)(x y:Int):Int×Int:=if y=x then((l.c:Int),1)else if y∈l then(-1,1)else(0,1)
def Fe:Sp:=λvs H Q _=>∃(a b:Addr) (l c:dm) (x:Int),vs=[.ref a,.int x,.ref b]/\H a=some (.lst l.f)/\H b=some (.lst c.f)/\c.c<=60/\l.c<=500/\
 ∀t e d,af H d->H t=none->d t=some (.lst e.h)->PR d e (c.map<|gE l x)->Q (.ref t) d
theorem PR.snoc(h:PR H ps T)(c:H a=some (.tup [.int d.1,.int d.2])):PR H (ps++[a])<|T++[d]:=by
 induction h with
 | nil=>exact .cons c .nil
 | cons e _ b=>exact .cons e b
theorem qz.snoc(h:qz H l as Y)(i:k7 H a p):qz (upd H l<|.lst<|as.h++[.ref a]) l (as++[a])<|Y++[p]:=by
 let d:∀{b:Addr} {r:List<|Int×Int},k7 H b r->k7 (upd H l<|.lst<|as.h++[.ref a]) b r:=λ{b r} ⟨m,f,g⟩=>#[m,aG (λz=>by rw[z,h.top]at f;cases f)>>f,PR.lst g h.top];refine#[by rw[ae,zat];rfl,by rw[zav,zav,h.len];rfl,λj b r c e=>?_];ext(z:j<as.c);rw[zaU z]at c;rw[zaU<|by erw[<-h.len,z]]at e;exact d<|h.row j b r c e;rw[zaO ()]at c;rw[zaO<|by rw[<-h.len];lia]at e;rw[h.len]at c;let k:j-Y.c=0:=by let:=(zab.mp c).1;simp at this;lia
 rw[k]at c e;cases c;cases e;exact d i
def pX(r:dm)(a:cx):List<|Key×V:=List.zipWith (λx q=>((Sum.inl x:Key),V.ref q)) r a
theorem iU:∀{r:dm} {a:cx},r.c=a.c->(pX r a).map (λp=>kV p.1)=r.f
 | [],[],_=>rfl
 | x::r,q::a,h=>by show V.int x::(pX r a).map (λp=>kV p.1)=_;rw[iU<|~~~h];rfl
theorem l9:∀{r:dm} {a:cx},r.c=a.c->(pX r a).map (·.2)=a.h
 | [],[],_=>rfl
 | x::r,q::a,h=>by show V.ref q::(pX r a).map (·.2)=_;rw[l9<|~~~h];rfl
theorem Cb:∀{r:dm} {a:cx} {y:Int},y∉r->eR (pX r a) (Sum.inl y:Key)=none
 | [],a,y,_=>rfl
 | x::r,[],y,_=>rfl
 | x::r,q::a,y,h=>by show eR (((Sum.inl x:Key),V.ref q)::pX r a) _=none;erw[cA (λe=>h<|by injection e with e;erw[e,zan]),Cb λz=>h<|zae _ z]
theorem uy:∀{r:dm} {a:cx} {y:Int},r.c=a.c->y∈r->∃q,q∈a/\eR (pX r a) (Sum.inl y:Key)=some (V.ref q)
 | [],[],y,_,h=>by simp at h
 | x::r,q::a,y,hl,h=>by ext(e:x=y);exact#[q,zan,e>>cO rfl];let#[d,b,c]:=uy (~~~hl)<|(zaw.mp h).resolve_left λz=>e z.symm;refine#[d,zae _ b,?_];show eR (((Sum.inl x:Key),V.ref q)::pX r a) _=_;erw[cA (λz=>e<|by injection z),c]
theorem jc:∀{kv a:List<|Key×V},((a++kv).map (·.1)).Nodup->om a kv=a++kv
 | [],a,_=>by rw[zdd];rfl
 | p::kv,a,h=>by
  let b:ff a p.1 p.2=a++[p]:=by unfold ff;rw[zaj];ext z;rw[any_eq_true]at z;let#[q,c,e]:=z;rw[zat,zeC]at h;exact h.2.2 q.1 (mem_map_of_mem c) p.1 A?<|zcK e
  show om (ff a p.1 p.2) kv=_;rw[b,jc (zcu>>h),zcu];rfl
theorem KO(b:r.c=a.c)(c:r.Nodup):((pX r a).map (·.1)).Nodup:=by
 let e:(pX r a).map (·.1)=r.map λx=>(Sum.inl x:Key):=by
  clear c;induction r generalizing a with
  | nil=>rfl
  | cons x r d=>
   cases a with
   | nil=>simp at b
   | cons q a=>
    show(Sum.inl x:Key)::(pX r a).map (·.1)=_;rw[d<|~~~b];rfl
 erw[e,zcz,zfo,zeE (λh z=>h<|by injection z)<|zcw.mp c]
def sN:Sp:=λvs H Q _=>∃(p d:Addr) (g:cx) (L:dy) (r:dm) (b:cx) (c:List<|Int×Int),vs=[.ref p,.ref d]/\aQ H p g L/\aH L/\wB L/\L.c<=8/\H d=some (.dK<|pX r b)/\PR H b c/\r.c=b.c/\r.Nodup/\r≠[]/\(∀x∈r,0<=x/\x<L.c)/\(∀f∈c,f.2=1/\0<=f.1/\f.1<=4096)/\
 ∀t e xs a,af H a->H t=none->a t=some (.lst e.h)->PR a e xs->xs.c=L.c->(∀x∈xs,Dt.Lw x/\Sz 300 x.1/\Sz 300 x.2)->Q (.ref t) a
theorem zk:∀{a:List<|Int×Int},(∀f∈a,f.2=1)->pd a=1
 | [],_=>rfl
 | f::a,h=>by show f.2.natAbs*pd a=1;rw[h f zan,zk λg b=>h g<|zae _ b];rfl
def jB(L:dy)(a b:dm):List<|List<|Int×Int:=b.map λx=>a.map<|gE (ez L x) x
theorem Cf:∀{r a:dm},r.c=a.c->(List.zipWith (λx y=>((Sum.inl x:Key),V.int y)) r a).map (λp=>kV p.1)=r.f
 | [],[],_=>rfl
 | x::r,q::qs,h=>by show V.int x::(List.zipWith (λx y=>((Sum.inl x:Key),V.int y)) r qs).map (λp=>kV p.1)=_;rw[Cf<|~~~h];rfl
theorem Ce:∀{r a:dm},r.c=a.c->(List.zipWith (λx y=>((Sum.inl x:Key),V.int y)) r a).map (·.2)=a.f
 | [],[],_=>rfl
 | x::r,q::qs,h=>by show V.int q::(List.zipWith (λx y=>((Sum.inl x:Key),V.int y)) r qs).map (·.2)=_;rw[Ce<|~~~h];rfl
theorem F3:∀{r a:dm} {y:Int},(∀x∈a,0<=x/\x<=4096)->∃x:Int,(eR (List.zipWith (λx y=>((Sum.inl x:Key),V.int y)) r a) (Sum.inl y:Key)).getD (V.int 0)=V.int x/\0<=x/\x<=4096
 | [],qs,y,_=>#[0,rfl,by decide,by decide]
 | x::r,[],y,_=>#[0,rfl,by decide,by decide]
 | x::r,q::qs,y,h=>by show ∃z:Int,(eR (((Sum.inl x:Key),V.int q)::List.zipWith (λx y=>((Sum.inl x:Key),V.int y)) r qs) (Sum.inl y:Key)).getD (V.int 0)=V.int z/\_;ext(e:x=y);rw[e,cO rfl];exact#[q,rfl,h q zan];erw[cA (λz=>e<|by injection z),F3 λx b=>h x<|zae _ b]
theorem QZ(a:r.c=jP.c)(b:r.Nodup):((List.zipWith (λx y=>((Sum.inl x:Key),V.int y)) r jP).map (·.1)).Nodup:=by
 let e:(List.zipWith (λx y=>((Sum.inl x:Key),V.int y)) r jP).map (·.1)=r.map λx=>(Sum.inl x:Key):=by
  clear b;induction r generalizing jP with
  | nil=>rfl
  | cons x r c=>
   cases jP with
   | nil=>simp at a
   | cons q d=>
    show(Sum.inl x:Key)::(List.zipWith (λx y=>((Sum.inl x:Key),V.int y)) r d).map (·.1)=_;rw[c<|~~~a];rfl
 erw[e,zcz,zfo,zeE (λh z=>h<|by injection z)<|zcw.mp b]
theorem IY:∀{ns:dm},(∀n∈ns,0<=n/\n<=4096)->0<=ns.sum/\ns.sum<=4096*ns.c
 | [],_=>by simp
 | n::ns,h=>by let c:=h n zan;let b:=IY λm a=>h m<|zae _ a;rw[sum_cons,zbi];lia
def Fnd(H:Hp)(kv:List<|Key×V)(y:Int):Prop:=∃(q:Addr) (f:Int×Int),eR kv (Sum.inl y:Key)=some (V.ref q)/\H q=some (.tup [.int f.1,.int f.2])/\Dt.Lw f/\Sz 300 f.1/\Sz 300 f.2
theorem PR.dk(h:PR H ps T)(d:H a=some (.dK kv)):PR (upd H a o) ps T:=by
 induction h with
 | nil=>exact .nil
 | cons b _ c=>exact .cons (aG (λz=>by rw[z,d]at b;cases b)>>b) c
def Bp:Sp:=λvs H Q _=>∃(p b fa:Addr) (c d:cx) (L:dy) (r:dm) (Y:List<|List<|Int×Int),vs=[.ref p,.ref b,.ref fa]/\aQ H p c L/\aH L/\wB L/\L.c<=8/\H b=some (.lst r.f)/\qz H fa d Y/\r.c=Y.c/\r.Nodup/\r≠[]/\(∀x∈r,0<=x/\x<L.c)/\(∀q∈Y,q.c=2/\∀f∈q,f.2=1/\0<=f.1/\f.1<=4096)/\
 ∀t cs Z a,af H a->H t=none->qz a t cs Z->Z.c=L.c->(∀q∈Z,P2 q)->Q (.ref t) a
def Bm:Sp:=λvs H Q _=>∃(p:Addr) (b:cx) (L:dy) (land:Nat),vs=[.ref p,.int (land:Int),.fU]/\aQ H p b L/\eA L/\L.c<=8/\(dR L L.c).c<128/\(∀R,dU L R->land<R.c)/\
 ∀t cs Z a,af H a->H t=none->qz a t cs Z->Z.c=L.c->(∀q∈Z,P2 q)->Q (.ref t) a
def Nn(n:Int):List<|Int×Int:=[(n%9,1+n / 81%2),(n / 9%9,1+n / 162%2)]
def mY(f:Int×Int):Int×Int:=if f.2=2/\f.1%2=0 then(f.1 / 2,1)else f
def Jb:Sp:=λvs H Q _=>∃n:Int,vs=[.int n]/\∀t a,af H a->k7 a t (Nn n)->Q (.ref t) a
def w6:Sp:=λvs H Q _=>∃(a:Addr) (p:List<|Int×Int),vs=[.ref a]/\k7 H a p/\p.c=2/\∀t b,af H b->H t=none->k7 b t (p.map mY)->Q (.ref t) b
theorem Kx(n:Int):P2<|(Nn n).map mY:=by
 let d:∀a b:Int,0<=a/\a<9->0<=b/\b<2->Dt.Lw (mY (a,1+b))/\0<(mY (a,1+b)).2/\(mY (a,1+b)).1.natAbs<9/\(mY (a,1+b)).2.natAbs<9:=λa b j i=>by
  let:a=0\/a=1\/a=2\/a=3\/a=4\/a=5\/a=6\/a=7\/a=8:=();let g:b=0\/b=1:=();unfold Dt.Lw;ext(rfl|rfl|rfl|rfl|rfl|rfl|rfl|rfl|rfl:this)<;>ext(rfl|rfl:g)<;>decide
 let e:∀x:Int,x.natAbs<9->Sz 600 x:=λx h=>zcZ h<|zaQ (show 9<2 ^ 10 by decide)<|zdk B! B!;let all:∀f∈(Nn n).map mY,Dt.Lw f/\0<f.2/\f.1.natAbs<9/\f.2.natAbs<9:=λf c=>by unfold Nn at c;simp[zbx,map_nil,zbp,zaV,zbs]at c;ext(rfl|rfl:c);exact d _ _ () ();exact d _ _ () ()
 exact#[rfl,#[λf c=>(all f c).2.1,λf c=>e _ (all f c).2.2.1,λf c=>e _ (all f c).2.2.2],λf c=>(all f c).1]
theorem qz.set(h:qz H l as Y)(g:i<Y.c)(m:k7 H a p):qz (upd H l<|.lst<|(as.h).set i<|.ref a) l (as.set i a)<|Y.set i p:=by let c:∀{b:Addr} {r:List<|Int×Int},k7 H b r->k7 (upd H l<|.lst<|(as.h).set i<|.ref a) b r:=λ{b r} ⟨n,f,k⟩=>#[n,aG (λz=>by rw[z,h.top]at f;cases f)>>f,PR.lst k h.top];refine#[by rw[ae,map_set],by rw[zcq,zcq,h.len],λj b r d e=>?_];ext(z:i=j);subst z;rw[zdI<|h.len>>g]at d;rw[zdI g]at e;cases d;cases e;exact c m;rw[zdi z]at d;rw[zdi z]at e;exact c<|h.row j b r d e
def A8:Sp:=λvs H Q _=>∃(p e:Addr) (f:cx) (L:dy) (land:Nat) (a d c:Int),vs=[.ref p,.int (land:Int),.ref e]/\aQ H p f L/\L.c<=8/\0<L.c/\H e=some (.lst [.int a,.int d,.int c])/\0<=a/\0<=d/\0<=c/\Sz 200 a/\Sz 200 d/\Sz 200 c/\(a%3≠2->eA L/\(dR L L.c).c<128/\(∀R,dU L R->land<R.c))/\
 ∀t cs Z b,af H b->H t=none->qz b t cs Z->Z.c=L.c->(∀q∈Z,P2 q)->Q (.ref t) b
def A7:Sp:=λvs H Q _=>vs=[]/\∀a,af H a->Q (.bl true) a
def sG:Sp:=λvs H Q _=>∃(p:Addr) (c:cx) (L:dy) (k:Int),vs=[.ref p,.int k]/\aQ H p c L/\aH L/\L.c<=8/\0<L.c/\0<=k/\k<10 ^ 61/\
 ∀t d a b,af H b->aQ b t d a->aH a->a.c=L.c->(dR L L.c).c<=(dR a a.c).c+10->Q (.ref t) b
def yw(K:zde):Sp:=λvs H Q _=>∃(a:Addr) (ns:dm),vs=[.ref a]/\aI K H a ns.f/\ns.c<=63/\∀b,Q (.bl true) b
end Al
end
namespace Al
open PySem L2 Fr Gm Pg
open Dt (gv gc pd eJ kz rW)
open gn (V3 l3 S3 tn wk)
def pt(S:Int)(p:List<|Int×Int):V2:=#[bx S<|k5 p,bx S<|mW p]
def OG(S:Int)(p:List<|Int×Int):Prop:=(k5 p).2 ∣ S/\(mW p).2 ∣ S
theorem Aj(b:0<f.2)(h:f.2 ∣ S):bx S f*f.2=f.1*S:=by let#[c,a]:=h;unfold bx;rw[a,zbY _ ()];grind
theorem mw(e:0<f.2)(h:f.2 ∣ S)(h':f.2 ∣ s):bx s f*S=s*bx S f:=by let#[c,b]:=h;let#[d,a]:=h';unfold bx;rw[b,a,zbY _ (),zbY _ ()];grind
theorem P2.two(h:P2 p):∃f g,p=[f,g]/\Dt.Lw f/\Dt.Lw g:=by
 let:=h.len
 match p,this with
 | [f,g],_=>exact#[f,g,rfl,h.low f A?,h.low g A?]
theorem Dl(h:P2 p)(j:0<S)(b:OG S p):0<gv p/\gv p*(pt S p).x=S*wk p 0/\gv p*(pt S p).y=S*wk p 1:=by let#[e,a,_]:=gn.O9 λf c=>h.fq.pos f c;let#[f,g,rfl,d,i]:=h.two;refine#[e,?_,?_];show gv [f,g]*bx S f=S*bx (gv [f,g]) f;rw[<-(mw d.1 (a f A?) b.1)];exact zcv _ _;show gv [f,g]*bx S g=S*bx (gv [f,g]) g;erw[<-(mw i.1 (a g A?) b.2),zcv _ _]
theorem Tu(i:0<S)(l:0<a.w)(j:0<b.w)(k:0<c.w)(e:a.w*u.x=S*a.u)(f:a.w*u.y=S*a.v)(bx:b.w*v.x=S*b.u)(g:b.w*v.y=S*b.v)(d:c.w*w.x=S*c.u)(cy:c.w*w.y=S*c.v) :
  S*S*tn a b c=a.w*b.w*c.w*cr (Pg.sub v u) (Pg.sub w u):=by
 let h:S*S*tn a b c=a.w*((S*b.u)*(S*c.v)-(S*b.v)*(S*c.u))+b.w*((S*c.u)*(S*a.v)-(S*c.v)*(S*a.u))+c.w*((S*a.u)*(S*b.v)-(S*a.v)*(S*b.u)):=by unfold tn;grind
 rw[h,<-e,<-f,<-bx,<-g,<-d,<-cy];unfold cr Pg.sub;grind
theorem Qh{A B x y:Int}(b:0<A)(a:0<B)(e:A*x=B*y):0<x↔0<y:=by rw[<-hZ b,e,hZ a]
theorem B5(d:0<S)(f0:0<f.2)(b:0<g.2)(c:f.2 ∣ S)(e:g.2 ∣ S):oF f g=true↔bx S f<bx S g:=by
 unfold oF;rw[zdK];let a:f.2*g.2*(bx S g-bx S f)=S*(g.1*f.2-f.1*g.2):=by
  let:f.2*g.2*(bx S g-bx S f)=f.2*(bx S g*g.2)-g.2*(bx S f*f.2):=by grind
  rw[this,Aj f0 c,Aj b e];grind
 let:=Qh (zbN f0 b) d a;lia
theorem eq_iff(k:0<S)(b:Dt.Lw f)(c:Dt.Lw g)(d:f.2 ∣ S)(i:g.2 ∣ S):f=g↔bx S f=bx S g:=by
 refine#[λh=>by rw[h],λh=>?_];let a:=Aj b.1 d;refine gn.VQ b c ?_;rw[h]at a;refine zdS (show S≠0 by lia) ?_;let e:f.1*g.2*S=(f.1*S)*g.2:=by grind
 let j:g.1*f.2*S=(g.1*S)*f.2:=by grind
 rw[e,j,<-a,<-(Aj c.1 i)];grind
theorem CG(e:0<S)(m:P2 p)(n:P2 q)(b:OG S p)(d:OG S q):CH p q=true↔Pos (Pg.sub (pt S q)<|pt S p):=by let#[f,g,rfl,i,r]:=m.two;let#[a,h,rfl,j,l]:=n.two;let k:=eq_iff e i j b.1 d.1;let o:CH [f,g] [a,h]=if f≠a then oF f a else oF g h:=rfl;rw[o];show _↔0<bx S a-bx S f\/(bx S a-bx S f=0/\0<bx S h-bx S g);ext(c:f=a);rw[zaj<|λz=>z c,B5 e r.1 l.1 b.2 d.2];let:=k.mp c;lia;rw[zam c,B5 e i.1 j.1 b.1 d.1];let:bx S f≠bx S a:=λz=>c<|k.mpr z;lia
theorem R6(W:0<S)(G:P2 p)(B:P2 q)(E:P2 r)(o:OG S p)(k:OG S q)(u:OG S r):0<share p q r/\S*S*EJ p q r=share p q r*share p q r*cr (Pg.sub (pt S q)<|pt S p) (Pg.sub (pt S r)<|pt S q):=by
 let#[f,g,rfl,t,m]:=G.two;let#[a,b,rfl,l,z]:=B.two;let#[d,c,rfl,A,v]:=E.two;let e:share [f,g] [a,b] [d,c]=1*f.2*g.2*a.2*b.2*d.2*c.2:=rfl;let F:0<share [f,g] [a,b] [d,c]:=e>>Int.one_mul>>zbN (zbN (zbN (zbN (zbN t.1 m.1) l.1) z.1) A.1) v.1
 let I:f.2 ∣ share [f,g] [a,b] [d,c]:=#[g.2*a.2*b.2*d.2*c.2,by rw[e];grind];let H:g.2 ∣ share [f,g] [a,b] [d,c]:=#[f.2*a.2*b.2*d.2*c.2,by rw[e];grind];let N:a.2 ∣ share [f,g] [a,b] [d,c]:=#[f.2*g.2*b.2*d.2*c.2,by rw[e];grind];let U:b.2 ∣ share [f,g] [a,b] [d,c]:=#[f.2*g.2*a.2*d.2*c.2,by rw[e];grind];let R:d.2 ∣ share [f,g] [a,b] [d,c]:=#[f.2*g.2*a.2*b.2*c.2,by rw[e];grind];let M:c.2 ∣ share [f,g] [a,b] [d,c]:=#[f.2*g.2*a.2*b.2*d.2,by rw[e];grind];refine#[F,?_];let O:EJ [f,g] [a,b] [d,c]=(bx (share [f,g] [a,b] [d,c]) a-bx (share [f,g] [a,b] [d,c]) f)*(bx (share [f,g] [a,b] [d,c]) c-bx (share [f,g] [a,b] [d,c]) b)-(bx (share [f,g] [a,b] [d,c]) b-bx (share [f,g] [a,b] [d,c]) g)*(bx (share [f,g] [a,b] [d,c]) d-bx (share [f,g] [a,b] [d,c]) a):=rfl;rw[O];let C:=mw t.1 o.1 I;let K:=mw m.1 o.2 H;let L:=mw l.1 k.1 N;let P:=mw z.1 k.2 U;let Q:=mw A.1 u.1 R;let D:=mw v.1 u.2 M;generalize share [f,g] [a,b] [d,c]=s at *;show S*S*_=s*s*cr #[bx S a-bx S f,bx S b-bx S g] #[bx S d-bx S a,bx S c-bx S b];generalize bx s f=w at *;generalize bx s g=x at *;generalize bx s a=i at *;generalize bx s b=j at *;generalize bx s d=n at *;generalize bx s c=y at *;let h:S*S*((i-w)*(y-j)-(j-x)*(n-i))=(i*S-w*S)*(y*S-j*S)-(j*S-x*S)*(n*S-i*S):=by grind
 rw[h,C,K,L,P,Q,D];unfold cr;dsimp only;grind
open Dt (gv gc pd eJ kz rW)
open gn (V3 l3 S3 tn wk)
def pg(S:Int)(Y:List<|List<|Int×Int):Nat->V2:=λi=>pt S<|Y.getD (i%Y.c) []
theorem ze(S:Int)(Y:List<|List<|Int×Int)(i:Nat):pg S Y (i+Y.c)=pg S Y i:=by unfold pg;rw[zax]
theorem LK{Y:List<|List<|Int×Int}(h:∀q∈Y,P2 q):∃S,0<S/\∀q∈Y,OG S q:=by
 let#[b,i,d]:=rW (Y.flatMap id) λf c=>by let#[q,a,c]:=zaG.mp c;exact((h q a).low f c).1
 refine#[b,i,λq a=>?_];let#[f,g,e,_,_]:=(h q a).two;subst e;exact#[d f<|zaG.mpr #[_,a,by simp],d g<|zaG.mpr #[_,a,by simp]]
section
variable {Y:List (List (Int×Int))} {S:Int} (hY:∀q∈Y,P2 q) (hS:0<S) (hb:∀q∈Y,OG S q)
include hY hS hb
theorem OK(f:0<Y.c)(i j k:Nat):0<tn (t3<|wr<|Y.getD (i%Y.c) []) (t3<|wr<|Y.getD (j%Y.c) []) (t3<|wr<|Y.getD (k%Y.c) [])↔0<tu (pg S Y) i j k:=by let m:∀i,Y.getD (i%Y.c) []∈Y:=λi=>jI<|zaI _ f;let#[c,d,h]:=Dl (hY _<|m i) hS<|hb _<|m i;let#[a,b1,b2]:=Dl (hY _<|m j) hS<|hb _<|m j;let#[b,g,e]:=Dl (hY _<|m k) hS<|hb _<|m k;exact Qh (zbN hS hS) (zbN (zbN c a) b)<|Tu hS c a b d h b1 b2 g e
theorem Gg:GP (Y.map wr)↔3<=Y.c/\Gl (pg S Y) Y.c:=by
 let a:∀k,k<Y.c->(Y.map wr).getD k []=wr (Y.getD k []):=λk b=>by rw[zah,zah,zao,zac b];rfl
 unfold GP ve;rw[zaa];refine and_congr_right λg=>?_;let c:0<Y.c:=();let md:∀k,k%Y.c<Y.c:=λk=>zaI _ c;constructor;ext h k j d f;let e:=IP (ze S Y) k 1<|j-k;rw[show k+(j-k)=j by lia]at e;rw[e,<-OK hY hS hb c];let:=h (k%Y.c) (md k) (j-k) () ();rw[a _<|md k,a _<|md _,a _<|md _]at this;rwa [zbJ];ext h k b i d f;let:=(OK hY hS hb c _ _ _).mpr<|h k (k+i) () ();rw[zaz b]at this;erw[a _ b,a _<|md _,a _<|md _,this]
theorem CV(g:2<=Y.c)(f:k<Y.c):Ot Y hand k↔0<cr (ed (pg S Y)<|k+Y.c-2) (ed (pg S Y)<|k+Y.c-2+1)*hand:=by
 let m:∀i,Y.getD (i%Y.c) []∈Y:=λi=>jI<|zaI _ ();let#[a,e]:=R6 hS (hY _<|m<|k+Y.c-2) (hY _<|m<|k+Y.c-1) (hY _<|m k) (hb _<|m<|k+Y.c-2) (hb _<|m<|k+Y.c-1)<|hb _<|m k;unfold Ot bk;let d:Y.getD k []=Y.getD (k%Y.c) []:=by rw[zaz f]
 rw[d];let b:ed (pg S Y) (k+Y.c-2)=Pg.sub (pt S<|Y.getD ((k+Y.c-1)%Y.c) []) (pt S<|Y.getD ((k+Y.c-2)%Y.c) []):=by unfold ed pg;rw[show k+Y.c-2+1=k+Y.c-1 by lia]
 let c:ed (pg S Y) (k+Y.c-2+1)=Pg.sub (pt S<|Y.getD (k%Y.c) []) (pt S<|Y.getD ((k+Y.c-1)%Y.c) []):=by unfold ed pg;rw[show k+Y.c-2+1=k+Y.c-1 by lia,show k+Y.c-1+1=k+Y.c by lia,zax]
 rw[b,c];refine Qh (zbN hS hS) (zbN a a) ?_;rw[<-zeL,e,zeL]
theorem mP(e:2<=Y.c)(a:k<Y.c):AK Y k=true↔Mn (pg S Y) (k+Y.c-2):=by
 let m:∀i,Y.getD (i%Y.c) []∈Y:=λi=>jI<|zaI _ ();let d:Y.getD k []=Y.getD (k%Y.c) []:=by rw[zaz a]
 unfold AK bk Mn;rw[d,zdT,CG hS (hY _<|m<|k+Y.c-1) (hY _<|m<|k+Y.c-2) (hb _<|m<|k+Y.c-1)<|hb _<|m<|k+Y.c-2,CG hS (hY _<|m<|k+Y.c-1) (hY _<|m k) (hb _<|m<|k+Y.c-1)<|hb _<|m k];let b:ng (ed (pg S Y)<|k+Y.c-2)=Pg.sub (pt S<|Y.getD ((k+Y.c-2)%Y.c) []) (pt S<|Y.getD ((k+Y.c-1)%Y.c) []):=by unfold ed pg;rw[show k+Y.c-2+1=k+Y.c-1 by lia];unfold ng Pg.sub;dsimp only;congr 1<;>lia
 let c:ed (pg S Y) (k+Y.c-2+1)=Pg.sub (pt S<|Y.getD (k%Y.c) []) (pt S<|Y.getD ((k+Y.c-1)%Y.c) []):=by unfold ed pg;rw[show k+Y.c-2+1=k+Y.c-1 by lia,show k+Y.c-1+1=k+Y.c by lia,zax]
 rw[b,c]
end
theorem shift{n:Nat}(a:2<=n){p:Nat->V2}(fH:∀i,p (i+n)=p i)(i d:Nat):p ((i+2)%n+n-2+d)=p (i+d):=by
 rw[jd fH i d,<-FR fH ((i+2)%n+n-2+d),<-FR fH (i%n+d)];congr 1;let e:(i+2)%n+n-2+d=(i+2)%n+(n-2)+d:=();rw[e,zbU,zbU<|(i+2)%n,zbJ,<-zbU (i+2),show i+2+(n-2)=i+n by lia,zax,zfa]
theorem mdd(h:a<2*n):a%n=if a<n then a else a-n:=by split;rename_i c;exact zaz c;rename_i c;rw[zcV (),zaz ()]
theorem Dv(c:2<=n)(b:i<n):((i+2)%n+n-2)%n=i:=by rw[mdd (a:=i+2) ()];split;rw[show i+2+n-2=i+n by lia,zax,zaz b];rw[show i+2-n+n-2=i by lia,zaz b]
theorem EL(b:2<=n)(a:j<n):((j+n-2)%n+2)%n=j:=by rw[zbU,zbJ,<-zbU,show j+n-2+2=j+n by lia,zax,zaz a]
theorem rX{p q:Nat->V2}(e:∀d,p (k+d)=p (i+d)):Mn p k↔Mn p i:=by let a:=e 0;rw[zbu,zbu]at a;unfold Mn ed;rw[show k+1+1=k+2 by lia,a,e 1,e 2,show i+1+1=i+2 by lia]
theorem QM{L:List Nat}{k:Nat}(a:L.Nodup)(b:k∈L)(h:∀x∈L,x=k):L.c=1:=by
 match L,a,b,h with
 | [x],_,_,_=>rfl
 | x::y::L,a,_,h=>
  exact absurd (by rw[h x A?,h y A?];simp) (zau.mp a).1
section
variable {Y:List (List (Int×Int))} {S:Int} (hY:∀q∈Y,P2 q) (hS:0<S) (hb:∀q∈Y,OG S q)
include hY hS hb
theorem xm(a:2<=Y.c):Round Y hand↔(∀i,0<cr (ed (pg S Y) i) (ed (pg S Y)<|i+1)*hand)/\Un (pg S Y) Y.c:=by
 let fH:=ze S Y;let sh:=shift a fH;unfold Round;refine and_congr #[λh i=>?_,λh k b=>(CV hY hS hb a b).mpr<|h _] ?_;let:=(CV hY hS hb a<|zaI (i+2) ()).mp<|h ((i+2)%Y.c)<|zaI _ ();let l:=sh i 0;unfold ed at this ⊢;rw[zbu,zbu]at l;rw[show(i+2)%Y.c+Y.c-2+1+1=(i+2)%Y.c+Y.c-2+2 by lia,l,sh i 1,sh i 2]at this;exact this;constructor;ext h;let#[k,b]:=List.length_eq_one_iff.mp h;let u:k∈(List.range Y.c).filter (AK Y):=by rw[b];simp
 let#[r,s]:=zbC.mp u;let t:∀j,j<Y.c->AK Y j=true->j=k:=λj e f=>by let:j∈(List.range Y.c).filter (AK Y):=zbC.mpr #[zaD.mpr e,f];rw[b]at this;simpa using this
 let g:=(mP hY hS hb a<|zaD.mp r).mp s;refine#[(k+Y.c-2)%Y.c,zaI _ (),(rX (q:=pg S Y) λd=>jd fH (k+Y.c-2) d).mp g,λi n mi=>?_];rw[<-(t ((i+2)%Y.c) (zaI _ ())<|(mP hY hS hb a<|zaI _ ()).mpr<|(rX (q:=pg S Y) λd=>sh i d).mpr mi),Dv a n];ext⟨m,g,e,f⟩;refine QM (k:=(m+2)%Y.c) (List.Nodup.sublist filter_sublist zeS) ?_ ?_;exact zbC.mpr #[zaD.mpr<|zaI _ (),(mP hY hS hb a<|zaI _ ()).mpr<|(rX (q:=pg S Y) λd=>sh m d).mpr e];ext j o;let#[c,p]:=zbC.mp o;let c:=zaD.mp c;let:=f _ (zaI _ ())<|(rX (q:=pg S Y) λd=>jd fH (j+Y.c-2) d).mp<|(mP hY hS hb a c).mp p;rw[<-this,EL a c]
end
theorem two_not(h:Y.c=2):¬Round Y hand:=λ⟨a,_⟩=>by
 let:=a 0 ();unfold Ot bk at this;rw[h]at this;let z:EJ (Y.getD 0 []) (Y.getD 1 []) (Y.getD 0 [])=0:=by unfold EJ;grind
 rw[show(0+2-2)%2=0 from rfl,show(0+2-1)%2=1 from rfl,z]at this;simp at this
theorem Ea(a:∀q∈Y,P2 q)(e:2<=Y.c):GP (Y.map wr)↔Round Y 1:=by let#[S,d,b]:=LK a;rw[Gg a d b];ext(c:Y.c=2);exact#[λh=>(),λh=>absurd h<|two_not c];rw[xm a d b e,K7 ()<|ze S Y];unfold Bd;simp only[zfB];exact#[λh=>h.2,λh=>#[(),h]]
theorem QE(a:0<Y.c):pg S Y.reverse=rv (pg S Y) Y.c:=by funext i;unfold pg rv;dsimp only;rw[zdQ,zah,getElem?_reverse<|zaI i a,zah,zaz<|show Y.c-1-i%Y.c<Y.c by lia]
theorem Bx(a:∀q∈Y,P2 q)(j:2<=Y.c):GP (Y.map wr).reverse↔Round Y (-1):=by let#[S,g,f]:=LK a;rw[<-map_reverse,Gg (λq e=>a q<|List.mem_reverse.mp e) g<|λq e=>f q<|List.mem_reverse.mp e,zdQ];ext(c:Y.c=2);exact#[λh=>(),λh=>absurd h<|two_not c];rw[QE (),TY ()<|ze S Y,xm a g f j];constructor;ext⟨_,b,d⟩;exact#[λi=>by let:=b i;lia,d];ext⟨b,d⟩;exact#[(),λi=>by let:=b i;lia,d]
end Al
namespace Al
open PySem L2 Fr Gm
open Dt (sm sq qt fa NS iG oe DA great Gp)
theorem some_of{M:Nat}{u:Nat->Int}{c:Nat->Bool}:∀n,(∀j,j<n->(u j).natAbs<=M)->(sm n λj=>if c j=true then u j else 0).natAbs<=((List.range n).filter c).c*M/\((sm n λj=>if c j=true then u j else 0).natAbs=((List.range n).filter c).c*M->∀j,j<n->c j=true->(u j).natAbs=M)
 | 0,_=>#[zaR _,λ_ j h=>()]
 | n+1,h=>by let#[g,f]:=some_of n λj d=>h j ();let k:=h n ();let i:(sm (n+1) λj=>if c j=true then u j else 0)=(sm n λj=>if c j=true then u j else 0)+if c n=true then u n else 0:=rfl;rw[i,zcn,zcS,zav,zet];generalize (sm n λj=>if c j=true then u j else 0)=s at *;ext(a:c n=true);rw[zam a,zcW a];show(s+u n).natAbs<=_+1*M/\((s+u n).natAbs=_+1*M->_);rw[zeU];generalize ((List.range n).filter c).c*M=t at *;refine#[(),λe j d b=>?_];ext(z:j=n);rw[z];lia;exact f () j () b;rw[zaj a,zcX a];show(s+0).natAbs<=_+0*M/\((s+0).natAbs=_+0*M->_);rw[Nat.zero_mul,zbu,Int.add_zero];refine#[g,λe j d b=>?_];ext(z:j=n);rw[z]at b;exact absurd b a;exact f e j () b
theorem RH(h:fs[j]?=some f)(a:f.2=1):fa fs j=(f.1:Rat):=by rw[Gp h];unfold qt;rw[a,Rat.div_def];show(f.1:Rat)*(1:Rat)⁻¹=_;rw[show((1:Rat)⁻¹)=1 by decide +kernel,Rat.mul_one]
def T1(L:dy)(a:dm):List<|List<|Int×Int:=a.map λx=>a.map<|gE (ez L x) x
theorem D7{L:dy}{a:dm}{s:Int}(N:aH L)(W:wB L)(nd:a.Nodup)(H:∀x∈a,0<=x/\x<L.c)(O:0<=s/\s<L.c)(n0:s∉a):NS a.c<|T1 L a:=by
 ext u hu;refine zaA λz=>?_;let hn:0<a.c:=by refine Nat.pos_of_ne_zero λe=>z λj b=>?_;lia
 let#[m,U,R]:=great u hn;let M0:0<(u m).natAbs:=by refine Nat.pos_of_ne_zero λe=>z λj b=>?_;let:=R j b;lia
 let step:∀k (q:k<a.c),(u k).natAbs=(u m).natAbs->∀y∈ez L a[k],∃j,∃b:j<a.c,a[j]=y/\(u j).natAbs=(u m).natAbs:=λk q ek=>by
  let t:=H a[k]<|zbo q;let C:=aK t.1 t.2;let ac:=N.nd _ _ C;let no:a[k]∉ez L a[k]:=λw=>by let:=(N.rg _ _ C _ w).2.2;lia
  let B:=hu (a.map<|gE (ez L a[k]) a[k])<|zaq.mpr #[a[k],zbo q,rfl];generalize M:a[k]=x at *;generalize hl:ez L x=l at *;let X:sq a.c (λj=>fa (a.map<|gE l x) j*(u j:Rat))=((sm a.c λj=>(gE l x<|a.getD j 0).1*u j:Int):Rat):=by rw[oe];refine iG λj b=>?_;rw[RH (f:=gE l x<|a.getD j 0) (by rw[zao,zah,zac b];rfl) (by unfold gE;split;rfl;split<;>rfl),zcm]
  rw[X]at B;let p:(sm a.c λj=>(gE l x<|a.getD j 0).1*u j)=0:=by
   let:(((sm a.c λj=>(gE l x<|a.getD j 0).1*u j:Int)):Rat)=((0:Int):Rat):=by rw[B];rfl
   exact zfd.mp this
  rw[DA q]at p;let I:a.getD k 0=x:=by rw[zah,zac q,<-M];rfl
  let f1:(gE l x<|a.getD k 0).1=(l.c:Int):=by rw[I];unfold gE;rw[zam rfl]
  rw[f1]at p;let g:∀i,i<a.c->a.getD i 0∈a:=λi o=>jI o;let inj:∀i j,i<a.c->j<a.c->a.getD i 0=a.getD j 0->i=j:=λi j o b e=>by rw[zah,zac o,zah,zac b]at e;exact(zco nd).mp e
  let e2:(sm a.c λi=>if i=k then 0 else(gE l x<|a.getD i 0).1*u i)=sm a.c λi=>if decide (a.getD i 0∈l)=true then -u i else 0:=by refine Dt.bP λi o=>?_;ext(c:i=k);subst c;rw[zam rfl,I,zaZ no];rfl;rw[zaj c];unfold gE;rw[zaj<|λe=>c<|inj i k o q<|I>>e];ext(d:a.getD i 0∈l);rw[zam d,zbc d,zam rfl];lia;rw[zaj d,zaZ d,zaj B!];lia
  rw[e2]at p;let#[b1,b2]:=some_of a.c λj b=>zds>>R j b
  let Z:(sm a.c λi=>if decide (a.getD i 0∈l)=true then -u i else 0).natAbs=l.c*(u m).natAbs:=by
   let:(sm a.c λi=>if decide (a.getD i 0∈l)=true then -u i else 0)=-((l.c:Int)*u k):=();rw[this,zds,zbA,ek];rfl
  let D:(((List.range a.c).filter λi=>decide<|a.getD i 0∈l).map λi=>a.getD i 0).Nodup:=by rw[zcz,zfo];refine zbX ?_<|zcw.mp<|List.Nodup.sublist filter_sublist zeS;ext i j o b n e;exact n<|inj i j (zaD.mp (zbC.mp o).1) (zaD.mp (zbC.mp b).1) e
  let S:∀y∈(((List.range a.c).filter λi=>decide<|a.getD i 0∈l).map λi=>a.getD i 0),y∈l:=λy K=>by let#[i,o,rfl]:=zaq.mp K;exact zcK (zbC.mp o).2
  let Q:=ow D S;rw[zaa]at Q;rw[Z]at b1 b2;let E:=zeZ b1<|zbG _ Q;let cl:=Nat.eq_of_mul_eq_mul_right M0 E;ext y K;let yt:=zaA λw=>by
   let:=ow (zau.mpr #[w,D]) λv Y=>by ext(e|e:zaw.mp Y);rw[e];exact K;exact S v e
   rw[zbi,zaa]at this;lia
  let#[j,b,e]:=zaq.mp yt;let#[A,j2]:=zbC.mp b;let A:=zaD.mp A;let:=(b2 E) j A j2;rw[zds]at this;refine#[j,A,?_,this];rw[<-e,zah,zac A];rfl
 let P:=H a[m]<|zbo U;let reach:∀y,Reach L a[m] y->∃j,∃b:j<a.c,a[j]=y/\(u j).natAbs=(u m).natAbs:=λy h=>by
  induction h with
  | here=>exact#[m,U,rfl,rfl]
  | @step i l x r e M ih=>
   let#[j,b,ej,uj]:=ih;let:ez L a[j]=l:=(by let t:=H a[j]<|zbo b;let F:=aK t.1 t.2;rw[ej]at F ⊢;rw[show((i:Int)).toNat=i from rfl,e]at F;exact(zas F).symm);exact step j b uj x (this>>M)
 let G:Reach L a[m] s:=by exact ((W a[m] P.1 P.2).sym N #[(),()]).trans<|W s O.1 O.2
 let#[j,b,e,_]:=reach s G;exact n0<|e▸zbo b
def L0:dy:=[[1,5,4],[2,5,0],[3,5,1],[4,5,2],[0,5,3],[0,1,2,3,4]]
def R0:dy:=[[0,1,5],[0,4,3,2,1],[0,5,4],[1,2,5],[2,3,5],[3,4,5]]
theorem K6(g:2<=r.c)(h:∀j,j<r.c->(0<=(dj r j).1/\(dj r j).1<L.c/\(dj r j).2∈ez L (dj r j).1)/\nx L (dj r j)=dj r (j+1)):Good L r:=by let d:∀j,j%r.c<r.c:=λj=>zaI _ ();let e:∀j,dj r j=dj r (j%r.c):=λj=>bX (by rw[zbJ]);let f:∀j,dj r (j+1)=dj r (j%r.c+1):=λj=>bX (by rw[zdD]);refine#[g,λj=>?_,λj=>?_];rw[e];let#[a,b,c]:=(h _<|d j).1;exact#[a,b,c];erw[e,f,(h _<|d j).2]
theorem Ec:dU L0 R0:=by
 refine#[?_,?_,by decide +kernel,by decide +kernel,λd h=>?_];let:∀r∈R0,2<=r.c/\∀j,j<r.c->(0<=(dj r j).1/\(dj r j).1<L0.c/\(dj r j).2∈ez L0 (dj r j).1)/\nx L0 (dj r j)=dj r (j+1):=by decide +kernel
 exact λr a=>K6 (this r a).1 (this r a).2;unfold GL Le;decide +kernel;let:∀d∈dR L0 L0.c,d∈R0.flatMap (sh 0):=by decide +kernel
 exact this d<|kJ.mpr #[h.lo,h.hi,h.mem]
theorem QV:aH L0:=by let e:∀(i:Nat) (l:dm),L0[i]?=some l->i<6/\l=L0.getD i []:=λi l h=>#[(zab.mp h).1,by rw[zah,h];rfl];refine#[λi l h=>?_,λi l h=>?_,λi l h x f j d m c=>?_];let#[a,rfl]:=e i l h;exact(by decide +kernel:∀i,i<6->(L0.getD i []).Nodup) i a;let#[a,rfl]:=e i l h;exact(by decide +kernel:∀i,i<6->∀x∈L0.getD i [],0<=x/\x<L0.c/\x≠i) i a;let#[a,rfl]:=e i l h;let#[b,rfl]:=e j m c;subst d;exact(by decide +kernel:∀i:Nat,i<6->∀j:Nat,j<6->(j:Int)∈L0.getD i []->(i:Int)∈L0.getD j []) i a j b f
def YR:List<|List<|Int×Int:=[[(0,1),(4,1)],[(-4,1),(1,1)],[(-2,1),(-3,1)],[(2,1),(-3,1)],[(4,1),(1,1)],[(0,1),(0,1)]]
def YS:List<|List<|Int×Int:=[[(0,1),(4,1)],[(-2,1),(-3,1)],[(4,1),(1,1)],[(-4,1),(1,1)],[(2,1),(-3,1)],[(0,1),(0,1)]]
def ZQ(L:dy):Bool:=decide (3<=L.c)&&(List.range L.c).all λk=>(List.range L.c).all λi=>decide (i<2) || decide (0<gn.tn (t3<|L.getD k []) (t3<|L.getD ((k+1)%L.c) []) (t3<|L.getD ((k+i)%L.c) []))
theorem Gh:ZQ L=true↔GP L:=by unfold ZQ GP ve;simp only[zdT,zdK,all_eq_true,mem_range,Bool.or_eq_true];exact and_congr_right λ_=>#[λh k b i c a=>(h k b i a).resolve_left (),λh k b i a=>by ext(z:i<2);exact .inl z;exact .inr<|h k b i () a]
theorem DI:vb R0 YR 1:=λi r h=>by
 let:r=R0.getD i []:=by rw[zah,h];rfl
 subst this;exact Gh.mp<|(by decide +kernel:∀i,i<6->ZQ (rowsOf YR 1 i<|R0.getD i [])=true) i<|(zab.mp h).1
theorem IZ:¬vb R0 YS 1:=λh=>by exact absurd (Gh.mpr<|h 1 _ rfl) B?
theorem BL(h:p.c=2/\∀f∈p,f.2=1/\f.1.natAbs<9):P2 p:=by let b:∀x:Int,x.natAbs<9->Sz 600 x:=λx h=>zcZ h<|zaQ (show 9<2 ^ 10 by decide)<|zdk B! B!;refine#[h.1,#[λf a=>by rw[(h.2 f a).1];decide,λf a=>b _ (h.2 f a).2,λf a=>b _<|by rw[(h.2 f a).1];decide],λf a=>?_];show 0<f.2/\Int.gcd f.1 f.2=1;erw[(h.2 f a).1,#[by decide,by simp]]
theorem Te:∀q∈YR,P2 q:=λq a=>BL<|(by decide +kernel:∀p∈YR,p.c=2/\∀f∈p,f.2=1/\f.1.natAbs<9) q a
theorem Tc:∀q∈YS,P2 q:=λq a=>BL<|(by decide +kernel:∀p∈YS,p.c=2/\∀f∈p,f.2=1/\f.1.natAbs<9) q a
end Al
namespace L2
open PySem PySem.Spec PySem.W PySem.Calls PyProof.Rows
structure WE(X:Cx)(e:Expr)(t:TE):Prop where
 g:PE X e t
structure WA(X:Cx)(e:List Expr)(t:TA):Prop where
 g:PA X e t
structure WS(X:Cx)(e:Stmt)(t:TS):Prop where
 g:PS X e t
structure WZ(X:Cx)(e:List Stmt)(t:TS):Prop where
 g:AL X e t
section
variable {X:Cx} {es:List Expr} {e:Expr} {te:TE} {t:TA} {pos:Pos}
theorem cD:WA X [] ph:=#[ah]
theorem jN(a:WE X (.List xs pos) te)(b:WA X es t):WA X (.List xs pos::es)<|fo te t:=#[JZ a.g b.g]
theorem cG(a:WE X (.Tuple xs x1 pos) te)(b:WA X es t):WA X (.Tuple xs x1 pos::es)<|fo te t:=#[JX a.g b.g]
theorem aR(a:WE X (.Constant v j pos) te)(b:WA X es t):WA X (.Constant v j pos::es)<|fo te t:=#[BK a.g b.g]
theorem nZ(a:WE X (.UnaryOp o e pos) te)(b:WA X es t):WA X (.UnaryOp o e pos::es)<|fo te t:=#[JW a.g b.g]
theorem lj(a:WE X (.Subscript e i pos) te)(b:WA X es t):WA X (.Subscript e i pos::es)<|fo te t:=#[JY a.g b.g]
theorem bB{i j pos}:WE X (.Constant (.int i) j pos)<|tC<|.int i:=#[aj]
theorem j4(h:WA X es t):WE X (.List es pos)<|IW t:=#[bH h.g]
theorem eL{x1}(h:WA X es t):WE X (.Tuple es x1 pos)<|MC t:=#[cR h.g]
theorem rB{st:Stmt}{rest:List Stmt}{t u:TS}(b:WS X st t)(a:WZ X rest u):WZ X (st::rest)<|MD t u:=#[ai b.g a.g]
theorem To{G:TS->Prop}(h:∃t,WZ X b t/\G t):∃t,AL X b t/\G t:=by let#[t,c,a]:=h;exact#[t,c.g,a]
theorem yj(h:X.N.Nodup)(b:X.N[i]?=some x)(d:Loc X.env.scope x)(c:WE X e te)(f:swapsWith e (some<|.Name x pos') pos.line X.env=pure false:=by rfl)(a:X.fn x=true\/X.env.scope.names.lookup x=some .local:=by first|exact .inl rfl|exact .inr rfl|assumption) :
  WS X (.Assign [.Name x pos'] e pos) (GZ te<|ji i):=#[aC h b d c.g f a]
end
end L2
namespace Al
open PySem L2 Fr Gm Fw
open Dt (gv gc pd eJ kz)
open gn (V3 l3 S3 tn)
local macro_rules | `(tactic| walk_at "n")=>`(tactic| exact⟨rfl,rfl,rfl,by decide +kernel,rfl,by decide +kernel,by decide +kernel⟩)
local macro_rules | `(tactic| walk_at "q")=>do
 let mut a<-`(tactic| first
 | ((with_reducible refine' eS ?hv ?_);case' hv=>exact rfl)
 | ((with_reducible refine DM ?hc ?_);case' hc=>walk_at "side")
 | ((with_reducible refine' BA ?hp ?hi ?_);(case' hp=>walk_at "seq");(case' hi=>exact rfl))
 | ((with_reducible refine' aT ?hp ?hi ?_);(case' hp=>walk_at "seq");(case' hi=>exact rfl))
 | ((with_reducible refine' fD ?hp ?hi ?_);(case' hp=>walk_at "seq");(case' hi=>exact rfl))
 | ((with_reducible refine And.intro ?hl ?_);case' hl=>(first|exact OR|exact Ye))
 | dsimp only)
 for n in [`FC,`Fx,`Fy,`DO,`JD,`lT,`JJ,`Ha,`Rb,`Ra,`Xa,`ND,`OW,`pI,`hV,`DP,`nD,`qH,`jD,`jE,`aJ,`aW,`OY,`DN,`OX,`DU,`MS,`JK,`JB,`Qw,`Yl,`pG,`JF,`pJ,`Jz,`oj,`JC,`FA,`JA,`Jy,`jb,`r_c,`eo,`eB,`ef] do a<-`(tactic| first|with_reducible refine $(Lean.mkIdent n) ?_|$a:tactic)
 `(tactic| first|with_reducible refine nNx λ_ _=>?_|with_reducible refine inF λ_ $(Lean.mkIdent `mNN):ident=>?_|with_reducible refine inS λ_ $(Lean.mkIdent `nNN):ident=>?_|with_reducible refine nNy (by with_reducible assumption) ?_|$a:tactic)
local macro_rules | `(tactic| walk_at "")=>`(tactic| repeat walk_at "q")
local macro_rules | `(tactic| walk_at "blk_vis")=>`(tactic| first|exact Or.inl rfl|exact Or.inr (Or.inl rfl) | exact Or.inr (Or.inr rfl))
local macro_rules | `(tactic| walk_at "blk_ok")=>`(tactic| exact⟨rfl,by decide +kernel,by decide +kernel,rfl,by (repeat (first|exact trivial|refine⟨rfl,?_⟩)),rfl,
 by (repeat (first|exact aV|refine az ⟨rfl,by walk_at "blk_vis",rfl,rfl⟩ ?_)),
 by (repeat (first|exact aV|refine az rfl ?_))⟩)
local macro_rules | `(tactic| walk_at "blk_ok1")=>`(tactic| exact⟨rfl,λ_=>rfl,λ_=>rfl,by decide +kernel,rfl,by (repeat (first|exact trivial|refine⟨rfl,?_⟩)),rfl,
 by (repeat (first|exact aV|refine az ⟨rfl,by walk_at "blk_vis",⟨rfl,rfl⟩,rfl⟩ ?_)),
 by (repeat (first|exact aV|refine az rfl ?_))⟩)
local macro_rules | `(tactic| walk_at "side")=>`(tactic| first|assumption|exact(show(0:Int)<_ by decide) | exact su (by decide) (by decide) | exact GF (by decide) (by decide) | exact mulL (by decide) (by decide))
local macro_rules | `(tactic| walk_at "L")=>`(tactic| first|exact Or.inl rfl|exact Or.inr rfl)
local macro_rules | `(tactic| walk_at "seq")=>`(tactic| first|assumption|exact SqT.of (by assumption) | exact aI.of (by assumption))
theorem iK:aM ["orders", "start", "shut", "reached", "waiting", "place", "neighbour"] ["orders", "start", "shut"]<|aB pB:=by walk_at "n"
theorem D2(D:Def K mg "come_to" pB ["orders", "start", "shut"])(T:Txt K mg Z):W! "come_to" 1 ["orders", "start", "shut"] yy:=by
 exists D.cE iK,c8,hr;let#[p,as,L,S,st,sh,rfl,_]:=h;rfl;let#[p,as,L,S,st,sh,rfl,g,UR,hn,im,s0,s1,q]:=h;refine#[_,(ai (aC (i:=3) iK.nd rfl A!<|Nc (JQ (pv 1) iS M9) rfl rfl B! B!)<|ai (aC (i:=4) iK.nd rfl A!<|bH<|aa (pv 1) ah)<|ai (lV zaF (aO FT (aE aL C! T.len aU<|aa (pv 4) ah) aj<|aS _)<|ai (aC (i:=5) iK.nd rfl A!<|QJ zaN PySem.F.slot_list_pop PySem.F.type_list_pop QT<|pv 4)<|ak<|bS zaF rfl (bJ<|aF aw (pv 0) (pv 5) C?) (aD (i:=6) iK.nd rfl A!)<|ak<|bY (PW.pt<|pw_and (pL<|pP (kW hr) (pv 6)<|pv 3)<|pw_and1<|aO kE (pv 6) (pv 2)<|by with_unfolding_all rfl) (ai (rO (kW hr) (pv 3) (pv 6) iS rfl)<|ak<|cK<|fS zaN zbj zbk cL (pv 4)<|aa (pv 6) ah) bh)<|ak<|aN<|pv 3),?_]
 dsimp only[cN];ext;refine λt X=>#[_,rfl,?_];refine#[ae,[(.inl st,.bl true)],rfl,by simp,?_];ext;refine#[by rw[zak];simp,λc W=>?_];generalize qq:upd _ t (.dK<|lX [] [(.inl st,.bl true)])=H0 at W ⊢;let#[e0,t0]:=qFy (af.upd X) X qq;let wf:H c=none:=e0.free W;ext;refine nW (λv j=>∃(B u:dm) (v4 G:Option V),v=[p.i,st.j,sh.i,t.i,c.i,v4,G]/\af H j/\j t=some (.dK<|B.map λx=>((Sum.inl x:Key),V.bl true))/\j c=some (.lst u.f)/\IB L S st B u)
  (λ_ j=>match j t,j c with|some (.dK kvs),some (.lst xs)=>2*(L.c-kvs.c)+xs.c|_,_=>0) #[[st],[st],none,none,rfl,e0.trans<|af.upd W,af.upd W _ _ t0,ae,IB.start] ?_
 ext v j ⟨B,u,v4,G,rfl,e1,U,N,fl⟩;ext;refine#[_,_,rfl,.inl #[_,aI.of N,rfl],?_];rw[zaa];ext;refine if2 (λR=>?_)<|λR=>?_;refine w_turn ?_;rw[U,N];dsimp only;rw[zaa,zaa];obtain⟨r,Y,rfl⟩:∃r Y,u=r++[Y]:=#[u.dropLast,u.getLast (λz=>by rw[z]at R;simp at R),(dropLast_concat_getLast _).symm];let ac:=(fl.re Y<|fl.sub Y A?).rg im #[s0,s1];let#[pn,rfl]:=zaM ac.1;let#[b,l,ha,hl,bL]:=g.at (i:=pn) ();let wt:c≠t:=λz=>by rw[z,U]at N;cases N
 ext;refine#[.inl #[rfl,_,aI.of N],?_];refine#[c,_,.int (pn:Int),rfl,rfl,N,by simp,?_];let e2:af H<|upd j c<|.lst ((r++[(pn:Int)]).f).dropLast:=af.fresh e1 wf;let w2:upd j c (.lst ((r++[(pn:Int)]).f).dropLast) c=some (.lst r.f):=by rw[ae];simp
 let t2:upd j c (.lst ((r++[(pn:Int)]).f).dropLast) t=some (.dK<|B.map λx=>((Sum.inl x:Key),V.bl true)):=by erw[aG<|zbl wt,U]
 generalize upd j c (.lst ((r++[(pn:Int)]).f).dropLast)=H2 at e2 w2 t2 ⊢;ext;refine cP ?_;refine#[_,rfl,_,rfl,aT (aI.of<|e2 _ _ g.top) (g.ix ha) ?_];refine#[b,rfl,#[_,aI.of<|e2 _ _ bL],fJ (K:=K) (a:=b) (xs:=l.f) (λk v C=>∃(m d:dm) (G:Option V),v=[p.i,st.j,sh.i,t.i,c.i,pn.l,G]/\af H C/\C t=some (.dK<|m.map λx=>((Sum.inl x:Key),V.bl true))/\C c=some (.lst d.f)/\Mr L S st m d pn l k/\2*(L.c-m.c)+d.c<2*(L.c-B.c)+(r++[(pn:Int)]).c)
  #[B,r,G,rfl,e2,t2,w2,fl.pop,by simp] (λk v C _ ⟨_,_,_,_,e,_⟩=>aI.of<|e _ _ bL) ?_ ?_]
 ext k x v C O ⟨m,d,G,rfl,M,t3,I,n,ms⟩;obtain⟨y,hy,rfl⟩:∃y,l[k]?=some y/\x=V.int y:=by
  rw[zao]at O;cases e:l[k]? with
  | none=>rw[e]at O;cases O
  | some z=>rw[e]at O;exact#[z,rfl,(zas O).symm]
 let lk:=IB.len im #[s0,s1] n.nd n.re;let lw:d.c<=m.c:=eM n.nw n.sub;ext;refine#[_,rfl,_,rfl,t,_,rfl,jL.k (k:=.inl y) t3,?_];rw[sC];ext;refine nQ (λXi=>?_)<|λY2=>?_;ext;refine MT (ns:=S) (aI.of<|M _ _ UR) ?_;rw[zam rfl];ext;refine nQ (λnS=>?_)<|λyS=>mNN _ _ #[m,d,_,rfl,M,t3,I,n.skip hy<|.inr yS,ms];let fa:=n.add hy Xi nS hl;let ag:=IB.len im #[s0,s1] fa.nd fa.re;rw[zav,zbd]at ag;ext;refine#[_,rfl,_,rfl,t,_,rfl,vm.k (k:=.inl y) t3 (zaa>>aq ()),?_];rw[JM Xi];let w4:upd C t (.dK<|(m++[y]).map λx=>((Sum.inl x:Key),V.bl true)) c=some (.lst d.f):=aG wt>>I
 ext;refine#[.inl #[rfl,_,aI.of w4],?_];ext;refine cV w4 (zaa>>aq ()) ?_;refine nNy (by assumption) ?_;refine#[m++[y],d++[y],_,rfl,af.fresh (af.fresh M X) wf,by erw[aG<|zbl wt,ae],zat (l₁:=d)>>ae,fa,?_];rw[zav,zav,zbd];lia;ext;exact#[m,d,_,rfl,M,t3,I,n.skip hy<|.inl Y2,ms];ext v C ⟨m,d,G,rfl,M,t3,I,n,ms⟩;rw[zaa]at n;refine#[#[m,d,_,_,rfl,M,t3,I,n.done hl],?_];rw[t3,I];dsimp only;rw[zaa,zaa];exact ms;let ad:u=[]:=by
  cases u with
  | nil=>rfl
  | cons a b=>simp at R
 subst ad;ext;exact q t B j e1 X U fl.nd fl.all
open Dt
open gn (V3 l3 S3 tn)
local macro_rules | `(tactic| walk_at "")=>`(tactic| repeat (first | with_reducible refine BB ?_ | with_reducible refine Ua ?_ | with_reducible refine DS ?_ | walk_at "q"))
theorem yF:aM ["rows", "column", "first", "row", "joined"] ["rows", "column"]<|aB Jl:=by walk_at "n"
theorem QN(D:Def K mg "led" Jl ["rows", "column"])(T:Txt K mg Z):W! "led" 1 ["rows", "column"] Jc:=by
 exists D.cE yF,c8,hr;let#[p,u,L,n,m,c,rfl,_]:=h;rfl;let#[p,u,L,n,m,c,rfl,g,rc,hc,ZF,hn,hm,ld,q]:=h;let gl:=g.len;let rl:=rc.len;let#[b,l,hb,hl,bL]:=g.at (i:=c) ();let ll:=rc.row l<|zag hl;obtain⟨x,hx⟩:∃x,l[c]?=some x:=#[l[c],by simp[show c<l.c by lia]];let ex:=ox hl hx;refine#[_,(ai (aC (i:=2) yF.nd rfl A!<|aF aw (pv 0) (pv 1) C?)<|ai (bY (aO tS (aF aw (pv 2) (pv 1) C?) aj<|aS _) (ak<|aN<|pv 0) bh)<|ai (bS zaF rfl (bJ<|bF cp (pv 0) (bZ<|ao bI (pv 1) aj) b7) (aD (i:=3) yF.nd rfl A!)<|ak<|bY (aO tS (aF aw (pv 3) (pv 1) C?) aj<|aS _) (ai (eO (i:=4) yF.nd rfl A! (tg:=["one", "other"]) (fr:=[]) D! rfl (y9 T.zip<|aa (pv 2)<|aa (pv 3) ah) (λ_ _ _ _ _=>(mO (K:=K) rfl (n:=2) rfl<|bo (aD (i:=0) (show [("one":Str),("other":Str)].Nodup by decide +kernel) rfl A!)<|bo (aD (i:=1) (show [("one":Str),("other":Str)].Nodup by decide +kernel) rfl A!) dY)) (λ_ _ _ _ _=>aY)<|λ_ _ _ _ _=>(ao bI (pv 0)<|pv 1))<|ak<|aN<|ao dG (ao dG (bF cp (pv 0) b7<|bZ<|pv 1)<|bH<|aa (pv 4) ah)<|bF cp (pv 0) (bZ<|ao bI (pv 1) aj) b7) bh)<|ak iR),?_]
 dsimp only[cN];ext;refine aT (aI.of g.top) (g.ix hb) ?_;ext;refine aT (aI.of bL) (bV<|by rw[zao,hx];rfl) ?_;ext;refine nQ (λz=>?_)<|λz=>?_;ext;exact q p u L H (λ_ _ e=>e) g<|.inl #[rfl,ex>>z];ext;refine cP ?_;refine dw ?_;refine yX (a:=p) (i:=0) (k:=1) (n:=c) rfl rfl (aI.of g.top) (by rw[zaa];lia) λW AF=>?_;rw[<-zeQ];let e1:af H<|upd H W<|.lst<|(u.drop<|c+1).h:=af.upd AF;let g1:=g.dropped (c+1) AF;generalize upd H W (.lst<|(u.drop<|c+1).h)=H1 at e1 g1 ⊢;refine#[W,rfl,#[_,aI.of g1.top],fJ (K:=K) (a:=W) (xs:=(u.drop<|c+1).h) (λi Y I=>∃v3 v4:Option V,Y=[p.i,c.l,b.i,v3,v4]/\af H1 I/\∀r,c<r->r<c+1+i->mx L r c=0) #[none,none,rfl,λ_ _ e=>e,λr h1 h2=>()] (λi Y I _ ⟨_,_,_,e,_⟩=>aI.of<|e _ _ g1.top) ?_ ?_];ext i y Y I hy ⟨v3,v4,rfl,e2,S⟩;let#[d,hd,rfl]:=jC hy;rw[zdG]at hd;let hi:c+1+i<n:=by let:=(zab.mp hd).1;lia
 let#[d2,r,N,Mh,xF]:=g.at (i:=c+1+i) ();rw[hd]at N;cases N;let Jr:=rc.row r<|zag Mh;obtain⟨xr,G⟩:∃x,r[c]?=some x:=#[r[c],by simp[show c<r.c by lia]];let er:=ox Mh G;let C:=e1.trans e2;ext;refine aT (aI.of<|C _ _ xF) (bV<|by rw[zao,G];rfl) ?_;ext;refine nQ (λz2=>?_)<|λz2=>?_;ext;refine bC ?_;refine#[_,rfl,_,rfl,b,d,rfl,#[_,aI.of<|C _ _ bL],#[_,aI.of<|C _ _ xF],λt aX=>?_];refine u3 (K:=K) (a:=b) (b:=d) (xs:=l.f) (ys:=r.f) (n:=m) (by rw[zaa,zaa];lia) (λi B zs v=>∃v1 v2:Option V,B=[v1,v2]/\zs=((List.zipWith (·+·) l r).take i).f/\af I v/\v t=some (.lst zs))
  #[none,none,rfl,rfl,af.upd aX,ae] (λi B zs v _ ⟨_,_,_,_,e,_⟩=>#[aI.of<|e _ _<|C _ _ bL,aI.of<|e _ _<|C _ _ xF]) ?_ ?_
 ext j x1 y1 pr B zs v Mg Rf hj ⟨v1,v2,rfl,rfl,U,X⟩ Cj;let#[x1,Mf,rfl]:=int_at Mg;let#[y1,Me,rfl]:=int_at Rf;let F:af v<|upd v pr<|.tup [.int x1,.int y1]:=af.upd Cj;refine inS λ_ nNN=>?_;refine fD (SqT.of ae) rfl ?_;generalize upd v pr (.tup [.int x1,.int y1])=R at F ⊢;ext;refine#[F _ _ X,zaa>>zaL>>aq (),nNN _ _ _ #[_,_,rfl,?_,af.fresh (U.trans F) aX,ae]];rw[AM Mf Me,zat];rfl;ext B zs v ⟨v1,v2,rfl,rfl,U,X⟩;rw[zca<|by rw[zfx];lia]at X;let g3:=(g.same C).same U;ext;refine yW (a:=p) (i:=0) (k:=1) (n:=c) rfl rfl (aI.of g3.top) (by rw[zaa];lia) λq1 Pj=>?_;rw[<-zeR];let F:af v<|upd v q1<|.lst<|(u.take c).h:=af.upd Pj;let g4:=g3.taken c Pj;generalize upd v q1 (.lst<|(u.take c).h)=R at F g4 ⊢;ext;refine#[by rw[zak];simp,λq2 KW=>?_];let e5:af R<|upd R q2<|.lst [.ref t]:=af.upd KW;let g5:=aQ.one (F _ _ X) KW;let M:=g4.same e5;refine#[q1,q2,_,_,rfl,rfl,M.top,g5.top,by rw[zaa,zaL,zak];simp;lia,λq3 NI=>?_];let g6:=M.wg g5 NI;let e6:=e5.trans<|af.upd (o:=.lst<|(u.take c).h++[t].h) NI;refine(?_:LX _ _ _ _ _ (upd _ q3<|.lst<|(u.take c).h++[t].h) _);generalize upd (upd R q2<|.lst [.ref t]) q3 (.lst<|(u.take c).h++[t].h)=H6 at e6 g6 ⊢;let VU:=F.trans e6;let O:=g3.same VU;refine yX (a:=p) (i:=0) (k:=1) (n:=c) rfl rfl (aI.of O.top) (by rw[zaa];lia) λq4 Xe=>?_;rw[<-zeQ];let e7:af H6<|upd H6 q4<|.lst<|(u.drop<|c+1).h:=af.upd Xe;let g7:=O.dropped (c+1) Xe;let ZR:=g6.same e7;generalize upd H6 q4 (.lst<|(u.drop<|c+1).h)=H7 at e7 g7 ZR ⊢;refine#[q3,q4,_,_,rfl,rfl,ZR.top,g7.top,by rw[zaa,zaa,zav,zaL,zbz,zak];simp;lia,λq5 U1=>?_];let g8:=ZR.wg g7 U1;rw[xh ()]at g8;ext;refine q q5 _ _ _ ((((C.trans U).trans VU).trans e7).trans<|af.upd U1) g8<|.inr #[ex>>z,c+1+i,l,r,(),hi,hl,Mh,er>>z2,rfl];ext;refine#[_,_,rfl,e2,λq h1 h2=>?_];ext(y:q=c+1+i);rw[y,er];exact z2;exact S q h1 ();ext Y I ⟨v3,v4,rfl,e2,S⟩;exfalso;let#[r,h1,h2,h3]:=ld;rw[zaa,zbz]at S;ext(y:r=c);subst y;exact h3 (ex>>z);exact h3<|S r () ()
theorem iJ:aM ["row", "leader", "column", "last", "lead", "part"] ["row", "leader", "column", "last"]<|aB jv:=by walk_at "n"
theorem tU(D:Def K mg "row_cleared" jv ["row", "leader", "column", "last"])(T:Txt K mg Z):W! "row_cleared" 1 ["row", "leader", "column", "last"] Bb:=by
 exists D.cE iJ,c8,hr;let#[a,b,r,l,c,m,d,rfl,_]:=h;rfl;let#[a,b,r,l,c,m,d,rfl,B,F,rl,ll,hc,hm,d0,X,S,U,q]:=h;obtain⟨x,L⟩:∃x,l[c]?=some x:=#[l[c],by simp[show c<l.c by lia]];obtain⟨y,I⟩:∃x,r[c]?=some x:=#[r[c],by simp[show c<r.c by lia]];let ex:l.getD c 0=x:=by rw[zah,L];rfl
 let ey:r.getD c 0=y:=by rw[zah,I];rfl
 refine#[_,(ai (aC (i:=4) iJ.nd rfl A!<|aF aw (pv 1) (pv 2) C?)<|ai (aC (i:=5) iJ.nd rfl A!<|aF aw (pv 0) (pv 2) C?)<|ak<|aN<|bR (tg:=["one", "other"]) (fr:=[("last",3),("lead",4),("part",5)]) D! rfl (y9 T.zip<|aa (pv 0)<|aa (pv 1) ah) (λ_ _ _ _ _=>(mO (K:=K) rfl (n:=2) rfl<|bo (aD (i:=0) (show [("one":Str),("other":Str),("last":Str),("lead":Str),("part":Str)].Nodup by decide +kernel) rfl A!)<|bo (aD (i:=1) (show [("one":Str),("other":Str),("last":Str),("lead":Str),("part":Str)].Nodup by decide +kernel) rfl A!) dY)) (λ_ _ _ _ _=>aY)<|λ_ _ _ _ _=>(ao DX (ao cW (ao bG (pv 3)<|pv 0)<|ao bG (pv 4)<|pv 1)<|pv 2)),?_]
 dsimp only[cN];ext;refine aT (aI.of F) (bV<|by rw[zao,L];rfl) ?_;ext;refine aT (aI.of B) (bV<|by rw[zao,I];rfl) ?_;ext;refine bC ?_;refine#[_,rfl,_,rfl,a,b,rfl,#[_,aI.of B],#[_,aI.of F],λp C=>?_];refine u3 (K:=K) (a:=a) (b:=b) (xs:=r.f) (ys:=l.f) (n:=m) (by rw[zaa,zaa];lia) (λi g zs k=>∃G M:Option V,g=[G,M,d.j,x.j,y.j]/\zs=((Jw r l c d).take i).f/\af H k/\k p=some (.lst zs))
  #[none,none,rfl,rfl,af.upd C,ae] (λi g zs k _ ⟨_,_,_,_,e,_⟩=>#[aI.of<|e _ _ B,aI.of<|e _ _ F]) ?_ ?_
 ext j t u pr g zs k Mg Rf W ⟨G,M,rfl,rfl,z,v⟩ Y;let#[t,R,rfl]:=int_at Mg;let#[u,O,rfl]:=int_at Rf;let N:af k<|upd k pr<|.tup [.int t,.int u]:=af.upd Y;refine inS λ_ nNN=>?_;refine fD (SqT.of ae) rfl ?_;generalize upd k pr (.tup [.int t,.int u])=H4 at N ⊢;let m1:=(U x<|zag L).dJ<|S t<|zag R;let m2:=(S y<|zag I).dJ<|U u<|zag O;let cf:Ms (x*t-y*u) d:=#[d0,X];ext;refine#[N _ _ v,zaa>>zaL>>aq (),nNN _ _ _ #[_,_,rfl,?_,af.fresh (z.trans N) C,ae]];unfold Jw;rw[AM R O,zat,ex,ey];rfl;ext g zs k ⟨G,M,rfl,rfl,z,v⟩;rw[zca<|by unfold Jw;rw[zfx];lia]at v;ext;exact q p _ z C v
theorem RW(r:nV L n m)(p:c<n)(b:L[c]?=some l):Clr L ((L.map λr=>Jw r l c d).set c l) n m c d:=by
 let e:=r.row l<|zag b;let hlen:c<(L.map λr=>Jw r l c d).c:=zaa>>r.len>>p
 refine#[#[zcq>>zaa>>r.len,λk o=>?_],λj g=>?_,λi j f q g=>?_];ext(z|rfl:zdR o);let#[x,a,rfl]:=zaq.mp z;unfold Jw;rw[zfx,e,r.row x a];lia;exact e;rw[D5 hlen,ja,lW b];let#[x,a,t]:=r.at f;rw[D5 hlen,lP _ _ q,lW (by rw[zao,a];rfl),lW b,lW a,lW a,lW b];unfold Jw;rw[zah,getElem?_zipWith];let h:x[j]?=some (x.getD j 0):=by rw[zah];simp[show j<x.c by lia]
 let s:l[j]?=some (l.getD j 0):=by rw[zah];simp[show j<l.c by lia]
 rw[h,s];rfl
theorem eN:aM ["rows", "column", "last", "leader", "above", "under"] ["rows", "column", "last"]<|aB gD:=by walk_at "n"
theorem ou(D:Def K mg "column_cleared" gD ["rows", "column", "last"])(T:Txt K mg Z)(nF:W! "row_cleared" 1 ["row", "leader", "column", "last"] Bb):W! "column_cleared" 2 ["rows", "column", "last"] Bo:=by
 exists D.cE eN,c8,hr;let#[p,C,L,n,m,c,d,rfl,_]:=h;rfl;let#[p,C,L,n,m,c,d,rfl,g,S,hc,ZF,hn,hm,d0,dz,lz,q]:=h;let gl:=g.len;let rl:=S.len;let#[b,l,hb,hl,bL]:=g.at (i:=c) ();let ll:=S.row l<|zag hl;let Y:=lz l<|zag hl;refine#[_,(ai (aC (i:=3) eN.nd rfl A!<|aF aw (pv 0) (pv 1) C?)<|ai (eO (i:=4) eN.nd rfl A! (tg:=["row"]) (fr:=[("leader",3),("column",1),("last",2)]) D! rfl (bJ<|bF cp (pv 0) b7<|bZ<|pv 1) (λ_ _ _ _ _=>(aD (i:=0) (show [("row":Str),("leader":Str),("column":Str),("last":Str)].Nodup by decide +kernel) rfl A!)) (λ_ _ _ _ _=>aY)<|λ_ _ _ _ _=>(av nF hr aP<|aa (pv 0)<|aa (pv 1)<|aa (pv 2)<|aa (pv 3) ah))<|ai (eO (i:=5) eN.nd rfl A! (tg:=["row"]) (fr:=[("leader",3),("column",1),("last",2)]) D! rfl (bJ<|bF cp (pv 0) (bZ<|ao bI (pv 1) aj) b7) (λ_ _ _ _ _=>(aD (i:=0) (show [("row":Str),("leader":Str),("column":Str),("last":Str)].Nodup by decide +kernel) rfl A!)) (λ_ _ _ _ _=>aY)<|λ_ _ _ _ _=>(av nF hr aP<|aa (pv 0)<|aa (pv 1)<|aa (pv 2)<|aa (pv 3) ah))<|ak<|aN<|ao dG (ao dG (pv 4)<|bH<|aa (pv 3) ah)<|pv 5),?_]
 dsimp only[cN];ext;refine aT (aI.of g.top) (g.ix hb) ?_;ext;refine bC ?_;refine dw ?_;refine yW (a:=p) (i:=0) (k:=1) (n:=c) rfl rfl (aI.of g.top) (by rw[zaa];lia) λp1 AF=>?_;rw[<-zeR];let e1:af H<|upd H p1<|.lst<|(C.take c).h:=af.upd AF;let F:=g.taken c AF;generalize upd H p1 (.lst<|(C.take c).h)=H1 at e1 F ⊢;refine#[p1,rfl,#[_,aI.of F.top],λu aX=>?_];refine bD (K:=K) (a:=p1) (xs:=(C.take c).h) (λi j ys y=>∃(cs:cx) (v:Option V),j=[v,b.i,c.l,d.j]/\ys=cs.h/\af H1 y/\cs.c=i/\aQ y u cs (((L.take c).take i).map λr=>Jw r l c d)/\u∉cs)
  #[[],none,rfl,rfl,af.upd aX,rfl,#[ae,rfl,λi a l z=>by simp at z],by simp] (λi j ys y _ ⟨_,_,_,_,e,_⟩=>aI.of<|e _ _ F.top) ?_ ?_
 ext i x j ys y hx hi ⟨cs,v,rfl,rfl,ex,SJ,M,G⟩;let B:=hi;rw[zaa,F.len]at B;let#[a2,r,HG,U0,xF]:=F.at B;let#[a3,U,rfl]:=jC hx;rw[HG]at U;cases U;let N:r∈L:=zcO<|zag U0;let li:=B;rw[zaL]at li;ext;refine#[a2,b,r,l,c,m,d,rfl,ex _ _ xF,ex _ _<|e1 _ _ bL,S.row r N,ll,ZF,hm,d0,dz,lz r N,Y,λt Hy ey O ht=>?_];let gy:=M.same ey;let W:t≠u:=λz=>by rw[z]at O;exact absurd M.top (by rw[O];simp)
 refine#[gy.top,zaa>>aq (),nNN _ _ _ #[cs++[t],_,rfl,by simp,af.fresh (ex.trans ey) aX,by simp[SJ],?_,?_]];rw[take_snoc U0,zat];exact gy.snoc G W ht;ext z;ext(z|z:zal.mp z);exact G z;exact W (zai.mp z).symm;ext j ys H2 ⟨cs,v,rfl,rfl,e2,SK,g2,G⟩;rw[zaa,F.len,zbg]at g2;let jX:=e1.trans e2;let gp:=g.same jX;ext;refine bC ?_;refine dw ?_;refine yX (a:=p) (i:=0) (k:=1) (n:=c) rfl rfl (aI.of gp.top) (by rw[zaa];lia) λp3 KY=>?_;rw[<-zeQ];let e3:af H2<|upd H2 p3<|.lst<|(C.drop<|c+1).h:=af.upd KY;let I:=gp.dropped (c+1) KY;let ac:=g2.same e3;generalize upd H2 p3 (.lst<|(C.drop<|c+1).h)=H3 at e3 I ac ⊢;refine#[p3,rfl,#[_,aI.of I.top],λR9 HF=>?_];refine bD (K:=K) (a:=p3) (xs:=(C.drop<|c+1).h) (λi j ys y=>∃(cs:cx) (v:Option V),j=[v,b.i,c.l,d.j]/\ys=cs.h/\af H3 y/\cs.c=i/\aQ y R9 cs (((L.drop<|c+1).take i).map λr=>Jw r l c d)/\R9∉cs)
  #[[],none,rfl,rfl,af.upd HF,rfl,#[ae,rfl,λi a l z=>by simp at z],by simp] (λi j ys y _ ⟨_,_,_,_,e,_⟩=>aI.of<|e _ _ I.top) ?_ ?_
 ext i x j ys y hx hi ⟨cs,v,rfl,rfl,ex,SJ,M,G⟩;let B:=hi;rw[zaa,I.len]at B;let#[a2,r,HG,U0,xF]:=I.at B;let#[a3,U,rfl]:=jC hx;rw[HG]at U;cases U;let N:r∈L:=zef<|zag U0;let li:=B;rw[zbz]at li;ext;refine#[a2,b,r,l,c,m,d,rfl,ex _ _ xF,ex _ _<|e3 _ _<|jX _ _ bL,S.row r N,ll,ZF,hm,d0,dz,lz r N,Y,λt Hy ey O ht=>?_];let gy:=M.same ey;let W:t≠R9:=λz=>by rw[z]at O;exact absurd M.top (by rw[O];simp)
 refine#[gy.top,zaa>>aq (),nNN _ _ _ #[cs++[t],_,rfl,by simp,af.fresh (ex.trans ey) HF,by simp[SJ],?_,?_]];rw[take_snoc U0,zat];exact gy.snoc G W ht;ext z;ext(z|z:zal.mp z);exact G z;exact W (zai.mp z).symm;ext j ys H4 ⟨ds,v,rfl,rfl,e4,al,g4,nd⟩;rw[zaa,I.len,zbg]at g4;let Lq:=(jX.trans e3).trans e4;ext;refine#[by rw[zak];simp,λq2 KW=>?_];let e5:af H4<|upd H4 q2<|.lst [.ref b]:=af.upd KW;let g5:=aQ.one (Lq _ _ bL) KW;let X:=(ac.same e4).same e5;let ad:=g2.len;let ag:=g4.len;rw[zaa,zaL]at ad;rw[zaa,zbz]at ag;refine#[u,q2,_,_,rfl,rfl,X.top,g5.top,by rw[zaa,zaa,zbd,zak];lia,λq3 NI=>?_];let g6:=X.wg g5 NI;let e6:=e5.trans<|af.upd (o:=.lst<|cs.h++[b].h) NI;let R:=g4.same e6;ext;refine#[q3,R9,_,_,rfl,rfl,g6.top,R.top,by rw[zaa,zaa,zav,zbd,zak];lia,λq5 U1=>?_];let g8:=g6.wg R U1;rw[zeR,zeQ,xh<|by rw[zaa];lia]at g8;ext;exact q q5 _ _ _ ((Lq.trans e6).trans<|af.upd U1) g8<|RW S hc hl
theorem gA:aM ["rows", "last", "whole", "column"] ["rows"]<|aB pD:=by walk_at "n"
theorem D3(D:Def K mg "cleared" pD ["rows"])(T:Txt K mg Z)(VC:W! "led" 1 ["rows", "column"] Jc)(qg:W! "column_cleared" 2 ["rows", "column", "last"] Bo):W! "cleared" 3 ["rows"] sP:=by
 exists D.cE gA,c8,hr;let#[p,as,L,n,m,M,rfl,_]:=h;rfl;let#[p,as,L,n,m,M,rfl,g,rc,N,Y,hm,hM,hb,hz,inj,q]:=h;refine#[_,(ai (aC (i:=1) gA.nd rfl A! aj)<|ai (aC (i:=2) gA.nd rfl A!<|pv 0)<|ai (bS zaF rfl (bw rfl T.range<|aa (aE aL C! T.len aU<|aa (pv 0) ah) ah) (aD (i:=3) gA.nd rfl A!)<|ai (aC (i:=2) gA.nd rfl A!<|av qg hr aP<|aa (av VC hr aP<|aa (pv 2)<|aa (pv 3) ah)<|aa (pv 3)<|aa (pv 1) ah)<|ak<|aC (i:=1) gA.nd rfl A!<|aF aw (aF aw (pv 2) (pv 3) C?) (pv 3) C?)<|ak<|aN<|pv 2),?_]
 dsimp only[cN];ext;refine cP ?_;refine#[_,rfl,_,_,rfl,.inl #[_,aI.of g.top,rfl],(n:Int),by rw[zaa,g.len,rc.len],(),(),?_];rw[zaB];refine cM (λi R k=>∃(c:Addr) (j:cx) (W:dy) (d:Int) (B:Mx) (v:Option V),R=[p.i,d.j,c.i,v]/\af H k/\aQ k c j W/\nV W n m/\Cd n m M i i (mx L) (mx W) d B)
  #[p,as,L,1,mx L,none,rfl,λ_ _ e=>e,g,rc,Cd.start hb] ?_ ?_
 ext i R k r ⟨c,j,W,d,B,v,rfl,O,I,z,F⟩;simp only[zbB];ext;refine#[c,j,W,n,m,i,rfl,I,z,r,(),Y,hm,F.lead r N inj,λp3 cs U H2 e2 g2 ld=>?_];let#[X,WW,B2,y]:=F.YT z r ld;let wz:∀l∈U,∀x∈l,Sz 9000 x:=λl u x G=>by let#[a,S]:=zaS.mp u;let#[b,Iy]:=zaS.mp G;erw[<-ox S Iy,zaY (y.EJ hM () a b) hz]
 ext;refine#[p3,cs,U,n,m,i,d,rfl,g2,X,r,(),Y,hm,y.ba.ne,zaY (y.V6 hM ()) hz,wz,λp4 ds W3 H3 e3 C cl=>?_];let t:=y.next X r WW cl;let l3:=cl.Ju.len;let#[a,l,S,u,bL]:=C.at (i:=i) ();let ll:=cl.Ju.row l<|zag u;obtain⟨x,G⟩:∃x,l[i]?=some x:=#[l[i],by simp[show i<l.c by lia]];let ex:mx U i i=x:=by erw[<-cl.own i (),ox u G]
 rw[ex]at t;ext;refine aT (aI.of C.top) (C.ix S) ?_;ext;refine aT (aI.of bL) (bV<|by rw[zao,G];rfl) ?_;ext;exact#[p4,ds,W3,x,B2,_,rfl,(O.trans e2).trans e3,C,cl.Ju,t];ext R k ⟨c,j,W,d,B,v,rfl,O,I,z,F⟩;ext;exact q c j W B d k O I z F
theorem EK(h:n<=8):((n+1)*(2*2 ^ 20)) ^ (n+1)<2 ^ 226:=by
 let a:(n+1)*(2*2 ^ 20)<=2 ^ 4*(2*2 ^ 20):=zbG _ ();let b:2 ^ 4*(2*2 ^ 20)=2 ^ 25:=by decide
 rw[b]at a;refine zaY (zdr a _) ?_;erw[<-Nat.pow_mul,zdm B! ()]
theorem Og(h:n<=8):((n+1)*(2*2 ^ 20)) ^ (n+1)<2 ^ 9000:=zcZ (EK h)<|zdm B! B!
theorem xi:aM ["rows", "goals", "joined"] ["rows", "goals"]<|aB sX:=by walk_at "n"
theorem Hi(D:Def K mg "solved" sX ["rows", "goals"])(T:Txt K mg Z)(zN:W! "ratio" 2 ["top", "bottom"] sJ)(gf:W! "made_whole" 3 ["row"] rE)(HI:W! "cleared" 3 ["rows"] sP):W! "solved" 4 ["rows", "goals"] wW:=by
 exists D.cE xi,c8,hr;let#[p,o,as,gp,R,gs,n,rfl,_]:=h;rfl;let#[p,o,as,gp,R,gs,n,rfl,g,ho,pr,fn,hn,sz,YF,q]:=h;let gl:=g.len;let pl:=pr.len;let rl:=fn.rl;let au:=fn.gl;refine#[_,(ai (eO (i:=2) xi.nd rfl A! (tg:=["row", "goal"]) (fr:=[]) D! rfl (y9 T.zip<|aa (pv 0)<|aa (pv 1) ah) (λ_ _ _ _ _=>(mO (K:=K) rfl (n:=2) rfl<|bo (aD (i:=0) (show [("row":Str),("goal":Str)].Nodup by decide +kernel) rfl A!)<|bo (aD (i:=1) (show [("row":Str),("goal":Str)].Nodup by decide +kernel) rfl A!) dY)) (λ_ _ _ _ _=>aY)<|λ_ _ _ _ _=>(av gf hr aP<|aa (ao dG (pv 0)<|bH<|aa (pv 1) ah) ah))<|ak<|aN<|bR (tg:=["k", "row"]) (fr:=[]) D! rfl (mN T.enumerate<|aa (av HI hr aP<|aa (pv 2) ah) ah) (λ_ _ _ _ _=>(mO (K:=K) rfl (n:=2) rfl<|bo (aD (i:=0) (show [("k":Str),("row":Str)].Nodup by decide +kernel) rfl A!)<|bo (aD (i:=1) (show [("k":Str),("row":Str)].Nodup by decide +kernel) rfl A!) dY)) (λ_ _ _ _ _=>aY)<|λ_ _ _ _ _=>(av zN hr aP<|aa (aF (dO (K:=K) rfl) (pv 1) (je fX aj) C?)<|aa (aF (dO (K:=K) rfl) (pv 1) (pv 0) C?) ah)),?_]
 dsimp only[cN];ext;refine bC ?_;refine#[_,rfl,_,rfl,p,o,rfl,#[_,aI.of g.top],#[_,aI.of ho],λU aX=>?_];refine u3 (K:=K) (a:=p) (b:=o) (xs:=as.h) (ys:=gp.h) (n:=n) (by rw[zaa,zaa];lia) (λi C zs H1=>∃(v1 v2:Option V) (cs:cx) (L:dy),C=[v1,v2]/\zs=cs.h/\af H H1/\aQ H1 U cs L/\U∉cs/\L.c=i/\∀(j:Nat) (m:List<|Int×Int) (g:Int×Int) (l:dm),R[j]?=some m->gs[j]?=some g->L[j]?=some l->∃b,Wh (m++[g]) b l/\b.natAbs<=pd (m++[g]))
  #[none,none,[],[],rfl,rfl,af.upd aX,#[ae,rfl,λi a l z=>by simp at z],by simp,rfl,λj m g l _ _ z=>by simp at z] (λi C zs H1 _ ⟨_,_,_,_,_,_,e,_⟩=>#[aI.of<|e _ _ g.top,aI.of<|e _ _ ho]) ?_ ?_
 ext j x y Uo C zs H1 O hy hj ⟨v1,v2,cs,L,rfl,rfl,e1,g1,na,hL,Y⟩ Rk;let#[a,m,N,ha,F,bL,Cj]:=g.at (i:=j) ();let#[a2,HG,rfl]:=jC O;rw[ha]at HG;cases HG;let#[c,hc,rfl]:=jC hy;let#[G,an,HE]:=pr.at hc;let fm:=zag F;let gm:=zag an;let#[fl,fp]:=fn.row m fm;let e2:af H1<|upd H1 Uo<|.tup [.ref a,.ref c]:=af.upd Rk;refine inS λ_ nNN=>?_;refine fD (SqT.of ae) rfl ?_;generalize upd H1 Uo (.tup [.ref a,.ref c])=H2 at e2 ⊢;let jX:=e1.trans e2;ext;refine#[by rw[zak];simp,λq1 Pj=>?_];let e3:af H2<|upd H2 q1<|.lst [.ref c]:=af.upd Pj;let x3:upd H2 q1 (.lst [.ref c]) q1=some (.lst<|[c].h):=ae;let ap:=Cj.len;refine#[a,q1,_,_,rfl,rfl,(jX.trans e3) _ _ bL,x3,by rw[zaa,zaa,zbd,zak];lia,λq2 KW=>?_];let e4:=e3.trans<|af.upd (o:=.lst<|N.h++[c].h) KW;let x4:upd (upd H2 q1<|.lst [.ref c]) q2 (.lst<|N.h++[c].h) q2=some (.lst<|(N++[c]).h):=zat>>ae
 ext;refine#[q2,N++[c],m++[G],400,rfl,.inl x4,PR.app (Cj.same<|jX.trans e4)<|.cons ((jX.trans e4) _ _ HE) .nil,#[λf F=>?_,λf F=>?_,λf F=>?_],by decide,by rw[zav,fl,zbd];lia,λt l H5 e5 ft ht wh bp=>?_];ext(z|z:zal.mp F);exact fp f z;rw[zai.mp z];exact fn.goal G gm;let zz:f.1.natAbs<=2 ^ 20:=by ext(z|z:zal.mp F);exact(sz.rt m fm f z).2;erw[zai.mp z,(sz.gt G gm).2]
 exact zaY zz<|zdm B! B!;let zz:f.2=1:=by ext(z|z:zal.mp F);exact(sz.rt m fm f z).1;erw[zai.mp z,(sz.gt G gm).1]
 rw[zz];exact zfy B!;let RM:=(e2.trans e4).trans e5;let g5:=g1.same RM;let nt:t≠U:=λz=>by rw[z]at ft;exact absurd ((e2.trans e4) _ _ g1.top) (by rw[ft];simp)
 let cl:=g1.len;refine#[g5.top,zaa>>aq (),nNN _ _ _ #[_,_,cs++[t],L++[l],rfl,by simp,af.fresh (e1.trans RM) aX,g5.snoc na nt ht,?_,by rw[zav,hL];rfl,λk VP g' l' h1 h2 h3=>?_]];ext z;ext(z|z:zal.mp z);exact na z;exact nt (zai.mp z).symm;ext(z:k<L.c);rw[zaU z]at h3;exact Y k VP g' l' h1 h2 h3;let kl:=(zab.mp h3).1;rw[zav,zbd]at kl;let ek:k=j:=();subst ek;rw[zaO (),hL,zcD]at h3;cases h3;rw[F]at h1;rw[an]at h2;cases h1;cases h2;exact#[_,wh,bp];ext C zs H1 ⟨v1,v2,cs,L,rfl,rfl,e1,g1,na,hL,Y⟩;let ac:u7 n R gs L:=#[(),λi m g l h1 h2 h3=>let ⟨b,h4,_⟩:=Y i m g l h1 h2 h3;#[b,h4]];let each:∀(i:Nat) (l:dm),L[i]?=some l->l.c=n+1/\∀x∈l,x.natAbs<=2 ^ 20:=λi l I=>by
  let il:=(zab.mp I).1;obtain⟨m,F⟩:∃m,R[i]?=some m:=#[R[i]'(),by simp[show i<R.c by lia]];obtain⟨G,hg⟩:∃G,gs[i]?=some G:=#[gs[i]'(),by simp[show i<gs.c by lia]];let#[b,wh,bp]:=Y i m G l F hg I;let fm:=zag F;let gm:=zag hg;let#[fl,fp]:=fn.row m fm;let am:=wh.len;rw[zav,fl,zbd]at am;refine#[am,λx O=>?_];let#[j,hj]:=zaS.mp O;let jl:=(zab.mp hj).1;obtain⟨f,Pp⟩:∃f,(m++[G])[j]?=some f:=#[(m++[G])[j]'(by rw[zav,zbd];lia),by simp[show j<m.c+1 by lia]];let b1:=IH wh (λf F=>by ext(z|z:zal.mp F);exact fp f z;erw[zai.mp z,fn.goal G gm]) Pp hj;let b2:f.1.natAbs<=2 ^ 20:=by ext(z|z:zal.mp<|zag Pp);exact(sz.rt m fm f z).2;erw[zai.mp z,(sz.gt G gm).2]
  let b3:b.natAbs<=1:=by rw[zk<|λf F=>by ext(z|z:zal.mp F);exact(sz.rt m fm f z).1;erw[zai.mp z,(sz.gt G gm).1]]at bp;exact bp
  exact zaX b1<|zaX (zbE b2 b3) ()
 let rc:nV L n<|n+1:=#[hL,λl I=>by let#[i,hi]:=zaS.mp I;exact(each i l hi).1];let EJ:∀i j,(mx L i j).natAbs<=2 ^ 20:=λi j=>by ext(z:i<n/\j<n+1);let#[l,I,ll]:=rc.at z.1;obtain⟨x,O⟩:∃x,l[j]?=some x:=#[l[j]'(),by simp[show j<l.c by lia]];rw[ox I O];exact(each i l I).2 x<|zag O;erw[rc.out (),zaR _]
 ext;refine bC ?_;refine Fz ?_;ext;refine#[U,cs,L,n,n+1,2 ^ 20,rfl,g1,rc,(),(),(),zfz,EJ,Og hn,ac.inj fn YF,λw2 ds W B d H2 e2 g2 r2 cd=>?_];ext;let al:=g2.len;let ag:=r2.len;refine#[w2,rfl,#[_,aI.of g2.top],λR9 HF=>?_];refine HX (K:=K) (a:=w2) (xs:=ds.h) (λi C ys S=>∃(v v2:Option V) (N:cx) (xs:List<|Int×Int),C=[v,v2]/\ys=N.h/\af H2 S/\S R9=some (.lst ys)/\PR S N xs/\xs.c=i/\(∀x∈xs,Lw x/\Sz 226 x.1/\Sz 226 x.2)/\∀j,j<i->fa xs j=(mx W j n:Rat) / (d:Rat))
  #[none,none,[],[],rfl,rfl,af.upd HF,ae,.nil,rfl,by simp,λj z=>()] (λi C ys S _ ⟨_,_,_,_,_,_,e,_⟩=>aI.of<|e _ _ g2.top) ?_ ?_
 ext i x Uo C ys S O hi ⟨v,v2,N,xs,rfl,rfl,e3,a3,Sr,xl,lw,X⟩ Rk;let qM:=hi;rw[zaa,al,ag]at qM;let#[b,l,hb,I,bL]:=g2.at (i:=i) ();let#[b2,Iy,rfl]:=jC O;rw[hb]at Iy;cases Iy;let ll:=r2.row l<|zag I;obtain⟨y,hy⟩:∃y,l[n]?=some y:=#[l[n]'(),by simp[show n<l.c by lia]];obtain⟨xx,ad⟩:∃y,l[i]?=some y:=#[l[i]'(),by simp[show i<l.c by lia]];let ey:=ox I hy;let VT:xx=d:=by rw[<-(ox I ad),cd.ba.done qM qM,zam rfl]
 let dz:Sz 226 d:=zaY (cd.V6 zfz<|zaf _)<|EK hn;let yz:Sz 226 y:=by erw[<-ey,zaY (cd.EJ zfz (zaf _) i n)<|EK hn]
 let e4:af S<|upd S Uo<|.tup [.int i,.ref b]:=af.upd Rk;refine inS λ_ nNN=>?_;refine fD (SqT.of ae) rfl ?_;generalize upd S Uo (.tup [.int i,.ref b])=H4 at e4 ⊢;let Ph:=e4 _ _<|e3 _ _ bL;ext;refine aT (aI.of Ph) (Oi ll hy) ?_;ext;refine aT (aI.of Ph) (bV<|by rw[zao,ad];rfl) ?_;ext;refine#[y,xx,rfl,VT>>cd.ba.ne,VT>>dz.mono B!,λt u r H5 M e5 ar=>?_];let Xw:=e4.trans e5;let ap:=Sr.len;refine#[Xw _ _ a3,zaa>>aq (),nNN _ _ _ #[_,_,N++[r],xs++[(t,u)],rfl,by simp,af.fresh (e3.trans Xw) HF,ae,PR.off (PR.app (Sr.same Xw)<|.cons ar .nil)<|.inr<|Xw _ _ a3,by rw[zav,xl];rfl,λx O=>?_,λj hj=>?_]];ext(z|z:zal.mp O);exact lw x z;rw[zai.mp z];exact#[#[M.pos,M.co],Sz.le yz M.ta,Sz.le dz<|by erw[<-VT,M.ub]];ext(z:j<i);let:fa (xs++[(t,u)]) j=fa xs j:=by unfold fa;rw[zah,zaU (),<-zah]
 rw[this];exact X j z;let ej:j=i:=();subst ej;rw[Gp (f:=(t,u)) (by rw[zaO (),xl,zcD];rfl),QA (VT>>cd.ba.ne) M,ey,VT];ext C ys S ⟨v,v2,N,xs,rfl,rfl,e3,a3,Sr,xl,lw,X⟩;rw[zaa,al,ag]at xl X;ext;let vo:=e1.trans e2;exact q R9 N xs S (vo.trans e3) (vo.free HF) a3 Sr xl lw<|ac.sol fn cd X
theorem HM(r:dm)(j:Nat):(((List.range<|j+1).map λ(i:Nat)=>(i:Int)).filter λx=>decide<|x∉r)=(((List.range j).map λ(i:Nat)=>(i:Int)).filter λx=>decide<|x∉r)++(if(j:Int)∈r then []else [(j:Int)]):=by rw[zcn,zat,zcS];refine zaC _ ?_;show List.filter (λx=>decide<|x∉r) [(j:Int)]=_;ext(c:(j:Int)∈r);rw[zam c,zcX<|~~~c];rfl;rw[zaj c,zcW<|~~~c];rfl
theorem dX:aM ["orders", "fixed", "inner", "bottom", "whole", "rows", "goals", "found", "place", "number"] ["orders", "fixed"]<|aB pA:=by walk_at "n"
theorem DZ(D:Def K mg "middles" pA ["orders", "fixed"])(T:Txt K mg Z)(zN:W! "ratio" 2 ["top", "bottom"] sJ)(eC:W! "common_bottom" 2 ["row"] mG)(gf:W! "made_whole" 3 ["row"] rE)(K3:W! "solved" 4 ["rows", "goals"] wW)(zP:W! "middle_row" 1 ["order", "place", "inner"] Fe):W! "middles" 5 ["orders", "fixed"] sN:=by
 exists D.cE dX,c8,hr;let#[p,d,as,L,r,qs,I,rfl,_]:=h;rfl;let#[p,d,as,L,r,qs,I,rfl,g,im,i8,l8,hd,pr,rl,Fp,WT,LY,hf,q]:=h;refine#[_,(ai (aC (i:=2) dX.nd rfl A!<|bR (tg:=["place"]) (fr:=[("fixed",1)]) D! rfl (bw rfl T.range<|aa (aE aL C! T.len aU<|aa (pv 0) ah) ah) (λ_ _ _ _ _=>(aD (i:=0) (show [("place":Str),("fixed":Str)].Nodup by decide +kernel) rfl A!)) (λ_ _ _ _ _=>(gU<|pL<|pP (kW hr) (pv 0)<|pv 1))<|λ_ _ _ _ _=>(pv 0))<|ai (aC (i:=3) dX.nd rfl A!<|av eC hr aP<|aa (qI rfl T.list<|pv 1) ah)<|ai (aC (i:=4) dX.nd rfl A!<|nO rfl T.zip T.dict<|aa (iD (EF rfl) C! T.list Ak<|aa (pv 1) ah)<|aa (av gf hr aP<|aa (qI rfl T.list<|pv 1) ah) ah)<|ai (eO (i:=5) dX.nd rfl A! (tg:=["place"]) (fr:=[("inner",2),("orders",0)]) D! rfl (bJ<|pv 2) (λ_ _ _ _ _=>(aD (i:=0) (show [("place":Str),("inner":Str),("orders":Str)].Nodup by decide +kernel) rfl A!)) (λ_ _ _ _ _=>aY)<|λ_ _ _ _ _=>(av zP hr aP<|aa (aF (dO (K:=K) rfl) (pv 2) (pv 0) C?)<|aa (pv 0)<|aa (pv 1) ah))<|ai (eO (i:=6) dX.nd rfl A! (tg:=["place"]) (fr:=[("whole",4),("orders",0)]) D! rfl (bJ<|pv 2) (λ_ _ _ _ _=>(aD (i:=0) (show [("place":Str),("whole":Str),("orders":Str)].Nodup by decide +kernel) rfl A!)) (λ_ _ _ _ _=>aY)<|by ext _ _ _ _ _;exact(cR<|aa (aE (HY (K:=K) rfl rfl) C! T.sum RY<|aa (bR (tg:=["neighbour"]) (fr:=[("whole",1)]) D! rfl (BF (K:=K) rfl<|aF (dO (K:=K) rfl) (pv 2) (pv 0) C?) (λ_ _ _ _ _=>(aD (i:=0) (show [("neighbour":Str),("whole":Str)].Nodup by decide +kernel) rfl A!)) (λ_ _ _ _ _=>aY)<|λ_ _ _ _ _=>(JT (kW hr) (pv 1) (pv 0) aj #[rfl,rfl,rfl,rfl])) ah)<|aa aj ah))<|ai (aC (i:=7) dX.nd rfl A!<|iD EG C! T.dict Oe<|aa (pv 1) ah)<|ai (bS zaF rfl (y9 T.zip<|aa (pv 2)<|aa (av K3 hr aP<|aa (pv 5)<|aa (pv 6) ah) ah) (jF (n:=2) rfl<|bo (aD (i:=8) dX.nd rfl A!)<|bo (aD (i:=9) dX.nd rfl A!) dY)<|ak<|rO (kW hr) (pv 7) (pv 8) (av zN hr aP<|aa (aF dZ (pv 9) aj C?)<|aa (ao bG (aF dZ (pv 9) aj C?)<|pv 3) ah) rfl)<|ak<|aN<|bR (tg:=["place"]) (fr:=[("found",7)]) D! rfl (bw rfl T.range<|aa (aE aL C! T.len aU<|aa (pv 0) ah) ah) (λ_ _ _ _ _=>(aD (i:=0) (show [("place":Str),("found":Str)].Nodup by decide +kernel) rfl A!)) (λ_ _ _ _ _=>aY)<|λ_ _ _ _ _=>(rP (kW hr) (pv 1) (pv 0) C?)),?_]
 try dsimp only[cN]
 let gl:=g.len;let ql:=pr.c;let a6:r.c<=8:=zaX (ow (m:=(List.range L.c).map λ(i:Nat)=>(i:Int)) Fp λx F=>by let:=LY x F;exact zaq.mpr #[x.toNat,zaD.mpr (),()]) (zaa>>zby>>l8);let WL:∀x:Int,0<=x/\x<L.c->∃a,jJ as.h x=a.i/\H a=some (.lst<|(ez L x).f):=λx F=>by let#[b,l,hb,hl,bL]:=g.at (i:=x.toNat) ();rw[aK F.1 F.2]at hl;cases hl;refine#[b,?_,bL];let:=bV (xs:=as.h) (j:=x.toNat) (by rw[zao,hb];rfl);rwa [zcf F.1]at this
 let Yg:∀x:Int,0<=x/\x<L.c->(ez L x).c<=8/\True:=λx F=>#[zaX (ow (m:=(List.range L.c).map λ(i:Nat)=>(i:Int)) (im.nd _ _<|aK F.1 F.2) λy N=>by let:=im.rg _ _ (aK F.1 F.2) y N;exact zaq.mpr #[y.toNat,zaD.mpr (),()]) (zaa>>zby>>l8),trivial];ext;refine bC ?_;refine aJ<|jD<|aJ<|eS rfl<|aW #[_,_,rfl,.inl #[_,aI.of g.top,rfl],?_];rw[zaa,gl];refine aW #[(L.c:Int),rfl,(),(),?_];rw[zaB];ext Y am;refine cX (λj B ys G=>∃(v:Option V),B=[v,d.i]/\ys=((((List.range j).map λ(i:Nat)=>(i:Int)).filter λx=>decide<|x∉r).f)/\af H G/\G Y=some (.lst ys))
  #[none,rfl,rfl,af.upd am,ae] ?_ ?_
 ext j B ys G hj ⟨v,rfl,rfl,e1,h1⟩;simp only[zbB];let st:=HM r j;let dg:=jL.k (k:=(Sum.inl (j:Int):Key))<|e1 _ _ hd;let fl:((((List.range j).map λ(i:Nat)=>(i:Int)).filter λx=>decide<|x∉r)).c<=j:=zaX (zeK _ _) (zaa>>zby>>zaf _);ext;ext(c:(j:Int)∈r);let#[q0,_,Ze]:=uy rl c;rw[Ze]at dg;refine#[d,_,rfl,dg,false,rfl,?_];rw[zaj B!];exact nNN _ _ _ #[_,rfl,by rw[st,zam c,zdd],e1,h1];rw[Cb c]at dg;refine#[d,_,rfl,dg,true,rfl,?_];rw[zam rfl];refine eS rfl #[h1,zaa>>aq (),nNN _ _ _ #[_,rfl,by rw[st,zaj c,zat];rfl,af.fresh e1 am,ae]];ext B ys G ⟨v,rfl,rfl,e1,h1⟩;let Ee:∀x,x∈(((List.range L.c).map λ(i:Nat)=>(i:Int)).filter λx=>decide<|x∉r)↔(0<=x/\x<L.c)/\x∉r:=λx=>by rw[zft,mem_map];refine and_congr #[λ⟨i,h,e⟩=>?_,λh=>#[x.toNat,zaD.mpr (),()]] (by rw[zfv]);let:=zaD.mp h;lia
 let UL:(((List.range L.c).map λ(i:Nat)=>(i:Int)).filter λx=>decide<|x∉r).Nodup:=by rw[zcz];refine List.Pairwise.filter _ ?_;erw[zfo,zeE (λh z=>h ())<|zcw.mp zeS]
 let inl:(((List.range L.c).map λ(i:Nat)=>(i:Int)).filter λx=>decide<|x∉r).c<=L.c:=zaX (zeK _ _) (zaa>>zby>>zaf _);generalize (((List.range L.c).map λ(i:Nat)=>(i:Int)).filter λx=>decide<|x∉r)=C at Ee UL inl h1 ⊢;let fz:Fq 13 I:=#[λf m=>by rw[(hf f m).1];decide,λf m=>by let:=(hf f m).2;unfold Sz;exact zaY (show _<=4096 by lia) B!,λf m=>by rw[(hf f m).1];unfold Sz;decide];ext;refine tD<|eS rfl #[d,_,rfl,e1 _ _ hd,λv1 aX=>?_];rw[l9 rl];generalize M:upd G v1 _=H2;let#[e2,h2]:=qLy aX M;let jX:=e1.trans e2;ext;refine#[v1,qs,I,13,rfl,.inl h2,pr.same jX,fz,by decide,(),λl0 l1 l2=>?_];let ag:gv I=1:=by rw[zk λf m=>(hf f m).1]at l2;lia
 rw[ag];ext;refine pK ?_;ext;refine#[d,_,rfl,jX _ _ hd,λk1 a1=>?_];rw[iU rl];generalize M:upd H2 k1 _=H3;let#[e3,h3]:=qLy a1 M;let RO:=jX.trans e3;ext;refine tD<|eS rfl #[d,_,rfl,RO _ _ hd,λv2 ar=>?_];rw[l9 rl];generalize M:upd H3 v2 _=H4;let#[e4,h4]:=qLy ar M;let Lq:=RO.trans e4;ext;refine#[v2,qs,I,13,rfl,.inl h4,pr.same Lq,fz,by decide,(),λwl jP H5 e5 fw hw wh _=>?_];let tl:=wh.len;let tz:∀x∈jP,0<=x/\x<=4096:=λx F=>by let#[i,hi,ei]:=zaH.mp F;let:=wh.eq i I[i] x (zac ()) (by rw[zac hi,ei]);let h2:=hf I[i]<|zbo _;rw[ag,h2.1]at this;lia
 generalize Xk:List.zipWith (λx y=>((Sum.inl x:Key),V.int y)) r jP=kt;ext;let X6:r.c=jP.c:=();let an:kt.map (λp=>kV p.1)=r.f:=by erw[<-Xk,Cf X6]
 let ay:kt.map (·.2)=jP.f:=by erw[<-Xk,Ce X6]
 let a5:kt.c=r.c:=by let:=zaC List.length an;rwa [zaa,zaa]at this
 let ap:∀y:Int,∃x:Int,(eR kt (Sum.inl y:Key)).getD (V.int 0)=V.int x/\0<=x/\x<=4096:=λy=>by erw[<-Xk,F3 tz]
 let a0:((([]:List<|Key×V)++kt).map (·.1)).Nodup:=by erw[<-Xk,QZ X6 Fp]
 refine#[k1,wl,kt,rfl,aI.of (an>>(e4.trans e5) _ _ h3),aI.of (ay>>hw),(),λwd a2=>?_];rw[jc a0,zdA];generalize M:upd H5 wd _=H6;let#[e6,h6]:=qLy a2 M;let V0:=(Lq.trans e5).trans e6;let Ej:=(e2.trans<|e3.trans<|e4.trans<|e5.trans e6) _ _ h1;ext;refine bC ?_;refine dw<|eS rfl #[Y,rfl,#[_,aI.of Ej],λra NH=>?_];refine bD (K:=K) (a:=Y) (xs:=C.f) (λi B ys Hx=>∃(v:Option V) (rs:cx),B=[v,Y.i,p.i]/\ys=rs.h/\af H6 Hx/\ra∉rs/\FG Hx ra rs (jB L C<|C.take i))
  #[none,[],rfl,rfl,af.upd NH,by simp,#[ae,rfl,λi a I z=>by simp at z]] (by ext i B ys Hx _ ⟨_,_,_,_,e,_⟩;exact aI.of<|e _ _ Ej) ?_ ?_
 ext i z B ys Hx hz hi ⟨v,rs,rfl,rfl,X,na,fg⟩;let#[x,F,rfl]:=int_at hz;rw[zaa]at hi;let xr:=((Ee x).mp<|zag F).1;let#[a,X3,WM]:=WL x xr;let VZ:=V0.trans X;ext;refine aT (aI.of<|VZ _ _ g.top) X3 ?_;ext;refine#[a,Y,ez L x,C,x,rfl,VZ _ _ WM,X _ _ Ej,(),zaX (Yg x xr).1 B!,λt U H8 S ft ht WV=>?_];let al:=fg.same S;let nt:t≠ra:=λz=>by rw[z,fg.top]at ft;cases ft
 let fl:=fg.len;unfold jB at fl;rw[zaa,zaL]at fl;refine#[al.top,zaa>>aq (),nNN _ _ _ #[_,rs++[t],rfl,by rw[zat];rfl,af.fresh (X.trans S) NH,?_,?_]];ext z;ext(z|z:zal.mp z);exact na z;exact nt (zai.mp z).symm;let:jB L C (C.take<|i+1)=jB L C (C.take i)++[C.map<|gE (ez L x) x]:=by unfold jB;rw[take_snoc F,zat];rfl
 rw[this];exact al.snoc na nt ht WV;ext B ys Hx ⟨v,rs,rfl,rfl,X,na,fg⟩;rw[zaa,zbg]at fg;let VZ:=V0.trans X;ext;refine bC ?_;refine dw<|eS rfl #[Y,rfl,#[_,aI.of<|X _ _ Ej],λga ad=>?_];refine bD (K:=K) (a:=Y) (xs:=C.f) (λi B ys Hy=>∃(v:Option V) (gp:cx) (gs:List<|Int×Int),B=[v,wd.i,p.i]/\ys=gp.h/\af Hx Hy/\Hy ga=some (.lst gp.h)/\PR Hy gp gs/\gs.c=i/\∀g∈gs,g.2=1/\g.1.natAbs<=2 ^ 20)
  #[none,[],[],rfl,rfl,af.upd ad,ae,.nil,rfl,by simp] (by ext i B ys Hy _ ⟨_,_,_,_,_,e,_⟩;exact aI.of<|(X.trans e) _ _ Ej) ?_ ?_
 ext i z B ys Hy hz hi ⟨v,gp,gs,rfl,rfl,S,h8,LZ,Xt,gz⟩;let#[x,F,rfl]:=int_at hz;rw[zaa]at hi;let xr:=((Ee x).mp<|zag F).1;let#[a,X3,WM]:=WL x xr;let N6:=VZ.trans S;let r8:=(Yg x xr).1;ext;refine bC ?_;refine dw ?_;ext;refine aT (aI.of<|N6 _ _ g.top) X3 ?_;refine#[a,rfl,#[_,aI.of<|N6 _ _ WM],λsa UT=>?_];refine bD (K:=K) (a:=a) (xs:=(ez L x).f) (λk B ys Hz=>∃(v:Option V) (ns:dm),B=[v,wd.i]/\ys=ns.f/\af Hy Hz/\Hz sa=some (.lst ns.f)/\ns.c=k/\∀n∈ns,0<=n/\n<=4096)
  #[none,[],rfl,rfl,af.upd UT,ae,rfl,by simp] (by ext k B ys Hz _ ⟨_,_,_,_,e,_⟩;exact aI.of<|(N6.trans e) _ _ WM) ?_ ?_
 ext k z B ys Hz hz hk ⟨v,ns,rfl,rfl,O,h9,nl,nz⟩;let#[y,N,rfl]:=int_at hz;let#[yv,y1,y2]:=ap y;rw[zaa]at hk;ext;let dg:=jL.k (k:=(Sum.inl y:Key))<|(X.trans<|S.trans O) _ _ h6;refine#[_,rfl,wd,rfl,.inl #[_,.inl<|(X.trans<|S.trans O) _ _ h6],?_];ext;refine#[_,dg,?_];rw[y1];refine#[h9,zaa>>aq (),nNN _ _ _ #[_,ns++[yv],rfl,by rw[zat];rfl,af.fresh O UT,by rw[ae,zat];rfl,by rw[zav,nl];rfl,λn hn=>?_]];ext(z|z:zal.mp hn);exact nz n z;rw[zai.mp z];exact y2;ext B ys Hz ⟨v,ns,rfl,rfl,O,h9,nl,nz⟩;rw[zaa]at nl;let sb:0<=ns.sum/\ns.sum<=4096*ns.c:=IY nz;ext;refine#[sa,ns,rfl,aI.of h9,(),λx F=>by let:=nz x F;lia,?_];ext;ext t ht;generalize M:upd Hz t _=Ht;let#[qj,Pr]:=qLy ht M;let qi:=O.trans qj;let a3:=LZ.c;refine#[qi _ _ h8,zaa>>aq (),nNN _ _ _ #[_,gp++[t],gs++[(ns.sum,1)],rfl,by rw[zat];rfl,af.fresh (S.trans qi) ad,by rw[ae,zat];rfl,PR.lst (PR.snoc (LZ.same qi) Pr)<|qi _ _ h8,by rw[zav,Xt];rfl,λg hg=>?_]];ext(z|z:zal.mp hg);exact gz g z;rw[zai.mp z];exact#[rfl,by show ns.sum.natAbs<=2 ^ 20;lia];ext B ys Hy ⟨v,gp,gs,rfl,rfl,S,h8,LZ,Xt,gz⟩;rw[zaa]at Xt;let N6:=VZ.trans S;ext;refine#[d,_,rfl,N6 _ _ hd,λfd Gf=>?_];generalize M:upd Hy fd _=H9;let#[O,h9]:=qLy Gf M;let ax:∀(l:dm) (x y:Int),l.c<=8->(gE l x y).2=1/\(gE l x y).1.natAbs<=2 ^ 20:=λl x y hl=>by unfold gE;split;exact#[rfl,by show((l.c:Int)).natAbs<=2 ^ 20;lia];split;exact#[rfl,by decide];exact#[rfl,by decide]
 let Ql:∀I∈jB L C C,I.c=C.c/\∀f∈I,f.2=1/\f.1.natAbs<=2 ^ 20:=λI Po=>by let#[x,F,rfl]:=zaq.mp Po;refine#[zaa _,λf hf=>?_];let#[y,N,rfl]:=zaq.mp hf;exact ax _ _ _ (Yg x ((Ee x).mp F).1).1
 let#[r0,Mh]:=zeV r WT;ext;refine cP #[_,rfl,_,rfl,_,rfl,ra,ga,rs,gp,jB L C C,gs,C.c,rfl,fg.same<|S.trans O,O _ _ h8,LZ.same O,#[zaa _,Xt,λI Po=>#[(Ql I Po).1,λf hf=>by rw[((Ql I Po).2 f hf).1];decide],λg hg=>by rw[(gz g hg).1];decide],(),#[λI Po=>(Ql I Po).2,gz],D7 im i8 UL (λx F=>((Ee x).mp F).1) (LY r0 Mh)<|λz=>((Ee r0).mp z).2 Mh,λt U xs Ht qj ft ht WV xl xz _=>?_];let Z4:=(N6.trans O).trans qj;let a7:=WV.c;let ny:Hy t=none:=O.free ft;refine#[Y,t,rfl,#[_,aI.of<|(X.trans<|S.trans<|O.trans qj) _ _ Ej],#[_,aI.of ht],?_];refine N2 (K:=K) (a:=Y) (b:=t) (xs:=C.f) (ys:=U.h) (λm σ G=>∃(v8 v9:Option V) (kv:List<|Key×V),σ=[p.i,d.i,Y.i,some<|.int 1,wd.i,ra.i,ga.i,fd.i,v8,v9]/\af Hy G/\G t=some (.lst U.h)/\PR G U xs/\G fd=some (.dK kv)/\kv.c<=8+m/\∀y,y∈r\/y∈C.take m->Fnd G kv y)
  ?_ (by rw[zaa,zaa];lia) (by ext m σ G _ ⟨_,_,_,_,e,t1,_⟩;exact#[aI.of<|(X.trans<|S.trans e) _ _ Ej,aI.of t1]) ?_ ?_
 refine#[none,none,pX r qs,rfl,O.trans qj,ht,WV,qj _ _ h9,by let:=zaC List.length<|iU rl;rw[zaa,zaa]at this;lia,λy N=>?_];let N:y∈r:=N.elim id λz=>by simp at z
 let#[q0,Ze,hv]:=uy rl N;let#[k,hk]:=zaS.mp Ze;let#[R,SG,HE]:=pr.at hk;let:=hf R<|zag SG;refine#[q0,R,hv,Z4 _ _ HE,?_,?_,?_];show 0<R.2/\Int.gcd R.1 R.2=1;rw[this.1];exact#[by decide,by simp];unfold Sz;exact zaY (show _<=4096 by lia) B!;rw[this.1];unfold Sz;decide;ext m x y pp σ G F N ⟨v8,v9,kv,rfl,RN,t1,Yu,f1,kl,Xv⟩ au;let#[x,Mf,rfl]:=int_at F;let Ei:=(zab.mp Mf).1;let#[c,hc,rfl]:=jC N;let#[R,SG,HE]:=Yu.at hc;let Tg:=xz R<|zag SG;let N5:af G<|upd G pp<|.tup [.int x,.ref c]:=af.upd au;refine inF λ_ _=>?_;refine fD (SqT.of ae) rfl ?_;generalize upd G pp (.tup [.int x,.ref c])=a4 at N5 ⊢;ext;let Co:=N5 _ _ HE;let mo:IntMulOk R.2 1:=Sz.dJ (m:=300) (n:=1) (Tg.2.2.mono B!) (by unfold Sz;decide);refine BA (SqT.of Co) rfl ?_;ext;refine#[R.1,R.2*1,rfl,by let:=Tg.1.1;lia,zfB>>Tg.2.2.mono B!,λtt u M ac W aZ NI=>?_];rw[zfB]at W;let Ln:=N5.trans aZ;ext;let f3:=Ln _ _ f1;refine#[fd,_,rfl,vm.k (k:=(Sum.inl x:Key)) f3<|aq (),?_];let kx:(ff kv (Sum.inl x:Key)<|V.ref M).c<=8+(m+1):=by let:=fT kv (Sum.inl x:Key)<|V.ref M;lia
 let keep:∀{b:Addr} {xs:List V},ac b=some (.tup xs)->upd ac fd (.dK<|ff kv (Sum.inl x:Key)<|V.ref M) b=some (.tup xs):=λ{b xs} hb=>aG (λz=>by rw[z,f3]at hb;cases hb)>>hb
 refine nNy (by assumption) ?_;refine#[_,_,_,rfl,af.fresh (RN.trans Ln) Gf,?_,PR.dk (Yu.same Ln) f3,ae,kx,λy N=>?_];let t3:=Ln _ _ t1;rw[aG<|λz=>by rw[z,f3]at t3;cases t3];exact t3;ext(z:y=x);subst z;exact#[M,(tt,u),by rw[AR,zam rfl],keep NI,#[W.pos,W.co],Sz.le (Tg.2.1.mono B!) W.ta,Sz.le (Tg.2.2.mono B!) W.ub];let NF:y∈r\/y∈C.take m:=N.imp id λw=>by rw[take_snoc Mf]at w;exact(zal.mp w).resolve_right λw=>z<|zai.mp w
 let#[q0,f0,d1,d2,d3]:=Xv y NF;exact#[q0,f0,AR>>zaj (λw=>z<|by injection w)>>d1,keep<|Ln _ _ d2,d3];ext σ G ⟨v8,v9,kv,rfl,RN,t1,Yu,f1,kl,Xv⟩;rw[zaa,zbg]at Xv;ext;refine bC ?_;refine aJ<|jD<|aJ<|eS rfl<|aW #[_,_,rfl,.inl #[_,aI.of<|(N6.trans RN) _ _ g.top,rfl],?_];rw[zaa,gl];refine aW #[(L.c:Int),rfl,(),(),?_];rw[zaB];ext fl Zy;refine cX (λj B ys H2=>∃(v:Option V) (U:cx) (xs:List<|Int×Int),B=[v,fd.i]/\ys=U.h/\af G H2/\H2 fl=some (.lst U.h)/\PR H2 U xs/\xs.c=j/\∀x∈xs,Dt.Lw x/\Sz 300 x.1/\Sz 300 x.2)
  #[none,[],[],rfl,rfl,af.upd Zy,ae,.nil,rfl,by simp] ?_ ?_
 ext j B ys H2 hj ⟨v,U,xs,rfl,rfl,N5,zX,O2,XY,XX⟩;simp only[zbB];let#[q0,R,d1,d2,d3]:=(λy N=>Xv y<|(Classical.em<|y∈r).imp id λz=>(Ee y).mpr #[N,z]) (j:Int) ();let dg:=jL.k (k:=(Sum.inl (j:Int):Key))<|N5 _ _ f1;rw[d1]at dg;let a8:=O2.c;ext;refine yY ?_;ext;refine#[fd,_,rfl,dg,?_];refine#[zX,zaa>>aq (),nNN _ _ _ #[_,U++[q0],xs++[R],rfl,by rw[zat];rfl,af.fresh N5 Zy,by rw[ae,zat];rfl,PR.lst (PR.snoc O2<|N5 _ _ d2) zX,by rw[zav,XY];rfl,λx F=>?_]];ext(z|z:zal.mp F);exact XX x z;rw[zai.mp z];exact d3;ext B ys H2 ⟨v,U,xs,rfl,rfl,N5,zX,O2,XY,XX⟩;ext;exact q fl U xs H2 ((N6.trans RN).trans N5) ((N6.trans RN).free Zy) zX O2 XY XX
open Dt (gv gc pd eJ kz)
open gn (V3 l3 S3 tn)
theorem cJ:aM ["one", "other", "great", "small", "rest"] ["one", "other"]<|aB gC:=by walk_at "n"
theorem ot(D:Def K mg "common_divisor" gC ["one", "other"])(T:Txt K mg Z):W! "common_divisor" 1 ["one", "other"] Dy:=by
 exists D.cE cJ,m,n;let#[a,b,rfl,_]:=h;rfl;let#[a,b,rfl,q]:=h;refine#[_,(ai (aC (i:=2) cJ.nd rfl A!<|aE CT C! T.abs LJ<|aa (pv 0) ah)<|ai (aC (i:=3) cJ.nd rfl A!<|aE CT C! T.abs LJ<|aa (pv 1) ah)<|ai (lV zaF (aO tS (pv 3) aj<|aS _)<|ai (aC (i:=4) cJ.nd rfl A!<|ao bE (pv 2)<|pv 3)<|ai (aC (i:=2) cJ.nd rfl A!<|pv 3)<|ak<|aC (i:=3) cJ.nd rfl A!<|pv 4)<|ak<|aN<|pv 2),?_]
 refine#[_,rfl,a,rfl,_,rfl,b,rfl,?_];refine nW (λc g=>∃(x y:Int) (r:Option V),c=[a.j,b.j,x.j,y.j,r]/\g=H/\0<=x/\0<=y/\Int.gcd x y=Int.gcd a b)
  (λc _=>match c with | [_,_,_,some<|.int y,_]=>y.toNat|_=>0) #[_,_,_,rfl,rfl,by split<;>lia,by split<;>lia,N0 a b] ?_
 ext c g ⟨x,y,r,rfl,rfl,k,l,j⟩;refine#[_,rfl,rfl,_,rfl,?_];rw[oO,zeH];refine nQ (λd=>?_)<|λd=>?_;let e:0<y:=();refine w_turn ?_;refine#[_,rfl,_,rfl,_,_,rfl,rfl,e,_,rfl,_,rfl,#[_,_,_,rfl,rfl,l,zbh _ d,?_],?_];rw[K9 x y k e,j];show(x%y).toNat<y.toNat;let:=zbe x e;lia;subst d;refine#[_,rfl,?_];rwa[<-j,NZ x k]at q
theorem eZ:aM ["row", "bottom", "number"] ["row"]<|aB gX:=by walk_at "n"
theorem pU(D:Def K mg "common_bottom" gX ["row"])(T:Txt K mg Z)(gF:W! "common_divisor" 1 ["one", "other"] Dy):W! "common_bottom" 2 ["row"] mG:=by
 exists D.cE eZ,c8,hr;let#[a,I,C,z,rfl,_]:=h;rfl;let#[a,I,C,z,rfl,B,pr,N,G,hl,q]:=h;refine#[_,(ai (aC (i:=1) eZ.nd rfl A! aj)<|ai (bS zaF rfl (DW<|pv 0) (aD (i:=2) eZ.nd rfl A!)<|ak<|aC (i:=1) eZ.nd rfl A!<|ao bG (ao dF (pv 1)<|av gF hr aP<|aa (pv 1)<|aa (aF dZ (pv 2) aj C?) ah)<|aF dZ (pv 2) aj C?)<|ak<|aN<|pv 1),?_]
 dsimp only[cN];ext;ext(B|B:B);refine cP ?_;refine#[_,rfl,a,rfl,.inl #[#[_,aI.of B],fJ (λi k j=>∃(b:Int) (v:Option V),k=[a.i,b.j,v]/\b=gv (C.take i)/\j=H/\0<b/\(∀f∈C.take i,f.2 ∣ b)/\b.natAbs<=pd (C.take i)/\Sz (z*i+1) b) #[1,none,rfl,by simp[gv],rfl,by decide,by simp,by simp[pd],by unfold Sz;exact zfy ()] (λi k j _ ⟨_,_,_,_,e,_⟩=>e>>aI.of B) ?_ ?_]];ext i x k j g ⟨b,v,rfl,r,rfl,u,p,l,F⟩;rw[zao]at g;obtain⟨c,O,rfl⟩:∃c,I[i]?=some c/\x=V.ref c:=by
  cases e:I[i]? with
  | none=>rw[e]at g;cases g
  | some c=>rw[e]at g;exact#[c,rfl,(zas g).symm]
 let#[fr,d,Mi]:=pr.at O;let M:=zag d;let Y:=N.pos fr M;let t:=N.bot fr M;let#[R,n1,n2,n3]:=uu u Y;let X:=oK b (show fr.2≠0 by lia);let U:PX b ((Int.gcd b fr.2:Nat):Int):=#[(),Sz.le (t.mono G) (by let:=zew b (show fr.2≠0 by lia);simpa using this)];let mz:=Sz.dJ (m:=10000000) (n:=9000) (Sz.mono (Sz.le F (by
  let:(b / ((Int.gcd b fr.2:Nat):Int)).natAbs<=b.natAbs:=by let S:=zeg (show 0<=b by lia) (show 0<=((Int.gcd b fr.2:Nat):Int)by lia);let e2:=zdX ((Int.gcd b fr.2:Nat):Int) (show 0<=b by lia);lia
  exact this)) (by let hi:=(zab.mp d).1;let:z*i<=9000*1000:=zbE G ();lia))<|t.mono G
 ext;refine#[b,fr.2,rfl,?_];ext;refine#[_,_,rfl,by rw[take_snoc d,gc,<-r],rfl,R,λf L=>?_,?_,?_];rw[take_snoc d]at L;ext(y|y:zal.mp L);exact Int.dvd_trans (p f y) n1;rw[zai.mp y];exact n2;rw[take_snoc d,eJ,kz];exact zaX n3<|zbG _ l;let:=Sz.mul F t;refine Sz.mono (Sz.le this<|zbA b>>n3) ?_;rw[zdV];lia;ext k j ⟨b,v,rfl,r,rfl,u,p,l,F⟩;let W:=pr.len;rw[zaa,W,zbg]at p l r;subst r;ext;exact q u p l;refine cP ?_;refine#[_,rfl,a,rfl,.inr #[#[_,SqT.of B],Gk (K:=K) (a:=a) (xs:=I.h) (λi k j=>∃(b:Int) (v:Option V),k=[a.i,b.j,v]/\b=gv (C.take i)/\j=H/\0<b/\(∀f∈C.take i,f.2 ∣ b)/\b.natAbs<=pd (C.take i)/\Sz (z*i+1) b) #[1,none,rfl,by simp[gv],rfl,by decide,by simp,by simp[pd],by unfold Sz;exact zfy ()] (λi k j _ ⟨_,_,_,_,e,_⟩=>e>>SqT.of B) ?_ ?_]];ext i x k j g ⟨b,v,rfl,r,rfl,u,p,l,F⟩;rw[zao]at g;obtain⟨c,O,rfl⟩:∃c,I[i]?=some c/\x=V.ref c:=by
  cases e:I[i]? with
  | none=>rw[e]at g;cases g
  | some c=>rw[e]at g;exact#[c,rfl,(zas g).symm]
 let#[fr,d,Mi]:=pr.at O;let M:=zag d;let t:=N.bot fr M;let#[R,n1,n2,n3]:=uu u<|N.pos fr M;let X:=oK b (show fr.2≠0 by lia);let U:PX b ((Int.gcd b fr.2:Nat):Int):=#[(),Sz.le (t.mono G) (by let:=zew b (show fr.2≠0 by lia);simpa using this)];let mz:=Sz.dJ (m:=10000000) (n:=9000) (Sz.mono (Sz.le F (by
  let:(b / ((Int.gcd b fr.2:Nat):Int)).natAbs<=b.natAbs:=by let S:=zeg (show 0<=b by lia) (show 0<=((Int.gcd b fr.2:Nat):Int)by lia);let e2:=zdX ((Int.gcd b fr.2:Nat):Int) (show 0<=b by lia);lia
  exact this)) (by let hi:=(zab.mp d).1;let:z*i<=9000*1000:=zbE G ();lia))<|t.mono G
 ext;refine#[b,fr.2,rfl,?_];ext;refine#[_,_,rfl,by rw[take_snoc d,gc,<-r],rfl,R,λf L=>?_,?_,?_];rw[take_snoc d]at L;ext(y|y:zal.mp L);exact Int.dvd_trans (p f y) n1;rw[zai.mp y];exact n2;rw[take_snoc d,eJ,kz];exact zaX n3<|zbG _ l;let:=Sz.mul F t;refine Sz.mono (Sz.le this<|zbA b>>n3) ?_;rw[zdV];lia;ext k j ⟨b,v,rfl,r,rfl,u,p,l,F⟩;rw[zaa,pr.len,zbg]at p l r;subst r;ext;exact q u p l
theorem nv:aM ["row", "bottom"] ["row"]<|aB ke:=by walk_at "n"
theorem vL(D:Def K mg "made_whole" ke ["row"])(T:Txt K mg Z)(eC:W! "common_bottom" 2 ["row"] mG):W! "made_whole" 3 ["row"] rE:=by
 exists D.cE nv,c8,hr;let#[a,O,N,z,rfl,_]:=h;rfl;let#[a,O,N,z,rfl,M,pr,I,W,hl,q]:=h;let pl:=pr.len;refine#[_,(ai (aC (i:=1) nv.nd rfl A!<|av eC hr aP<|aa (pv 0) ah)<|ak<|aN<|bR (tg:=["number"]) (fr:=[("bottom",1)]) D! rfl (DW<|pv 0) (λ_ _ _ _ _=>(aD (i:=0) (show [("number":Str),("bottom":Str)].Nodup by decide +kernel) rfl A!)) (λ_ _ _ _ _=>aY)<|λ_ _ _ _ _=>(ao bG (aF (fN rfl) (pv 0) aj C?)<|ao dF (pv 1)<|aF (fN rfl) (pv 0) aj C?)),?_]
 dsimp only[cN];ext;refine#[a,O,N,z,rfl,M,pr,I,W,hl,λY bd bp=>?_];obtain⟨b,hb⟩:∃b,gv N=b:=#[_,rfl];rw[hb]at Y bd bp ⊢;ext;ext(M|M:M);refine bC ?_;refine#[_,rfl,a,rfl,.inl #[#[_,aI.of M],λB U=>?_]];refine bD (a:=a) (xs:=O.h) (λi d ys t=>∃(l:dm) (v:Option V),d=[v,b.j]/\ys=l.f/\af H t/\t B=some (.lst ys)/\Wh (N.take i) b l)
  #[[],none,rfl,rfl,af.upd U,ae,#[Y,by simp,λi f x k=>by simp at k]] (λi d ys t _ ⟨_,_,_,_,e,_⟩=>aI.of<|e _ _ M) ?_ ?_
 ext i x d ys t F hi ⟨l,v,rfl,rfl,G,X,C⟩;rw[zao]at F;obtain⟨c,hc,rfl⟩:∃c,O[i]?=some c/\x=V.ref c:=by
  cases e:O[i]? with
  | none=>rw[e]at F;cases F
  | some c=>rw[e]at F;exact#[c,rfl,(zas F).symm]
 let#[fr,u,Mi]:=pr.at hc;let qM:=(zab.mp u).1;let L:=zag u;let u0:=I.pos fr L;let uz:=I.bot fr L;let tz:=I.top fr L;let#[y,R]:=bd fr L;let ey:b / fr.2=y:=R>>zbY _ ()
 let S:l.c=i:=by rw[C.len,zaL];lia
 let gz:PX b fr.2:=#[u0,uz.mono W];let mz:IntMulOk fr.1<|b / fr.2:=by
  rw[ey];refine Sz.dJ (m:=9000) (n:=10000000) (tz.mono W) ?_;let Me:=zaX (R>>zbA>>zbV _ ()) bp;let Zf:∀r:List (Int×Int),(∀f∈r,Sz z f.2)->pd r<=2 ^ (z*r.c):=λr=>by
   induction r with
   | nil=>intro _;exact zaf _
   | cons g r ih=>
    ext h;erw[zbi,zdV,zdy,Nat.pow_add,zbE (zbL<|h g zan)<|ih λf u=>h f<|zae _ u]
  let p:=Zf N I.bot;let h3:z*N.c<10000000:=zaY (zbE W hl) B!;exact zaY (zaX Me p)<|zdm B! h3
 let Zw:=G _ _ Mi;ext;refine#[X,zaa>>S>>aq (),nNN _ _ _ #[l++[fr.1*(b / fr.2)],_,rfl,by rw[zat];rfl,af.fresh G U,ae,#[Y,?_,λj g x k p=>?_]]];rw[zav,S,zaL,zbd];lia;rw[take_snoc u]at k;ext(zz:j<i);rw[zaU<|by rw[zaL];lia]at k;rw[zaU ()]at p;exact C.eq j g x k p;let jl:=(zab.mp p).1;rw[zav,zbd]at jl;let ej:j=i:=();subst ej;rw[zaO (by rw[zaL];lia),zaL,Nat.min_eq_left (),zcD]at k;rw[zaO (),S,zcD]at p;cases k;cases p;rw[ey,R];grind;ext d ys t ⟨l,v,rfl,rfl,G,X,C⟩;rw[zaa,pl,zbg]at C;ext;subst hb;exact q B l t G U X C bp;refine bC ?_;refine#[_,rfl,a,rfl,.inr #[#[_,SqT.of M],λB U=>?_]];refine LF (K:=K) (a:=a) (xs:=O.h) (λi d ys t=>∃(l:dm) (v:Option V),d=[v,b.j]/\ys=l.f/\af H t/\t B=some (.lst ys)/\Wh (N.take i) b l)
  #[[],none,rfl,rfl,af.upd U,ae,#[Y,by simp,λi f x k=>by simp at k]] (λi d ys t _ ⟨_,_,_,_,e,_⟩=>SqT.of<|e _ _ M) ?_ ?_
 ext i x d ys t F hi ⟨l,v,rfl,rfl,G,X,C⟩;rw[zao]at F;obtain⟨c,hc,rfl⟩:∃c,O[i]?=some c/\x=V.ref c:=by
  cases e:O[i]? with
  | none=>rw[e]at F;cases F
  | some c=>rw[e]at F;exact#[c,rfl,(zas F).symm]
 let#[fr,u,Mi]:=pr.at hc;let qM:=(zab.mp u).1;let L:=zag u;let#[y,R]:=bd fr L;let ey:b / fr.2=y:=R>>zbY _ ()
 let S:l.c=i:=by rw[C.len,zaL];lia
 let gz:PX b fr.2:=#[I.pos fr L,(I.bot fr L).mono W];let mz:IntMulOk fr.1<|b / fr.2:=by
  rw[ey];refine Sz.dJ (m:=9000) (n:=10000000) ((I.top fr L).mono W) ?_;let Zf:∀r:List (Int×Int),(∀f∈r,Sz z f.2)->pd r<=2 ^ (z*r.c):=λr=>by
   induction r with
   | nil=>intro _;exact zaf _
   | cons g r ih=>
    ext h;erw[zbi,zdV,zdy,Nat.pow_add,zbE (zbL<|h g zan)<|ih λf u=>h f<|zae _ u]
  let p:=Zf N I.bot;exact zaY (zaX (zaX (R>>zbA>>zbV _ ()) bp) p)<|zdm B!<|zaY (zbE W hl) B!
 let Zw:=G _ _ Mi;ext;refine#[X,zaa>>S>>aq (),nNN _ _ _ #[l++[fr.1*(b / fr.2)],_,rfl,by rw[zat];rfl,af.fresh G U,ae,#[Y,?_,λj g x k p=>?_]]];rw[zav,S,zaL,zbd];lia;rw[take_snoc u]at k;ext(zz:j<i);rw[zaU<|by rw[zaL];lia]at k;rw[zaU ()]at p;exact C.eq j g x k p;let jl:=(zab.mp p).1;rw[zav,zbd]at jl;let ej:j=i:=();subst ej;rw[zaO (by rw[zaL];lia),zaL,Nat.min_eq_left (),zcD]at k;rw[zaO (),S,zcD]at p;cases k;cases p;rw[ey,R];grind;ext d ys t ⟨l,v,rfl,rfl,G,X,C⟩;rw[zaa,pl,zbg]at C;ext;subst hb;exact q B l t G U X C bp
theorem vC:aM ["spot"] ["spot"]<|aB j9:=by walk_at "n"
theorem vI(D:Def K mg "whole_spot" j9 ["spot"])(T:Txt K mg Z)(y:W! "common_bottom" 2 ["row"] mG)(v:W! "made_whole" 3 ["row"] rE):W! "whole_spot" 4 ["spot"] A4:=by
 exists D.cE vC,L,k;let#[a,g,b,z,rfl,_]:=h;rfl;let#[a,g,b,z,rfl,n,pr,j,r,G,q]:=h;refine#[_,(ak<|aN<|ao dG (av v k aP<|aa (pv 0) ah)<|bH<|aa (av y k aP<|aa (pv 0) ah) ah),?_];try dsimp only[cN]
 ext;refine#[a,g,b,z,rfl,n,pr,j,r,(),λt l d c N x m M=>?_];ext;refine#[a,g,b,z,rfl,LT.same n c,pr.same c,j,r,(),λI F _=>?_];ext;refine#[zbL (aq<|show 1<=1000 by decide),λp B=>?_];let e:af d<|upd d p<|.lst [.int<|gv b]:=af.upd B;let u:upd d p (.lst [.int<|gv b]) p=some (.lst<|[gv b].f):=ae;generalize upd d p (.lst [.int<|gv b])=O at e u ⊢;refine#[t,p,_,_,rfl,rfl,e _ _ x,u,?_,λC i=>?_];rw[zaa,zaa,m.len];exact zbL (aq<|by simp;lia);refine q C l _ ((c.trans e).trans<|af.upd i) (c.free<|e.free i) ?_ m F;rw[ae,zat]
theorem sT:aM ["top", "bottom", "divisor"] ["top", "bottom"]<|aB yJ:=by walk_at "n"
theorem Kg(D:Def K mg "ratio" yJ ["top", "bottom"])(T:Txt K mg Z)(n:W! "common_divisor" 1 ["one", "other"] Dy):W! "ratio" 2 ["top", "bottom"] sJ:=by
 exists D.cE sT,r,l;let#[a,b,rfl,_]:=h;rfl;let#[a,b,rfl,c,j,q]:=h;refine#[_,(ai (bY (aO eP (pv 1) aj<|aS _) (ak iR) bh)<|ai (aC (i:=2) sT.nd rfl A!<|av n l aP<|aa (pv 0)<|aa (pv 1) ah)<|ai (bY (aO jg (pv 1) aj<|aS _) (ak<|aC (i:=2) sT.nd rfl A!<|je fX<|pv 2) bh)<|ak<|aN<|cR<|aa (ao DX (pv 0)<|pv 2)<|aa (ao DX (pv 1)<|pv 2) ah),?_]
 ext;refine if2 (λe=>absurd e c)<|λ_=>?_;let m:Ms a _:=PL (a:=a) c j;let k:Ms b _:=PL (a:=a) c j;let u:=PK m;let t:=PK k;ext;refine#[a,b,rfl,?_];ext;refine if2 (λg=>?_)<|λg=>?_;ext;ext p d;exact q _ _ p _ (Ky c<|by rw[zam g]) (af.upd d) ae;ext;ext p d;exact q _ _ p _ (Ky c<|by rw[zaj g]) (af.upd d) ae
theorem j7:aM ["corners", "k", "begun"] ["corners"]<|aB lH:=by walk_at "n"
theorem zu(D:Def K mg "goes_left" lH ["corners"])(T:Txt K mg Z)(Rz:W! "turn" 1 ["first", "second", "third"] EZ):W! "goes_left" 2 ["corners"] Fg:=by
 exists D.cE j7,c8,hr;let#[p,d,L,rfl,_]:=h;rfl;let#[p,d,L,rfl,g,w3,ln,qy,qn]:=h;refine#[_,(ai (bY (aO jg (aE aL C! T.len aU<|aa (pv 0) ah) aj<|aS _) (ak<|aN iS) bh)<|ai (bS zaF rfl (bw rfl T.range<|aa (aE aL C! T.len aU<|aa (pv 0) ah) ah) (aD (i:=1) j7.nd rfl A!)<|ai (aC (i:=2) j7.nd rfl A!<|ao dG (bF cp (pv 0) (bZ<|pv 1) b7)<|bF cp (pv 0) b7<|bZ<|pv 1)<|ak<|bY (y6<|lU<|aE (LH rfl) C! T.all R4<|aa (bR (tg:=["other"]) (fr:=[("begun",2)]) D! rfl (bJ<|bF cp (pv 2) (bZ aj) b7) (λ_ _ _ _ _=>(aD (i:=0) (show [("other":Str),("begun":Str)].Nodup by decide +kernel) rfl A!)) (λ_ _ _ _ _=>aY)<|λ_ _ _ _ _=>(hX FT (av Rz hr aP<|aa (aF (dO (K:=K) rfl) (pv 1) aj C?)<|aa (aF (dO (K:=K) rfl) (pv 1) aj C?)<|aa (pv 0) ah) aj<|aS _)) ah) (ak<|aN iS) bh)<|ak<|aN iS),?_]
 try dsimp only[cN]
 let F:=g.len;ext;refine#[_,_,rfl,.inl #[_,aI.of g.top,rfl],?_];rw[zaa,F];ext;refine if2 (λh=>?_)<|λh3=>?_;ext;exact qn (λz=>by let:=z.1;lia) H<|af.refl _;ext;refine cP ?_;refine aJ<|jD<|aJ<|eS rfl<|aW #[_,_,rfl,.inl #[_,aI.of g.top,rfl],?_];rw[zaa,F];refine aW #[(L.c:Int),rfl,(),(),?_];rw[zaB];refine cM (λk σ I=>∃v1 v2,σ=[p.i,v1,v2]/\af H I/\∀B,B<k->ve L B) #[none,none,rfl,af.refl _,λB h=>()] ?_ ?_;ext k σ I O ⟨v1,v2,rfl,G,lf⟩;simp only[zbB];let Y:=g.same G;ext;refine Dt.MU (K:=K) (a:=p) (i:=0) (k:=1) (n:=k) (xs:=d.h) rfl rfl (aI.of Y.top) (by rw[zaa];lia) λp2 AE=>?_;generalize r:upd I p2 _=H2;let#[e2,X]:=qLy AE r;refine yW (a:=p) (i:=0) (k:=1) (n:=k) rfl rfl (aI.of<|e2 _ _ Y.top) (by rw[zaa];lia) λp3 KY=>?_;generalize r:upd H2 p3 _=H3;let#[e3,ac]:=qLy KY r;refine#[p2,p3,_,_,rfl,rfl,e3 _ _ X,ac,by rw[zbz,zaL,zaa,zak];lia,λbg ad=>?_];rw[Dt.Nv];generalize r:upd H3 bg _=H4;let#[e4,h4]:=qLy ad r;let AJ:=e2.trans<|e3.trans e4;let bl:(d.drop k++d.take k).c=L.c:=by rw[zav,zbz,zaL];lia
 let t:∀i,i<L.c->∃b,(d.drop k++d.take k)[i]?=some b/\H4 b=some (.lst<|(l3<|t3<|L.getD ((k+i)%L.c) []).f)/\S3 3000 (t3<|L.getD ((k+i)%L.c) []):=λi hi=>by
  let W:(k+i)%L.c<L.c:=zaI _ ();let#[b,l,hb,hl,bL]:=(Y.same AJ).at W;let e9:L.getD ((k+i)%L.c) []=l:=by rw[zah,hl];rfl
  let#[Nz,M]:=w3 l<|zag hl;refine#[b,?_,?_,?_];rw[<-hb,zfe,zbz];ext(c:k+i<L.c);rw[zam (),zdG,zaz c];rw[zaj (),getElem?_take_of_lt (),zcV (),zaz ()];congr 1;lia;rw[e9]
  match l,Nz with
  | [x,y,z],_=>exact bL
  rw[e9]
  match l,Nz,M with
  | [x,y,z],_,M=>exact#[M x A?,M y A?,M z A?]
 ext;refine bC<|dw ?_;refine fL<|eS rfl ?_;refine#[2,rfl,bg,_,rfl,aI.of h4,λp5 Xg=>?_];rw[show(2:Int)=((2:Nat):Int)from rfl,iF<|by rw[zaa];lia];generalize r:upd H4 p5 _=H5;let#[e5,h5]:=qLy Xg r;let#[b0,x0,r0,s0]:=t 0 ();let#[b1,x1,r1,s1]:=t 1 ();rw[zbu,zaz O]at r0 s0;refine#[p5,rfl,#[_,aI.of h5],λC aX=>?_];let ll:(((d.drop k++d.take k).h).drop 2).c=L.c-2:=by rw[zbz,zaa,bl]
 refine bD (K:=K) (a:=p5) (xs:=((d.drop k++d.take k).h).drop 2) (λm q ys u=>∃(v:Option V),q=[v,bg.i]/\ys=((List.range m).map λi=>decide<|0<tn (t3<|L.getD k []) (t3<|L.getD ((k+1)%L.c) []) (t3<|L.getD ((k+(i+2))%L.c) [])).map V.bl/\af H5 u/\u C=some (.lst ys))
  #[none,rfl,rfl,af.upd aX,ae] (by ext m q ys u _ ⟨_,_,_,e,_⟩;exact aI.of<|e _ _ h5) ?_ ?_
 ext m x q ys u hx W ⟨v,rfl,rfl,R,U⟩;rw[ll]at W;let#[b,xb,rb,sb]:=t (m+2) ();let ex:x=V.ref b:=by rw[zdG,zao,show 2+m=m+2 by lia,xb]at hx;exact(zas hx).symm
 subst ex;let N:=e5.trans R;ext;refine aT (aI.of<|N _ _ h4) (bV (j:=0)<|by rw[zao,x0];rfl) ?_;ext;refine aT (aI.of<|N _ _ h4) (bV (j:=1)<|by rw[zao,x1];rfl) ?_;ext;refine#[b0,b1,b,_,_,_,rfl,N _ _ r0,N _ _ r1,N _ _ rb,s0,s1,sb,?_];ext;refine#[U,zaa>>zaa>>zby>>aq (),nNN _ _ _ #[_,rfl,by rw[zcn,zat,zat];rfl,af.fresh R aX,ae]];ext q ys u ⟨v,rfl,rfl,R,U⟩;rw[ll]at U;ext;refine#[C,_,rfl,aI.of U,?_];let VX:=AJ.trans<|e5.trans R;ext(S:ve L k);let al:(((List.range<|L.c-2).map λi=>decide<|0<tn (t3<|L.getD k []) (t3<|L.getD ((k+1)%L.c) []) (t3<|L.getD ((k+(i+2))%L.c) [])).all id)=true:=by rw[all_eq_true];ext b hb;let#[i,hi,rfl]:=zaq.mp hb;exact zbc<|S (i+2) () (by let:=zaD.mp hi;lia)
 rw[al];ext;refine#[_,_,rfl,G.trans VX,λB NN=>?_];ext(c:B=k);rw[c];exact S;exact lf B ();let al:(((List.range<|L.c-2).map λi=>decide<|0<tn (t3<|L.getD k []) (t3<|L.getD ((k+1)%L.c) []) (t3<|L.getD ((k+(i+2))%L.c) [])).all id)=false:=by rw[Bool.eq_false_iff];ext z;refine S λi h1 X=>?_;let:=List.all_eq_true.mp z _<|zaq.mpr #[i-2,zaD.mpr (),rfl];let:=zcK this;rwa [show i-2+2=i by lia]at this
 rw[al];ext;exact qn (λz=>S<|z.2 k O) u<|G.trans VX;ext σ I ⟨v1,v2,rfl,G,lf⟩;ext;exact qy #[(),λk O i h1 X=>lf k O i h1 X] I G
theorem xj:aM ["orders", "one", "other", "order"] ["orders", "one", "other"]<|aB sY:=by walk_at "n"
theorem Hj(D:Def K mg "onward" sY ["orders", "one", "other"])(T:Txt K mg Z):W! "onward" 1 ["orders", "one", "other"] wX:=by
 exists D.cE xj,v,x;let#[p,k,L,d,rfl,_]:=h;rfl;let#[p,k,L,d,rfl,g,m,t,q]:=h;let#[n,b1,b2,e]:=t.back m;let#[b,l,r,c,a]:=g.at (i:=d.2.toNat) ();let u:l=ez L d.2:=by rw[aK n b1]at c;exact(zas c).symm
 subst u;let j:d.2=((d.2.toNat:Nat):Int):=();refine#[_,(ai (aC (i:=3) xj.nd rfl A!<|aF aw (pv 0) (pv 2) C?)<|ak<|aN<|aF aw (pv 3) (ao cW (fS zaN PySem.F.slot_list_index PySem.F.type_list_index BS (pv 3)<|aa (pv 1) ah) aj) C?),?_]
 dsimp only[cN];ext;refine aT (aI.of g.top) (j>>g.ix r) ?_;ext;refine#[.inl #[rfl,_,aI.of a],?_];ext;refine#[b,_,d.1,rfl,rfl,a,e,?_];ext;exact aT (aI.of a) (Oh e) q
theorem dW:aM ["orders", "one", "other", "ring", "here", "there", "beyond"] ["orders", "one", "other"]<|aB lG:=by walk_at "n"
theorem zt(D:Def K mg "ring_from" lG ["orders", "one", "other"])(T:Txt K mg Z)(O:W! "onward" 1 ["orders", "one", "other"] wX):W! "ring_from" 2 ["orders", "one", "other"] Fc:=by
 exists D.cE dW,c8,x;let#[p,G,L,d,rfl,_]:=h;rfl;let#[p,G,L,d,rfl,g,t,I,hn,q]:=h;refine#[_,(ai (aC (i:=3) dW.nd rfl A!<|bH<|aa (pv 1) ah)<|ai (aC (i:=4) dW.nd rfl A!<|pv 2)<|ai (aC (i:=5) dW.nd rfl A!<|av O x aP<|aa (pv 0)<|aa (pv 1)<|aa (pv 2) ah)<|ai (lV zaF (aO (QL<|II x) (cR<|aa (pv 4)<|aa (pv 5) ah) (cR<|aa (pv 1)<|aa (pv 2) ah)<|aS _)<|ai (cK<|fS zaN zbj zbk cL (pv 3)<|aa (pv 4) ah)<|ai (aC (i:=6) dW.nd rfl A!<|av O x aP<|aa (pv 0)<|aa (pv 4)<|aa (pv 5) ah)<|ai (aC (i:=4) dW.nd rfl A!<|pv 5)<|ak<|aC (i:=5) dW.nd rfl A!<|pv 6)<|ak<|aN<|pv 3),?_]
 dsimp only[cN];ext;refine#[by rw[zak];simp,λr u=>?_];generalize B:upd H r _=H0;let#[Y,r0]:=qLy u B;ext;refine#[p,G,L,d,rfl,g.same Y,t,I,?_];ext;refine nW (λR e=>∃(j:Nat) (v:Option V),R=[p.i,some<|.int d.1,some<|.int d.2,r.i,some<|.int (it L d<|j+1).1,some<|.int (it L d<|j+1).2,v]/\af H e/\e r=some (.lst<|(bj L d<|j+1).f)/\mD L d (j+1))
  (λ_ e=>match e r with|some (.lst xs)=>(dR L L.c).c-xs.c|_=>0) #[0,none,rfl,Y,r0,λi N h2=>()] ?_
 ext R e ⟨j,v,rfl,M,C,U⟩;ext;ext t1 Y9;ext;ext t2 X;refine T9 (a:=(it L d<|j+1).1) (b:=(it L d<|j+1).2) (c:=d.1) (d:=d.2) (SqT.of<|by erw[aG<|bu ae X,ae]) (SqT.of ae) ?_;let l:af e<|upd (upd e t1<|.tup [.int (it L d<|j+1).1,.int (it L d<|j+1).2]) t2<|.tup [.int d.1,.int d.2]:=(af.upd Y9).trans<|af.upd X;generalize upd (upd e t1<|.tup [.int (it L d<|j+1).1,.int (it L d<|j+1).2]) t2 (.tup [.int d.1,.int d.2])=H2 at l ⊢;ext;refine nQ (λzK=>?_)<|λk=>?_;refine w_turn ?_;rw[C];dsimp only;let S:=l _ _ C;let m:mD L d<|j+1+1:=λi N h2=>by ext(z:i=j+1);rw[z];exact λy=>zK #[zaC Prod.fst y,zaC Prod.snd y];exact U i N ()
 let bd:=ud t I m;let W:((bj L d<|j+1).f).c=j+1:=by unfold bj;simp
 let er:(bj L d<|j+1).f++[V.int (it L d<|j+1).1]=(bj L d<|j+1+1).f:=by unfold bj;rw[zcn (n:=j+1),zat,zat];rfl
 ext;refine#[.inl #[rfl,_,aI.of S],?_];ext;refine cV S (W>>aq ()) ?_;rw[er];generalize B:upd H2 r _=H3;let#[e3,r3]:=qFy (M.trans l) u B;ext;refine#[p,G,L,it L d<|j+1,rfl,g.same e3,t,uF t I _,?_];ext;refine#[#[j+1,_,rfl,e3,r3,m],?_];rw[r3];dsimp only;let F:((bj L d<|j+1+1).f).c=j+1+1:=by unfold bj;simp
 rw[W,F];lia;ext;exact q r (j+1) H2 (M.trans l) u (l _ _ C) () (zbP k.1 k.2) U
theorem lE:aM ["ring", "least"] ["ring"]<|aB jx:=by walk_at "n"
theorem tW(D:Def K mg "least_begun" jx ["ring"])(T:Txt K mg Z):W! "least_begun" 1 ["ring"] Bi:=by
 exists D.cE lE,c8,hr;let#[a,r,rfl,_]:=h;rfl;let#[a,r,rfl,M,U,h1,q]:=h;refine#[_,(ai (aC (i:=1) lE.nd rfl A!<|aE (qu rfl) C! T.min qw<|aa (pv 0) ah)<|ak<|aN<|aE (Ia rfl hr.units) C! T.min qw<|aa (bR (tg:=["k"]) (fr:=[("ring",0),("least",1)]) D! rfl (bw rfl T.range<|aa (aE aL C! T.len aU<|aa (pv 0) ah) ah) (λ_ _ _ _ _=>(aD (i:=0) (show [("k":Str),("ring":Str),("least":Str)].Nodup by decide +kernel) rfl A!)) (λ_ _ _ _ _=>(gU<|aO eP (aF (dO rfl) (pv 1) (pv 0) C?) (pv 2)<|aS _))<|λ_ _ _ _ _=>(ao dG (bF (Bq rfl) (pv 1) (bZ<|pv 0) b7)<|bF (Bq rfl) (pv 1) b7<|bZ<|pv 0)) ah),?_]
 dsimp only[cN];ext;refine#[a,r,rfl,aI.of M,(λz=>by rw[z]at U;simp at U),λm hm ac=>?_];ext;refine bC ?_;refine#[_,rfl,_,_,rfl,.inl #[_,aI.of M,rfl],(r.c:Int),by rw[zaa],(),(),?_];rw[zaB];ext g aX;refine cX (λi y ys p=>∃(e:cx) (cs:List Nat) (v:Option V),y=[v,a.i,m.j]/\ys=e.h/\af H p/\aQ p g e (cs.map<|du r)/\g∉e/\(∀b∈e,H b=none)/\(∀c∈cs,c<i/\cy r c=m)/\e.c<=i/\∀j,j<i->cy r j=m->j∈cs)
  #[[],[],none,rfl,rfl,af.upd aX,#[ae,rfl,λi b l z=>by simp at z],by simp,by simp,by simp,zaf _,λj z=>()] ?_ ?_
 ext i y ys p hi ⟨e,cs,v,rfl,rfl,t,d,O,fr,F,hz,C⟩;simp only[zbB];ext;refine aT (aI.of<|t _ _ M) (hJ () ()<|.inl rfl) ?_;ext;refine if2 (λhe=>?_)<|λhe=>?_;ext;refine G9 (i:=1) (k:=0) (n:=i) (r:=r) rfl rfl (aI.of<|t _ _ M) () λI AF=>?_;let e2:af p<|upd p I<|.lst<|(r.drop i).f:=af.upd AF;refine MV (a:=a) (i:=1) (k:=0) (n:=i) (r:=r) rfl rfl (aI.of<|e2 _ _<|t _ _ M) () λY AE=>?_;let G:=e2.trans<|af.upd (o:=.lst<|(r.take i).f) AE;let u:upd (upd p I<|.lst<|(r.drop i).f) Y (.lst<|(r.take i).f) I=some (.lst<|(r.drop i).f):=by erw[aG<|bu ae AE,ae]
 refine#[I,Y,_,_,rfl,rfl,u,ae,by rw[zaa,zaa,zbz,zaL,zak];lia,λb B=>?_];generalize upd (upd p I<|.lst<|(r.drop i).f) Y (.lst<|(r.take i).f)=H3 at G u B ⊢;let R:=G.trans<|af.upd (o:=.lst<|(r.drop i).f++(r.take i).f) B;let er:(r.drop i).f++(r.take i).f=(du r i).f:=by unfold du;rw[zat]
 rw[er]at R ⊢;let g4:=d.same R;let b4:upd H3 b (.lst<|(du r i).f) b=some (.lst<|(du r i).f):=ae;let nb:b≠g:=λz=>by rw[z]at B;exact absurd (G _ _ d.top) (by rw[B];simp)
 let Mc:b∉e:=λz=>by
  let#[k,L,X]:=zaH.mp z;let kl:k<(cs.map<|du r).c:=by erw[<-d.len,L]
  let:=G _ _<|d.row k b _ (by rw[zac L,X])<|zac kl;rw[B]at this;cases this
 generalize upd H3 b (.lst<|(du r i).f)=H4 at R g4 b4 ⊢;refine#[g4.top,zaa>>aq (),nNN _ _ _ #[e++[b],cs++[i],_,rfl,by simp,af.fresh (t.trans R) aX,?_,?_,?_,?_,?_,?_]];rw[zat];exact g4.snoc O nb b4;ext z;ext(z|z:zal.mp z);exact O z;exact nb (zai.mp z).symm;ext c S;ext(z|z:zal.mp S);exact fr c z;rw[zai.mp z];exact (t.trans G).free B;ext c S;ext(z|z:zal.mp S);let:=F c z;exact#[(),this.2];rw[zai.mp z];exact#[(),he];rw[zav,zbd];lia;ext j ad N;ext(z:j=i);rw[z];simp;exact zaT _<|C j () N;refine nNN _ _ _ #[e,cs,_,rfl,rfl,t,d,O,fr,λc z=>?_,(),λj ad N=>?_];let:=F c z;exact#[(),this.2];ext(z:j=i);rw[z]at N;exact absurd N he;exact C j () N;ext y ys p ⟨e,cs,v,rfl,rfl,t,d,O,fr,F,hz,C⟩;ext;let#[k,L,X]:=zaH.mp hm;let W:=C k L (fB L>>X);let c0:=zcJ W;let zl:=d.len;rw[zaa]at zl;refine#[g,e,cs.map<|du r,rfl,aI.of d.top,d.len,λi b l u x=>aI.of<|d.row i b l u x,(),λi b l u x hl=>?_];rw[zao]at x;cases ec:cs[i]? with
 | none=>rw[ec]at x;cases x
 | some c=>
  rw[ec]at x;let:=zas x;subst this;refine q b c p t (fr b<|zag u) (d.row i b _ u<|by rw[zao,ec];rfl) (F c<|zag ec).1 λj Zr=>?_;ext(z:cy r j=m);exact hl _<|zaq.mpr #[j,C j Zr z,rfl];let kk:=F k W;refine Le.trans (hl _<|zaq.mpr #[k,W,rfl])<|Le.of_lt<|Qp kk.1 Zr ?_;let:=ac (cy r j)<|fE U;rw[kk.2];lia
theorem Jj:aM ["ring"] ["ring"]<|aB yH:=by walk_at "n"
theorem Ke(D:Def K mg "steps" yH ["ring"])(T:Txt K mg Z):W! "steps" 1 ["ring"] A6:=by
 exists D.cE Jj,c8,hr;let#[a,r,rfl,_]:=h;rfl;let#[a,r,rfl,g,r0,rn,q]:=h;refine#[_,(ak<|aN<|tP rfl T.zip T.list<|aa (pv 0)<|aa (ao dG (bF cp (pv 0) (bZ aj) b7)<|bF cp (pv 0) b7<|bZ aj) ah),?_];dsimp only[cN];ext;refine G8 ?_;ext;refine DT (n:=1) (r:=r) rfl (aI.of g) () λc W=>?_;let F:af H<|upd H c<|.lst<|(r.drop 1).f:=af.upd W;refine JI (i:=0) (n:=1) (r:=r) rfl (aI.of<|F _ _ g) () λk y=>?_;let z:=F.trans<|af.upd (o:=.lst<|(r.take 1).f) y;let t:upd (upd H c<|.lst<|(r.drop 1).f) k (.lst<|(r.take 1).f) c=some (.lst<|(r.drop 1).f):=by erw[aG<|bu ae y,ae]
 refine#[c,k,_,_,rfl,rfl,t,ae,by rw[zaa,zaa,zbz,zaL,zak];lia,λb C=>?_];generalize upd (upd H c<|.lst<|(r.drop 1).f) k (.lst<|(r.take 1).f)=H3 at z t C ⊢;let Y:(r.drop 1).f++(r.take 1).f=(du r 1).f:=by unfold du;rw[zat]
 rw[Y];let m:=z.trans<|af.upd (o:=.lst<|(du r 1).f) C;ext;refine#[a,b,r.f,(du r 1).f,rfl,aI.of<|m _ _ g,aI.of ae,by rw[zaa,zaa,cZ ()],λl S N O M R G U=>?_];rw[zaa]at G;ext;refine q l S N (m.trans O) (m.free M) R<|PR.mk (dE>>G) λj x d I L=>?_;let#[_,_,u,v,B,p,X]:=U j x I;let e:j<r.c:=by let:=(zab.mp I).1;lia
 rw[zao,Wl e]at B;rw[zao,MP e]at p;cases B;cases p;rw[xg e]at L;cases L;exact X
theorem gT:aM ["orders", "gone", "rings", "one", "order", "other", "ring", "step"] ["orders"]<|aB yL:=by walk_at "n"
theorem Ki(D:Def K mg "lands" yL ["orders"])(T:Txt K mg Z)(Cr:W! "ring_from" 2 ["orders", "one", "other"] Fc)(vY:W! "least_begun" 1 ["ring"] Bi)(NU:W! "steps" 1 ["ring"] A6):W! "lands" 3 ["orders"] jR:=by
 exists D.cE gT,c8,hr;let#[p,as,L,rfl,_]:=h;rfl;let#[p,as,L,rfl,g,im,hn,hd,q]:=h;refine#[_,(ai (aC (i:=1) gT.nd rfl A! BJ)<|ai (aC (i:=2) gT.nd rfl A!<|bH ah)<|ai (bS zaF rfl (mN T.enumerate<|aa (pv 0) ah) (jF (n:=2) rfl<|bo (aD (i:=3) gT.nd rfl A!)<|bo (aD (i:=4) gT.nd rfl A!) dY)<|ak<|bS zaF rfl (bJ<|pv 4) (aD (i:=5) gT.nd rfl A!)<|ak<|bY (pL<|pP (kW hr) (cR<|aa (pv 3)<|aa (pv 5) ah)<|pv 1) (ai (aC (i:=6) gT.nd rfl A!<|av Cr hr aP<|aa (pv 0)<|aa (pv 3)<|aa (pv 5) ah)<|ai (cK<|fS zaN zbj zbk cL (pv 2)<|aa (av vY hr aP<|aa (pv 6) ah) ah)<|ak<|bS zaF rfl (bJ<|av NU hr aP<|aa (pv 6) ah) (aD (i:=7) gT.nd rfl A!)<|ak<|rO (kW hr) (pv 1) (pv 7) iS rfl) bh)<|ak<|aN<|aE (Ah hr.units) C! T.sorted xY<|aa (pv 2) ah),?_]
 dsimp only[cN];ext;ext C K1;ext;refine#[zaR _,λt ht=>?_];let tH:H t=none:=(af.upd K1).free ht;let e0:af H<|upd (upd H C<|.dT []) t<|.lst []:=(af.upd K1).trans<|af.upd ht;let g0:upd (upd H C<|.dT []) t (.lst []) C=some (.dT<|kD []):=by erw[aG<|bu ae ht,ae]
 let t0:aQ (upd (upd H C<|.dT []) t<|.lst []) t [] []:=#[ae,rfl,λi a l z=>by simp at z];generalize upd (upd H C<|.dT []) t (.lst [])=H0 at e0 g0 t0 ⊢;ext;refine cP ?_;refine#[_,rfl,p,rfl,#[_,aI.of<|e0 _ _ g.top],mq (K:=K) (a:=p) (xs:=as.h) (λi B S=>∃(v:List aA) (m:cx) (R:dy) (v3 v4 W U I:Option V),B=[p.i,C.i,t.i,v3,v4,W,U,I]/\af H S/\S C=some (.dT<|kD v)/\aQ S t m R/\(t::m).Nodup/\(∀b∈t::m,H b=none)/\Lp L R v/\∀d,Dt L d->d.1<i->d∈v)
  #[[],[],[],none,none,none,none,none,rfl,e0,g0,t0,by simp,~~~tH,Lp.start,λd G u=>by let:=G.lo;lia] (λi B S _ ⟨_,_,_,_,_,_,_,_,_,Y,_⟩=>aI.of<|Y _ _ g.top) ?_ ?_]
 ext i x pr B S F ⟨v,m,R,v3,v4,W,U,I,rfl,Y,g1,O,Dd,Mj,Sx,V9⟩ Cj;let hi:i<L.c:=by let:=(zab.mp F).1;rw[zaa,g.len]at this;exact this
 let#[b,l,ha,hl,bL]:=g.at hi;obtain rfl:x=V.ref b:=by rw[zao,ha]at F;exact(zas F).symm
 let el:ez L (i:Int)=l:=by let:=aK (L:=L) (a:=(i:Int)) () ();rw[zaB,hl]at this;exact(zas this).symm
 let e2:af S<|upd S pr<|.tup [.int i,.ref b]:=af.upd Cj;let g2:=e2 _ _ g1;let t2:=O.same e2;let jX:=Y.trans e2;refine inF λ_ _=>?_;refine fD (SqT.of ae) rfl ?_;generalize upd S pr (.tup [.int i,.ref b])=H2 at e2 g2 t2 jX ⊢;ext;refine cP ?_;refine#[_,rfl,b,rfl,#[_,aI.of<|jX _ _ bL],fJ (K:=K) (a:=b) (xs:=l.f) (λk B H3=>∃(v:List aA) (m:cx) (R:dy) (W U I:Option V),B=[p.i,C.i,t.i,i.l,b.i,W,U,I]/\af H H3/\H3 C=some (.dT<|kD v)/\aQ H3 t m R/\(t::m).Nodup/\(∀b∈t::m,H b=none)/\Lp L R v/\∀d,Dt L d->d.1<i\/d.1=i/\d.2∈l.take k->d∈v)
  #[v,m,R,W,U,I,rfl,jX,g2,t2,Dd,Mj,Sx,λd G u=>V9 d G<|u.elim id λz=>by simp at z] (λk B H3 _ ⟨_,_,_,_,_,_,_,e,_⟩=>aI.of<|e _ _ bL) ?_ ?_]
 clear v m R v3 v4 W U I Y g1 O Dd Mj Sx V9 e2 g2 t2 jX Cj F;ext k x B H3 F ⟨v,m,R,W,U,I,rfl,e3,g3,t3,O8,Iz,UB,SV⟩;obtain⟨y,hy,rfl⟩:∃y,l[k]?=some y/\x=V.int y:=by
  rw[zao]at F;cases e:l[k]? with
  | none=>rw[e]at F;cases F
  | some z=>rw[e]at F;exact#[z,rfl,(zas F).symm]
 let dt:Dt L ((i:Int),y):=#[by simp,~~~hi,el>>zag hy];ext;ext q1 Pj;generalize qq:upd H3 q1 _=H4;let#[N,k4]:=qLy Pj qq;refine#[_,rfl,C,_,rfl,jL.t (k:=jH ((i:Int),y)) (N _ _ g3) k4,?_];rw[pf];ext;refine nQ (λXi=>?_)<|λY2=>?_;ext;refine#[p,as,L,((i:Int),y),rfl,g.same<|e3.trans N,im,dt,hd,λr n H5 e5 r0 r5 n0 ek nr=>?_];let Jr:(bj L ((i:Int),y) n).c=n:=by unfold bj;simp
 let au:=ud im dt nr;let t5:=(t3.same N).same e5;let Xx:=(e3.trans N).trans e5;ext;refine#[.inl #[rfl,_,aI.of t5.top],?_];ext;refine#[r,_,rfl,r5,(),(),λc cc H6 e6 c0 c6 HE SK=>?_];rw[Jr]at HE SK;let t6:=t5.same e6;let nc:=t5.gu c0;let g6:=e6 _ _<|e5 _ _<|N _ _ g3;let rH:H r=none:=(e3.trans N).free r0;let ap:r≠t:=λz=>by rw[z]at r0;exact absurd (t3.same N).top (by rw[r0];simp)
 let YN:=UB.add im dt n0 ek nr Xi HE SK;let lb:=YN.len;let l2:=YN.two;rw[zav,dE,Jr]at lb;let zR:=t6.len;let l3:=UB.two;ext;refine cV t6.top (zaa>>aq ()) ?_;let am:c≠t:=λz=>nc<|z▸zan;let t7:=t6.snoc (zau.mp O8).1 am c6;let e7:af H<|upd H6 t<|.lst<|m.h++[.ref c]:=af.fresh (Xx.trans e6) tH;let g7:upd H6 t (.lst<|m.h++[.ref c]) C=some (.dT<|kD v):=aG (λz=>by let:=t6.top;rw[<-z,g6]at this;cases this)>>g6
 let r7:upd H6 t (.lst<|m.h++[.ref c]) r=some (.lst<|(bj L ((i:Int),y) n).f):=aG ap>>e6 _ _ r5
 generalize upd H6 t (.lst<|m.h++[.ref c])=H7 at t7 e7 g7 r7 ⊢;let YK:(t::(m++[c])).Nodup:=by let#[n1,n2]:=zau.mp O8;refine zau.mpr #[λz=>?_,iH.mpr #[λz=>nc<|zae _ z,n2]];ext(z|z:zal.mp z);exact n1 z;exact am (zai.mp z).symm
 let Xu:∀b∈t::(m++[c]),H b=none:=λb hb=>by ext(z|z:zaw.mp hb);rw[z];exact tH;ext(z|z:zal.mp z);exact Iz b<|zae _ z;erw[zai.mp z,Xx.free c0]
 ext;refine cP ?_;refine#[_,rfl,r,_,rfl,r7,(),(),λsl ps Hs es ar ac an=>?_];let ad:=YN.perm<|(perm_append_left_iff v).mpr (gL (bj L ((i:Int),y) n)<|n-1).symm;refine#[sl,rfl,#[_,aI.of ac],fJ (K:=K) (a:=sl) (xs:=ps.h) (λj B X=>∃I:Option V,B=[p.i,C.i,t.i,i.l,b.i,y.j,r.i,I]/\af H X/\X C=some (.dT<|kD<|v++(sh 0<|bj L ((i:Int),y) n).take j)/\aQ X t (m++[c]) (R++[du (bj L ((i:Int),y) n) cc])/\X sl=some (.lst ps.h)/\PR X ps (sh 0<|bj L ((i:Int),y) n))
  #[_,rfl,e7.trans es,take_zero>>zdd>>es _ _ g7,t7.same es,ac,an] (λj B X _ ⟨_,_,_,_,_,e,_⟩=>aI.of e) ?_ ?_]
 ext j x B X F ⟨w7,rfl,e8,g8,t8,s8,LZ⟩;let al:j<ps.c:=by let:=(zab.mp F).1;rw[zaa]at this;exact this
 let Zr:j<(bj L ((i:Int),y) n).c:=by let:=LZ.len;rw[dE]at this;lia
 let#[d8,ag,k8]:=LZ.at (i:=j) (a:=ps[j]) (by simp[al]);obtain rfl:x=V.ref ps[j]:=by rw[zao,zac al]at F;exact(zas F).symm
 ext;refine#[C,_,rfl,vm.t (k:=jH d8) g8 k8 ?_,?_];rw[Q5,zav,zaL];exact aq ();rw[JN<|kF ad.nd ag,zcu,<-take_snoc ag];refine nNy (by assumption) ?_;refine#[_,rfl,af.fresh e8 K1,ae,t8.other g8,?_,Paired.BY LZ λa z h=>?_];rw[aG<|λz=>by rw[z,g8]at s8;cases s8];exact s8;rw[aG<|λw=>by rw[w,g8]at h;cases h];exact h;ext B X ⟨w7,rfl,e8,g8,t8,s8,LZ⟩;rw[zaa,LZ.len,zbg]at g8;refine nNy (by assumption) ?_;refine#[_,_,_,_,_,_,rfl,e8,g8,t8,YK,Xu,ad,λd G u=>?_];rw[take_snoc hy]at u;ext(z:d=((i:Int),y));rw[z];refine zaP _<|(bN ()).mpr #[0,?_];rw[kQ n0 ek];rfl;refine zaT _<|SV d G ?_;ext(u|⟨u,M⟩:u);exact .inl u;ext(M|M:zal.mp M);exact .inr #[u,M];exact absurd (zbP u<|zai.mp M) z;refine nNy (by assumption) ?_;refine#[v,m,R,_,_,_,rfl,e3.trans N,N _ _ g3,t3.same N,O8,Iz,UB,λd G u=>?_];rw[take_snoc hy]at u;ext(u|⟨u,M⟩:u);exact SV d G<|.inl u;ext(M|M:zal.mp M);exact SV d G<|.inr #[u,M];rw[show d=((i:Int),y)from zbP u<|zai.mp M];exact Y2;ext B H3 ⟨v,m,R,W,U,I,rfl,e3,g3,t3,O8,Iz,UB,SV⟩;rw[zaa,zbg]at SV;refine nNy (by assumption) ?_;refine#[v,m,R,_,_,_,_,_,rfl,e3,g3,t3,O8,Iz,UB,λd G u=>SV d G ?_];ext(z:d.1=i);refine .inr #[z,?_];let:=G.mem;rw[z,el]at this;exact this;exact .inl ();ext B S ⟨v,m,R,v3,v4,W,U,I,rfl,Y,g1,O,Dd,Mj,Sx,V9⟩;rw[zaa,g.len]at V9;ext;let zR:=O.len;let lb:=Sx.len;let l2:=Sx.two;refine#[t,m,R,rfl,aI.of O.top,O.len,λi b l G u=>aI.of<|O.row i b l G u,(),λpp qd hp Rg hq=>?_];let pm:=pO (d:=(0:Addr)) (L:=m) (p:=pp) (zR>>hp);refine q qd (pick 0 m pp) (pick [] R pp) _ (Y.trans<|af.upd hq) (O.pick hp hq) ?_ (λb hb=>?_)<|Sx.lands hp Rg λd hd=>V9 d hd hd.hi;refine zau.mpr #[λz=>O.gu hq<|zae _<|pm.mem_iff.mp z,pm.nodup_iff.mpr (zau.mp Dd).2];ext(z|z:zaw.mp hb);rw[z];exact Y.free hq;exact Mj b<|zae _<|pm.mem_iff.mp z
theorem jS:aM ["orders", "land", "spots", "whole", "number", "ring", "corners"] ["orders", "land", "spots"]<|aB yI:=by walk_at "n"
theorem Kf(D:Def K mg "right" yI ["orders", "land", "spots"])(T:Txt K mg Z)(ie:W! "lands" 3 ["orders"] jR)(zM:W! "whole_spot" 4 ["spot"] A4)(Ct:W! "goes_left" 2 ["corners"] Fg):W! "right" 5 ["orders", "land", "spots"] sI:=by
 exists D.cE jS,c8,hr;let#[p,sa,as,O,L,Y,land,rfl,_]:=h;rfl;let#[p,sa,as,O,L,Y,land,rfl,g,im,hn,hd,vA,yl,hY,q]:=h;refine#[_,(ai (aC (i:=3) jS.nd rfl A!<|bR (tg:=["spot"]) (fr:=[]) D! rfl (bJ<|pv 2) (λ_ _ _ _ _=>(aD (i:=0) (show [("spot":Str)].Nodup by decide +kernel) rfl A!)) (λ_ _ _ _ _=>aY)<|λ_ _ _ _ _=>(av zM hr aP<|aa (pv 0) ah))<|ai (bS zaF rfl (mN T.enumerate<|aa (av ie hr aP<|aa (pv 0) ah) ah) (jF (n:=2) rfl<|bo (aD (i:=4) jS.nd rfl A!)<|bo (aD (i:=5) jS.nd rfl A!) dY)<|ai (eO (i:=6) jS.nd rfl A! (tg:=["place"]) (fr:=[("whole",3)]) D! rfl (bJ<|pv 5) (λ_ _ _ _ _=>(aD (i:=0) (show [("place":Str),("whole":Str)].Nodup by decide +kernel) rfl A!)) (λ_ _ _ _ _=>aY)<|λ_ _ _ _ _=>(aF (dO (K:=K) rfl) (pv 1) (pv 0) C?))<|ai (bY (aO eP (pv 4) (pv 1)<|aS _) (ak<|aC (i:=6) jS.nd rfl A!<|QG (K:=K) rfl (pv 6)<|je fX aj) bh)<|ak<|bY (y6<|lU<|av Ct hr aP<|aa (pv 6) ah) (ak<|aN iS) bh)<|ak<|aN iS),?_]
 try dsimp only[cN]
 let sl:=vA.len;ext;refine bC<|dw<|eS rfl #[sa,rfl,#[_,aI.of vA.top],λu aX=>?_];refine bD (K:=K) (a:=sa) (xs:=O.h) (λm d ys H1=>∃(v:Option V) (cs:cx),d=[v]/\ys=cs.h/\af H H1/\aQ H1 u cs ((Y.take m).map wr)/\u∉cs)
  #[none,[],rfl,rfl,af.upd aX,#[ae,rfl,λi b l z=>by simp at z],by simp] (by ext m d ys H1 _ ⟨_,_,_,_,e,_⟩;exact aI.of<|e _ _ vA.top) ?_ ?_
 ext m x d ys H1 k U ⟨v,cs,rfl,rfl,e1,I,na⟩;rw[zaa]at U;let NK:m<Y.c:=();let hb:O[m]?=some O[m]:=zac U;let ex:x=V.ref O[m]:=by rw[zao,hb]at k;exact(zas k).symm
 subst ex;let#[ps,AF,AE]:=(vA.same e1).row m _ _ hb<|zac NK;let py:=hY Y[m]<|zbo NK;let pl:=py.len;let gl:=I.len;rw[zaa,zaL]at gl;ext;refine#[O[m],ps,Y[m],600,rfl,.inr AF,AE,py.fq,by decide,(),λt l H2 e2 ft W wh bd=>?_];rw[Tq py wh bd]at W;ext;let N:=I.same e2;let nt:t≠u:=λz=>by rw[z,I.top]at ft;cases ft
 refine#[N.top,zaa>>aq (),nNN _ _ _ #[_,cs++[t],rfl,by rw[zat];rfl,af.fresh (e1.trans e2) aX,?_,?_]];rw[take_add_one,zac NK,zat];exact N.snoc na nt W;ext z;ext(z|z:zal.mp z);exact na z;exact nt (zai.mp z).symm;ext d ys H1 ⟨v,cs,rfl,rfl,e1,I,na⟩;rw[zaa,sl,zbg]at I;let cl:=I.len;rw[zaa]at cl;ext;refine cP ?_;refine aJ<|jE<|aJ<|eS rfl<|aW ?_;refine#[p,as,L,rfl,g.same e1,im,hn,hd,λt rs R H2 e2 N uf xK la=>?_];let#[qy,qn]:=q R la;let vo:=e1.trans e2;let rl:=N.len;refine aW #[t,rfl,#[_,aI.of N.top],mq (K:=K) (a:=t) (xs:=rs.h) (λi σ S=>∃v4 v5 v6:Option V,σ=[p.i,land.j,sa.i,u.i,v4,v5,v6]/\af H2 S/\∀(M:Nat) (r:dm),M<i->R[M]?=some r->GP (rowsOf Y land M r))
  #[none,none,none,rfl,af.refl _,λM r h=>()] (λi σ S _ ⟨_,_,_,_,e3,_⟩=>aI.of<|e3 _ _ N.top) ?_ ?_]
 ext i x pr σ S k ⟨v4,v5,v6,rfl,e3,G⟩ Cj;let hi:i<R.c:=by let:=(zab.mp k).1;rw[zaa,rl]at this;exact this
 let#[b,r,ha,xF,bL]:=N.at hi;obtain rfl:x=V.ref b:=by rw[zao,ha]at k;exact(zas k).symm
 let gd:=la.good r<|zag xF;let r2:=gd.two;let Jr:r.c<=128:=by let h1:=la.Lh im<|i+1;rw[Gn xF,zav,dE]at h1;lia
 let rg:∀x∈r,0<=x/\x<L.c:=λx k=>by
  let#[j,hj,rfl]:=getElem_of_mem k;let:=gd.dt j;let e9:(dj r j).1=r[j]:=by unfold dj;exact fB hj
  exact#[e9▸this.lo,e9▸this.hi]
 generalize qq:upd S pr _=H4;let#[e4,h4]:=qLy Cj qq;let SU:=e3.trans e4;let g4:=(I.same e2).same SU;let ad:=SU _ _ bL;ext;refine bC<|dw<|eS rfl #[b,rfl,#[_,aI.of ad],λac SN=>?_];let WL:∀x∈r,∃c,jJ cs.h x=some (V.ref c)/\H4 c=some (.lst<|(wr<|Y.getD x.toNat []).f):=λx k=>by
  let#[x0,X]:=rg x k;let Xb:x.toNat<Y.c:=();let ag:x.toNat<cs.c:=();refine#[cs[x.toNat],?_,?_];let:=bV (xs:=cs.h) (j:=x.toNat) (v:=V.ref cs[x.toNat]) (by rw[zao,zac ag];rfl);rwa [show((x.toNat:Nat):Int)=x by lia]at this;refine g4.row x.toNat _ _ (zac ag) ?_;rw[zao,zah,zac Xb];rfl
 refine bD (K:=K) (a:=b) (xs:=r.f) (λm d ys C=>∃(v:Option V) (B:cx),d=[v,u.i]/\ys=B.h/\af H4 C/\aQ C ac B ((r.take m).map λx=>wr<|Y.getD x.toNat [])/\ac∉B)
  #[none,[],rfl,rfl,af.upd SN,#[ae,rfl,λi b l z=>by simp at z],by simp] (by ext m d ys C _ ⟨_,_,_,_,e,_⟩;exact aI.of<|e _ _ ad) ?_ ?_
 ext m x d ys C k U ⟨v,B,rfl,rfl,e5,F,YL⟩;let#[y,hy,rfl]:=int_at k;rw[zaa]at U;let dl:=F.len;rw[zaa,zaL]at dl;let#[c,c1,c2]:=WL y<|zag hy;ext;refine aT (aI.of<|e5 _ _ g4.top) c1 ?_;let nc:c≠ac:=λz=>by rw[z,SN]at c2;cases c2
 refine#[F.top,zaa>>aq (),nNN _ _ _ #[_,B++[c],rfl,by rw[zat];rfl,af.fresh e5 SN,?_,?_]];rw[take_snoc hy,zat];exact F.snoc YL nc<|e5 _ _ c2;ext z;ext(z|z:zal.mp z);exact YL z;exact nc (zai.mp z).symm;ext d ys C ⟨v,B,rfl,rfl,e5,F,YL⟩;rw[zaa,zbg]at F;refine eB<|nNy (by assumption) ?_;refine pH (λd H6=>∃cr Z8,d=[p.i,land.j,sa.i,u.i,i.l,b.i,cr.i]/\af C H6/\aQ H6 cr Z8 (rowsOf Y land i r)) ?_<|λTn hT=>?_;ext d H6 ⟨cr,Z8,rfl,e6,g6⟩;let VW:=SU.trans<|e5.trans e6;ext;let Yc:∀l∈rowsOf Y land i r,l.c=3/\∀x∈l,Sz 3000 x:=λl hl=>by
  let:l∈r.map λx=>wr<|Y.getD x.toNat []:=by unfold rowsOf at hl;split at hl;exact List.mem_reverse.mp hl;exact hl
  let#[x,k,rfl]:=zaq.mp this;let#[x0,X]:=rg x k;refine Tp<|hY _ ?_;let Xb:x.toNat<Y.c:=();erw[zah,zac Xb,zbo Xb]
 let am:(rowsOf Y land i r).c=r.c:=by unfold rowsOf;split<;>simp
 refine#[cr,Z8,_,rfl,g6,Yc,(),λgl H7 e7=>?_,λal H7 e7=>?_];ext;refine#[_,_,_,rfl,VW.trans e7,λM r' h1 W=>?_];ext(c:M=i);subst c;rw[xF]at W;cases W;exact gl;exact G M r' () W;ext;exact qn (λz=>al<|z i r xF) H7<|vo.trans<|VW.trans e7;ext;refine if2 (λh=>?_)<|λh=>?_;ext;refine#[_,rfl,1,rfl,rfl,ac,_,rfl,aI.of F.top,λp6 Xf=>?_];let e6:af C<|upd C p6<|.lst (B.h).reverse:=af.upd Xf;let h6:upd C p6 (.lst (B.h).reverse) p6=some (.lst B.reverse.h):=by rw[ae,map_reverse]
 generalize upd C p6 (.lst (B.h).reverse)=H6 at e6 h6 ⊢;refine eB<|hT _ _ #[p6,B.reverse,rfl,e6,?_];unfold rowsOf;rw[zam h];let dl:=F.len;refine#[h6,zdQ>>zdQ>>dl,λj a l X x2=>?_];let hj:j<B.c:=by let:=(zab.mp X).1;rw[zdQ]at this;exact this
 rw[getElem?_reverse hj]at X;rw[getElem?_reverse (by erw[<-dl,hj]),<-dl]at x2;exact (F.same e6).row _ a l X x2;ext;refine hT _ _ #[ac,B,rfl,af.refl _,?_];unfold rowsOf;rw[zaj h];exact F;ext σ S ⟨v4,v5,v6,rfl,e3,G⟩;rw[zaa,rl]at G;ext;exact qy (λi r Ru=>G i r (zab.mp Ru).1 Ru) S<|vo.trans e3
theorem Br:aM ["orders", "places", "left"] ["orders", "places"]<|aB yK:=by walk_at "n"
theorem Kh(D:Def K mg "parts" yK ["orders", "places"])(T:Txt K mg Z)(qf:bW P w K mg base (bO P w) "come_to" 1 ["orders", "start", "shut"] yy):bW P w K mg base (bO P w) "parts" 2 ["orders", "places"] Be:=by
 refine D.cE Br (λvs H Q E h=>?_) (λf c8 A o s H vs Q E hr h=>?_)
 ·obtain⟨p,sa,as,L,S,rfl,_⟩:=h;rfl
 ·obtain⟨p,sa,as,L,S,rfl,g,hs,im,hn,q⟩:=h;refine⟨_,(ai (eO (i:=2) Br.nd rfl (by walk_at "L") (tg:=["place"]) (fr:=[("places",1)]) (by walk_at "blk_ok") rfl (bw rfl T.range (aa (aE aL (by rfl) T.len aU (aa (pv 0) ah)) ah)) (λ_ _ _ _ _=>(aD (i:=0) (show [("place":Str),("places":Str)].Nodup by decide +kernel) rfl (by walk_at "L"))) (λ_ _ _ _ _=>(gU (aO (vG rfl) (pv 0) (pv 1) (by with_unfolding_all rfl)))) (λ_ _ _ _ _=>(pv 0)))
   (ak (aN (tQ (hX FT (aE aL (by rfl) T.len aU (aa (pv 2) ah)) aj (aS _)) (zh (hX jg (aE xX (by rfl) T.len aU (aa (av qf hr aP (aa (pv 0) (aa (aF aw (pv 2) aj (λ_ _=>rfl)) (aa (pv 1) ah)))) ah)) (aE aL (by rfl) T.len aU (aa (pv 2) ah)) (aS _))))))),?_⟩
  dsimp only[cN];walk_at "";refine bC ?_;refine⟨_,rfl,_,_,rfl,.inl ⟨_,aI.of g.top,rfl⟩,(L.length:Int),by rw[zaa,g.len],by lia,by lia,?_⟩;rw[zaB];intro acc aX;refine cX (λi σ' ys H1=>∃v:Option V,σ'=[v,some (.ref sa)]/\ys=(left i S).map V.int/\af H H1/\H1 acc=some (.lst ys)) ⟨none,rfl,rfl,af.upd aX,ae⟩ ?_ ?_
  ·rintro i σ' ys H1 hi ⟨v,rfl,rfl,e1,a1⟩;simp only[zbB];have ll:=B8 i S;walk_at "";refine MT (aI.of (e1 _ _ hs)) ?_;rw[zam rfl];walk_at "";refine nQ (λhm=>?_) (λhm=>?_)
   ·walk_at "";refine⟨a1,by rw[zaa];exact aq (by lia),nNN _ _ _ ⟨_,rfl,?_,af.fresh e1 aX,ae⟩⟩;rw[Ny hm,zat]
    rfl
   ·refine nNN _ _ _ ⟨_,rfl,?_,e1,?_⟩
    ·rw[KH hm]
    ·exact a1
  ·rintro σ' ys H1 ⟨v,rfl,rfl,e1,a1⟩;have ll:=B8 L.length S;walk_at "";refine⟨_,_,rfl,.inl ⟨_,aI.of a1,rfl⟩,?_⟩;rw[zaa];walk_at "";cases hl:left L.length S with
   | nil=>
    rw[zaj (by simp)];have:=q _ e1;rw[FF hl]at this;exact this
   | cons s0 r=>
    have rg:=oG (s:=s0) (by rw[hl];exact zan);cases r with
    | nil=>
     rw[zaj (by simp)];have:=q _ e1;rw[M4 hl]at this;exact this
    | cons s1 r=>
     rw[zam (by simp;lia)];rw[hl]at a1;walk_at "";refine aT (aI.of a1) (show jJ ((s0::s1::r).map V.int) ((0:Nat):Int)=some (V.int s0)from bV (by simp)) ?_;walk_at "";refine⟨p,as,L,S,s0,sa,rfl,g.same e1,e1 _ _ hs,hn,im,rg.1,rg.2.1,λt ks H2 e2 _ t2 nd al=>?_⟩;walk_at "";refine⟨t,_,rfl,t2,?_⟩;walk_at "";refine⟨_,_,rfl,.inl ⟨_,aI.of (e2 _ _ a1),rfl⟩,?_⟩;rw[zaa,zaa,T2 im ⟨rg.1,rg.2.1⟩ nd al];walk_at "";have:=q _ (e1.trans e2);rw[tG hl]at this;have ec:decide (((rn L S s0:Nat):Int)<(((s0::s1::r).length:Nat):Int))=decide (rn L S s0<(s0::s1::r).length):=by
      by_cases z:rn L S s0<(s0::s1::r).length
      ·rw[zbc z,zbc (by lia)]
      ·rw[zaZ z,zaZ (by lia)]
     rw[ec];exact this
theorem iI:aM ["size", "lists", "one"] ["size"]<|aB ju:=by walk_at "n"
theorem tT(D:Def K mg "short_lists" ju ["size"])(T:Txt K mg Z):W! "short_lists" 1 ["size"] A9:=by
 exists D.cE iI,c8,hr;let#[n,rfl,_]:=h;rfl;let#[n,rfl,hn,q]:=h;refine#[_,(ai (aC (i:=1) iI.nd rfl A!<|bH<|aa (bH ah) ah)<|ai (cK<|fS zaN zec zed pV (pv 1)<|aa (bR (tg:=["one"]) (fr:=[]) D! rfl (bw rfl T.range<|aa (pv 0) ah) (λ_ _ _ _ _=>(aD (i:=0) (show [("one":Str)].Nodup by decide +kernel) rfl A!)) (λ_ _ _ _ _=>aY)<|λ_ _ _ _ _=>(bH<|aa (pv 0) ah)) ah)<|ai (bS zaF rfl (bw rfl T.range<|aa (pv 0) ah) (aD (i:=2) iI.nd rfl A!)<|ak<|cK<|fS zaN zec zed pV (pv 1)<|aa (bR (tg:=["other"]) (fr:=[("one",2)]) D! rfl (xt rfl T.range<|aa (ao bI (pv 2) aj)<|aa (pv 0) ah) (λ_ _ _ _ _=>(aD (i:=0) (show [("other":Str),("one":Str)].Nodup by decide +kernel) rfl A!)) (λ_ _ _ _ _=>aY)<|λ_ _ _ _ _=>(bH<|aa (pv 1)<|aa (pv 0) ah)) ah)<|ak<|aN<|pv 1),?_]
 dsimp only[cN];ext;refine#[zaR _,λz hz=>?_];generalize qq:upd H z _=H0;let#[e0,z0]:=qLy hz qq;ext;refine#[by rw[zak];simp,λt ht=>?_];let tH:H t=none:=e0.free ht;let YA:z≠t:=bu z0 ht;let e1:af H<|upd H0 t<|.lst [.ref z]:=e0.trans<|af.upd ht;let L:aQ (upd H0 t<|.lst [.ref z]) t [z] [[]]:=#[ae,rfl,λi a l h1 h2=>by
  cases i with
  | zero=>
   cases h1;cases h2;erw[aG YA,z0]
  | succ i=>simp at h1]
 generalize upd H0 t (.lst [.ref z])=H1 at e1 L ⊢;ext;refine#[.inl #[rfl,_,aI.of L.top],?_];ext;refine bC ?_;refine#[_,rfl,(n:Int),rfl,(),(),?_];rw[zaB];ext j W;refine cX (λi m ys k=>∃(g:cx) (v:Option V),m=[v]/\ys=g.h/\af H1 k/\g.c=i/\aQ k j g (((eQ n).map λi:Int=>[i]).take i)/\(j::g).Nodup/\∀b∈j::g,H1 b=none)
  #[[],none,rfl,rfl,af.upd W,rfl,#[ae,rfl,λi a l z=>by simp at z],by simp,~~~W] ?_ ?_
 ext i m ys k X ⟨g,v,rfl,rfl,Y,rfl,U,M,x⟩;ext;refine#[by rw[zak];simp,λc B=>?_];let N:=U.gu B;let hl:((eQ n).map λi:Int=>[i])[g.c]?=some [(g.c:Int)]:=by rw[zao,EV X];rfl
 let p:af k<|upd k c<|.lst<|[(g.c:Int)].f:=af.upd B;let c3:upd k c (.lst<|[(g.c:Int)].f) c=some (.lst<|[(g.c:Int)].f):=ae;let cH:H1 c=none:=Y.free B;let eE:upd k c (.lst [.int<|0+(g.c:Int)])=upd k c (.lst<|[(g.c:Int)].f):=by simp
 rw[eE];generalize upd k c (.lst<|[(g.c:Int)].f)=Hy at p c3 ⊢;let r:=U.same p;let S:c≠j:=λz=>N<|z▸zan;refine#[r.top,zaa>>aq (),nNN _ _ _ #[g++[c],_,rfl,by simp,af.fresh (Y.trans p)<|x _ zan,by simp,?_,?_,λy hy=>?_]];rw[take_snoc hl];exact r.snoc (zau.mp M).1 S c3;let#[n1,n2]:=zau.mp M;refine zau.mpr #[λz=>?_,iH.mpr #[λz=>N<|zae _ z,n2]];ext(z|z:zal.mp z);exact n1 z;exact S (zai.mp z).symm;ext(z|z:zaw.mp hy);rw[z];exact x _ zan;ext(z|z:zal.mp z);exact x y<|zae _ z;rw[zai.mp z];exact cH;ext m ys H3 ⟨cs,v,rfl,rfl,p,SJ,r,O8,Iz⟩;let I:=L.same p;let oV:((eQ n).map λi:Int=>[i]).c=n:=by rw[zaa,eU]
 rw[zca<|oV>>zaf _]at r;ext;refine#[t,j,_,_,rfl,rfl,I.top,r.top,by rw[zaa,zaa,r.len,oV,zak];simp;lia,?_];let nt:t∉cs:=λu=>by let:=Iz t<|zae _ u;rw[L.top]at this;cases this
 let g4:aQ (upd H3 t<|.lst<|[z].h++cs.h) t ([z]++cs)<|eV n 0:=I.cat r (~~~zbl YA) nt;let nz:z∉cs:=λu=>by let:=Iz z<|zae _ u;rw[L.row 0 z [] rfl rfl]at this;cases this
 let Kt:(t::([z]++cs)).Nodup:=by refine zau.mpr #[λu=>?_,zau.mpr #[nz,(zau.mp O8).2]];ext(w|w:zaw.mp u);exact YA w.symm;exact nt w
 let Lb:∀b∈t::([z]++cs),H b=none:=λb G=>by ext(w|w:zaw.mp G);rw[w];exact tH;ext(w|w:zaw.mp w);rw[w];exact hz;exact e1.free<|Iz b<|zae _ w
 generalize qq:upd H3 t (.lst<|[z].h++cs.h)=H4 at g4 ⊢;let e4:=(qFy (e1.trans p) tH qq).1;generalize [z]++cs=ac at g4 Kt Lb;ext;refine cP ?_;refine#[_,rfl,(n:Int),rfl,(),(),?_];rw[zaB];refine cM (λd σ C=>∃(g:cx) (v2:Option V),σ=[n.l,t.i,v2]/\af H C/\aQ C t g (eV n d)/\(t::g).Nodup/\∀b∈t::g,H b=none) #[ac,none,rfl,e4,g4,Kt,Lb] ?_ ?_;clear r O8 Iz p I nt nz g4 Kt Lb e4 SJ;ext d σ C ho ⟨XB,v2,rfl,e5,R,Uz,O⟩;simp only[zbB];ext;refine#[.inl #[rfl,_,aI.of R.top],?_];ext;refine bC ?_;refine#[_,rfl,(d:Int),1,rfl,rfl,_,rfl,(d:Int)+1,(n:Int),rfl,#[(),(),(),()],?_];rw[show((n:Int)-((d:Int)+1)).toNat=n-(d+1)by lia];ext j W;refine cX (λi m ys k=>∃(g:cx) (v:Option V),m=[v,d.l]/\ys=g.h/\af C k/\g.c=i/\aQ k j g ((twos n d).take i)/\(j::g).Nodup/\∀b∈j::g,C b=none)
  #[[],none,rfl,rfl,af.upd W,rfl,#[ae,rfl,λi a l z=>by simp at z],by simp,~~~W] ?_ ?_
 ext i m ys k X ⟨g,v,rfl,rfl,Y,rfl,U,M,x⟩;ext;ext c B;let N:=U.gu B;let p:af k<|upd k c<|.lst<|[(d:Int),(d:Int)+1+(g.c:Int)].f:=af.upd B;let c3:upd k c (.lst<|[(d:Int),(d:Int)+1+(g.c:Int)].f) c=some (.lst<|[(d:Int),(d:Int)+1+(g.c:Int)].f):=ae;let eE:upd k c (.lst [.int (d:Int),.int<|(d:Int)+1+(g.c:Int)])=upd k c (.lst<|[(d:Int),(d:Int)+1+(g.c:Int)].f):=rfl;rw[eE];generalize upd k c (.lst<|[(d:Int),(d:Int)+1+(g.c:Int)].f)=Hy at p c3 ⊢;let r:=U.same p;let S:c≠j:=λz=>N<|z▸zan;refine#[r.top,zaa>>aq (),nNN _ _ _ #[g++[c],_,rfl,by simp,af.fresh (Y.trans p)<|x _ zan,by simp,?_,?_,λy hy=>?_]];rw[take_snoc<|twos_at X];exact r.snoc (zau.mp M).1 S c3;let#[n1,n2]:=zau.mp M;refine zau.mpr #[λz=>?_,iH.mpr #[λz=>N<|zae _ z,n2]];ext(z|z:zal.mp z);exact n1 z;exact S (zai.mp z).symm;ext(z|z:zaw.mp hy);rw[z];exact x _ zan;ext(z|z:zal.mp z);exact x y<|zae _ z;rw[zai.mp z];exact Y.free B;ext m ys H7 ⟨cs,v,rfl,rfl,e7,SJ,g7,YK,Xu⟩;let I:=R.same e7;rw[zca<|twos_len>>zaf _]at g7;let sl:=sS n d ();let m1:d*n<=60*60:=zbE () ();ext;refine#[t,j,_,_,rfl,rfl,I.top,g7.top,by rw[zaa,zaa,g7.len,I.len,twos_len,zak];lia,?_];let F:∀b∈t::XB,b∉cs:=λb G u=>R.gu (Xu b<|zae _ u) G;refine nNy (by assumption) ?_;refine#[XB++cs,_,rfl,af.fresh (e5.trans e7)<|O _ zan,I.cat g7 (zau.mp Uz).1<|F t zan,?_,λb G=>?_];refine zau.mpr #[λu=>?_,zbf.mpr #[(zau.mp Uz).2,(zau.mp YK).2,λa ha b G e=>F a (zae _ ha)<|e▸G]];ext(w|w:zal.mp u);exact(zau.mp Uz).1 w;exact F t zan w;ext(w|w:zaw.mp G);rw[w];exact O _ zan;ext(w|w:zal.mp w);exact O b<|zae _ w;exact e5.free<|Xu b<|zae _ w;ext σ C ⟨XB,v2,rfl,e5,R,Uz,O⟩;ext;exact q t XB C e5 R Uz O
theorem sV:aM ["orders", "places"] ["orders"]<|aB pz:=by walk_at "n"
theorem DY(D:Def K mg "parting" pz ["orders"])(T:Txt K mg Z)(N:W! "parts" 2 ["orders", "places"] Be)(X:W! "short_lists" 1 ["size"] A9):W! "parting" 3 ["orders"] sL:=by
 exists D.cE sV,c8,B;let#[p,C,L,rfl,_]:=h;rfl;let#[p,C,L,rfl,g,im,y,M,W]:=h;refine#[_,(ai (bS zaF rfl (bJ<|av X B aP<|aa (aE aL C! T.len aU<|aa (pv 0) ah) ah) (aD (i:=1) sV.nd rfl A!)<|ak<|bY (lU<|av N B aP<|aa (pv 0)<|aa (pv 1) ah) (ak<|aN<|pv 1) bh)<|ak<|aN QI),?_]
 dsimp only[cN];ext;refine cP ?_;refine jE<|aJ<|jD<|aJ<|eS rfl<|aW ?_;refine#[_,_,rfl,.inl #[_,aI.of g.top,rfl],aW #[L.c,by rw[zaa,g.len];rfl,y,λt ts G r d Dd Mj=>?_]];refine#[t,rfl,#[_,aI.of d.top],fJ (λi l j=>∃v:Option V,l=[p.i,v]/\af G j/\∀(k:Nat) (S:dm),k<i->(eV L.c L.c)[k]?=some S->AA L S=false) #[_,rfl,λ_ _ e=>e,λk S U _=>()] (λi l j _ ⟨_,_,e,_⟩=>aI.of<|e _ _ d.top) ?_ ?_];ext i x l j q ⟨v,rfl,a,c⟩;let O:i<(eV L.c L.c).c:=by let:=(zab.mp q).1;rwa[zaa,d.len]at this
 let#[b,S,R,F,u]:=d.at O;obtain rfl:x=V.ref b:=by rw[zao,R]at q;exact(zas q).symm
 ext;refine#[p,b,C,L,S,rfl,(g.same r).same a,a _ _ u,im,y,λY m=>?_];ext;cases hp:AA L S with
 | true=>
  ext;exact W S (Es F hp c) b Y ((r.trans a).trans m)<|m _ _<|a _ _ u
 | false=>
  ext;refine#[_,rfl,a.trans m,λk I U n=>?_];ext(z:k<i);exact c k I z n;obtain rfl:k=i:=();rw[F]at n;cases n;exact hp
 ext l j ⟨v,rfl,a,c⟩;rw[zaa,d.len]at c;ext;exact M (find_none c) j<|r.trans a
theorem Jk:aM ["orders"] ["orders"]<|aB yM:=by walk_at "n"
theorem Kj(D:Def K mg "hangs" yM ["orders"])(T:Txt K mg Z)(d:W! "come_to" 1 ["orders", "start", "shut"] yy):W! "hangs" 2 ["orders"] Bj:=by exists D.cE Jk,y,n;let#[p,b,L,rfl,_]:=h;rfl;let#[p,b,L,rfl,g,v,k,m,q]:=h;refine#[_,(ak<|aN<|hX eP (aE xX C! T.len aU<|aa (av d n aP<|aa (pv 0)<|aa aj<|aa (bH ah) ah) ah) (aE aL C! T.len aU<|aa (pv 0) ah)<|aS _),?_];dsimp only[cN];ext;refine#[zaR _,λsh e=>?_];let c:af H<|upd H sh<|.lst []:=af.upd e;ext;refine#[p,b,L,[],0,sh,rfl,g.same c,ae,v,m,Int.le_refl 0,(),λt j i r z x u l=>?_];let a:=c.trans r;ext;refine#[t,_,rfl,x,?_];ext;refine#[_,_,rfl,.inl #[_,aI.of<|a _ _ g.top,rfl],?_];rw[zaa,zaa,g.len];ext;exact q j i a u l
theorem rJ:aM ["orders", "found", "place", "order"] ["orders"]<|aB DG:=by walk_at "n"
theorem Nj(D:Def K mg "ties" DG ["orders"])(T:Txt K mg Z):W! "ties" 1 ["orders"] Fb:=by
 exists D.cE rJ,c8,hr;let#[p,as,L,rfl,_]:=h;rfl;let#[p,as,L,rfl,g,hn,U,q]:=h;refine#[_,(ai (aC (i:=1) rJ.nd rfl A!<|bH ah)<|ai (bS zaF rfl (mN T.enumerate<|aa (pv 0) ah) (jF (n:=2) rfl<|bo (aD (i:=2) rJ.nd rfl A!)<|bo (aD (i:=3) rJ.nd rfl A!) dY)<|ak<|cK<|fS zaN zec zed pV (pv 1)<|aa (bR (tg:=["neighbour"]) (fr:=[("place",2)]) D! rfl (bJ<|aE CS C! T.sorted xY<|aa (pv 3) ah) (λ_ _ _ _ _=>(aD (i:=0) (show [("neighbour":Str),("place":Str)].Nodup by decide +kernel) rfl A!)) (λ_ _ _ _ _=>(gU<|aO jg (pv 1) (pv 0)<|aS _))<|λ_ _ _ _ _=>(cR<|aa (pv 1)<|aa (pv 0) ah)) ah)<|ak<|aN<|pv 1),?_]
 dsimp only[cN];ext;refine#[zaR _,λt ht=>?_];ext;refine cP ?_;let e0:af H<|upd H t<|.lst []:=af.upd ht;refine#[_,rfl,p,rfl,#[_,aI.of<|e0 _ _ g.top],mq (K:=K) (a:=p) (xs:=as.h) (λi Y j=>∃(S:cx) (v2 v3:Option V),Y=[p.i,t.i,v2,v3]/\af H j/\j t=some (.lst S.h)/\PR j S (iq L i)) #[[],none,none,rfl,e0,ae,.nil] (λi Y j _ ⟨_,_,_,_,O,_⟩=>aI.of<|O _ _ g.top) ?_ ?_];ext i x pr Y j r ⟨S,v2,v3,rfl,O,h1,mJ⟩ Cj;let hi:i<L.c:=by let:=(zab.mp r).1;rw[zaa,g.len]at this;exact this
 let#[b,l,ha,I,bL]:=g.at hi;obtain rfl:x=V.ref b:=by rw[zao,ha]at r;exact(zas r).symm
 let e2:af j<|upd j pr<|.tup [.int i,.ref b]:=af.upd Cj;let Gd:=e2 _ _<|O _ _ bL;let W:=e2 _ _ h1;let O2:=mJ.same e2;let jX:=O.trans e2;refine inF λ_ _=>?_;refine fD (SqT.of ae) rfl ?_;generalize upd j pr (.tup [.int i,.ref b])=X at Gd W O2 jX ⊢;ext;refine#[.inl #[rfl,_,aI.of W],?_];ext;refine bC ?_;let ln:l.c<=L.c:=fb (U.nd _ _ I) λy N=>#[(U.rg _ _ I y N).1,(U.rg _ _ I y N).2.1];refine#[_,rfl,b,l,rfl,aI.of Gd,(),λc sp hp hs Gb=>?_];let ac:=hp.length_eq;refine#[sp,rfl,#[_,aI.of ae],λF R=>?_];let e3:af X<|upd X sp<|.lst c.f:=af.upd Gb;let Zb:upd (upd X sp<|.lst c.f) F (.lst []) sp=some (.lst c.f):=by erw[aG<|bu ae R,ae]
 refine bD (K:=K) (a:=sp) (xs:=c.f) (λk m ys u=>∃(d:cx) (v:Option V),m=[v,i.j]/\ys=d.h/\af X u/\u sp=some (.lst c.f)/\u F=some (.lst ys)/\d.c<=k/\PR u d (((c.take k).filter<|λy=>decide<|(i:Int)<y).map λy=>((i:Int),y)))
  #[[],none,rfl,rfl,e3.trans<|af.upd (o:=.lst []) R,Zb,ae,zaf _,.nil] (λk m ys u _ ⟨_,_,_,_,_,h,_⟩=>aI.of h) ?_ ?_
 ext k x m ys u r hk ⟨d,v,rfl,rfl,C,s5,B,q5,G⟩;obtain⟨y,N,rfl⟩:∃y,c[k]?=some y/\x=V.int y:=by
  rw[zao]at r;cases e:c[k]? with
  | none=>rw[e]at r;cases r
  | some z=>rw[e]at r;exact#[z,rfl,(zas r).symm]
 rw[zaa]at hk;let tk:c.take (k+1)=c.take k++[y]:=by rw[zer,N];rfl
 ext;refine if2 (λfI=>?_)<|λfI=>?_;ext;ext pq M;refine#[by erw[aG<|bu B M,B],zaa>>aq (),nNN _ _ _ #[d++[pq],_,rfl,by simp,?_,?_,ae,by simp;lia,?_]];exact af.fresh (C.trans<|af.upd M)<|e3.free R;rw[aG (λz=>by rw[<-z]at R;rw[ae]at R;cases R),aG<|bu s5 M];exact s5;let p7:=PR.lst (zs:=d.h++[.ref pq]) (G.same<|af.upd M) (show upd u pq (.tup [.int i,.int y]) F=some (.lst d.h)by erw[aG<|bu B M,B]);rw[tk,zcS,zat];refine PR.app p7 ?_;rw[zdu,zam<|~~~fI];refine .cons ?_ .nil;rw[aG<|zbl<|bu B M];exact ae;refine nNN _ _ _ #[d,_,rfl,rfl,C,s5,B,(),?_];rw[tk,zcS,zat,zdu,zaj<|~~~fI];simpa using G;ext m ys u ⟨d,v,rfl,rfl,C,s5,B,q5,G⟩;rw[zaa]at q5 G;rw[zbg]at G;rw[Qm hp hs (U.nd _ _ I) (λy N=>(U.rg _ _ I y N).2.1) hi]at G;ext;let lp:=O2.len;let ld:=B7 (L:=L) i;let lm:i*L.c<=60*60:=zbE () hn;refine JH (C _ _ W) B (by rw[zaa,zaa,zak];lia) ?_;ext;refine#[S++d,_,_,rfl,af.fresh (jX.trans C) ht,zat>>ae,?_];let hg:L.getD i []=l:=by rw[zah,I];rfl
 rw[iq,hg];exact PR.app (PR.lst (O2.same C)<|C _ _ W)<|PR.lst G<|C _ _ W;ext Y j ⟨S,v2,v3,rfl,O,h1,mJ⟩;rw[zaa,g.len]at mJ;ext;exact q t S j O ht h1 mJ
theorem Bt:aM ["orders", "alone"] ["orders"]<|aB yO:=by walk_at "n"
theorem Kl(D:Def K mg "count" yO ["orders"])(T:Txt K mg Z)(RA:W! "ties" 1 ["orders"] Fb)(W:W! "lands" 3 ["orders"] jR):W! "count" 4 ["orders"] Bn:=by
 exists D.cE Bt,c8,B;let#[p,u,L,rfl,_]:=h;rfl;let#[p,u,L,rfl,g,N,z,hd,q]:=h;refine#[_,(ai (aC (i:=1) Bt.nd rfl A!<|aE aL C! T.len aU<|aa (bR (tg:=["order"]) (fr:=[]) D! rfl (bJ<|pv 0) (λ_ _ _ _ _=>(aD (i:=0) (show [("order":Str)].Nodup by decide +kernel) rfl A!)) (λ_ _ _ _ _=>(gU<|aO eP (aE (qv rfl) C! T.len aU<|aa (pv 0) ah) aj<|aS _))<|λ_ _ _ _ _=>(pv 0)) ah)<|ak<|aN<|ao bI (ao cW (ao bI (aE aL C! T.len aU<|aa (pv 0) ah)<|aE aL C! T.len aU<|aa (av W B aP<|aa (pv 0) ah) ah)<|aE aL C! T.len aU<|aa (av RA B aP<|aa (pv 0) ah) ah)<|pv 1),?_]
 dsimp only[cN];ext;refine bC ?_;refine#[_,rfl,p,rfl,#[_,aI.of g.top],λm C=>?_];refine bD (λi a ys d=>∃v:Option V,a=[v]/\af H d/\d m=some (.lst ys)/\ys.c=(L.take i).countP (·.isEmpty)/\ys.c<=i)
  #[none,rfl,af.upd C,ae,rfl,zaf _] (λi a ys d _ ⟨_,_,e,_⟩=>aI.of<|e _ _ g.top) ?_ ?_
 ext i x a ys d M r ⟨v,rfl,c,k,j,zi⟩;let qM:i<L.c:=by rwa[zaa,g.len]at r
 let#[b,l,Y,O,S]:=g.at qM;obtain rfl:x=V.ref b:=by rw[zao,Y]at M;exact(zas M).symm
 let y:(L.take<|i+1).countP (·.isEmpty)=(L.take i).countP (·.isEmpty)+if l.isEmpty=true then 1 else 0:=by rw[take_snoc O,countP_append,countP_singleton]
 ext;refine#[_,_,rfl,.inl #[_,aI.of<|c _ _ S,rfl],?_];rw[zaa _];ext;refine if2 (λG=>?_)<|λG=>?_;let n:l=[]:=zeu.mp ();ext;refine#[k,aq (),nNN _ _ _ #[_,rfl,af.fresh c C,ae,?_,by simp;lia]];rw[y,n,zav,j];rfl;let n:l.isEmpty=false:=by cases l with|nil=>exact absurd rfl G|cons _ _=>rfl
 refine nNN _ _ _ #[_,rfl,c,k,?_,()];rw[y,n,j];rfl;ext a ys d ⟨v,rfl,c,k,j,zi⟩;rw[zaa,g.len,zbg]at j;ext;refine#[_,_,rfl,.inl #[_,aI.of k,rfl],?_];rw[j];ext;refine#[_,_,rfl,.inl #[_,aI.of<|c _ _ g.top,rfl],?_];rw[zaa,g.len];ext;refine#[p,u,L,rfl,g.same c,N,z,hd,λt bs R H2 F I _ _ ld=>?_];ext;refine#[_,_,rfl,.inl #[_,aI.of I.top,rfl],?_];rw[zaa,I.len];ext;refine#[p,u,L,rfl,(g.same c).same F,z,N,λt3 ps H3 X _ U Sr=>?_];ext;refine#[_,_,rfl,.inl #[_,aI.of U,rfl],?_];rw[zaa,Sr.len];ext;exact q R H3 ((c.trans F).trans X) ld
theorem lF:aM ["orders", "place", "order", "neighbour"] ["orders", "place"]<|aB nK:=by walk_at "n"
theorem BO(D:Def K mg "is_wrong" nK ["orders", "place"])(T:Txt K mg Z):W! "is_wrong" 1 ["orders", "place"] A5:=by
 exists D.cE lF,c8,hr;let#[p,R,L,k,rfl,_]:=h;rfl;let#[p,R,L,k,rfl,g,m,U,Y,q]:=h;let#[b,l,O,c,r]:=g.at U;let F:=m.nd _ _ c;let ln:=fb F λy d=>#[(m.rg _ _ c y d).1,(m.rg _ _ c y d).2.1];refine#[_,(ai (aC (i:=2) lF.nd rfl A!<|aF aw (pv 0) (pv 1) C?)<|ai (bY (aO tS (aE Ic C! T.len aU<|aa (iD (HZ rfl) C! T.set RZ<|aa (pv 2) ah) ah) (aE aL C! T.len aU<|aa (pv 2) ah)<|aS _) (ak<|aN iS) bh)<|ai (bS zaF rfl (bJ<|pv 2) (aD (i:=3) lF.nd rfl A!)<|ai (bY (PW.pt<|pw_or (aO eP (pv 3) (pv 1)<|aS _)<|pw_or (aO jg (pv 3) aj<|aS _)<|pw_or1<|aO O4 (pv 3) (aE aL C! T.len aU<|aa (pv 0) ah)<|aS _) (ak<|aN iS) bh)<|ak<|bY (aO kE (pv 1) (aF aw (pv 0) (pv 3) C?)<|by with_unfolding_all rfl) (ak<|aN iS) bh)<|ak<|aN iS),?_]
 dsimp only[cN];ext;refine aT (aI.of g.top) (g.ix O) ?_;ext;refine#[b,l,rfl,aI.of r,(),λC S B=>?_];let n:af H<|upd H C<|.set S (EB l).c:=af.upd B;refine#[C,S,_,rfl,ae,?_];generalize upd H C (.set S (EB l).c)=X at n ⊢;ext;refine#[_,_,rfl,.inl #[_,aI.of<|n _ _ r,rfl],?_];rw[zaa,(Ly l).mpr F];ext;refine nQ (λz=>absurd rfl z)<|λ_=>?_;ext;refine cP ?_;refine#[_,rfl,b,rfl,#[_,aI.of<|n _ _ r],fJ (λi t u=>∃v:Option V,t=[p.i,k.l,b.i,v]/\af H u) #[none,rfl,n] (λi t u _ ⟨_,_,e⟩=>aI.of<|e _ _ r) ?_ ?_];ext i x t u j ⟨v,rfl,a⟩;obtain⟨y,d,rfl⟩:∃y,l[i]?=some y/\x=V.int y:=by
  rw[zao]at j;cases e:l[i]? with
  | none=>rw[e]at j;cases j
  | some z=>rw[e]at j;exact#[z,rfl,(zas j).symm]
 let G:=m.rg _ _ c y<|zag d;let#[I,rfl]:=zaM G.1;let#[b2,l2,M,W,N]:=g.at (i:=I) ();ext;refine if2 (λz=>absurd z G.2.2)<|λ_=>?_;ext;refine if2 (λz=>absurd z ())<|λ_=>?_;ext;refine#[_,_,rfl,.inl #[_,aI.of<|a _ _ g.top,rfl],?_];rw[zaa,g.len];ext;refine if2 (λz=>absurd z ())<|λ_=>?_;ext;refine aT (aI.of<|a _ _ g.top) (g.ix M) ?_;refine MT (aI.of<|a _ _ N) ?_;rw[zam rfl,zbc<|m.sy _ _ c _ (zag d) I rfl _ W];ext;exact#[_,rfl,a];ext t u ⟨v,rfl,a⟩;ext;exact q _ a
theorem xk:aM ["orders", "place"] ["orders"]<|aB sZ:=by walk_at "n"
theorem Hk(D:Def K mg "looked" sZ ["orders"])(T:Txt K mg Z)(r:W! "is_wrong" 1 ["orders", "place"] A5):W! "looked" 2 ["orders"] w9:=by
 exists D.cE xk,t,n;let#[p,d,L,rfl,_]:=h;rfl;let#[p,d,L,rfl,g,l,m,q]:=h;refine#[_,(ak<|bS zaF rfl (bw rfl T.range<|aa (aE aL C! T.len aU<|aa (pv 0) ah) ah) (aD (i:=1) xk.nd rfl A!)<|ak<|bY (lU<|av r n aP<|aa (pv 0)<|aa (pv 1) ah) (ak iR) bh),?_]
 dsimp only[cN];refine cP ?_;refine#[_,rfl,_,_,rfl,.inl #[_,aI.of g.top,rfl],(L.c:Int),by rw[zaa,g.len],(),(),?_];rw[zaB];refine cM (λi c b=>∃v:Option V,c=[p.i,v]/\af H b) #[none,rfl,λ_ _ e=>e] ?_ ?_;ext i c b j ⟨v,rfl,a⟩;simp only[zbB];ext;refine#[p,d,L,i,rfl,g.same a,l,j,m,λu k=>?_];ext;exact#[_,rfl,a.trans k];ext c b ⟨v,rfl,a⟩;exact q _ a
theorem rG:aM ["first", "second", "third", "across", "up", "bottom"] ["first", "second", "third"]<|aB DF:=by walk_at "n"
theorem Ni(D:Def K mg "turn" DF ["first", "second", "third"])(T:Txt K mg Z):W! "turn" 1 ["first", "second", "third"] EZ:=by
 exists D.cE rG,c8,hr;let#[a,b,c,p,q,r,rfl,_]:=h;rfl;let#[a,b,c,#[p0,O,S],#[q0,M,I],#[r0,W,L],rfl,N,Y,G,X,zq,R,U]:=h;let#[t,g,e]:=X;let#[l,m,n]:=zq;let#[j,k,z]:=R;dsimp only at t g e l m n j k z;let la:aI K H a [.int p0,.int O,.int S]:=aI.of N;let lb:aI K H b [.int q0,.int M,.int I]:=aI.of Y;let lc:aI K H c [.int r0,.int W,.int L]:=aI.of G;let d:∀{x y u v:Int},Sz 3000 x->Sz 3000 y->Sz 3000 u->Sz 3000 v->Sz 6001 (x*y-u*v):=λC h2 B F=>Sz.sub (Sz.mul C h2)<|Sz.mul B F;let m1:=Sz.dJ m z;let m2:=Sz.dJ n k;let m3:=Sz.dJ n j;let m4:=Sz.dJ l z;let m5:=Sz.dJ l k;let m6:=Sz.dJ m j;let m7:=Sz.dJ t<|d m z n k;let m8:=Sz.dJ g<|d n j l z;let m9:=Sz.dJ e<|d l k m j;refine#[_,(ai (aC (i:=3) rG.nd rfl A!<|ao cW (ao bG (aF aw (pv 1) aj C?)<|aF aw (pv 2) aj C?)<|ao bG (aF aw (pv 1) aj C?)<|aF aw (pv 2) aj C?)<|ai (aC (i:=4) rG.nd rfl A!<|ao cW (ao bG (aF aw (pv 1) aj C?)<|aF aw (pv 2) aj C?)<|ao bG (aF aw (pv 1) aj C?)<|aF aw (pv 2) aj C?)<|ai (aC (i:=5) rG.nd rfl A!<|ao cW (ao bG (aF aw (pv 1) aj C?)<|aF aw (pv 2) aj C?)<|ao bG (aF aw (pv 1) aj C?)<|aF aw (pv 2) aj C?)<|ak<|aN<|ao bI (ao bI (ao bG (aF aw (pv 0) aj C?)<|pv 3)<|ao bG (aF aw (pv 0) aj C?)<|pv 4)<|ao bG (aF aw (pv 0) aj C?)<|pv 5),?_]
 dsimp only[cN];ext;exact U
theorem yG:aM ["_law_one", "_law_other"] ["_law_one", "_law_other"]<|aB lJ:=by walk_at "n"
theorem zw(D:Def K mg "_law_less" lJ ["_law_one", "_law_other"])(T:Txt K mg Z):W! "_law_less" 1 ["_law_one", "_law_other"] Ff:=by
 exists D.cE yG,k,n;let#[a,b,f,g,rfl,_]:=h;rfl;let#[a,b,f,g,rfl,p,l,c,e,d,i,q]:=h;refine#[_,(ak<|aN<|hX jg (ao bG (aF dZ (pv 0) aj C?)<|aF dZ (pv 1) aj C?) (ao bG (aF dZ (pv 1) aj C?)<|aF dZ (pv 0) aj C?)<|aS _),?_];try dsimp only[cN]
 let j:=Sz.dJ c i;let m:=Sz.dJ d e;ext;exact q
theorem qR:aM ["_law_one", "_law_other"] ["_law_one", "_law_other"]<|aB iP:=by walk_at "n"
theorem qW(D:Def K mg "_law_earlier" iP ["_law_one", "_law_other"])(T:Txt K mg Z)(t:W! "_law_less" 1 ["_law_one", "_law_other"] Ff):W! "_law_earlier" 2 ["_law_one", "_law_other"] Fh:=by
 exists D.cE qR,c8,l;let#[a,b,p,q,rfl,_]:=h;rfl;let#[a,b,p,q,rfl,O,y,m,j,k]:=h;refine#[_,(ai (bY (aO (Ka l.units) (aF dZ (pv 0) aj C?) (aF dZ (pv 1) aj C?)<|aS _) (ak<|aN<|av t l aP<|aa (aF dZ (pv 0) aj C?)<|aa (aF dZ (pv 1) aj C?) ah) bh)<|ak<|aN<|av t l aP<|aa (aF dZ (pv 0) aj C?)<|aa (aF dZ (pv 1) aj C?) ah),?_]
 try dsimp only[cN]
 let#[F,L,f,g,rfl,Y,n,X]:=O.two m.len;let#[G,b1,c,e,rfl,hb,v,M]:=y.two j.len;let r:∀x∈[f,g],Sz 600 x.1/\Sz 600 x.2:=λx d=>#[m.fq.top x d,m.fq.bot x d];let i:∀x∈[c,e],Sz 600 x.1/\Sz 600 x.2:=λx d=>#[j.fq.top x d,j.fq.bot x d];let#[N,R]:=r f A?;let#[I,S]:=r g A?;let#[W,B]:=i c A?;let#[U,C]:=i e A?;ext;refine#[gw f,gw c,gn.By n,gn.By v,gn.qG _,gn.qG _,?_];rw[zam rfl,gn.Lj];ext;let u:CH [f,g] [c,e]=if f≠c then oF f c else oF g e:=rfl;refine nQ (λh=>?_)<|λh=>?_;ext;refine#[F,G,f,c,rfl,n,v,N,R,W,B,?_];rwa[u,zam h]at k;ext;refine#[L,b1,g,e,rfl,X,M,I,S,U,C,?_];rwa[u,zaj<|λz=>z h]at k
theorem dr:aM ["_law_one", "_law_two", "_law_three", "_law_share", "_law_x", "_law_y", "_law_xs", "_law_ys", "_law_first"] ["_law_one", "_law_two", "_law_three"]<|aB lK:=by walk_at "n"
theorem zA(D:Def K mg "_law_bend" lK ["_law_one", "_law_two", "_law_three"])(T:Txt K mg Z):W! "_law_bend" 1 ["_law_one", "_law_two", "_law_three"] Fi:=by
 exists D.cE dr,c8,hr;let#[a,b,c,p,q,r,rfl,_]:=h;rfl;let#[a,b,c,p,q,r,rfl,hp,hq,sd,C,F,pr,k]:=h;refine#[_,(ai (aC (i:=3) dr.nd rfl A! aj)<|ai (bS zaF rfl (bJ<|bH<|aa (pv 0)<|aa (pv 1)<|aa (pv 2) ah) (jF (n:=2) rfl<|bo (aD (i:=4) dr.nd rfl A!)<|bo (aD (i:=5) dr.nd rfl A!) dY)<|ak<|aC (i:=3) dr.nd rfl A!<|ao bG (ao bG (pv 3)<|aF dZ (pv 4) aj C?)<|aF dZ (pv 5) aj C?)<|ai (eO (i:=6) dr.nd rfl A! (tg:=["_law_spot"]) (fr:=[("_law_share",3)]) D! rfl (bJ<|bH<|aa (pv 0)<|aa (pv 1)<|aa (pv 2) ah) (λ_ _ _ _ _=>(aD (i:=0) (show [("_law_spot":Str),("_law_share":Str)].Nodup by decide +kernel) rfl A!)) (λ_ _ _ _ _=>aY)<|λ_ _ _ _ _=>(ao bG (aF (fN (K:=K) rfl) (aF (fN (K:=K) rfl) (pv 0) aj C?) aj C?)<|ao dF (pv 1)<|aF (fN (K:=K) rfl) (aF (fN (K:=K) rfl) (pv 0) aj C?) aj C?))<|ai (eO (i:=7) dr.nd rfl A! (tg:=["_law_spot"]) (fr:=[("_law_share",3)]) D! rfl (bJ<|bH<|aa (pv 0)<|aa (pv 1)<|aa (pv 2) ah) (λ_ _ _ _ _=>(aD (i:=0) (show [("_law_spot":Str),("_law_share":Str)].Nodup by decide +kernel) rfl A!)) (λ_ _ _ _ _=>aY)<|λ_ _ _ _ _=>(ao bG (aF (fN (K:=K) rfl) (aF (fN (K:=K) rfl) (pv 0) aj C?) aj C?)<|ao dF (pv 1)<|aF (fN (K:=K) rfl) (aF (fN (K:=K) rfl) (pv 0) aj C?) aj C?))<|ai (aC (i:=8) dr.nd rfl A!<|ao bG (ao cW (aF aw (pv 6) aj C?)<|aF aw (pv 6) aj C?)<|ao cW (aF aw (pv 7) aj C?)<|aF aw (pv 7) aj C?)<|ak<|aN<|ao cW (pv 8)<|ao bG (ao cW (aF aw (pv 7) aj C?)<|aF aw (pv 7) aj C?)<|ao cW (aF aw (pv 6) aj C?)<|aF aw (pv 6) aj C?),?_]
 try dsimp only[cN]
 let#[a0,a1,f,g,rfl,ha,Xp,ZJ]:=hp.two C.len;let#[b0,b1,d,j,rfl,hb,Xo,SM]:=hq.two F.len;let#[c0,c1,t,l,rfl,hc,Xn,xG]:=sd.two pr.len;let three:∀i:Nat,i<3->∃(x x0 x1:Addr) (u v:Int×Int),[V.ref a,V.ref b,V.ref c][i]?=some (V.ref x)/\H x=some (.tup [.ref x0,.ref x1])/\H x0=some (.tup [.int u.1,.int u.2])/\H x1=some (.tup [.int v.1,.int v.2])/\[[f,g],[d,j],[t,l]][i]?=some [u,v]/\Sz 600 u.1/\Sz 600 u.2/\Sz 600 v.1/\Sz 600 v.2/\0<u.2/\0<v.2:=λi z=>by
  match i,z with
  | 0,_=>exact#[a,a0,a1,f,g,rfl,ha,Xp,ZJ,rfl,C.fq.top f A?,C.fq.bot f A?,C.fq.top g A?,C.fq.bot g A?,C.fq.pos f A?,C.fq.pos g A?]
  | 1,_=>exact#[b,b0,b1,d,j,rfl,hb,Xo,SM,rfl,F.fq.top d A?,F.fq.bot d A?,F.fq.top j A?,F.fq.bot j A?,F.fq.pos d A?,F.fq.pos j A?]
  | 2,_=>exact#[c,c0,c1,t,l,rfl,hc,Xn,xG,rfl,pr.fq.top t A?,pr.fq.bot t A?,pr.fq.top l A?,pr.fq.bot l A?,pr.fq.pos t A?,pr.fq.pos l A?]
 let am:∀i:Nat,i<3->∀u v,[[f,g],[d,j],[t,l]][i]?=some [u,v]->MK [[f,g],[d,j],[t,l]] (i+1)=MK [[f,g],[d,j],[t,l]] i*u.2*v.2:=λi z u v e=>by
  match i,z,e with
  | 0,_,e=>cases e;rfl
  | 1,_,e=>cases e;rfl
  | 2,_,e=>cases e;rfl
 ext;refine cP ?_;refine dw<|nD<|aJ<|eS rfl<|aJ<|eS rfl<|aJ<|eS rfl<|aW #[zbL (aq<|show 3<=1000 by decide),λl1 oV=>?_];generalize qq:upd H l1 _=H1;let#[e1,h1]:=qLy oV qq;refine#[l1,rfl,#[_,aI.of h1],?_];refine fJ (K:=K) (a:=l1) (xs:=[.ref a,.ref b,.ref c]) (λi σ H2=>∃v4 v5,σ=[a.i,b.i,c.i,some<|.int<|MK [[f,g],[d,j],[t,l]] i,v4,v5,none,none,none]/\af H1 H2/\Sz (1200*i+1) (MK [[f,g],[d,j],[t,l]] i)/\0<MK [[f,g],[d,j],[t,l]] i) #[none,none,rfl,af.refl _,(show Sz (1200*0+1) 1 by unfold Sz;decide),(show(0:Int)<1 by decide)] (by ext i σ H2 _ ⟨_,_,_,e,_⟩;exact aI.of<|e _ _ h1) ?_ ?_;ext i x σ H2 G ⟨v4,v5,rfl,e2,N,p0⟩;let z:i<3:=(zab.mp G).1;let#[x',x0,x1,u,v,q1,q2,q3,q4,B,W,L,s3,Y,U,v0]:=three i z;rw[q1]at G;cases G;let es:=am i z u v B;let O:=e1.trans e2;let m1:IntMulOk (MK [[f,g],[d,j],[t,l]] i) u.2:=Sz.dJ (m:=4000) (n:=600) (N.mono ()) L;let m2:IntMulOk (MK [[f,g],[d,j],[t,l]] i*u.2) v.2:=Sz.dJ (m:=5000) (n:=600) ((Sz.mul N L).mono ()) Y;let XZ:=O _ _ q2;let ag:=O _ _ q3;let ad:=O _ _ q4;refine inF λ_ _=>?_;refine fD (SqT.of XZ) rfl ?_;ext;refine#[_,_,by rw[es];rfl,e2,?_,?_];rw[es];exact((N.mul L).mul Y).mono ();rw[es];exact zbN (zbN p0 U) v0;ext σ H2 ⟨v4,v5,rfl,e2,N,p0⟩;let hs:MK [[f,g],[d,j],[t,l]] [V.ref a,V.ref b,V.ref c].c=share [f,g] [d,j] [t,l]:=rfl;rw[hs]at N p0 ⊢;let N:Sz 4000<|share [f,g] [d,j] [t,l]:=N.mono (show 1200*3+1<=4000 by decide);let M:∀u:Int×Int,Sz 600 u.1->Sz 600 u.2->0<u.2->PX (share [f,g] [d,j] [t,l]) u.2/\IntMulOk u.1 (share [f,g] [d,j] [t,l] / u.2)/\Sz 4600 (bx (share [f,g] [d,j] [t,l]) u):=λu W L U=>by
  let d0:Sz 4000<|share [f,g] [d,j] [t,l] / u.2:=by unfold Sz at *;exact zaY (Int.natAbs_ediv_le_natAbs _ _) N
  exact#[#[U,L.mono B!],Sz.dJ (m:=600) (n:=4000) W d0,(Sz.mul W d0).mono B!]
 generalize hS:share [f,g] [d,j] [t,l]=S at *;let O:=e1.trans e2;ext;refine bC<|dw<|nD<|aJ<|eS rfl<|aJ<|eS rfl<|aJ<|eS rfl<|aW #[zbL (aq<|show 3<=1000 by decide),λl2 oI=>?_];generalize qq:upd H2 l2 _=H3;let#[e3,h3]:=qLy oI qq;refine#[l2,rfl,#[_,aI.of h3],λax ac=>?_];refine bD (K:=K) (a:=l2) (xs:=[.ref a,.ref b,.ref c]) (λm y ys R=>∃(v:Option V),y=[v,S.j]/\ys=(([bx S f,bx S d,bx S t]:dm).take m).f/\af H3 R/\R ax=some (.lst ys))
  #[none,rfl,rfl,af.upd ac,ae] (by ext m y ys R _ ⟨_,_,_,e,_⟩;exact aI.of<|e _ _ h3) ?_ ?_
 ext i x y ys R G z ⟨v,rfl,rfl,e4,h4⟩;let z:i<3:=z;let#[x',x0,x1,u,v',q1,q2,q3,q4,B,W,L,s3,Y,U,v0]:=three i z;rw[q1]at G;cases G;let Lq:=O.trans<|e3.trans e4;let XZ:=Lq _ _ q2;let ag:=Lq _ _ q3;let#[cf,mo,_]:=M u W L U;let ev:([bx S f,bx S d,bx S t]:dm)[i]?=some (bx S u):=by
  match i,z,B with
  | 0,_,B=>cases B;rfl
  | 1,_,B=>cases B;rfl
  | 2,_,B=>cases B;rfl
 ext;refine#[h4,by erw[zaa,zaL,aq<|show min i 3<=1000 by lia],nNN _ _ _ #[_,rfl,by rw[take_snoc ev,zat];rfl,af.fresh e4 ac,ae]];ext y ys R ⟨v,rfl,rfl,e4,h4⟩;let Lq:=O.trans<|e3.trans e4;ext;refine bC<|dw<|nD<|aJ<|eS rfl<|aJ<|eS rfl<|aJ<|eS rfl<|aW #[zbL (aq<|show 3<=1000 by decide),λNz al=>?_];generalize qq:upd R Nz _=H5;let#[e5,h5]:=qLy al qq;refine#[Nz,rfl,#[_,aI.of h5],λay X=>?_];refine bD (K:=K) (a:=Nz) (xs:=[.ref a,.ref b,.ref c]) (λm y ys I=>∃(v:Option V),y=[v,S.j]/\ys=(([bx S g,bx S j,bx S l]:dm).take m).f/\af H5 I/\I ay=some (.lst ys))
  #[none,rfl,rfl,af.upd X,ae] (by ext m y ys I _ ⟨_,_,_,e,_⟩;exact aI.of<|e _ _ h5) ?_ ?_
 ext i x y ys I G z ⟨v,rfl,rfl,e6,h6⟩;let z:i<3:=z;let#[x',x0,x1,u,v',q1,q2,q3,q4,B,W,L,s3,Y,U,v0]:=three i z;rw[q1]at G;cases G;let V0:=Lq.trans<|e5.trans e6;let XZ:=V0 _ _ q2;let ad:=V0 _ _ q4;let#[cf,mo,_]:=M v' s3 Y v0;let ev:([bx S g,bx S j,bx S l]:dm)[i]?=some (bx S v'):=by
  match i,z,B with
  | 0,_,B=>cases B;rfl
  | 1,_,B=>cases B;rfl
  | 2,_,B=>cases B;rfl
 ext;refine#[h6,by erw[zaa,zaL,aq<|show min i 3<=1000 by lia],nNN _ _ _ #[_,rfl,by rw[take_snoc ev,zat];rfl,af.fresh e6 X,ae]];ext y ys I ⟨v,rfl,rfl,e6,h6⟩;let x6:=(e5.trans e6) _ _ h4;let zf:=(M f (C.fq.top f A?) (C.fq.bot f A?)<|C.fq.pos f A?).2.2;let zg:=(M g (C.fq.top g A?) (C.fq.bot g A?)<|C.fq.pos g A?).2.2;let WI:=(M d (F.fq.top d A?) (F.fq.bot d A?)<|F.fq.pos d A?).2.2;let WH:=(M j (F.fq.top j A?) (F.fq.bot j A?)<|F.fq.pos j A?).2.2;let Tb:=(M t (pr.fq.top t A?) (pr.fq.bot t A?)<|pr.fq.pos t A?).2.2;let Ta:=(M l (pr.fq.top l A?) (pr.fq.bot l A?)<|pr.fq.pos l A?).2.2;let m1:IntMulOk (bx S d-bx S f)<|bx S l-bx S j:=Sz.dJ (m:=4601) (n:=4601) (Sz.sub WI zf)<|Sz.sub Ta WH;let m2:IntMulOk (bx S j-bx S g)<|bx S t-bx S d:=Sz.dJ (m:=4601) (n:=4601) (Sz.sub WH zg)<|Sz.sub Tb WI;let ap:I ax=some (.lst [.int<|bx S f,.int<|bx S d,.int<|bx S t]):=x6;let an:I ay=some (.lst [.int<|bx S g,.int<|bx S j,.int<|bx S l]):=h6;ext;let eb:EJ [f,g] [d,j] [t,l]=(bx S d-bx S f)*(bx S l-bx S j)-(bx S j-bx S g)*(bx S t-bx S d):=by unfold EJ;rw[hS];rfl
 erw[<-eb,k I (Lq.trans<|e5.trans e6)<|eb>>(Sz.sub (Sz.mul (Sz.sub WI zf)<|Sz.sub Ta WH)<|Sz.mul (Sz.sub WH zg)<|Sz.sub Tb WI).mono B!]
theorem gM:aM ["_law_spots_here", "_law_hand", "_law_leasts", "_law_k"] ["_law_spots_here", "_law_hand"]<|aB kj:=by walk_at "n"
theorem vP(D:Def K mg "_law_round" kj ["_law_spots_here", "_law_hand"])(T:Txt K mg Z)(Cv:W! "_law_bend" 1 ["_law_one", "_law_two", "_law_three"] Fi)(S:W! "_law_earlier" 2 ["_law_one", "_law_other"] Fh):W! "_law_round" 3 ["_law_spots_here", "_law_hand"] Bc:=by
 exists D.cE gM,c8,G;let#[a,r,Y,hand,rfl,_]:=h;rfl;let#[a,r,Y,hand,rfl,R,F,n2,ac,hh,qy,qn]:=h;refine#[_,(ai (aC (i:=2) gM.nd rfl A! aj)<|ai (bS zaF rfl (bw rfl T.range<|aa (aE aL C! T.len aU<|aa (pv 0) ah) ah) (aD (i:=3) gM.nd rfl A!)<|ai (bY (aO Uq (ao bG (av Cv G aP<|aa (aF aw (pv 0) (ao cW (pv 3) aj) C?)<|aa (aF aw (pv 0) (ao cW (pv 3) aj) C?)<|aa (aF aw (pv 0) (pv 3) C?) ah)<|pv 1) aj<|aS _) (ak<|aN iS) bh)<|ak<|bY (PW.pt<|pw_and (lU<|av S G aP<|aa (aF aw (pv 0) (ao cW (pv 3) aj) C?)<|aa (aF aw (pv 0) (ao cW (pv 3) aj) C?) ah)<|pw_and1<|lU<|av S G aP<|aa (aF aw (pv 0) (ao cW (pv 3) aj) C?)<|aa (aF aw (pv 0) (pv 3) C?) ah) (ak<|aC (i:=2) gM.nd rfl A!<|ao bI (pv 2) aj) bh)<|ak<|aN<|hX eP (pv 2) aj<|aS _),?_]
 try dsimp only[cN]
 let q:=R.len;let hz:Sz 2 hand:=by ext(rfl|rfl:hh)<;>(unfold Sz;decide)
 ext;refine cP ?_;refine aJ<|jD<|aJ<|eS rfl<|aW #[_,_,rfl,.inl #[_,aI.of R.top,rfl],?_];rw[zaa,q];refine aW #[(Y.c:Int),rfl,(),(),?_];rw[zaB];refine cM (λk y p=>∃M,y=[a.i,hand.j,some<|.int ((((List.range k).filter<|AK Y).c:Nat):Int),M]/\af H p/\∀e,e<k->Ot Y hand e) #[none,rfl,af.refl _,λe h=>()] ?_ ?_;ext k y p N ⟨M,rfl,g,j⟩;simp only[zbB];let l:=R.same g;let j1:bk Y.c k 1<Y.c:=zaI _ ();let j2:bk Y.c k 2<Y.c:=zaI _ ();let#[B,x0,U]:=l.at N;let#[v,x1,L]:=l.at j1;let#[O,x2,z2]:=l.at j2;let X:(r.h).c=Y.c:=zaa>>q
 let i0:jJ r.h (k:Int)=some (V.ref B):=bV (by rw[zao,x0];rfl);let C:jJ r.h ((k:Int)-1)=some (V.ref v):=CZ (d:=1) () () (by rw[X,zao,x1];rfl);let W:jJ r.h ((k:Int)-2)=some (V.ref O):=CZ (d:=2) () () (by rw[X,zao,x2];rfl);let p0:=F _<|jI (d:=[]) N;let I:=F _<|jI (d:=[]) j1;let p2:=F _<|jI (d:=[]) j2;ext;refine aT (aI.of l.top) W ?_;ext;refine aT (aI.of l.top) C ?_;ext;refine aT (aI.of l.top) i0 ?_;ext;refine#[O,v,B,_,_,_,rfl,z2,L,U,p2,I,p0,λH2 b bz=>?_];let mo:IntMulOk (EJ (Y.getD (bk Y.c k 2) []) (Y.getD (bk Y.c k 1) [])<|Y.getD k []) hand:=Sz.dJ (m:=20000) (n:=2) bz hz;ext;refine if2 (λh=>?_)<|λh=>?_;ext;exact qn (λz=>by let:=z.1 k N;unfold Ot at this;lia) H2<|g.trans b;let u:=l.same b;let rb:Ot Y hand k:=by unfold Ot;lia
 let x:∀e,e<k+1->Ot Y hand e:=λe h=>by ext(c:e=k);rw[c];exact rb;exact j e ()
 ext;refine aT (aI.of u.top) C ?_;ext;refine aT (aI.of u.top) W ?_;ext;refine#[v,O,_,_,rfl,L.same b,z2.same b,I,p2,?_];let cnt:((List.range<|k+1).filter<|AK Y).c=((List.range k).filter<|AK Y).c+if AK Y k=true then 1 else 0:=by rw[zcn,zcS,zav];congr 1;ext(c:AK Y k=true);rw[zam c,zcW c];rfl;rw[zaj c,zcX c];rfl
 cases b1:CH (Y.getD (bk Y.c k 1) []) (Y.getD (bk Y.c k 2) [])with
 | false=>
  let t:AK Y k=false:=by unfold AK;rw[b1];rfl
  ext;refine#[_,by rw[cnt,t];rfl,g.trans b,x]
 | true=>
  ext;refine aT (aI.of u.top) C ?_;ext;refine aT (aI.of u.top) i0 ?_;ext;refine#[v,B,_,_,rfl,L.same b,U.same b,I,p0,?_];cases b2:CH (Y.getD (bk Y.c k 1) []) (Y.getD k [])with
  | false=>
   let t:AK Y k=false:=by unfold AK;rw[b1,b2];rfl
   ext;refine#[_,by rw[cnt,t];rfl,g.trans b,x]
  | true=>
   let t:AK Y k=true:=by unfold AK;rw[b1,b2];rfl
   ext;refine#[_,by rw[cnt,t];rfl,g.trans b,x]
 ext y p ⟨M,rfl,g,j⟩;ext;ext(c:((List.range Y.c).filter<|AK Y).c=1);rw[c,zbc<|show((1:Nat):Int)=1 from rfl];exact qy #[j,c] p g;erw[zaZ<|λz=>c (),qn (λz=>c z.2) p g]
theorem fK:aM ["orders", "number", "places"] ["orders"]<|aB iL:=by walk_at "n"
theorem qS(D:Def K mg "looked_tight" iL ["orders"])(T:Txt K mg Z)(I:W! "looked" 2 ["orders"] w9)(X:W! "hangs" 2 ["orders"] Bj)(U:W! "count" 4 ["orders"] Bn)(C:W! "parting" 3 ["orders"] sL):W! "looked_tight" 5 ["orders"] wY:=by
 exists D.cE fK,c8,d;let#[p,b,L,rfl,_]:=h;rfl;let#[p,b,L,rfl,g,tg,j,hd,q]:=h;refine#[_,(ai (cK<|av I d aP<|aa (pv 0) ah)<|ai (bY (y6<|lU<|av X d aP<|aa (pv 0) ah) (ak iR) bh)<|ai (aC (i:=1) fK.nd rfl A!<|av U d aP<|aa (pv 0) ah)<|ai (bY (aO tS (pv 1) aj<|aS _) (ak iR) bh)<|ai (aC (i:=2) fK.nd rfl A!<|av C d aP<|aa (pv 0) ah)<|ai (bY (PW.pt<|pw_and (pL<|JV<|pv 2)<|pw_and1<|aO jg (aE aL C! T.len aU<|aa (pv 0) ah) aj<|aS _) (ak<|aC (i:=2) fK.nd rfl A!<|ky rfl T.range T.list<|aE aL C! T.len aU<|aa (pv 0) ah) bh)<|ak<|bY (pL<|Nf<|pv 2) (ak iR) bh),?_]
 try dsimp only[cN]
 let a:=tg.map;let four:=tg.four;ext;refine#[p,b,L,rfl,g,a,j,λH1 c=>?_];ext;refine#[p,b,L,rfl,g.same c,j,(),a,λv H2 n N t=>?_];let Y:(v.c:Int)=L.c:=by
  let F:=ow (m:=(List.range L.c).map λ(i:Nat)=>(i:Int)) N λx r=>by let#[x0,x1]:=((t x).mp r).rg a #[(),()];exact zaq.mpr #[x.toNat,zaD.mpr (),()]
  let h2:=ow (l:=(List.range L.c).map λ(i:Nat)=>(i:Int)) (m:=v) (by
   erw[zcz,zfo,zeE (λh e=>h<|Int.ofNat.inj e)<|zcw.mp zeS]) λx r=>by
   let#[i,O,rfl]:=zaq.mp r;exact(t _).mpr<|Reach.rex<|tg.cT.i8 i () (by let:=zaD.mp O;lia)
  rw[zaa,zby]at F h2;lia
 rw[zbc Y];ext;refine#[p,b,L,rfl,(g.same c).same n,a,j,hd,λR H3 u W=>?_];let cnt:(L.c:Int)+R.c-(iq L L.c).c+iso L=2:=by let h:=(tg.cT.lands four W.T5).2;let:=tg.cT.NB;lia
 rw[cnt];ext;refine nQ (λh=>absurd rfl h)<|λ_=>?_;ext;let y:=((g.same c).same n).same u;let M:(eV L.c L.c).find? (AA L)=none:=by rw[find?_eq_none];ext S k z;rw[tg.IQ.AA a<|sR L.c S k]at z;cases z
 refine#[p,b,L,rfl,y,a,j,λ_ G B=>?_,λS k=>by rw[M]at k;cases k];ext;refine if2 (λ_=>?_)<|λh=>absurd rfl h;ext;refine#[_,_,rfl,.inl #[_,aI.of (y.same B).top,rfl],?_];rw[zaa,g.len];ext;refine if2 (λh=>())<|λ_=>?_;ext;refine nQ (λh=>absurd rfl h)<|λ_=>?_;ext;exact q G<|c.trans<|n.trans<|u.trans B
theorem nk:aM ["orders", "land", "rings"] ["orders", "land"]<|aB ka:=by walk_at "n"
theorem vJ(D:Def K mg "outer_ring" ka ["orders", "land"])(T:Txt K mg Z)(u:W! "lands" 3 ["orders"] jR)(B:W! "looked_tight" 5 ["orders"] wY):W! "outer_ring" 6 ["orders", "land"] Bf:=by
 exists D.cE nk,M,j;let#[p,c,L,land,rfl,_]:=h;rfl;let#[p,c,L,land,rfl,g,tg,e,l,m,q]:=h;refine#[_,(ai (cK<|av B j aP<|aa (pv 0) ah)<|ai (aC (i:=2) nk.nd rfl A!<|av u j aP<|aa (pv 0) ah)<|ai (bY (PW.pt<|pw_or (aO jg (pv 1) aj<|aS _)<|pw_or1<|aO O4 (pv 1) (aE aL C! T.len aU<|aa (pv 2) ah)<|aS _) (ak iR) bh)<|ak<|aN<|aF aw (pv 2) (pv 1) C?),?_]
 try dsimp only[cN]
 ext;refine#[p,c,L,rfl,g,tg,e,l,λF d=>?_];ext;refine#[p,c,L,rfl,g.same d,tg.map,e,l,λt I R C z a G fr k=>?_];let v:=m R k;let#[b,r,y,x,n]:=a.at v;ext;refine if2 (λh=>())<|λ_=>?_;ext;refine#[_,_,rfl,.inl #[_,aI.of a.top,rfl],?_];rw[zaa,a.len];ext;refine if2 (λh=>())<|λ_=>?_;ext;refine aT (aI.of a.top) (bV<|by rw[zao,y];rfl) ?_;exact q R b r C (d.trans z) k x n
theorem sU:aM ["corners"] ["corners"]<|aB jw:=by walk_at "n"
theorem tV(D:Def K mg "plain_frame" jw ["corners"])(T:Txt K mg Z):W! "plain_frame" 1 ["corners"] Bk:=by
 exists D.cE sU,c8,hr;let#[n,rfl,_]:=h;rfl;let#[n,rfl,hn,q]:=h;refine#[_,(ak<|aN<|bR (tg:=["k"]) (fr:=[]) D! rfl (xq rfl T.range<|aa (ao cW (pv 0) aj)<|aa (je fX aj)<|aa (je fX aj) ah) (λ_ _ _ _ _=>(aD (i:=0) (show [("k":Str)].Nodup by decide +kernel) rfl A!)) (λ_ _ _ _ _=>aY)<|λ_ _ _ _ _=>(cR<|aa (cR<|aa (pv 0)<|aa aj ah)<|aa (cR<|aa (ao bG (pv 0)<|pv 0)<|aa aj ah) ah)),?_];try dsimp only[cN]
 ext;refine bC ?_;refine aJ ?_;refine#[_,rfl,(n:Int),1,rfl,rfl,?_];dsimp only;refine aJ #[1,rfl,aJ #[1,rfl,aW #[(n:Int)-1,-1,rfl,#[(),(),(),()],?_]]];rw[show((n:Int)-1 - -1).toNat=n by lia];ext e F;refine CP (λi b ys c=>∃(v:Option V) (d:cx),b=[v]/\ys=d.h/\af H c/\qz c e d ((List.range i).map<|Gj n))
  #[none,[],rfl,rfl,af.upd F,#[ae,rfl,λj a p z=>by simp at z]] ?_ ?_
 ext i b ys c N ⟨v,d,rfl,rfl,l,k⟩;let R:(n:Int)-1-(i:Int)=((n-1-i:Nat):Int):=();rw[R];let M:=k.len;rw[zaa,zby]at M;let mo:IntMulOk ((n-1-i:Nat):Int) ((n-1-i:Nat):Int):=Sz.dJ (m:=60) (n:=60) (by unfold Sz;exact zaY (show _<=60 by lia) B!) (by unfold Sz;exact zaY (show _<=60 by lia) B!);ext;ext B U;generalize g:upd c B _=S;let#[O,Y]:=qLy U g;ext;ext C L;generalize g:upd S C _=X;let#[x,G]:=qLy L g;ext;ext u W;generalize g:upd X u _=H4;let#[r,I]:=qLy W g;let y:=O.trans<|x.trans r;let t:=k.same y;refine#[t.top,zaa>>aq (),nNN _ _ _ #[_,d++[u],rfl,by rw[zat];rfl,af.fresh (l.trans y) F,?_]];rw[zcn,zat];exact t.snoc #[[B,C],I,.cons ((x.trans r) _ _ Y)<|.cons (r _ _ G) .nil];ext b ys c ⟨v,d,rfl,rfl,l,k⟩;exact q e d c l k
theorem jo:aM ["order", "place", "inner", "row", "other"] ["order", "place", "inner"]<|aB kd:=by walk_at "n"
theorem vK(D:Def K mg "middle_row" kd ["order", "place", "inner"])(T:Txt K mg Z):W! "middle_row" 1 ["order", "place", "inner"] Fe:=by
 exists D.cE jo,c8,hr;let#[a,b,l,g,x,rfl,_]:=h;rfl;let#[a,b,l,g,x,rfl,N,O,hi,hl,q]:=h;refine#[_,(ai (aC (i:=3) jo.nd rfl A!<|bH ah)<|ai (bS zaF rfl (bJ<|pv 2) (aD (i:=4) jo.nd rfl A!)<|ak<|bY (aO eP (pv 4) (pv 1)<|aS _) (ak<|cK<|fS zaN zbj zbk cL (pv 3)<|aa (cR<|aa (aE aL C! T.len aU<|aa (pv 0) ah)<|aa aj ah) ah)<|ak<|bY (aO Hh (pv 4) (pv 0)<|by with_unfolding_all rfl) (ak<|cK<|fS zaN zbj zbk cL (pv 3)<|aa (cR<|aa (je fX aj)<|aa aj ah) ah)<|ak<|cK<|fS zaN zbj zbk cL (pv 3)<|aa (cR<|aa aj<|aa aj ah) ah)<|ak<|aN<|pv 3),?_]
 try dsimp only[cN]
 ext;refine#[zaR _,λt F=>?_];generalize X:upd H t _=H0;let#[M,U]:=qLy F X;ext;refine cP<|dw<|eS rfl #[b,rfl,#[_,aI.of<|M _ _ O],?_];refine fJ (K:=K) (a:=b) (xs:=g.f) (λm C c=>∃v4 n,C=[a.i,x.j,b.i,t.i,v4]/\af H c/\c t=some (.lst n.h)/\PR c n ((g.take m).map<|gE l x)) #[none,[],rfl,M,U,.nil] (by ext m C c _ ⟨_,_,_,e,_⟩;exact aI.of<|e _ _ O) ?_ ?_;ext m z C c Y ⟨v4,n,rfl,v,k,B⟩;let#[y,R,rfl]:=int_at Y;let W:=B.c;let hm:=(zab.mp R).1;rw[zaa,zaL]at W;let S:(g.take<|m+1).map (gE l x)=(g.take m).map (gE l x)++[gE l x y]:=by rw[take_snoc R,zat];rfl
 let r:∀(d:Int×Int) (p:Addr),gE l x y=d->c p=none->∃G L,[some<|V.ref a,some<|V.int x,some<|V.ref b,some<|V.ref t,some<|V.int y]=[some<|V.ref a,some<|V.int x,some<|V.ref b,some<|V.ref t,G]/\af H (upd (upd c p<|.tup [.int d.1,.int d.2]) t<|.lst<|n.h++[.ref p])/\upd (upd c p<|.tup [.int d.1,.int d.2]) t (.lst<|n.h++[.ref p]) t=some (.lst L.h)/\PR (upd (upd c p<|.tup [.int d.1,.int d.2]) t<|.lst<|n.h++[.ref p]) L ((g.take<|m+1).map<|gE l x):=λd p ed j=>by let u:af c<|upd c p<|.tup [.int d.1,.int d.2]:=af.upd j;refine#[_,n++[p],rfl,af.fresh (v.trans u) F,by rw[ae,zat];rfl,?_];erw[S,ed,PR.lst (PR.snoc (B.same u) ae)<|u _ _ k]
 ext;refine if2 (λh=>?_)<|λh=>?_;ext;refine#[.inl #[rfl,_,aI.of k],?_];ext;refine#[_,_,rfl,.inl #[_,aI.of<|v _ _ N,rfl],?_];rw[zaa];ext;ext p j;let u:af c<|upd c p<|.tup [.int (l.c:Int),.int 1]:=af.upd j;refine aW<|cV (u _ _ k) (zaa>>aq ()) ?_;refine nNy (by assumption) ?_;exact r ((l.c:Int),1) p (by unfold gE;rw[zam h]) j;ext;refine MT (aI.of<|v _ _ N) ?_;rw[zaj B!];ext;refine if2 (λI=>?_)<|λI=>?_;ext;refine#[.inl #[rfl,_,aI.of k],?_];ext;ext p j;let u:af c<|upd c p<|.tup [.int<|-1,.int 1]:=af.upd j;refine aW<|cV (u _ _ k) (zaa>>aq ()) ?_;refine nNy (by assumption) ?_;exact r (-1,1) p (by unfold gE;rw[zaj h,zam I]) j;ext;refine#[.inl #[rfl,_,aI.of k],?_];ext;ext p j;refine aW<|cV ((af.upd j) _ _ k) (zaa>>aq ()) ?_;refine nNy (by assumption) ?_;exact r (0,1) p (by unfold gE;rw[zaj h,zaj I]) j;ext C c ⟨v4,n,rfl,v,k,B⟩;rw[zaa,zbg]at B;ext;exact q t n c v F k B
theorem jq:aM ["orders", "ring", "frame", "across", "up"] ["orders", "ring", "frame"]<|aB kg:=by walk_at "n"
theorem vM(D:Def K mg "by_middles" kg ["orders", "ring", "frame"])(T:Txt K mg Z)(xH:W! "middles" 5 ["orders", "fixed"] sN):W! "by_middles" 6 ["orders", "ring", "frame"] Bp:=by
 exists D.cE jq,c8,hr;let#[p,ra,fa,as,U,L,r,Y,rfl,_]:=h;rfl;let#[p,ra,fa,as,U,L,r,Y,rfl,g,im,i8,l8,NH,B,ry,Fp,WT,LY,hy,q]:=h;refine#[_,(ai (aC (i:=3) jq.nd rfl A!<|av xH hr aP<|aa (pv 0)<|aa (nO rfl T.zip T.dict<|aa (pv 1)<|aa (bR (tg:=["spot"]) (fr:=[]) D! rfl (bJ<|pv 2) (λ_ _ _ _ _=>(aD (i:=0) (show [("spot":Str)].Nodup by decide +kernel) rfl A!)) (λ_ _ _ _ _=>aY)<|λ_ _ _ _ _=>(aF (fN (K:=K) rfl) (pv 0) aj C?)) ah) ah)<|ai (aC (i:=4) jq.nd rfl A!<|av xH hr aP<|aa (pv 0)<|aa (nO rfl T.zip T.dict<|aa (pv 1)<|aa (bR (tg:=["spot"]) (fr:=[]) D! rfl (bJ<|pv 2) (λ_ _ _ _ _=>(aD (i:=0) (show [("spot":Str)].Nodup by decide +kernel) rfl A!)) (λ_ _ _ _ _=>aY)<|λ_ _ _ _ _=>(aF (fN (K:=K) rfl) (pv 0) aj C?)) ah) ah)<|ak<|aN<|tP rfl T.zip T.list<|aa (pv 3)<|aa (pv 4) ah),?_]
 try dsimp only[cN]
 let a0:=zaX (ow (m:=(List.range L.c).map λ(i:Nat)=>(i:Int)) Fp λx F=>by let:=LY x F;exact zaq.mpr #[x.toNat,zaD.mpr (),()]) (zaa>>zby>>l8);ext;refine pK ?_;ext;refine bC ?_;refine dw<|eS rfl #[fa,rfl,#[_,aI.of B.top],λad Vr=>?_];refine bD (K:=K) (a:=fa) (xs:=U.h) (λm b ys c=>∃(v:Option V) (n:cx),b=[v]/\ys=n.h/\af H c/\c ad=some (.lst n.h)/\PR c n ((Y.take m).map k5))
  #[none,[],rfl,rfl,af.upd Vr,ae,.nil] (by ext m b ys c _ ⟨_,_,_,_,e,_⟩;exact aI.of<|((af.refl H).trans e) _ _ B.top) ?_ ?_
 ext m x b ys c F G ⟨v,n,rfl,rfl,u,C,k⟩;rw[zaa]at G;let S:m<Y.c:=by erw[<-B.len,G]
 let hb:=zac G;let O:=zac S;let ex:x=V.ref U[m]:=by rw[zao,hb]at F;exact(zas F).symm
 subst ex;let#[b0,b1,f,I,ep,t1,t2,t3]:=((B.same<|(af.refl H).trans u).row m _ _ hb O).two (hy _<|zbo S).1;let pl:=k.c;rw[zaa,zaL]at pl;ext;refine#[C,zaa>>aq (),nNN _ _ _ #[_,n++[b0],rfl,by rw[zat];rfl,af.fresh u Vr,by rw[ae,zat];rfl,?_]];rw[take_snoc O,zat];refine PR.lst (PR.snoc k ?_) C;rw[ep];exact t2;ext b ys c ⟨v,QD,rfl,rfl,u,C,k⟩;rw[zaa,B.len,zbg]at k;let ql:=k.c;rw[zaa]at ql;let N:=(af.refl H).trans u;let R:r.c=QD.c:=();ext;refine#[ra,ad,pX r QD,rfl,aI.of (iU R>>N _ _ NH),aI.of (l9 R>>C),by let:=zaC List.length<|iU R;rw[zaa,zaa]at this;lia,λd0 ZD=>?_];rw[jc (zdA>>KO R Fp),zdA];generalize qq:upd c d0 _=H2;let#[M,h2]:=qLy ZD qq;let ac:=N.trans M;ext;refine#[p,d0,as,L,r,QD,Y.map k5,rfl,g.same ac,im,i8,l8,h2,k.same M,R,Fp,WT,LY,λf d=>?_,λt0 a1 W H3 e3 _ ax Um a2 an=>?_];let#[z,hz,rfl]:=zaq.mp d;let#[z1,z2]:=hy z hz
 match z,z1 with
 | [f,I],_=>exact z2 _ (by show k5 [f,I]∈[f,I];simp[k5])
 let XU:=ac.trans e3;ext;refine pK ?_;ext;refine bC ?_;refine dw<|eS rfl #[fa,rfl,#[_,aI.of<|(XU) _ _ B.top],λag Vq=>?_];refine bD (K:=K) (a:=fa) (xs:=U.h) (λm b ys c=>∃(v:Option V) (n:cx),b=[v]/\ys=n.h/\af H3 c/\c ag=some (.lst n.h)/\PR c n ((Y.take m).map mW))
  #[none,[],rfl,rfl,af.upd Vq,ae,.nil] (by ext m b ys c _ ⟨_,_,_,_,e,_⟩;exact aI.of<|(XU.trans e) _ _ B.top) ?_ ?_
 ext m x b ys c F G ⟨v,n,rfl,rfl,u,C,k⟩;rw[zaa]at G;let S:m<Y.c:=by erw[<-B.len,G]
 let hb:=zac G;let O:=zac S;let ex:x=V.ref U[m]:=by rw[zao,hb]at F;exact(zas F).symm
 subst ex;let#[b0,b1,f,I,ep,t1,t2,t3]:=((B.same<|XU.trans u).row m _ _ hb O).two (hy _<|zbo S).1;let pl:=k.c;rw[zaa,zaL]at pl;ext;refine#[C,zaa>>aq (),nNN _ _ _ #[_,n++[b1],rfl,by rw[zat];rfl,af.fresh u Vq,by rw[ae,zat];rfl,?_]];rw[take_snoc O,zat];refine PR.lst (PR.snoc k ?_) C;rw[ep];exact t3;ext b ys c ⟨v,QC,rfl,rfl,u,C,k⟩;rw[zaa,B.len,zbg]at k;let ql:=k.c;rw[zaa]at ql;let WD:=XU.trans u;let T3:r.c=QC.c:=();ext;refine#[ra,ag,pX r QC,rfl,aI.of (iU T3>>WD _ _ NH),aI.of (l9 T3>>C),by let:=zaC List.length<|iU T3;rw[zaa,zaa]at this;lia,λd1 SI=>?_];rw[jc (zdA>>KO T3 Fp),zdA];generalize qq:upd c d1 _=H2;let#[M,h2]:=qLy SI qq;let WC:=WD.trans M;ext;refine#[p,d1,as,L,r,QC,Y.map mW,rfl,g.same WC,im,i8,l8,h2,k.same M,T3,Fp,WT,LY,λf d=>?_,λt1 aX Th H3 e3 _ Y9 Ul aZ am=>?_];let#[z,hz,rfl]:=zaq.mp d;let#[z1,z2]:=hy z hz
 match z,z1 with
 | [f,I],_=>exact z2 _ (by show mW [f,I]∈[f,I];simp[mW])
 let X:=WC.trans e3;let SS:=u.trans<|M.trans e3;let pl0:=Um.c;let ay:=Ul.c;let e:∀j (t:j<L.c),W[j]?=some (W.getD j (0,1))/\Th[j]?=some (Th.getD j (0,1)):=λj t=>zah>>zah>>zac ()>>zac ()>>#[rfl,rfl]
 ext;refine#[_,rfl,_,rfl,t0,t1,_,_,rfl,aI.of<|SS _ _ ax,aI.of Y9,by rw[zaa,zaa];lia,λl cs H4 e4 ar hl cl each=>?_];rw[zaa]at cl;refine q l cs ((List.range L.c).map λj=>[W.getD j (0,1),Th.getD j (0,1)]) H4 (X.trans e4) (X.free ar) #[hl,by rw[zaa,zby];lia,λj a pp ha hp=>?_] (by rw[zaa,zby]) λz hz=>?_;let t:j<L.c:=by let:=(zab.mp ha).1;lia
 rw[zao,getElem?_range t]at hp;cases hp;let#[_,_,x,y,F,au,h4]:=each j a ha;let#[c0,Xn,rfl]:=jC F;let#[c1,xG,rfl]:=jC au;let#[f0,al,k0]:=Um.at Xn;let#[f1,ap,k1]:=Ul.at xG;let x0:=(e j t).1;let x1:=(e j t).2;rw[al]at x0;rw[ap]at x1;show k7 H4 a [W.getD j (0,1),Th.getD j (0,1)];rw[<-zas x0,<-zas x1];exact#[[c0,c1],h4,.cons (e4 _ _<|SS _ _ k0)<|.cons (e4 _ _ k1) .nil];let#[j,t,rfl]:=zaq.mp hz;let t:=zaD.mp t;let all:∀f∈[W.getD j (0,1),Th.getD j (0,1)],Dt.Lw f/\Sz 300 f.1/\Sz 300 f.2:=λf d=>by simp only[zbp,zaV,zbs]at d;ext(rfl|rfl:d);exact an _<|zag (e j t).1;exact am _<|zag (e j t).2
 exact#[rfl,#[λf d=>(all f d).1.1,λf d=>(all f d).2.1.mono B!,λf d=>(all f d).2.2.mono B!],λf d=>(all f d).1]
theorem yR(tg:eA L)(a:dU L R)(h:r∈R):r.Nodup:=by refine tg.rF.ring (a.good r h) ?_;let:=a.nd;rw[zcz]at this ⊢;exact(zdH.mp this).1 r h
theorem Bs:aM ["orders", "land", "frame", "ring"] ["orders", "land", "frame"]<|aB yN:=by walk_at "n"
theorem Kk(D:OE K mg "drawn" yN ["orders", "land", "frame"])(T:Txt K mg Z)(zO:W! "outer_ring" 6 ["orders", "land"] Bf)(Y:W! "plain_frame" 1 ["corners"] Bk)(zQ:W! "by_middles" 6 ["orders", "ring", "frame"] Bp):Ox P w K mg base (bO P w) "drawn" 7 ["orders", "land", "frame"] Bm:=by
 exists D.cE Bs,c8,v;let#[p,y,L,land,rfl,_]:=h;rfl;let#[p,y,L,land,rfl,g,tg,S,hd,X,q]:=h;refine#[_,(ai (aC (i:=3) Bs.nd rfl A!<|av zO v aP<|aa (pv 0)<|aa (pv 1) ah)<|JO<|bY (pL<|JV<|pv 2) (ak<|aN<|av zQ v aP<|aa (pv 0)<|aa (pv 3)<|aa (av Y v aP<|aa (aE aL C! T.len aU<|aa (pv 3) ah) ah) ah) bh),?_]
 try dsimp only[cN]
 ext;refine#[p,y,L,land,rfl,g,tg,(),hd,X,λR b r H1 u W C U=>?_];let N:=zag C;let G:=yR tg W N;let M:=W.good r N;ext;refine Qu ?_;ext;rw[zam B!];ext;refine#[_,_,rfl,.inl #[_,aI.of U,rfl],?_];rw[zaa];let a:∀x∈r,0<=x/\x<L.c:=λx B=>by
  let#[j,l,e]:=zaH.mp B;let d:=M.dt j;let O:cy r j=x:=by rw[fB l,e]
  exact#[by erw[<-O,d.lo],by erw[<-O,d.hi]]
 let ac:=zaX (ow (m:=(List.range L.c).map λ(i:Nat)=>(i:Int)) G λx B=>by let:=a x B;exact zaq.mpr #[x.toNat,zaD.mpr (),()]) (zaa>>zby>>S);ext;refine#[r.c,rfl,(),λfa fs H2 n vA=>?_];ext;refine#[p,b,fa,y,fs,L,r,_,rfl,g.same<|u.trans n,tg.map,tg.cT.i8,S,n _ _ U,vA,by rw[zaa,zby],G,λz=>by let:=M.two;rw[z]at this;simp at this,a,λz hz=>?_,λt cs Z H3 e3 ft s3 zl zp=>q t cs Z H3 ((u.trans n).trans e3) ((u.trans n).free ft) s3 zl zp];let#[j,l,rfl]:=zaq.mp hz;let l:=zaD.mp l;refine#[rfl,λf c=>?_];let F:r.c-1-j<=8:=();unfold Gj at c;generalize r.c-1-j=k at c F;simp[zbp,zaV,zbs]at c;ext(rfl|rfl:c);exact#[rfl,by show(0:Int)<=_;lia,()];let I:=Int.ofNat_le.mpr<|zbE F F;rw[Int.natCast_mul]at I;exact#[rfl,Int.mul_nonneg (Int.natCast_nonneg _)<|Int.natCast_nonneg _,Int.le_trans I<|show((8*8:Nat):Int)<=4096 by decide]
theorem Bu:aM ["_law_number"] ["_law_number"]<|aB nM:=by walk_at "n"
theorem BP(D:Def K mg "_law_net" nM ["_law_number"])(T:Txt K mg Z):W! "_law_net" 1 ["_law_number"] Jb:=by
 exists D.cE Bu,x,y;let#[n,rfl,_]:=h;rfl;let#[n,rfl,q]:=h;refine#[_,(ak<|aN<|cR<|aa (cR<|aa (ao bE (pv 0) aj)<|aa (ao bI aj<|ao bE (ao dF (pv 0) aj) aj) ah)<|aa (cR<|aa (ao bE (ao dF (pv 0) aj) aj)<|aa (ao bI aj<|ao bE (ao dF (pv 0) aj) aj) ah) ah),?_];try dsimp only[cN]
 ext;ext e m;generalize a:upd H e _=k;let#[i,v]:=qLy m a;ext;ext g u;generalize a:upd k g _=t;let#[d,j]:=qLy u a;ext;ext c r;generalize a:upd t c _=p;let#[b,l]:=qLy r a;exact q c p (i.trans<|d.trans b) #[[e,g],l,.cons ((d.trans b) _ _ v)<|.cons (b _ _ j) .nil]
theorem f6:aM ["_law_spot", "_law_found", "_law_top", "_law_bottom"] ["_law_spot"]<|aB jA:=by walk_at "n"
theorem tZ(D:Def K mg "_law_lowest" jA ["_law_spot"])(T:Txt K mg Z):W! "_law_lowest" 1 ["_law_spot"] w6:=by
 exists D.cE f6,c8,hr;let#[a,p,rfl,_]:=h;rfl;let#[a,p,rfl,sp,pl,q]:=h;refine#[_,(ai (aC (i:=1) f6.nd rfl A!<|bH ah)<|ai (bS zaF rfl (DW<|pv 0) (jF (n:=2) rfl<|bo (aD (i:=2) f6.nd rfl A!)<|bo (aD (i:=3) f6.nd rfl A!) dY)<|ak<|bY (PW.pt<|pw_and (aO eP (pv 3) aj<|aS _)<|pw_and1<|aO eP (ao bE (pv 2) aj) aj<|aS _) (ak<|cK<|fS zaN zbj zbk cL (pv 1)<|aa (cR<|aa (ao dF (pv 2) aj)<|aa aj ah) ah)<|ak<|cK<|fS zaN zbj zbk cL (pv 1)<|aa (cR<|aa (pv 2)<|aa (pv 3) ah) ah)<|ak<|aN<|cR<|aa (aF aw (pv 1) aj C?)<|aa (aF aw (pv 1) aj C?) ah),?_]
 try dsimp only[cN]
 let#[L,b1,f0,C,rfl,t1,t2,t3]:=sp.two pl;ext;refine#[zaR _,λt U=>?_];generalize qq:upd H t _=H0;let#[X,h0]:=qLy U qq;ext;let I:PR H [L,b1] [f0,C]:=.cons t2<|.cons t3 .nil;refine cP<|Qv<|eS rfl #[a,rfl,.inr #[#[_,SqT.of<|X _ _ t1],?_]];refine Gk (K:=K) (a:=a) (xs:=[.ref L,.ref b1]) (λm F b=>∃O N r,F=[a.i,t.i,O,N]/\af H b/\b t=some (.lst r.h)/\PR b r (([f0,C].take m).map mY)) #[none,none,[],rfl,X,h0,.nil] (by ext m F b _ ⟨_,_,_,_,e,_⟩;exact SqT.of<|e _ _ t1) ?_ ?_;ext m z F b hz ⟨O,N,r,rfl,B,x,v⟩;let#[c,hc,rfl]:=jC (l:=[L,b1]) hz;let#[g,SG,HE]:=I.at hc;let G:=v.c;let hm:=(zab.mp SG).1;rw[zaa,zaL]at G;let tk:([f0,C].take<|m+1).map mY=([f0,C].take m).map mY++[mY g]:=by rw[take_snoc SG,zat];rfl
 let y:∀(d:Int×Int) (p:Addr),mY g=d->b p=none->∃M S W,[some<|V.ref a,some<|V.ref t,some<|V.int g.1,some<|V.int g.2]=[some<|V.ref a,some<|V.ref t,M,S]/\af H (upd (upd b p<|.tup [.int d.1,.int d.2]) t<|.lst<|r.h++[.ref p])/\upd (upd b p<|.tup [.int d.1,.int d.2]) t (.lst<|r.h++[.ref p]) t=some (.lst W.h)/\PR (upd (upd b p<|.tup [.int d.1,.int d.2]) t<|.lst<|r.h++[.ref p]) W (([f0,C].take<|m+1).map mY):=λd p ed k=>by let j:af b<|upd b p<|.tup [.int d.1,.int d.2]:=af.upd k;refine#[_,_,r++[p],rfl,af.fresh (B.trans j) U,by rw[ae,zat];rfl,?_];erw[tk,ed,PR.lst (PR.snoc (v.same j) ae)<|j _ _ x]
 refine inF λ_ _=>?_;refine fD (SqT.of<|B _ _ HE) rfl ?_;let UC:¬(g.2=2/\g.1%2=0)->mY g=(g.1,g.2):=λz=>by unfold mY;rw[zaj z]
 ext;refine if2 (λh=>?_)<|λh=>?_;ext;refine if2 (λR=>?_)<|λR=>?_;ext;refine#[.inl #[rfl,_,aI.of x],?_];ext;ext p k;let j:af b<|upd b p<|.tup [.int<|g.1 / 2,.int 1]:=af.upd k;refine aW<|cV (j _ _ x) (zaa>>aq ()) ?_;refine nNy (by assumption) ?_;exact y (g.1 / 2,1) p (by unfold mY;rw[zam #[h,R]]) k;ext;refine#[.inl #[rfl,_,aI.of x],?_];ext;ext p k;let j:af b<|upd b p<|.tup [.int g.1,.int g.2]:=af.upd k;refine aW<|cV (j _ _ x) (zaa>>aq ()) ?_;refine nNy (by assumption) ?_;exact y (g.1,g.2) p (UC λz=>R z.2) k;ext;refine#[.inl #[rfl,_,aI.of x],?_];ext;ext p k;let j:af b<|upd b p<|.tup [.int g.1,.int g.2]:=af.upd k;refine aW<|cV (j _ _ x) (zaa>>aq ()) ?_;refine nNy (by assumption) ?_;exact y (g.1,g.2) p (UC λz=>h z.1) k;ext F b ⟨O,N,r,rfl,B,x,v⟩;let ac:=v.c;cases v with
 | @cons Y _ r _ x1 v=>
  cases v with
  | @cons c1 _ r _ x2 v=>
   cases v;ext;ext u hu;let j:af b<|upd b u<|.tup [.ref Y,.ref c1]:=af.upd hu;exact q u _ (B.trans j) (B.free hu) #[[Y,c1],ae,.cons (j _ _ x1)<|.cons (j _ _ x2) .nil]
theorem jr:aM ["_law_orders_here", "_law_land", "_law_head", "_law_found", "_law_at"] ["_law_orders_here", "_law_land", "_law_head"]<|aB ki:=by walk_at "n"
theorem vO(D:Def K mg "_law_spots" ki ["_law_orders_here", "_law_land", "_law_head"])(T:Txt K mg Z)(uQ:W! "_law_net" 1 ["_law_number"] Jb)(nG:W! "_law_lowest" 1 ["_law_spot"] w6)(NX:Ox P w K mg base (bO P w) "drawn" 7 ["orders", "land", "frame"] Bm):W! "_law_spots" 8 ["_law_orders_here", "_law_land", "_law_head"] A8:=by
 exists D.cE jr,c8,G;let#[p,S,as,L,land,h0,y,l,rfl,_]:=h;rfl;let#[p,S,as,L,land,h0,y,l,rfl,g,l8,l0,hh,n0,n1,n2,z0,z1,z2,tg,q]:=h;refine#[_,(ai (bY (aO eP (ao bE (aF aw (pv 2) aj C?) aj) aj<|aS _) (ak<|aN<|bR (tg:=["_law_k"]) (fr:=[("_law_head",2)]) D! rfl (bw rfl T.range<|aa (aE aL C! T.len aU<|aa (pv 0) ah) ah) (λ_ _ _ _ _=>(aD (i:=0) (show [("_law_k":Str),("_law_head":Str)].Nodup by decide +kernel) rfl A!)) (λ_ _ _ _ _=>aY)<|λ_ _ _ _ _=>(av nG G aP<|aa (av uQ G aP<|aa (ao bI (ao dF (aF (dO (K:=K) rfl) (pv 1) aj C?) aj)<|ao bG (ao bG (aF (dO (K:=K) rfl) (pv 1) aj C?)<|ao bI (pv 0) aj) aj) ah) ah)) bh)<|ai (aC (i:=3) jr.nd rfl A!<|Hd NX G aP<|aa (pv 0)<|aa (pv 1) ah)<|ai (bY (aO eP (ao bE (aF aw (pv 2) aj C?) aj) aj<|aS _) (ai (aC (i:=4) jr.nd rfl A!<|ao bE (aF aw (pv 2) aj C?)<|aE aL C! T.len aU<|aa (pv 3) ah)<|ak<|tI (aF aw (bH<|aa (aF aw (pv 3) (ao bE (aF aw (pv 2) aj C?)<|aE aL C! T.len aU<|aa (pv 3) ah) C?)<|aa (av nG G aP<|aa (av uQ G aP<|aa (aF aw (pv 2) aj C?) ah) ah) ah) (ao bE (ao dF (aF aw (pv 2) aj C?) aj) aj) C?)<|zd (pv 3) (pv 4) set_list) bh)<|ak<|aN<|pv 3),?_]
 try dsimp only[cN]
 ext;refine if2 (λh=>?_)<|λh=>?_;ext;refine bC ?_;refine aJ<|jD<|aJ<|eS rfl<|aW #[_,_,rfl,.inl #[_,aI.of g.top,rfl],?_];rw[zaa,g.len];refine aW #[(L.c:Int),rfl,(),(),?_];rw[zaB];ext B aX;refine cX (λj x ys u=>∃(v:Option V) (cs:cx) (Z:List<|List<|Int×Int),x=[v,S.i]/\ys=cs.h/\af H u/\qz u B cs Z/\Z.c=j/\∀q∈Z,P2 q)
  #[none,[],[],rfl,rfl,af.upd aX,#[ae,rfl,λj a p z=>by simp at z],rfl,by simp] ?_ ?_
 ext j x ys u hj ⟨v,cs,Z,rfl,rfl,d,b,e,r⟩;simp only[zbB];let C:=d _ _ hh;let cl:=b.len;let m1:IntMulOk l<|(j:Int)+1:=Sz.dJ (m:=200) (n:=10) z2 (by unfold Sz;exact zaY (show _<=10 by lia) B!);let m2:IntMulOk (l*((j:Int)+1)) 48271:=Sz.dJ (m:=210) (n:=20) (Sz.mul z2 (n:=10)<|by unfold Sz;exact zaY (show _<=10 by lia) B!) (by unfold Sz;decide);ext;refine#[_,rfl,λt H2 e2 Y=>?_];ext;refine#[t,_,rfl,Y,rfl,λt H3 e3 R s3=>?_];let I:=e2.trans e3;let F:=b.same I;refine#[F.top,zaa>>aq (),nNN _ _ _ #[_,cs++[t],Z++[_],rfl,by rw[zat];rfl,af.fresh (d.trans I) aX,F.snoc s3,by rw[zav,e];rfl,λq hq=>?_]];ext(z|z:zal.mp hq);exact r q z;rw[zai.mp z];exact Kx _;ext x ys u ⟨v,cs,Z,rfl,rfl,d,b,e,r⟩;ext;exact q B cs Z u d aX b e r;let#[t1,t2,t3]:=tg h;ext;refine#[_,rfl,_,rfl,p,as,L,land,rfl,g,t1,l8,t2,t3,λt cs Z u d R b e r=>?_];let cl:=b.len;let C:=d _ _ hh;ext;refine if2 (λh=>?_)<|λh=>?_;ext;refine#[_,_,rfl,.inl #[_,aI.of b.top,rfl],?_];rw[zaa,cl,e];let lp:(0:Int)<(L.c:Int):=();let i1:∃k:Nat,y%(L.c:Int)=(k:Int)/\k<L.c:=#[(y%(L.c:Int)).toNat,by let:=zbh y<|zfp lp;lia,by let:=zbh y<|zfp lp;let:=zbe y lp;lia];let i2:∃k:Nat,l%(L.c:Int)=(k:Int)/\k<L.c:=#[(l%(L.c:Int)).toNat,by let:=zbh l<|zfp lp;lia,by let:=zbh l<|zfp lp;let:=zbe l lp;lia];let#[M,W,al]:=i1;let#[k2,X,am]:=i2;let#[a2,HG,ac]:=b.at (i:=k2) ();ext;rw[W];refine#[_,_,rfl,.inl #[_,aI.of b.top,rfl],?_];rw[zaa,cl,e];ext;rw[X];refine aT (aI.of b.top) (bV (j:=k2)<|by rw[zao,HG];rfl) ?_;ext;refine#[_,rfl,λtn H2 e2 Y=>?_];ext;refine#[tn,_,rfl,Y,rfl,λtl H3 e3 fl s3=>?_];let I:=e2.trans e3;let ad:=I _ _ C;ext;ext tp ag;generalize qq:upd H3 tp _=H4;let#[e4,h4]:=qLy ag qq;let an:=e4 _ _ ad;let AJ:=I.trans e4;let U:=b.same AJ;let N:∀(a:Addr) (pp:List<|Int×Int),k7 H4 a pp->P2 pp->Q (.ref t) (upd H4 t<|.lst<|(cs.h).set M<|.ref a):=λa pp S hp=>by refine q t _ _ _ (af.fresh (d.trans AJ) R) R (U.set () S) (by rw[zcq,e]) λz hz=>?_;ext(w|w:zdR hz);exact r z w;erw[w,hp]
 let O:F8 (cs.h).c (M:Int)=some M:=by rw[zI () (by rw[zaa];lia),zaB]
 let c2:h0 / 3%2=0\/h0 / 3%2=1:=();ext;ext(c|c:c2);rw[c];refine aT (aI.of h4) (v:=.ref a2) rfl ?_;refine tE ?_;ext;refine#[t,_,_,M,rfl,rfl,U.top,O,?_];ext;exact N a2 _ (ac.same AJ)<|r _<|jI ();rw[c];refine aT (aI.of h4) (v:=.ref tl) rfl ?_;refine tE ?_;ext;refine#[t,_,_,M,rfl,rfl,U.top,O,?_];ext;exact N tl _ (s3.same e4)<|Kx _;ext;exact q t cs Z u d R b e r
theorem eG:aM ["_law_orders_here", "_law_ring", "_law_star", "_law_middle", "_law_land"] []<|aB kh:=by walk_at "n"
theorem vN(D:Def K mg "_law_stars" kh [])(T:Txt K mg Z)(ie:W! "lands" 3 ["orders"] jR)(se:W! "right" 5 ["orders", "land", "spots"] sI):W! "_law_stars" 6 [] A7:=by
 exists D.cE eG,c8,hr;let#[rfl,_]:=h;rfl;let#[rfl,q]:=h;refine To ?_;refine#[_,(rB (yj (i:=0) eG.nd rfl A!<|j4<|jN (j4<|aR bB<|aR bB<|aR bB cD)<|jN (j4<|aR bB<|aR bB<|aR bB cD)<|jN (j4<|aR bB<|aR bB<|aR bB cD)<|jN (j4<|aR bB<|aR bB<|aR bB cD)<|jN (j4<|aR bB<|aR bB<|aR bB cD)<|jN (j4<|aR bB<|aR bB<|aR bB<|aR bB<|aR bB cD) cD)<|rB (yj (i:=1) eG.nd rfl A!<|j4<|cG (eL<|cG (eL<|aR bB<|aR bB cD)<|cG (eL<|aR bB<|aR bB cD) cD)<|cG (eL<|cG (eL<|nZ (WE.mk<|je fX aj)<|aR bB cD)<|cG (eL<|aR bB<|aR bB cD) cD)<|cG (eL<|cG (eL<|nZ (WE.mk<|je fX aj)<|aR bB cD)<|cG (eL<|nZ (WE.mk<|je fX aj)<|aR bB cD) cD)<|cG (eL<|cG (eL<|aR bB<|aR bB cD)<|cG (eL<|nZ (WE.mk<|je fX aj)<|aR bB cD) cD)<|cG (eL<|cG (eL<|aR bB<|aR bB cD)<|cG (eL<|aR bB<|aR bB cD) cD) cD)<|rB (yj (i:=2) eG.nd rfl A!<|j4<|lj (WE.mk<|aF aw (pv 1) aj C?)<|lj (WE.mk<|aF aw (pv 1) aj C?)<|lj (WE.mk<|aF aw (pv 1) aj C?)<|lj (WE.mk<|aF aw (pv 1) aj C?)<|lj (WE.mk<|aF aw (pv 1) aj C?) cD)<|rB (yj (i:=3) eG.nd rfl A!<|eL<|cG (eL<|aR bB<|aR bB cD)<|cG (eL<|aR bB<|aR bB cD) cD)<|WZ.mk<|ai (aC (i:=4) eG.nd rfl A!<|fS zaN PySem.F.slot_list_index PySem.F.type_list_index BS (bR (tg:=["_law_row"]) (fr:=[]) D! rfl (bJ<|av ie hr aP<|gV (pv 0) ah) (λ_ _ _ _ _=>(aD (i:=0) (show [("_law_row":Str)].Nodup by decide +kernel) rfl A!)) (λ_ _ _ _ _=>aY)<|λ_ _ _ _ _=>(aE (qv (K:=K) rfl) C! T.len aU<|gV (pv 0) ah))<|BK aj ah)<|ak<|aN<|tQ (av se hr aP<|gV (pv 0)<|gV (pv 4)<|aa (ao dG (pv 1)<|bH<|gV (pv 3) ah) ah)<|zh<|QH<|av se hr aP<|gV (pv 0)<|gV (pv 4)<|aa (ao dG (pv 2)<|bH<|gV (pv 3) ah) ah),?_]
 try dsimp only[cN]
 ext;exists 0,p1,AF
 generalize c:upd H p1 _=H1;let#[e1,h1]:=qLy AF c;ext;exists 0,p2,AE
 generalize c:upd H1 p2 _=H2;let#[e2,h2]:=qLy AE c;ext;exists 0,p3,KY
 generalize c:upd H2 p3 _=H3;let#[e3,h3]:=qLy KY c;ext;exists 0,p4,B
 generalize c:upd H3 p4 _=H4;let#[e4,h4]:=qLy B c;ext;exists 0,p5,Xg
 generalize c:upd H4 p5 _=H5;let#[e5,h5]:=qLy Xg c;ext;exists 0,p6,Xf
 generalize c:upd H5 p6 _=H6;let#[e6,h6]:=qLy Xf c;ext;exists 0,z,O
 generalize c:upd H6 z _=H7;let#[e7,h7]:=qLy O c;ext;exists 0,p8,al
 generalize c:upd H7 p8 _=H8;let#[e8,h8]:=qLy al c;ext;exists 0,p9,S
 generalize c:upd H8 p9 _=H9;let#[e9,h9]:=qLy S c;ext;exists 0,n,Vj
 generalize c:upd H9 n _=yh;let#[qj,Pr]:=qLy Vj c;ext;exists 0,Hg,Vi
 generalize c:upd yh Hg _=vt;let#[IA,a4]:=qLy Vi c;ext;exists 0,Ma,Vh
 generalize c:upd vt Ma _=Ax;let#[vo,Xs]:=qLy Vh c;ext;exists 0,r,Vg
 generalize c:upd Ax r _=S2;let#[Lo,VH]:=qLy Vg c;ext;exists 0,L9,Vf
 generalize c:upd S2 L9 _=Mq;let#[AJ,b0]:=qLy Vf c;ext;exists 0,L8,Ve
 generalize c:upd Mq L8 _=S1;let#[RM,SQ]:=qLy Ve c;ext;exists 0,u,Vd
 generalize c:upd S1 u _=XT;let#[VX,bz]:=qLy Vd c;ext;exists 0,L7,Vc
 generalize c:upd XT L7 _=XS;let#[bn,be]:=qLy Vc c;ext;exists 0,L6,Vb
 generalize c:upd XS L6 _=XR;let#[b1,bp]:=qLy Vb c;ext;exists 0,p,Va
 generalize c:upd XR p _=XQ;let#[br,a8]:=qLy Va c;ext;exists 0,L5,U9
 generalize c:upd XQ L5 _=XO;let#[bf,bl]:=qLy U9 c;ext;exists 0,L4,U8
 generalize c:upd XO L4 _=XN;let#[b5,b3]:=qLy U8 c;ext;exists 0,m,U7
 generalize c:upd XN m _=XM;let#[b4,bd]:=qLy U7 c;ext;exists 0,Su,U6
 generalize c:upd XM Su _=XJ;let#[Ln,ba]:=qLy U6 c;ext;exists 0,Ss,U5
 generalize c:upd XJ Ss _=XI;let#[SU,bb]:=qLy U5 c;ext;exists 0,L3,U4
 generalize c:upd XI L3 _=XH;let#[bg,bq]:=qLy U4 c;ext;exists 0,L1,U3
 generalize c:upd XH L1 _=XG;let#[VW,a9]:=qLy U3 c;ext;exists 0,g,U2
 generalize c:upd XG g _=d;let#[bL,bm]:=qLy U2 c;let U:af d d:=af.refl _;let ar:=bL.trans U;let au:=VW.trans ar;let G:=bg.trans au;let a2:=SU.trans G;let W:=Ln.trans a2;let X:=b4.trans W;let ax:=b5.trans X;let an:=bf.trans ax;let M:=br.trans an;let L:=b1.trans M;let ag:=bn.trans L;let I:=VX.trans ag;let am:=RM.trans I;let ad:=AJ.trans am;let WC:=Lo.trans ad;let WD:=vo.trans WC;let ay:=IA.trans WD;let E9:=qj.trans ay;let E8:=e9.trans E9;let E7:=e8.trans E8;let E6:=e7.trans E7;let E5:=e6.trans E6;let E4:=e5.trans E5;let E3:=e4.trans E4;let E2:=e3.trans E3;let E1:=e2.trans E2;let gd:aQ d z [p1,p2,p3,p4,p5,p6] L0:=#[E7 _ _ h7,rfl,λi a l k v=>by
  match i with
  | 0=>cases k;cases v;exact E1 _ _ h1
  | 1=>cases k;cases v;exact E2 _ _ h2
  | 2=>cases k;cases v;exact E3 _ _ h3
  | 3=>cases k;cases v;exact E4 _ _ h4
  | 4=>cases k;cases v;exact E5 _ _ h5
  | 5=>cases k;cases v;exact E6 _ _ h6
  | i+6=>cases k]
 let dl:(dR L0 L0.c).c<128:=by decide +kernel
 let s0:k7 d n<|YR.getD 0 []:=#[[p8,p9],ay _ _ Pr,.cons (E8 _ _ h8)<|.cons (E9 _ _ h9) .nil];let s1:k7 d r<|YR.getD 1 []:=#[[Hg,Ma],ad _ _ VH,.cons (WD _ _ a4)<|.cons (WC _ _ Xs) .nil];let s2:k7 d u<|YR.getD 2 []:=#[[L9,L8],ag _ _ bz,.cons (am _ _ b0)<|.cons (I _ _ SQ) .nil];let s3:k7 d p<|YR.getD 3 []:=#[[L7,L6],an _ _ a8,.cons (L _ _ be)<|.cons (M _ _ bp) .nil];let s4:k7 d m<|YR.getD 4 []:=#[[L5,L4],W _ _ bd,.cons (ax _ _ bl)<|.cons (X _ _ b3) .nil];let s5:k7 d g<|YR.getD 5 []:=#[[L3,L1],U _ _ bm,.cons (au _ _ bq)<|.cons (ar _ _ a9) .nil];ext;refine bC<|dw<|jE<|aJ<|eS rfl<|aW ?_;refine#[z,_,L0,rfl,gd,QV,by decide,dl,λt rs R cc b2 ac b9 ca la=>?_];obtain rfl:R=R0:=la.unique Ec;refine#[t,rfl,#[_,aI.of ac.top],λa3 aX=>?_];refine HK (K:=K) (λl=>V.int (l.c:Int)) ac (λb l H' Q' v hb q'=>?_) aX B! λWz a7 a0=>?_;refine jD<|aJ<|eS rfl<|aW #[_,_,rfl,.inl #[_,aI.of hb,rfl],?_];rw[zaa];exact q';refine#[.inl #[rfl,_,aI.of a0],?_];ext;refine#[a3,[3,5,3,3,3,3],5,rfl,rfl,a0,by decide,?_];let a6:([3,5,3,3,3,3]:dm).idxOf 5=1:=by decide
 rw[a6];let WB:=b2.trans a7;let mk:∀(q:Addr) (c0 c1 c2 c3 c4:Addr) (Y:List<|List<|Int×Int) (Hx:Hp),af d Hx->Hx q=some (.lst [.ref c0,.ref c1,.ref c2,.ref c3,.ref c4,.ref g])->Y.c=6->k7 d c0 (Y.getD 0 [])->k7 d c1 (Y.getD 1 [])->k7 d c2 (Y.getD 2 [])->k7 d c3 (Y.getD 3 [])->k7 d c4 (Y.getD 4 [])->k7 d g (Y.getD 5 [])->qz Hx q [c0,c1,c2,c3,c4,g] Y:=λq c0 c1 c2 c3 c4 Y Hx e hq yl z0 z1 z2 z3 z4 z5=>by
  refine#[hq,yl.symm,λj a l k v=>?_];let ey:l=Y.getD j []:=by rw[zah,v];rfl
  subst ey
  match j with
  | 0=>cases k;exact z0.same e
  | 1=>cases k;exact z1.same e
  | 2=>cases k;exact z2.same e
  | 3=>cases k;exact z3.same e
  | 4=>cases k;exact z4.same e
  | 5=>cases k;exact z5.same e
  | j+6=>cases k
 let VL:=gd.same WB;ext;refine#[by rw[zak];simp,λq1 Pj=>?_];generalize c:upd Wz q1 _=Wy;let#[Z3,b8]:=qLy Pj c;refine#[Su,q1,_,_,rfl,rfl,Z3 _ _<|WB _ _<|a2 _ _ ba,b8,by rw[zak];simp,λx KW=>?_];let aZ:af Wy<|upd Wy x<|.lst [.ref n,.ref r,.ref u,.ref p,.ref m,.ref g]:=af.upd KW;let a1:upd Wy x (.lst [.ref n,.ref r,.ref u,.ref p,.ref m,.ref g]) x=some (.lst [.ref n,.ref r,.ref u,.ref p,.ref m,.ref g]):=ae;change ph _ (upd Wy x<|.lst [.ref n,.ref r,.ref u,.ref p,.ref m,.ref g]) _;generalize upd Wy x (.lst [.ref n,.ref r,.ref u,.ref p,.ref m,.ref g])=bs at aZ a1 ⊢;let Gu:=Z3.trans aZ;ext;refine#[z,x,_,_,L0,YR,1,rfl,VL.same Gu,QV,by decide,dl,mk x _ _ _ _ _ YR bs (WB.trans Gu) a1 rfl s0 s1 s2 s3 s4 s5,rfl,Te,λR QX=>?_];obtain rfl:R=R0:=QX.unique Ec;refine#[λ_ XF as=>?_,λno=>absurd DI no];let VG:=as _ _<|Gu _ _<|WB _ _<|G _ _ bb;ext;refine#[by rw[zak];simp,λq3 NI=>?_];generalize c:upd XF q3 _=Wx;let#[SS,b6]:=qLy NI c;refine#[Ss,q3,_,_,rfl,rfl,SS _ _ VG,b6,by rw[zak];simp,λy Xe=>?_];let C:af Wx<|upd Wx y<|.lst [.ref n,.ref u,.ref m,.ref r,.ref p,.ref g]:=af.upd Xe;let N:upd Wx y (.lst [.ref n,.ref u,.ref m,.ref r,.ref p,.ref g]) y=some (.lst [.ref n,.ref u,.ref m,.ref r,.ref p,.ref g]):=ae;change ph _ (upd Wx y<|.lst [.ref n,.ref u,.ref m,.ref r,.ref p,.ref g]) _;generalize upd Wx y (.lst [.ref n,.ref u,.ref m,.ref r,.ref p,.ref g])=bv at C N ⊢;let Py:=Gu.trans<|as.trans<|SS.trans C;let ap:=WB.trans Py;ext;refine#[z,y,_,_,L0,YS,1,rfl,VL.same Py,QV,by decide,dl,mk y _ _ _ _ _ YS bv ap N rfl s0 s2 s4 s1 s3 s5,rfl,Tc,λR QX=>?_];obtain rfl:R=R0:=QX.unique Ec;refine#[λa5=>absurd a5 IZ,λ_ cb bt=>?_];ext;exact q _<|((e1.trans E1).trans ap).trans bt
theorem eh:aM ["_law_orders_here", "_law_number", "_law_found", "_law_k", "_law_at", "_law_other"] ["_law_orders_here", "_law_number"]<|aB iM:=by walk_at "n"
theorem qT(D:Def K mg "_law_without" iM ["_law_orders_here", "_law_number"])(T:Txt K mg Z)(dC:W! "_law_digit" 1 ["_law_number", "_law_base_here", "_law_place"] lC):W! "_law_without" 2 ["_law_orders_here", "_law_number"] sG:=by
 exists D.cE eh,c8,S;let#[p,as,L,k,rfl,_]:=h;rfl;let#[p,as,L,num,rfl,g,im,l8,l0,n0,n1,q]:=h;refine#[_,(ai (eO (i:=2) eh.nd rfl A! (tg:=["_law_order"]) (fr:=[]) D! rfl (bJ<|pv 0) (λ_ _ _ _ _=>(aD (i:=0) (show [("_law_order":Str)].Nodup by decide +kernel) rfl A!)) (λ_ _ _ _ _=>aY)<|λ_ _ _ _ _=>(iD (wm (K:=K) rfl) C! T.list Ak<|aa (pv 0) ah))<|ai (bS zaF rfl (bw rfl T.range<|aa (ao bI aj<|ao bE (pv 1) aj) ah) (aD (i:=3) eh.nd rfl A!)<|ai (aC (i:=4) eh.nd rfl A!<|ao bE (av dC S aP<|aa (ao dF (pv 1) aj)<|aa aj<|aa (pv 3) ah)<|aE aL C! T.len aU<|aa (pv 2) ah)<|ak<|bY (aO (Ka S.units) (aF aw (pv 2) (pv 4) C?) (bH ah)<|aS _) (ai (aC (i:=5) eh.nd rfl A!<|aF aw (aF aw (pv 2) (pv 4) C?) (ao bE (av dC S aP<|aa (ao dF (pv 1) aj)<|aa aj<|aa (pv 3) ah)<|aE aL C! T.len aU<|aa (aF aw (pv 2) (pv 4) C?) ah) C?)<|ai (cK<|fS zaN PySem.F.slot_list_remove PySem.F.type_list_remove xC (aF aw (pv 2) (pv 4) C?)<|aa (pv 5) ah)<|ak<|cK<|fS zaN PySem.F.slot_list_remove PySem.F.type_list_remove xC (aF aw (pv 2) (pv 5) C?)<|aa (pv 4) ah) bh)<|ak<|aN<|pv 2),?_]
 dsimp only[cN];ext;refine MW rfl g () λn cs H1 e1 g1 Dd Mj=>?_;ext;refine cP ?_;refine aJ<|eo<|r_c<|eo<|eS rfl<|r_c<|DM B!<|jb<|aW ?_;let q1:=zbe num (show(0:Int)<5 by decide);let#[m,hm]:=zaM (zbh num<|show(5:Int)≠0 by decide);refine#[((1+m:Nat):Int),by rw[hm];rfl,(),(),?_];rw[zaB];refine cM (λi Y x=>∃(L2:dy) (W v4 v5:Option V),Y=[p.i,num.j,n.i,W,v4,v5]/\af H x/\aQ x n cs L2/\aH L2/\L2.c=L.c/\(dR L L.c).c<=(dR L2 L2.c).c+2*i)
  #[L,none,none,none,rfl,e1,g1,im,rfl,()] ?_ ?_
 clear e1 g1;ext i Y x hi ⟨L2,W,v4,v5,rfl,e2,l,v,G,ac⟩;simp only[zbB];ext;refine#[num / 5,7,i,rfl,(),(),by decide,by decide,(),(),λd d0 d1=>?_];ext;refine#[_,_,rfl,.inl #[_,aI.of l.top,rfl],?_];rw[zaa,l.len];let lp:(0:Int)<(L2.c:Int):=();ext;let w1:=zbe d lp;let#[a,ha]:=zaM (zbh d<|show(L2.c:Int)≠0 by lia);rw[ha]at w1 ⊢;let#[O,c,t,R,r]:=l.at (i:=a) ();let y:=iw R;ext;refine aT (aI.of l.top) (l.ix t) ?_;ext;refine#[by rw[zak];simp,λz hz=>?_];generalize B:upd x z _=H3;let#[C,z3]:=qLy hz B;refine#[nH c,nH [],rN<|C _ _ r,rN z3,shaped_ints _,shaped_ints _,?_];rw[zam rfl,Gq];let e:=l.same C;let r:=C _ _ r;let Ln:=e2.trans C;ext;refine nQ (λne=>?_)<|λem=>?_;let al:=zce.mpr ne;ext;refine aT (aI.of e.top) (e.ix t) ?_;ext;refine#[num / 9,5,i,rfl,(),(),by decide,by decide,(),(),λu u0 u1=>?_];ext;refine aT (aI.of e.top) (e.ix t) ?_;ext;refine#[_,_,rfl,.inl #[_,aI.of r,rfl],?_];rw[zaa];let ad:(0:Int)<(c.c:Int):=();ext;let x1:=zbe u ad;let#[j,hj]:=zaM (zbh u<|show(c.c:Int)≠0 by lia);rw[hj]at x1 ⊢;let jl:j<c.c:=();refine aT (aI.of r) (bV<|by rw[zao,zac jl];rfl) ?_;let bm:c[j]∈c:=zbo jl;generalize c[j]=b at bm ⊢;let dt:Dt L2 ((a:Int),b):=#[(),(),y>>bm];let#[b0,b1,ag,b3]:=dt.back v;let#[N,lb,M,X,am]:=e.at (i:=b.toNat) ();let U:lb=ez L2 b:=by rw[aK b0 b1]at X;exact(zas X).symm
 subst U;let i2:jJ cs.h b=some (V.ref N):=by let:=e.ix M;rwa [zcf b0]at this
 ext;refine aT (aI.of e.top) (e.ix t) ?_;refine#[.inl #[rfl,_,aI.of r],?_];ext;refine#[O,_,b,rfl,rfl,r,bm,?_];let I:=e.set Dd (l':=c.erase b) t;generalize B:upd H3 O (.lst<|(c.erase b).f)=H5 at I ⊢;let e5:=(qFy Ln (Mj O<|zae _<|zag t) B).1;let Zm:(L2.set a<|c.erase b)[b.toNat]?=some (ez L2 b):=zdi ()>>X
 let KU:=I.row _ _ _ M Zm;ext;refine aT (aI.of I.top) i2 ?_;refine#[.inl #[rfl,_,aI.of KU],?_];ext;refine#[N,_,(a:Int),rfl,rfl,KU,b3,?_];let g6:=I.set Dd (l':=(ez L2 b).erase (a:Int)) M;generalize B:upd H5 N (.lst<|((ez L2 b).erase (a:Int)).f)=H6 at g6 ⊢;let e6:=(qFy e5 (Mj N<|zae _<|zag M) B).1;let er:(L2.set a<|c.erase b).set b.toNat ((ez L2 b).erase (a:Int))=rem L2 (a:Int) b:=by unfold rem;rw[y];rfl
 rw[er]at g6;let rp:=(lQ v dt).2;ext;exact#[_,_,_,_,rfl,e6,g6,yT v dt,gN>>G,()];ext;exact#[_,_,_,_,rfl,Ln,e,v,G,()];ext Y x ⟨L2,W,v4,v5,rfl,e2,l,v,G,ac⟩;ext;exact q n cs L2 x e2 l v G ()
theorem jt:aM ["_law_number", "_law_base_here", "_law_place", "_law_k"] ["_law_number", "_law_base_here", "_law_place"]<|aB ku:=by walk_at "n"
theorem vS(D:Def K mg "_law_digit" ku ["_law_number", "_law_base_here", "_law_place"])(T:Txt K mg Z):W! "_law_digit" 1 ["_law_number", "_law_base_here", "_law_place"] lC:=by
 exists D.cE jt,x,r;let#[n,b,p,rfl,_]:=h;rfl;let#[n,b,p,rfl,j,n1,b2,u,y,t,q]:=h;refine#[_,(ai (bS zaF rfl (bw rfl T.range<|aa (pv 2) ah) (aD (i:=3) jt.nd rfl A!)<|ak<|aC (i:=0) jt.nd rfl A!<|ao dF (pv 0)<|pv 1)<|ak<|aN<|ao bE (pv 0)<|pv 1),?_]
 ext;refine cP ?_;refine#[_,rfl,p,rfl,(),(),?_];refine cM (λk c a=>∃(m:Int) (v:Option V),c=[m.j,b.j,p.j,v]/\0<=m/\m<10 ^ 61/\a=H) #[n,none,rfl,j,n1,rfl] ?_ ?_;ext k c a z ⟨m,v,rfl,d,e,rfl⟩;let l:PX m b:=su () ();ext;refine#[_,_,rfl,zeg d (),?_,rfl];exact zfA (zdX _ d) e;ext c a ⟨m,v,rfl,d,e,rfl⟩;let g:(0:Int)<b:=();ext;exact q _ (zbh _ ())<|zbe _ g
theorem c9:aM ["_law_script", "_law_many", "_law_found", "_law_k", "_law_cell", "_law_at"] ["_law_script", "_law_many"]<|aB iO:=by walk_at "n"
theorem qV(D:Def K mg "_law_numbers" iO ["_law_script", "_law_many"])(T:Txt K mg Z):W! "_law_numbers" 1 ["_law_script", "_law_many"]<|sM K:=by
 exists D.cE c9,c8,hr;let#[a,ns,m,rfl,_]:=h;rfl;let#[a,ns,m,rfl,p,AG,m0,m9,q]:=h;refine#[_,(ai (eO (i:=2) c9.nd rfl A! (tg:=["_law_k"]) (fr:=[]) D! rfl (bw rfl T.range<|aa (pv 1) ah) (λ_ _ _ _ _=>(aD (i:=0) (show [("_law_k":Str)].Nodup by decide +kernel) rfl A!)) (λ_ _ _ _ _=>aY)<|λ_ _ _ _ _=>aj)<|ai (bS zaF rfl (bw rfl T.range<|aa (aE (Ib rfl) C! T.max EH<|aa (pv 1)<|aa (aE (xV rfl) C! T.min qw<|aa (aE aL C! T.len aU<|aa (pv 0) ah)<|aa aj ah) ah) ah) (aD (i:=3) c9.nd rfl A!)<|ai (aC (i:=4) c9.nd rfl A! aj)<|ai (bY (aO FT (aE aL C! T.len aU<|aa (pv 0) ah) aj<|aS _) (ak<|aC (i:=4) c9.nd rfl A!<|ao bE (aF aw (pv 0) (ao bE (pv 3)<|aE (xV rfl) C! T.min qw<|aa (aE aL C! T.len aU<|aa (pv 0) ah)<|aa aj ah) C?)<|BI (v:=1000000000000000000000000000000000000000000000000000000000007) bI (FP (v:=1000000000000000000000000000000000000000000000000000000000000) J4 aj aj #[by decide,by decide,by decide] B?) aj B?) bh)<|ai (aC (i:=5) c9.nd rfl A!<|ao bE (pv 3)<|pv 1)<|ak<|tI (ao bE (ao bI (ao bI (ao bG (aF aw (pv 2) (pv 5) C?) aj)<|pv 4)<|ao bG (pv 3)<|pv 3)<|BI (v:=1000000000000000000000000000000000000000000000000000000000007) bI (FP (v:=1000000000000000000000000000000000000000000000000000000000000) J4 aj aj #[by decide,by decide,by decide] B?) aj B?)<|zd (pv 2) (pv 5) set_list)<|ak<|aN<|pv 2),?_]
 dsimp only[cN];ext;refine bC ?_;refine#[_,rfl,(m:Int),rfl,(),(),?_];rw[zaB];ext t u;refine cX (λi b ys r=>∃v:Option V,b=[v]/\ys=(List.replicate i (0:Int)).f/\af H r/\r t=some (.lst ys)) #[none,rfl,rfl,af.upd u,ae] ?_ ?_;ext i b ys r M ⟨v,rfl,rfl,n,y⟩;ext;refine#[y,zaa>>length_replicate>>aq (),nNN _ _ _ #[_,rfl,?_,af.fresh n u,ae]];rw[replicate_succ',zat];rfl;ext b ys r ⟨v,rfl,rfl,n,y⟩;ext;refine cP ?_;refine aJ<|jD<|aJ<|eS rfl<|aJ<|jD<|aJ<|jD<|aJ<|eS rfl<|aW ?_;refine#[_,_,rfl,.inl #[_,n.seq p,rfl],?_];refine aJ<|r_c<|aW #[_,_,rfl,?_];refine aW #[_,_,rfl,?_];refine aW ?_;rw[zaa];obtain⟨cnt,X,ac⟩:∃c:Nat,(if(if(63:Int)<(ns.c:Int)then(63:Int)else(ns.c:Int)) > (m:Int)then(if(63:Int)<(ns.c:Int)then(63:Int)else(ns.c:Int))else(m:Int))=(c:Int)/\c<=63:=by refine#[(if(if(63:Int)<(ns.c:Int)then(63:Int)else(ns.c:Int)) > (m:Int)then(if(63:Int)<(ns.c:Int)then(63:Int)else(ns.c:Int))else(m:Int)).toNat,?_,?_]<;>split<;>split<;>lia
 rw[X];refine#[(cnt:Int),rfl,(),(),?_];rw[zaB];refine cM (λk L g=>∃(d:dm) (I v4 C:Option V),L=[a.i,m.l,t.i,I,v4,C]/\af H g/\g t=some (.lst d.f)/\d.c=m/\∀x∈d,0<=x/\x<10 ^ 60+7)
  #[List.replicate m 0,none,none,none,rfl,n,y,length_replicate,λx N=>by rw[eq_of_mem_replicate N];decide] ?_ ?_
 clear y n;ext k L g hk ⟨d,I,v4,C,rfl,l,F,G,B⟩;simp only[zbB];let e:∀(c:Int),0<=c->c<10 ^ 60+7->True:=λ_ _ _=>trivial;refine inF λ_ _=>?_;refine eB ?_;refine en<|ef<|r_c<|eB ?_;dsimp only;refine pH (λb R=>∃c:Int,b=[a.i,m.l,t.i,k.l,c.j,C]/\0<=c/\c<10 ^ 60+7/\R=g) ?_ ?_;ext b R ⟨c,rfl,c0,c1,rfl⟩;let Y:(0:Int)<(m:Int):=();ext;let a1:=zbe (k:Int) Y;let#[i,M]:=zaM (zbh (k:Int)<|show(m:Int)≠0 by lia);rw[M]at a1 ⊢;let U:i<d.c:=();let rx:=B d[i]<|zbo _;refine aT (aI.of F) (show jJ d.f ((i:Nat):Int)=some (.int d[i])from bV<|by rw[zao,zac U];rfl) ?_;let W:IntMulOk d[i] 48271:=mulR B! B!;let Ei:IntMulOk (k:Int) (k:Int):=mulL () ();ext;refine tE<|eS rfl<|eS rfl #[t,d.f,(i:Int),i,rfl,rfl,F,?_,?_];rw[zaa,zI () (),zaB];rw[<-map_set];refine nNy (by assumption) ?_;refine#[_,_,_,_,rfl,af.fresh l u,ae,zcq>>G,λx N=>?_];ext(z|z:zdR N);exact B x z;rw[z];exact#[zbh _ B!,zbe _ B!];ext RR e;ext;refine#[_,_,rfl,.inl #[_,l.seq p,rfl],?_];rw[zaa];ext;refine if2 (λS=>?_)<|λS=>?_;ext;refine#[_,_,rfl,.inl #[_,l.seq p,rfl],?_];rw[zaa];ext;refine#[_,_,rfl,?_];let lp:(0:Int)<(if(63:Int)<(ns.c:Int)then(63:Int)else(ns.c:Int)):=by split<;>lia
 ext;let O:=zbh (k:Int)<|zfp lp;let b1:=zbe (k:Int) lp;let b2:(k:Int)%(if(63:Int)<(ns.c:Int)then(63:Int)else(ns.c:Int))<(ns.c:Int):=by split at b1<;>split<;>lia
 generalize (k:Int)%(if(63:Int)<(ns.c:Int)then(63:Int)else(ns.c:Int))=ix at O b1 b2 ⊢;let#[j,rfl]:=zaM O;refine aT (l.seq p) (show jJ ns.f ((j:Nat):Int)=some (.int<|ns[j]'())from bV<|by rw[zao,zac ()];rfl) ?_;ext;exact e _ _ #[_,rfl,zbh _ B!,zbe _ B!,rfl];ext;exact e _ _ #[_,rfl,by decide,by decide,rfl];ext L g ⟨d,I,v4,C,rfl,l,F,G,B⟩;ext;exact q t d g l u F G B
theorem j8:aM ["_law_number", "_law_k", "_law_rings_here"] ["_law_number"]<|aB lO:=by walk_at "n"
theorem zB(D:Def K mg "_law_base" lO ["_law_number"])(T:Txt K mg Z):W! "_law_base" 1 ["_law_number"] Fj:=by
 exists D.cE j8,c8,hr;let#[n,rfl,_]:=h;rfl;let#[n,rfl,n0,n1,q]:=h;let m0:=zbh n (show(3:Int)≠0 by decide);let m1:=zbe n (show(0:Int)<3 by decide);obtain⟨a,Zp,X⟩:∃a:Nat,3+n%3=(a:Int)/\(a=3\/a=4\/a=5):=#[(3+n%3).toNat,(),()];let kp:(0:Int)<(a:Int):=();refine#[_,(ai (aC (i:=1) j8.nd rfl A!<|ao bI aj<|ao bE (pv 0) aj)<|ai (bY (PW.pt<|pw_and (aO eP (ao bE (ao dF (pv 0) aj) aj) aj<|aS _)<|pw_and1<|aO jg (pv 1) aj<|aS _) (ai (eO (i:=2) j8.nd rfl A! (tg:=["_law_i"]) (fr:=[("_law_k",1)]) D! rfl (bw rfl T.range<|aa (pv 1) ah) (λ_ _ _ _ _=>(aD (i:=0) (show [("_law_i":Str),("_law_k":Str)].Nodup by decide +kernel) rfl A!)) (λ_ _ _ _ _=>aY)<|λ_ _ _ _ _=>(bH<|aa (pv 0)<|aa (ao bE (ao bI (pv 0) aj)<|pv 1)<|aa (ao bI (pv 1)<|ao bE (ao bI (pv 0) aj)<|pv 1)<|aa (ao bI (pv 1)<|pv 0) ah))<|ak<|aN<|ao dG (pv 2)<|bH<|aa (vF rfl T.range T.list<|aa (pv 1)<|aa (ao bG aj<|pv 1) ah)<|aa (qJ rfl T.range T.reversed T.list<|pv 1) ah) bh)<|ak<|aN<|ao dG (bR (tg:=["_law_i"]) (fr:=[("_law_k",1)]) D! rfl (bw rfl T.range<|aa (pv 1) ah) (λ_ _ _ _ _=>(aD (i:=0) (show [("_law_i":Str),("_law_k":Str)].Nodup by decide +kernel) rfl A!)) (λ_ _ _ _ _=>aY)<|λ_ _ _ _ _=>(bH<|aa (pv 0)<|aa (ao bE (ao bI (pv 0) aj)<|pv 1)<|aa (pv 1) ah))<|bH<|aa (qJ rfl T.range T.reversed T.list<|pv 1) ah),?_]
 ext;rw[Zp];let B:∀(L:St) (U:Hp),L=[n.j,a.l,none]->af H U->Qb (Ip Ui (qE (Pa<|fo (fP 1) ph) (ji 0) qC (IW<|fo (fP 0)<|fo (Ip (rI (λx j=>0<j) λi j=>V.int<|i%j) (Ip (Iq λi j=>V.int<|i+j) (fP 0)<|tC<|V.int 1)<|fP 1)<|fo (fP 1) ph) 1 [1])<|IW<|fo (pj<|fP 1) ph) { nx:=λ_ O=>Q .fU O,rt:=Q } L U:=by ext L U rfl e0;refine oj<|eo<|bC ?_;refine#[_,rfl,(a:Int),rfl,(),(),?_];rw[zaB];ext g N;refine Bv (rest:=[a.l]) (λi=>[(i:Int),((i:Int)+1)%(a:Int),(a:Int)]) (λi O Q' hi e' S=>?_) N () λcs I G M Dd Mj=>?_;ext;exact λc k=>S c _ (af.upd k) k ae;refine nD<|aJ<|tw<|eS rfl #[a,rfl,(),λd W=>?_];generalize b:upd I d _=R;let#[C,d2]:=qLy W b;refine aW #[by rw[zak];simp,λu v=>?_];let F:=aQ.one d2 v;generalize b:upd R u (.lst [.ref d])=Y at F ⊢;let m:=(qLy v b).1;let l:=(M.same C).same m;refine#[g,u,_,_,rfl,rfl,l.top,F.top,by rw[zaa,zaa,l.len,F.len,zak];simp;lia,λt r=>?_];let p:=l.wg F r;refine q t _ _ (a+1) _ (e0.trans<|((G.trans C).trans m).trans<|af.upd r) p () ?_;ext(rfl|rfl|rfl:X);let:=Yt.AV;exact#[_,this.1,this.2,rfl];let:=Ys.AV;exact#[_,this.1,this.2,rfl];let:=Yr.AV;exact#[_,this.1,this.2,rfl]
 let h3:(0:Int)<3:=by decide
 ext;ext(y:n / 3%3=1);rw[zbc y];ext;ext(z:(a:Int)<5);rw[zbc z];ext;refine bC ?_;refine#[_,rfl,(a:Int),rfl,(),(),?_];rw[zaB];ext g N;refine Bv (rest:=[a.l]) (λi=>[(i:Int),((i:Int)+1)%(a:Int),(a:Int)+((i:Int)+1)%(a:Int),(a:Int)+(i:Int)]) (λi O Q' hi e' S=>?_) N () λcs I G M Dd Mj=>?_;ext;exact#[by rw[zak];simp,λc k=>S c _ (af.upd k) k ae];refine eB<|nNy (by assumption) ?_;refine oj<|eo<|eS rfl<|nD<|aJ<|DR<|aJ<|eS rfl<|aJ<|eo<|r_c<|eS rfl<|DM (mulL B! B!)<|aW #[(a:Int),a,by rw[show(2:Int)*(a:Int)=(a:Int)+(a:Int)by lia],(),(),(),λc k=>?_];generalize b:upd I c _=R;let#[C,c2]:=qLy k b;refine aJ<|tw<|eS rfl #[a,rfl,(),λd W=>?_];generalize b:upd R d _=Y;let#[m,d3]:=qLy W b;refine aW #[by rw[zak];simp,λu v=>?_];let p:=aQ.two (m _ _ c2) d3 v;generalize b:upd Y u (.lst [.ref c,.ref d])=H4 at p ⊢;let e4:=(qLy v b).1;let l:=((M.same C).same m).same e4;refine#[g,u,_,_,rfl,rfl,l.top,p.top,by rw[zaa,zaa,l.len,p.len,zak];simp;lia,λt r=>?_];refine q t _ _ (2*a) _ ((((G.trans C).trans m).trans e4).trans<|af.upd r) (l.wg p r) () ?_;ext(rfl|rfl|rfl:X);let:=Yw.AV;exact#[_,this.1,this.2,rfl];let:=Yv.AV;exact#[_,this.1,this.2,rfl];lia;rw[zaZ z];ext;exact B _ _ rfl<|λ_ _ e=>e;rw[zaZ y];ext;exact B _ _ rfl<|λ_ _ e=>e
theorem sW:aM ["_law_rings_here"] ["_law_rings_here"]<|aB jy:=by walk_at "n"
theorem tX(D:Def K mg "_law_places" jy ["_law_rings_here"])(T:Txt K mg Z):W! "_law_places" 1 ["_law_rings_here"] jQ:=by
 exists D.cE sW,c8,S;let#[p,as,R,n,rfl,_]:=h;rfl;let#[p,as,R,n,rfl,k,tr,hn,q]:=h;let many:=tr.many;refine#[_,(ak<|aN<|ao bI aj<|aE (xW rfl) C! T.max EH<|aa (bR (tg:=["_law_ring"]) (fr:=[]) D! rfl (bJ<|pv 0) (λ_ _ _ _ _=>(aD (i:=0) (show [("_law_ring":Str)].Nodup by decide +kernel) rfl A!)) (λ_ _ _ _ _=>aY)<|λ_ _ _ _ _=>(aE (EE rfl rfl) C! T.max EH<|aa (pv 0) ah)) ah),?_];dsimp only[cN];refine oj<|eo<|r_c<|jD<|aJ<|bC ?_;refine#[_,rfl,p,rfl,#[_,aI.of k.top],λu W=>?_];refine bD (λi c ys y=>∃(a:dm) (v:Option V),c=[v]/\ys=a.f/\af H y/\y u=some (.lst ys)/\a.c=i/\∀(j:Nat) (m:Int) (r:dm),a[j]?=some m->R[j]?=some r->m∈r/\∀x∈r,x<=m)
  #[[],none,rfl,rfl,af.upd W,ae,rfl,λj m r h=>by simp at h] (λi c ys y _ ⟨_,_,_,_,e,_⟩=>aI.of<|e _ _ k.top) ?_ ?_
 ext i x c ys y F t ⟨a,v,rfl,rfl,B,I,rfl,C⟩;rw[zaa,k.len]at t;let#[b,l,ha,N,X]:=k.at (i:=a.c) t;obtain rfl:x=V.ref b:=by rw[zao,ha]at F;exact(zas F).symm
 let U:=tr.ring<|zag N;ext;refine#[b,l,rfl,aI.of<|B _ _ X,λz=>by rw[z]at U;simp at U,λm hm d=>?_];refine#[I,zaa>>aq (),nNN _ _ _ #[a++[m],_,rfl,by simp,af.fresh B W,by rw[ae],by simp,λj Y r g G=>?_]];rw[zfe]at g;ext(z:j<a.c);rw[zam z]at g;exact C j Y r g G;rw[zaj z]at g;let jl:=(zab.mp g).1;let:j=a.c:=by simp at jl;lia
 subst this;rw[N]at G;cases G;simp at g;subst g;exact#[hm,d];ext c ys y ⟨a,v,rfl,rfl,B,I,L,C⟩;rw[zaa,k.len]at L;refine aW #[u,a,rfl,aI.of I,λz=>by rw[z]at L;simp at L;lia,λM hM d=>?_];refine jb ?_;let e:1+M=(n:Int):=by let#[j,O]:=zaS.mp hM;let jl:=(zab.mp O).1;let#[m1,_]:=C j M R[j] O<|zac ();let up:=((tr.ring<|zbo ()).2.2.2 M m1).2;let four:=tr.four;let#[r,S,F]:=tr.on (x:=(n:Int)-1) () ();let#[i,t]:=zaS.mp S;let il:=(zab.mp t).1;let mi:a[i]?=some (a[i]'()):=zac ();let lo:=(C i _ r mi t).2 _ F;let:=d _<|zag mi;lia
 erw[e,q _ B]
theorem PD(h:j<cs.c):cy (nI cs) j=((cs.getD j 0:Nat):Int):=by refine xT ?_;unfold nI;rw[zao,zac h,zah,zac h];rfl
theorem kG(cs:List Nat):(nI cs).c=cs.c:=by unfold nI;rw[zaa]
theorem bK:aM ["_law_rings_here", "_law_number", "_law_fresh", "_law_at", "_law_ring", "_law_chosen", "_law_found", "_law_k", "_law_here", "_law_there"] ["_law_rings_here", "_law_number", "_law_fresh"]<|aB iN:=by walk_at "n"
theorem qU(D:Def K mg "_law_stacked" iN ["_law_rings_here", "_law_number", "_law_fresh"])(T:Txt K mg Z)(dC:W! "_law_digit" 1 ["_law_number", "_law_base_here", "_law_place"] lC):W! "_law_stacked" 2 ["_law_rings_here", "_law_number", "_law_fresh"] sH:=by
 exists D.cE bK,c8,hr;let#[p,as,R,n,k,rfl,_]:=h;rfl;let#[p,as,R,n,num,rfl,gp,tr,hn,k0,k1,q]:=h;let many:=tr.many;let rp:(0:Int)<(R.c:Int):=();refine#[_,(ai (aC (i:=3) bK.nd rfl A!<|ao bE (pv 1)<|aE aL C! T.len aU<|aa (pv 0) ah)<|ai (aC (i:=4) bK.nd rfl A!<|aF aw (pv 0) (pv 3) C?)<|ai (eO (i:=5) bK.nd rfl A! (tg:=["_law_k"]) (fr:=[("_law_number",1)]) D! rfl (bw rfl T.range<|aa (aE aL C! T.len aU<|aa (pv 4) ah) ah) (λ_ _ _ _ _=>(aD (i:=0) (show [("_law_k":Str),("_law_number":Str)].Nodup by decide +kernel) rfl A!)) (λ_ _ _ _ _=>(gU<|aO eP (av dC hr aP<|aa (ao dF (pv 1) aj)<|aa aj<|aa (pv 0) ah) aj<|aS _))<|λ_ _ _ _ _=>(pv 0))<|ai (bY (aO jg (aE aL C! T.len aU<|aa (pv 5) ah) aj<|aS _) (ak<|aC (i:=5) bK.nd rfl A!<|ky rfl T.range T.list<|aE aL C! T.len aU<|aa (pv 4) ah) bh)<|ai (aC (i:=6) bK.nd rfl A!<|bH ah)<|ai (bS zaF rfl (bw rfl T.range<|aa (aE aL C! T.len aU<|aa (pv 5) ah) ah) (aD (i:=7) bK.nd rfl A!)<|ai (aC (i:=8) bK.nd rfl A!<|aF aw (pv 5) (ao cW (pv 7) aj) C?)<|ai (aC (i:=9) bK.nd rfl A!<|aF aw (pv 5) (pv 7) C?)<|ai (bY (aO jg (pv 9) (pv 8)<|aS _) (ak<|aC (i:=9) bK.nd rfl A!<|ao bI (pv 9)<|aE aL C! T.len aU<|aa (pv 4) ah) bh)<|ak<|cK<|fS zaN zbj zbk cL (pv 6)<|aa (ao dG (bR (tg:=["_law_j"]) (fr:=[("_law_ring",4)]) D! rfl (xt rfl T.range<|aa (pv 8)<|aa (ao bI (pv 9) aj) ah) (λ_ _ _ _ _=>(aD (i:=0) (show [("_law_j":Str),("_law_ring":Str)].Nodup by decide +kernel) rfl A!)) (λ_ _ _ _ _=>aY)<|λ_ _ _ _ _=>(aF (dO (K:=K) rfl) (pv 1) (ao bE (pv 0)<|aE (qv (K:=K) rfl) C! T.len aU<|aa (pv 1) ah) C?))<|bH<|aa (pv 2) ah) ah)<|ak<|aN<|ao dG (ao dG (bF cp (pv 0) b7<|bZ<|pv 3)<|pv 6)<|bF cp (pv 0) (bZ<|ao bI (pv 3) aj) b7),?_]
 dsimp only[cN];ext;refine#[_,_,rfl,.inl #[_,aI.of gp.top,rfl],?_];rw[zaa,gp.len];ext;let a1:=zbe num rp;let#[at',NT]:=zaM (zbh num<|show(R.c:Int)≠0 by lia);rw[NT]at a1 ⊢;let#[rb,r,Ri,SA,bL]:=gp.at (i:=at') ();refine aT (aI.of gp.top) (gp.ix Ri) ?_;let#[r3,rn,Fp,LY]:=tr.ring<|zag SA;let r0:0<r.c:=();let Jo:(0:Int)<(r.c:Int):=();refine eB<|nNy (by assumption) ?_;refine pH (λe O=>∃(ch:Addr) (cs:List Nat),e=[p.i,num.j,n.l,at'.l,rb.i,ch.i,none,none,none,none]/\af H O/\O ch=some (.lst<|(nI cs).f)/\cs.Pairwise (·<·)/\∀c∈cs,c<r.c) ?_ ?_;ext e I ⟨ch,cs,rfl,C,Cn,g,F⟩;refine pH (λe O=>∃(ch:Addr) (cs:List Nat),e=[p.i,num.j,n.l,at'.l,rb.i,ch.i,none,none,none,none]/\af H O/\O ch=some (.lst<|(nI cs).f)/\cs.Pairwise (·<·)/\(∀c∈cs,c<r.c)/\3<=cs.c) ?_ ?_;clear Cn g F C;ext e I ⟨ch,cs,rfl,C,Cn,g,F,c3⟩;let cl:cs.c<=r.c:=by
  let:=fb (l:=nI cs) (n:=r.c) (by unfold nI;exact zbZ _ (λa b h=>()) g) λy hy=>by let#[c,X,rfl]:=zaq.mp hy;let:=F c X;lia
  rwa [kG]at this
 ext;refine#[zaR _,λN Gf=>?_];let e2:af I<|upd I N<|.lst []:=af.upd Gf;let g2:aQ (upd I N<|.lst []) N [] []:=#[ae,rfl,λi a l h=>by simp at h];generalize upd I N (.lst [])=H2 at e2 g2 ⊢;let ar:=C.free Gf;ext;refine cP ?_;refine aJ<|jD<|aJ<|eS rfl<|aW #[_,_,rfl,.inl #[_,aI.of<|e2 _ _ Cn,rfl],?_];rw[zaa,kG];refine aW #[(cs.c:Int),rfl,(),(),?_];rw[zaB];refine cM (λk σ H3=>∃(bs:cx) (v7 v8 v9:Option V),σ=[p.i,num.j,n.l,at'.l,rb.i,ch.i,N.i,v7,v8,v9]/\af I H3/\aQ H3 N bs ((List.range k).map<|gS r cs n)/\N∉bs)
  #[[],none,none,none,rfl,e2,g2,by simp] ?_ ?_
 ext k σ H3 hk ⟨bs,v7,v8,v9,rfl,e3,g3,Ks⟩;simp only[zbB];let A:=LN g F (r:=r) () hk;let an:=e3 _ _ Cn;let am:=e3 _ _<|C _ _ bL;refine inF λ_ _=>?_;refine eB ?_;refine en<|ef<|eo<|eS rfl<|eo<|eS rfl<|r_c<|jb ?_;refine aT (aI.of an) (hJ (j:=(k+(cs.c-1))%cs.c) (by rw[kG];lia) (by rw[kG];lia) ?_) ?_;rw[kG];ext(z:k=0);subst z;rw[zcl,zaz ()];right;lia;rw[show k+(cs.c-1)=k-1+cs.c by lia,zax,zaz ()];left;lia;rw[PD<|zaI _ ()];refine eB ?_;refine en<|ef<|eo<|eS rfl<|eS rfl<|aT (aI.of an) (hJ (j:=k) (by rw[kG];lia) (by rw[kG];lia)<|.inl rfl) ?_;rw[PD hk];refine eB ?_;dsimp only;let eH:cs.getD ((k+(cs.c-1))%cs.c) 0=mV cs k:=rfl;rw[eH];refine pH (λe O=>e=[p.i,num.j,n.l,at'.l,rb.i,ch.i,N.i,k.l,some<|.int (mV cs k:Int),some<|.int (mU r cs k:Int)]/\O=H3) ?_ ?_;ext e O ⟨rfl,rfl⟩;let ad:=A.lt;let le:=A.le;let top:=A.top;generalize hh:mV cs k=m at A ad le top ⊢;generalize ht:mU r cs k=Sj at A ad le ⊢;ext;refine#[.inl #[rfl,_,aI.of g3.top],?_];ext;refine bC ?_;refine aJ<|eS rfl<|aJ<|eo<|eS rfl<|r_c<|jb<|aW #[(m:Int),(Sj:Int)+1,rfl,#[(),(),(),()],λG aX=>?_];rw[show((Sj:Int)+1-(m:Int)).toNat=Sj-m+1 by lia];refine cX (lo:=(m:Int)) (λi e ys Y=>∃v:Option V,e=[v,rb.i]/\ys=(cQ r m i).f/\af O Y/\Y G=some (.lst ys)) #[none,rfl,rfl,af.upd aX,ae] ?_ ?_;ext i e ys Y hi ⟨v,rfl,rfl,S,h4⟩;let ag:=S _ _ am;ext;refine#[_,_,rfl,.inl #[_,aI.of ag,rfl],?_];rw[zaa];ext;let c0:=zbh ((m:Int)+(i:Int)) (show(r.c:Int)≠0 by lia);let c1:=zbe ((m:Int)+(i:Int)) Jo;let ce:((m+i)%r.c:Nat)=((m:Int)+(i:Int))%(r.c:Int):=by rw[Int.natCast_emod,Int.natCast_add]
 rw[<-ce]at c0 c1 ⊢;refine aT (aI.of ag) (hJ (j:=(m+i)%r.c) () ()<|.inl rfl) ?_;rw[show cy r ((m+i)%r.c)=cy r (m+i)from bT<|zbJ _ _];refine#[h4,zaa>>bA>>aq (),nNN _ _ _ #[_,rfl,?_,af.fresh S aX,ae]];rw[sA,zat];rfl;ext e ys Y ⟨v,rfl,rfl,S,h4⟩;ext;refine#[by rw[zak];simp,λu hu=>?_];generalize qq:upd Y u _=H5;let#[e5,u5]:=qLy hu qq;refine#[G,u,_,_,rfl,rfl,e5 _ _ h4,u5,by rw[zaa,bA,zak];simp;lia,λx W=>?_];let e6:af H5<|upd H5 x<|.lst<|(cQ r m<|Sj-m+1).f++[.int (n:Int)]:=af.upd W;let x6:upd H5 x (.lst<|(cQ r m<|Sj-m+1).f++[.int (n:Int)]) x=some (.lst<|(gS r cs n k).f):=by unfold gS;erw[hh,ht,zat,ae]
 generalize upd H5 x (.lst<|(cQ r m<|Sj-m+1).f++[.int (n:Int)])=H6 at e6 x6 ⊢;let VU:=(S.trans e5).trans e6;let U:=g3.same VU;let ac:x≠N:=λz=>by let:=(S.trans e5) _ _ g3.top;rw[z,this]at W;cases W
 let bl:=U.len;rw[zaa,zby]at bl;refine aW<|cV U.top (zaa>>aq ()) ?_;let g7:=U.snoc Ks ac x6;refine nNy (by assumption) ?_;refine#[bs++[x],_,_,_,rfl,?_,?_,?_];refine λb o hb=>?_;rw[aG<|λz=>by rw[z,Gf]at hb;cases hb];exact VU _ _<|e3 _ _ hb;rw[zcn,zat];exact g7;ext z;ext(z|z:zal.mp z);exact Ks z;exact ac (zai.mp z).symm;ext RR B;ext;ext(z:((cs.getD k 0:Nat):Int)<(mV cs k:Int));rw[zbc z];ext;refine#[_,_,rfl,.inl #[_,aI.of am,rfl],?_];rw[zaa];ext;refine B _ _ #[?_,rfl];let:mU r cs k=cs.getD k 0+r.c:=by unfold mU;rw[zam ()]
 rw[this,Int.natCast_add];rfl;rw[zaZ z];ext;refine B _ _ #[?_,rfl];let:mU r cs k=cs.getD k 0:=by unfold mU;rw[zaj ()]
 rw[this];rfl;ext σ H3 ⟨bs,v7,v8,v9,rfl,e3,g3,Ks⟩;let Dh:=(gp.same C).same e3;refine nNy (by assumption) ?_;refine oj<|eo<|eo<|fL<|eS rfl #[_,rfl,(at':Int),rfl,p,_,rfl,aI.of Dh.top,λx W=>?_];rw[qp (by rw[zaa,Dh.len];lia),<-zeR];let g4:=Dh.taken at' W;generalize qq:upd H3 x (.lst<|(as.take at').h)=Y at g4 ⊢;let S:=(qLy W qq).1;let ap:=g3.same S;let bl:=g3.len;rw[zaa,zby]at bl;refine eS rfl #[x,N,_,_,rfl,rfl,g4.top,ap.top,by rw[zaa,zaa,g4.len,bl,zaL,zak];lia,λy hy=>?_];let g5:=g4.wg ap hy;generalize qq:upd Y y (.lst<|(as.take at').h++bs.h)=H5 at g5 ⊢;let e5:=(qLy hy qq).1;let VI:=(Dh.same S).same e5;refine fL<|eS rfl<|eo<|eS rfl<|r_c<|jb #[(at':Int)+1,rfl,p,_,rfl,aI.of VI.top,λz hz=>?_];rw[show(at':Int)+1=((at'+1:Nat):Int)by lia,iF (by rw[zaa,VI.len];lia),<-zeQ];let U:=VI.dropped (at'+1) hz;generalize qq:upd H5 z (.lst<|(as.drop<|at'+1).h)=H6 at U ⊢;let e6:=(qLy hz qq).1;let al:=g5.same e6;refine#[y,z,_,_,rfl,rfl,by let:=al.top;rw[zat]at this;exact this,U.top,by rw[zav,zaa,zaa,zaa,g4.len,bl,U.len,zaL,zbz,zak];lia,λt ht=>?_];let g7:=al.wg U ht;rw[zat]at g7;let#[L,tg,ld,rfl]:=tr;let#[M,tM,lM,rM]:=tg.stack ld SA g F c3;refine q t _ _ _ ((((((C.trans e3).trans S).trans e5).trans e6).trans<|af.upd ht)) g7 #[M,tM,?_,by rw[lM]];exact rM;ext RR B;ext;refine#[_,_,rfl,.inl #[_,aI.of Cn,rfl],?_];rw[zaa,kG];ext;refine if2 (λz=>?_)<|λz=>?_;ext;refine xp<|jD<|aJ<|eS rfl<|aW #[_,_,rfl,.inl #[_,aI.of<|C _ _ bL,rfl],?_];rw[zaa];refine#[r.c,rfl,(),λc X=>?_];ext;refine B _ _ #[c,List.range r.c,rfl,C.trans<|af.upd X,?_,pairwise_lt_range,λx W=>zaD.mp W,zby>>r3];exact ae;ext;exact B _ _ #[ch,cs,rfl,C,Cn,g,F,()];ext RR B;ext;refine bC ?_;refine aJ<|jD<|aJ<|eS rfl<|aW #[_,_,rfl,.inl #[_,aI.of bL,rfl],?_];rw[zaa];refine aW #[(r.c:Int),rfl,(),(),?_];rw[zaB];ext G aX;refine cX (λi e ys I=>∃(cs:List Nat) (v:Option V),e=[v,num.j]/\ys=(nI cs).f/\af H I/\I G=some (.lst ys)/\cs.Pairwise (·<·)/\(∀c∈cs,c<i)/\cs.c<=i) #[[],none,rfl,rfl,af.upd aX,ae,.nil,by simp,zaf _] ?_ ?_;ext i e ys I hi ⟨cs,v,rfl,rfl,C,h1,g,F,cl⟩;simp only[zbB];ext;refine#[num / 97,2,(i:Int),rfl,zeg k0 B!,zfA (zdX _ k0) k1,by decide,by decide,(),(),λd d0 d1=>?_];ext;refine if2 (λz=>?_)<|λz=>?_;ext;refine#[h1,zaa>>kG>>aq (),nNN _ _ _ #[cs++[i],_,rfl,?_,af.fresh C aX,ae,?_,?_,by rw[zav];simp;lia]];unfold nI;rw[zat,zat];rfl;exact List.pairwise_append.mpr #[g,pairwise_singleton _ _,λa ha b hb=>zai.mp hb>>F a ha];ext c X;ext(y|y:zal.mp X);let:=F c y;lia;rw[zai.mp y];lia;exact nNN _ _ _ #[cs,_,rfl,rfl,C,h1,g,λc X=>by let:=F c X;lia,()];ext e ys I ⟨cs,v,rfl,rfl,C,h1,g,F,cl⟩;ext;exact B _ _ #[G,cs,rfl,C,h1,g,F]
theorem dh:aM ["_law_rings_here", "_law_number", "_law_at", "_law_ring", "_law_k", "_law_turned", "_law_j", "_law_other", "_law_i"] ["_law_rings_here", "_law_number"]<|aB lI:=by walk_at "n"
theorem zv(D:Def K mg "_law_tied" lI ["_law_rings_here", "_law_number"])(T:Txt K mg Z):W! "_law_tied" 1 ["_law_rings_here", "_law_number"] Bh:=by
 exists D.cE dh,c8,hr;let#[p,U,R,n,k,rfl,_]:=h;rfl;let#[p,U,R,n,num,rfl,F,tr,hn,k0,k1,q]:=h;let many:=tr.many;let rp:(0:Int)<(R.c:Int):=();refine#[_,(ai (aC (i:=2) dh.nd rfl A!<|ao bE (pv 1)<|aE aL C! T.len aU<|aa (pv 0) ah)<|ai (aC (i:=3) dh.nd rfl A!<|aF aw (pv 0) (pv 2) C?)<|ai (bY (aO jg (aE aL C! T.len aU<|aa (pv 3) ah) aj<|aS _) (ak<|aN<|pv 0) bh)<|ai (aC (i:=4) dh.nd rfl A!<|ao bE (ao dF (pv 1) aj)<|aE aL C! T.len aU<|aa (pv 3) ah)<|ai (aC (i:=5) dh.nd rfl A!<|ao dG (bF cp (pv 3) (bZ<|pv 4) b7)<|bF cp (pv 3) b7<|bZ<|pv 4)<|ai (aC (i:=6) dh.nd rfl A!<|ao bI aj<|ao bE (ao dF (pv 1) aj)<|ao cW (aE aL C! T.len aU<|aa (pv 3) ah) aj)<|ai (bS zaF rfl (bJ<|pv 0) (aD (i:=7) dh.nd rfl A!)<|ak<|bS zaF rfl (bw rfl T.range<|aa (aE aL C! T.len aU<|aa (pv 7) ah) ah) (aD (i:=8) dh.nd rfl A!)<|ak<|bY (PW.pt<|pw_and (aO eP (aF aw (pv 5) aj C?) (aF aw (pv 7) (ao cW (pv 8) aj) C?)<|aS _)<|pw_and1<|aO eP (aF aw (pv 5) (pv 6) C?) (aF aw (pv 7) (pv 8) C?)<|aS _) (ak<|aN<|pv 0) bh)<|ak<|aN<|ao dG (ao dG (bF cp (pv 0) b7<|bZ<|pv 2)<|bH<|aa (bF cp (pv 5) b7<|bZ<|ao bI (pv 6) aj)<|aa (ao dG (bF cp (pv 5) (bZ<|pv 6) b7)<|bF cp (pv 5) b7<|bZ aj) ah)<|bF cp (pv 0) (bZ<|ao bI (pv 2) aj) b7),?_]
 dsimp only[cN];ext;refine#[_,_,rfl,.inl #[_,aI.of F.top,rfl],?_];rw[zaa,F.len];ext;let a1:=zbe num rp;let#[at',NT]:=zaM (zbh num<|show(R.c:Int)≠0 by lia);rw[NT]at a1 ⊢;let#[rb,r,Ri,SA,bL]:=F.at (i:=at') ();refine aT (aI.of F.top) (F.ix Ri) ?_;let#[r3,rn,Fp,LY]:=tr.ring<|zag SA;let r0:0<r.c:=();let Jo:(0:Int)<(r.c:Int):=();ext;refine#[_,_,rfl,.inl #[_,aI.of bL,rfl],?_];rw[zaa];ext;refine if2 (λz=>?_)<|λz=>?_;ext;exact q p U R H (λ_ _ e=>e) F tr;let r4:4<=r.c:=();ext;refine#[_,_,rfl,.inl #[_,aI.of bL,rfl],?_];rw[zaa];ext;let b1:=zbe (num / 97) Jo;let#[g,Zp]:=zaM (zbh (num / 97)<|show(r.c:Int)≠0 by lia);rw[Zp]at b1 ⊢;refine fL<|eS rfl #[_,rfl,(g:Int),rfl,rb,_,rfl,aI.of bL,λx G=>?_];rw[mv ()];generalize B:upd H x _=H1;let#[e1,x1]:=qLy G B;refine fL<|eS rfl #[_,rfl,(g:Int),rfl,rb,_,rfl,aI.of<|e1 _ _ bL,λy Y=>?_];rw[jY ()];generalize B:upd H1 y _=H2;let#[e2,y2]:=qLy Y B;refine#[x,y,_,_,rfl,rfl,e2 _ _ x1,y2,by rw[zaa,zaa,zbz,zaL,zak];lia,λtu ad=>?_];let e3:af H2<|upd H2 tu<|.lst<|(r.drop g).f++(r.take g).f:=af.upd ad;let WN:upd H2 tu (.lst<|(r.drop g).f++(r.take g).f) tu=some (.lst<|(cQ r g r.c).f):=by rw[<-yk ()];unfold du;erw[zat,ae]
 generalize upd H2 tu (.lst<|(r.drop g).f++(r.take g).f)=H3 at e3 WN ⊢;let RO:=(e1.trans e2).trans e3;clear x1 y2 e1 e2 e3 G Y ad;ext;refine#[_,_,rfl,.inl #[_,aI.of<|RO _ _ bL,rfl],?_];rw[zaa];let jp:(0:Int)<(r.c:Int)-3:=();ext;let c0:=zbh (num / 997) (show(r.c:Int)-3≠0 by lia);let c1:=zbe (num / 997) jp;obtain⟨l,am,j2,j3⟩:∃l:Nat,2+num / 997%((r.c:Int)-3)=(l:Int)/\2<=l/\l+2<=r.c:=#[(2+num / 997%((r.c:Int)-3)).toNat,(),(),()];rw[am];let O:=F.same RO;ext;refine cP ?_;let wl:=bA r g r.c;let t0:jJ ((cQ r g r.c).f) 0=some (V.int<|cy r g):=by let:=hJ (r:=cQ r g r.c) (i:=0) (j:=0) () ()<|.inl rfl;rw[this,mR ()];rfl
 let tj:jJ ((cQ r g r.c).f) (l:Int)=some (V.int<|cy r<|g+l):=by let:=hJ (r:=cQ r g r.c) (i:=(l:Int)) (j:=l) () ()<|.inl rfl;rw[this,mR ()]
 refine#[_,rfl,p,rfl,#[_,aI.of O.top],fJ (K:=K) (a:=p) (xs:=U.h) (λm I W=>∃v7 S:Option V,I=[p.i,num.j,at'.l,rb.i,g.l,tu.i,l.l,v7,S]/\W=H3/\∀(N:Nat) (o:dm),N<m->R[N]?=some o->∀i,dj o i≠(cy r g,cy r<|g+l))
  #[none,none,rfl,rfl,λN o h=>()] (λm I W _ ⟨_,_,_,h,_⟩=>h>>aI.of O.top) ?_ ?_]
 ext m xv I W G ⟨v7,S,rfl,rfl,ok⟩;let ml:m<R.c:=by let:=(zab.mp G).1;rw[zaa,F.len]at this;exact this
 let#[b,o,ha,hl,Zd]:=O.at (i:=m) ml;obtain rfl:xv=V.ref b:=by rw[zao,ha]at G;exact(zas G).symm
 let#[o3,on,an,ar]:=tr.ring<|zag hl;refine inF λ_ _=>?_;refine eB ?_;refine cP ?_;refine aJ<|jD<|aJ<|eS rfl<|aW #[_,_,rfl,.inl #[_,aI.of Zd,rfl],?_];rw[zaa];refine aW #[(o.c:Int),rfl,(),(),?_];rw[zaB];refine cM (λi I X=>∃S:Option V,I=[p.i,num.j,at'.l,rb.i,g.l,tu.i,l.l,b.i,S]/\X=W/\∀C,C<i->dj o (C+(o.c-1))≠(cy r g,cy r<|g+l))
  #[S,rfl,rfl,λC h=>()] ?_ ?_
 ext i I X hi ⟨S,rfl,rfl,WX⟩;simp only[zbB];ext;refine aT (aI.of WN) t0 ?_;ext;refine aT (aI.of Zd) (hJ (j:=(i+(o.c-1))%o.c) () () ?_) ?_;ext(z:i=0);subst z;rw[zcl,zaz ()];right;lia;rw[show i+(o.c-1)=i-1+o.c by lia,zax,zaz ()];left;lia;rw[show cy o ((i+(o.c-1))%o.c)=cy o (i+(o.c-1))from bT<|zbJ _ _];let ei:cy o (i+(o.c-1)+1)=cy o i:=bT (by rw[show i+(o.c-1)+1=i+o.c by lia,zax]);ext;ext(w1:cy r g=cy o (i+(o.c-1)));rw[zbc w1];ext;refine aT (aI.of WN) tj ?_;ext;refine aT (aI.of Zd) (hJ (j:=i) () ()<|.inl rfl) ?_;ext;refine if2 (λw2=>?_)<|λw2=>?_;ext;exact q p U R X RO O tr;ext;refine#[_,rfl,rfl,λC h=>?_];ext(y:C=i);subst y;ext e;let:=zaC Prod.snd e;rw[show(dj o<|C+(o.c-1)).2=cy o (C+(o.c-1)+1)from rfl,ei]at this;exact w2 this.symm;exact WX C ();rw[zaZ w1];ext;refine#[_,rfl,rfl,λC h=>?_];ext(y:C=i);subst y;ext e;exact w1 (zaC Prod.fst e).symm;exact WX C ();ext I X ⟨ap,rfl,rfl,WX⟩;refine nNy (by assumption) ?_;refine#[_,_,rfl,rfl,λN o' h h2 i=>?_];ext(y:N=m);subst y;rw[hl]at h2;cases h2;let:=WX ((i+1)%o.c)<|zaI _ ();rwa [show dj o ((i+1)%o.c+(o.c-1))=dj o i from bX<|by rw[zdD,show i+1+(o.c-1)=i+o.c by lia,zax]]at this;exact ok N o' () h2 i;ext I W ⟨v7,S,rfl,rfl,ok⟩;rw[zaa,F.len]at ok;refine nNy (by assumption) ?_;refine oj<|eo<|eo<|fL<|eS rfl #[_,rfl,(at':Int),rfl,p,_,rfl,aI.of O.top,λx G=>?_];rw[qp (by rw[zaa,O.len];lia),<-zeR];let g4:=O.taken at' G;generalize B:upd W x (.lst<|(U.take at').h)=X at g4 ⊢;let e4:=(qLy G B).1;let ag:=e4 _ _ WN;refine nD<|aJ<|fL<|eS rfl<|eo<|eS rfl<|r_c<|jb #[(l:Int)+1,rfl,tu,_,rfl,aI.of ag,λu hu=>?_];rw[show(l:Int)+1=((l+1:Nat):Int)by lia,jY (by rw[bA];lia),AQ ()];generalize B:upd X u _=H6;let#[e5,u5]:=qLy hu B;let al:=e5 _ _ ag;refine aJ<|eo<|fL<|eS rfl #[_,rfl,(l:Int),rfl,tu,_,rfl,aI.of al,λv hv=>?_];rw[mv (by rw[bA];lia),IG ()];generalize B:upd H6 v _=H7;let#[e6,v6]:=qLy hv B;refine fL<|eS rfl #[1,rfl,tu,_,rfl,aI.of<|e6 _ _ al,λc hc=>?_];rw[show oP ((cQ r g r.c).f) none (some (1:Int))=((cQ r g r.c).take 1).f from jY (k:=1) (by rw[bA];lia),AQ ()];generalize B:upd H7 c _=H8;let#[e7,c7]:=qLy hc B;refine#[v,c,_,_,rfl,rfl,e7 _ _ v6,c7,by rw[zaa,zaa,bA,bA,zak];lia,λd hd=>?_];let ew:cQ r (g+l) (r.c-l)++cQ r g 1=cQ r (g+l) (r.c-l+1):=by rw[show cQ r (g+l) (r.c-l+1)=cQ r (g+l) (r.c-l)++[cy r<|g+l+(r.c-l)]from sA];congr 1;show [cy r<|g+0]=_;rw[bT<|show(g+l+(r.c-l))%r.c=g%r.c by rw[show g+l+(r.c-l)=g+r.c by lia,zax]];rfl
 let e8:af H8<|upd H8 d<|.lst<|(cQ r (g+l)<|r.c-l).f++(cQ r g 1).f:=af.upd hd;let d8:upd H8 d (.lst<|(cQ r (g+l)<|r.c-l).f++(cQ r g 1).f) d=some (.lst<|(cQ r (g+l)<|r.c-l+1).f):=by erw[<-ew,zat,ae]
 generalize upd H8 d (.lst<|(cQ r (g+l)<|r.c-l).f++(cQ r g 1).f)=H9 at e8 d8 ⊢;refine aW #[by rw[zak];simp,λw hw=>?_];let Z1:=(e6.trans e7).trans e8;let g9:=aQ.two (Z1 _ _ u5) d8 hw;generalize B:upd H9 w (.lst [.ref u,.ref d])=yh at g9 ⊢;let e9:=(qLy hw B).1;let VN:=((g4.same e5).same Z1).same e9;refine#[x,w,_,_,rfl,rfl,VN.top,g9.top,by rw[zaa,zaa,g4.len,g9.len,zaL,zak];simp;lia,λy Y=>?_];let VO:=VN.wg g9 Y;generalize B:upd yh y (.lst<|(U.take at').h++[u,d].h)=vt at VO ⊢;let Lm:=(((e4.trans e5).trans Z1).trans e9).trans<|(qLy Y B).1;let RC:=O.same Lm;refine fL<|eS rfl<|eo<|eS rfl<|r_c<|jb #[(at':Int)+1,rfl,p,_,rfl,aI.of RC.top,λz hz=>?_];rw[show(at':Int)+1=((at'+1:Nat):Int)by lia,iF (by rw[zaa,RC.len];lia),<-zeQ];let Pt:=RC.dropped (at'+1) hz;generalize B:upd vt z (.lst<|(U.drop<|at'+1).h)=Ax at Pt ⊢;let vo:=(qLy hz B).1;let Pu:=VO.same vo;refine#[y,z,_,_,rfl,rfl,by let:=Pu.top;rw[zat]at this;exact this,Pt.top,by rw[zav,zaa,zaa,zaa,g4.len,Pt.len,zaL,zbz,zak];simp;lia,λt ht=>?_];let ac:=Pu.wg Pt ht;rw[zat]at ac;let#[L,tg,ld,rfl]:=tr;let YI:cy r (g+l)∉ez L (cy r g):=λz=>by let gr:=(ld.good r<|zag SA).dt g;let:Dt L (cy r g,cy r<|g+l):=#[gr.lo,gr.hi,z];let#[o,ho,Vx]:=zaG.mp<|ld.all _ this;let#[N,Xj]:=zaS.mp ho;let#[i,ei]:=(bN (by let:=(ld.good o ho).two;lia)).mp Vx;exact ok N o (zab.mp Xj).1 Xj i ei.symm
 let#[M,tM,lM,rM]:=tg.Sk ld SA j2 j3 YI;exact q t _ _ _ ((RO.trans Lm).trans<|vo.trans<|af.upd ht) ac #[M,tM,rM,lM]
theorem et:aM ["_law_rings_here", "_law_found", "_law_number", "_law_ring", "_law_k"] ["_law_rings_here"]<|aB iQ:=by walk_at "n"
theorem qX(D:Def K mg "_law_corners" iQ ["_law_rings_here"])(T:Txt K mg Z):W! "_law_corners" 1 ["_law_rings_here"] lB:=by
 exists D.cE et,c8,hr;let#[p,as,L,R,rfl,_]:=h;rfl;let#[p,as,L,R,rfl,G,tg,v,hn,q]:=h;let im:=tg.map;let nd:(R.flatMap λr=>sh (r.c-1) r).Nodup:=(iX R).nodup_iff.mpr v.nd;let kl:(R.flatMap λr=>sh (r.c-1) r).c<=5000:=by let e:=((iX (s:=λr=>r.c-1) R).length_eq);let d:=v.dec.len im;rw[show((R.map<|sh 0).flatten)=R.flatMap (sh 0)from rfl]at d;rw[e,d];let:=uW im<|zaf L.c;let:L.c*(L.c-1)<=60*60:=zbE hn ();lia
 refine#[_,(ai (aC (i:=1) et.nd rfl A! BJ)<|ai (bS zaF rfl (mN T.enumerate<|aa (pv 0) ah) (jF (n:=2) rfl<|bo (aD (i:=2) et.nd rfl A!)<|bo (aD (i:=3) et.nd rfl A!) dY)<|ak<|bS zaF rfl (bw rfl T.range<|aa (aE aL C! T.len aU<|aa (pv 3) ah) ah) (aD (i:=4) et.nd rfl A!)<|ak<|rO (kW hr) (pv 1) (cR<|aa (aF aw (pv 3) (ao cW (pv 4) aj) C?)<|aa (aF aw (pv 3) (pv 4) C?) ah) (cR<|aa (aF aw (pv 3) (ao cW (pv 4) aj) C?)<|aa (pv 2) ah) rfl)<|ak<|aN<|pv 1),?_]
 dsimp only[cN];ext;ext B K1;generalize qq:upd H B _=H0;let#[e0,g0]:=qLy K1 qq;ext;refine cP ?_;refine#[_,rfl,p,rfl,#[_,aI.of<|e0 _ _ G.top],mq (K:=K) (a:=p) (xs:=as.h) (λi y u=>∃(l:List<|aA×Addr) (v2 v3 v4:Option V),y=[p.i,B.i,v2,v3,v4]/\af H u/\u B=some (.dT<|kC l)/\l.map (·.1)=(R.take i).flatMap (λr=>sh (r.c-1) r)/\∀d a,(d,a)∈l->∃c:Int,u a=some (.tup [.int c,.int<|lo R d])/\Dt L (c,d.1)/\nx L (c,d.1)=d)
  #[[],none,none,none,rfl,e0,g0,rfl,λd a h=>by cases h] (λi y u _ ⟨_,_,_,_,_,F,_⟩=>aI.of<|F _ _ G.top) ?_ ?_]
 ext i x pr y u hx ⟨l,v2,v3,v4,rfl,F,O,m,kv⟩ Cj;let hi:i<R.c:=by let:=(zab.mp hx).1;rw[zaa,G.len]at this;exact this
 let#[b,r,ha,xF,bL]:=G.at hi;obtain rfl:x=V.ref b:=by rw[zao,ha]at hx;exact(zas hx).symm
 let rm:=zag xF;let g:=v.good r rm;let r3:=tg.three v rm;let r0:0<r.c:=();let fk:(R.take<|i+1).flatMap (λr=>sh (r.c-1) r)=(R.take i).flatMap (λr=>sh (r.c-1) r)++sh (r.c-1) r:=by rw[take_snoc xF,zcj,flatMap_singleton]
 let kn:((R.take i).flatMap (λr=>sh (r.c-1) r)++sh (r.c-1) r).Nodup:=by erw[<-fk,(xM _ _ _).nodup nd]
 let al:((R.take i).flatMap<|λr=>sh (r.c-1) r).c+r.c<=5000:=by let:=(xM (λr=>sh (r.c-1) r) R<|i+1).length_le;rw[fk,zav,dE]at this;lia
 let M:af u<|upd u pr<|.tup [.int i,.ref b]:=af.upd Cj;let g2:=M _ _ O;let N:=F.trans M;refine inF λ_ _=>?_;refine fD (SqT.of ae) rfl ?_;generalize upd u pr (.tup [.int i,.ref b])=H2 at M g2 N ⊢;ext;refine cP ?_;refine aJ<|jD<|aJ<|eS rfl<|aW #[_,_,rfl,.inl #[_,aI.of<|N _ _ bL,rfl],?_];rw[zaa];refine aW #[(r.c:Int),rfl,(),(),?_];rw[zaB];refine cM (λk y C=>∃(l:List<|aA×Addr) (v4:Option V),y=[p.i,B.i,i.l,b.i,v4]/\af H C/\C B=some (.dT<|kC l)/\l.map (·.1)=(R.take i).flatMap (λr=>sh (r.c-1) r)++(sh (r.c-1) r).take k/\∀d a,(d,a)∈l->∃c:Int,C a=some (.tup [.int c,.int<|lo R d])/\Dt L (c,d.1)/\nx L (c,d.1)=d)
  #[l,_,rfl,N,g2,take_zero>>zdd>>m,λd a h=>let ⟨c,h1,h2⟩:=kv d a h;#[c,M _ _ h1,h2]] ?_ ?_
 clear m kv O g2 M N;ext k y C hk ⟨l,w4,rfl,Y,U,m,kv⟩;simp only[zbB];let Pf:=Y _ _ bL;let ed:(sh (r.c-1) r)[k]?=some (dj r<|k+(r.c-1)):=xg hk;let es:dj r (k+(r.c-1))=(cy r<|k+(r.c-1),cy r k):=by unfold dj;rw[bT<|show(k+(r.c-1)+1)%r.c=k%r.c by rw[show k+(r.c-1)+1=k+r.c by lia,zax]]
 let ac:dj r (k+(r.c-1))∉l.map (·.1):=m>>kF kn ed
 refine inF λ_ _=>?_;refine eB ?_;refine DS<|qH<|aJ<|eo<|eS rfl<|eo<|eS rfl<|r_c<|jb<|aT (aI.of Pf) (hJ (j:=(k+(r.c-2))%r.c) () () ?_) ?_;ext(z:k<2);rw[zaz ()];right;lia;rw[show k+(r.c-2)=k-2+r.c by lia,zax,zaz ()];left;lia;rw[show cy r ((k+(r.c-2))%r.c)=cy r (k+(r.c-2))from bT<|zbJ _ _];refine aJ<|eS rfl<|aW #[OR,λta ad=>?_];generalize qq:upd C ta _=X;let#[e9,t9]:=qLy ad qq;let Pe:=e9 _ _ Pf;refine eS rfl<|qH<|aJ<|eo<|eS rfl<|eo<|eS rfl<|r_c<|jb<|aT (aI.of Pe) (hJ (j:=(k+(r.c-1))%r.c) () () ?_) ?_;ext(z:k<1);rw[zaz ()];right;lia;rw[show k+(r.c-1)=k-1+r.c by lia,zax,zaz ()];left;lia;rw[show cy r ((k+(r.c-1))%r.c)=cy r (k+(r.c-1))from bT<|zbJ _ _];refine aJ<|eo<|eS rfl<|eS rfl<|aT (aI.of Pe) (hJ (j:=k) () ()<|.inl rfl)<|aW #[OR,λW Xc=>?_];let qj:af X<|upd X W<|.tup [.int<|cy r<|k+(r.c-1),.int<|cy r k]:=af.upd Xc;let Yb:upd X W (.tup [.int<|cy r<|k+(r.c-1),.int<|cy r k]) W=some (.tup<|(jH<|dj r<|k+(r.c-1)).map kV):=es>>ae
 generalize upd X W (.tup [.int<|cy r<|k+(r.c-1),.int<|cy r k])=yh at qj Yb ⊢;let S:=e9.trans qj;let am:l.c<=5000:=by let e:=zaC List.length m;rw[zaa,zav,zaL,dE]at e;lia
 refine#[B,_,rfl,vm.t (k:=jH<|dj r<|k+(r.c-1)) (S _ _ U) Yb (by rw[uE,zak];lia),?_];rw[Uj ac];let ag:∀{a:Addr} {xs:List V},yh a=some (.tup xs)->a≠B:=λh z=>by rw[z,S _ _ U]at h;cases h
 refine nNy (by assumption) ?_;refine#[l++[(dj r<|k+(r.c-1),ta)],_,rfl,af.fresh (Y.trans S) K1,ae,?_,λd a h=>?_];rw[zat,m,take_snoc ed,zcu];rfl;ext(h|h:zal.mp h);let#[c,h1,h2]:=kv d a h;let HJ:=S _ _ h1;exact#[c,by erw[aG<|ag HJ,HJ],h2];let h:=zai.mp h;cases h;let I:=qj _ _ t9;refine#[cy r<|k+(r.c-2),by erw[aG<|ag I,oB v xF,I],?_,?_];let:=g.dt<|k+(r.c-2);rw[show dj r (k+(r.c-2))=(cy r<|k+(r.c-2),cy r<|k+(r.c-2)+1)from rfl,show k+(r.c-2)+1=k+(r.c-1)by lia]at this;rw[es];exact this;let:=g.st<|k+(r.c-2);rw[show dj r (k+(r.c-2))=(cy r<|k+(r.c-2),cy r<|k+(r.c-2)+1)from rfl,show k+(r.c-2)+1=k+(r.c-1)by lia]at this;rw[es]at this ⊢;exact this;ext y C ⟨l,w4,rfl,Y,U,m,kv⟩;rw[show(sh (r.c-1) r).take r.c=sh (r.c-1) r from zca (dE>>zaf _),<-fk]at m;refine nNy (by assumption) ?_;exact#[l,_,_,_,rfl,Y,U,m,kv];ext y u ⟨l,v2,v3,v4,rfl,F,O,m,kv⟩;rw[zaa,G.len,zbg]at m;ext;refine q B l u F K1 #[O,m>>nd,λd=>?_,kv];rw[m];constructor;ext h;let h:=(iX R).mem_iff.mp h;let#[r,sd,hd]:=zaG.mp h;let#[j,rfl]:=(bN (by let:=(v.good r sd).two;lia)).mp hd;exact(v.good r sd).dt j;exact λh=>(iX R).mem_iff.mpr<|v.all d h
theorem bc:aM ["_law_rings_here", "_law_corners_here", "_law_found", "_law_place", "_law_first", "_law_other", "_law_ring", "_law_number"] ["_law_rings_here"]<|aB eW:=by walk_at "n"
theorem kZ(D:Def K mg "_law_turned_inside" eW ["_law_rings_here"])(T:Txt K mg Z)(cS:W! "_law_places" 1 ["_law_rings_here"] jQ)(iW:W! "_law_corners" 1 ["_law_rings_here"] lB):W! "_law_turned_inside" 2 ["_law_rings_here"] wV:=by
 exists D.cE bc,c8,hr;let#[p,as,R,n,rfl,_]:=h;rfl;let#[p,as,R,n,rfl,gp,tr,hn,q]:=h;let#[L,tg,ld,rfl]:=id tr;let B:=tg.map;refine#[_,(ai (aC (i:=1) bc.nd rfl A!<|av iW hr aP<|aa (pv 0) ah)<|ai (aC (i:=2) bc.nd rfl A!<|bH ah)<|ai (bS zaF rfl (bw rfl T.range<|aa (av cS hr aP<|aa (pv 0) ah) ah) (aD (i:=3) bc.nd rfl A!)<|ai (FH<|aC (i:=4) bc.nd rfl A!<|aE (qu rfl) C! T.min qw<|aa (bR (tg:=["_law_one", "_law_other"]) (fr:=[("_law_place",3)]) D! rfl (BG<|pv 1) (λ_ _ _ _ _=>(mO (K:=K) rfl (n:=2) rfl<|bo (aD (i:=0) (show [("_law_one":Str),("_law_other":Str),("_law_place":Str)].Nodup by decide +kernel) rfl A!)<|bo (aD (i:=1) (show [("_law_one":Str),("_law_other":Str),("_law_place":Str)].Nodup by decide +kernel) rfl A!) dY)) (λ_ _ _ _ _=>(gU<|aO eP (pv 0) (pv 2)<|aS _))<|λ_ _ _ _ _=>(pv 1)) ah)<|ai (aC (i:=5) bc.nd rfl A!<|pv 4)<|ai (aC (i:=6) bc.nd rfl A!<|bH ah)<|ai (lV zaF (PW.pt<|pw_or (aO (Kb hr.units) (pv 6) (bH ah)<|aS _)<|pw_or1<|aO tS (pv 5) (pv 4)<|aS _)<|ai (tI (rP (kW hr) (pv 1) (cR<|aa (pv 3)<|aa (pv 5) ah) C?)<|jF (n:=2) rfl<|bo (aD (i:=5) bc.nd rfl A!)<|bo (aD (i:=7) bc.nd rfl A!) dY)<|ak<|cK<|fS zaN zbj zbk cL (pv 6)<|aa (pv 7) ah)<|ak<|cK<|fS zaN zbj zbk cL (pv 2)<|aa (pv 6) ah)<|ak<|aN<|pv 2),?_]
 dsimp only[cN];ext;refine#[p,as,L,R,rfl,gp,tg,ld,hn,λgd ks H1 e1 K1 RX=>?_];ext;refine#[zaR _,λu Gf=>?_];let e2:af H1<|upd H1 u<|.lst []:=af.upd Gf;let g2:aQ (upd H1 u<|.lst []) u [] []:=#[ae,rfl,λi a l h=>by simp at h];generalize upd H1 u (.lst [])=H2 at e2 g2 ⊢;ext;refine cP ?_;refine aJ<|jE<|aJ<|eS rfl<|aW ?_;refine#[p,as,R,L.c,rfl,(gp.same e1).same e2,tr,hn,λH3 e3=>?_];refine aW #[(L.c:Int),rfl,(),(),?_];rw[zaB];refine cM (λk N X=>∃(S:cx) (M:dy) (v4 v5 v6 v7 Y:Option V),N=[p.i,gd.i,u.i,v4,v5,v6,v7,Y]/\af H1 X/\aQ X u S M/\u∉S/\M.c=k/\∀(b:Nat) (q:dm),M[b]?=some q->eD q (rd L R (b:Int)))
  #[[],[],none,none,none,none,none,rfl,e2.trans e3,g2.same e3,by simp,rfl,λi l h=>by simp at h] ?_ ?_
 ext k N X hk ⟨S,M,v4,v5,v6,v7,Y,rfl,e4,g4,Ks,rfl,Eg⟩;simp only[zbB];refine inF λ_ _=>?_;refine eB ?_;let C:(0:Int)<=(M.c:Int):=();let x:(M.c:Int)<(L.c:Int):=();let Ad:=tg.Ad C x;let We:=RX.same e4;let NL:L[M.c]?=some (ez L (M.c:Int)):=by let:=aK C x;rwa [zaB]at this
 let nd:=B.nd _ _ NL;let rl:=fb nd (n:=L.c) λy hy=>#[(B.rg _ _ NL y hy).1,(B.rg _ _ NL y hy).2.1];let YV:ks.c<=5000:=by let e:(ks.map (·.1)).c=(dR L L.c).c:=len_eq RX.nd (cv B<|zaf _) λd=>(RX.mem d).trans #[λh=>h.all,λh=>Dt.of h];rw[zaa]at e;let:=uW B<|zaf L.c;let:L.c*(L.c-1)<=60*60:=zbE hn ();lia
 refine en<|CB We K1 rfl rfl C x (λz=>by rw[z]at Ad;simp at Ad) YV λm H5 hm ag e5=>?_;let#[g,Zu,RK]:=df hm;let Xz:=We.same e5;let r0:0<(ez L (M.c:Int)).c:=();ext;refine#[zaR _,λr W=>?_];generalize G:upd H5 r _=H6;let#[e6,o6]:=qLy W G;ext;refine nW (λN U=>∃(t:Nat) (Y:Option V),t<=(ez L (M.c:Int)).c/\N=[p.i,gd.i,u.i,some<|.int (M.c:Int),m.j,some<|.int<|cy (ez L (M.c:Int))<|g+t,r.i,Y]/\af H5 U/\U r=some (.lst<|(gR L R (M.c:Int) g t).f))
  (λN U=>100-lenOf (r.i) U) #[0,_,zaR _,by rw[<-RK];rfl,e6,o6] ?_
 ext N U ⟨t,w8,ht,rfl,e7,F⟩;let tl:∀t,(gR L R (M.c:Int) g t).c=t:=λt=>by unfold gR;simp
 refine MS ?_;refine pG<|eo<|eS rfl<|nD<|aW #[zaR _,λz hz=>?_];generalize G:upd U z _=H8;let#[v,z8]:=qLy hz G;refine#[nH<|gR L R (M.c:Int) g t,nH [],rN<|v _ _ F,rN z8,shaped_ints _,shaped_ints _,?_];rw[zaj B!,Gq];refine#[_,rfl,?_];ext(t0:t=0);rw[zbc<|show gR L R (M.c:Int) g t=[]by rw[t0];rfl];ext;refine w_turn ?_;refine en<|ef<|yY<|eS rfl<|qH<|aJ<|eS rfl<|aJ<|eS rfl<|aW #[OR,λkb Vt=>?_];generalize G:upd H8 kb _=H9;let#[O,k9]:=qLy Vt G;let Wd:=((Xz.same e7).same v).same O;let dt:Dt L ((M.c:Int),cy (ez L (M.c:Int))<|g+t):=#[C,x,fE r0];let#[a,c,hv,ha,xG,Co]:=Wd.get dt;let ec:=behind B C x (j:=g+t) xG Co;subst ec;refine#[gd,.ref a,rfl,by erw[<-hv,jL.t Wd.top k9],?_];refine fD (SqT.of ha) rfl<|hV<|eB<|hV<|eB<|pI ?_;let o9:=O _ _<|v _ _ F;refine pJ<|Ha<|eS rfl ?_;refine#[.inl #[rfl,_,aI.of o9],?_];refine aJ<|eS rfl<|aW<|cV o9 (zaa>>tl>>aq ()) ?_;let O5:upd H9 r (.lst<|(gR L R (M.c:Int) g t).f++[.int<|lo R ((M.c:Int),cy (ez L (M.c:Int))<|g+t)]) r=some (.lst<|(gR L R (M.c:Int) g<|t+1).f):=by rw[ae];unfold gR;rw[zcn,zat,zat];rfl
 refine#[#[t+1,_,(),rfl,af.fresh ((e7.trans v).trans O) W,O5],?_];rw[jV O5,jV F];simp only[zaa,tl];lia;rw[zaZ<|show ¬gR L R (M.c:Int) g t=[]from λw=>t0<|by rw[<-tl t,w];rfl];ext;refine nQ (λzK=>?_)<|λhe=>?_;let ad:t<(ez L (M.c:Int)).c:=by refine zaA λw=>zK ?_;rw[show g+t=g+(ez L (M.c:Int)).c by lia,bT<|zax _ _,RK]
 refine w_turn ?_;refine en<|ef<|yY<|eS rfl<|qH<|aJ<|eS rfl<|aJ<|eS rfl<|aW #[OR,λkb Vt=>?_];generalize G:upd H8 kb _=H9;let#[O,k9]:=qLy Vt G;let Wd:=((Xz.same e7).same v).same O;let dt:Dt L ((M.c:Int),cy (ez L (M.c:Int))<|g+t):=#[C,x,fE r0];let#[a,c,hv,ha,xG,Co]:=Wd.get dt;let ec:=behind B C x (j:=g+t) xG Co;subst ec;refine#[gd,.ref a,rfl,by erw[<-hv,jL.t Wd.top k9],?_];refine fD (SqT.of ha) rfl<|hV<|eB<|hV<|eB<|pI ?_;let o9:=O _ _<|v _ _ F;refine pJ<|Ha<|eS rfl ?_;refine#[.inl #[rfl,_,aI.of o9],?_];refine aJ<|eS rfl<|aW<|cV o9 (zaa>>tl>>aq ()) ?_;let O5:upd H9 r (.lst<|(gR L R (M.c:Int) g t).f++[.int<|lo R ((M.c:Int),cy (ez L (M.c:Int))<|g+t)]) r=some (.lst<|(gR L R (M.c:Int) g<|t+1).f):=by rw[ae];unfold gR;rw[zcn,zat,zat];rfl
 refine#[#[t+1,_,(),rfl,af.fresh ((e7.trans v).trans O) W,O5],?_];rw[jV O5,jV F];simp only[zaa,tl];lia;let te:t=(ez L (M.c:Int)).c:=by refine zaA λw=>?_;exact dH nd (i:=g) (j:=g+t) () ()<|RK.trans he.symm
 rw[te]at F;ext;let Px:=(e5.trans e7).trans v;let g8:=g4.same Px;refine#[.inl #[rfl,_,aI.of g8.top],?_];let ac:r≠u:=λw=>by let:=e5 _ _ g4.top;rw[w,this]at W;cases W
 let bl:=g4.len;refine aJ<|eS rfl<|aW<|cV g8.top (zaa>>aq ()) ?_;refine nNy (by assumption) ?_;refine#[S++[r],M++[gR L R (M.c:Int) g (ez L (M.c:Int)).c],_,_,_,_,_,rfl,?_,g8.snoc Ks ac<|v _ _ F,?_,by rw[zav];rfl,λb q I=>?_];refine λb o hb=>?_;rw[aG<|λw=>by rw[w,Gf]at hb;cases hb];exact Px _ _<|e4 _ _ hb;ext w;ext(w|w:zal.mp w);exact Ks w;exact ac (zai.mp w).symm;rw[zfe]at I;ext(w:b<M.c);rw[zam w]at I;exact Eg b q I;rw[zaj w]at I;let il:=(zab.mp I).1;let:b=M.c:=by simp at il;lia
 subst this;simp at I;subst I;exact IL ld B C x Zu;ext N X ⟨S,M,v4,v5,v6,v7,Y,rfl,e4,g4,Ks,ml,Eg⟩;ext;exact q u S M X (e1.trans e4) g4<|tg.turned ld ml Eg
theorem eI:aM ["_law_head", "_law_rings_here", "_law_k"] ["_law_head"]<|aB ko:=by walk_at "n"
theorem vQ(D:Def K mg "_law_rings" ko ["_law_head"])(T:Txt K mg Z)(Cw:W! "_law_base" 1 ["_law_number"] Fj)(uO:W! "_law_stacked" 2 ["_law_rings_here", "_law_number", "_law_fresh"] sH)(Cu:W! "_law_tied" 1 ["_law_rings_here", "_law_number"] Bh)(cS:W! "_law_places" 1 ["_law_rings_here"] jQ)(mf:W! "_law_turned_inside" 2 ["_law_rings_here"] wV):W! "_law_rings" 3 ["_law_head"] wZ:=by
 exists D.cE eI,c8,p;let#[h,r,rfl,_]:=h;rfl;let#[hd,r,rfl,hh,fl,fr,q]:=h;let at':∀(i:Nat) (H':Hp),i<6->af H H'->∃x:Int,jJ r.f (i:Int)=x.j/\aI K H' hd r.f/\0<=x/\x<10 ^ 61:=λi H' hi e=>by
  let il:i<r.c:=();let:=fr r[i]<|zbo il;exact#[r[i],bV (by rw[zao,zac il];rfl),aI.of<|e _ _ hh,this.1,()]
 let M:∀{x:Int},0<=x->x<10 ^ 61->0<=x / 3/\x / 3<10 ^ 61:=λh0 h1=>#[zeg h0 B!,zfA (zdX _ h0) h1];refine#[_,(ai (aC (i:=1) eI.nd rfl A!<|av Cw p aP<|aa (aF aw (pv 0) aj C?) ah)<|ai (bS zaF rfl (bw rfl T.range<|aa (ao bE (aF aw (pv 0) aj C?) aj) ah) (aD (i:=2) eI.nd rfl A!)<|ak<|bY (aO eP (ao bE (aF aw (pv 0) (ao bI aj<|pv 2) C?) aj) aj<|aS _) (ak<|aC (i:=1) eI.nd rfl A!<|av Cu p aP<|aa (pv 1)<|aa (ao dF (aF aw (pv 0) (ao bI aj<|pv 2) C?) aj) ah)<|ak<|bY (aO jg (av cS p aP<|aa (pv 1) ah) aj<|aS _) (ak<|aC (i:=1) eI.nd rfl A!<|av uO p aP<|aa (pv 1)<|aa (ao dF (aF aw (pv 0) (ao bI aj<|pv 2) C?) aj)<|aa (av cS p aP<|aa (pv 1) ah) ah) bh)<|ai (bY (PW.pt<|pw_and (aO eP (ao bE (aF aw (pv 0) aj C?) aj) aj<|aS _)<|pw_and1<|aO jg (aE aL C! T.len aU<|aa (pv 1) ah) aj<|aS _) (ak<|aC (i:=1) eI.nd rfl A!<|av mf p aP<|aa (pv 1) ah) bh)<|ak<|aN<|pv 1),?_]
 dsimp only[cN];ext;let#[x0,a0,s0,b0,c0]:=at' 0 H ()<|λ_ _ e=>e;refine aT s0 a0 ?_;ext;refine#[x0,rfl,b0,c0,λt b R m H1 L O S X4=>?_];refine eB<|nNy (by assumption) ?_;refine en<|cP ?_;let#[U,a1,s1,b1,c1]:=at' 1 H1 () L;refine aJ<|eo<|eo<|eS rfl<|r_c<|aT s1 a1<|r_c<|DM B!<|aW ?_;let z0:=zbh U (show(4:Int)≠0 by decide);let z1:=zbe U (show(0:Int)<4 by decide);refine#[U%4,rfl,(),(),?_];refine cM (λk Y l=>∃(t:Addr) (b:cx) (R:dy) (n:Nat) (v:Option V),Y=[hd.i,t.i,v]/\af H l/\aQ l t b R/\n<=8/\TR R n) #[t,b,R,m,none,rfl,L,O,S,X4] ?_ ?_;clear O X4 S L s1 a1;ext k Y l hk ⟨t,b,R,n,v,rfl,g,c,G,j⟩;simp only[zbB];let#[x,a,I,u,B]:=at' (2+k) l () g;rw[show((2+k:Nat):Int)=2+(k:Int)by lia]at a;ext;refine aT I a ?_;ext;refine if2 (λz=>?_)<|λz=>?_;ext;refine aT I a ?_;ext;refine#[t,b,R,n,x / 3,rfl,c,j,(),(M u B).1,(M u B).2,λt' C F N d X W=>?_];ext;exact#[t',C,F,n,_,rfl,g.trans d,X,G,W];ext;refine#[t,b,R,n,rfl,c,j,(),λN d=>?_];ext;refine if2 (λy=>?_)<|λy=>?_;let#[_,_,s3,_,_]:=at' (2+k) N ()<|g.trans d;ext;refine aT s3 a ?_;ext;refine#[t,b,R,n,rfl,c.same d,j,(),λH4 e4=>?_];ext;refine#[t,b,R,n,x / 3,rfl,(c.same d).same e4,j,(),(M u B).1,(M u B).2,λt' C F H5 e5 g5 ac=>?_];ext;exact#[t',C,F,n+1,_,rfl,((g.trans d).trans e4).trans e5,g5,(),ac];ext;exact#[t,b,R,n,_,rfl,g.trans d,c.same d,G,j];clear O X4 S L s1 a1;ext Y l ⟨t,b,R,n,v,rfl,g,c,G,j⟩;let#[x,a,I,u,B]:=at' 5 l () g;ext;refine aT I a ?_;ext;ext(z:x%3=1);rw[zbc z];ext;refine#[_,_,rfl,.inl #[_,aI.of c.top,rfl],?_];rw[zaa,c.len];ext;refine if2 (λy=>?_)<|λy=>?_;ext;refine#[t,b,R,n,rfl,c,j,(),λt' C F N d X W=>?_];ext;exact q t' C F R.c N (g.trans d) X () W;ext;exact q t b R n l g c G j;rw[zaZ z];ext;exact q t b R n l g c G j
theorem cU:aM ["_law_rings_here", "_law_number", "_law_corners_here", "_law_found", "_law_place", "_law_first", "_law_order", "_law_turn"] ["_law_rings_here", "_law_number"]<|aB jz:=by walk_at "n"
theorem tY(D:Def K mg "_law_orders" jz ["_law_rings_here", "_law_number"])(T:Txt K mg Z)(dC:W! "_law_digit" 1 ["_law_number", "_law_base_here", "_law_place"] lC)(cS:W! "_law_places" 1 ["_law_rings_here"] jQ)(iW:W! "_law_corners" 1 ["_law_rings_here"] lB):W! "_law_orders" 2 ["_law_rings_here", "_law_number"] sO:=by
 exists D.cE cU,c8,hr;let#[p,as,R,n,k,rfl,_]:=h;rfl;let#[p,as,R,n,num,rfl,gp,tr,hn,k0,k1,q]:=h;let#[L,tg,ld,rfl]:=id tr;let I:=tg.map;refine#[_,(ai (aC (i:=2) cU.nd rfl A!<|av iW hr aP<|aa (pv 0) ah)<|ai (aC (i:=3) cU.nd rfl A!<|bH ah)<|ai (bS zaF rfl (bw rfl T.range<|aa (av cS hr aP<|aa (pv 0) ah) ah) (aD (i:=4) cU.nd rfl A!)<|ai (FH<|aC (i:=5) cU.nd rfl A!<|aE (qu rfl) C! T.min qw<|aa (bR (tg:=["_law_one", "_law_other"]) (fr:=[("_law_place",4)]) D! rfl (BG<|pv 2) (λ_ _ _ _ _=>(mO (K:=K) rfl (n:=2) rfl<|bo (aD (i:=0) (show [("_law_one":Str),("_law_other":Str),("_law_place":Str)].Nodup by decide +kernel) rfl A!)<|bo (aD (i:=1) (show [("_law_one":Str),("_law_other":Str),("_law_place":Str)].Nodup by decide +kernel) rfl A!) dY)) (λ_ _ _ _ _=>(gU<|aO eP (pv 0) (pv 2)<|aS _))<|λ_ _ _ _ _=>(pv 1)) ah)<|ai (aC (i:=6) cU.nd rfl A!<|bH<|aa (pv 5) ah)<|ai (lV zaF (aO tS (aF dZ (rP (kW hr) (pv 2) (cR<|aa (pv 4)<|aa (aF aw (pv 6) (je fX aj) C?) ah) C?) aj C?) (pv 5)<|aS _)<|ak<|cK<|fS zaN zbj zbk cL (pv 6)<|aa (aF dZ (rP (kW hr) (pv 2) (cR<|aa (pv 4)<|aa (aF aw (pv 6) (je fX aj) C?) ah) C?) aj C?) ah)<|ai (aC (i:=7) cU.nd rfl A!<|ao bE (av dC hr aP<|aa (pv 1)<|aa aj<|aa (pv 4) ah)<|aE aL C! T.len aU<|aa (pv 6) ah)<|ak<|cK<|fS zaN zbj zbk cL (pv 3)<|aa (ao dG (bF cp (pv 6) (bZ<|pv 7) b7)<|bF cp (pv 6) b7<|bZ<|pv 7) ah)<|ak<|aN<|pv 3),?_]
 dsimp only[cN];ext;refine#[p,as,L,R,rfl,gp,tg,ld,hn,λgd ks H1 e1 K1 RX=>?_];ext;refine#[zaR _,λB Gf=>?_];let e2:af H1<|upd H1 B<|.lst []:=af.upd Gf;let g2:aQ (upd H1 B<|.lst []) B [] []:=#[ae,rfl,λi a l h=>by simp at h];generalize upd H1 B (.lst [])=H2 at e2 g2 ⊢;ext;refine cP ?_;refine aJ<|jE<|aJ<|eS rfl<|aW ?_;refine#[p,as,R,L.c,rfl,(gp.same e1).same e2,tr,hn,λH3 e3=>?_];refine aW #[(L.c:Int),rfl,(),(),?_];rw[zaB];refine cM (λk O H4=>∃(C:cx) (M:dy) (v4 v5 v6 v7:Option V),O=[p.i,num.j,gd.i,B.i,v4,v5,v6,v7]/\af H1 H4/\aQ H4 B C M/\B∉C/\M.c=k/\(∀(i:Nat) (l m:dm),M[i]?=some l->L[i]?=some m->eD l m)/\(B::C).Nodup/\∀b∈B::C,H b=none)
  #[[],[],none,none,none,none,rfl,e2.trans e3,g2.same e3,by simp,rfl,(λi l m h=>by simp at h),by simp,λb S=>zai.mp S>>e1.free Gf] ?_ ?_
 ext k O H4 hk ⟨C,M,v4,v5,v6,v7,rfl,e4,Y,Ks,rfl,Eg,YJ,ZT⟩;simp only[zbB];refine inF λ_ _=>?_;refine eB ?_;let p0:(0:Int)<=(M.c:Int):=();let p1:(M.c:Int)<(L.c:Int):=();let Ad:=tg.Ad p0 p1;let We:=RX.same e4;let NL:L[M.c]?=some (ez L (M.c:Int)):=by let:=aK p0 p1;rwa [zaB]at this
 let nd:=I.nd _ _ NL;let rl:=fb nd (n:=L.c) λy hy=>#[(I.rg _ _ NL y hy).1,(I.rg _ _ NL y hy).2.1];let YV:ks.c<=5000:=by let e:(ks.map (·.1)).c=(dR L L.c).c:=len_eq RX.nd (cv I<|zaf _) λd=>(RX.mem d).trans #[λh=>h.all,λh=>Dt.of h];rw[zaa]at e;let:=uW I<|zaf L.c;let:L.c*(L.c-1)<=60*60:=zbE hn ();lia
 refine en<|CB We K1 rfl rfl p0 p1 (λz=>by rw[z]at Ad;simp at Ad) YV λm H5 hm ag e5=>?_;generalize bL:ez L (M.c:Int)=g at Ad nd rl hm ag NL;let#[r,Zu,RK]:=df hm;let r0:0<g.c:=();ext;refine#[by rw[zak];simp,λv Pk=>?_];let e6:af H5<|upd H5 v<|.lst [.int m]:=af.upd Pk;let o6:upd H5 v (.lst [.int m]) v=some (.lst<|(cQ g r<|0+1).f):=by rw[ae,<-RK];rfl
 generalize upd H5 v (.lst [.int m])=H6 at e6 o6 ⊢;let tell:∀(t:Nat) (u:Hp) (Qk:VK),af H5 u->u v=some (.lst<|(cQ g r<|t+1).f)->(∀N,af u N->Qk (.int<|cy g<|r+t+1) N)->Ip (MZ K) (IX (fP 2)<|MC<|fo (fP 4)<|fo (Ip (M1 K) (fP 6)<|X9 (rU λi=>V.int<|-i)<|tC<|V.int 1) ph) (tC<|V.int 0) [p.i,num.j,gd.i,B.i,some<|.int (M.c:Int),m.j,v.i,v7] u Qk:=λt u Qk e7 o7 qk=>by
  refine eo<|yY<|eS rfl<|qH<|aJ<|eS rfl<|aJ<|eo<|eS rfl<|Jy<|r_c<|JA ?_;refine aT (aI.of o7) (show jJ ((cQ g r<|t+1).f) (-1)=some (.int<|cy g<|r+t)from R8 (n:=t) (bA _ _ _)<|o4 ()) ?_;refine aW #[OR,λkb Vt=>?_];generalize qq:upd u kb _=N;let#[U,k8]:=qLy Vt qq;let ad:=((We.same e5).same e7).same U;let dt:Dt L ((M.c:Int),cy g<|r+t):=#[p0,p1,bL>>fE r0];let#[a,c,hv,ha,xG,Co]:=ad.get dt;let ec:c=cy g (r+t+1):=by let:=behind I p0 p1 (j:=r+t) xG (bL>>Co);rwa [bL]at this
  refine#[gd,.ref a,rfl,by erw[<-hv,jL.t ad.top k8],r_c<|BA (SqT.of ha) rfl ?_];erw[ec,qk N U]
 ext;refine nW (λO u=>∃t:Nat,t<g.c/\O=[p.i,num.j,gd.i,B.i,some<|.int (M.c:Int),m.j,v.i,v7]/\af H5 u/\u v=some (.lst<|(cQ g r<|t+1).f))
  (λO u=>100-lenOf (v.i) u) #[0,r0,rfl,e6,o6] ?_
 ext O u ⟨t,ht,rfl,e7,o7⟩;refine pG<|eo<|tell t u _ e7 o7 λN U=>?_;ext;let G:=U _ _ o7;refine nQ (λzK=>?_)<|λhe=>?_;let tl:t+1<g.c:=by refine zaA λz=>zK ?_;rw[show r+t+1=r+g.c by lia,bT<|zax _ _,RK]
 refine w_turn ?_;refine pJ<|Ha<|eS rfl #[.inl #[rfl,_,aI.of G],?_];refine aJ<|tell t N _ (e7.trans U) G λH9 F=>?_;refine aW<|cV (F _ _ G) (zaa>>bA>>aq ()) ?_;let O5:upd H9 v (.lst<|(cQ g r<|t+1).f++[.int<|cy g<|r+t+1]) v=some (.lst<|(cQ g r<|t+1+1).f):=by rw[ae,sA (m:=t+1),zat];rfl
 refine#[#[t+1,tl,rfl,af.fresh ((e7.trans U).trans F) Pk,O5],?_];rw[jV O5,jV o7];simp only[zaa,bA];lia;let tl:t+1=g.c:=by refine zaA λz=>?_;exact dH nd (i:=r) (j:=r+t+1) () ()<|RK.trans he.symm
 rw[tl,<-yk ()]at G;let an:(du g r).c=g.c:=cZ ();let Jo:(0:Int)<((du g r).c:Int):=();ext;refine#[num,7,(M.c:Int),rfl,k0,k1,by decide,by decide,p0,(),λd d0 d1=>?_];ext;refine#[_,_,rfl,.inl #[_,aI.of G,rfl],?_];rw[zaa];ext;let t1:=zbe d Jo;let#[tn,al]:=zaM (zbh d<|show((du g r).c:Int)≠0 by lia);rw[al]at t1 ⊢;let Px:=(e5.trans e7).trans U;refine#[.inl #[rfl,_,aI.of (Y.same Px).top],?_];refine aJ<|eo<|fL<|eS rfl #[_,rfl,(tn:Int),rfl,v,_,rfl,aI.of G,λx hx=>?_];rw[mv ()];generalize qq:upd N x _=H9;let#[F,x9]:=qLy hx qq;refine fL<|eS rfl #[_,rfl,(tn:Int),rfl,v,_,rfl,aI.of<|F _ _ G,λy hy=>?_];rw[jY ()];generalize qq:upd H9 y _=yh;let#[qj,am]:=qLy hy qq;refine#[x,y,_,_,rfl,rfl,qj _ _ x9,am,by rw[zaa,zaa,zbz,zaL,zak];lia,λc hc=>?_];let IA:af yh<|upd yh c<|.lst<|((du g r).drop tn).f++((du g r).take tn).f:=af.upd hc;let ac:upd yh c (.lst<|((du g r).drop tn).f++((du g r).take tn).f) c=some (.lst<|(du (du g r) tn).f):=by rw[ae];unfold du;rw[zat]
 generalize upd yh c (.lst<|((du g r).drop tn).f++((du g r).take tn).f)=vt at IA ac ⊢;let Lm:=Px.trans<|(F.trans qj).trans IA;let VO:=Y.same Lm;let W:c≠B:=λz=>by let:=(Px.trans<|F.trans qj) _ _ Y.top;rw[z,this]at hc;cases hc
 let bl:=Y.len;refine aW<|cV VO.top (zaa>>aq ()) ?_;refine nNy (by assumption) ?_;refine#[C++[c],M++[du (du g r) tn],_,_,_,_,rfl,?_,VO.snoc Ks W ac,?_,by rw[zav];rfl,(λi l m' X h2=>?_),?_,λb S=>?_];refine λb o S=>?_;rw[aG<|λz=>by rw[z,Gf]at S;cases S];exact Lm _ _<|e4 _ _ S;ext z;ext(z|z:zal.mp z);exact Ks z;exact W (zai.mp z).symm;rw[zfe]at X;ext(z:i<M.c);rw[zam z]at X;exact Eg i l m' X h2;rw[zaj z]at X;let il:=(zab.mp X).1;let:i=M.c:=by simp at il;lia
 subst this;rw[NL]at h2;cases h2;simp at X;subst X;exact eD.trans (.inr #[tn,(),rfl])<|.inr #[r,Zu,rfl];let#[n1,n2]:=zau.mp YJ;let nc:c∉C:=λz=>by exact ((Y.same<|Px.trans<|F.trans qj).gu hc)<|zae _ z
 refine zau.mpr #[λz=>?_,iH.mpr #[nc,n2]];ext(z|z:zal.mp z);exact n1 z;exact W (zai.mp z).symm;ext(z|z:zaw.mp S);rw[z];exact e1.free Gf;ext(z|z:zal.mp z);exact ZT b<|zae _ z;rw[zai.mp z];exact(e1.trans<|e4.trans<|Px.trans<|F.trans qj).free hc;ext O H4 ⟨C,M,v4,v5,v6,v7,rfl,e4,Y,Ks,ml,Eg,YJ,ZT⟩;ext;let rm:cY M L:=#[ml,Eg];exact q B C M H4 (e1.trans e4) Y YJ ZT #[rm.cT tg.cT,rm.rF I tg.rF,rm.IQ tg.IQ,ml>>tg.four] ml
theorem fF:aM ["_law_rings_here", "_law_number", "_law_names", "_law_k", "_law_j", "_law_kept"] ["_law_rings_here", "_law_number"]<|aB kr:=by walk_at "n"
theorem vR(D:Def K mg "_law_named" kr ["_law_rings_here", "_law_number"])(T:Txt K mg Z)(dC:W! "_law_digit" 1 ["_law_number", "_law_base_here", "_law_place"] lC)(cS:W! "_law_places" 1 ["_law_rings_here"] jQ):W! "_law_named" 2 ["_law_rings_here", "_law_number"] Bg:=by
 exists D.cE fF,c8,hr;let#[p,as,R,n,k,rfl,_]:=h;rfl;let#[p,as,R,n,num,rfl,gp,tr,hn,k0,k1,q]:=h;let four:=tr.four;refine#[_,(ai (aC (i:=2) fF.nd rfl A!<|ky rfl T.range T.list<|av cS hr aP<|aa (pv 0) ah)<|ai (bS zaF rfl (xq rfl T.range<|aa (ao cW (aE aL C! T.len aU<|aa (pv 2) ah) aj)<|aa aj<|aa (je fX aj) ah) (aD (i:=3) fF.nd rfl A!)<|ai (aC (i:=4) fF.nd rfl A!<|ao bE (av dC hr aP<|aa (pv 1)<|aa aj<|aa (pv 3) ah)<|ao bI (pv 3) aj)<|ai (aC (i:=5) fF.nd rfl A!<|aF aw (pv 2) (pv 3) C?)<|ai (tI (aF aw (pv 2) (pv 4) C?)<|zd (pv 2) (pv 3) set_list)<|ak<|tI (pv 5)<|zd (pv 2) (pv 4) set_list)<|ak<|aN<|bR (tg:=["_law_ring"]) (fr:=[("_law_names",2)]) D! rfl (bJ<|pv 0) (λ_ _ _ _ _=>(aD (i:=0) (show [("_law_ring":Str),("_law_names":Str)].Nodup by decide +kernel) rfl A!)) (λ_ _ _ _ _=>aY)<|by ext _ _ _ _ _;exact bR (tg:=["_law_place"]) (fr:=[("_law_names",1)]) D! rfl (by exact(BF (K:=K) rfl<|pv 0)) (by exact(λ_ _ _ _ _=>(aD (i:=0) (show [("_law_place":Str),("_law_names":Str)].Nodup by decide +kernel) rfl A!))) (by exact(λ_ _ _ _ _=>aY))<|by exact(λ_ _ _ _ _=>(aF (dO (K:=K) rfl) (pv 1) (pv 0) C?))),?_]
 dsimp only[cN];refine en<|ef<|xp<|jE<|aJ<|eS rfl<|aW #[p,as,R,n,rfl,gp,tr,hn,λH1 e1=>#[n,rfl,(),λm y=>?_]];generalize S:upd H1 m _=H2;let#[e2,n2]:=qLy y S;let z:=e1.free y;refine eB ?_;dsimp only;refine en<|cP ?_;refine aJ<|eo<|jD<|aJ<|eS rfl<|aW #[_,_,rfl,.inl #[_,aI.of n2,rfl],?_];rw[zaa,eU];refine r_c<|jb<|aJ<|r_c<|aJ<|Jy<|r_c<|JA<|aW #[(n:Int)-1,0,rfl,#[(),(),(),()],?_];refine Eo (λt W B=>∃(l:dm) (U v4 X:Option V),W=[p.i,num.j,m.i,U,v4,X]/\af H B/\B m=some (.lst l.f)/\vd n l)
  #[eQ n,none,none,none,rfl,e1.trans e2,n2,#[eU n,j5 n,λx L=>eX.mp L]] ?_ ?_
 ext t W B ht ⟨l,U,v4,X,rfl,C,n3,nm⟩;obtain⟨k,hk,kn⟩:∃k:Nat,(n:Int)-1-(t:Int)=(k:Int)/\k<n:=#[((n:Int)-1-(t:Int)).toNat,(),()];rw[hk];let ll:=nm.len;let kp:(0:Int)<(k:Int)+1:=();refine inF λ_ _=>?_;refine eB ?_;dsimp only;refine en<|ef<|eo<|jE<|aJ<|eS rfl<|aJ<|r_c<|aJ<|eS rfl<|aW #[num,11,(k:Int),rfl,k0,k1,by decide,by decide,(),(),λd d0 d1=>?_];refine eo<|eS rfl<|r_c<|jb<|DM kp<|eB ?_;let j1:=zbe d kp;let#[j,hj]:=zaM (zbh d<|show(k:Int)+1≠0 by lia);rw[hj]at j1 ⊢;let jl:j<l.c:=();let kl:k<l.c:=();refine en<|ef<|eo<|eS rfl<|eS rfl<|aT (aI.of n3) (show jJ l.f ((k:Nat):Int)=some (.int l[k])from bV<|by rw[zao,zac kl];rfl)<|eB ?_;refine en<|ef<|eo<|eS rfl<|eS rfl<|aT (aI.of n3) (show jJ l.f ((j:Nat):Int)=some (.int l[j])from bV<|by rw[zao,zac jl];rfl) ?_;refine tE<|eS rfl<|eS rfl #[m,l.f,(k:Int),k,rfl,rfl,n3,by rw[zaa,zI () (),zaB],?_];rw[<-map_set];generalize S:upd B m _=H4;let#[Y,n4]:=qFy C z S;refine ef<|eS rfl<|tE<|eS rfl<|eS rfl #[m,(l.set k l[j]).f,(j:Int),j,rfl,rfl,n4,by rw[zaa,zcq,zI () (),zaB],?_];rw[<-map_set];refine nNy (by assumption) ?_;exact#[_,_,_,_,rfl,af.fresh Y z,ae,Ku nm jl kl];ext W B ⟨l,U,v4,X,rfl,C,n3,nm⟩;let Dh:=gp.same C;dsimp only;refine oj<|bC ?_;refine#[_,rfl,p,rfl,#[_,aI.of Dh.top],λM aX=>?_];refine Jp (K:=K) (rest:=[m.i]) (List.map<|gZ l) Dh (λb r H' Q' sd e' hb q'=>?_) aX (by let:=tr.many;lia) λcs H4 Y g4 Kt Lb=>?_;let#[r3,rn,Fp,LY]:=tr.ring sd;refine bC ?_;refine#[_,rfl,b,rfl,#[_,aI.of hb],λc O=>?_];refine bD (K:=K) (a:=b) (xs:=r.f) (λi g ys u=>∃v:Option V,g=[v,m.i]/\ys=((r.take i).map<|gZ l).f/\af H' u/\u c=some (.lst ys))
  #[none,rfl,rfl,af.upd O,ae] (λi g ys u _ ⟨_,_,_,e,_⟩=>aI.of<|e _ _ hb) ?_ ?_
 ext i x g ys u L I ⟨v,rfl,rfl,G,F⟩;rw[zaa]at I;obtain rfl:x=V.int r[i]:=by rw[zao,zac I]at L;exact(zas L).symm
 let N:=LY r[i]<|zbo _;let Mf:(r[i]).toNat<l.c:=by rw[nm.len];lia
 refine inS λ_ nNN=>?_;refine eB<|lT<|ND<|eo<|eS rfl<|eS rfl<|aT (aI.of<|G _ _<|e' _ _ n3) (show jJ l.f r[i]=some (.int<|gZ l r[i])from ?_) ?_;let:=bV (xs:=l.f) (j:=(r[i]).toNat) (v:=V.int<|gZ l r[i]) (by rw[zao,rV N.1<|nm.len>>N.2];rfl);rwa [zcf N.1]at this;refine#[F,zaa>>zaa>>zaL>>aq (),nNN _ _ _ #[_,rfl,?_,af.fresh G O,ae]];rw[take_snoc<|zac I,zat,zat];rfl;ext g ys u ⟨v,rfl,rfl,G,F⟩;rw[zaa,zbg]at F;exact q' c u G O F;exact q M cs _ H4 (C.trans Y) g4<|tr.named nm
theorem qz.T7(h:qz H l as Y):vc H (.ref l)<|gn.rj Y:=by
 refine .lst h.top<|gn.Ft #[zaa>>h.len,λj b e c a=>?_];rw[zao]at a;cases q:Y[j]? with
 | none=>rw[q]at a;cases a
 | some p=>
  rw[q]at a;cases a;let#[g,d,f]:=h.row j b p c q;exact#[.tup d<|PR.T7 f,gn.qF p,zaX (gn.CM p) B!]
theorem DH{R:dy}(d:∀q∈Y,P2 q)(b:2<=r.c)(f:∀x∈r,0<=x/\x<Y.c):GP (rowsOf Y land i r)↔Round (r.map λx=>Y.getD x.toNat []) (if(i:Int)=land then -1 else 1):=by
 let a:∀q∈r.map (λx=>Y.getD x.toNat []),P2 q:=λq a=>by let#[x,g,rfl]:=zaq.mp a;let:=f x g;exact d _<|jI ()
 let e:(r.map λx=>wr<|Y.getD x.toNat [])=(r.map λx=>Y.getD x.toNat []).map wr:=by rw[zfl];rfl
 unfold rowsOf;rw[e];ext(c:(i:Int)=land);rw[zam c,zam c];exact Bx a (zaa>>b);erw[zaj c,zaj c,Ea a<|zaa>>b]
theorem fZ:aM ["_law_script", "_law_head", "_law_orders_here", "_law_rings_here", "_law_land", "_law_spots_here", "_law_handed", "_law_due", "_law_number", "_law_ring", "_law_hand", "_law_found"] ["_law_script"]<|aB tf:=by walk_at "n"
theorem QO{fa:Addr}{fd:FuncData}(F:Sh K "law" "law" tf fa fd)(T:Txt K mg Z)(ie:W! "lands" 3 ["orders"] jR)(se:W! "right" 5 ["orders", "land", "spots"] sI)(uP:W! "_law_numbers" 1 ["_law_script", "_law_many"]<|sM K)(zV:W! "_law_rings" 3 ["_law_head"] wZ)(vZ:W! "_law_orders" 2 ["_law_rings_here", "_law_number"] sO)(zW:W! "_law_named" 2 ["_law_rings_here", "_law_number"] Bg)(uN:W! "_law_without" 2 ["_law_orders_here", "_law_number"] sG)(zT:W! "_law_spots" 8 ["_law_orders_here", "_law_land", "_law_head"] A8)(zS:W! "_law_stars" 6 [] A7)(zU:W! "_law_round" 3 ["_law_spots_here", "_law_hand"] Bc):rq P w K mg base (bO P w) 12 fa fd ["_law_script"]<|yw K:=by
 refine F.okN fZ (λvs H Q E h=>?_)<|λc8 A o s H vs Q E u h=>?_;let#[a,ns,rfl,_]:=h;rfl;let#[a,ns,rfl,hS,hlen,kq]:=h;refine#[_,(ai (aC (i:=1) fZ.nd rfl A!<|av uP u aP<|aa (pv 0)<|aa aj ah)<|ai (aC (i:=2) fZ.nd rfl A!<|av vZ u aP<|aa (av zW u aP<|aa (av zV u aP<|aa (pv 1) ah)<|aa (aF aw (pv 1) aj C?) ah)<|aa (aF aw (pv 1) aj C?) ah)<|ai (bY (PW.pt<|pw_and (aO eP (ao bE (aF aw (pv 1) aj C?) aj) aj<|aS _)<|pw_and1<|aO eP (ao bE (ao dF (aF aw (pv 1) aj C?) aj) aj) aj<|aS _) (ak<|aC (i:=2) fZ.nd rfl A!<|av uN u aP<|aa (pv 2)<|aa (ao dF (aF aw (pv 1) aj C?) aj) ah) bh)<|ai (aC (i:=3) fZ.nd rfl A!<|av ie u aP<|aa (pv 2) ah)<|ai (aC (i:=4) fZ.nd rfl A!<|ao bE (aF aw (pv 1) aj C?)<|aE aL C! T.len aU<|aa (pv 3) ah)<|ai (aC (i:=5) fZ.nd rfl A!<|av zT u aP<|aa (pv 2)<|aa (pv 4)<|aa (bF cp (pv 1) (bZ aj) b7) ah)<|ai (bY (y6<|lU<|He zS u aP) (ak<|aN iS) bh)<|ai (aC (i:=6) fZ.nd rfl A!<|iD oQ C! T.list Ak<|aa (pv 5) ah)<|ai (aC (i:=7) fZ.nd rfl A! iS)<|ai (bS zaF rfl (mN T.enumerate<|aa (pv 3) ah) (jF (n:=2) rfl<|bo (aD (i:=8) fZ.nd rfl A!)<|bo (aD (i:=9) fZ.nd rfl A!) dY)<|ai (aC (i:=10) fZ.nd rfl A!<|aF aw (bH<|aa aj<|aa (je fX aj) ah) (iD Ie C! T.int R1<|aa (hX eP (pv 8) (pv 4)<|aS _) ah) C?)<|ak<|aC (i:=7) fZ.nd rfl A!<|tQ (pv 7)<|zh<|av zU u aP<|aa (bR (tg:=["_law_place"]) (fr:=[("_law_spots_here",5)]) D! rfl (bJ<|pv 9) (λ_ _ _ _ _=>(aD (i:=0) (show [("_law_place":Str),("_law_spots_here":Str)].Nodup by decide +kernel) rfl A!)) (λ_ _ _ _ _=>aY)<|λ_ _ _ _ _=>(aF (dO (K:=K) rfl) (pv 1) (pv 0) C?))<|aa (pv 10) ah)<|ai (aC (i:=11) fZ.nd rfl A!<|av se u aP<|aa (pv 2)<|aa (pv 4)<|aa (pv 6) ah)<|ak<|aN<|tQ (aE Ig C! T.isinstance wo<|aa (pv 11)<|aa (Nd (v:=.ty "bool") rfl T.bool Of rfl) ah)<|tQ (hX eP (pv 11) (pv 7)<|aS _)<|zh<|hX (Kb u.units) (pv 6) (pv 5)<|aS _),?_]
 dsimp only[cN];ext;refine#[a,ns,12,rfl,hS,hlen,by decide,by decide,λhd B H1 e1 a4 D fl fr=>?_];let at':∀(i:Nat) (H':Hp),i<12->af H1 H'->∃x:Int,B[i]?=some x/\jJ B.f (i:Int)=x.j/\aI K H' hd B.f/\0<=x/\x<10 ^ 60+7:=λi H' hi e=>by
  let il:i<B.c:=();let:=fr B[i]<|zbo il;exact#[B[i],zac il,bV (by rw[zao,zac il];rfl),aI.of<|e _ _ D,this.1,this.2]
 ext;refine#[hd,B,rfl,D,(),fr,λt2 b2 R2 n H2 e2 g2 n8 IS=>?_];let#[x6,_,a6,s6,p6,q6]:=at' 6 H2 B! e2;ext;refine aT s6 a6 ?_;ext;refine#[t2,b2,R2,n,x6,rfl,g2,IS,(),p6,(),λt3 b3 R3 H3 e3 g3 Tt=>?_];let#[x7,_,a7,s7,p7,q7]:=at' 7 H3 B!<|e2.trans e3;ext;refine aT s7 a7 ?_;ext;refine#[t3,b3,R3,n,x7,rfl,g3,Tt,(),p7,(),λp0 U O H4 e4 g4 Kt Lb tg ln=>?_];let AJ:=(e2.trans e3).trans e4;let Y0:=tg.map;let four:=tg.four;let ba:12<=(dR O O.c).c:=by let:=Ez (g:=3) (λx a b=>tg.Ad a b) O.c<|zaf _;lia
 let#[x8,f8,a8,s8,p8,q8]:=at' 8 H4 B! AJ;let#[x9,f9,a9,s9,p9,q9]:=at' 9 H4 B! AJ;let#[P0,a2,bg,bf,pR,Yq]:=at' 10 H4 B! AJ;let#[PZ,am,a5,be,Hg,Yp]:=at' 11 H4 B! AJ;let ax:B.drop 9=[x9,P0,PZ]:=by
  apply zez;ext i;rw[zdG]
  match i with
  | 0=>exact f9
  | 1=>exact a2
  | 2=>exact am
  | i+3=>rw[zbR ()];rfl
 refine eB<|nNy (by assumption) ?_;refine pH (λd H'=>∃(p:Addr) (as:cx) (L:dy),d=[a.i,hd.i,p.i,none,none,none,none,none,none,none,none,none]/\af H4 H'/\aQ H' p as L/\aH L/\L.c=O.c/\2<=(dR L L.c).c/\(x9%3≠2->eA L)) ?_<|λTn hT=>?_;ext d H5 ⟨p,as,L,rfl,e5,g5,im,lL,dp,an⟩;let dl:(dR L L.c).c<128:=HQ im ();let SQ:=(AJ.trans e5) _ _ D;ext;refine#[p,as,L,rfl,g5,im,(),dl,λt bs R H6 e6 g6 a3 bd la=>?_];let Rp:0<R.c:=by ext(z|z:Nat.eq_zero_or_pos R.c);exfalso;let ZD:(dR L L.c)[0]?=some (dR L L.c)[0]:=zac ();let:=(la.mem _).mpr<|zag ZD;rw[z]at this;cases this;exact z
 let Rl:R.c<128:=zaY (la.small im) dl;let rl:=g6.len;let ad:aI K H6 hd B.f:=aI.of<|e6 _ _ SQ;ext;refine aT ad a8 ?_;ext;refine#[_,_,rfl,.inl #[_,aI.of g6.top,rfl],?_];rw[zaa,rl];let lp:(0:Int)<(R.c:Int):=();ext;let w1:=zbe x8 lp;let#[land,Vp]:=zaM (zbh x8<|show(R.c:Int)≠0 by lia);rw[Vp]at w1 ⊢;ext;refine#[_,rfl,(9:Int),rfl,hd,_,rfl,ad,λhh ay=>?_];let ec:oP B.f (some (9:Int)) none=[.int x9,.int P0,.int PZ]:=by let:=iF (xs:=B.f) (k:=9) (by rw[zaa];lia);rw[show((9:Nat):Int)=9 from rfl]at this;rw[this,<-zeQ,ax];rfl
 rw[ec];generalize S:upd H6 hh _=H7;let#[e7,h7]:=qLy ay S;let ag:=e6.trans e7;let sz:∀x:Int,0<=x->x<10 ^ 60+7->Sz 200 x:=λx x0 x1=>by unfold Sz;exact zaQ (show x.natAbs<10 ^ 60+7 by lia) B!
 ext;refine#[p,hh,as,L,land,x9,P0,PZ,rfl,g5.same ag,(),(),h7,p9,pR,Hg,sz _ p9 q9,sz _ pR Yq,sz _ Hg Yp,λz=>#[an z,dl,λR' QX=>?_],λsa cs Y H8 e8 bb s8 yl hY=>?_];rw[QX.unique la];lia;let cl:=s8.len;ext;refine#[rfl,λH9 e9=>?_];ext;refine#[sa,_,rfl,.inl<|aI.of<|e9 _ _ s8.top,λhc aZ=>?_];generalize S:upd H9 hc _=yh;let#[qj,Pr]:=qLy aZ S;let qi:=e9.trans qj;let MH:=s8.same qi;let UU:qz yh hc cs Y:=#[Pr,MH.len,MH.row];let ZS:=g6.same<|e7.trans<|e8.trans qi;let Yy:=g5.same<|ag.trans<|e8.trans qi;let T5:∀r∈R,2<=r.c/\r.c<=128/\∀x∈r,0<=x/\x<Y.c:=λr rm=>by
  let gd:=la.good r rm;let#[i,hi]:=zaS.mp rm;refine#[gd.two,?_,λx I=>?_];let D:=la.Lh im<|i+1;rw[Gn hi,zav,dE]at D;lia;let#[j,hj,rfl]:=getElem_of_mem I;let:=gd.dt j;let e9:(dj r j).1=r[j]:=by unfold dj;exact fB hj
  exact#[e9▸this.lo,by erw[yl,e9▸this.hi]]
 ext;refine cP ?_;refine Fz<|aJ<|eS rfl<|aW #[t,rfl,#[_,aI.of ZS.top],mq (K:=K) (a:=t) (xs:=bs.h) (λi σ W=>∃(b:Bool) (v8 v9 N:Option V),σ=[a.i,hd.i,p.i,t.i,land.l,sa.i,hc.i,some<|.bl b,v8,v9,N,none]/\af yh W/\(b=true↔∀(f:Nat) (r:dm),f<i->R[f]?=some r->GP (rowsOf Y (land:Int) f r)))
  #[true,none,none,none,rfl,af.refl _,#[λ_ f r h=>(),λ_=>rfl]] (λi σ W _ ⟨_,_,_,_,_,e,_⟩=>aI.of<|e _ _ ZS.top) ?_ ?_]
 ext i x pr σ W I ⟨b,v8,v9,N,rfl,IA,G⟩ Cj;let hi:i<R.c:=by let:=(zab.mp I).1;rw[zaa,rl]at this;exact this
 let#[rb,r,ha,xF,bL]:=ZS.at hi;obtain rfl:x=V.ref rb:=by rw[zao,ha]at I;exact(zas I).symm
 let#[r2,Jr,rg]:=T5 r<|zag xF;generalize S:upd W pr _=C;let#[M,Xs]:=qLy Cj S;let step:∀b':Bool,(b'=true↔b=true/\GP (rowsOf Y (land:Int) i r))->(b'=true↔∀(f:Nat) (r:dm),f<i+1->R[f]?=some r->GP (rowsOf Y (land:Int) f r)):=λb' h=>by rw[h,G];refine#[λ⟨D,h2⟩ f r' Xl sd=>?_,λD=>#[λf r' Xl sd=>D f r' () sd,D i r () xF]];ext(c:f=i);subst c;rw[xF]at sd;cases sd;exact h2;exact D f r' () sd
 ext;ext lh ap;generalize S:upd C lh _=S2;let#[Lo,VH]:=qLy ap S;ext;refine .inr #[_,rfl,?_];let au:jJ [V.int 1,V.int<|-1] (if decide ((i:Int)=(land:Int))=true then 1 else 0)=some (.int<|if(i:Int)=(land:Int)then -1 else 1):=by ext(c:(i:Int)=(land:Int));rw[zbc c,zam c];rfl;rw[zaZ c,zaj c];rfl
 refine aT (aI.of VH) au ?_;let hh:(if(i:Int)=(land:Int)then(-1:Int)else 1)=1\/(if(i:Int)=(land:Int)then(-1:Int)else 1)=-1:=by ext(c:(i:Int)=(land:Int));rw[zam c];exact .inr rfl;erw[zaj c,.inl rfl]
 let rr:=DH (R:=R) (Y:=Y) (land:=(land:Int)) (i:=i) (r:=r) hY r2 rg;generalize (if(i:Int)=(land:Int)then(-1:Int)else 1)=Zj at hh rr ⊢;let CI:=(IA.trans M).trans Lo;let TQ:=MH.same CI;let Vz:=CI _ _ bL;ext;refine ifb (λhb=>?_)<|λhb=>?_;ext;refine bC<|dw<|eS rfl #[rb,rfl,#[_,aI.of Vz],λac SN=>?_];refine bD (K:=K) (a:=rb) (xs:=r.f) (λm d ys Mq=>∃(v:Option V) (ds:cx),d=[v,sa.i]/\ys=ds.h/\af S2 Mq/\qz Mq ac ds ((r.take m).map λx=>Y.getD x.toNat []))
  #[none,[],rfl,rfl,af.upd SN,#[ae,rfl,λi b l z=>by simp at z]] (by ext m d ys Mq _ ⟨_,_,_,_,e,_⟩;exact aI.of<|e _ _ Vz) ?_ ?_
 ext m x d ys Mq I hm ⟨v,ds,rfl,rfl,HP,X⟩;let#[y,hy,rfl]:=int_at I;rw[zaa]at hm;let a1:=X.len;rw[zaa,zaL]at a1;let#[y0,y1]:=rg y<|zag hy;let#[c,c1,c2]:=(TQ.same HP).at (i:=y.toNat) ();let c3:jJ cs.h y=some (V.ref c):=by let:=bV (xs:=cs.h) (j:=y.toNat) (v:=V.ref c) (by rw[zao,c1];rfl);rwa [show((y.toNat:Nat):Int)=y by lia]at this
 ext;refine aT (aI.of<|HP _ _ TQ.top) c3 ?_;refine#[X.top,zaa>>aq (),nNN _ _ _ #[_,ds++[c],rfl,by rw[zat];rfl,af.fresh HP SN,?_]];rw[take_snoc hy,zat];exact X.snoc c2;ext d ys Mq ⟨v,ds,rfl,rfl,HP,X⟩;rw[zaa,zbg]at X;let pq:∀q∈r.map (λx=>Y.getD x.toNat []),P2 q:=λq hq=>by let#[x,I,rfl]:=zaq.mp hq;let:=rg x I;exact hY _<|jI ()
 ext;refine#[ac,ds,_,Zj,rfl,X,pq,zaa>>r2,by rw[zaa];lia,hh,λar S1 RL=>?_,λno S1 RL=>?_];ext;exact#[true,_,_,_,rfl,(CI.trans HP).trans RL,step true #[λ_=>#[hb,rr.mpr ar],λ_=>rfl]];ext;exact#[false,_,_,_,rfl,(CI.trans HP).trans RL,step false #[λz=>Bool.noConfusion z,λz=>absurd (rr.mp z.2) no]];ext;exact#[false,_,_,_,rfl,CI,step false #[λz=>Bool.noConfusion z,λz=>by rw[hb]at z;cases z.1]];ext σ W ⟨b,v8,v9,N,rfl,IA,G⟩;rw[zaa,rl]at G;let Hw:b=true↔vb R Y (land:Int):=G>>#[λh i r Ru=>h i r (zab.mp Ru).1 Ru,λh i r _ Ru=>h i r Ru]
 ext;refine#[p,hc,as,cs,L,Y,(land:Int),rfl,Yy.same IA,im,(),dl,UU.same IA,(),hY,λR' QX=>?_];rw[QX.unique la];let al:∀C,af W C->vc C (.ref hc) (gn.rj Y)/\vc C (.ref sa) (gn.rj Y):=λC M=>#[qz.T7<|(UU.same IA).same M,qz.T7<|(MH.same IA).same M];refine#[λC9 C M=>?_,λaX C M=>?_];obtain rfl:b=true:=Hw.mpr C9;let#[f1,f2]:=al C M;ext;refine JE (.bl _) (.ty _) KP ?_;ext;refine#[rfl,?_];rw[zbc rfl];ext;refine#[gn.rj Y,gn.rj Y,f1,f2,gn.j6 _,gn.j6 _,?_];rw[zaj B!,gn.Gr,zbc rfl];exact kq _;obtain rfl:b=false:=by
  cases b with
  | false=>rfl
  | true=>exact absurd (Hw.mp rfl) aX
 let#[f1,f2]:=al C M;ext;refine JE (.bl _) (.ty _) KP ?_;ext;refine#[rfl,?_];rw[zbc rfl];ext;refine#[gn.rj Y,gn.rj Y,f1,f2,gn.j6 _,gn.j6 _,?_];rw[zaj B!,gn.Gr,zbc rfl];exact kq _;ext;refine aT s9 a9 ?_;ext;refine if2 (λh9=>?_)<|λh9=>?_;ext;refine aT s8 a8 ?_;ext;refine if2 (λh8=>?_)<|λh8=>?_;ext;refine aT s8 a8 ?_;ext;refine#[p0,U,O,x8 / 32,rfl,g4,Y0,(),(),(),(),λt bs L' H5 e5 g5 a0 l5 d5=>?_];ext;exact hT _ _ #[t,bs,L',rfl,e5,g5,a0,l5,(),λz=>absurd h9 z];ext;exact hT _ _ #[p0,U,O,rfl,af.refl _,g4,Y0,rfl,(),λ_=>tg];ext;exact hT _ _ #[p0,U,O,rfl,af.refl _,g4,Y0,rfl,(),λ_=>tg]
end Al
namespace Al
open PySem L2 Fr Gm Fw
open Dt (gv gc pd eJ kz)
open gn (V3 l3 S3 tn)
theorem sx{b:Type}{u:List b}(h:u.c=1):∃a:b,u=[a]:=by
 match u,h with
 | [a],_=>exact#[a,rfl]
theorem AO{c:Type}{u:List c}(h:u.c=2):∃b a:c,u=[b,a]:=by
 match u,h with
 | [b,a],_=>exact#[b,a,rfl]
theorem Im{d:Type}{u:List d}(h:u.c=3):∃c a b:d,u=[c,a,b]:=by
 match u,h with
 | [c,a,b],_=>exact#[c,a,b,rfl]
theorem yb4{e:Type}{u:List e}(h:u.c=4):∃d a c b:e,u=[d,a,c,b]:=by
 match u,h with
 | [d,a,c,b],_=>exact#[d,a,c,b,rfl]
theorem all_mk{l:PySem.W.OpenLaw}{h:Heap}{mg:cB}(X:K.In h)(G:h.Ns mainGlobals mg)(ag:mg "law"=fa.i)(d0:DefIn K "onward" sY)(d1:DefIn K "ring_from" lG)(d2:DefIn K "least_begun" jx)(d3:DefIn K "steps" yH)(d4:DefIn K "lands" yL)(d5:DefIn K "common_divisor" gC)(d6:DefIn K "common_bottom" gX)(d7:DefIn K "made_whole" ke)(d8:DefIn K "whole_spot" j9)(d9:DefIn K "turn" DF)(H:DefIn K "goes_left" lH)(A:DefIn K "right" yI)(bs:DefIn K "_law_numbers" iO)(bd:DefIn K "_law_base" lO)(a9:DefIn K "_law_digit" ku)(D:DefIn K "_law_stacked" iN)(U:DefIn K "_law_tied" lI)(aX:DefIn K "_law_places" jy)(ad:DefIn K "_law_corners" iQ)(L:DefIn K "_law_turned_inside" eW)(am:DefIn K "_law_rings" ko)(a8:DefIn K "_law_orders" jz)(F:DefIn K "_law_named" kr)(t:DefIn K "_law_without" iM)(br:DefIn K "_law_net" nM)(n:DefIn K "_law_lowest" jA)(bn:DefIn K "is_wrong" nK)(bl:DefIn K "looked" sZ)(M:DefIn K "come_to" pB)(a6:DefIn K "hangs" yM)(o:DefIn K "ties" DG)(bm:DefIn K "count" yO)(bq:DefIn K "parts" yK)(bt:DefIn K "short_lists" ju)(a4:DefIn K "parting" pz)(bb:DefIn K "looked_tight" iL)(bg:DefIn K "outer_ring" ka)(C:DefIn K "plain_frame" jw)(ap:DefIn K "ratio" yJ)(ax:DefIn K "led" Jl)(be:DefIn K "row_cleared" jv)(al:DefIn K "column_cleared" gD)(E:DefIn K "cleared" pD)(x:DefIn K "solved" sX)(bp:DefIn K "middle_row" kd)(Z:DefIn K "middles" pA)(a7:DefIn K "by_middles" kg)(N:DefDIn K "drawn" yN)(aZ:DefIn K "_law_spots" ki)(B:DefIn K "_law_stars" kh)(a5:DefIn K "_law_bend" lK)(Q:DefIn K "_law_less" lJ)(ay:DefIn K "_law_earlier" iP)(ac:DefIn K "_law_round" kj)(bf:DefIn K "law" tf)(z0:PySem.W.nsIn K mainGlobals "abs"=some none)(z1:PySem.W.nsIn K mainGlobals "len"=some none)(z2:PySem.W.nsIn K mainGlobals "isinstance"=some none)(z3:PySem.W.nsIn K mainGlobals "int"=some none)(z4:PySem.W.nsIn K mainGlobals "bool"=some none)(z5:PySem.W.nsIn K mainGlobals "enumerate"=some none)(z6:PySem.W.nsIn K mainGlobals "range"=some none)(z7:PySem.W.nsIn K mainGlobals "min"=some none)(z8:PySem.W.nsIn K mainGlobals "max"=some none)(z9:PySem.W.nsIn K mainGlobals "list"=some none)(ar:PySem.W.nsIn K mainGlobals "reversed"=some none)(R:PySem.W.nsIn K mainGlobals "sorted"=some none)(Y:PySem.W.nsIn K mainGlobals "set"=some none)(z:PySem.W.nsIn K mainGlobals "zip"=some none)(ba:PySem.W.nsIn K mainGlobals "all"=some none)(y:PySem.W.nsIn K mainGlobals "sum"=some none)(p:PySem.W.nsIn K mainGlobals "dict"=some none)
  : ∃fd:FuncData,(∀(s:Shared) (v:Value),BindsTo s fd #[[v],[]] [("_law_script",v)])/\∀base:Heap,K.In base->base.Ns mainGlobals mg->rq l.prog w K mg base (bO l.prog w) 12 fa fd ["_law_script"] (yw K):=by
 let#[fn,bL,r,bv,bz,au,I,O,as,q,an,ln,cn,kn]:=bf.ex;let e:=ag.symm.trans<|PySem.W.mg_of X G an;cases e;let T:Txt K mg #[0]:=#[zbn X G z0,zbn X G z1,zbn X G z2,zbn X G z3,zbn X G z4,zbn X G z5,zbn X G z6,zbn X G z7,zbn X G z8,zbn X G z9,zbn X G ar,zbn X G R,zbn X G Y,zbn X G z,zbn X G ba,zbn X G y,zbn X G p];refine#[PySem.W.fnOf "law" "law" (fh tf) (dI tf) (aB tf) .none au I O r as q,λs v=>.of_eq rfl,λbase hK hG=>?_];let LV:=Hj (P:=l.prog) (w:=w) (base:=base) (d0.gH X G G!) T;let C2:=zt (P:=l.prog) (w:=w) (base:=base) (d1.gH X G G!) T LV;let wG:=tW (P:=l.prog) (w:=w) (base:=base) (d2.gH X G H!) T;let Oy:=Ke (P:=l.prog) (w:=w) (base:=base) (d3.gH X G H!) T;let j:=Ki (P:=l.prog) (w:=w) (base:=base) (d4.gH X G H!) T C2 wG Oy;let jZ:=ot (P:=l.prog) (w:=w) (base:=base) (d5.gH X G H?) T;let hU:=pU (P:=l.prog) (w:=w) (base:=base) (d6.gH X G H!) T jZ;let S:=vL (P:=l.prog) (w:=w) (base:=base) (d7.gH X G H!) T hU;let An:=vI (P:=l.prog) (w:=w) (base:=base) (d8.gH X G H!) T hU S;let Se:=Ni (P:=l.prog) (w:=w) (base:=base) (d9.gH X G G!) T;let C3:=zu (P:=l.prog) (w:=w) (base:=base) (H.gH X G H!) T Se;let GN:=Kf (P:=l.prog) (w:=w) (base:=base) (A.gH X G G!) T j An C3;let vi:=qV (P:=l.prog) (w:=w) (base:=base) (bs.gH X G H?) T;let C7:=zB (P:=l.prog) (w:=w) (base:=base) (bd.gH X G H!) T;let m:=vS (P:=l.prog) (w:=w) (base:=base) (a9.gH X G G!) T;let vh:=qU (P:=l.prog) (w:=w) (base:=base) (D.gH X G G!) T m;let C4:=zv (P:=l.prog) (w:=w) (base:=base) (U.gH X G H?) T;let k:=tX (P:=l.prog) (w:=w) (base:=base) (aX.gH X G H!) T;let mF:=qX (P:=l.prog) (w:=w) (base:=base) (ad.gH X G H!) T;let mE:=kZ (P:=l.prog) (w:=w) (base:=base) (L.gH X G H!) T k mF;let Av:=vQ (P:=l.prog) (w:=w) (base:=base) (am.gH X G H!) T C7 vh C4 k mE;let wH:=tY (P:=l.prog) (w:=w) (base:=base) (a8.gH X G H?) T m k mF;let Aw:=vR (P:=l.prog) (w:=w) (base:=base) (F.gH X G H?) T m k;let vg:=qT (P:=l.prog) (w:=w) (base:=base) (t.gH X G H?) T m;let ER:=BP (P:=l.prog) (w:=w) (base:=base) (br.gH X G H!) T;let wI:=tZ (P:=l.prog) (w:=w) (base:=base) (n.gH X G H!) T;let EO:=BO (P:=l.prog) (w:=w) (base:=base) (bn.gH X G H?) T;let LW:=Hk (P:=l.prog) (w:=w) (base:=base) (bl.gH X G H!) T EO;let yg:=D2 (P:=l.prog) (w:=w) (base:=base) (M.gH X G G!) T;let OA:=Kj (P:=l.prog) (w:=w) (base:=base) (a6.gH X G H!) T yg;let Sf:=Nj (P:=l.prog) (w:=w) (base:=base) (o.gH X G H!) T;let OC:=Kl (P:=l.prog) (w:=w) (base:=base) (bm.gH X G H!) T Sf j;let Oz:=Kh (P:=l.prog) (w:=w) (base:=base) (bq.gH X G H?) T yg;let wC:=tT (P:=l.prog) (w:=w) (base:=base) (bt.gH X G H!) T;let Ij:=DY (P:=l.prog) (w:=w) (base:=base) (a4.gH X G H!) T Oz wC;let vf:=qS (P:=l.prog) (w:=w) (base:=base) (bb.gH X G H!) T LW OA OC Ij;let Ao:=vJ (P:=l.prog) (w:=w) (base:=base) (bg.gH X G H?) T j vf;let wF:=tV (P:=l.prog) (w:=w) (base:=base) (C.gH X G H!) T;let GO:=Kg (P:=l.prog) (w:=w) (base:=base) (ap.gH X G H?) T jZ;let Ww:=QN (P:=l.prog) (w:=w) (base:=base) (ax.gH X G H?) T;let wD:=tU (P:=l.prog) (w:=w) (base:=base) (be.gH X G G?) T;let qB:=ou (P:=l.prog) (w:=w) (base:=base) (al.gH X G G!) T wD;let Il:=D3 (P:=l.prog) (w:=w) (base:=base) (E.gH X G H!) T Ww qB;let LU:=Hi (P:=l.prog) (w:=w) (base:=base) (x.gH X G H?) T GO S Il;let Ap:=vK (P:=l.prog) (w:=w) (base:=base) (bp.gH X G G!) T;let Ik:=DZ (P:=l.prog) (w:=w) (base:=base) (Z.gH X G H?) T GO hU S LU Ap;let Aq:=vM (P:=l.prog) (w:=w) (base:=base) (a7.gH X G G!) T Ik;let OB:=Kk (P:=l.prog) (w:=w) (base:=base) (N.gH X G λ_ _ _ _ _ _ _ d c=>by let#[a,b,rfl]:=AO (u:=d) (~~~c);exact#[_,rfl,rfl]) T Ao wF Aq;let As:=vO (P:=l.prog) (w:=w) (base:=base) (aZ.gH X G G!) T ER wI OB;let Ar:=vN (P:=l.prog) (w:=w) (base:=base) (B.gH X G λ_ _ _ _ _ _ d c=>by obtain rfl:=zeu.mp c;rfl) T j GN;let C6:=zA (P:=l.prog) (w:=w) (base:=base) (a5.gH X G G!) T;let C5:=zw (P:=l.prog) (w:=w) (base:=base) (Q.gH X G H?) T;let vj:=qW (P:=l.prog) (w:=w) (base:=base) (ay.gH X G H?) T C5;let Au:=vP (P:=l.prog) (w:=w) (base:=base) (ac.gH X G H?) T C6 vj;exact QO (En (st:=tf) ln cn kn) T j GN vi Av wH Aw vg As Ar Au
theorem walk{l:PySem.W.OpenLaw}{k:(Str->Option Value)->Heap->Prop}{d:DefRec}{K:Params->zde}(g:l.most=some 63)(j:d.params.defaults=[])(i:∀(w:World) (h:Heap),YP w h->(K w.params).In h)(F:∀(w:World) (mg:cB) (fa:Addr) (h:Heap),(K w.params).In h->h.Ns mainGlobals mg->mg d.name=fa.i->
   ∃b:FuncData,(∀(s:Shared) (u:Value),BindsTo s b #[[u],[]] [("_law_script",u)])/\∀base:Heap,(K w.params).In base->base.Ns mainGlobals mg->rq l.prog w (K w.params) mg base (bO l.prog w) 12 fa b ["_law_script"] (yw<|K w.params)) :
  PySem.W.WalkO q loose k YP l.row.toRowW d [] (λf vs=>PySem.call f vs):=
 L2.My g B! j #[rfl,by decide,by decide] i F (λ_ _ a ns c _ e=>#[a,ns,rfl,e,c,λ_=>rfl]) λ_ _ _ _ _ z=>HV z
end Al
end
structure PySem.W.Fast:Prop where(tw15466630005574163000 tw16353620309250334491 tw472514169214428470 tw5213651493768815122 tw13613698960501105208 tw14289550132209545633 tw9430278860522823691 tw6313313143288342137 tw4651845629559714195 tw2083742497885837853 tw7602593393478695267 tw6833931966174975233 tw4324020967738962367 tw599155910705732009 tw15629330280232473723 tw2976201352154620486 tw491098519111566671 tw3443173839453616963 tw17332662224226280504 tw8037869727248560114 tw5490363529203405553 tw4926463772651100239 tw11411427917426045596 tw11168979663509136946 tw5490100474952496366 tw13336656737261374731 tw5025176357855583363 tw2705978010689449888 tw12254913437419164954 tw6076892880696708497 tw13731291184527170389 tw14571348519711081321 tw7060299000246315006 tw3757370225662468131 tw2036514207272115448 tw16047151549096129446 tw15350893853044707747 tw4607508769599066653 tw1875708750947487747 tw176362621218263668 tw9735189324158716139 tw17149306711203222592 tw8116495044407816753 tw16893343029840030969 tw7383140952554254922 tw10428396489521043945 tw965843661833157712 tw5911993966001452026 tw11434869555384963277 tw16683175419115582342 tw1481315679947487441 tw1482979981069468914 tw3390482828599632851 tw14997168881074549302 tw1578243851175787310 tw14210626290392741894 tw3320944333019338066 tw15614465043694195173 tw17561683470819720707 tw3951185112073132812 tw9551520659110416189 tw16319398356496979142 tw4008808167128957718 tw6586820720471343506 tw17526848525446865439 tw6117511587662662459 tw4876087645986533187 tw18390370745858748442 tw8656770089038941414 tw10629917938357173199 tw10478541944987883328 tw1091768057539997531 tw2500747753798597246 tw12797389649902016103 tw13061738053867579547 tw15870724351361929773 tw5186581970164988182 tw8363255662213847002 tw1693193966762076122 tw15682630397334716897 tw8560137201741229049 tw16583970986804218354 tw10646692213395864345 tw12671028581736888549 tw13191921970462324975 tw16425510625573997745 tw13979062054251865862 tw17456274205658551316 tw7101901047426515480 tw3031677293648543652 tw8359776851509084921 tw5292214714685966254 tw10062774349359191062 tw8415347787509277184 tw4662706585703009136 tw3139721859013690535 tw7806612300967757725 tw10838320359351879228 tw18331490494533832745 tw14471380812440302133 tw15294412911399808872 tw17273546744603068962 tw2627435261676137427 tw9848090311440274996 tw16445605976477540969 tw1305290319375289189 tw8311581608888183575 tw462399432863825264 tw8682706774105320388 tw7249408476367241319 tw7846604553054860078 tw6245834241851785295 tw10253680139902523771 tw18083053793751988829 tw2533338527705468899 tw12385010057949231108 tw4906985526865411284 tw3672815138477930711 tw703389871234444166 tw14048015458798050650 tw7341363867780445534 tw646675729613144239 tw17628581172241993796 tw4565477063888761368 tw9734436391063518407 tw16342655373844396367 tw14782080537735631228 tw11042392355894597784 tw13749551056811351302 tw15546022083046327611 tw16184605900962543396 tw10977892635159950757 tw3568449820086975668 tw3343409263109749336 tw11358860787541325463 tw4979681035277990301 tw1599233548829368208 tw4396243122041968829 tw11888702164069588526 tw3856894293479847602 tw12667187999310399614 tw13322776610023541352 tw9956991427941567487 tw11467244527825198011 tw8102601845894710628 tw14428557495631251374 tw8665390843058837684 tw16658149202954625515 tw17245579202471708971 tw5154153051186297600 tw12346224670662308185 tw6980426838205006675 tw13476194658678544505 tw18412501079394076775 tw6140813120157704869 tw16895124817402645470 tw18340533435447204734 tw13218955026410921094 tw14109588051444442121 tw13622559219405111606 tw6153960553750669921 tw14876654968585437494 tw483941612591840733 tw17553941673280107696 tw6535919644033087116 tw13421878644203018782 tw10652706065285988167 tw9344188360342038321 tw18016659059077621619 tw12264482453568218487 tw15864608419844016330 tw11749354174185177995 tw10818337592306588677 tw17089584106544432563 tw16008770975331304413 tw6549387881745906648 tw5594196578384551704 tw5250196873868161119 tw13909060920610930591 tw5061691700163539067 tw10874209548316908537 tw3726249591718580079 tw5857678219778149400 tw10997766368568478229 tw10526795983276817021 tw10171512148689699850 tw8824120912771484570 tw15878202846381777282 tw4669997268074638566 tw11878220590548564407 tw9237839803359919718 tw3936703289814925014 tw18391792972179159201 tw8602636979444616427 tw3854452999930517234 tw10533110631993815903 tw18241603243319279199 tw17096022685866316108 tw7951205920207830984 tw16070878876412079074 tw9825311040631613289 tw12568220680563721409 tw16675938352124422102 tw14011325555620295240 tw15317991851056418427 tw9958793724098544939 tw7098653729820690828 tw2790684800597347508 tw17634620442478211862 tw10876274769174840434 tw10400818565626109083 tw3615015241390923890 tw14186229901086005175 tw5414889429710741793 tw12442459174276740457 tw1488586831392145974 tw5837322317844572134 tw15576656957206103196 tw1092554152731318402 tw1114764445549278850 tw6324565688068555035 tw8148261546848280311 tw3301937557934162756 tw12897843855623305938 tw12123399046823702066 tw16725022142016842931 tw1627422356389963733 tw9249242859326111752 tw8281077456316361527 tw2605274996630429711 tw17428062062142703468 tw1677937946383725377 tw12288206125655375719 tw878552622892078062 tw6205404152059181795 tw7669850983942027675 tw12124883928226915147 tw12425769180583113337 tw11421349144824285432 tw10960759568426517947 tw17944196058338266623 tw17686862101213000417 tw2138587698749043902 tw18235815994130479204 tw2842532621504892544 tw14966165240115925544 tw13994611897264010354 tw6879740332760082745 tw12495034051756037344 tw9664165021163264408 tw2046161713087386798 tw695840354625369968 tw903419139173214629 tw11320087354467736066 tw15522244740769157894 tw6707269770935939174 tw466827259692430919 tw2368089958299968517 tw5804720372788630397 tw1796963709162704432 tw13980858774607884014 tw13276237387654843390 tw8865773811164299604 tw10723881271450033636 tw3222938060683884949 tw1803889320043991817 tw2768845027160993535 tw12971614432326595044 tw1410458911972790798 tw16926397703388155970 tw9611562634094646635 tw5379359867360443357 tw13683710394890207390 tw13138053821211071451 tw7663562531575248234 tw17815807201780566252 tw17043789096679310394 tw8120633173482650033 tw11008705669753935960 tw13742571643777039992 tw5820031825091100481 tw11843637065018918494 tw9937825217001054896 tw8842466297537630771 tw3452687877792169225 tw15908613703159536238 tw15471862930552375797 tw10176601716399707462 tw9193754918690520395 tw2481698806919245341 tw3315640603550620563 tw14446169631650766379 tw16586827507936889197 tw12514984988223945785 tw15216691075980746331 tw2352371937375550118 tw10376779475875255579 tw3224110731319548540 tw5249802552403670223 tw13449433286925174980 tw8691073039021718573 tw18292259479714829484 tw6026303546751665048 tw4264643707758235839 tw4706096191089179111 tw2979956125770827369 tw1816086006742493813 tw17808183623650184903 tw1723468133515994198 tw14145133397866982310 tw12771822488138158069 tw10994731613525057933 tw8006818181800813287 tw6643645723922588545 tw4433705646650269472 tw1969113106591384166 tw15208569097171883304 tw14143780888391301864 tw11137823001466105499 tw10972632822424559435 tw13914474658841639379 tw9342811073505471134 tw5665582069449709315 tw5351125009972547943 tw5091696824777776520 tw16593548651240670824 tw1582124486653253358 tw12544447595340106912 tw99824838977351551 tw8135023443055900301 tw5160205723446872356 tw18225333223700035645 tw16844610012360725622 tw14749041291888674510 tw14660197616795084649 tw13339175457194287695 tw1180190314638101592 tw9836676072275870096 tw9761545190372774177 tw9490073030316860212 tw9301863400943425533 tw9237809509306602246 tw923019440431492715 tw9204468334694089128 tw9198836845362908494 tw9014881350886694694 tw8977693431433572171 tw8868215724802441488 tw8728739442816908634 tw8723148411629915897 tw8532251363082248909 tw8421809663547007543 tw8412055844557534704 tw8183752185710856796 tw8027672829320655833 tw7779412587583238467 tw7420081128022674340 tw7214212135985820583 tw72018516974120254 tw6652544638704026354 tw658872507153325997 tw6547234403585029079 tw6362824346571351299 tw6242273859575373223 tw6129925014707102103 tw6047155765416594730 tw5982817560975016134 tw5849846030610152884 tw5815560348452114897 tw5371971647601542639 tw5307460566021848520 tw5272517271902959966 tw5241432633019412454 tw5146419511133355101 tw4901950452751751355 tw4875183332001298310 tw4693990498374982723 tw4518240799239463199 tw4500770602226784723 tw433422668321046410 tw3779426288014791831 tw359671840096281679 tw3215594411785315570 tw3049889035338392086 tw2621549267859657221 tw2524362193708367490 tw2491160530707173016 tw2456046961246061990 tw2327968029161454990 tw2293319759014403718 tw2038817062210522700 tw1880945551628525616 tw18355469623725130789 tw18310911975465951035 tw18235040840531666976 tw17923901135338902390 tw17899081576447628311 tw17792990883913367873 tw17611960108665906869 tw17266719933192899231 tw16806752854993982496 tw16775581927901708647 tw16655995425647584829 tw16475364901538875834 tw16340861869426868178 tw16081276201056090089 tw15870934096080583915 tw1585121251175310060 tw15747558975632382148 tw15515533269734356283 tw15301484485564835547 tw15160256241290102670 tw15128156218217191056 tw15046959658019087259 tw14929112916479162504 tw14895737507101835863 tw1481202337240468055 tw14138803748532912577 tw13769126422860033759 tw13720988504792021713 tw13714047845301181613 tw13608155234905784755 tw1358200528387224527 tw13564432685182156345 tw13324636510584325586 tw1315396721153934266 tw12506288378356033983 tw12315228759413389259 tw12267927148966290478 tw12241219103387607070 tw1219644758906777548:True)
local macro_rules | `(tactic| walk_at "d")=>`(tactic| (refine' L2.DefIn.mk0 ?a ?l ?c ?k;(case' a=>k_is);(case' l=>k_is);(case' c=>k_is);(case' k=>k_is)))
local macro_rules | `(tactic| walk_at "dd")=>`(tactic| (refine' L2.DefDIn.mk0 ?a ?l ?c ?k ?lt ?hd;(case' a=>k_is);(case' l=>k_is);(case' c=>k_is);(case' k=>k_is);(case' lt=>k_is);(case' hd=>rfl)))
open PySem PySem.W PyProof.Rows
set_option maxRecDepth 100000 in
set_option maxHeartbeats 0 in
theorem PySem.Challenge.cw_standup_k62_right_drawings_holds : PySem.Challenge.rw_standup_k62_right_drawings.Holds := by
 w_on;o_law;k_head;(case hw=>w_witness2)
 k_fill
 refine Al.walk (l:=PySem.Challenge.rw_standup_k62_right_drawings) rfl rfl (λw h Y=>PySem.W.kIn_of Y) ?F
 case F=>
  intro w mg fa h KX G Vn
  refine' Al.all_mk KX G Vn ?d0 ?d1 ?d2 ?d3 ?d4 ?d5 ?d6 ?d7 ?d8 ?d9 ?d10 ?d11 ?d12 ?d13 ?d14 ?d15 ?d16 ?d17 ?d18 ?d19 ?d20 ?d21 ?d22 ?d23 ?d24 ?d25 ?d26 ?d27 ?d28 ?d29 ?d30 ?d31 ?d32 ?d33 ?d34 ?d35 ?d36 ?d37 ?d38 ?d39 ?d40 ?d41 ?d42 ?d43 ?d44 ?d45 ?d46 ?d47 ?d48 ?d49 ?d50 ?d51 ?d52 ?d53 ?d54 ?z0 ?z1 ?z2 ?z3 ?z4 ?z5 ?z6 ?z7 ?z8 ?z9 ?z10 ?z11 ?z12 ?z13 ?z14 ?z15 ?z16
  (case d0=>walk_at "d")
  (case d1=>walk_at "d")
  (case d2=>walk_at "d")
  (case d3=>walk_at "d")
  (case d4=>walk_at "d")
  (case d5=>walk_at "d")
  (case d6=>walk_at "d")
  (case d7=>walk_at "d")
  (case d8=>walk_at "d")
  (case d9=>walk_at "d")
  (case d10=>walk_at "d")
  (case d11=>walk_at "d")
  (case d12=>walk_at "d")
  (case d13=>walk_at "d")
  (case d14=>walk_at "d")
  (case d15=>walk_at "d")
  (case d16=>walk_at "d")
  (case d17=>walk_at "d")
  (case d18=>walk_at "d")
  (case d19=>walk_at "d")
  (case d20=>walk_at "d")
  (case d21=>walk_at "d")
  (case d22=>walk_at "d")
  (case d23=>walk_at "d")
  (case d24=>walk_at "d")
  (case d25=>walk_at "d")
  (case d26=>walk_at "d")
  (case d27=>walk_at "d")
  (case d28=>walk_at "d")
  (case d29=>walk_at "d")
  (case d30=>walk_at "d")
  (case d31=>walk_at "d")
  (case d32=>walk_at "d")
  (case d33=>walk_at "d")
  (case d34=>walk_at "d")
  (case d35=>walk_at "d")
  (case d36=>walk_at "d")
  (case d37=>walk_at "d")
  (case d38=>walk_at "d")
  (case d39=>walk_at "d")
  (case d40=>walk_at "d")
  (case d41=>walk_at "d")
  (case d42=>walk_at "d")
  (case d43=>walk_at "d")
  (case d44=>walk_at "d")
  (case d45=>walk_at "d")
  (case d46=>walk_at "d")
  (case d47=>walk_at "dd")
  (case d48=>walk_at "d")
  (case d49=>walk_at "d")
  (case d50=>walk_at "d")
  (case d51=>walk_at "d")
  (case d52=>walk_at "d")
  (case d53=>walk_at "d")
  (case d54=>walk_at "d")
  (case z0=>k_is)
  (case z1=>k_is)
  (case z2=>k_is)
  (case z3=>k_is)
  (case z4=>k_is)
  (case z5=>k_is)
  (case z6=>k_is)
  (case z7=>k_is)
  (case z8=>k_is)
  (case z9=>k_is)
  (case z10=>k_is)
  (case z11=>k_is)
  (case z12=>k_is)
  (case z13=>k_is)
  (case z14=>k_is)
  (case z15=>k_is)
  (case z16=>k_is)
