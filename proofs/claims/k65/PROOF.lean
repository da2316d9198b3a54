import PyProof.Rows.All
import Wide.All
import OpenK.AllK
import Wide.FinOn
import Lean
import PyProof.EqAt
import PyProof.EqKinds
import PyProof.TupleCall
import PyProof.Rows.Catch
import KE.KRevIter
import KE.KDictList
import KE.KStateDown
import KE.KIntText
import PyProof.Rows.TupDisplay
import PyProof.InstStoreFacts
import PyProof.ExcInit
import PyProof.Rows.SetFrom
import PyProof.Walks
import KE.KSortKey
import KE.KLam
import PyProof.AttrMissHeap
import KE.KDictOf
import KE.KSortTup
import PyProof.TupleIter
import PyProof.DictValues
import PyProof.Rows.SumAny
import PySem.Challenge.RW_standup_k65_whole_frames_led
open List
set_option Elab.async false
set_option linter.all false
set_option compiler.extract_closed false
set_option maxRecDepth 100000
set_option maxHeartbeats 4000000
section
variable{q:Prop}
def qe1{A:Type}{P:A->Prop}(h:∃a,P a)(k:∀a,P a->q):q:=h.elim k
def qe2{A B:Type}{P:A->B->Prop}(h:∃a b,P a b)(k:∀a b,P a b->q):q:=h.elim λ_ h=>qe1 h (k _)
def qe3{A B C:Type}{P:A->B->C->Prop}(h:∃a b c,P a b c)(k:∀a b c,P a b c->q):q:=h.elim λ_ h=>qe2 h (k _)
def qe4{A B C D:Type}{P:A->B->C->D->Prop}(h:∃a b c d,P a b c d)(k:∀a b c d,P a b c d->q):q:=h.elim λ_ h=>qe3 h (k _)
def qe5{A B C D E:Type}{P:A->B->C->D->E->Prop}(h:∃a b c d e,P a b c d e)(k:∀a b c d e,P a b c d e->q):q:=h.elim λ_ h=>qe4 h (k _)
def qe6{A B C D E F:Type}{P:A->B->C->D->E->F->Prop}(h:∃a b c d e f,P a b c d e f)(k:∀a b c d e f,P a b c d e f->q):q:=h.elim λ_ h=>qe5 h (k _)
def qe7{A B C D E F G:Type}{P:A->B->C->D->E->F->G->Prop}(h:∃a b c d e f g,P a b c d e f g)(k:∀a b c d e f g,P a b c d e f g->q):q:=h.elim λ_ h=>qe6 h (k _)
def qe8{A B C D E F G I:Type}{P:A->B->C->D->E->F->G->I->Prop}(h:∃a b c d e f g i,P a b c d e f g i)(k:∀a b c d e f g i,P a b c d e f g i->q):q:=h.elim λ_ h=>qe7 h (k _)
def qi2{A B:Type}{P:A->B->Prop}(a:A)(b:B)(h:P a b):∃a b,P a b:=⟨_,_,h⟩
def qi3{A B C:Type}{P:A->B->C->Prop}(a:A)(b:B)(c:C)(h:P a b c):∃a b c,P a b c:=⟨_,_,_,h⟩
def qi4{A B C D:Type}{P:A->B->C->D->Prop}(a:A)(b:B)(c:C)(d:D)(h:P a b c d):∃a b c d,P a b c d:=⟨_,_,_,_,h⟩
def qi5{A B C D E:Type}{P:A->B->C->D->E->Prop}(a:A)(b:B)(c:C)(d:D)(e:E)(h:P a b c d e):∃a b c d e,P a b c d e:=⟨_,_,_,_,_,h⟩
def qi6{A B C D E F:Type}{P:A->B->C->D->E->F->Prop}(a:A)(b:B)(c:C)(d:D)(e:E)(f:F)(h:P a b c d e f):∃a b c d e f,P a b c d e f:=⟨_,_,_,_,_,_,h⟩
def qi7{A B C D E F G:Type}{P:A->B->C->D->E->F->G->Prop}(a:A)(b:B)(c:C)(d:D)(e:E)(f:F)(g:G)(h:P a b c d e f g):∃a b c d e f g,P a b c d e f g:=⟨_,_,_,_,_,_,_,h⟩
def qi8{A B C D E F G I:Type}{P:A->B->C->D->E->F->G->I->Prop}(a:A)(b:B)(c:C)(d:D)(e:E)(f:F)(g:G)(i:I)(h:P a b c d e f g i):∃a b c d e f g i,P a b c d e f g i:=⟨_,_,_,_,_,_,_,_,h⟩
def qa2{a b:Prop}(h:a/\b)(k:a->b->q):q:=k h.1 h.2
def qa3{a b c:Prop}(h:a/\b/\c)(k:a->b->c->q):q:=qa2 h.2 (k h.1)
def qa4{a b c d:Prop}(h:a/\b/\c/\d)(k:a->b->c->d->q):q:=qa3 h.2 (k h.1)
def qa5{a b c d e:Prop}(h:a/\b/\c/\d/\e)(k:a->b->c->d->e->q):q:=qa4 h.2 (k h.1)
def qa6{a b c d e f:Prop}(h:a/\b/\c/\d/\e/\f)(k:a->b->c->d->e->f->q):q:=qa5 h.2 (k h.1)
def qa7{a b c d e f g:Prop}(h:a/\b/\c/\d/\e/\f/\g)(k:a->b->c->d->e->f->g->q):q:=qa6 h.2 (k h.1)
def qa8{a b c d e f g i:Prop}(h:a/\b/\c/\d/\e/\f/\g/\i)(k:a->b->c->d->e->f->g->i->q):q:=qa7 h.2 (k h.1)
def qa9{a b c d e f g i j:Prop}(h:a/\b/\c/\d/\e/\f/\g/\i/\j)(k:a->b->c->d->e->f->g->i->j->q):q:=qa8 h.2 (k h.1)
def qa10{a b c d e f g i j l:Prop}(h:a/\b/\c/\d/\e/\f/\g/\i/\j/\l)(k:a->b->c->d->e->f->g->i->j->l->q):q:=qa9 h.2 (k h.1)
def qa11{a b c d e f g i j l m:Prop}(h:a/\b/\c/\d/\e/\f/\g/\i/\j/\l/\m)(k:a->b->c->d->e->f->g->i->j->l->m->q):q:=qa10 h.2 (k h.1)
def qa12{a b c d e f g i j l m n:Prop}(h:a/\b/\c/\d/\e/\f/\g/\i/\j/\l/\m/\n)(k:a->b->c->d->e->f->g->i->j->l->m->n->q):q:=qa11 h.2 (k h.1)
def qa13{a b c d e f g i j l m n o:Prop}(h:a/\b/\c/\d/\e/\f/\g/\i/\j/\l/\m/\n/\o)(k:a->b->c->d->e->f->g->i->j->l->m->n->o->q):q:=qa12 h.2 (k h.1)
def qa14{a b c d e f g i j l m n o p:Prop}(h:a/\b/\c/\d/\e/\f/\g/\i/\j/\l/\m/\n/\o/\p)(k:a->b->c->d->e->f->g->i->j->l->m->n->o->p->q):q:=qa13 h.2 (k h.1)
def qa15{a b c d e f g i j l m n o p r:Prop}(h:a/\b/\c/\d/\e/\f/\g/\i/\j/\l/\m/\n/\o/\p/\r)(k:a->b->c->d->e->f->g->i->j->l->m->n->o->p->r->q):q:=qa14 h.2 (k h.1)
end
open Lean in
def qPq:Nat->Syntax->MacroM (TSyntax `rcasesPat)
 | 0,_=>Macro.throwUnsupported
 | n+1,s=>match s with
  | `(#[$xs,*])=>do
   let ys<-xs.getElems.mapM fun x=>do `(Lean.Parser.Tactic.rcasesPatLo|$(<-qPq n x):rcasesPat)
   `(rcasesPat|⟨$ys,*⟩)
  | `(_)=>`(rcasesPat|_)
  | `($x:ident)=>`(rcasesPat|$x:ident)
  | _=>Macro.throwUnsupported
open Lean in
def qPr:Nat->Syntax->MacroM Term
 | 0,_=>Macro.throwUnsupported
 | n+1,s=>match s with
  | `(rcasesPat|⟨$xs,*⟩)=>do
   let ys<-xs.getElems.mapM fun x=>if x.raw[1].getNumArgs==0&&x.raw[0][0].getNumArgs==1 then qPr n x.raw[0][0][0] else Macro.throwUnsupported
   `(#[$ys,*])
  | `(rcasesPat|_)=>`(_)
  | `(rcasesPat|$x:ident)=>`($x:ident)
  | _=>Macro.throwUnsupported
open Lean in
def qPf:Nat->Term->Array Term
 | 0,_=>#[]
 | n+1,t=>match t with
  | `($a>>$b)=>(qPf n a).push b
  | _=>#[t]
open Lean in
def qPe:Nat->Array Term->Term->MacroM (TSyntax `tactic)
 | 0,_,_=>Macro.throwUnsupported
 | k+1,ps,e=>do
  let n:=ps.size
  let mut xs:Array Ident:=#[]
  let mut po:Array (TSyntax `tactic):=#[]
  for i in [0:n] do
   let y:=mkIdent (.mkSimple s!"_q{k}_{i}")
   match ps[i]! with
   | `($x:ident)=>
    if x.getId==`rfl then po:=po.push (<-`(tactic| subst $y:ident))
    xs:=xs.push (if x.getId==`rfl then y else x)
   | `(_)=>xs:=xs.push y
   | `(#[$ys,*])=>
    xs:=xs.push y;po:=po.push (<-qPe k ys.getElems y)
   | _=>Macro.throwUnsupported
  let h:=mkIdent (.mkSimple s!"_q{k}")
  let mut a:TSyntax `tactic<-`(tactic| fail)
  let mut d:=a
  for i in [0:min n 9] do
   let f:=mkIdent (.mkSimple s!"qe{i}")
   let g:=mkIdent (.mkSimple s!"qa{n-i}")
   let u:=xs[0:i].toArray
   let v:=xs[i:n].toArray
   let b<-if i==0 then `(tactic| refine $g $e fun $v* =>?_) else if i+1==n then `(tactic| refine $f $e fun $xs* =>?_) else `(tactic| refine $f $e fun $u* $h=>$g $h fun $v* =>?_)
   a<-`(tactic| first | with_reducible $b:tactic | $a:tactic)
   d<-`(tactic| first | $b:tactic | $d:tactic)
  let c<-match e with
   | `($x:ident)=>if xs.any (·.getId==x.getId) then `(tactic| skip) else `(tactic| (try clear $x))
   | _=>`(tactic| skip)
  `(tactic| ((first | $a:tactic | $d:tactic);(try clear $h);$c:tactic;$[$po:tactic];*))
noncomputable section
local macro_rules | `(tactic| let $d:letDecl)=>`(tactic| have $d:letDecl)
local macro_rules | `(tactic| let $p:term:=$e)=>do
 let q<-`(tactic| obtain $(<-qPq 9 p.raw):rcasesPat:=$e)
 match p with
 | `(#[$xs,*])=>`(tactic| first | $(<-qPe 9 xs.getElems e):tactic | $q:tactic)
 | _=>pure q
local macro_rules | `(#[$xs,*])=>if xs.elemsAndSeps.size%2==0 then Lean.Macro.throwUnsupported else `(⟨$xs,*⟩)
local macro_rules | `(tactic| refine#[$xs,*])=>do
 let a:=xs.getElems
 let n:=a.size
 let mut t<-`(tactic| refine⟨$xs,*⟩)
 for i in [2:min n 9] do
  let v:=a[i:n].toArray
  let r<-if i+1==n then pure v[0]! else `(⟨$v,*⟩)
  t<-`(tactic| first | refine $(Lean.mkIdent (.mkSimple s!"qi{i}")) $(a[0:i].toArray)* $r | $t:tactic)
 pure t
local macro_rules | `(tactic| exact#[$xs,*])=>`(tactic| refine#[$xs,*])
local macro_rules | `(())=>`(by lia)
set_option hygiene false
local macro_rules | `($x:ident)=>match x.getId with
 | `A!=>`(by simp)
 | `A?=>`(by decide)
 | `B!=>`(by decide +kernel) | .str p s=>if p.isAnonymous then Lean.Macro.throwUnsupported else
  let q:=Lean.mkIdentFrom x p
  match s with
  | "z"=>`($(Lean.mkIdentFrom x (.str p "length")))
  | "c"=>`($(q).heap.objs.size)
  | "e"=>`($(q).objs.size)
  | "f"=>`($(q).map V.int)
  | "i"=>`($(q).map V.ref)
  | "j"=>`(some (.ref $q))
  | "m"=>`(some (.int $q))
  | "o"=>`(some (.int ($(q) : Int)))
  | _=>Lean.Macro.throwUnsupported
 | _=>Lean.Macro.throwUnsupported
local macro_rules | `($x.$y:ident)=>match y.getId with
 | .str p s=>
  let m:=Lean.mkIdentFrom y
  match s with
  | "z"=>`($(x).$(m (.str p "length")))
  | "c"=>`($(x).$(m (p++`heap.objs.size)))
  | "e"=>`($(x).$(m (p++`objs.size)))
  | "f"=>`($(x).$(m (.str p "map")) V.int)
  | "i"=>`($(x).$(m (.str p "map")) V.ref)
  | _=>Lean.Macro.throwUnsupported
 | _=>Lean.Macro.throwUnsupported
local macro_rules | `(W! $x*)=>`(Ya P w K mg base (Ah P w) $x*)
local macro_rules | `(tactic| exists $a,$x:ident,$y:ident)=>`(tactic| refine $a (λvs H Q E h=>?_) λf $x A o s H vs Q E $y h=>?_)
set_option hygiene true
local macro_rules | `(tactic| ext $p*)=>if p.size==0 then `(tactic| walk_at "") else do
 let r<-`(tactic| rintro $p*)
 let mut t:Array (Lean.TSyntax `tactic):=#[]
 for x in p do
  let y:=Lean.mkIdent `_q9
  match x with
  | `(rintroPat|$z:rcasesPat)=>match <-qPr 9 z with
   | `(#[$xs,*])=>t:=(t.push (<-`(tactic| intro $y:ident))).push (<-qPe 9 xs.getElems y)
   | `($z:ident)=>
    t:=t.push (<-`(tactic| intro $(if z.getId==`rfl then y else z):ident))
    if z.getId==`rfl then t:=t.push (<-`(tactic| subst $y:ident))
   | _=>t:=t.push (<-`(tactic| intro _))
  | _=>Lean.Macro.throwUnsupported
 `(tactic| first | ($[$t:tactic];*) | $r:tactic)
local macro_rules | `(tactic| ext ($p:rcasesPatMed : $e))=>`(tactic| obtain $p:rcasesPatMed:=$e)
local macro_rules | `(tactic| ext ($p:rcasesPat : $e))=>match p with
 | `(rcasesPat|$x:ident)=>`(tactic| by_cases $x:ident : $e)
 | _=>Lean.Macro.throwUnsupported
local macro_rules | `(~~~$x)=>`(by simpa using $x)
local macro_rules | `($a>>$b)=>do
 let r<-(qPf 9 a).mapM fun t=>`(Lean.Parser.Tactic.rwRule|$t:term)
 `(by rw[$r,*];exact $b)
local macro_rules | `(tactic| erw[$r,*])=>match r.getElems.back? with
 | some k=>match k with
  | `(Lean.Parser.Tactic.rwRule|$t:term)=>do
   let q:=r.getElems.pop
   `(tactic| (rw[$q,*];exact $t))
  | _=>Lean.Macro.throwUnsupported
 | _=>Lean.Macro.throwUnsupported
theorem zrD(h:True:=by decide):True:=h
theorem zrO(h:True:=by with_unfolding_all walk_at "blk_ok"):True:=h
theorem zrP(h:True:=by first|exact .inl rfl|exact .inr rfl|assumption):True:=h
theorem zrQ(h:True:=by ext _;rfl):True:=h
theorem zrS(h:True:=by exact LL):True:=h
theorem zrC(h:True:=by subst"cl"):True:=h
theorem zrT(h:True:=by subst"mt"):True:=h
theorem zrG(h:True:=by subst"me"):True:=h
theorem zrJ(h:True:=by subst"mk"):True:=h
theorem zrK(h:True:=by exact#[rfl,rfl,rfl,by decide +kernel,rfl,by decide +kernel,by decide +kernel]):True:=h
theorem zrR(h:True:=by subst"rf"):True:=h
theorem zrI(h:True:=by subst"bi"):True:=h
theorem zrZ(h:True:=by subst"bz"):True:=h
theorem zrN(h:True:=by subst"sn"):True:=h
theorem zrL(h:True:=by subst"sl"):True:=h
theorem zrM(h:True:=by subst"nm"):True:=h
theorem zrU(h:True:=by subst"hu"):True:=h
theorem zrF(h:True:=by subst"tF"):True:=h
theorem zrH(h:True:=by subst"hg"):True:=h
theorem zrE(h:True:=by rfl):True:=h
local macro_rules | `($f:ident $x $y*)=>match f.getId with
 | .str .anonymous s=>if s.length==2&&s.back=='!'&&!(s=="W!") then `(autoParam $(Lean.Syntax.mkApp x y) $(Lean.mkCIdent (.str (.mkSimple s!"zr{s.front}") "_auto_1"))) else Lean.Macro.throwUnsupported
 | _=>Lean.Macro.throwUnsupported
def me:=@List.getElem?_eq_getElem
def su:=@List.getD_eq_getElem?_getD
def AA:=@List.getElem?_eq_some_iff
def UA:=@PySem.wpAny_bind
def Ak:=@if_neg
def A5:=@List.mem_of_getElem?
def Xx:=@Nat.le_refl
def A3:=@List.mem_map
def Al:=@if_pos
def A7:=@List.mem_cons_of_mem
def ZO:=@List.length_map
def BS:=@Classical.byContradiction
def AV:=@Nat.mod_eq_of_lt
def BN:=@PySem.Heap.get?_push_of_some
def AL:=@PySem.Heap.lt_size
def Aa:=@Nat.add_mod_right
def Ax:=@List.mem_singleton
def AO:=@List.mem_cons_self
def AX:=@List.mem_cons
def Af:=@List.mem_append
def Ci:=@List.idxOf_lt_length_of_mem
def A8:=@PySem.wpAny_pure
def A4:=@congrArg
def AK:=@Nat.mod_lt
def Ad:=@List.mem_range
def Bj:=@Bool.false_ne_true
def AY:=@List.getElem?_map
def Ac:=@List.length_append
def BQ:=@decide_eq_false
def BG:=@decide_eq_true
def BV:=@Option.some.inj
def HH:=@PyProof.Rows.callWith_type1
def Ay:=@Nat.le_trans
def A6:=@Ne.symm
def Ej:=@List.mem_iff_getElem?
def EC:=@Int.toNat_natCast
def D8:=@List.mem_flatMap
def EL:=@PySem.Heap.get?_push_size
def E8:=@List.mem_append_right
def Bn:=@List.not_mem_nil
def EB:=@List.nodup_cons
def Ep:=@Nat.lt_of_lt_of_le
def Bm:=@PySem.Paired.length
def Eh:=@List.getElem?_append_left
def Eg:=@List.mem_iff_getElem
def E9:=@List.mem_append_left
def EG:=@List.mem_flatten
def D7:=@Nat.ne_of_lt
def Cj:=@List.size_toArray
def FH:=@Int.eq_ofNat_of_zero_le
def Eb:=@of_decide_eq_true
def Fm:=@List.pairwise_iff_getElem
def Bq:=@List.length_cons
def ER:=@List.mem_filter
def Ap:=@List.map_cons
def Eu:=@List.getElem?_eq_none
def Bv:=@Nat.zero_le
def EU:=@List.map_congr_left
def E7:=@Int.mul_pos
def BX:=@List.mem_cons
def EK:=@Nat.lt_irrefl
def Fs:=@Array.length_toList
def FA:=@Nat.lt_of_le_of_lt
def Fg:=@List.getElem?_append_right
def EH:=@Nat.add_zero
def Bu:=@or_false
def FK:=@Int.emod_lt_of_pos
def F9:=@List.nodup_append
def GF:=@Option.map_eq_some_iff
def Er:=@List.length_range
def EN:=@Nat.add_mod
def EE:=@List.map_append
def Fp:=@List.length_pos_of_mem
def Ex:=@List.getElem_idxOf
def FJ:=@List.getElem?_set_ne
def Ko:=@PySem.Calls.spliced_cons
def Fv:=@Bool.false_eq_true
def FI:=@Int.emod_nonneg
def ET:=@List.getElem_mem
def EX:=@Nat.mod_mod
def HE:=@PySem.Heap.get?_update_other
def G7:=@Nat.lt_succ_self
def Fj:=@Rat.intCast_mul
def FL:=@Int.natAbs_mul
def EW:=@PySem.wpAny_mono
def FE:=@Nat.le_of_lt
def F5:=@Nat.ne_of_gt
def Lf:=@PySem.Calls.spliced_nil
def Io:=@PySem.Around.under_plainId
def Gg:=@Nat.lt_succ_of_lt
def HD:=@Nat.mul_le_mul_right
def Ec:=@List.length_set
def IA:=@PySem.Heap.get?_update_self
def GG:=@PySem.wpAny_loadPart'
def Fz:=@List.mem_of_mem_take
def Fi:=@PySem.wpAny_holding
def HC:=@Nat.lt_trichotomy
def Ez:=@List.getElem_inj
def Ey:=@List.length_drop
def I9:=@List.drop_eq_getElem_cons
def EF:=@Prod.ext
def Fy:=@List.getElem?_range
def Fx:=@Nat.mul_le_mul
def HA:=@List.length_singleton
def Jq:=@List.Pairwise.imp_of_mem
def Jh:=@Int.mul_ediv_cancel_left
def GV:=@List.mem_reverse
def Hx:=@Int.toNat_of_nonneg
def F6:=@List.take_length
def Ig:=@List.nodup_iff_pairwise_ne
def La:=@PySem.sizeLine_eq
def Kl:=@Array.getD_eq_getD_getElem?
def Gv:=@List.Pairwise.map
def Fc:=@List.flatten_cons
def Hw:=@List.getElem?_replicate
def Hu:=@of_decide_eq_false
def Hr:=@Nat.mod_eq_sub_mod
def Kk:=@List.nodup_iff_pairwise_ne
def GK:=@List.mem_of_mem_drop
def JZ:=@Nat.le_mul_of_pos_left
def LZ:=@Int.mul_le_mul_of_nonneg_right
def Kj:=@Int.natAbs_ediv_le_natAbs
def Ki:=@List.getElem?_zip_eq_some
def Hq:=@List.getElem?_set_self
def Fb:=@List.length_take
def ED:=@List.map_map
def Hl:=@List.pairwise_map
def JW:=@List.pairwise_flatten
def GB:=@PySem.plainId_quiet
def Ft:=@Int.le_of_lt
def Im:=@PySem.codeAny_builtin
def Fu:=@Nat.zero_add
def Ij:=@List.find?_eq_none
def Ii:=@decide_eq_true_iff
def Ek:=@List.sum_cons
def Kn:=@PySem.F.plainAttrs_list
def Ih:=@PySem.wpAny_truthy_bool
def Gz:=@List.length_reverse
def Ff:=@List.find?_cons
def Gy:=@List.flatten_append
def GD:=@Int.mul_comm
def Mg:=@PySem.F.plain_extend_loop
def Ld:=@Nat.add_mul_mod_self_left
def Km:=@PySem.builtinLookup_eq_fast
def Jn:=@Nat.add_sub_cancel
def Jl:=@List.getElem?_cons_succ
def Lc:=@Int.mul_fdiv_cancel_left
def Ga:=@List.append_assoc
def I8:=@List.flatMap_append
def NI:=@Array.toArray_toList
def Mf:=@PySem.wpAny_typeNameOfWhole_keyiter
def Jk:=@decide_eq_true_eq
def Jj:=@List.take_of_length_le
def Ji:=@PySem.wpAny_updateSeq
def F8:=@if_false
def Gx:=@List.ext_getElem?
def Gn:=@Nat.mul_comm
def Gk:=@Nat.mod_self
def FN:=@PySem.sizeLine_eq
def GJ:=@List.cons_append
def Hj:=@List.getElem?_drop
def Hi:=@List.filter_append
def JS:=@List.take_append_drop
def JQ:=@PySem.F.plain_min_loop
def GA:=@List.append_nil
def JP:=@PySem.wpAny_seqItems
def K6:=@List.filter_cons_of_pos
def G9:=@List.length_zip
def Ib:=@List.getElem_of_mem
def MS:=@Array.getElem?_toList
def LM:=@List.pairwise_flatMap
def Hh:=@Nat.add_comm
def HY:=@List.getElem?_set
def HM:=@List.flatMap_cons
def Ia:=@Nat.add_assoc
def GI:=@List.range_succ
abbrev cq:=List<|List Int
abbrev cc:=List Int
abbrev bq:=List<|PySem.Addr×PySem.Obj
abbrev bo:=PySem.Value->PySem.Shared->Prop
abbrev bg:=PySem.Str->Option PySem.Value
abbrev bf:=List PySem.Addr
abbrev bc:=List PySem.Value
abbrev bb:=PySem.W.Frag
def MR:=@PySem.F.slot_dict_keyiterator_next
def MQ:=@Int.eq_of_mul_eq_mul_right
def N9:=@Int.mul_nonpos_of_nonpos_of_nonneg
def MO:=@Int.mul_pos_of_neg_of_neg
def JL:=@PySem.wpAny_passesOwn
def K5:=@PySem.wpAny_newObj_type
def LX:=@Nat.pow_le_pow_right
def Kh:=@List.range_succ_eq_map
def Kf:=@List.flatten_singleton
def Md:=@PySem.wpAny_typeNameOf_keyiter
def LR:=@beq_eq_false_iff_ne
def LQ:=@PySem.mem_of_lookup
def LP:=@Nat.pow_le_pow_left
def KZ:=@Bool.and_eq_true
def JU:=@Int.natAbs_neg
def KY:=@PySem.wpAny_call_entry
def Mc:=@Nat.le_mul_of_pos_right
def Mb:=@PySem.wpAny_callSpecial?_slot
def KW:=@Option.bind_some
def KU:=@decide_eq_decide
def Ma:=@PySem.Calls.callWith_builtin
def Gp:=@List.mem_filter
def LO:=@List.filter_cons_of_neg
def Hk:=@Nat.lt_or_ge
def KR:=@Bool.eq_iff_iff
def KP:=@PySem.wpAny_specialOf
def KO:=@Nat.mod_add_mod
def KN:=@List.erase_cons_head
def K8:=@PySem.typeLookup_type
def K7:=@Int.mul_eq_zero
def MT:=@List.perm_append_singleton
def LN:=@Int.lt_trichotomy
def HL:=@List.of_mem_zip
def HK:=@PySem.call_meets
def IZ:=@Nat.le_succ
def Ly:=@List.forall_mem_cons
def IY:=@PySem.wpAny_of_eq
def IX:=@List.ext_getElem
def Lx:=@List.mem_of_find?_eq_some
def IS:=@List.getElem_map
def Lv:=@Nat.pow_lt_pow_right
def LH:=@List.length_replicate
def IH:=@Nat.lt_trans
def LG:=@PySem.Heap.size_update
def J1:=@List.nodup_append
def LF:=@List.length_filter_le
def Iz:=@Int.mul_zero
def N3:=@Array.getElem?_eq_getElem
def Lu:=@List.length_pos_iff
def Ls:=@List.countP_eq_zero
def G8:=@not_or
def Lr:=@List.filter_eq_self
def N2:=@Option.isSome_iff_exists
def K2:=@List.append_of_mem
def N1:=@List.idxOf_lt_length_iff
def LD:=@PySem.W.KasT.kasWp_bind
def L9:=@Rat.intCast_inj
def LL:=@PySem.PassesOwn.never
def MN:=@PySem.tupleKind_room_in1
def ML:=@List.pairwise_cons
def MK:=@List.erase_append_right
def NH:=@Int.mul_nonpos_of_nonneg_of_nonpos
def MJ:=@Int.lt_or_eq_of_le
def NG:=@Int.mul_nonneg_of_nonpos_of_nonpos
def MI:=@Nat.one_le_two_pow
def JK:=@List.nodup_range
def JE:=@Nat.add_mul
def N8:=@decide_eq_false_iff_not
def N7:=@PySem.wpAny_pyIter_rangeiter
def MH:=@PySem.wpAny_pyIter_list
def K4:=@Nat.pow_succ
def MD:=@PySem.Heap.get?_push_ne
def LJ:=@PySem.wpAny_tryCatch
def LI:=@Int.mul_nonneg
def K3:=@List.pairwise_map
def NF:=@Nat.Coprime.dvd_of_dvd_mul_left
def N6:=@PySem.F.slot_dict_get
def N5:=@List.perm_ext_iff_of_nodup
def N4:=@PySem.wpAny_isOneOf_keyiter
def J3:=@List.mem_append
def M9:=@PySem.wpAny_pyIter_zip
def M8:=@Option.getD_some
def M6:=@List.any_eq_true
def L4:=@Int.mul_assoc
def Ms:=@PySem.F.slot_list_lt
def L0:=@PySem.wpAny_letGo
def Ju:=@PySem.wpAny_field
def Jt:=@Int.le_refl
def Js:=@Nat.one_mul
def Mr:=@List.exists_mem_of_ne_nil
def Mq:=@List.mem_or_eq_of_mem_set
def Jr:=@List.filter_cons
def Mp:=@List.getLast?_eq_getElem?
def Mo:=@Bool.or_eq_false_iff
def Lk:=@Nat.le_antisymm
def Lj:=@beq_false_of_ne
def Li:=@Nat.add_mod_mod
def Lh:=@Nat.div_add_mod
def Lg:=@PySem.F.slot_zip_next
def Mm:=@Nat.mul_le_mul_left
def Mj:=@Rat.intCast_natCast
def Ks:=@Nat.succ_mul
def Kr:=@PySem.wpAny_typeOf
def Kq:=@Nat.zero_mod
def L8:=@Nat.sub_self
def L6:=@decide_false
def Ir:=@List.take_succ
def IF:=@List.any_cons
def L5:=@List.length_nil
def K1:=@List.idxOf_cons
def Lq:=@List.Perm.refl
def K0:=@List.nil_append
def Lo:=@List.filter_sublist
def Jy:=@List.filter_map
def N0:=@Nat.le_succ_of_le
def My:=@List.Pairwise.imp
namespace L2
open PySem PySem.Spec PyProof.Rows
abbrev Key:=Sum Int Str
noncomputable def qR:Key->Value->Bool
 | .inl k,v=>Value.isInt k v
 | .inr x,v=>Value.isStrOf x v
noncomputable def YY(w:World):Key->Int
 | .inl k=>hashInt k
 | .inr x=>hashStr w x
theorem bV:∀{k:Key} {v:Value},qR k v=true->(∃i t,k=Sum.inl i/\v=Value.int i t)\/(∃x t,k=Sum.inr x/\v=Value.str x t)
 | .inl i,v,h=>by let#[t,e]:=Value.isInt_shape h;exact .inl #[i,t,rfl,e]
 | .inr x,v,h=>by let#[t,e]:=Value.isStrOf_shape h;exact .inr #[x,t,rfl,e]
theorem zbd(i:Int)(t:Tok):qR (.inl i) (.int i t)=true:=by simp[qR,Value.isInt]
theorem zbz(x:Str)(t:Tok):qR (.inr x) (.str x t)=true:=by simp[qR,Value.isStrOf]
theorem R6(a b:Int):decide ((Sum.inl a:Key)=Sum.inl b)=(a==b):=by ext(e:a=b);subst e;simp;erw[BQ<|λq=>e<|Sum.inl.inj q,(LR.mpr e).symm]
theorem R3(a b:Str):decide ((Sum.inr a:Key)=Sum.inr b)=decide (a=b):=by ext(e:a=b);subst e;simp;rw[BQ λq=>e<|Sum.inr.inj q,BQ e]
theorem R5(a:Int)(b:Str):decide ((Sum.inl a:Key)=Sum.inr b)=false:=BQ (λq=>nomatch q)
theorem R4(a:Str)(b:Int):decide ((Sum.inr a:Key)=Sum.inl b)=false:=BQ (λq=>nomatch q)
def a7(prog:Program)(w:World):PySem.KeyKind prog w Key where
 is:=qR
 hash:=YY w
 inj:=λv a b g d=>by ext(⟨i,t,rfl,rfl⟩|⟨x,t,rfl,rfl⟩:bV g);ext(⟨j,u,rfl,e⟩|⟨y,u,rfl,e⟩:bV d);injection e with e1 _;rw[e1];exact nomatch e;ext(⟨j,u,rfl,e⟩|⟨y,u,rfl,e⟩:bV d);exact nomatch e;injection e with e1 _;rw[e1]
 byValue:=λk v h=>by ext(⟨i,t,rfl,rfl⟩|⟨x,t,rfl,rfl⟩:bV h)<;>rfl
 pyHash:=λc h=>by ext(⟨i,t,rfl,rfl⟩|⟨x,t,rfl,rfl⟩:bV c);exact wpAny_pyHash_int h;exact wpAny_pyHash_str h
 eqBool:=λf c h=>by ext(⟨i,t,rfl,rfl⟩|⟨x,t,rfl,rfl⟩:bV f);ext(⟨j,u,rfl,rfl⟩|⟨y,u,rfl,rfl⟩:bV c);rw[R6]at h;exact wpAny_eqBool_int h;rw[R5]at h;exact SeqAt.EqAt.int_str i t y u _ _ _ _ h;ext(⟨j,u,rfl,rfl⟩|⟨y,u,rfl,rfl⟩:bV c);rw[R4]at h;exact SeqAt.EqAt.str_int x t j u _ _ _ _ h;rw[R3]at h;exact wpAny_eqBool_str h
 «strs»:=λk x t v h=>by ext(⟨i,u,rfl,e⟩|⟨y,u,rfl,e⟩:bV h);exact nomatch e;injection e with e1 _;subst e1;cases v<;>rfl
theorem zau(prog:Program)(w:World)(k:Key)(v:Value):(a7 prog w).is k v=qR k v:=rfl
inductive V where
 | dY|bl (b:Bool) | int (i:Int) | str (x:Str) | DT (b:Array UInt8) | Je (b:UInt64) | ref (a:Addr) | ty (n:String)
 deriving DecidableEq
set_option genSizeOf false
set_option genInjectivity false
def RelV:V->Value->Prop
 | .dY,u=>u=Value.none
 | .bl b,u=>u=Value.bool b
 | .int i,u=>∃t,u=Value.int i t
 | .str x,u=>∃t,u=Value.str x t
 | .DT b,u=>∃t,u=Value.bytes b t
 | .Je b,u=>∃t,u=Value.float b t
 | .ref a,u=>u=Value.ref a
 | .ty n,u=>u=Value.type n
abbrev Vals:List V->bc->Prop:=Paired RelV
theorem Vals.length(r:Vals xs us):xs.z=us.z:=Bm r
theorem Vals.get:∀{xs:List V} {us:bc} {i:Nat} {x:V},Vals xs us->xs[i]?=some x->∃u,us[i]?=some u/\RelV x u
 | _,_,_,_,.nil,e=>by simp at e
 | _,_,0,_,.cons r _,e=>by simp at e;subst e;exact#[_,rfl,r]
 | _,_,i+1,x,.cons _ t,e=>by let#[u,b,a]:=Vals.get t (~~~e);exact#[u,~~~b,a]
theorem Vals.set{x:V}{u:Value}(r:RelV x u):∀{xs:List V} {us:bc} (i:Nat),Vals xs us->Vals (xs.set i x) (us.set i u)
 | _,_,_,.nil=>.nil
 | _,_,0,.cons _ t=>.cons r t
 | _,_,i+1,.cons q t=>.cons q<|Vals.set r i t
theorem Vals.append:∀{xs ys:List V} {us a:bc},Vals xs us->Vals ys a->Vals (xs++ys) (us++a)
 | _,_,_,_,.nil,s=>s
 | _,_,_,_,.cons r t,s=>.cons r<|Vals.append t s
theorem Vals.take:∀{xs:List V} {us:bc} (n:Nat),Vals xs us->Vals (xs.take n) (us.take n)
 | _,_,0,_=>.nil
 | _,_,_+1,.nil=>.nil
 | _,_,n+1,.cons r t=>.cons r<|Vals.take n t
theorem Vals.drop:∀{xs:List V} {us:bc} (n:Nat),Vals xs us->Vals (xs.drop n) (us.drop n)
 | _,_,0,r=>r
 | _,_,_+1,.nil=>.nil
 | _,_,n+1,.cons _ t=>Vals.drop n t
def nU:Option V->Option Value->Prop
 | some v,some u=>RelV v u
 | none,none=>True
 | _,_=>False
noncomputable def KV{κ:Type}:List (κ×V)->List (κ×Value)->Prop:=Paired λ(p:κ×V) (q:κ×Value)=>p.1=q.1/\RelV p.2 q.2
noncomputable def kV:Key->V
 | .inl i=>.int i
 | .inr x=>.str x
inductive HO where
 | lst (xs:List V)
 | tup (xs:List V)
 | dK (kvs:List (Key×V)) | dT (kvs:List (List Key×V))
 | set (S:Int->Bool) (n:Nat)
 | ins (C dx:Addr) (fs:List (Str×V))
 | own (x:Addr)
 | xd (fs:List (Str×V))
 | met (f x:Addr)
 | Yq (lo hi:Int)
 | jA (o:Obj) (u:HO)
 | QM (ps:Array Value)
 | ext (φ:Heap->Prop)
abbrev Hp:=Addr->Option HO
noncomputable def upd(H:Hp)(a:Addr)(o:HO):Hp:=λb=>if b=a then some o else H b
theorem aA:upd H a o a=some o:=by unfold upd;rw[Al rfl]
theorem aB(h:b≠a):upd H a o b=H b:=by unfold upd;rw[Ak h]
theorem zeg:upd (upd H a o) a u=upd H a u:=by funext b;unfold upd;split<;>rfl
theorem bO{H:Hp}{a b:Addr}{o:HO}(h:H a=some o)(h':H b=none):a≠b:=by ext e;subst e;rw[h]at h';cases h'
section
variable (P:Program) (w:World)
def aY(H:Hp)(h:Heap)(a:Addr):HO->Prop
 | .lst xs=>xs.z<=sizeLine/\∃(c:bc) (n:Nat),Vals xs c/\h.get? a=some { cls:=.type "list",data:=.seq c.toArray n }
 | .tup xs=>xs.z<=sizeLine/\∃c:bc,Vals xs c/\IsTup h a c.toArray
 | .dK kvs=>kvs.z<=sizeLine/\(a==sysModules)=false/\∃vs,KV kvs vs/\h.DictOf (a7 P w) a vs
 | .dT kvs=>kvs.z<=sizeLine/\(a==sysModules)=false/\∃xs:List (List Key×Addr×Value),
   Paired (λ(p:List Key×V) (q:List Key×Addr×Value)=>p.1=q.1/\H q.2.1=some (.tup<|p.1.map kV)/\RelV p.2 q.2.2) kvs xs/\
   ∃o g i,h.get? a=some o/\o.ExactDict/\o.data=.dict g i/\g.toList=xs.map (entryOfKey<|tupleKind<|a7 P w)/\(xs.map (·.1)).Nodup
 | .set S n=>h.SetOf (intKind P w) a S n
 | .ins C dx fs=>H dx=some (.own a)/\fs.z<=1000/\dx≠a/\h.get? a=some (PySem.W.instObj C dx)/\
   ∃b,h.Ns1 dx b/\(∀f,nU (fs.lookup f)<|b f)/\PySem.Within b (fs.map (·.1))
 | .own _=>∃o,h.get? a=some o
 | .xd fs=>∃b,h.Ns1 a b/\∀f,nU (fs.lookup f)<|b f
 | .Yq lo hi=>∃t u v,h.get? a=some { cls:=.type "range",data:=.fields #[.int lo t,.int hi u,.int 1 v,] }
 | .jA o u=>h.get? a=some o/\aY H h a u
 | .QM ps=>h.get? a=some { cls:=.none,data:=.fields ps }
 | .met f x=>h.get? a=some (PySem.W.methodObj (.ref f)<|.ref x)
 | .ext φ=>φ h/\(∃o,h.get? a=some o)/\∀e d:Heap,φ e->(∀o,e.get? a=some o->d.get? a=some o)->φ d
def jS(H:Hp)(h:Heap):Prop:=∀a o,H a=some o->aY P w H h a o
end
section
variable {P:Program} {w:World} {H H':Hp} {h h':Heap} {a:Addr} {o:HO}
theorem aY.lt(x:aY P w H h a o):a<h.e:=by
 cases o with
 | lst xs=>obtain⟨_,_,_,_,e⟩:=x;exact AL e
 | tup xs=>obtain⟨_,_,_,p⟩:=x;exact p.lt
 | dK kvs=>obtain⟨_,_,_,_,o,_,_,e,_⟩:=x;exact AL e
 | dT kvs=>obtain⟨_,_,_,_,o,_,_,e,_⟩:=x;exact AL e
 | set S n=>obtain⟨o,_,_,_,e,_⟩:=x;exact AL e
 | ins C i fs=>obtain⟨_,_,_,e,_⟩:=x;exact AL e
 | own y=>obtain⟨_,e⟩:=x;exact AL e
 | xd fs=>obtain⟨_,⟨_,_,_,e,_⟩,_⟩:=x;exact AL e
 | Yq lo c=>obtain⟨_,_,_,e⟩:=x;exact AL e
 | jA g u=>obtain⟨e,_⟩:=x;exact AL e
 | QM d=>exact AL<|show h.get? a=some _ from x
 | met f y=>exact AL<|show h.get? a=some _ from x
 | ext b=>obtain⟨_,⟨_,e⟩,_⟩:=x;exact AL e
theorem Paired.Il{α β:Type}{F G:α->β->Prop}:∀{l₁:List α} {l₂:List β},Paired F l₁ l₂->(∀a b,F a b->G a b)->Paired G l₁ l₂
 | _,_,.nil,_=>.nil
 | _,_,.cons r t,f=>.cons (f _ _ r)<|Paired.Il t f
theorem Paired.imp'{α β:Type}{F G:α->β->Prop}(f:∀a b,F a b->G a b){l₁:List α}{l₂:List β}(r:Paired F l₁ l₂):Paired G l₁ l₂:=Paired.Il r f
theorem aY.iW(x:aY P w H h a o)(k:∀b u,(b=a\/H b=some (.own a))->h.get? b=some u->h'.get? b=some u)(ho:∀b,H b=some (.own a)->H' b=some (.own a))(B:∀b xs,H b=some (.tup xs)->H' b=some (.tup xs)):aY P w H' h' a o:=by
 induction o with
 | lst xs=>obtain⟨z,m,n,r,e⟩:=x;exact#[z,m,n,r,k _ _ (.inl rfl) e]
 | tup xs=>obtain⟨z,m,r,g,e,c⟩:=x;exact#[z,m,r,g,k _ _ (.inl rfl) e,c]
 | dK kvs=>obtain⟨z,y,vs,r,g,j,i,e,c⟩:=x;exact#[z,y,vs,r,g,j,i,k _ _ (.inl rfl) e,c]
 | dT kvs=>
  let#[z,y,xs,r,g,j,i,e,c]:=x;exact#[z,y,xs,Paired.Il r λp q z=>#[z.1,B _ _ z.2.1,z.2.2],g,j,i,k _ _ (.inl rfl) e,c]
 | set S n=>obtain⟨g,j,i,t,e,c⟩:=x;exact#[g,j,i,t,k _ _ (.inl rfl) e,c]
 | ins C F fs=>
  let#[d,z,A,e,l,#[od,j,i,e2,c],r]:=x;exact#[ho _ d,z,A,k _ _ (.inl rfl) e,l,#[od,j,i,k _ _ (.inr d) e2,c],r]
 | own y=>obtain⟨g,e⟩:=x;exact#[g,k _ _ (.inl rfl) e]
 | xd fs=>obtain⟨l,⟨od,j,i,e,c⟩,r⟩:=x;exact#[l,#[od,j,i,k _ _ (.inl rfl) e,c],r]
 | Yq lo G=>obtain⟨t,u,v,e⟩:=x;exact#[t,u,v,k _ _ (.inl rfl) e]
 | jA g u s=>obtain⟨e,q⟩:=x;exact#[k _ _ (.inl rfl) e,s q]
 | QM E=>
  let e:=x;exact k a _ (.inl rfl) e
 | met f y=>
  let e:=x;exact k a _ (.inl rfl) e
 | ext D=>obtain⟨p,⟨o,e⟩,st⟩:=x;exact#[st _ _ p λo q=>k _ _ (.inl rfl) q,#[o,k _ _ (.inl rfl) e],st]
theorem jS.lt(x:jS P w H h)(e:H a=some o):a<h.e:=(x a o e).lt
theorem jS.fresh(x:jS P w H h)(e:h.e<=a):H a=none:=by
 cases q:H a with
 | none=>rfl
 | some u=>exact absurd (Ep (x.lt q) e)<|EK _
theorem jS.kept(x:jS P w H h)(k:∀b u,h.get? b=some u->h'.get? b=some u):jS P w H h':=λa o e=>
 (x a o e).iW (λb u _ q=>k b u q) (λ_ q=>q) λ_ _ q=>q
theorem jS.laid(x:jS P w H h)(k:∀b u,h.get? b=some u->h'.get? b=some u)(i:h.e<=a)(d:aY P w (upd H a o) h' a o):jS P w (upd H a o) h':=λb u e=>by let g:=x.fresh i;ext(f:b=a);subst f;rw[aA]at e;cases e;exact d;rw[aB f]at e;exact(x b u e).iW (λc v _ q=>k c v q) (λc q=>by erw[aB<|bO q g,q]) λc xs q=>by erw[aB<|bO q g,q]
end
def Rd(H:Hp)(a:Addr)(u:HO):Prop:=H a=some u\/∃o,H a=some (.jA o u)
theorem Rd.ok(r:Rd H a u)(x:jS P w H h):aY P w H h a u:=by ext(r|⟨o,r⟩:r);exact x a u r;let#[_,q]:=x a _ r;exact q
def W8:Option HO->Prop
 | some (.lst _)=>True
 | some (.dK _)=>True
 | some (.dT _)=>True
 | some (.set _ _)=>True
 | some (.ins _ _ _)=>True
 | some (.ext _)=>True
 | _=>False
theorem jS.write(n:jS P w H h)(j:W8<|H x)(m:e=x\/H e=some (.own x))(k:∀b u,b≠e->h.get? b=some u->h'.get? b=some u)(o:∃u,h'.get? e=some u)(g:aY P w (upd H x o') h' x o'):jS P w (upd H x o') h':=λb u q=>by
 let i:∀c y,H c=some (.own y)->c≠x:=λc y r z=>by subst z;rwa[r]at j
 let p:∀c xs,H c=some (.tup xs)->c≠x:=λc xs r z=>by subst z;rwa[r]at j
 ext(d:b=x);subst d;rw[aA]at q;cases q;exact g;rw[aB d]at q;ext(a:b=e);let l:H b=some (.own x):=by ext(z|z:m);exact absurd (a.trans z) d;erw[a,z]
 rw[q]at l;cases l;let#[v,s]:=o;exact#[v,a>>s];refine(n b u q).iW (λc v f r=>k c v ?_ r) (λc r=>by erw[aB<|i c b r,r]) λc xs r=>by erw[aB<|p c xs r,r]
 ext(rfl|f:f);exact a;ext rfl;ext(z|z:m);exact i c b f z;rw[f]at z;cases z;exact d rfl
structure Un(fs ex:bf)(H H':Hp)(h h':Heap):Prop where
 keep:∀b o,h.get? b=some o->H b=none->b∉fs->b∉ex->h'.get? b=some o
 slot:∀b o,h.get? b=some o->H b=none->b∈fs->b∉ex->∃sl,h'.get? b=some { o with slots:=sl }
 free:∀b o,h.get? b=some o->H b=none->b∉ex->H' b=none
 there:∀b o,h.get? b=some o->b∉ex->∃o',h'.get? b=some o'
 uU:∀b xs,H b=some (.tup xs)->H' b=some (.tup xs)
 sN:∀b o u,H b=some (.jA o u)->H' b=some (.jA o u)
 uW:∀b ps,H b=some (.QM ps)->∃more,H' b=some (.QM<|ps++more)
section
variable {fs fs' ex ex':bf} {H H1 H2:Hp} {h h1 h2 h':Heap} {a x e:Addr} {o:HO}
theorem Un.any(u:Un fs ex H H1 h h1)(q:h.get? b=some ob)(n:H b=none)(c:b∉ex):∃sl,h1.get? b=some { ob with slots:=sl }:=by ext(d:b∈fs);exact u.slot b ob q n d c;exact#[ob.slots,u.keep b ob q n d c]
theorem Un.kept(k:∀b u,h.get? b=some u->h'.get? b=some u):Un fs ex H H h h':=
 #[λb c q _ _ _=>k b c q,λb c q _ _ _=>#[c.slots,k b c q],λ_ _ _ n _=>n,λb c q _=>#[c,k b c q],λ_ _ q=>q,λ_ _ _ q=>q,λ_ d q=>#[#[],by rw[q];simp]]
theorem Un.refl:Un fs ex H H h h:=Un.kept λ_ _ q=>q
theorem Un.laid(k:∀b u,h.get? b=some u->h'.get? b=some u)(d:h.e<=a)(c:H a=none):Un fs ex H (upd H a o) h h' where
 keep:=λb u q _ _ _=>k b u q
 slot:=λb u q _ _ _=>#[u.slots,k b u q]
 free:=λb u q n _=>by erw[aB<|D7<|Ep (AL q) d,n]
 there:=λb u q _=>#[u,k b u q]
 uU:=λb xs q=>by erw[aB<|bO q c,q]
 sN:=λb u xs q=>by erw[aB<|bO q c,q]
 uW:=λb f q=>#[#[],by rw[aB<|bO q c,q];simp]
theorem Un.write(c:W8<|H x)(l:e=x\/H e=some (.own x))(k:∀b u,b≠e->h.get? b=some u->h'.get? b=some u)(j:∃u,h'.get? e=some u):Un fs ex H (upd H x o) h h':=by
 let f:∀b,H b=none->b≠x:=λb n z=>by subst z;rwa[n]at c
 let i:∀b,H b=none->b≠e:=λb n z=>by subst z;ext(r|r:l);exact f b n r;rw[n]at r;cases r
 let d:∀b u,H b=some u->¬W8 (some u)->b≠x:=λb u q nm z=>by subst z;rw[q]at c;exact nm c
 refine#[λb u q n _ _=>k b u (i b n) q,λb u q n _ _=>#[u.slots,k b u (i b n) q],λb u q n _=>by erw[aB<|f b n,n],λb u q _=>?_,
  λb xs q=>by erw[aB<|d b _ q λz=>z,q],λb u xs q=>by erw[aB<|d b _ q λz=>z,q],λb m q=>#[#[],by rw[aB<|d b _ q λz=>z,q];simp]]
 ext(g:b=e);subst g;exact j;exact#[u,k b u g q]
end
noncomputable def Xp(h:Heap)(H:Hp):bf:=(List.range h.e).filter λa=>(H a).isSome
def wJ(h:Heap)(H:Hp):Heap:=PySem.W.hideAll h<|Xp h H
theorem zeh(e:h.get? b=some o)(n:H b=none):(wJ h H).get? b=some o:=
 PySem.W.hideAll_get _ e λa=>by let q:=(ER.mp a).2;rw[n]at q;simp at q
theorem zeO(e:(wJ h H).get? b=some o):h.get? b=some o/\H b=none:=by
 let a:=PySem.W.of_hideAll (Xp h H) e;refine#[a,?_];cases q:H b with
 | none=>rfl
 | some x=>
  let z:(wJ h H).get? b=none:=PySem.W.hideAll_none (Xp h H)<|ER.mpr #[Ad.mpr<|AL a,by simp[q]];rw[z]at e;cases e
structure Mod(K:bb)(mg:bg)(base:Heap):Prop where
 YX:K.In base
 glob:base.Ns mainGlobals mg
 blt:∃mb,base.Ns builtinsNs mb/\∀x:Str,x≠ "__name__"->mb x=bootBuiltins x
 nolimit:base.NoLimit
structure Cx where
 prog:Program
 w:World
 K:bb
 mg:Str->Option Value
 base:Heap
 A:Around
 N:List Str
 s₀:Shared
 H₀:Hp
 env:Env
 outer:List Env
 stack:List Env
 ex:bf
 fn:Str->Bool
 calm:Bool
 pn:bq
 xe:Value->Shared->Prop
noncomputable def zQ(l:List Env):bf:=l.filterMap (·.frame)
abbrev Cx.fs(X:Cx):bf:=zQ X.outer
def X6(a:Scope)(x:Str):Prop:=a.names.lookup x=some .local\/a.names.lookup x=some .cell\/a.names.lookup x=some .free
def Loc(a:Scope)(x:Str):Prop:=a.names.lookup x=some .local\/a.names.lookup x=some .cell
def Look(env:Env)(h:Heap)(m:bg)(x:Str)(u:Value):Prop:=
 (env.kindOf x=some .local/\m x=some u)\/((env.kindOf x=some .cell\/env.kindOf x=some .free)/\∃c,env.cells.lookup x=some c/\h.IsCell c (some u))
structure Cx.Ok(X:Cx):Prop where
 mod:Mod X.K X.mg X.base
 kind:X.env.scope.kind=.function
 glob:X.env.globals=mainGlobals
 blt:X.env.builtins=builtinsNs
 above:X.s₀.c<=X.env.locals
 inj:∀x y c,X.env.cells.lookup x=some c->X.env.cells.lookup y=some c->x=y
 has:∀x,(X.env.kindOf x=some .cell\/X.env.kindOf x=some .free)->∃c,X.env.cells.lookup x=some c
 W0:∀x c,X.fn x=true->X.env.cells.lookup x=some c->X.s₀.c<=c
 hd:X.calm=true->X.A.handled=none
 frames:X.A.frames=some X.stack
 GU:X.stack=X.outer\/(X.stack=X.env::X.outer/\X.env.frame=some X.env.locals)
 exf:∀b∈X.ex,b≠X.env.locals/\∀x c,X.env.cells.lookup x=some c->c≠b
 bs:∀b o,X.base.get? b=some o->X.s₀.heap.get? b=some o/\X.H₀ b=none
 Tr:X.base.e<=X.s₀.c
 HZ:∀b o,X.base.get? b=some o->b∉X.ex
 Ng:∀b∈X.ex,b∉X.fs
 q5:X.s₀.heap.FunFrames X.base X.outer
 Ur:∀b∈X.fs,X.H₀ b=none
structure Inv(X:Cx)(pins:bq)(σ:List<|Option V)(H:Hp)(s:Shared):Prop where
 ok:X.Ok
 os:s.os=X.s₀.os
 bare:AllBare s.gens
 base:Un X.fs X.ex X.H₀ H X.s₀.heap s.heap
 loc:∃m,s.heap.Ns X.env.locals m/\∀(i:Nat) (x:Str) (v:V),X.N[i]?=some x->σ[i]?=some (some v)->X6 X.env.scope x->∃u,RelV v u/\Look X.env s.heap m x u
 cell:∀x c,X.env.cells.lookup x=some c->∃v,s.heap.IsCell c v
 free:H X.env.locals=none
 iU:∀x c,X.env.cells.lookup x=some c->H c=none
 pin:∀p∈X.pn++pins,s.heap.get? p.1=some p.2/\H p.1=none/\p.1≠X.env.locals/\p.1∉X.fs/\∀v,p.2.data≠.cell v
 bu:jS X.prog X.w H s.heap
 len:σ.z=X.N.z
section
variable {X:Cx} {pins:bq} {σ:List (Option V)} {H H':Hp} {s:Shared} {h':Heap}
theorem Cx.Ok.YJ(a:X.Ok)(e:X.base.get? b=some o):b∉X.fs:=λc=>by let:=(a.q5.mem c).1;rw[e]at this;cases this
theorem Inv.bs(I:Inv X pins σ H s):∀b o,X.base.get? b=some o->s.heap.get? b=some o/\H b=none:=λb o e=>
 #[I.base.keep b o (I.ok.bs b o e).1 (I.ok.bs b o e).2 (I.ok.YJ e)<|I.ok.HZ b o e,I.base.free b o (I.ok.bs b o e).1 (I.ok.bs b o e).2<|I.ok.HZ b o e]
theorem Inv.bk(I:Inv X pins σ H s):∀b o,X.base.get? b=some o->s.heap.get? b=some o:=λb o e=>(I.bs b o e).1
theorem Inv.mod(I:Inv X pins σ H s):Mod X.K X.mg X.base:=I.ok.mod
theorem Inv.zA(I:Inv X pins σ H s):X.K.In s.heap:=I.ok.mod.YX.keeps I.bk
theorem Inv.lt(I:Inv X pins σ H s):X.env.locals<s.c:=let ⟨_,hn,_⟩:=I.loc;hn.lt
theorem Inv.sz(I:Inv X pins σ H s):X.s₀.c<=s.c:=Ay I.ok.above<|FE I.lt
theorem Inv.YI(I:Inv X pins σ H s){a:Addr}(h:s.c<=a):a∉X.fs:=λb=>by let#[_,o,ho,_]:=I.ok.q5.mem b;exact absurd (Ep (AL ho)<|Ay I.sz h)<|EK _
theorem Inv.Tf(I:Inv X pins σ H s):∀x c,X.env.cells.lookup x=some c->c≠X.env.locals:=λx c e z=>by let#[v,o,ho,a]:=I.cell x c e;let#[m,#[h,f,g,b,d,_],_]:=I.loc;rw[z,b]at ho;cases ho;rw[d]at a;cases a
theorem Inv.q5(I:Inv X pins σ H s):s.heap.FunFrames X.base X.outer:=by
 let all:∀(l:List Env),(∀b∈zQ l,b∈X.fs)->X.s₀.heap.FunFrames X.base l->s.heap.FunFrames X.base l:=by
  ext l;induction l with
  | nil=>intro _ _;trivial
  | cons env r k=>
   ext f h;let#[g,#[L,o,c,m,ho,i],j]:=h;let d:=f L (by unfold zQ;erw[filterMap_cons,c,AO]);let#[sl,e]:=I.base.slot L o ho (I.ok.Ur L d) d λz=>I.ok.Ng L z d;exact#[g,#[L,_,c,m,e,i],k (λb a=>f b<|by unfold zQ;erw[filterMap_cons,c,A7 _ a]) j]
 exact all X.outer (λ_ a=>a) I.ok.q5
theorem Inv.stack(I:Inv X pins σ H s):s.heap.FunFrames X.base X.stack:=by ext(e|⟨e,a⟩:I.ok.GU);rw[e];exact I.q5;rw[e];let#[m,b,_]:=I.loc;refine .cons (by rw[I.ok.kind];decide) a b ?_ I.q5;exact Heap.get?_none_of_le<|Ay I.ok.Tr I.ok.above
theorem Inv.pN(I:Inv X pins σ H s):∀b∈zQ X.stack,b∈X.env.locals::X.fs:=λb a=>by ext(e|⟨e,c⟩:I.ok.GU);rw[e]at a;exact A7 _ a;rw[e]at a;unfold zQ at a;rwa[filterMap_cons,c]at a
theorem Inv.Co(I:Inv X pins σ H s):∀b∈zQ X.stack,H b=none:=λb a=>by ext(e|a:AX.mp<|I.pN b a);rw[e];exact I.free;let#[_,o,ho,_]:=I.ok.q5.mem a;exact I.base.free b o ho (I.ok.Ur b a) λz=>I.ok.Ng b z a
theorem Inv.step{E:Array GenState}{t':Nat}{Q:Drawn}{ch:bf}(I:Inv X pins σ H s)(j:∀b∈ch,(b∈X.ex\/X.s₀.c<=b)/\b≠X.env.locals/\(∀x c,X.env.cells.lookup x=some c->c≠b)/\∀p∈X.pn++pins,p.1≠b)(keep:∀b o,b≠X.env.locals->b∉X.fs->b∉ch->s.heap.get? b=some o->H b=none->h'.get? b=some o)(slot:∀b o,b≠X.env.locals->b∈X.fs->b∉ch->s.heap.get? b=some o->H b=none->∃sl,h'.get? b=some { o with slots:=sl })(free:∀b o,b∉ch->s.heap.get? b=some o->H b=none->H' b=none)(there:∀b o,b∉ch->s.heap.get? b=some o->∃t,h'.get? b=some t)(uU:∀b xs,H b=some (.tup xs)->H' b=some (.tup xs))(sN:∀b o u,H b=some (.jA o u)->H' b=some (.jA o u))(uW:∀b y,H b=some (.QM y)->∃more,H' b=some (.QM<|y++more))(R:∀m,s.heap.Ns X.env.locals m->h'.Ns X.env.locals m)(M:jS X.prog X.w H' h')(L:AllBare E) :
  Inv X pins σ H' { s with heap:=h',gens:=E,drawn:=Q,toks:=t' }:=by
 let h:∀b o,X.s₀.heap.get? b=some o->b≠X.env.locals:=λb o e=>D7<|Ep (AL e) I.ok.above;let A:∀b o,X.s₀.heap.get? b=some o->b∉X.ex->b∉ch:=λb o e a f=>by ext(z|z:(j b f).1);exact a z;exact absurd (Ep (AL e) z)<|EK _
 let cellK:∀x c,X.env.cells.lookup x=some c->∀v,s.heap.IsCell c v->h'.IsCell c v:=λx c e v ⟨o,ho,C⟩=>by let g:c∉ch:=λz=>(j c z).2.2.1 x c e rfl;ext(J:c∈X.fs);let#[sl,q]:=slot c o (I.Tf x c e) J g ho<|I.iU x c e;exact#[_,q,C];exact#[o,keep c o (I.Tf x c e) J g ho<|I.iU x c e,C]
 refine#[I.ok,I.os,L,#[λb o e n f a=>?_,λb o e n f a=>?_,λb o e n a=>?_,λb o e a=>?_,λb xs e=>uU b xs<|I.base.uU b xs e,λb o xs e=>sN b o xs<|I.base.sN b o xs e,λb y e=>?_],?_,λx c e=>?_,?_,λx c e=>?_,λp D=>?_,M,I.len];exact keep b o (h b o e) f (A b o e a) (I.base.keep b o e n f a)<|I.base.free b o e n a;let#[sl,e1]:=I.base.slot b o e n f a;let#[B,e2]:=slot b _ (h b o e) f (A b o e a) e1<|I.base.free b o e n a;exact#[B,e2];let#[t,e1]:=I.base.there b o e a;exact free b t (A b o e a) e1<|I.base.free b o e n a;let#[t,e1]:=I.base.there b o e a;exact there b t (A b o e a) e1;let#[K,e1]:=I.base.uW b y e;let#[O,e2]:=uW b _ e1;exact#[K++O,by rw[e2,Array.append_assoc]];let#[m,S,P]:=I.loc;refine#[m,R m S,λi x v e1 e2 N=>?_];let#[u,r,l]:=P i x v e1 e2 N;refine#[u,r,?_];ext(l|⟨k,c,e,z⟩:l);exact .inl l;exact .inr #[k,c,e,cellK x c e _ z];let#[v,z]:=I.cell x c e;exact#[v,cellK x c e v z];let#[m,#[o,_,_,ho,_],_]:=I.loc;exact free _ o (λz=>(j _ z).2.1 rfl) ho I.free;let#[v,o,ho,C]:=I.cell x c e;exact free c o (λz=>(j c z).2.2.1 x c e rfl) ho<|I.iU x c e;let#[e,n,G,F,d]:=I.pin p D;let g:p.1∉ch:=λz=>(j p.1 z).2.2.2 p D rfl;exact#[keep p.1 p.2 G F g e n,free p.1 p.2 g e n,G,F,d]
theorem Inv.un(I:Inv X pins σ H s)(u:Un X.fs [] H H' s.heap h')(i:jS X.prog X.w H' h'):Inv X pins σ H' { s with heap:=h',toks:=t' }:=by let#[m,#[o,p,l,ho,r],_]:=id I.loc;let#[sl,j]:=u.any ho I.free A!;exact I.step (ch:=[]) (λ_ z=>nomatch z) (λb o _ a _ e n=>u.keep b o e n a A!) (λb o _ a _ e n=>u.slot b o e n a A!) (λb o _ e n=>u.free b o e n A!) (λb o _ e=>u.there b o e A!) u.uU u.sN u.uW (λk g=>by let#[q,d,f,c,h]:=g;rw[ho]at c;cases c;exact#[_,d,f,j,h]) i I.bare
theorem Inv.call(I:Inv X pins σ H s)(u:Un (zQ X.stack) ch H H' s.heap h')(t:jS X.prog X.w H' h')(l:AllBare g')(g:∀b∈ch,(b∈X.ex\/X.s₀.c<=b)/\b≠X.env.locals/\(∀x c,X.env.cells.lookup x=some c->c≠b)/\∀p∈X.pn++pins,p.1≠b) :
  Inv X pins σ H' { s with heap:=h',gens:=g',drawn:=d',toks:=t' }:=by
 let#[m,#[o,A,y,ho,r],_]:=id I.loc;let#[sl,d]:=u.any ho I.free λz=>(g _ z).2.1 rfl;exact I.step g (λb o d k a e n=>u.keep b o e n (λz=>(AX.mp<|I.pN b z).elim d k) a) (λb o _ _ a e n=>u.any e n a) (λb o a e n=>u.free b o e n a) (λb o a e=>u.there b o e a) u.uU u.sN u.uW (λv j=>by let#[B,h,i,f,q]:=j;rw[ho]at f;cases f;exact#[_,h,i,d,q]) t l
theorem Inv.turned(I:Inv X pins σ H s)(k:∀b o,b≠it->s.heap.get? b=some o->h'.get? b=some o)(y:H it=none)(f:it≠X.env.locals)(t:it∈X.ex\/X.s₀.c<=it)(g:∀x c,X.env.cells.lookup x=some c->c≠it)(h:∀p∈X.pn++pins,p.1≠it):Inv X pins σ H { s with heap:=h',toks:=t' }:=by
 let d:∀b u,H b=some u->b≠it:=λb u e z=>by rw[z,y]at e;cases e
 refine I.step (ch:=[it]) (λb l=>?_) (λb o _ _ a e _=>k b o (λz=>a<|by simp[z]) e) (λb o _ _ a e _=>#[o.slots,k b o (λz=>a<|by simp[z]) e]) (λ_ _ _ _ n=>n)
  (λb o a e=>#[o,k b o (λz=>a<|by simp[z]) e]) (λ_ _ e=>e) (λ_ _ _ e=>e) (λb A e=>#[#[],by rw[e];simp]) (λm i=>?_) (λb u e=>?_) I.bare
 let e:b=it:= ~~~l
 subst e;exact#[t,f,g,h];let#[o,w,j,ho,r]:=i;exact#[o,w,j,k _ o (A6 f) ho,r];refine(I.bu b u e).iW (λc v a q=>k c v ?_ q) (λ_ q=>q) λ_ _ q=>q;ext(z|z:a);rw[z];exact d b u e;exact d c _ z
theorem Inv.tok(I:Inv X pins σ H s)(t:Nat):Inv X pins σ H { s with toks:=t }:=I.un Un.refl I.bu
theorem Inv.kept(I:Inv X pins σ H s)(k:∀b u,s.heap.get? b=some u->h'.get? b=some u):Inv X pins σ H { s with heap:=h',toks:=t' }:=I.un (Un.kept k)<|I.bu.kept k
theorem Inv.laid{a:Addr}{o:HO}{t':Nat}(I:Inv X pins σ H s)(k:∀b u,s.heap.get? b=some u->h'.get? b=some u)(d:s.c<=a)(c:aY X.prog X.w (upd H a o) h' a o) :
  Inv X pins σ (upd H a o) { s with heap:=h',toks:=t' }:=I.un (Un.laid k d<|I.bu.fresh d)<|I.bu.laid k d c
theorem Inv.write(I:Inv X pins σ H s)(c:W8<|H x)(d:e=x\/H e=some (.own x))(k:∀b u,b≠e->s.heap.get? b=some u->h'.get? b=some u)(f:∃u,h'.get? e=some u)(a:aY X.prog X.w (upd H x o) h' x o):Inv X pins σ (upd H x o) { s with heap:=h',toks:=t' }:=I.un (Un.write c d k f)<|I.bu.write c d k f a
theorem Inv.CK(I:Inv X pins σ H s)(h:∀p∈OR,s.heap.get? p.1=some p.2/\H p.1=none/\p.1≠X.env.locals/\p.1∉X.fs/\∀v,p.2.data≠.cell v):Inv X OR σ H s:=
 #[I.ok,I.os,I.bare,I.base,I.loc,I.cell,I.free,I.iU,λp a=>(Af.mp a).elim (λz=>I.pin p<|E9 _ z)<|h p,I.bu,I.len]
theorem y8{N:List Str}(c:N.Nodup){i j:Nat}{x:Str}(a:N[i]?=some x)(b:N[j]?=some x):i=j:=by let#[e,e1]:=AA.mp a;let#[d,e2]:=AA.mp b;exact(Ez c).mp<|e1.trans e2.symm
theorem tH(I:Inv X pins σ H s)(hN:X.N.Nodup)(G:X.N[i]?=some x)(l:Loc X.env.scope x)(r:RelV v u)(h:∀U,Inv X pins (σ.set i<|some v) H U->(∃a,Heap.SameBut a s.heap U.heap/\(a=X.env.locals\/X.env.cells.lookup x=some a))->Q Unit.unit U)(hf:P! (X.fn x=true\/X.env.scope.names.lookup x=some .local)):wpAny M A (storeName X.env x u) Q E s:=by
 let#[m,Z,hl]:=id I.loc;let ZG:(X.env.scope.kind==.class || (X.env.scope.kind==.module&&X.env.locals != X.env.globals))=false:=by rw[I.ok.kind];rfl
 let B:i<σ.z:=I.len>>(AA.mp G).1
 let T:=I.Tf;let tracked:∀{a:Addr} {h':Heap},(∃o,s.heap.get? a=some o/\H a=none)->Heap.SameBut a s.heap h'->jS X.prog X.w H h':=λ{a h'} ha f b ob e=>by let#[_,_,Dr]:=ha;refine(I.bu b ob e).iW (λc w' g q=>(f.2 c ?_).trans q) (λ_ q=>q) λ_ _ q=>q;ext rfl;ext(rfl|g:g);rw[Dr]at e;cases e;rw[Dr]at g;cases g
 ext(t|t:l);refine wpAny_storeName_local t Z (λh' Sk f=>?_) ZG;let#[oL,_,_,L,_]:=id Z;refine h _ #[I.ok,I.os,I.bare,#[λb o e n C l=>?_,λb o e n C l=>?_,I.base.free,λb o e l=>?_,I.base.uU,I.base.sN,I.base.uW],#[_,Sk,λj y v' e1 e2 S=>?_],λy c e=>?_,I.free,I.iU,λp O=>?_,tracked #[oL,L,I.free] f,~~~I.len] #[_,f,.inl rfl];exact(f.2 b<|D7<|Ep (AL e) I.ok.above).trans<|I.base.keep b o e n C l;let#[sl,e1]:=I.base.slot b o e n C l;exact#[sl,(f.2 b<|D7<|Ep (AL e) I.ok.above).trans e1];let#[R,e1]:=I.base.there b o e l;exact#[R,(f.2 b<|D7<|Ep (AL e) I.ok.above).trans e1];ext(D:j=i);subst D;rw[G]at e1;cases e1;rw[Hq B]at e2;cases e2;exact#[u,r,.inl #[t,by simp]];rw[FJ<|A6 D]at e2;let#[u',Y,q]:=hl j y v' e1 e2 S;refine#[u',Y,?_];ext(⟨k,e⟩|⟨k,c,e,z⟩:q);refine .inl #[k,?_];let:y≠x:=λe=>D<|y8 hN e1<|e▸G;simp[this,e];exact .inr #[k,c,e,z.sameBut f<|T y c e];let#[w',z]:=I.cell y c e;exact#[w',z.sameBut f<|T y c e];let#[e,n,K,P,d]:=I.pin p O;exact#[(f.2 p.1 K).trans e,n,K,P,d];let W:X.fn x=true:=by ext(z|z:hf);exact z;rw[z]at t;cases t
 let#[c,g]:=I.ok.has x<|.inl t;let#[w',z]:=I.cell x c g;refine wpAny_storeName_cell I.ok.kind t g z<|λh' jv f=>?_;let#[oc,F,Zq]:=id z;refine h { s with heap:=h' } #[I.ok,I.os,I.bare,#[λb o e n C l=>?_,λb o e n C l=>?_,I.base.free,λb o e l=>?_,I.base.uU,I.base.sN,I.base.uW],#[m,Z.sameBut f<|A6<|T x c g,λj y v' e1 e2 S=>?_],λy J e=>?_,I.free,I.iU,λp O=>?_,tracked #[oc,F,I.iU x c g] f,~~~I.len] #[c,f,.inr g];exact(f.2 b<|D7<|Ep (AL e)<|I.ok.W0 x c W g).trans<|I.base.keep b o e n C l;let#[sl,e1]:=I.base.slot b o e n C l;exact#[sl,(f.2 b<|D7<|Ep (AL e)<|I.ok.W0 x c W g).trans e1];let#[R,e1]:=I.base.there b o e l;exact#[R,(f.2 b<|D7<|Ep (AL e)<|I.ok.W0 x c W g).trans e1];ext(D:j=i);subst D;rw[G]at e1;cases e1;rw[Hq B]at e2;cases e2;exact#[u,r,.inr #[.inl t,c,g,jv]];rw[FJ<|A6 D]at e2;let#[u',Y,q]:=hl j y v' e1 e2 S;refine#[u',Y,?_];ext(q|⟨k,J,e,z'⟩:q);exact .inl q;refine .inr #[k,J,e,z'.sameBut f ?_];ext rfl;exact D<|y8 hN e1<|I.ok.inj _ _ _ e g▸G;ext(Ww:J=c);subst Ww;exact#[_,jv];let#[w2,z2]:=I.cell y J e;exact#[w2,z2.sameBut f Ww];let#[e,n,K,P,d]:=I.pin p O;refine#[(f.2 p.1 ?_).trans e,n,K,P,d];ext q;rw[q,F]at e;exact d w' (by erw[<-(BV e),Zq])
theorem kX(I:Inv X pins σ H s)(d:X.N.Nodup)(e:X.N[i]?=some x)(f:Loc X.env.scope x)(r:RelV v u)(h:∀a,Inv X pins (σ.set i<|some v) H a->Q Unit.unit a)(c:P! (X.fn x=true\/X.env.scope.names.lookup x=some .local)):wpAny M A (storeName X.env x u) Q E s:=
 tH I d e f r (λa b _=>h a b) c
theorem Inv.WZ(I:Inv X pins σ H s)(ho:s'.os=s.os)(u:Un (zQ X.stack) ch H H' s.heap s'.heap)(d:jS X.prog X.w H' s'.heap)(a:AllBare s'.gens)(f:∀b∈ch,(b∈X.ex\/X.s₀.c<=b)/\b≠X.env.locals/\(∀x c,X.env.cells.lookup x=some c->c≠b)/\∀p∈X.pn++pins,p.1≠b):Inv X pins σ H' s':=by let#[h',h,g,t',i]:=s';let e:=ho;subst e;exact I.call u d a f
end
abbrev XK:=Value->Option Addr->Hp->Prop
abbrev St:=List<|Option V
abbrev VK:=V->Hp->Prop
abbrev TE:=St->Hp->VK->Prop
abbrev TT:=St->Hp->(Bool->Hp->Prop)->Prop
abbrev TA:=St->Hp->(List V->Hp->Prop)->Prop
structure Ends where
 nx:St->Hp->Prop
 rt:VK
 bk:St->Hp->Prop:=λ_ _=>False
 ct:St->Hp->Prop:=λ_ _=>False
abbrev TS:=Ends->St->Hp->Prop
def EP(X:Cx)(pins:bq)(σ:St)(Q:VK)(u:Value)(b:Shared):Prop:=∃v a,Inv X pins σ a b/\RelV v u/\Q v a
def TP(X:Cx)(pins:bq)(σ:St)(Q:Bool->Hp->Prop)(b:Bool)(c:Shared):Prop:=∃a,Inv X pins σ a c/\Q b a
def AP(X:Cx)(pins:bq)(σ:St)(Q:List V->Hp->Prop)(us:bc)(b:Shared):Prop:=∃vs a,Inv X pins σ a b/\Vals vs us/\Q vs a
def SP(X:Cx)(pins:bq)(D:Ends)(f:Flow)(c:Shared):Prop:=
 match f with
 | .next=>∃a b,Inv X pins a b c/\D.nx a b
 | .brk=>∃a b,Inv X pins a b c/\D.bk a b
 | .cont=>∃a b,Inv X pins a b c/\D.ct a b
 | .ret u=>∃v a b,Inv X pins a b c/\RelV v u/\D.rt v b
def PE(X:Cx)(e:Expr)(t:TE):Prop:=
 ∀(pins:bq) (s:Shared) (σ:St) (H:Hp) (Q:VK),Inv X pins σ H s->t σ H Q->wpAny (model X.prog X.w) X.A (eval e X.env) (EP X pins σ Q) X.xe s
def PT(X:Cx)(e:Expr)(t:TT):Prop:=
 ∀(pins:bq) (s:Shared) (σ:St) (H:Hp) (Q:Bool->Hp->Prop),Inv X pins σ H s->t σ H Q->wpAny (model X.prog X.w) X.A (isTrue e X.env<|eval e X.env) (TP X pins σ Q) X.xe s
def PW(X:Cx)(e:Expr)(t:TT):Prop:=
 ∀(whole:Sem Value) (pins:bq) (s:Shared) (σ:St) (H:Hp) (Q:Bool->Hp->Prop),Inv X pins σ H s->t σ H Q->wpAny (model X.prog X.w) X.A (isTrue e X.env whole) (TP X pins σ Q) X.xe s
theorem PW.pt(h:PW X e t):PT X e t:=h _
def PA(X:Cx)(a:List Expr)(t:TA):Prop:=
 ∀(pos:Pos) (pins:bq) (s:Shared) (σ:St) (H:Hp) (Q:List V->Hp->Prop),Inv X pins σ H s->t σ H Q->wpAny (model X.prog X.w) X.A (spliced<|backTo pos<|starEach a X.env) (AP X pins σ Q) X.xe s
def PS(X:Cx)(st:Stmt)(t:TS):Prop:=
 ∀(pins:bq) (s:Shared) (σ:St) (H:Hp) (D:Ends),Inv X pins σ H s->t D σ H->wpAny (model X.prog X.w) X.A (exec st X.env) (SP X pins D) X.xe s
def uO(X:Cx)(st:List Stmt)(t:TS):Prop:=
 ∀(pins:bq) (s:Shared) (σ:St) (H:Hp) (D:Ends),Inv X pins σ H s->t D σ H->wpAny (model X.prog X.w) X.A (execs st X.env) (SP X pins D) X.xe s
theorem b9{α:Type}{t:Sem α}{Q Q' : α->Shared->Prop}{M:Model}{A:Around}{s:Shared}(h:wpAny M A t Q E s)(b:∀a s,Q a s->Q' a s):wpAny M A t Q' E s:=EW h b λ_ _ x=>x
section
variable {X:Cx}
noncomputable def fE(i:Nat):TE:=λσ H Q=>∃v,σ[i]?=some (some v)/\Q v H
noncomputable def tC(v:V):TE:=λ_ H Q=>Q v H
theorem pe_var{i:Nat}{x:Str}{pos:Pos}(k:X.N[i]?=some x)(p:X6 X.env.scope x)(d:D! ((x==("__debug__":Str))=false))(o:D! ((x==("__classdict__":Str))=false)):PE X (.Name x pos)<|fE i:=by ext pins s σ H Q I h;let#[v,e,h]:=h;let#[m,q,j]:=I.loc;let#[u,r,l]:=j i x v k e p;let b:EP X pins σ Q u s:=#[v,H,I,r,h];ext(⟨a,n⟩|⟨a,c,f,g⟩:l);exact wpAny_Name (wpAny_loadName_local I.ok.kind a q n b) d;ext(a|a:a);exact wpAny_Name (wpAny_loadName_cell I.ok.kind a f g b) d;exact wpAny_Name (wpAny_loadName_free I.ok.kind a f g b o) d
theorem Rz{i j pos}:PE X (.Constant (.int i) j pos)<|tC<|.int i:=λ_ _ _ H _ I h=>wpAny_Constant_int #[.int i,H,I.tok _,#[_,rfl],h]
theorem Vx{b j pos}:PE X (.Constant (.bool b) j pos)<|tC<|.bl b:=λ_ _ _ H _ I h=>Constant_bool #[.bl b,H,I,rfl,h]
theorem Rx{j pos}:PE X (.Constant .none j pos)<|tC .dY:=λ_ _ _ H _ I h=>Constant_none #[.dY,H,I,rfl,h]
def Gl(X:Cx)(x:Str):Prop:=X.env.kindOf x=some .globalImplicit
theorem bY{E:bo}{pins:bq}{s:Shared}{σ:St}{H:Hp}{x:Str}{u:Value}{pos:Pos}{Q:bo}(I:Inv X pins σ H s)(d:Gl X x)(b:X.mg x=none)(f:bootBuiltins x=some u)(h:Q u s)(g:D! (x≠ "__name__"))(e:D! ((x==("__debug__":Str))=false)):wpAny (model X.prog X.w) X.A (eval (.Name x pos) X.env) Q E s:=by let#[i,c,a]:=I.mod.blt;exact Calls.Name_function_global I.ok.kind d (Calls.loadGlobal_builtin (I.ok.glob>>I.mod.glob.keeps I.bk) b (I.ok.blt>>c.keeps I.bk) ((a x g).trans f) h) e
def PC(X:Cx)(op:CmpOp)(a b:Expr)(t:TE):Prop:=
 ∀(pins:bq) (s:Shared) (σ:St) (H:Hp) (Q:VK),Inv X pins σ H s->t σ H Q->
  wpAny (model X.prog X.w) X.A (eval a X.env) (λv d=>wpAny (model X.prog X.w) X.A (eval b X.env) (λu c=>wpAny (model X.prog X.w) X.A (compareOp op v u) (EP X pins σ Q) X.xe c) X.xe d) X.xe s
theorem zds(b:Expr)(h:op≠.In)(a:op≠.NotIn):behindInMarks op b=false:=by
 let e1:(op==CmpOp.In)=false:=by cases op<;>first|rfl|exact absurd rfl h
 let e2:(op==CmpOp.NotIn)=false:=by cases op<;>first|rfl|exact absurd rfl a
 cases b<;>simp[behindInMarks,e1,e2]
noncomputable def QO(a:TE):TE:=λσ H Q=>a σ H λx b=>Q (.bl<|decide<|x=.dY) b
noncomputable def Ov(a:TE):TE:=λσ H Q=>a σ H λx b=>Q (.bl<|!decide (x=.dY)) b
theorem RelV.y6(r:RelV x v):(v==Value.none)=decide (x=.dY):=by
 cases x with
 | dY=>cases r;rfl
 | bl _=>cases r;rfl
 | int _=>obtain⟨t,rfl⟩:=r;rfl
 | str _=>obtain⟨t,rfl⟩:=r;rfl
 | DT _=>obtain⟨t,rfl⟩:=r;rfl
 | Je _=>obtain⟨t,rfl⟩:=r;rfl
 | ref _=>cases r;rfl
 | ty _=>cases r;rfl
theorem HR{j pos'}(e:PE X a ta):PC X .Is a (.Constant .none j pos')<|QO ta:=by ext pins s σ H Q I h;exact b9 (e pins s σ H _ I h) λv g ⟨x,b,d,c,f⟩=>Constant_none<|is_none_gen #[.bl _,b,d,by rw[c.y6];rfl,f]
theorem zfT{j pos'}(e:PE X a ta):PC X .IsNot a (.Constant .none j pos')<|Ov ta:=by ext pins s σ H Q I h;exact b9 (e pins s σ H _ I h) λv g ⟨x,b,d,c,f⟩=>Constant_none<|isnot_none_gen #[.bl _,b,d,by rw[c.y6];rfl,f]
noncomputable def tB(t:TE):TT:=λσ H Q=>t σ H λx a=>∃c,x=.bl c/\Q c a
theorem vY(h:PC X op a b t)(e:behindInMarks op b=false:=by first|exact zds _ A? A? | rfl):PT X (.Compare a [op] [b] pos)<|tB t:=by ext pins s σ H Q I k;refine wpAny_isTrue_Compare1 (b9 (h pins s σ H _ I k) λv n e=>b9 e λu s2 f=>b9 f λc m ⟨x,l,i,g,j⟩=>?_) e;let#[d,rfl,q]:=j;cases g;exact Ih #[l,i,q]
theorem Ri(h:PE X e t)(i:Q! (∀whole,isTrue e X.env whole=(do let v <-whole;standAt e.pos;holding [v] (truthy v)))):PT X e<|tB t:=by ext pins s σ H Q I f;refine isTrue_plain (b9 (h pins s σ H _ I f) λv j ⟨x,g,b,a,c⟩=>?_)<|i _;let#[d,rfl,q]:=c;cases a;exact Ih #[g,b,q]
noncomputable def U2(t u:TT):TT:=λσ H Q=>t σ H λc a=>if c=true then u σ a Q else Q false a
noncomputable def tOr(t u:TT):TT:=λσ H Q=>t σ H λc a=>if c=true then Q true a else u σ a Q
noncomputable def UY(t:TT):TT:=λσ H Q=>t σ H λc a=>Q (!c) a
theorem pw_and1(b:PT X a tA):PW X (.BoolOp .And [a] pos) tA:=by
 ext f pins s σ H Q I h;refine isTrue_and<|b9 (b pins s σ H Q I h) λc d e=>?_;cases c with
 | true=>exact isTrue_and_nil e
 | false=>exact e
theorem pw_or1(b:PT X a tA):PW X (.BoolOp .Or [a] pos) tA:=by
 ext f pins s σ H Q I h;refine isTrue_or<|b9 (b pins s σ H Q I h) λc d e=>?_;cases c with
 | false=>exact isTrue_or_nil e
 | true=>exact e
theorem pw_and(i:PT X a tA)(k:PW X (.BoolOp .And (b::rest) pos) Xq):PW X (.BoolOp .And (a::b::rest) pos)<|U2 tA Xq:=by
 ext j pins s σ H Q I h;refine isTrue_and<|b9 (i pins s σ H _ I h) λc g ⟨d,e,f⟩=>?_;cases c with
 | true=>exact k j pins g σ d Q e f
 | false=>exact#[d,e,f]
theorem pw_or(i:PT X a tA)(k:PW X (.BoolOp .Or (b::rest) pos) Xq):PW X (.BoolOp .Or (a::b::rest) pos)<|tOr tA Xq:=by
 ext j pins s σ H Q I h;refine isTrue_or<|b9 (i pins s σ H _ I h) λc g ⟨d,e,f⟩=>?_;cases c with
 | true=>exact#[d,e,f]
 | false=>exact k j pins g σ d Q e f
theorem Rj(d:PT X a tA):PT X (.UnaryOp .Not a pos)<|UY tA:=by ext pins s σ H Q I h;exact isTrue_not<|d pins s σ H (λc b=>Q (!c) b) I h
noncomputable def OA(d b:TE):TE:=λσ H Q=>d σ H λx a=>∃c,x=.bl c/\if c=true then b σ a Q else Q (.bl false) a
theorem HP(k:PE X a ta)(i:PE X (.BoolOp .And (b::rest) pos) tb):PE X (.BoolOp .And (a::b::rest) pos) (OA ta tb):=by
 intro pins s σ H Q I h;refine BoolOp_and (b9 (k pins s σ H _ I h) λv j ⟨x,f,e,g,d⟩=>?_);obtain⟨c,rfl,d⟩:=d;cases g;refine Ih ?_;cases c with
 | true=>exact i pins j σ f Q e d
 | false=>exact⟨.bl false,f,e,rfl,d⟩
end
def bH(K:bb)(H:Hp)(a:Addr)(xs:List V):Prop:=
 Rd H a (.lst xs)\/
  ∃(o:Obj) (b:Array Value) (n:Nat),K.lookup a=some o/\o.cls=.type "list"/\o.dict=none/\o.data=.seq b n/\b.size<=sizeLine/\Vals xs b.toList
def mF(K:bb)(H:Hp)(a:Addr)(xs:List V):Prop:=
 Rd H a (.tup xs)\/
  ∃(o:Obj) (b:Array Value) (n:Nat),K.lookup a=some o/\o.cls=.type "tuple"/\o.data=.seq b n/\b.size<=sizeLine/\Vals xs b.toList
noncomputable def aad:Value->Option V
 | .none=>some .dY
 | .bool b=>some<|.bl b
 | .int i _=>i.m
 | .str x _=>some<|.str x
 | .bytes b _=>some<|.DT b
 | .float b _=>some<|.Je b
 | .ref a=>a.j
 | .type n=>some<|.ty n
 | _=>none
theorem RelV.abs(r:RelV x u):aad u=some x:=by
 cases x with
 | dY=>cases r;rfl
 | bl _=>cases r;rfl
 | int _=>obtain⟨t,rfl⟩:=r;rfl
 | str _=>obtain⟨t,rfl⟩:=r;rfl
 | DT _=>obtain⟨t,rfl⟩:=r;rfl
 | Je _=>obtain⟨t,rfl⟩:=r;rfl
 | ref _=>cases r;rfl
 | ty _=>cases r;rfl
theorem RelV.inj(r:RelV x u)(q:RelV y u):x=y:=BV<|r.abs.symm.trans q.abs
theorem Vals.inj:∀{xs ys:List V} {us:bc},Vals xs us->Vals ys us->xs=ys
 | _,_,_,.nil,.nil=>rfl
 | _,_,_,.cons r t,.cons r' t'=>by rw[r.inj r',Vals.inj t t']
section
variable {X:Cx} {pins:bq} {σ:St} {H:Hp} {s:Shared} {a:Addr} {xs ys:List V}
theorem bH.of{K:bb}(h:H a=some (.lst xs)):bH K H a xs:=.inl<|.inl h
theorem mF.of{K:bb}(h:H a=some (.tup xs)):mF K H a xs:=.inl<|.inl h
theorem Inv.list(I:Inv X pins σ H s)(h:bH X.K H a xs):∃b:bc,Vals xs b/\PlainL s.heap a b.toArray/\xs.z<=sizeLine:=by ext(h|⟨o,b,n,d,g,f,c,hz,r⟩:h);let#[z,b,n,r,e]:=h.ok I.bu;exact#[b,r,#[_,n,e,rfl,rfl,rfl],z];refine#[b.toList,r,#[o,n,I.zA a o d,g,f,~~~c],?_];let e:=r.z;simp[Fs]at e;lia
theorem Inv.tuple(I:Inv X pins σ H s)(h:mF X.K H a xs):∃b:bc,Vals xs b/\IsTup s.heap a b.toArray/\xs.z<=sizeLine:=by ext(h|⟨o,b,n,d,f,c,hz,r⟩:h);let#[z,b,r,p]:=h.ok I.bu;exact#[b,r,p,z];refine#[b.toList,r,#[o,I.zA a o d,f,n,~~~c],?_];let e:=r.z;simp[Fs]at e;lia
theorem Inv.lE(I:Inv X pins σ H s)(h:bH X.K H a xs)(h':bH X.K H a ys):xs=ys:=by
 let#[g,r,#[o,n,e,_,_,d],_]:=I.list h;let#[b,j,#[l,k,f,_,_,c],_]:=I.list h';rw[e]at f;cases f;rw[d]at c;injection c with i _;let:g=b:= ~~~A4 Array.toList i
 subst this;exact r.inj j
theorem Inv.zaG(I:Inv X pins σ H s)(h:mF X.K H a xs)(h':mF X.K H a ys):xs=ys:=by
 let#[g,r,#[o,e,_,n,d],_]:=I.tuple h;let#[b,j,#[l,f,_,k,c],_]:=I.tuple h';rw[e]at f;cases f;rw[d]at c;injection c with i _;let:g=b:= ~~~A4 Array.toList i
 subst this;exact r.inj j
end
abbrev Cx.sf(X:Cx)(E:bo):Cx:={ X with xe:=E }
abbrev Cx.Kx(X:Cx):Cx:=X.sf λ_ _=>False
theorem Cx.Ok.sf{X:Cx}(a:X.Ok)(E:bo):(X.sf E).Ok:=
 #[a.mod,a.kind,a.glob,a.blt,a.above,a.inj,a.has,a.W0,a.hd,a.frames,a.GU,a.exf,a.bs,a.Tr,a.HZ,a.Ng,a.q5,a.Ur]
theorem Cx.Ok.iV{X:Cx}{E:bo}(a:(X.sf E).Ok):X.Ok:=
 #[a.mod,a.kind,a.glob,a.blt,a.above,a.inj,a.has,a.W0,a.hd,a.frames,a.GU,a.exf,a.bs,a.Tr,a.HZ,a.Ng,a.q5,a.Ur]
section
variable {X:Cx} {pins:bq} {σ:St} {H:Hp} {s:Shared} {E:bo}
theorem Inv.sf(I:Inv X pins σ H s)(E:bo):Inv (X.sf E) pins σ H s:=#[I.ok.sf E,I.os,I.bare,I.base,I.loc,I.cell,I.free,I.iU,I.pin,I.bu,I.len]
theorem Inv.iV(I:Inv (X.sf E) pins σ H s):Inv X pins σ H s:=#[I.ok.iV,I.os,I.bare,I.base,I.loc,I.cell,I.free,I.iU,I.pin,I.bu,I.len]
theorem SP.iV(h:SP (X.sf E) pins D f s'):SP X pins D f s':=by
 cases f with
 | next=>obtain⟨a,b,I,q⟩:=h;exact#[a,b,I.iV,q]
 | brk=>obtain⟨a,b,I,q⟩:=h;exact#[a,b,I.iV,q]
 | cont=>obtain⟨a,b,I,q⟩:=h;exact#[a,b,I.iV,q]
 | ret u=>obtain⟨v,a,b,I,r,q⟩:=h;exact#[v,a,b,I.iV,r,q]
theorem uO.Kx{st:List Stmt}{t:TS}(h:uO X.Kx st t):uO X st t:=λpins s σ H D I a=>
 EW (h pins s σ H D (I.sf _) a) (λ_ _ q=>q.iV) λ_ _ z=>False.elim z
end
section
variable {st:Stmt} {t u:TS} {te:TE}
noncomputable def Ox:TS:=λD σ H=>D.nx σ H
noncomputable def gG(t u:TS):TS:=λD σ H=>t { D with nx:=u D } σ H
theorem zdL:uO X [] Ox:=λ_ _ σ H _ I h=>wpAny_execs_nil #[σ,H,I,h]
theorem aR(g:PS X st t)(e:uO X rest u):uO X (st::rest)<|gG t u:=by
 ext pins s σ H D I h;refine wpAny_execs_cons<|b9 (g pins s σ H { D with nx:=u D } I h) λf c q=>?_;cases f with
 | next=>
  let#[a,d,b,q]:=q;exact e pins c a d D b q
 | ret v=>exact q
 | brk=>exact q
 | cont=>exact q
theorem Inv.quiet{σ:St}{s:Shared}(I:Inv X pins σ H s):interactive X.env=false:=by simp[interactive,I.ok.kind]
noncomputable def tw(te:TE):TS:=λD σ H=>te σ H λ_ a=>D.nx σ a
theorem k6(c:PE X e te)(a:E! (swapsWith e none pos.line X.env=pure false)):PS X (.Expr e pos)<|tw te:=by ext pins s σ H D I h;exact wpAny_Expr_any (b9 (c pins s σ H _ I h) λv g ⟨x,b,d,i,f⟩=>#[σ,b,d,f]) I.quiet a
noncomputable def LA(te:TE):TS:=λD σ H=>te σ H D.rt
theorem AS(b:PE X e te):PS X (.Return (some e) pos)<|LA te:=by ext pins s σ H D I h;exact wpAny_Return_some<|b9 (b pins s σ H _ I h) λv g ⟨x,a,d,c,f⟩=>#[x,σ,a,d,c,f]
noncomputable def U0(c:TT)(t u:TS):TS:=λD σ H=>c σ H λb a=>if b=true then t D σ a else u D σ a
theorem Vs(j:PT X c tc)(k:uO X a t)(l:uO X b u):PS X (.If c a b pos)<|U0 tc t u:=by
 ext pins s σ H D I h;refine wpAny_If<|b9 (j pins s σ H _ I h) λd e ⟨f,g,i⟩=>?_;cases d with
 | true=>exact k pins e σ f D g i
 | false=>exact l pins e σ f D g i
noncomputable def QN:TS:=λ_ _ _=>False
theorem mY:uO X sts QN:=λ_ _ _ _ _ _ h=>h.elim
end
abbrev TG:=V->St->Hp->(St->Hp->Prop)->Prop
abbrev NM:=List V->St->Hp->(St->Hp->Prop)->Prop
def PG(X:Cx)(target:Expr)(t:TG):Prop:=
 ∀(pins:bq) (s:Shared) (σ:St) (H:Hp) (v:V) (u:Value) (Q:St->Hp->Prop),Inv X pins σ H s->RelV v u->t v σ H Q->
  wpAny (model X.prog X.w) X.A (assign target X.env u) (λ_ c=>∃a b,Inv X pins a b c/\Q a b) X.xe s
def X8(X:Cx)(c:List Expr)(t:NM):Prop:=
 ∀(pins:bq) (s:Shared) (σ:St) (H:Hp) (vs:List V) (us:bc) (Q:St->Hp->Prop),Inv X pins σ H s->Vals vs us->t vs σ H Q->
  wpAny (model X.prog X.w) X.A (assignInOrder ((assignEach c X.env).map (·.2)) us) (λ_ d=>∃a b,Inv X pins a b d/\Q a b) X.xe s
abbrev TB:=V->V->V->Hp->(Hp->Prop)->Prop
def W7(X:Cx)(t:TB):Prop:=
 ∀(pins:bq) (s:Shared) (σ:St) (H:Hp) (o i v:V) (b c u:Value) (Q:Hp->Prop),Inv X pins σ H s->RelV o b->RelV i c->RelV v u->t o i v H Q->
  wpAny (model X.prog X.w) X.A (setItem b c u) (λ_ d=>∃a,Inv X pins σ a d/\Q a) X.xe s
section
variable {X:Cx} {pos:Pos}
noncomputable def bI(i:Nat):TG:=λv σ H Q=>Q (σ.set i<|some v) H
theorem pg_name(c:X.N.Nodup)(d:X.N[i]?=some x)(e:Loc X.env.scope x)(b:P! (X.fn x=true\/X.env.scope.names.lookup x=some .local)):PG X (.Name x pos)<|bI i:=by ext pins s σ H v u Q I r h;exact wpAny_assign_Name<|kX I c d e r (λf a=>#[_,H,a,h]) b
noncomputable def oH:NM:=λvs σ H Q=>vs=[]/\Q σ H
noncomputable def dA(t:TG)(u:NM):NM:=λvs σ H Q=>∃v r,vs=v::r/\t v σ H λa b=>u r a b Q
theorem zfi:X8 X [] oH:=by intro pins s σ H vs us Q I r h;obtain⟨e,h⟩:=h;subst e;cases r;exact assignInOrder_nil ⟨σ,H,I,h⟩
theorem yR(j:PG X e t)(b:X8 X es u)(g:E! ((assignEach (e::es) X.env).map (·.2)=assign e X.env::(assignEach es X.env).map (·.2))):X8 X (e::es) (dA t u):=by
 intro pins s σ H vs us Q I r h;obtain⟨v,l,e1,h⟩:=h;subst e1;cases r with
 | cons r k=>
  rw[g];exact assignInOrder_cons (b9 (j pins s σ H _ _ _ I r h) λ_ f ⟨a,i,c,d⟩=>b pins f a i _ _ Q c k d)
noncomputable def oG(K:bb)(n:Nat)(t:NM):TG:=λv σ H Q=>∃a xs,v=.ref a/\mF K H a xs/\xs.z=n/\t xs σ H Q
noncomputable def WG(e d:TE)(t:TB):TG:=λv σ H Q=>e σ H λo c=>d σ c λi a=>t o i v a λb=>Q σ b
theorem Rr(ho:PE X o to)(d:PE X i ti)(w:W7 X t)(A:Q! (∀v,assign (.Subscript o i pos) X.env v=(do
   let a <-holding [v] (eval o X.env);let b <-holding [v,a] (eval i X.env)
   standAt pos
   holding [v,a,b] (setItem a b v)
   release [v,a,b] []))):PG X (.Subscript o i pos)<|WG to ti t:=by
 ext pins s σ H v u Q I r h;rw[A];refine UA<|Fi<|b9 (ho pins s σ H _ I h) λa m ⟨x,q,f,e,j⟩=>UA<|Fi<|b9 (d pins m σ q _ f j) λb s2 ⟨y,l,n,k,c⟩=>?_;exact UA<|wpAny_standAt<|UA<|Fi<|b9 (w pins s2 σ l x y v a b u _ n e k r c) λ_ B ⟨g,p,z⟩=>wpAny_release #[σ,g,p,z]
noncomputable def mT(b:TE)(g:TG):TS:=λD σ H=>b σ H λx a=>g x σ a D.nx
theorem Hv(l:PE X e te)(m:PG X tg g)(f:E! (swapsWithSole [tg] e pos.line X.env=pure false))(i:E! (swappedStores [tg] e X.env=pure none))(k:E! ((assignEach [tg] X.env).map (·.2)=[assign tg X.env])):PS X (.Assign [tg] e pos)<|mT te g:=by ext pins s σ H D I h;refine wpAny_Assign_stores (b9 (l pins s σ H _ I h) λv d ⟨x,j,b,a,c⟩=>?_) f i;erw[k,b9 (m pins d σ j x v _ b a c) λ_ s2 q=>q]
theorem mZ(a:X.N.Nodup)(b:X.N[i]?=some x)(n:Loc X.env.scope x)(m:PE X e te)(g:E! (swapsWith e (some<|.Name x pos') pos.line X.env=pure false))(k:P! (X.fn x=true\/X.env.scope.names.lookup x=some .local)) :
  PS X (.Assign [.Name x pos'] e pos) (mT te<|bI i):=by
 ext pins s σ H D I h;exact wpAny_Assign_Name (b9 (m pins s σ H _ I h) λv o ⟨y,l,d,c,f⟩=>kX d a b n c (λs2 j=>#[_,l,j,f]) k) g
noncomputable def UX(i j:Nat)(a:TA):TS:=λD σ H=>a σ H λvs b=>∃v w,vs=[v,w]/\D.nx ((σ.set i<|some v).set j<|some w) b
theorem Rl{kt k2 Rk}(O:X.calm=true)(g:X.N.Nodup)(E:X.N[i]?=some x)(B:X.N[j]?=some y)(u:i≠j)(m:X.env.scope.names.lookup x=some .local)(k:X.env.scope.names.lookup y=some .local)(z:PA X [a,b] ta)(K:swappedStores [.Tuple [.Name x px,.Name y py] kt pt] (.Tuple [a,b] k2 Rk) X.env=pure (some [x,y]))(J:E! (swapsWithSole [.Tuple [.Name x px,.Name y py] kt pt] (.Tuple [a,b] k2 Rk) pos.line X.env=pure false)) :
  PS X (.Assign [.Tuple [.Name x px,.Name y py] kt pt] (.Tuple [a,b] k2 Rk) pos) (UX i j ta):=by
 intro pins s σ H D I h;rw[exec_Assign_arm];refine UA (wpAny_standAt ?_);rw[J];refine UA (A8 ?_);rw[Ak (by decide)];refine UA (Tuple_ (b9 (z _ pins s σ H _ I h) λus d ⟨vs,M,G,n,f⟩=>?_));obtain⟨v,w,e1,f⟩:=f;subst e1;obtain⟨c,u2,rfl,rv,P⟩:∃c u2,us=[c,u2]/\RelV v c/\RelV w u2:=by
  cases n with
  | cons p q=>
   cases q with
   | cons C F=>
    cases F;exact⟨_,_,rfl,p,C⟩
 refine K5 ?_ (by show 2<=sizeLine;decide);rw[K];refine UA (A8 ?_);show wpAny (model X.prog X.w) X.A (do rule "assign.swapped-stores";let items <-unpackItems (.ref d.heap.objs.size) 2 none;assignInOrder [λv=>bindName X.env y v,λv=>bindName X.env x v] items.reverse;pure Flow.next) _ _ _;refine UA (wpAny_rule (UA (unpackItems_tuple (items:=#[c,u2,]) (I.ok.hd O) (IsTup.new d.heap _) λh' t=>?_)));have L:=(G.kept (t':=d.toks) λb o e=>BN _ e).kept (h':=h') (t':=d.toks) λb o e=>t b o (D7 (AL e)) e;show wpAny _ _ (assignInOrder [λv=>bindName X.env y v,λv=>bindName X.env x v] [u2,c] >>= λ_=>pure Flow.next) _ _ _;refine UA (assignInOrder_cons (wpAny_bindName (kX L g B (.inl k) P (λs2 r=>assignInOrder_cons (wpAny_bindName (kX r g E (.inl m) rv (λQ l=>assignInOrder_nil (A8 ?_)) (.inr m)))) (.inr k))));rw[set_comm _ _ (A6 u)]at l;exact⟨_,M,l,f⟩
end
noncomputable def GP(c:TT)(g:TS):TS:=λD σ H=>∃W:Nat->St->Hp->Prop,(∃m,W m σ H)/\∀m σ H,W m σ H->
 c σ H λb f=>if b=true then ∃N:St->Hp->Prop,(∀a d,N a d->∃e,e<m/\W e a d)/\g { D with nx:=N,ct:=N,bk:=D.nx } σ f else D.nx σ f
theorem zck(q:PassesOwn (model X.prog X.w) X.A X.env X.xe)(J:PT X c tc)(B:uO X body tb):PS X (.While c body [] pos)<|GP tc tb:=by
 ext pins s σ H D I h;let#[W,#[C,z],turn]:=h;refine wpAny_While<|codeAny_whileLoop (λn K=>∃g u,Inv X pins g u K/\W n g u) ?_ C #[σ,H,I,z];ext n G ⟨d,y,E,F⟩;refine JL q<|b9 (J pins G d y _ E<|turn n d y F) λb s2 ⟨x,t,j⟩=>?_;cases b with
 | true=>
  let#[N,r,j]:=j;rw[Al rfl];refine JL q<|b9 (B pins s2 d x _ t j) λf L i=>?_;cases f with
  | next=>
   let#[a,e,p,m]:=i;let#[k,o,l]:=r a e m;exact#[k,o,a,e,p,l]
  | cont=>
   let#[a,e,p,m]:=i;let#[k,o,l]:=r a e m;exact#[k,o,a,e,p,l]
  | brk=>exact i
  | ret v=>exact i
 | false=>
  erw[Ak Bj,wpAny_execs_nil #[d,x,t,j]]
structure It where
 go:Nat->Hp->Prop
 T7:Nat->Hp->V->Hp->Prop
 stop:Nat->Hp->Prop
def mJ(X:Cx)(pins:bq)(H:Hp)(b:Addr):Prop:=
 H b=none/\b≠X.env.locals/\b∉X.fs/\(b∈X.ex\/X.s₀.c<=b)/\(∀x c,X.env.cells.lookup x=some c->c≠b)/\∀p∈X.pn++pins,p.1≠b
theorem Inv.nJ{X:Cx}{pins:bq}{σ:St}{H d:Hp}{s:Shared}{b:Addr}(I:Inv X pins σ H s)(a:s.c<=b)(g:d b=none):mJ X pins d b:=by refine#[g,F5<|Ep I.lt a,I.YI a,.inr<|Ay I.sz a,λx c e z=>?_,λp f z=>?_];let#[v,q]:=I.cell x c e;exact absurd (Ep q.lt<|z>>a)<|EK _;exact absurd (Ep (AL (I.pin p f).1)<|z>>a)<|EK _
structure Turn(P:Program)(w:World)(K:bb)(tg:Expr)(J:It)(fp:bf)(it:Addr)(tn:Nat->Heap->Prop):Prop where
 mem:it∈fp
 obj:∀i h,tn i h->∀b∈fp,∃o,h.get? b=some o/\∀v,o.data≠.cell v
 keep:∀i h h',tn i h->(∀b∈fp,∀o,h.get? b=some o->h'.get? b=some o)->tn i h'
 item:∀(X:Cx),X.prog=P->X.w=w->X.K=K->X.calm=true->∀(i:Nat) (pins:bq) (s:Shared) (σ:St) (H:Hp) (E:bo),Inv X pins σ H s->(∀b∈fp,mJ X pins H b)->tn i s.heap->J.go i H->
  wpAny (model P w) X.A (pyNext<|.ref it) (λr s1=>∃u,r=some u/\
   wpAny (model P w) X.A (letOwnedTupleGo tg (.ref it) u) (λ_ s2=>∃x H',Inv X pins σ H' s2/\RelV x u/\J.T7 i H x H'/\tn (i+1) s2.heap/\∀b∈fp,H' b=none) E s1) E s
 done:∀(X:Cx),X.prog=P->X.w=w->X.K=K->X.calm=true->∀(i:Nat) (pins:bq) (s:Shared) (σ:St) (H:Hp) (E:bo),Inv X pins σ H s->(∀b∈fp,mJ X pins H b)->tn i s.heap->J.stop i H->
  wpAny (model P w) X.A (pyNext<|.ref it) (λr s1=>r=none/\Inv X pins σ H s1) E s
 self:∀(A:Around) (i:Nat) (s:Shared) (Q:bo) (E:bo),tn i s.heap->Q (.ref it) s->wpAny (model P w) A (pyIter<|.ref it) Q E s
abbrev TI:=St->Hp->(It->Hp->Prop)->Prop
def PIE(X:Cx)(pins:bq)(σ:St)(d:Expr)(R:It->Hp->Prop)(e:Value)(s2:Shared):Prop:=
 ∃(it:Addr) (c:bf) (tn:Nat->Heap->Prop) (J:It) (a:Hp),e=.ref it/\Inv X pins σ a s2/\Turn X.prog X.w X.K d J c it tn/\tn 0 s2.heap/\(∀b∈c,mJ X pins a b)/\R J a
def PI(X:Cx)(c iter:Expr)(b:TI):Prop:=
 ∀(pins:bq) (s:Shared) (σ:St) (H:Hp) (R:It->Hp->Prop),Inv X pins σ H s->b σ H R->
  wpAny (model X.prog X.w) X.A (eval iter X.env) (λv a=>wpAny (model X.prog X.w) X.A (pyIter v) (PIE X pins σ c R) X.xe a) X.xe s
theorem ui(ho:s.heap.get? it=some o)(c:o.cls=.type n)(b:o.data=.fields vs)(e:["enumerate", "zip", "dict_itemiterator", "dict_reverseitemiterator", "odict_iterator", "itertools.zip_longest", "itertools.pairwise"].contains n=false)(a:Q Unit.unit s):wpAny M A (letOwnedTupleGo d (.ref it) u) Q E s:=by
 unfold letOwnedTupleGo;cases d<;>first
  | exact A8 a
  | (cases u<;>first
    | exact A8 a
    | (
       refine UA<|wpAny_load ho ?_;rw[c,b];show wpAny M A (if(["enumerate", "zip", "dict_itemiterator", "dict_reverseitemiterator", "odict_iterator", "itertools.zip_longest", "itertools.pairwise"].contains n&&vs[0]?==some (rawInt _))=true then _ else _) Q E s;erw[Ak (by ext h;rw[e,Bool.false_and]at h;cases h),A8 a]))
noncomputable def Itl(K:bb)(a:Addr):It:=
 #[λi H=>∃xs x,bH K H a xs/\xs[i]?=some x,λi H x b=>b=H/\∀xs,bH K H a xs->xs[i]?=some x,λi H=>∃xs,bH K H a xs/\xs.z<=i]
noncomputable def Itt(K:bb)(a:Addr):It:=
 #[λi H=>∃xs x,mF K H a xs/\xs[i]?=some x,λi H x b=>b=H/\∀xs,mF K H a xs->xs[i]?=some x,λi H=>∃xs,mF K H a xs/\xs.z<=i]
noncomputable def Xb(lo:Int)(n:Nat):It:=#[λi _=>i<n,λi H x a=>a=H/\x=.int (lo+i),λi _=>n<=i]
theorem sZ{P:Program}{w:World}{K:bb}{J:Expr}(a it:Addr):Turn P w K J (Itl K a) [it] it (λi h=>h.IsListIter it a i) where
 mem:=by simp
 obj:=λi h st b f=>by
  let e:b=it:= ~~~f
  subst e;let#[o,e,c,d]:=st;exact#[o,e,λv z=>by rw[d]at z;cases z]
 keep:=λi h h' st k=>st.at λo e=>k it A! o e
 item:=by ext X q y m F i pins s σ H E I j st l;subst q y m;let#[xs,x,g,n]:=l;let#[Q,rv,p,hz]:=I.list g;let#[u,R,G]:=rv.get n;let#[r,C,O,A,t,B]:=j it A!;refine wpAny_pyNext_list_item st p.isList (~~~R) λh' D L=>?_;let#[o,e,c,d]:=id D;exact#[u,rfl,ui e c d A? #[x,H,I.turned (λb o f e=>(L.2 b f).trans e) r C A t B,G,#[rfl,λys M=>I.lE M g>>n],D,λb f=>(j b f).1]]
 done:=by ext X q y m F i pins s σ H E I j st l;subst q y m;let#[xs,g,n]:=l;let#[Q,rv,p,hz]:=I.list g;let#[r,C,O,A,t,B]:=j it A!;let S:=rv.z;exact wpAny_pyNext_list_end (I.ok.hd F) st p.isList (by simp;lia) λh' N=>#[rfl,I.turned (λb o f e=>N b o f e) r C A t B]
 self:=λ_ _ _ _ _ st h=>wpAny_pyIter_listiter st h
theorem zao{P:Program}{w:World}{K:bb}{L:Expr}(a it:Addr):Turn P w K L (Itt K a) [it] it (λi h=>h.IsTupleIter it a i) where
 mem:=by simp
 obj:=λi h st b f=>by
  let e:b=it:= ~~~f
  subst e;let#[o,e,c,d]:=st;exact#[o,e,λv z=>by rw[d]at z;cases z]
 keep:=λi h h' st k=>st.at λo e=>k it A! o e
 item:=by ext X r A m G i pins s σ H E I j st l;subst r A m;let#[xs,x,g,q]:=l;let#[n,rv,p,hz]:=I.tuple g;let#[u,R,J]:=rv.get q;let#[t,D,Q,B,y,C]:=j it A!;refine wpAny_pyNext_tuple_item st (show s.heap.IsTuple a n.toArray from p) (~~~R) λh' F M=>?_;let#[o,e,c,d]:=id F;exact#[u,rfl,ui e c d A? #[x,H,I.turned (λb o f e=>(M.2 b f).trans e) t D B y C,J,#[rfl,λys N=>I.zaG N g>>q],F,λb f=>(j b f).1]]
 done:=by ext X r A m G i pins s σ H E I j st l;subst r A m;let#[xs,g,q]:=l;let#[n,rv,p,hz]:=I.tuple g;let#[t,D,Q,B,y,C]:=j it A!;let S:=rv.z;exact wpAny_pyNext_tuple_end (I.ok.hd G) st (show s.heap.IsTuple a n.toArray from p) (by simp;lia) λh' O=>#[rfl,I.turned (λb o f e=>O b o f e) t D B y C]
 self:=λ_ _ _ _ _ st h=>wpAny_pyIter_tupleiter st h
theorem zaE{P:Program}{w:World}{K:bb}{y:Expr}(it:Addr)(lo:Int)(n:Nat):Turn P w K y (Xb lo n) [it] it (λi h=>IsRangeIter h it (lo+(i:Nat)*1) ((n:Int)-(i:Nat)) 1) where
 mem:=by simp
 obj:=λi h st b a=>by
  let e:b=it:= ~~~a
  subst e;exact#[_,st,λv z=>by let A:Data.fields _=Data.cell v:=z;cases A]
 keep:=λi h h' st k=>k it A! _ st
 item:=by ext X g q f u i pins s σ H E I c st d;subst g q f;let#[j,r,C,m,l,p]:=c it A!;refine (Walks.range (prog:=X.prog) (w:=X.w) (I.ok.hd u) it lo 1 n).item i s _ _ d st λv h' G F x D=>?_;let#[t,rfl]:=F;refine#[_,rfl,ui (s:={ s with heap:=h',toks:=G }) (n:= "range_iterator") x rfl rfl A? #[.int<|lo+i,H,I.turned (λb o a e=>D b o (~~~a) e) j r m l p,#[t,?_],#[rfl,rfl],x,λb a=>(c b a).1]];rw[Int.mul_one]
 done:=by ext X g q f u i pins s σ H E I c st d;subst g q f;let#[j,r,C,m,l,p]:=c it A!;exact wpAny_pyNext_range_end (I.ok.hd u) st (by let:n<=i:=d;lia) λh' B=>#[rfl,I.turned (t':=s.toks) (λb o a e=>B b o a e) j r m l p]
 self:=λ_ _ _ _ _ st h=>N7 st h
section
variable {X:Cx} {tg:Expr}
def O8(K:bb)(c:TE):TI:=λσ H R=>c σ H λx b=>∃a,x=.ref a/\(∃xs,bH K b a xs)/\R (Itl K a) b
theorem CL(f:PE X l tl):PI X tg l<|O8 X.K tl:=by
 ext pins s σ H R I h;refine b9 (f pins s σ H _ I h) λv d ⟨x,k,c,g,i⟩=>?_;let#[a,e,#[xs,m],q]:=i;subst e;cases g;let#[n,rv,p,hz]:=c.list m;refine MH p.isList #[d.c,[d.c],_,_,k,rfl,c.kept λb o e=>BN _ e,sZ a _,#[_,EL _ rfl,rfl,rfl],λb j=>?_,q];let e:b=d.c:= ~~~j
 subst e;exact c.nJ (Xx _)<|c.bu.fresh<|Xx _
theorem yJ{σ:St}{s:Shared}{R:It->Hp->Prop}{lo a:Int}{t u v:Tok}{d:Nat}(I:Inv X pins σ H s)(h1 : -(2 ^ 62)<=lo)(f:lo<2 ^ 62)(h3 : -(2 ^ 62)<=a)(g:a<2 ^ 62)(q:R (Xb lo (a-lo).toNat) H):wpAny (model X.prog X.w) X.A (pyIter<|.ref s.c) (PIE X pins σ tg R) E { s with heap:=s.heap.push { cls:=.type "range",data:=.fields #[.int lo t,.int a u,.int 1 v,] },toks:=d }:=by
 refine wpAny_pyIter_range (IsRange.new ..) (small_one h1 f h3 g) ?_;let c:Inv X pins σ H { s with heap:=s.heap.push { cls:=.type "range",data:=.fields #[.int lo t,.int a u,.int 1 v,] },toks:=d }:=I.kept λb o e=>BN _ e;refine#[(s.heap.push { cls:=.type "range",data:=.fields #[.int lo t,.int a u,.int 1 v,] }).e,[(s.heap.push { cls:=.type "range",data:=.fields #[.int lo t,.int a u,.int 1 v,] }).e],_,_,H,rfl,
  c.kept λb o e=>BN _ e,zaE _ lo (a-lo).toNat,?_,λb h=>?_,q]
 let e1:lo+((0:Nat):Int)*1=lo:=by simp
 let e2:(((a-lo).toNat:Nat):Int)-((0:Nat):Int)=Builtin.Range.rangeSize lo a 1:=by rw[rangeSize_one];split<;>lia
 rw[e1,e2];exact EL _ rfl;let e:b=(s.heap.push { cls:=.type "range",data:=.fields #[.int lo t,.int a u,.int 1 v,] }).e:= ~~~h
 subst e;exact c.nJ (Xx _)<|c.bu.fresh<|Xx _
def IM(b:TA):TI:=λσ H R=>b σ H λvs a=>∃j:Int,vs=[.int j]/\-(2 ^ 62)<=j/\j<2 ^ 62/\R (Xb 0 j.toNat) a
def O7(b:TA):TI:=λσ H R=>b σ H λvs a=>∃i j:Int,vs=[.int i,.int j]/\(-(2 ^ 62)<=i/\i<2 ^ 62/\-(2 ^ 62)<=j/\j<2 ^ 62)/\R (Xb i (j-i).toNat) a
abbrev BU(X:Cx)(e:Expr)(c:List Expr):=starEach (e::c) X.env=(false,eval e X.env)::starEach c X.env
abbrev EM(X:Cx)(c:List Expr):=starEach c X.env=c.map λe=>(false,eval e X.env)
abbrev IB(X:Cx)(p:Pos)(c:List Expr):=(backTo p<|starEach c X.env).any (·.1)=false
theorem zbk(l:Gl X "range")(g:X.mg "range"=none)(m:PA X [a] ta)(i:E! EM X [a]):PI X tg (.Call (.Name "range" p) [a] [] pos) (IM ta):=by
 intro pins s σ H R I h;refine Call_ (bY I l g boot_range (HH (b9 (m pos pins s σ H _ I h) λus n ⟨vs,o,f,d,b⟩=>?_) i rfl));obtain⟨j,e,b,c,q⟩:=b;subst e;cases d with
 | cons r k=>
  cases k;obtain⟨t,rfl⟩:=r;exact call_range_1 (yJ f (by lia) (by lia) b c (by simpa using q))
theorem zaS{f:TA}{p pos:Pos}(u:Gl X "range")(n:X.mg "range"=none)(x:PA X [a,b] f)(o:E! EM X [a,b])(g:E! EM X [b]) :
  PI X tg (.Call (.Name "range" p) [a,b] [] pos) (O7 f):=by
 ext pins s σ H R I h;refine Call_ (bY I u n boot_range<|HH (b9 (x pos pins s σ H _ I h) λus z ⟨vs,A,m,l,c⟩=>?_) (by rw[o,g];rfl)<|by rw[g];rfl);let#[i,j,e,#[c,k,v,y],q]:=c;subst e;cases l with
 | cons r d=>
  cases d with
  | cons w d=>
   cases d;let#[t,rfl]:=r;let#[t',rfl]:=w;exact call_range_2<|yJ m c k v y q
noncomputable def LB(e:TI)(g:TG)(j:TS):TS:=λD σ H=>e σ H λJ h=>∃W:Nat->Nat->St->Hp->Prop,(∃m,W 0 m σ h)/\∀i m σ H,W i m σ H->
 (J.stop i H/\D.nx σ H)\/(J.go i H/\∃N:St->Hp->Prop,(∀b a,N b a->∃d,d<m/\W (i+1) d b a)/\∀x a,J.T7 i H x a->g x σ a λc f=>j { D with nx:=N,ct:=N,bk:=D.nx } c f)
noncomputable def qo(a:bf)(h:Heap):bq:=a.filterMap λb=>(h.get? b).map λo=>(b,o)
theorem hZ(a:b∈fp)(e:h.get? b=some o):(b,o)∈qo fp h:=List.mem_filterMap.mpr #[b,a,by rw[e];rfl]
theorem zaJ(a:p∈qo fp h):p.1∈fp/\h.get? p.1=some p.2:=by
 let#[b,d,e]:=List.mem_filterMap.mp a;cases q:h.get? b with
 | none=>rw[q]at e;cases e
 | some o=>
  rw[q]at e;let c:=BV e;subst c;exact#[d,q]
theorem Inv.pinned{σ:St}{s:Shared}(I:Inv X pins σ H s)(h:∀b∈fp,mJ X pins H b)(ho:∀b∈fp,∃o,s.heap.get? b=some o/\∀v,o.data≠.cell v):Inv X (pins++qo fp s.heap) σ H s:=
 I.CK λp g=>(Af.mp g).elim (λz=>I.pin p<|E8 _ z) λz=>by let#[c,e]:=zaJ z;let#[j,i,f,_]:=h p.1 c;let#[o,a,d]:=ho p.1 c;rw[e]at a;cases a;exact#[e,j,i,f,d]
theorem Inv.kU{σ:St}{s:Shared}(I:Inv X (pins++pl) σ H s):Inv X pins σ H s:=I.CK λp a=>I.pin p<|E8 _<|E9 _ a
theorem AU{iter:Expr}{body:List Stmt}{S:TI}{g:TG}{tb:TS}{pos:Pos}(y:PassesOwn (model X.prog X.w) X.A X.env X.xe)(Y:X.calm=true)(hi:PI X tg iter S)(hg:PG X tg g)(k:uO X body tb)(hs:Q! (∀x,foldedSetIterable iter X.env x=pure x)):PS X (.For tg iter body [] pos)<|LB S g tb:=by
 ext pins s σ H D I h;refine wpAny_For (b9 (hi pins s σ H _ I h) λv s1 h1=>b9 h1 λYZ s2 h2=>?_) hs;let#[it,E,tn,J,H2,e,I2,T,FR,f2,W,#[m0,w0],turn]:=h2;subst e;let M:∀{q:Hp},(∀b∈E,q b=none)->∀b∈E,mJ X pins q b:=λhn b k=>#[hn b k,(f2 b k).2];refine codeAny_forLoop_any (λn Z=>∃i j q,Inv X pins j q Z/\tn i Z.heap/\(∀b∈E,q b=none)/\W i n j q) ?_ m0 #[0,σ,H2,I2,FR,λb k=>(f2 b k).1,w0];ext n Q ⟨i,c,F,U,z,C,w3⟩;ext(⟨stop,qn⟩|⟨go,N,hN,step⟩:turn i n c F w3);refine JL y<|b9 (T.done X rfl rfl rfl Y i pins Q c F X.xe U (M C) z stop) λr s4 ⟨K,I4⟩=>?_;subst K;exact wpAny_execs_nil #[c,F,I4,qn];refine JL y<|b9 (T.item X rfl rfl rfl Y i pins Q c F X.xe U (M C) z go) λr s4 ⟨u,K,h4⟩=>?_;subst K;refine JL y<|b9 h4 λ_ R ⟨x,H5,I5,r5,y5,L,G⟩=>JL y<|b9 (hg _ R c H5 x u _ (I5.pinned (M G)<|T.obj _ _ L) r5<|step x H5 y5) λ_ s6 ⟨P,H6,I6,q6⟩=>?_;refine JL y<|b9 (k _ s6 P H6 _ I6 q6) λf O t=>?_;let again:∀{a:St} {p:Hp},Inv X (pins++qo E R.heap) a p O->N a p->∃m,m<n/\∃i j q,Inv X pins j q O/\tn i O.heap/\(∀b∈E,q b=none)/\W i m j q:=λ{a p} l B=>by let#[m',hm,w7]:=hN a p B;refine#[m',hm,i+1,a,p,l.kU,T.keep _ _ _ L λb k o e=>(l.pin (b,o)<|E8 _<|E8 _<|hZ k e).1,λb k=>?_,w7];let#[o,e,d]:=T.obj _ _ L b k;exact(l.pin (b,o)<|E8 _<|E8 _<|hZ k e).2.1
 cases f with
 | next=>obtain⟨a,p,l,B⟩:=t;exact again l B
 | cont=>obtain⟨a,p,l,B⟩:=t;exact again l B
 | brk=>obtain⟨a,p,l,t⟩:=t;exact#[a,p,l.kU,t]
 | ret v=>obtain⟨x7,a,p,l,r7,t⟩:=t;exact#[x7,a,p,l.kU,r7,t]
end
abbrev R2:=V->V->Hp->VK->Prop
def oJ(X:Cx)(f:Value->Value->Sem Value)(r:R2):Prop:=
 ∀(pins:bq) (s:Shared) (σ:St) (H:Hp) (x y:V) (v u:Value) (Q:VK),Inv X pins σ H s->RelV x v->RelV y u->r x y H Q->
  wpAny (model X.prog X.w) X.A (f v u) (EP X pins σ Q) X.xe s
def UnR(X:Cx)(f:Value->Sem Value)(r:V->Hp->VK->Prop):Prop:=
 ∀(pins:bq) (s:Shared) (σ:St) (H:Hp) (x:V) (v:Value) (Q:VK),Inv X pins σ H s->RelV x v->r x H Q->
  wpAny (model X.prog X.w) X.A (f v) (EP X pins σ Q) X.xe s
def dC(X:Cx)(f:Value)(r:List V->Hp->VK->Prop):Prop:=
 ∀(pins:bq) (s:Shared) (σ:St) (H:Hp) (xs:List V) (us:bc) (Q:VK),Inv X pins σ H s->Vals xs us->r xs H Q->
  wpAny (model X.prog X.w) X.A (call f us) (EP X pins σ Q) X.xe s
noncomputable def mK(r:R2)(b d:TE):TE:=λσ H Q=>b σ H λx c=>d σ c λy a=>r x y a Q
noncomputable def tUn(r:V->Hp->VK->Prop)(a:TE):TE:=λσ H Q=>a σ H λx b=>r x b Q
noncomputable def rI(C:Int->Int->Prop)(g:Int->Int->V):R2:=λx y H Q=>∃i j,x=.int i/\y=.int j/\C i j/\Q (g i j) H
noncomputable def Kv(g:Int->Int->V):R2:=λx y H Q=>∃i j,x=.int i/\y=.int j/\Q (g i j) H
noncomputable def rU(g:Int->V):V->Hp->VK->Prop:=λx H Q=>∃i,x=.int i/\Q (g i) H
theorem Tw(r:PE X a ta)(m:PE X b tb){pins:bq}{s:Shared}{σ:St}{H:Hp}{R:V->V->Hp->Prop}(I:Inv X pins σ H s)(h:ta σ H λx g=>tb σ g λy c=>R x y c){Q:bo}{f:Value->Value->Sem Value}(q:∀v u s2 x y c,Inv X pins σ c s2->RelV x v->RelV y u->R x y c->wpAny (model X.prog X.w) X.A (f v u) Q X.xe s2) :
  wpAny (model X.prog X.w) X.A (eval a X.env) (λv d=>wpAny (model X.prog X.w) X.A (eval b X.env) (λu e=>wpAny (model X.prog X.w) X.A (f v u) Q X.xe e) X.xe d) X.xe s:=by
 refine b9 (r pins s σ H _ I h) λv o ⟨x,g,k,j,l⟩=>b9 (m pins o σ g _ k l) λu s2 ⟨y,c,p,n,i⟩=>?_;exact q v u s2 x y c p j n i
theorem OS(ho:oJ X (binaryOp op) r)(g:PE X a ta)(d:PE X b tb):PE X (.BinOp a op b pos)<|mK r ta tb:=by ext pins s σ H Q I h;exact wpAny_BinOp<|Tw g d I h λv u s2 x y e f i c q=>ho pins s2 σ e x y v u Q f i c q
theorem Vv(ho:UnR X (unaryOp op) r)(f:PE X a ta):PE X (.UnaryOp op a pos)<|tUn r ta:=by ext pins s σ H Q I h;exact UnaryOp_<|b9 (f pins s σ H _ I h) λv b ⟨x,c,e,d,g⟩=>ho pins b σ c x v Q e d g
theorem VE{C:Int->Int->Prop}{g:Int->Int->Int}(rule:∀(i j:Int) (t u:Tok) (s:Shared) (Q:bo) (E:bo),C i j->Q (.int (g i j) s.toks) { s with toks:=s.toks+1 }->wpAny (model X.prog X.w) X.A (f (.int i t)<|.int j u) Q E s) :
  oJ X f (rI C λi j=>.int<|g i j):=by
 ext pins s σ H x y v u Q I c a h;let#[i,j,rfl,rfl,b,q]:=h;let#[t,rfl]:=c;let#[t',rfl]:=a;exact rule i j t t' s _ _ b #[.int<|g i j,H,I.tok _,#[_,rfl],q]
theorem VD{g:Int->Int->Int}(rule:∀(i j:Int) (t u:Tok) (s:Shared) (Q:bo) (E:bo),Q (.int (g i j) s.toks) { s with toks:=s.toks+1 }->wpAny (model X.prog X.w) X.A (f (.int i t)<|.int j u) Q E s) :
  oJ X f (Kv λi j=>.int<|g i j):=by
 ext pins s σ H x y v u Q I b a h;let#[i,j,rfl,rfl,q]:=h;let#[t,rfl]:=b;let#[t',rfl]:=a;exact rule i j t t' s _ _ #[.int<|g i j,H,I.tok _,#[_,rfl],q]
theorem MB{g:Int->Int->Bool}(rule:∀(i j:Int) (t u:Tok) (s:Shared) (Q:bo) (E:bo),Q (.bool<|g i j) s->wpAny (model X.prog X.w) X.A (f (.int i t)<|.int j u) Q E s) :
  oJ X f (Kv λi j=>.bl<|g i j):=by
 ext pins s σ H x y v u Q I b a h;let#[i,j,rfl,rfl,q]:=h;let#[t,rfl]:=b;let#[t',rfl]:=a;exact rule i j t t' s _ _ #[.bl<|g i j,H,I,rfl,q]
def Xi(i j:Int):Prop:=0<=j/\j<=1000000/\i.natAbs<2 ^ 64
theorem RH:oJ X (binaryOp .Mod)<|rI (λ_ j=>0<j) λi j=>.int<|i%j:=VE λi j _ _ _ _ _ a q=>by let b:=a;exact mod_int' () (Int.fmod_eq_emod_of_nonneg i ()>>q)
theorem unI{g:Int->Int}(rule:∀(i:Int) (t:Tok) (s:Shared) (Q:bo) (E:bo),Q (.int (g i) s.toks) { s with toks:=s.toks+1 }->wpAny (model X.prog X.w) X.A (f<|.int i t) Q E s) :
  UnR X f (rU λi=>.int<|g i):=by
 ext pins s σ H x v Q I a h;let#[i,rfl,q]:=h;let#[t,rfl]:=a;exact rule i t s _ _ #[.int<|g i,H,I.tok _,#[_,rfl],q]
theorem QE:UnR X (unaryOp .USub)<|rU λi=>.int<|-i:=unI λ_ _ _ _ _ q=>neg_int q
noncomputable def U8:V->V->Bool
 | .dY,.dY=>true | .dY,.int _=>true | .int _,.dY=>true | .dY,.bl _=>true | .bl _,.dY=>true | .dY,.str _=>true | .str _,.dY=>true
 | .int _,.int _=>true | .bl _,.bl _=>true | .str _,.str _=>true | .DT _,.DT _=>true
 | .int _,.str _=>true | .str _,.int _=>true | .bl _,.str _=>true | .str _,.bl _=>true
 | _,_=>false
def Ub:R2:=λx y H Q=>U8 x y=true/\Q (.bl<|decide<|x=y) H
def Yt:R2:=λx y H Q=>U8 x y=true/\Q (.bl<|!decide (x=y)) H
theorem pB:decide (V.int i=V.int j)=(i==j):=by rw[KR];simp
theorem JC:decide (V.bl i=V.bl j)=(i==j):=by rw[KR];simp
theorem DM:decide (V.str i=V.str j)=(i==j):=by rw[KR];simp
theorem DN:decide (V.DT i=V.DT j)=(i.toList==j.toList):=by rw[KR];cases i;cases j;simp
theorem aX{σ:St}{s:Shared}{k a:Bool}(I:Inv X pins σ H s)(q:Q (.bl k) H)(e:k=a):EP X pins σ Q (.bool a) s:=by subst e;exact#[.bl k,H,I,rfl,q]
theorem OV:oJ X (compareOp .Eq) Ub:=by
 ext pins s σ H x y v u Q I c a h;let#[b,q]:=h;cases x with
 | dY=>
  cases c;cases y with
  | dY=>cases a;exact PySem.EqNone.eq_none_none<|aX I q A!
  | bl j=>cases a;exact PySem.EqNone.eq_none_bool<|aX I q A!
  | int j=>obtain⟨t',rfl⟩:=a;exact PySem.EqNone.eq_none_int<|aX I q A!
  | str j=>obtain⟨t',rfl⟩:=a;exact PySem.EqNone.eq_none_str<|aX I q A!
  | _=>exact absurd (show false=true from b) Bj
 | bl i=>
  cases c;cases y with
  | dY=>cases a;exact PySem.EqNone.eq_bool_none<|aX I q A!
  | bl j=>cases a;exact eq_bool<|aX I q JC
  | str j=>obtain⟨t',rfl⟩:=a;exact PySem.EqMixed.eq_bool_str<|aX I q A!
  | _=>exact absurd (show false=true from b) Bj
 | int i=>
  let#[t,rfl]:=c;cases y with
  | dY=>cases a;exact PySem.EqNone.eq_int_none<|aX I q A!
  | int j=>obtain⟨t',rfl⟩:=a;exact eq_int<|aX I q pB
  | str j=>obtain⟨t',rfl⟩:=a;exact PySem.EqMixed.eq_int_str<|aX I q A!
  | _=>exact absurd (show false=true from b) Bj
 | str i=>
  let#[t,rfl]:=c;cases y with
  | dY=>cases a;exact PySem.EqNone.eq_str_none<|aX I q A!
  | bl j=>cases a;exact PySem.EqMixed.eq_str_bool<|aX I q A!
  | int j=>obtain⟨t',rfl⟩:=a;exact PySem.EqMixed.eq_str_int<|aX I q A!
  | str j=>obtain⟨t',rfl⟩:=a;exact eq_str<|aX I q DM
  | _=>exact absurd (show false=true from b) Bj
 | DT i=>
  let#[t,rfl]:=c;cases y with
  | DT j=>obtain⟨t',rfl⟩:=a;exact PySem.W.eq_bytes<|aX I q DN
  | _=>exact absurd (show false=true from b) Bj
 | _=>cases y<;>exact absurd (show false=true from b) Bj
theorem Vy:oJ X (compareOp .NotEq) Yt:=by
 ext pins s σ H x y v u Q I c a h;let#[b,q]:=h;cases x with
 | dY=>
  cases c;cases y with
  | dY=>cases a;exact PySem.EqNone.ne_none_none<|aX I q A!
  | bl j=>cases a;exact PySem.EqNone.ne_none_bool<|aX I q A!
  | int j=>obtain⟨t',rfl⟩:=a;exact PySem.EqNone.ne_none_int<|aX I q A!
  | str j=>obtain⟨t',rfl⟩:=a;exact PySem.EqNone.ne_none_str<|aX I q A!
  | _=>exact absurd (show false=true from b) Bj
 | bl i=>
  cases c;cases y with
  | dY=>cases a;exact PySem.EqNone.ne_bool_none<|aX I q A!
  | bl j=>cases a;exact ne_bool<|aX I q<|A4 not JC
  | str j=>obtain⟨t',rfl⟩:=a;exact PySem.EqMixed.ne_bool_str<|aX I q A!
  | _=>exact absurd (show false=true from b) Bj
 | int i=>
  let#[t,rfl]:=c;cases y with
  | dY=>cases a;exact PySem.EqNone.ne_int_none<|aX I q A!
  | int j=>obtain⟨t',rfl⟩:=a;exact ne_int<|aX I q<|A4 not pB
  | str j=>obtain⟨t',rfl⟩:=a;exact PySem.EqMixed.ne_int_str<|aX I q A!
  | _=>exact absurd (show false=true from b) Bj
 | str i=>
  let#[t,rfl]:=c;cases y with
  | dY=>cases a;exact PySem.EqNone.ne_str_none<|aX I q A!
  | bl j=>cases a;exact PySem.EqMixed.ne_str_bool<|aX I q A!
  | int j=>obtain⟨t',rfl⟩:=a;exact PySem.EqMixed.ne_str_int<|aX I q A!
  | str j=>obtain⟨t',rfl⟩:=a;exact ne_str<|aX I q<|A4 not DM
  | _=>exact absurd (show false=true from b) Bj
 | DT i=>
  let#[t,rfl]:=c;cases y with
  | DT j=>obtain⟨t',rfl⟩:=a;exact PySem.W.ne_bytes<|aX I q<|A4 not DN
  | _=>exact absurd (show false=true from b) Bj
 | _=>cases y<;>exact absurd (show false=true from b) Bj
theorem nomark(b:Expr)(h:D! (op≠.In))(a:D! (op≠.NotIn)):behindInMarks op b=false:=by
 let e1:(op==CmpOp.In)=false:=by cases op<;>first|rfl|exact absurd rfl h
 let e2:(op==CmpOp.NotIn)=false:=by cases op<;>first|rfl|exact absurd rfl a
 cases b<;>simp[behindInMarks,e1,e2]
noncomputable def tj(t:TE):TT:=λσ H Q=>t σ H λx a=>∃k,x=.bl k/\Q k a
theorem vX(ho:oJ X (compareOp op) r)(C:PE X a ta)(n:PE X b tb)(l:behindInMarks op b=false):PT X (.Compare a [op] [b] pos)<|tj<|mK r ta tb:=by
 ext pins s σ H Q I h;refine wpAny_isTrue_Compare1 (b9 (C pins s σ H _ I h) λv q ⟨x,A,i,g,m⟩=>b9 (n pins q σ A _ i m) λu s2 ⟨y,p,t,o,d⟩=>
  b9 (ho pins s2 σ p x y v u _ t g o d) λc D ⟨z,j,w,f,k,e,B⟩=>?_) l
 subst e;cases f;exact Ih #[j,w,B]
theorem qI:(sizeLine:Nat)<2 ^ 63:=by rw[FN];decide
theorem vals1(r:Vals [x] us):∃u,us=[u]/\RelV x u:=by
 cases r with
 | cons b a=>cases a;exact#[_,rfl,b]
theorem vals2(r:Vals [x,y] us):∃u w',us=[u,w']/\RelV x u/\RelV y w':=by
 cases r with
 | cons c b=>
  cases b with
  | cons a d=>cases d;exact#[_,_,rfl,c,a]
theorem zdh:dC X (.builtin "abs") (λxs H Q=>∃i,xs=[.int i]/\Q (.int<|if i<0 then -i else i) H):=by ext pins s σ H xs us Q I r h;let#[i,rfl,q]:=h;let#[u,rfl,t,rfl]:=vals1 r;exact call_abs_int λu a=>#[.int (if i<0 then -i else i),H,I.tok _,#[_,rfl],q]
theorem zbX(b:X.calm=true):dC X (.builtin "max") (λxs H Q=>∃i j,xs=[.int i,.int j]/\Q (.int<|if j > i then j else i) H):=by ext pins s σ H xs us Q I r h;let#[i,j,rfl,q]:=h;let#[u,w',rfl,#[t,rfl],#[t',rfl]]:=vals2 r;refine max_two_ints (I.ok.hd b) λh' c k=>#[_,H,I.kept k,?_,q];ext(a:j > i);rw[Al a,Al a];exact#[_,rfl];erw[Ak a,Ak a,#[_,rfl]]
theorem zcB(b:X.calm=true):dC X (.builtin "min") (λxs H Q=>∃i j,xs=[.int i,.int j]/\Q (.int<|if j<i then j else i) H):=by ext pins s σ H xs us Q I r h;let#[i,j,rfl,q]:=h;let#[u,w',rfl,#[t,rfl],#[t',rfl]]:=vals2 r;refine min_two_ints (I.ok.hd b) λh' c k=>#[_,H,I.kept k,?_,q];ext(a:j<i);rw[Al a,Al a];exact#[_,rfl];erw[Ak a,Ak a,#[_,rfl]]
def Ka(K:bb)(x:V)(H:Hp)(n:Nat):Prop:=
 match x with
 | .str y=>y.z<=sizeLine/\n=y.z
 | .DT y=>y.size<=sizeLine/\n=y.size
 | .ref p=>(∃xs,bH K H p xs/\n=xs.z)\/∃xs,mF K H p xs/\n=xs.z
 | _=>False
theorem gZ:dC X (.builtin "len") (λxs H Q=>∃x n,xs=[x]/\Ka X.K x H n/\Q (.int n) H):=by
 ext pins s σ H xs us Q I r h;let#[x,n,rfl,e,q]:=h;let#[u,rfl,d]:=vals1 r;let i:=qI;let j:sizeLine=16777216:=FN;cases x with
 | str y=>
  let#[t,rfl]:=d;obtain⟨g,a⟩:y.z<=sizeLine/\n=y.z:=e;subst a;exact len_str () #[.int _,H,I.tok _,#[_,rfl],q]
 | DT y=>
  let#[t,rfl]:=d;obtain⟨g,a⟩:y.size<=sizeLine/\n=y.size:=e;subst a;exact PySem.W.len_bytes () #[.int _,H,I.tok _,#[_,rfl],q]
 | ref p=>
  cases d;let a:(∃xs,bH X.K H p xs/\n=xs.z)\/∃xs,mF X.K H p xs/\n=xs.z:=e;ext(⟨xs,b,a⟩|⟨xs,b,a⟩:a);subst a;let#[f,c,pl,hz]:=I.list b;let hlen:=c.z;exact Calls.call_len_list pl.isList (by simp only[Cj];lia) #[.int xs.z,H,I.tok _,#[_,by simp only[Cj];rw[hlen]],q];subst a;let#[f,c,pl,hz]:=I.tuple b;let hlen:=c.z;exact len_tuple pl (by simp only[Cj];lia) #[.int xs.z,H,I.tok _,#[_,by simp only[Cj];rw[hlen]],q]
 | _=>exact(show False from e).elim
theorem nU.some_of(r:nU (some v) o):∃u,o=some u/\RelV v u:=by
 cases o with
 | none=>exact(show False from r).elim
 | some u=>exact#[u,rfl,r]
section
variable {X:Cx} {pins:bq} {σ:St} {H:Hp} {s:Shared} {A:Around} {E:bo} {Q:bo} {c:Value} {b:Bool}
end
structure Room(k:Nat)(A:Around):Prop where
 hd:A.handled=none
 dp:A.depth+3*k+5<recursionLimit
 un:A.units+16*k+200<cLine
theorem Room.mono(r:Room k A)(h:j<=k):Room j A:=#[r.hd,by let:=r.dp;lia,by let:=r.un;lia]
theorem Room.deeper(r:Room (k+1) A)(env:Env):Room k<|A.deeper env:=
 #[r.hd,by let:=r.dp;show A.depth+1+3*k+5<_;lia,by let:=r.un;show A.units+3+16*k+200<_;lia]
theorem Room.depth(r:Room k A):A.depth<recursionLimit:=by let:=r.dp;lia
theorem Room.units(r:Room k A):A.units+64<cLine:=by let:=r.un;lia
noncomputable def bN:TA:=λ_ H Q=>Q [] H
noncomputable def aG(b:TE)(tr:TA):TA:=λσ H Q=>b σ H λx c=>tr σ c λxs a=>Q (x::xs) a
theorem aQ:PA X [] bN:=λ_ _ _ _ H Q I h=>Lf #[[],H,I,.nil,h]
theorem aw(n:PE X e te)(m:PA X es t)(k:E! BU X e es):PA X (e::es)<|aG te t:=by ext pos pins s σ H Q I h;erw[k,Ko<|b9 (n pins s σ H _ I h) λu i ⟨x,l,c,b,d⟩=>b9 (m pos pins i σ l _ c d) λus s2 ⟨xs,g,j,f,a⟩=>#[x::xs,g,j,.cons b f,a]]
def Yi(t:TA):TE:=λσ H Q=>t σ H λxs a=>xs.z<=sizeLine/\∀p,a p=none->Q (.ref p) (upd a p<|.tup xs)
def UZ(t:TA):TE:=λσ H Q=>t σ H λxs a=>xs.z<=sizeLine/\∀p,a p=none->Q (.ref p) (upd a p<|.lst xs)
theorem Ru{x1}(h:PA X es t):PE X (.Tuple es x1 pos)<|Yi t:=by ext pins s σ H Q I f;refine wpAny_Tuple_spliced<|b9 (h pos pins s σ H _ I f) λus c ⟨xs,d,a,r,z,q⟩=>#[by erw[<-r.z,z],?_];exact#[.ref c.c,upd d c.c<|.tup xs,a.laid (λb u e=>BN _ e) (Xx _) #[z,us,r,#[_,EL _ rfl,rfl,_,rfl]],rfl,q _<|a.bu.fresh<|Xx _]
abbrev Sp:=List V->Hp->VK->XK->Prop
abbrev B4:=List Env->Hp->Shared->XK->Value->Shared->Prop
structure NP(P:Program)(w:World)(K:bb)(mg:bg)(base:Heap)(A:Around)(outer:List Env)(s:Shared)(H:Hp):Prop where
 frames:A.frames=some outer
 mod:Mod K mg base
 bs:∀b o,base.get? b=some o->s.heap.get? b=some o/\H b=none
 Tr:base.e<=s.c
 q5:s.heap.FunFrames base outer
 Ur:∀b∈zQ outer,H b=none
 bu:jS P w H s.heap
 bare:AllBare s.gens
def CE(outer:List Env)(P:Program)(w:World)(H:Hp)(s:Shared)(Q:VK)(u:Value)(a:Shared):Prop:=
 ∃v b,a.os=s.os/\AllBare a.gens/\Un (zQ outer) [] H b s.heap a.heap/\jS P w b a.heap/\RelV v u/\Q v b
def CR(b:B4)(outer:List Env)(P:Program)(w:World)(H:Hp)(s:Shared)(Q:VK)(E:XK)(r:Result)(a:Shared):Prop:=
 match r with
 | .ok (.ret u)=>CE outer P w H s Q u a
 | .ok _=>False
 | .error e=>b outer H s E e a
structure oK(P:Program)(w:World)(K:bb)(mg:bg)(base:Heap)(CX:B4)(k:Nat)(f:Addr)(fd:FuncData)(ps:List Str)(sp:Sp):Prop where
 len:∀vs H Q E,sp vs H Q E->vs.z=ps.z
 run:∀(A:Around) (outer:List Env) (s:Shared) (H:Hp) (args:Args) (us:bc) (vs:List V) (Q:VK) (E:XK),Room k A->NP P w K mg base A outer s H->BindsTo s fd args (ps.zip us)->Vals vs us->sp vs H Q E->
  codeAny (model P w) A (.call (.ref f) args) (CR CX outer P w H s Q E) s
section
variable {X:Cx} {pins:bq} {σ:St} {H:Hp} {s s':Shared}
theorem Inv.ZT(I:Inv X pins σ H s):NP X.prog X.w X.K X.mg X.base X.A X.stack s H:=
 #[I.ok.frames,I.ok.mod,I.bs,Ay I.ok.Tr I.sz,I.stack,I.Co,I.bu,I.bare]
theorem Inv.after(I:Inv X pins σ H s)(h:CE X.stack X.prog X.w H s Q u s'):EP X pins σ Q u s':=by let#[v,c,f,bare,un,e,r,q]:=h;let#[i,g,d,t,a]:=s';obtain rfl:a=s.os:=f;exact#[v,c,I.call un e bare<|λb z=>absurd z A!,r,q]
end
noncomputable def tD(c:Sp)(a:List V)(E:XK)(t:TA):TE:=λσ H Q=>t σ H λvs b=>c (vs++a) b Q E
def Binds(K:bb)(c:FuncData)(b:List Str)(a:bc):Prop:=
 ∀(s:Shared) (us:bc),K.In s.heap->(us++a).z=b.z->BindsTo s c #[us,[]] (b.zip<|us++a)
theorem Binds.all{K:bb}{c:FuncData}{a:List Str}(h:∀us:bc,us.z=a.z->bindArgs c #[us,[]]=pure (a.zip us)):Binds K c a []:=λs us _ b=>by rw[GA]at b ⊢;exact .of_eq<|h us b
def Passes(b:B4)(X:Cx)(E:XK):Prop:=∀(pins:bq) (σ:St) (H:Hp) (s:Shared) (e:Value) (a:Shared),Inv X pins σ H s->b X.stack H s E e a->X.xe e a
section
variable {X:Cx} {CX:B4} {k:Nat} {f C:Addr} {fd:FuncData} {ps:List Str} {sp:Sp} {PH:List V} {ds:bc} {E:XK} {x m:Str} {p pos apos:Pos} {e o:Expr} {es:List Expr} {ta:TE} {t:TA}
theorem QW{σ:St}{s:Shared}(F:oK X.prog X.w X.K X.mg X.base CX k f fd ps sp)(g:Room k X.A)(l:Binds X.K fd ps ds)(d:Vals PH ds)(j:Passes CX X E)(I:Inv X pins σ H s)(r:Vals vs us)(h:sp (vs++PH) H Q E):wpAny (model X.prog X.w) X.A (call (.ref f) us) (EP X pins σ Q) X.xe s:=by
 let b:=r.append d;let c:(us++ds).z=ps.z:=by erw[<-b.z,F.len _ _ _ _ h]
 refine wpAny_call<|codeAny_mono (F.run X.A X.stack s H #[us,[]] (us++ds) (vs++PH) Q E g I.ZT (l s us I.zA c) b h) λr i a=>?_;cases r with
 | error e=>exact j pins σ H s e i I a
 | ok fl=>
  cases fl with
  | ret u=>exact I.after a
  | next=>exact False.elim a
  | brk=>exact False.elim a
  | cont=>exact False.elim a
theorem CQ(F:oK X.prog X.w X.K X.mg X.base CX k f fd ps sp)(l:Room k X.A)(j:Gl X x)(c:X.mg x=f.j)(b:PySem.W.keepIn X.K (.ref f)=true)(i:Binds X.K fd ps ds)(n:Vals PH ds)(y:Passes CX X E)(v:PA X (e::es) t)(g:D! ((x==("__debug__":Str))=false))(u:E! BU X e es)(d:E! ((backTo pos<|starEach es X.env).any (·.1)=false)) :
  PE X (.Call (.Name x p) (e::es) [] pos) (tD sp PH E t):=by
 ext pins s σ H Q I h;refine wpAny_Call_Name_kw<|Calls.Name_function_global I.ok.kind j (Calls.loadGlobal_global (I.ok.glob>>I.mod.glob.keeps I.bk) c ?_) g;exact PySem.W.callWith_K I.ok.mod.YX b (b9 (v pos pins s σ H _ I h) λus z ⟨vs,B,a,r,q⟩=>#[a.zA,QW F l i n y a r q]) u d
end
structure gF(N P:List Str)(sc:Scope):Prop where
 kind:sc.kind=.function
 co:sc.isCoroutine=false
 gen:sc.isGenerator=false
 nd:N.Nodup
 pre:N.take P.z=P
 par:∀x∈P,sc.names.lookup x=some .local\/sc.names.lookup x=some .cell
 RN:∀y∈sc.names,y.2≠.free
theorem uK{kindOf:Str->Option NameKind}{x:Str}:∀{binds:List<|Str×Value} {m:bg},(∀v,(x,v)∉binds)->bindL kindOf binds m x=m x
 | [],_,_=>rfl
 | (n,v)::r,m,h=>by
  unfold bindL;rw[uK λw a=>h w<|A7 _ a];split;let:x≠n:=by ext rfl;exact h v AO
  simp[this];rfl
theorem uM{kindOf:Str->Option NameKind}{x:Str}:∀{binds:List<|Str×Value} {m:bg},(∀v,(x,v)∉binds)->bindC kindOf binds m x=m x
 | [],_,_=>rfl
 | (n,v)::r,m,h=>by
  unfold bindC;rw[uM λw a=>h w<|A7 _ a];split;rfl;let:x≠n:=by ext rfl;exact h v AO
  simp[this]
theorem uL{kindOf:Str->Option NameKind}{x:Str}{v:Value}:∀{P:List Str} {vs:bc} {i:Nat} {m:bg},P.Nodup->P[i]?=some x->vs[i]?=some v->kindOf x=some .local->
  bindL kindOf (P.zip vs) m x=some v
 | [],_,_,_,_,h,_,_=>by simp at h
 | _::_,[],_,_,_,_,h,_=>by simp at h
 | p::P,w::vs,0,m,nd,h1,h2,hk=>by simp at h1 h2;subst h1;subst h2;show bindL kindOf ((p,w)::P.zip vs) m p=_;unfold bindL;rw[uK λv a=>(EB.mp nd).1 (HL a).1,Al hk];simp
 | p::P,w::vs,i+1,m,nd,h1,h2,hk=>by unfold bindL;exact uL (EB.mp nd).2 (~~~h1) (~~~h2) hk
theorem uN{kindOf:Str->Option NameKind}{x:Str}{v:Value}:∀{P:List Str} {vs:bc} {i:Nat} {m:bg},P.Nodup->P[i]?=some x->vs[i]?=some v->kindOf x≠some .local->
  bindC kindOf (P.zip vs) m x=some v
 | [],_,_,_,_,h,_,_=>by simp at h
 | _::_,[],_,_,_,_,h,_=>by simp at h
 | p::P,w::vs,0,m,nd,h1,h2,hk=>by simp at h1 h2;subst h1;subst h2;show bindC kindOf ((p,w)::P.zip vs) m p=_;unfold bindC;rw[uM λv a=>(EB.mp nd).1 (HL a).1,Ak hk];simp
 | p::P,w::vs,i+1,m,nd,h1,h2,hk=>by unfold bindC;exact uN (EB.mp nd).2 (~~~h1) (~~~h2) hk
noncomputable def start(N:List Str)(vs:List V):St:=vs.map some++List.replicate (N.z-vs.z) none
noncomputable def sP(c:B4)(P:Program)(w:World)(K:bb)(mg:bg)(base:Heap)(N:List Str)(qual:Str)(scope:Scope)(f:Addr)(a:Value)(A:Around)(outer:List Env)(s:Shared)(H:Hp)(E:XK):Cx where
 prog:=P
 w:=w
 K:=K
 mg:=mg
 base:=base
 A:=A.deeper<|envOfC qual scope s.c f a
 N:=N
 s₀:=s
 H₀:=H
 env:=envOfC qual scope s.c f a
 outer:=outer
 stack:=envOfC qual scope s.c f a::outer
 ex:=[]
 calm:=true
 fn:=λ_=>true
 pn:=[]
 xe:=λe d=>wpAny (model P w) (A.deeper<|envOfC qual scope s.c f a) (leaving (envOfC qual scope s.c f a) e) (λ_ b=>c outer H s E e b) (λg b=>c outer H s E g b) d
theorem Ab{a:Scope}{n:Nat}{x:Str}(h:a.names.lookup x=some .cell):∃c,(cellsFrom n a.names []).lookup x=some c:=by exact N2.mp<|PySem.W.cellsFrom_some a.names n []<|.inl h
theorem zbA{D:B4}{P:Program}{w:World}{K:bb}{mg:bg}{base:Heap}{N j:List Str}{qual:Str}{scope:Scope}{f:Addr}{B:Value}{A:Around}{outer:List Env}{s I:Shared}{H:Hp}{E:XK}{us:bc}{vs:List V}(S:gF N j scope)(L:A.handled=none)(g:NP P w K mg base A outer s H)(Q:vs.z=j.z)(r:Vals vs us)(x:InCallC s s.c (bindL (envOfC qual scope s.c f B).kindOf (j.zip us) λ_=>none) (cellsFrom (s.c+1) scope.names []) (bindC (envOfC qual scope s.c f B).kindOf (j.zip us) λ_=>none) I) :
  Inv (sP D P w K mg base N qual scope f B A outer s H E) [] (start N vs) H I:=by
 let O:j.z<=N.z:=by let:=A4 List.length S.pre;rw[Fb]at this;lia
 let#[o,R,rfl,F]:=x.done;let C:∀b:Addr,b∉(sP D P w K mg base N qual scope f B A outer s H E).ex:=λb z=>absurd (show b∈([]:bf)from z) A!;refine#[#[g.mod,S.kind,rfl,rfl,Xx _,λy z c o d=>?_,λy l=>?_,λy c _ h=>?_,λ_=>L,Around.frames_deeper g.frames,.inr #[rfl,rfl],λb z=>absurd z<|C b,g.bs,g.Tr,λb _ _=>C b,λb z=>absurd z<|C b,g.q5,g.Ur],
  rfl,g.bare,Un.kept F,#[_,x.toInCall.ns,λi y v o d M=>?_],λy c h=>#[_,x.cell y c h],g.bu.fresh<|Xx _,λy c h=>?_,λp m=>absurd (show p∈([]:bq)from m) A!,g.bu.kept F,?_]
 exact name_of_addr x.apart (LQ o)<|LQ d;let l:=l;ext(l|l:l);exact Ab l;exact absurd rfl<|S.RN _<|LQ l;exact FE<|x.above y c<|LQ h;let t:i<vs.z:=by unfold start at d;ext(t:i<vs.z);exact t;rw[Fg<|~~~t]at d;rw[Hw]at d;split at d<;>cases d
 let J:vs[i]?=some v:=by
  unfold start at d;rw[Eh (~~~t),AY]at d;cases e:vs[i]? with
  | none=>rw[e]at d;cases d
  | some a=>rw[e]at d;cases d;rfl
 let#[u,G,rv]:=r.get J;let m:j[i]?=some y:=by erw[<-S.pre,getElem?_take_of_lt (),o]
 let n:j.Nodup:=by erw[<-S.pre,S.nd.sublist<|take_sublist _ _]
 refine#[u,rv,?_];ext(k|k:S.par y<|A5 m);exact .inl #[k,uL n m G k];let#[c,e]:=Ab k;refine .inr #[.inl k,c,e,?_];let q:=x.cell y c e;rw[uN n m G<|by show scope.names.lookup y≠_;rw[k];decide]at q;exact q;exact g.bu.fresh<|FE<|x.above y c<|LQ h;unfold start;show _=N.z;rw[Ac,ZO,LH];lia
theorem Jd{p:B4}{P:Program}{w:World}{K:bb}{mg:bg}{base:Heap}{k:Nat}{f:Addr}{name qual:Str}{params:Arguments}{body:List Stmt}{scope:Scope}{M kV j L d ct oc:Value}{O od:Option Addr}{T:Array<|Option Value}{N m:List Str}{z:Sp}(R:K.lookup f=some #[oc,od,.func<|PySem.W.fnOf name qual params body scope M kV j L O d ct,T])(lY:PySem.W.codeIn K d qual=true)(S:gF N m scope)(i:∀vs H Q E,z vs H Q E->vs.z=m.z)(Y:∀(A:Around) (outer:List Env) (s:Shared) (H:Hp) (vs:List V) (Q:VK) (E:XK),Room k (A.deeper<|envOfC qual scope s.c f d)->z vs H Q E->
   ∃t,uO (sP p P w K mg base N qual scope f d A outer s H E) body t/\t { nx:=λ_ c=>Q .dY c,rt:=Q } (start N vs) H) :
  oK P w K mg base p (k+1) f (PySem.W.fnOf name qual params body scope M kV j L O d ct) m z:=by
 refine#[i,λA outer s H args us vs Q E B h U r F=>?_];let D:=h.mod.YX.keeps λb o e=>(h.bs b o e).1;let Wn:∀y∈m.zip us,scope.names.lookup y.1=some .local\/(scope.names.lookup y.1=some .cell/\((cellsFrom (s.c+1) scope.names []).lookup y.1).isSome=true):=λ⟨n,v⟩ X=>by ext(q|q:S.par n (HL X).1);exact .inl q;exact .inr #[q,PySem.W.cellsFrom_some _ _ _<|.inl q]
 refine codeAny_call_function B.depth (D _ _ R) rfl S.co S.gen rfl (PySem.W.codeRec_of D lY)<|U _ _ _ _<|wpAny_newFunctionEnv_cells S.kind Wn λenv he G x=>?_;subst he;refine#[(h.mod.nolimit.keeps λb o e=>(h.bs b o e).1).keeps x.toInCall.keep,codeAny_func ?_];let#[t,ht,Z]:=Y A outer s H vs Q E (B.deeper _) F;let I:Inv (sP p P w K mg base N qual scope f d A outer s H E) [] (start N vs) H G:=zbA S B.hd h (i _ _ _ _ F) r x;refine EW (ht [] G (start N vs) H _ I Z) (λfl C g=>?_) λe C g=>g;let l:∀{a:St} {c:Hp} {v:V} {u:Value},Inv (sP p P w K mg base N qual scope f d A outer s H E) [] a c C->RelV v u->Q v c->CE outer P w H s Q u C:=
  λ{a c v u} J rv q=>#[v,c,J.os,J.bare,J.base,J.bu,rv,q]
 cases fl with
 | ret u=>
  let#[v,a,c,J,rv,q]:=g;exact l J rv q
 | next=>
  let#[a,c,J,q]:=g;exact l (v:=V.dY) (u:=Value.none) J rfl q
 | brk=>
  let#[_,_,_,q]:=g;exact False.elim q
 | cont=>
  let#[_,_,_,q]:=g;exact False.elim q
section
variable {X:Cx} {x:Str} {p pos:Pos} {e:Expr} {es:List Expr} {t:TA} {id T:String} {r:List V->Hp->VK->Prop}
noncomputable def jT(r:List V->Hp->VK->Prop)(t:TA):TE:=λσ H Q=>t σ H λvs a=>r vs a Q
theorem bC(n:dC X (.builtin id) r)(k:Gl X x)(c:X.mg x=none)(m:bootBuiltins x=some (.builtin id))(o:PA X (e::es) t)(q:D! (x≠ "__name__"))(g:D! ((x==("__debug__":Str))=false))(l:E! BU X e es)(d:E! ((backTo pos<|starEach es X.env).any (·.1)=false)):PE X (.Call (.Name x p) (e::es) [] pos)<|jT r t:=by ext pins s σ H Q I h;exact wpAny_Call_Name_kw<|bY I k c m (PyProof.Rows.callWith_builtin1 (b9 (o pos pins s σ H _ I h) λus i ⟨vs,j,b,a,f⟩=>n pins i σ j vs us Q b a f) l d) q g
theorem gS(n:dC X (.type T) r)(k:Gl X x)(c:X.mg x=none)(m:bootBuiltins x=some (.type T))(o:PA X (e::es) t)(q:D! (x≠ "__name__"))(g:D! ((x==("__debug__":Str))=false))(l:E! BU X e es)(d:E! ((backTo pos<|starEach es X.env).any (·.1)=false)):PE X (.Call (.Name x p) (e::es) [] pos)<|jT r t:=by ext pins s σ H Q I h;exact wpAny_Call_Name_kw<|bY I k c m (HH (b9 (o pos pins s σ H _ I h) λus i ⟨vs,j,b,a,f⟩=>n pins i σ j vs us Q b a f) l d) q g
end
end L2
namespace HT
open PySem PyProof.Rows
noncomputable def cx:cc->cc->Bool
 | [],[]=>false
 | [],_::_=>true
 | _::_,[]=>false
 | x::xs,y::ys=>if x=y then cx xs ys else decide (x<y)
theorem fS(x y:Int)(xs ys:cc):cx (x::xs) (y::ys)=if x=y then cx xs ys else decide (x<y):=rfl
theorem sL:cx [] []=false:=rfl
theorem qJ(y:Int)(ys:cc):cx [] (y::ys)=true:=rfl
theorem qK(x:Int)(xs:cc):cx (x::xs) []=false:=rfl
theorem zbZ(A:Around)(s:Shared)(a:Int)(t:Tok)(c:Int)(u:Tok):∃e,SeqAt.EqAt A s (.int a t) (.int c u) e/\(e=true↔a=c):=
 #[(a==c),SeqAt.EqAt.int_int a t c u,by simp]
theorem zdR(A:Around)(s:Shared)(a:Int)(t:Tok)(c:Int)(u:Tok)(prog:Program)(w:World)(E:bo)(Q:bo)(h:Q (.bool<|decide<|a<c) s) :
  wpAny (model prog w) A (richCompare .Lt (.int a t)<|.int c u) Q E s:=
 (PyProof.Rows.lt_int h:wpAny (model prog w) A (compareOp .Lt (.int a t)<|.int c u) Q E s)
noncomputable def tN(n d:Nat):Option Int->Nat
 | none=>d
 | some v=>if v<0 then(v+(n:Int)).toNat else min v.toNat n
theorem yE(n d:Nat):tN n d none=d:=rfl
theorem Ct(n d k:Nat):tN n d (some (k:Int))=min k n:=by show(if(k:Int)<0 then((k:Int)+(n:Int)).toNat else min (k:Int).toNat n)=min k n;rw[Ak (),EC]
end HT
namespace L2
open PySem PySem.Spec PyProof.Rows
abbrev TO:=St->Hp->(Option Int->Hp->Prop)->Prop
def PO(X:Cx)(e:Option Expr)(t:TO):Prop:=
 ∀(pins:bq) (s:Shared) (σ:St) (H:Hp) (Q:Option Int->Hp->Prop),Inv X pins σ H s->t σ H Q->
  wpAny (model X.prog X.w) X.A (evalPart e X.env) (λu b=>∃o a,Inv X pins σ a b/\IsPart u o/\Q o a) X.xe s
noncomputable def zas:TO:=λ_ H Q=>Q none H
noncomputable def Ot(t:TE):TO:=λσ H Q=>t σ H λx a=>∃i,x=.int i/\Q (some i) a
theorem intsAre_of:∀{us:bc},Vals a.f us->IntsAre us a:=by
 induction a with
 | nil=>intro us r;rw[map_nil]at r;cases r;exact .nil
 | cons n a c=>
  ext us r;rw[Ap]at r;cases r with
  | cons d b=>
   let#[t,e]:=d;subst e;exact .cons n t<|c b
section
variable {te:TE} {lo hi:Option Expr} {tl th:TO}
theorem zfu:PO X none zas:=by ext pins s σ H Q I h;erw[evalPart_none,A8 #[none,H,I,.none,h]]
def SlR(X:Cx)(r:V->Option Int->Option Int->Hp->VK->Prop):Prop:=
 ∀(pins:bq) (s:Shared) (σ:St) (H:Hp) (x:V) (v b a:Value) (lo hi:Option Int) (sl:Addr) (Q:VK),Inv X pins σ H s->RelV x v->s.heap.IsSliceOf sl b a .none->IsPart b lo->IsPart a hi->r x lo hi H Q->
  ∃T id,typeLookup (.type T) "__getitem__"=pure (some<|.builtin id)/\s.TypeIs v T/\wpAny (model X.prog X.w) X.A (getItem v<|.ref sl) (EP X pins σ Q) X.xe s
noncomputable def tSl(r:V->Option Int->Option Int->Hp->VK->Prop)(te:TE)(tl th:TO):TE:=λσ H Q=>te σ H λx b=>tl σ b λl a=>th σ a λu c=>r x l u c Q
theorem zeb(o:SlR X r)(F:PE X e te)(w:PO X lo tl)(y:PO X hi th):PE X (.Subscript e (.Slice lo hi none p2) pos)<|tSl r te tl th:=by ext pins s σ H Q I h;refine Subscript_<|b9 (F pins s σ H _ I h) λv B ⟨x,E,z,g,j⟩=>wpAny_Slice<|b9 (w pins B σ E _ z j) λd s2 ⟨l,A,k,pl,t⟩=>b9 (y pins s2 σ A _ k t) λc a ⟨u,i,D,f,p⟩=>?_;rw[evalPart_none];refine A8 ?_;let#[T,id,m,C,n]:=o pins { a with heap:=a.heap.push { cls:=.type "slice",data:=.fields #[d,c,.none,] } } σ i x v d c l u a.c Q (D.kept λb G q=>BN _ q) g (Heap.IsSliceOf.new ..) pl f p;exact tail_any C m n (by with_unfolding_all rfl)
def JH(xs:List V)(lo hi:Option Int):List V:=(xs.drop<|HT.tN xs.z 0 lo).take<|HT.tN xs.z xs.z hi-HT.tN xs.z 0 lo
end
noncomputable def xP(n:Nat)(i:Int):Option Nat:=if 0<=i then(if i<n then some i.toNat else none)else if -(n:Int)<=i then some (i+n).toNat else none
def oI{α:Type}(xs:List α)(i:Int):Option α:=(xP xs.z i).bind λj=>xs[j]?
theorem C9(h:xP n i=some j):seqIndex? i n=some j/\j<n/\-(n:Int)<=i/\i<n:=by unfold xP at h;ext(b:0<=i);rw[Al b]at h;ext(a:i<n);rw[Al a]at h;let e:=BV h;exact#[by rw[seqIndex_of b a,e],(),(),a];rw[Ak a]at h;cases h;rw[Ak b]at h;by_cases a : -(n:Int)<=i;rw[Al a]at h;exact#[by rw[seqIndex_neg () a,BV h],(),a,()];rw[Ak a]at h;cases h
theorem DZ{α:Type}{xs:List α}{i:Int}{v:α}(h:oI xs i=some v):∃j,seqIndex? i xs.z=some j/\xs[j]?=some v/\j<xs.z/\-(xs.z:Int)<=i/\i<xs.z:=by
 unfold oI at h;cases e:xP xs.z i with
 | none=>rw[e]at h;cases h
 | some j=>
  rw[e]at h;let#[c,a,b,d]:=C9 e;exact#[j,c,h,a,b,d]
theorem zdI(xs:List α)(v:α):oI (xs++[v]) (-1)=some v:=by
 let a:(xs++[v]).z=xs.z+1:=by simp
 let e:xP (xs++[v]).z (-1)=some xs.z:=by unfold xP;rw[a,Ak A?,Al ()];congr 1;lia
 unfold oI;rw[e];show(xs++[v])[xs.z]?=some v;simp
def xI(b:Expr):Prop:=∀o i,subscripted b false o i=operate [o,i] (getItem o i)
def X9(X:Cx)(r:R2):Prop:=
 ∀(value slice:Expr) (pins:bq) (s:Shared) (σ:St) (H:Hp) (x y:V) (v u:Value) (Q:VK),Inv X pins σ H s->RelV x v->RelV y u->r x y H Q->
  subscripted slice false v u=operate [v,u] (getItem v u)->wpAny (model X.prog X.w) X.A (subscriptTail value slice v u) (EP X pins σ Q) X.xe s
def MtR(X:Cx)(id:String)(r:V->List V->Hp->VK->Prop):Prop:=
 ∀(pins:bq) (s:Shared) (σ:St) (H:Hp) (x:V) (xs:List V) (v:Value) (us:bc) (Q:VK),Inv X pins σ H s->RelV x v->Vals xs us->r x xs H Q->
  wpAny (model X.prog X.w) X.A (call (.builtin id)<|v::us) (EP X pins σ Q) X.xe s
section
variable {X:Cx} {a b:Expr} {ta tb:TE} {pos:Pos}
theorem OT(i:X9 X r)(j:PE X a ta)(d:PE X b tb)(f:xI b):PE X (.Subscript a b pos)<|mK r ta tb:=by ext pins s σ H Q I h;exact Subscript_<|Tw j d I h λv u s2 x y e g k c q=>i a b pins s2 σ e x y v u Q g k c q<|f _ _
def L7(K:bb):R2:=λx y H Q=>∃p xs i v,x=.ref p/\y=.int i/\bH K H p xs/\oI xs i=some v/\Q v H
def Rh(K:bb):R2:=λx y H Q=>∃p xs i v,x=.ref p/\y=.int i/\mF K H p xs/\oI xs i=some v/\Q v H
theorem wB:X9 X<|L7 X.K:=by
 ext value slice pins s σ H x y v u Q I A E h g;let#[p,xs,i,z,rfl,rfl,o,F,q]:=h;cases A;let#[t,rfl]:=E;let#[B,r,pl,hz]:=I.list o;let#[j,d,m,G,n,l]:=DZ F;let#[w,k,C]:=r.get m;let D:=r.z;let J:=qI;let c:EP X pins σ Q w s:=#[z,H,I,C,q];ext(f:0<=i);let e:i.toNat=j:=by rw[seqIndex_of f l]at d;exact BV d
 exact item_listR pl.isList f () (by rw[e];simpa using k) c g;let e:(i+(B.toArray.size:Int)).toNat=j:=by rw[seqIndex_neg () n]at d;erw[Cj,<-D,BV d]
 exact subscriptTail_builtinR pl.isList.typeIs slot_list_getitem.lookup
  (wpAny_getItem_list_neg pl.isList () (by rw[Cj]<;>lia) () (by rw[e];simpa using k) #[rfl,c]) g
theorem qT:X9 X<|Rh X.K:=by
 ext value slice pins s σ H x y v u Q I f k h l;let#[p,xs,i,z,rfl,rfl,e,m,q]:=h;cases f;let#[t,rfl]:=k;let#[C,r,pl,hz]:=I.tuple e;let#[j,d,c,A,B,o]:=DZ m;let#[w,n,g]:=r.get c;let D:=qI;exact subscriptTail_builtinR pl.typeIs slot_tuple_getitem.lookup
  (getItem_tuple pl () () (by erw[Cj,<-r.z,d]) (~~~n) #[rfl,#[z,H,I,g,q]]) l
theorem zaF(c:bc)(n j:Nat)(u:Value):Obj.mapSeq (·.setIfInBounds j u) { cls:=.type "list",data:=.seq c.toArray n }={ cls:=.type "list",data:=.seq (c.set j u).toArray n }:=by simp[Obj.mapSeq]
theorem Inv.lst{pins:bq}{σ:St}{H:Hp}{s:Shared}{p:Addr}{xs:List V}(I:Inv X pins σ H s)(h:H p=some (.lst xs)) :
  ∃(c:bc) (n:Nat),Vals xs c/\s.heap.get? p=some { cls:=.type "list",data:=.seq c.toArray n }/\xs.z<=sizeLine:=by
 let#[z,c,n,r,e]:=I.bu p _ h;exact#[c,n,r,e,z]
theorem Inv.RV{pins:bq}{σ:St}{H:Hp}{s:Shared}{p:Addr}{xs ys:List V}{g c:bc}{n d:Nat}{f:Obj->Obj}(I:Inv X pins σ H s)(h:H p=some (.lst xs))(ho:s.heap.get? p=some { cls:=.type "list",data:=.seq g.toArray n })(i:f { cls:=.type "list",data:=.seq g.toArray n }={ cls:=.type "list",data:=.seq c.toArray d })(r:Vals ys c)(hz:ys.z<=sizeLine)(t:Nat) :
  Inv X pins σ (upd H p<|.lst ys) { s with heap:=s.heap.update p f,toks:=t }:=by
 let e:(s.heap.update p f).get? p=some { cls:=.type "list",data:=.seq c.toArray d }:=by rw[IA f ho (by rw[i]<;>rfl),i]
 refine I.write (by rw[h];trivial) (.inl rfl) (λb u j q=>(HE _ _<|A6 j).trans q) #[_,e] ?_;exact#[hz,c,d,r,e]
def ON:V->V->V->Hp->(Hp->Prop)->Prop:=λo i v H Q=>∃p xs k j,o=.ref p/\i=.int k/\H p=some (.lst xs)/\xP xs.z k=some j/\Q (upd H p<|.lst<|xs.set j v)
theorem set_list:W7 X ON:=by
 ext pins s σ H o i v C D u Q I A y rv h;let#[p,xs,k,j,rfl,rfl,f,z,q]:=h;cases A;let#[t,rfl]:=y;let#[x,n,r,ho,hz]:=I.lst f;let#[c,B,g,l]:=C9 z;let e:=r.z;let E:=qI;let w:=
  I.RV f ho (zaF x n j u) (r.set rv j) (Ec>>hz) s.toks
 ext(m:0<=k);let d:k.toNat=j:=by rw[seqIndex_of m l]at c;exact BV c
 exact PySem.W.ki_setAt ho m () (by erw[Cj,<-e,l]) (d>>#[_,w,q]);let d:(k+(x.toArray.size:Int)).toNat=j:=by rw[seqIndex_neg () g]at c;erw[Cj,<-e,BV c]
 exact PySem.W.ki_setBack ho () (by erw[Cj,<-e,g]) () (d>>#[_,w,q])
theorem vh(lo c:Option Int)(n:Nat):(sliceBounds lo c none n).1=((HT.tN n 0 lo:Nat):Int)/\(sliceBounds lo c none n).2.1=((HT.tN n n c:Nat):Int)/\(sliceBounds lo c none n).2.2=1:=by
 refine#[?_,?_,rfl];cases lo with
 | none=>simp[sliceBounds,HT.tN]
 | some i=>
  simp[sliceBounds,HT.tN,Option.getD_none,show(1:Int) > 0 by decide,if_true];ext(h:i<0);simp[h,if_true]<;>lia;simp[h,F8]<;>lia
 cases c with
 | none=>simp[sliceBounds,HT.tN]
 | some i=>
  simp[sliceBounds,HT.tN,Option.getD_none,show(1:Int) > 0 by decide,if_true];ext(h:i<0);simp[h,if_true]<;>lia;simp[h,F8]<;>lia
theorem sr(c:bc)(lo d:Option Int):slicePick c.toArray lo d none=((c.drop<|HT.tN c.z 0 lo).take<|HT.tN c.z c.z d-HT.tN c.z 0 lo).toArray:=by let#[g,e,f]:=vh lo d c.toArray.size;unfold slicePick;rw[g,e,f];simp only[sliceRange_one,pick_run,Cj]<;>rfl
def Vl(K:bb):V->Option Int->Option Int->Hp->VK->Prop:=λx lo c H Q=>∃a xs,x=.ref a/\bH K H a xs/\∀p,H p=none->Q (.ref p) (upd H p<|.lst<|JH xs lo c)
theorem zej:SlR X<|Vl X.K:=by ext pins s σ H x v k l lo f sl Q I i g pl d h;let#[a,xs,rfl,e,q]:=h;cases i;let#[j,r,c,hz]:=I.list e;let hlen:=r.z;refine#["list",_,slot_list_getitem.lookup,c.isList.typeIs,wpAny_getItem_list_slice c.isList g pl d .none A! ?_<|by rw[Cj]<;>lia];rw[sr,<-hlen];refine#[.ref s.c,_,I.laid (λb m q=>BN _ q) (Xx _) ?_,rfl,q _<|I.bu.fresh<|Xx _];exact#[Ay (by unfold JH;rw[Fb,Ey];lia) hz,_,0,(r.drop<|HT.tN xs.z 0 lo).take<|HT.tN xs.z xs.z f-HT.tN xs.z 0 lo,EL _ rfl]
noncomputable def l9:V->Bool
 | .dY=>true
 | .bl _=>true
 | .int _=>true
 | .str _=>true
 | _=>false
noncomputable def Nu:V->V->Bool
 | .dY,.dY=>true
 | .bl a,.bl b=>a==b
 | .bl a,.int b=>(if a then 1 else 0)==b
 | .int a,.bl b=>a==(if b then 1 else 0)
 | .int a,.int b=>a==b
 | .str a,.str b=>a==b
 | _,_=>false
theorem SS(e:RelV y u)(c:RelV x v)(f:l9 y=true)(d:l9 x=true):SeqAt.EqAt A s u v<|Nu y x:=by
 cases y with
 | dY=>
  cases e;cases x with
  | dY=>cases c;exact SeqAt.EqAt.same _
  | bl b=>cases c;exact SeqAt.EqAt.none_bool b
  | int b=>obtain⟨t,rfl⟩:=c;exact SeqAt.EqAt.none_int b t
  | str b=>obtain⟨t,rfl⟩:=c;exact SeqAt.EqAt.none_str b t
  | _=>exact absurd (show false=true from d) Bj
 | bl a=>
  cases e;cases x with
  | dY=>cases c;exact SeqAt.EqAt.bool_none a
  | bl b=>cases c;exact SeqAt.EqAt.bool_bool a b
  | int b=>obtain⟨t,rfl⟩:=c;exact SeqAt.EqAt.bool_int a b t
  | str b=>obtain⟨t,rfl⟩:=c;exact SeqAt.EqAt.bool_str a b t
  | _=>exact absurd (show false=true from d) Bj
 | int a=>
  let#[t',rfl]:=e;cases x with
  | dY=>cases c;exact SeqAt.EqAt.int_none a t'
  | bl b=>cases c;exact SeqAt.EqAt.int_bool a t' b
  | int b=>obtain⟨t,rfl⟩:=c;exact SeqAt.EqAt.int_int a t' b t
  | str b=>obtain⟨t,rfl⟩:=c;exact SeqAt.EqAt.int_str a t' b t
  | _=>exact absurd (show false=true from d) Bj
 | str a=>
  let#[t',rfl]:=e;cases x with
  | dY=>cases c;exact SeqAt.EqAt.str_none a t'
  | bl b=>cases c;exact SeqAt.EqAt.str_bool a t' b
  | int b=>obtain⟨t,rfl⟩:=c;exact SeqAt.EqAt.str_int a t' b t
  | str b=>obtain⟨t,rfl⟩:=c;exact SeqAt.EqAt.str_str a t' b t
  | _=>exact absurd (show false=true from d) Bj
 | _=>exact absurd (show false=true from f) Bj
def BH(x:V)(u:Value):Bool:=match u with
 | .none=>Nu .dY x
 | .bool b=>Nu (.bl b) x
 | .int i _=>Nu (.int i) x
 | .str z _=>Nu (.str z) x
 | _=>false
theorem Jp(r:RelV y u)(f:l9 y=true):BH x u=Nu y x:=by
 cases y with
 | dY=>cases r;rfl
 | bl b=>cases r;rfl
 | int i=>obtain⟨t,rfl⟩:=r;rfl
 | str z=>obtain⟨t,rfl⟩:=r;rfl
 | _=>exact absurd (show false=true from f) Bj
theorem mE{x:V}:∀{xs:List V} {us:bc},Vals xs us->xs.all l9=true->us.any (BH x)=xs.any λy=>Nu y x
 | _,_,.nil,_=>rfl
 | y::xs,u::us,.cons r t,f=>by rw[all_cons,KZ]at f;rw[IF,IF,Jp r f.1,mE t f.2]
theorem i8{A:Around}{s:Shared}{x:V}{v:Value}(e:RelV x v)(d:l9 x=true):∀{xs:List V} {us:bc},Vals xs us->xs.all l9=true->∀u∈us,SeqAt.EqAt A s u v (BH x u)
 | _,_,.nil,_=>λu c=>by cases c
 | y::xs,u::us,.cons r t,f=>λu' c=>by rw[all_cons,KZ]at f;ext(rfl|c:AX.mp c);rw[Jp r f.1];exact SS r e f.1 d;exact i8 e d t f.2 u' c
def XF(x:V)(xs:List V):Bool:=xs.any λy=>Nu y x
def Vn(K:bb)(neg:Bool):R2:=λx y H Q=>∃p xs,y=.ref p/\(bH K H p xs\/mF K H p xs)/\l9 x=true/\xs.all l9=true/\Q (.bl<|if neg then !XF x xs else XF x xs) H
theorem zbg:oJ X (compareOp .In)<|Vn X.K false:=by ext pins s σ H x y v u Q I g i h;let#[p,xs,rfl,d,f,fs,q]:=h;cases i;ext(d|d:d);let#[c,r,pl,hz]:=I.list d;refine SeqAt.in_listAt (BH x) pl.isList (λw e=>i8 g f r fs w<|~~~e) #[.bl _,H,I,rfl,?_];rw[show c.toArray.any (BH x)=c.any (BH x)by simp,mE r fs];exact q;let#[c,r,pl,hz]:=I.tuple d;refine SeqAt.in_tupleAt (BH x) pl (λw e=>i8 g f r fs w<|~~~e) #[.bl _,H,I,rfl,?_];erw[show c.toArray.any (BH x)=c.any (BH x)by simp,mE r fs,q]
theorem wa:oJ X (compareOp .NotIn)<|Vn X.K true:=by ext pins s σ H x y v u Q I g i h;let#[p,xs,rfl,d,f,fs,q]:=h;cases i;ext(d|d:d);let#[c,r,pl,hz]:=I.list d;refine SeqAt.notIn_listAt (BH x) pl.isList (λw e=>i8 g f r fs w<|~~~e) #[.bl _,H,I,rfl,?_];rw[show c.toArray.any (BH x)=c.any (BH x)by simp,mE r fs];exact q;let#[c,r,pl,hz]:=I.tuple d;refine SeqAt.notIn_tupleAt (BH x) pl (λw e=>i8 g f r fs w<|~~~e) #[.bl _,H,I,rfl,?_];erw[show c.toArray.any (BH x)=c.any (BH x)by simp,mE r fs,q]
def Ye(K:bb)(T:String)(x:V)(H:Hp):Prop:=match x with
 | .str _=>T = "str"
 | .int _=>T = "int"
 | .ref p=>(T = "list"/\∃xs,bH K H p xs)\/(T = "tuple"/\∃o,K.lookup p=some o/\o.cls=.type "tuple"/\o.dict=none)\/
   (T = "dict"/\((∃kvs,H p=some (.dK kvs))\/∃kvs,H p=some (.dT kvs)))\/(T = "set"/\∃S n,H p=some (.set S n))
 | _=>False
theorem Aw{σ:St}{s:Shared}{T:String}(I:Inv X pins σ H s)(r:RelV x v)(f:Ye X.K T x H) :
  s.TypeIs v T/\∀a,v=.ref a->∃h,s.heap.get? a=some h/\h.dict=none:=by
 cases x with
 | str z=>
  let#[t,rfl]:=r;cases(show T = "str" from f);exact#[typeIs_str s z t,λ_ e=>nomatch e]
 | int i=>
  let#[t,rfl]:=r;cases(show T = "int" from f);exact#[typeIs_int s i t,λ_ e=>nomatch e]
 | ref p=>
  cases r;ext(⟨rfl,xs,k⟩|⟨rfl,o,d,j,g⟩|⟨rfl,d⟩|⟨rfl,S,n,d⟩:f);let#[l,_,pl,_]:=I.list k;refine#[pl.isList.typeIs,λa e=>?_];cases e;let#[o,n,e,c,g,_]:=pl;exact#[o,e,g];refine#[#[o,I.zA p o d,j],λa e=>?_];cases e;exact#[o,I.zA _ o d,g];let z:∃o,s.heap.get? p=some o/\o.ExactDict:=by ext(⟨kvs,d⟩|⟨kvs,d⟩:d);let#[_,_,_,_,o,_,_,e,ex,_]:=I.bu p _ d;exact#[o,e,ex];let#[_,_,_,_,o,_,_,e,ex,_]:=I.bu p _ d;exact#[o,e,ex]
  let#[o,e,ex]:=z;refine#[#[o,e,ex.1],λa e2=>?_];cases e2;exact#[o,e,ex.2.1];let#[o,_,_,_,e,ex,_]:=I.bu p _ d;refine#[#[o,e,ex.1],λa e2=>?_];cases e2;exact#[o,e,ex.2.1]
 | _=>exact False.elim f
noncomputable def QP(K:bb)(T:String)(r:V->List V->Hp->VK->Prop)(d:TE):TE:=λσ H Q=>d σ H λx c=>Ye K T x c/\r x [] c Q
noncomputable def U1(K:bb)(T:String)(r:V->List V->Hp->VK->Prop)(e:TE)(t:TA):TE:=λσ H Q=>e σ H λx c=>Ye K T x c/\t σ c λxs d=>r x xs d Q
variable {o e:Expr} {es:List Expr} {to:TE} {t:TA} {name:Str} {apos aC:Pos} {T id:String} {r:V->List V->Hp->VK->Prop}
theorem HN(g:PlainAttrs T)(slot:Slot T name id)(q:typeOf (.builtin id)=pure (.type "method_descriptor"))(j:MtR X id r)(ho:PE X o to)(i:E! (attributeBase o name X.env (eval o X.env)=eval o X.env))(u:E! ((apos.endLine==aC.line)=true)):PE X (.Call (.Attribute o name apos) [] [] aC)<|QP X.K T r to:=by ext pins s σ H Q I h;refine wpAny_Call_method0_late i u<|b9 (ho pins s σ H _ I h) λv m ⟨x,n,d,c,l,k⟩=>?_;let#[p,f]:=Aw d c l;exact#[T,id,g,slot,q,p,f,Ma rfl<|PySem.evalArgs_none<|j pins m σ n x [] v [] Q d c .nil k]
theorem CS(i:PlainAttrs T)(slot:Slot T name id)(F:typeOf (.builtin id)=pure (.type "method_descriptor"))(y:MtR X id r)(ho:PE X o to)(q:PA X (e::es) t)(j:E! (attributeBase o name X.env (eval o X.env)=eval o X.env))(w:E! (((backTo aC<|starEach (e::es) X.env).all (λx=>!x.1)&&(backToKw aC<|keywordEach [] X.env).all (λx=>x.1.isSome)
  &&decide ((e::es).z+([]:List Keyword).z+(if([]:List Keyword).isEmpty then 0 else 1)<30))=true))(n:E! ((apos.endLine==aC.line)=true))(D:E! BU X e es)(p:E! ((backTo aC<|starEach es X.env).any (·.1)=false)) :
  PE X (.Call (.Attribute o name apos) (e::es) [] aC) (U1 X.K T r to t):=by
 ext pins s σ H Q I h;refine wpAny_Call_method_late j w n rfl<|b9 (ho pins s σ H _ I h) λv B ⟨x,E,f,c,A,k⟩=>?_;let#[m,g]:=Aw f c A;refine#[T,id,i,slot,F,m,g,?_];let d:=q aC pins B σ E _ f k;rw[D]at d ⊢;refine Ma (by show(false || (backTo aC<|starEach es X.env).any (·.1))=false;rw[p]<;>rfl)<|Calls.evalArgs_plain ?_;exact b9 d λus s2 ⟨vs,C,l,z,u⟩=>y pins s2 σ C x vs v us Q l c z u
end
def W9(X:Cx)(id:String)(r:V->List V->Hp->VK->Prop):Prop:=
 ∀(pins:bq) (s:Shared) (σ:St) (H:Hp) (x:V) (xs:List V) (v:Value) (us:bc) (Q:VK),Inv X pins σ H s->RelV x v->Vals xs us->r x xs H Q->
  wpAny (model X.prog X.w) X.A (call (.builtin id)<|v::us) (EP X pins σ Q) X.xe s
theorem Vals.one:∀{x:V} {us:bc},Vals [x] us->∃u,us=[u]/\RelV x u
 | _,_,.cons r .nil=>#[_,rfl,r]
theorem Vals.zero:∀{us:bc},Vals [] us->us=[]
 | _,.nil=>rfl
theorem Vals.dropLast(h:Vals xs us):Vals xs.dropLast us.dropLast:=by
 induction h with
 | nil=>exact .nil
 | cons r t a=>
  cases t with
  | nil=>exact .nil
  | cons q t'=>exact .cons r a
theorem Vals.reverse(h:Vals xs us):Vals xs.reverse us.reverse:=by
 induction h with
 | nil=>exact .nil
 | cons r t a=>rw[reverse_cons,reverse_cons];exact Vals.append a<|.cons r .nil
theorem zaB{α:Type}(l:List α):l.eraseIdx (l.z-1)=l.dropLast:=by
 induction l with
 | nil=>rfl
 | cons a r c=>
  cases r with
  | nil=>rfl
  | cons b r=>
   let e:(a::b::r).z-1=((b::r).z-1)+1:=(by let f:(a::b::r).z=r.z+2:=rfl;let d:(b::r).z=r.z+1:=rfl;lia);rw[e,eraseIdx_cons_succ,c];all_goals rfl
section
variable {X:Cx} {pins:bq} {σ:St} {H:Hp} {s:Shared} {l b:Addr} {xs ys zs:List V}
theorem Inv.MM{c a:bc}{n:Nat}{f:Array Value->Array Value}{t':Nat}(I:Inv X pins σ H s)(g:H l=some (.lst xs))(e:s.heap.get? l=some { cls:=.type "list",data:=.seq c.toArray n })(d:f c.toArray=a.toArray)(h:Vals ys a)(hz:ys.z<=sizeLine) :
  Inv X pins σ (upd H l<|.lst ys) { s with heap:=s.heap.update l<|Obj.mapSeq f,toks:=t' }:=by
 let q:=PySem.IsL.update e f;rw[d]at q;refine I.write (g>>trivial) (.inl rfl) (λk u j i=>(HE s.heap (Obj.mapSeq f)<|A6 j).trans i) #[_,q] ?_;exact#[hz,a,_,h,q]
theorem Inv.YO(I:Inv X pins σ H s)(a:Vals ys aJ)(hz:ys.z<=sizeLine) :
  Inv X pins σ (upd H s.c<|.lst ys) { s with heap:=s.heap.push { cls:=.type "list",data:=.seq aJ.toArray },toks:=t' }:=
 I.laid (λ_ _ q=>BN _ q) (Xx _) #[hz,aJ,0,a,EL _ rfl]
theorem Inv.fresh(I:Inv X pins σ H s):H s.c=none:=I.bu.fresh<|Xx _
theorem Inv.ze(I:Inv X pins σ H s)(c:H l=some (.lst xs)):xs.z<=sizeLine/\∃(a:bc) (n:Nat),Vals xs a/\xs.z=a.z/\s.heap.get? l=some { cls:=.type "list",data:=.seq a.toArray n }:=by let#[z,a,n,r,e]:=I.bu l _ c;exact#[z,a,n,r,r.z,e]
theorem zdq(h:n<=sizeLine):Builtin.List.listTooLong n=false:=by unfold Builtin.List.listTooLong;exact BQ ()
end
def vU:V->List V->Hp->VK->Prop:=λx vs H Q=>∃l xs y,x=.ref l/\vs=[y]/\H l=some (.lst xs)/\xs.z<sizeLine/\Q .dY (upd H l<|.lst<|xs++[y])
theorem nh:W9 X "list.append" vU:=by ext pins s σ H x vs v us Q I d rv h;let#[l,xs,y,rfl,rfl,a,hz,q]:=h;cases d;let#[u,rfl,c]:=rv.one;let#[z,b,n,r,f,e]:=I.ze a;refine HK F.slot_list_append #[_,e,rfl] F.entry_list_append (F.args_list_append_2 _ _) (PySem.list_append l b.toArray n u<|by rw[Cj];lia) #[e,?_];refine#[.dY,_,I.MM a e A! (r.append<|.cons c .nil) ?_,rfl,q];rw[Ac,HA];lia
def CG:V->List V->Hp->VK->Prop:=λx vs H Q=>∃l b xs a,x=.ref l/\vs=[.ref b]/\H l=some (.lst xs)/\H b=some (.lst a)/\xs.z+a.z<=sizeLine/\Q .dY (upd H l<|.lst<|xs++a)
theorem zqb:W9 X "list.extend" CG:=by
 ext pins s σ H x vs v us Q I j rv h;let#[l,b,xs,o,rfl,rfl,d,i,hz,q]:=h;cases j;let#[u,rfl,f]:=rv.one;cases f;let#[z,a,n,r,t,e]:=I.ze d;let#[w,c,k,m,p,e2]:=I.ze i;let hsz:a.toArray.size+c.toArray.size<=sizeLine:=by rw[Cj,Cj];lia
 let g:¬(!a.toArray.isEmpty&&Builtin.List.listTooLong (a.toArray.size+c.toArray.size))=true:=zdq hsz>>Bool.and_false>>Bj
 refine HK F.slot_list_extend #[_,e,rfl] F.entry_list_extend (F.args_list_extend_2 _ _)
  (AutoSeq1.list_extend_list_list_0 l a.toArray n b c.toArray k g (by rw[Cj];lia) ()) #[e,e2,?_]
 refine#[.dY,_,I.MM d e A! (r.append m) ?_,rfl,q];rw[Ac];lia
def Vm:V->List V->Hp->VK->Prop:=λx vs H Q=>∃l xs y,x=.ref l/\vs=[]/\H l=some (.lst xs)/\xs[xs.z-1]?=some y/\Q y (upd H l<|.lst xs.dropLast)
theorem RT:W9 X "list.pop" Vm:=by
 ext pins s σ H x vs v us Q I j rv h;let#[l,xs,y,rfl,rfl,b,i,q]:=h;cases j;let k:=rv.zero;subst k;let#[z,a,n,r,f,e]:=I.ze b;let#[u,g,d]:=r.get i;let c:a.toArray[a.toArray.size-1]?=some u:=by show a.toArray[a.z-1]?=some u;erw[<-MS,<-f,g]
 refine HK F.slot_list_pop #[_,e,rfl] F.entry_list_pop (F.args_list_pop_1 _) (MeetsSeq.list_pop_last l a.toArray n u c<|by rw[Cj];lia) #[e,?_];refine#[y,_,I.MM b e ?_ r.dropLast ?_,d,q];rw[Cj,eraseIdxIfInBounds_toArray,zaB];rw[length_dropLast];lia
def Vo:R2:=λx y H Q=>∃l b xs a,x=.ref l/\y=.ref b/\H l=some (.lst xs)/\H b=some (.lst a)/\xs.z+a.z<=sizeLine/\∀p,H p=none->Q (.ref p) (upd H p<|.lst<|xs++a)
theorem HX:oJ X (binaryOp .Add) Vo:=by
 ext pins s σ H x y v u Q I j f h;let#[l,b,xs,p,rfl,rfl,d,i,hz,q]:=h;cases j;cases f;let#[z,a,n,r,o,e]:=I.ze d;let#[w,c,m,g,t,e2]:=I.ze i;refine PySem.P.add_list e e2 ?_ (by rw[Cj,Cj];lia);let k:a.toArray++c.toArray=(a++c).toArray:=by simp
 erw[k,#[.ref _,_,I.YO (r.append g) (by rw[Ac];lia),rfl,q _ I.fresh]]
section
variable {κ:Type} [DecidableEq κ]
noncomputable def g8(kvs:List<|κ×V)(k:κ):Option V:=(kvs.find? λkv=>decide<|kv.1=k).map (·.2)
noncomputable def cw(kvs:List<|κ×V)(k:κ)(v:V):List<|κ×V:=
 if(kvs.any λkv=>decide<|kv.1=k)=true then kvs.map (λkv=>if kv.1=k then(kv.1,v)else kv)else kvs++[(k,v)]
theorem pK{p:κ×V}{k:κ}(e:p.1=k):g8 (p::r) k=some p.2:=by simp[g8,Ff,e]
theorem pL{p:κ×V}{k:κ}(e:¬p.1=k):g8 (p::r) k=g8 r k:=by simp[g8,Ff,e]
theorem xY(k:κ):∀kvs:List (κ×V),(kvs.any λkv=>decide<|kv.1=k)=(g8 kvs k).isSome
 | []=>rfl
 | p::r=>by rw[IF];ext(e:p.1=k);simp[pK e,BG e,Bool.true_or,Option.isSome_some];erw[pL e,BQ e,Bool.false_or,xY k r]
theorem eZ(kvs:List<|κ×V)(k:κ)(v:V):(cw kvs k v).z<=kvs.z+1:=by unfold cw;split;rw[ZO];lia;rw[Ac,Bq,L5];lia
theorem nU.nu(r:nU o u):o.isSome=u.isSome:=by
 cases o with
 | none=>cases u with
  | none=>rfl
  | some _=>exact(show False from r).elim
 | some _=>cases u with
  | none=>exact(show False from r).elim
  | some _=>rfl
theorem nU.getD(r:nU o u)(rd:RelV d d'):RelV (o.getD d)<|u.getD d':=by
 cases o with
 | none=>cases u with
  | none=>exact rd
  | some _=>exact(show False from r).elim
 | some _=>cases u with
  | none=>exact(show False from r).elim
  | some _=>exact r
theorem KV.val(r:KV kvs vs)(k:κ):nU (g8 kvs k)<|valueAt vs k:=by
 unfold KV at r;induction r with
 | nil=>exact True.intro
 | @cons p q i a h t g=>
  let#[d,f]:=h;ext(e:p.1=k);let c:=d.symm.trans e;let b:valueAt (q::a) k=some q.2:=by simp[valueAt,Ff,c]
  rw[pK e,b];exact f;let c:¬q.1=k:=λz=>e<|d.trans z;let b:valueAt (q::a) k=valueAt a k:=by simp[valueAt,Ff,c]
  erw[pL e,b,g]
theorem KV.any(r:KV kvs vs)(k:κ):(kvs.any λkv=>decide<|kv.1=k)=vs.any λkv=>decide<|kv.1=k:=by
 unfold KV at r;induction r with
 | nil=>rfl
 | cons h t a=>rw[IF,IF,a,h.1]
theorem KV.Q5(r:KV kvs vs)(k:κ)(d:RelV y u) :
  KV (kvs.map λkv=>if kv.1=k then(kv.1,y)else kv) (vs.map λkv=>if kv.1=k then(kv.1,u)else kv):=by
 unfold KV at r ⊢;induction r with
 | nil=>exact .nil
 | @cons p q g f h t c=>
  rw[Ap,Ap];refine .cons ?_ c;let#[a,b]:=h;ext(e:p.1=k);rw[Al e,Al<|a.symm.trans e];exact#[a,d];erw[Ak e,Ak<|λz=>e<|a.trans z,#[a,b]]
theorem KV.put(r:KV kvs vs)(k:κ)(a:RelV y u):KV (cw kvs k y)<|stored vs k u:=by unfold cw stored;rw[r.any k];ext(e:(vs.any λkv=>decide<|kv.1=k)=true);rw[Al e,Al e];exact r.Q5 k a;erw[Ak e,Ak e,Paired.snoc r #[rfl,a]]
theorem KV.length{kvs:List<|κ×V}{vs:List<|κ×Value}(r:KV kvs vs):kvs.z=vs.z:=Bm r
end
theorem qS(r:RelV (kV k) u):(a7 P w).is k u=true:=by
 cases k with
 | inl i=>obtain⟨t,e⟩:=(show ∃t,u=Value.int i t from r);subst e;exact zbd i t
 | inr x=>obtain⟨t,e⟩:=(show ∃t,u=Value.str x t from r);subst e;exact zbz x t
theorem tZ{P:Program}{w:World}:∀{ks:List Key} {us:bc},Vals (ks.map kV) us->ItemsAre (a7 P w) ks us
 | [],_,r=>by rw[map_nil]at r;cases r;exact .nil
 | k::ks,_,r=>by
  rw[Ap]at r;cases r with
  | cons h t=>exact .cons (qS h)<|tZ t
abbrev KT(H:Hp):List (List Key×V)->List (List Key×Addr×Value)->Prop:=Paired λp q=>p.1=q.1/\H q.2.1=some (.tup<|p.1.map kV)/\RelV p.2 q.2.2
theorem KT.val(r:KT H kvs xs)(k:List Key):nU (g8 kvs k)<|(atKey xs k).map (·.2):=by
 induction r with
 | nil=>exact True.intro
 | @cons p q i a h t g=>
  let#[d,_,f]:=h;ext(e:p.1=k);let c:=d.symm.trans e;let b:atKey (q::a) k=some q.2:=by simp[atKey,Ff,c]
  rw[pK e,b];exact f;let c:¬q.1=k:=λz=>e<|d.trans z;let b:atKey (q::a) k=atKey a k:=by simp[atKey,Ff,c]
  erw[pL e,b,g]
theorem KT.Q5(r:KT H kvs xs)(k:List Key)(f:RelV y u) :
  KT H (kvs.map λkv=>if kv.1=k then(kv.1,y)else kv) (xs.map<|putAt k u):=by
 induction r with
 | nil=>exact .nil
 | @cons p q i g h t d=>
  rw[Ap,Ap];refine .cons ?_ d;let#[a,b,c]:=h;unfold putAt;ext(e:p.1=k);rw[Al e,Al<|a.symm.trans e];exact#[a,b,f];erw[Ak e,Ak<|λz=>e<|a.trans z,#[a,b,c]]
theorem KT.put(r:KT H kvs xs)(k:List Key)(c:H b=some (.tup<|k.map kV))(a:RelV y u) :
  KT H (cw kvs k y) (storedH xs k b u):=by
 let e:(kvs.any λkv=>decide<|kv.1=k)=(atKey xs k).isSome:=by rw[xY,(r.val k).nu,Option.isSome_map]
 unfold cw storedH;rw[e];ext(q:(atKey xs k).isSome=true);rw[Al q,Al q];exact r.Q5 k a;erw[Ak q,Ak q,Paired.snoc r #[rfl,c,a]]
theorem KT.keeps(r:KT H kvs xs)(a:∀b ys,H b=some (.tup ys)->H' b=some (.tup ys)):KT H' kvs xs:=
 Paired.Il r λ_ _ z=>#[z.1,a _ _ z.2.1,z.2.2]
theorem OK(b:jS P w H h)(e:Rd H a u):aY P w H h a u:=e.ok b
theorem rL(b:jS P w H h)(e:Rd H a<|.dK kvs):kvs.z<=sizeLine/\(a==sysModules)=false/\∃vs,KV kvs vs/\h.DictOf (a7 P w) a vs:=
 show aY P w H h a (.dK kvs)from OK b e
theorem uD(b:jS P w H h)(e:H a=some (.dK kvs)):kvs.z<=sizeLine/\(a==sysModules)=false/\∃vs,KV kvs vs/\h.DictOf (a7 P w) a vs:=rL b<|.inl e
theorem qQ(d:jS P w H h)(e:H a=some (.tup<|ks.map kV)):(tupleKind<|a7 P w).is h ks a:=by let#[_,b,r,o,g,c,n,f]:=(show aY P w H h a (.tup<|ks.map kV)from d a _ e);exact#[o,b.toArray,n,g,c,f,~~~tZ r]
theorem uC(c:jS P w H h)(e:Rd H a<|.dT kvs):kvs.z<=sizeLine/\(a==sysModules)=false/\
  ∃xs,KT H kvs xs/\h.DictOfH (tupleKind<|a7 P w) a xs:=by
 let#[z,y,xs,r,o,u,k,n,g,i,j,f]:=(show aY P w H h a (.dT kvs)from OK c e);refine#[z,y,xs,r,o,u,k,n,g,i,j,λx b=>?_,f];let all:∀{l:List<|List Key×V} {m:List<|List Key×Addr×Value},KT H l m->∀x∈m,(tupleKind<|a7 P w).is h x.1 x.2.1:=by
  ext l m q;induction q with
  | nil=>intro x b;exact nomatch b
  | @cons p q v A d t s=>
   ext x b;ext(e|b:AX.mp b);subst e;exact qQ c (by erw[<-d.1,d.2.1]);exact s x b
 exact all r x b
theorem DG(b:jS P w H h)(e:H a=some (.dT kvs)):kvs.z<=sizeLine/\(a==sysModules)=false/\
  ∃xs,KT H kvs xs/\h.DictOfH (tupleKind<|a7 P w) a xs:=uC b<|.inl e
def Ag(H:Hp)(a:Addr)(y:V)(r:Option V):Prop:=
 (∃kvs k,Rd H a (.dK kvs)/\y=kV k/\r=g8 kvs k)\/∃kvs k b,Rd H a (.dT kvs)/\y=.ref b/\H b=some (.tup<|k.map kV)/\r=g8 kvs k
def TM(H:Hp)(a:Addr)(y v:V)(c:Hp):Prop:=
 (∃kvs k,H a=some (.dK kvs)/\y=kV k/\kvs.z<sizeLine/\c=upd H a (.dK<|cw kvs k v))\/
 ∃kvs k b,H a=some (.dT kvs)/\y=.ref b/\H b=some (.tup<|k.map kV)/\kvs.z<sizeLine/\c=upd H a (.dT<|cw kvs k v)
section
variable {X:Cx} {pins:bq} {σ:St} {H:Hp} {s:Shared} {a:Addr} {y v:V} {u r:Value} {o:Option V} {A:Around} {E:bo}
theorem Inv.big(I:Inv X pins σ H s):sysModules<s.c:=by exact IH A?<|(I.mod.glob.keeps I.bk).lt
theorem zbD(t:A.units+1<cLine)(I:Inv X pins σ H s)(g:Ag H a y<|some v)(m:RelV y u)(h:∀w' n,Inv X pins σ H n->RelV v w'->Q w' n) :
  wpAny (model X.prog X.w) A (getItem (.ref a) u) Q E s:=by
 ext(⟨kvs,k,e,f,l⟩|⟨kvs,k,b,e,f,x,l⟩:g);subst f;let#[z,B,vs,c,dd]:=rL I.bu e;let#[w',i,j]:=nU.some_of (l>>c.val k);exact wpAny_getItem_of (qS m) dd.mapOf i<|h w' _ (I.tok _) j;subst f;cases(show u=Value.ref b from m);let#[z,B,xs,c,dd]:=uC I.bu e;let#[w',i,j]:=nU.some_of (l>>c.val k);let#[p,q,d]:=GF.mp i;refine wpAny_getItem_heap (MN t) (qQ I.bu x) dd q ?_;erw[d,h w' _ (I.tok _) j]
theorem zq0(m:A.units+1<cLine)(I:Inv X pins σ H s)(g:Ag H a y o)(i:RelV y u)(h:∀j,Inv X pins σ H j->Q (.bool<|!o.isSome) j) :
  wpAny (model X.prog X.w) A (compareOp .NotIn u<|.ref a) Q E s:=by
 ext(⟨kvs,k,e,d,l⟩|⟨kvs,k,b,e,d,n,l⟩:g);subst d;let#[z,f,vs,c,dd]:=rL I.bu e;refine wpAny_notIn_of (qS i) f dd.mapOf ?_;rw[<-(c.val k).nu,<-l];exact h _<|I.tok _;subst d;cases(show u=Value.ref b from i);let#[z,f,xs,c,dd]:=uC I.bu e;refine wpAny_notIn_heap (MN m) (qQ I.bu n) f dd ?_;let q:=(c.val k).nu;rw[Option.isSome_map]at q;erw[<-q,<-l,h _<|I.tok _]
theorem pD(I:Inv X pins σ H s)(e:W8<|H a)(d:Heap.SameBut a s.heap h')(f:∃q,h'.get? a=some q)(c:aY X.prog X.w (upd H a ob) h' a ob) :
  Inv X pins σ (upd H a ob) { s with heap:=h',toks:=t' }:=
 I.write e (.inl rfl) (λb q g z=>(d.2 b g).trans z) f c
theorem BL(z:kvs.z<=sizeLine)(c:(a==sysModules)=false)(b:KV kvs vs)(dd:h'.DictOf (a7 P w) a vs) :
  aY P w H' h' a (.dK kvs):=#[z,c,vs,b,dd]
theorem zbQ(L:A.units+1<cLine)(I:Inv X pins σ H s)(g:TM H a y v H')(C:RelV y u)(rv:RelV v r)(h:∀D,Inv X pins σ H' D->Q Unit.unit D) :
  wpAny (model X.prog X.w) A (setItem (.ref a) u r) Q E s:=by
 ext(⟨kvs,k,e,j,l,m⟩|⟨kvs,k,b,e,j,B,l,m⟩:g);subst j m;let#[z,t,vs,d,dd]:=uD I.bu e;let hz:vs.z<=sizeLine:=by erw[<-d.z,z]
 let n:(cw kvs k v).z<=sizeLine:=by let:=eZ kvs k v;lia
 refine wpAny_setItem_pairs (qS C) dd λh' f p=>h _ ?_;let N:∃q,h'.get? a=some q:=let ⟨q,_,_,i,_⟩:=f;#[q,i]
 exact pD I (by erw[e,True.intro]) p N<|BL n t (d.put k rv) f;subst j m;cases(show u=Value.ref b from C);let#[z,t,xs,d,dd]:=DG I.bu e;let hz:xs.z<=sizeLine:=by erw[<-Bm d,z]
 let n:(cw kvs k v).z<=sizeLine:=by let:=eZ kvs k v;lia
 refine wpAny_setItem_heap (MN L) (qQ I.bu B) dd λh' f p=>h _ ?_;let#[q,O,M,i,G,J,K,_,F]:=f;refine pD I (by erw[e,True.intro]) p #[q,i] #[n,t,_,(d.put k B rv).keeps λc ys x=>?_,q,O,M,i,G,J,K,F];erw[aB (by ext e;subst e;rw[x]at e;exact (λz=>nomatch z)<|BV e),x]
end
section
variable {X:Cx} {pins:bq} {σ:St} {H:Hp} {s:Shared} {a:Addr} {kvs:List (Key×V)} {k:Key} {u:Value} {A:Around} {E:bo}
theorem WS(I:Inv X pins σ H s)(e:Rd H a<|.dK kvs)(h:∀t c,Inv X pins σ H c->Q (.int kvs.z t) c):wpAny (model X.prog X.w) A (call (.builtin "len") [.ref a]) Q E s:=by let#[z,d,vs,b,dd]:=rL I.bu e;refine call_len_dict d dd (by rw[<-b.z];rw[FN]at z;lia) ?_;erw[<-b.z,h _ _<|I.tok _]
end
def TJ(i:Expr):Prop:=∀b a,subscripted i false b a=operate [b,a] (getItem b a)
theorem zey{A:Around}{s:Shared}{env:Env}{pos:Pos}{T id:String}(j:typeLookup (.type T) "__getitem__"=pure (some<|.builtin id))(k:TJ slice)(h:wpAny (model prog w) A (eval value env) (λo d=>wpAny (model prog w) A (eval slice env) (λi a=>a.TypeIs o T/\wpAny (model prog w) A (getItem o i) Q E a) E d) E s) :
  wpAny (model prog w) A (eval (.Subscript value slice pos) env) Q E s:=by
 refine Subscript_<|EW h (λo d h₁=>EW h₁ (λi a b=>?_) λ_ _ x=>x) λ_ _ x=>x;let#[g,b]:=b;unfold subscriptTail;refine UA ?_;rw[getitemInPython_of_ne g.not_modules];refine UA<|KP g j ?_;let e:wpAny (model prog w) A (subscripted slice false o i) (λr c=>wpAny (model prog w) A (letTemporaryGo value o r >>= λ_=>pure r) Q E c) E a:=by erw[k o i,wpAny_operating<|EW b (λr c f=>UA<|wpAny_letTemporaryGo<|A8 f) λ_ _ x=>x]
 first
  | exact A8<|UA e
  | exact UA<|A8<|UA e
  | exact UA e
theorem z6{σ:St}{s:Shared}{o:Option V}(I:Inv X pins σ H s)(g:Ag H a y o):s.TypeIs (.ref a) "dict":=by ext(⟨kvs,k,e,_,_⟩|⟨kvs,k,b,e,_,_,_⟩:g);let#[_,_,vs,_,dd]:=rL I.bu e;exact dd.typeIs;let#[_,_,xs,_,dd]:=uC I.bu e;exact dd.typeIs
def Oz(d c:TE):TE:=λσ H Q=>d σ H λx e=>c σ e λy b=>∃a v,x=.ref a/\Ag b a y (some v)/\Q v b
def zaU(c d:TE):TE:=λσ H Q=>c σ H λy e=>d σ e λx b=>∃a o,x=.ref a/\Ag b a y o/\Q (.bl<|!o.isSome) b
def OD(f e c:TE):TS:=λD σ H=>c σ H λv g=>f σ g λx d=>e σ d λy h=>∃a b,x=.ref a/\TM h a y v b/\D.nx σ b
theorem zcU(n:X.A.units+1<cLine)(ho:PE X o td)(l:PE X i ty)(e:PE X value tv)(C:swapsWith value (some<|.Subscript o i pos') pos.line X.env=pure false) :
  PS X (.Assign [.Subscript o i pos'] value pos) (OD td ty tv):=by
 ext pins s σ H D I h;refine wpAny_Assign_Subscript (b9 (e pins s σ H _ I h) λr w ⟨v,B,p,rv,c⟩=>b9 (ho pins w σ B _ p c) λu s2 ⟨x,t,d,j,k⟩=>b9 (l pins s2 σ t _ d k) λJ E ⟨y,F,z,q,a,m,ex,g,f⟩=>?_) C;subst ex;obtain rfl:u=Value.ref a:=j;exact zbQ n z g q rv λG b=>#[σ,m,b,f]
def zcn:TE:=λ_ H Q=>∀p,H p=none->Q (.ref p) (upd H p<|.dT [])
theorem zea:PE X (.Dict [] [] pos) zcn:=λpins s σ H Q I h=>
 wpAny_Dict_empty #[.ref s.c,_,I.laid (o:=.dT []) (t':=s.toks) (λ_ _ q=>BN _ q) (Xx _)<|#[Bv _,LR.mpr<|A6<|D7 I.big,[],.nil,_,#[],0,EL _ rfl,#[rfl,rfl,rfl],rfl,rfl,nodup_nil],rfl,h _<|I.bu.fresh<|Xx _]
def AB:List (TE×TE)->St->Hp->(List (V×V)->Hp->Prop)->Prop
 | [],_,H,Q=>Q [] H
 | (tk,tv)::r,σ,H,Q=>tk σ H λx d=>tv σ d λy b=>AB r σ b λa c=>Q ((x,y)::a) c
abbrev VV:List (V×V)->List (Value×Value)->Prop:=Paired λp q=>RelV p.1 q.1/\RelV p.2 q.2
def X7(X:Cx)(pos:Pos)(keys:List<|Option Expr)(values:List Expr)(d:List<|TE×TE):Prop:=
 ∀(pins:bq) (s:Shared) (σ:St) (H:Hp) (Q:List (V×V)->Hp->Prop),Inv X pins σ H s->AB d σ H Q->
  wpAny (model X.prog X.w) X.A (evalPairs<|pairTrees keys values X.env pos) (λvs c=>∃b a,Inv X pins σ a c/\VV b vs/\Q b a) X.xe s
theorem zq2:X7 X pos [] [] []:=λpins s σ H Q I h=>pairTrees_nil_walk #[[],H,I,.nil,h]
theorem zbY(b:PE X k tk)(q:PE X v tv)(p:X7 X pos ks vs Lz) :
  X7 X pos (some k::ks) (v::vs) ((tk,tv)::Lz):=λpins s σ H Q I h=>
 pairTrees_cons_walk (b9 (b pins s σ H _ I h) λu l ⟨x,o,e,t,g⟩=>b9 (q pins l σ o _ e g) λA s2 ⟨y,j,m,i,c⟩=>
  b9 (p pins s2 σ j _ m c) λz w ⟨d,f,n,a,r⟩=>#[(x,y)::d,f,n,.cons #[t,i] a,r])
def qD(kvs more:List<|Key×V):List<|Key×V:=more.foldl (λa kv=>cw a kv.1 kv.2) kvs
theorem KV.merge:∀{more:List<|Key×V} {a:List<|Key×Value} {kvs:List<|Key×V} {vs:List<|Key×Value},KV more a->KV kvs vs->KV (qD kvs more) (merged vs a):=by
 ext more a kvs vs r;unfold KV at r;induction r generalizing kvs vs with
 | nil=>intro q;exact q
 | @cons p q d f h t c=>
  ext b;let e:KV (cw kvs p.1 p.2)<|stored vs q.1 q.2:=by erw[<-h.1,b.put p.1 h.2]
  exact c e
theorem jY:∀(more kvs:List<|Key×V),(qD kvs more).z<=kvs.z+more.z
 | [],kvs=>by show kvs.z<=kvs.z+0;lia
 | p::r,kvs=>by let b:=jY r<|cw kvs p.1 p.2;let a:=eZ kvs p.1 p.2;show(qD (cw kvs p.1 p.2) r).z<=_;rw[Bq];lia
theorem rQ{P:Program}{w:World}:∀{kvs:List<|Key×V} {e:List<|Value×Value},VV (kvs.map λkv=>(kV kv.1,kv.2)) e->∃d,Carries (a7 P w) e d/\KV kvs d
 | [],_,r=>by rw[map_nil]at r;cases r;exact#[[],True.intro,.nil]
 | p::kvs,_,r=>by
  rw[Ap]at r;cases r with
  | @cons a b g f h t=>
   let#[d,c,q]:=rQ t;let#[b1,b2]:=b;exact#[(p.1,b2)::d,#[qS h.1,rfl,c],.cons #[rfl,h.2] q]
def Oy(c:List<|TE×TE):TE:=λσ H Q=>∀p,H p=none->AB c σ (upd H p<|.dK []) λb a=>a p=some (.dK [])/\∃kvs:List (Key×V),b=kvs.map (λkv=>(kV kv.1,kv.2))/\kvs.z<=15/\Q (.ref p) (upd a p<|.dK<|qD [] kvs)
theorem zfc(h:X7 X pos keys values Lz)(i:keys.all (·.isSome)=true)(n:keys.z=values.z)(j:keys≠[])(b:keys.z<=15):PE X (.Dict keys values pos)<|Oy Lz:=by
 ext pins s σ H Q I q;let r:=I.laid (a:=s.c) (o:=.dK []) (h':=s.heap.push { cls:=.type "dict",data:=.dict #[] }) (t':=s.toks) (λ_ _ q=>BN _ q) (Xx _)<|#[Bv _,LR.mpr<|A6<|D7 I.big,[],.nil,Heap.DictOf.new s.heap];refine wpAny_Dict_walk (knd:=a7 X.prog X.w) i n j b<|b9 (h pins _ σ _ _ r<|q _<|I.bu.fresh<|Xx s.c) λE s2 ⟨C,D,g,d,e,kvs,t,B,m⟩=>?_;subst t;let#[A,c,p]:=rQ (P:=X.prog) (w:=X.w) d;let#[z,y,k,u,dd]:=uD g.bu e;cases u;refine#[A,c,dd,λh' f v=>#[.ref s.c,_,?_,rfl,m]];let hz:(qD [] kvs).z<=sizeLine:=by let l:=jY kvs [];rw[L5]at l;rw[FN];lia
 let x:∃q,h'.get? s.c=some q:=let ⟨q,_,_,hq,_⟩:=f;#[q,hq]
 exact pD g (by erw[e,True.intro]) v x<|BL hz y (p.merge .nil) f
structure M2(X:Cx)(o:Expr)(m:Str)(apos:Pos)(e f:Expr)(aC:Pos):Prop where
 base:attributeBase o m X.env (eval o X.env)=eval o X.env
 Us:((backTo aC<|starEach [e,f] X.env).all (λx=>!x.1)&&(backToKw aC<|keywordEach [] X.env).all (λx=>x.1.isSome)
 &&decide (([e,f]:List Expr).z+([]:List Keyword).z+(if([]:List Keyword).isEmpty then 0 else 1)<30))=true
 line:(apos.endLine==aC.line)=true
 trees:backTo aC (starEach [e,f] X.env)=[(false,eval e X.env),(false,eval f X.env)]
def IsD(H:Hp)(a:Addr):Prop:=(∃kvs,Rd H a<|.dK kvs)\/∃kvs,Rd H a<|.dT kvs
theorem R9{σ:St}{s:Shared}(I:Inv X pins σ H s)(d:IsD H a) :
  s.TypeIs (.ref a) "dict"/\(∀b,Value.ref a=.ref b->∃c,s.heap.get? b=some c/\c.dict=none)/\(a==sysModules)=false:=by
 ext(⟨kvs,e⟩|⟨kvs,e⟩:d);let#[_,g,vs,_,dd]:=rL I.bu e;refine#[dd.typeIs,λb q=>?_,g];cases q;let#[c,_,_,h,f,_]:=dd;exact#[c,h,f.2.1];let#[_,g,xs,_,dd]:=uC I.bu e;refine#[dd.typeIs,λb q=>?_,g];cases q;let#[c,_,_,h,f,_]:=dd;exact#[c,h,f.2.1]
section
variable {X:Cx} {pins:bq} {σ:St} {H:Hp} {s:Shared} {a:Addr} {y d:V} {u r:Value} {o:Option V} {A:Around} {E:bo}
theorem S8(n:A.units+1<cLine)(I:Inv X pins σ H s)(g:Ag H a y o)(j:RelV y u)(rd:RelV d r)(h:∀w' m,Inv X pins σ H m->RelV (o.getD d) w'->Q w' m) :
  wpAny (model X.prog X.w) A (call (.builtin "dict.get") [.ref a,u,r]) Q E s:=by
 ext(⟨kvs,k,e,f,l⟩|⟨kvs,k,b,e,f,p,l⟩:g);subst f;let#[z,i,vs,c,dd]:=rL I.bu e;refine call_meetsIn N6 dd.typeIs PySem.F.entry_dict_get (PySem.F.args_dict_get_3 _ _ _) (meets_dict_get_default (a7 X.prog X.w) a (qS j) i r) #[_,dd.mapOf,h _ _ (I.tok _) ?_];rw[l];exact(c.val k).getD rd;subst f;cases(show u=Value.ref b from j);let#[z,i,xs,c,dd]:=uC I.bu e;refine call_meetsIn N6 dd.typeIs PySem.F.entry_dict_get (PySem.F.args_dict_get_3 _ _ _) (meetsH_dict_get_default (tupleKind<|a7 X.prog X.w) a b i r) #[MN n,k,xs,qQ I.bu p,dd,h _ _ (I.tok _) ?_];erw[l,(c.val k).getD rd]
end
def GS(f e g:TE):TE:=λσ H Q=>f σ H λx b=>∃a,x=.ref a/\IsD b a/\e σ b λy d=>g σ d λz c=>∃o,Ag c a y o/\Q (o.getD z) c
theorem zdr(r:X.A.units+1<cLine)(ho:PE X o td)(D:PE X e ty)(E:PE X f tx)(m:M2 X o "get" apos e f aC):PE X (.Call (.Attribute o "get" apos) [e,f] [] aC)<|GS td ty tx:=by
 ext pins s σ H Q I h;refine wpAny_Call_method m.base m.Us m.line PySem.F.plainAttrs_dict N6 PySem.F.type_dict_get<|b9 (ho pins s σ H _ I h) λu w ⟨x,C,b,p,a,ex,d,j⟩=>?_;subst ex;obtain rfl:u=Value.ref a:=p;let#[l,t2,_]:=R9 b d;refine#[l,t2,?_];rw[m.trees];refine Ma rfl<|Calls.evalArgs_plain<|Ko<|b9 (D pins w σ C _ b j) λO s2 ⟨y,v,k,t,q⟩=>
  Ko<|b9 (E pins s2 σ v _ k q) λN K ⟨z,c,B,G,L,g,n⟩=>Lf ?_
 exact S8 r B g t G λw' M i J=>#[_,c,i,J,n]
end L2
namespace Att
open PySem PySem.W PySem.Calls PyProof.Rows
theorem oF:∀(c:cc) (vs:bc),WellAll P h vs (c.map WData.int)->IntsAre vs c:=by
 ext c;induction c with
 | nil=>
  ext vs w;rw[map_nil]at w;cases w;exact .nil
 | cons n c d=>
  ext vs w;rw[Ap]at w;cases w with
  | cons a b=>
   cases a;exact .cons _ _<|d _ b
theorem zaN{l:OpenLaw}{n:Nat}(u:l.most=some n){P:Params}{h:Heap}(g:l.row.toRowW.claim.pre args=true)(k:WellAll P h vals args) :
  ∃a vs b,vals=[Value.ref a]/\args=[WData.list<|b.map WData.int]/\h.get? a=some { cls:=.type "list",data:=.seq vs.toArray }/\IntsAre vs b/\b.z<=n:=by
 let f:l.pre.holds [] { args:=args }=true:=(pre_splitW g).2;let#[d,r,rfl,t,i]:=hasAllW_cons<|(pre_splitW g).1;obtain rfl:=hasAllW_nil i;let#[xs,rfl,o]:=hasW_list t;let#[b,rfl]:=items_int o;let hlen:b.z<=n:=by
  unfold OpenLaw.pre at f;let e:(WTm.not<|.lt (.lit<|.int (n:Int))<|.len<|.arg 0).holds [] { args:=[.list<|b.map .int] }=true:=by let e:=(holds_andW f).1;rwa[u]at e
  let c:=condW_of e<|w_not<|w_lt w_lit<|w_len_list<|w_arg rfl;rw[ZO]at c;refine Nat.le_of_not_lt λq=>?_;let p:(n:Int)<((b.z:Nat):Int):=();first
   | (rw[BG p]at c;exact absurd c A?)
   | (simp at c;lia)
 cases k with
 | cons s j=>
  cases j;cases s with
  | list ho m=>exact#[_,_,b,rfl,rfl,ho,oF b _ m,hlen]
theorem zcv(l:OpenLaw)(args:List WData):l.row.toRowW.claim.post args (.bool true) args=true:=
 postW_of
  (show WShape.has [] (.bool true) .bool=true by first|rfl|decide|simp[WShape.has,WShape.arms,WShape.armsAll])
  (show(WTm.eq .res<|.lit<|.bool true).value [] { args:=args,res:=some<|.bool true,after:=args }=some (.bool<|true==true)from w_eq_bool (w_res rfl) w_lit) rfl
theorem zar{l:OpenLaw}{n:Nat}{m:(Str->Option Value)->Heap->Prop}{d:DefRec}(K:l.most=some n)(z:d.params.defaults=[])(call:∀(w:World) (s₀ b:Shared) (mg i:bg) (fa:Addr) (o:Obj) (j e c:Value) (a:Addr) (vs:bc) (g:cc),
   Ground q loose [] m w s₀ mg i b.heap->YP w b.heap->
   b.heap.get? fa=some o->o.data=.func (docDef d.name d.params d.body d.scope j e c)->b.heap.CodeRec e d.name->mg d.name=fa.j->
   b.heap.get? a=some { cls:=.type "list",data:=.seq vs.toArray }->IntsAre vs g->g.z<=n->b.gens=#[]->
   codeAny (model l.prog w) callerA (.call (.ref fa) #[[.ref a],[]]) (λr h=>r=.ok (.ret<|.bool true)/\OldK b.heap h.heap/\h.os=b.os/\AllBare h.gens) b) :
  WalkO q loose m YP l.row.toRowW d [] (λf vs=>PySem.call f vs):=by
 ext w s₀ b mg i G Y fa o j e c I kV ho H D k E A args vals L C s y t J;obtain rfl:I=.none:=Dflts.none k z;obtain rfl:kV=.none:=Dflts.noKw k;let#[a,vs,g,rfl,rfl,v,hints,hlen]:=zaN K C t;refine enter_call<|codeAny_mono (call w s₀ b mg i fa o j e c a vs g G Y ho (fd_plain H) D E v hints hlen A) λr h B=>?_;let#[rfl,p,u,x]:=B;exact#[.inl #[.bool true,.bool true,[],rfl,λ_=>rfl,.bool true,zcv l _,λ_=>#[List.Pairwise.nil,λ_ F=>(nomatch F)]],p,u,x]
end Att
namespace L2
open PySem PySem.Spec PyProof.Rows
theorem mR:∀{vs:bc} {a:cc},IntsAre vs a->Vals a.f vs
 | _,_,.nil=>.nil
 | _,_,.cons n t h=>.cons #[t,rfl]<|mR h
def TF(H:Hp):Prop:=∀b,H b=none\/∃o xs,H b=some (.jA o<|.lst xs)
theorem zfG{P:Program}{w:World}{K:bb}{mg B:bg}{O:B4}{k:Nat}{fa a:Addr}{S:FuncData}{x:Str}{N:Sp}{c:Shared}{vs:bc}{i:cc}(E:K.In c.heap)(L:c.heap.Ns mainGlobals mg)(f:c.heap.Ns builtinsNs B)(C:∀x:Str,x≠ "__name__"->B x=bootBuiltins x)(Zt:c.heap.NoLimit)(Z:c.gens=#[])(p:c.heap.get? a=some { cls:=.type "list",data:=.seq vs.toArray })(R:IntsAre vs i)(Q:i.z<=sizeLine)(hr:Room k callerA)(F:∀base:Heap,K.In base->base.Ns mainGlobals mg->oK P w K mg base O k fa S [x] N)(Y:∀(s:Shared) (u:Value),BindsTo s S #[[u],[]] [(x,u)])(FX:∀H:Hp,TF H->bH K H a i.f->N [.ref a] H (λv _=>v=.bl true) λ_ _ _=>False)(U:∀H e g,O [] H c (λ_ _ _=>False) e g->False) :
  codeAny (model P w) callerA (.call (.ref fa) #[[.ref a],[]]) (λr g=>r=.ok (.ret<|.bool true)/\OldK c.heap g.heap/\g.os=c.os/\AllBare g.gens) c:=by
 let rv:=mR R;let core:∀H:Hp,TF H->bH K H a i.f->jS P w H c.heap->(∀b,H b≠none->b=a)->(H a≠none->K.lookup a=none)->
   codeAny (model P w) callerA (.call (.ref fa) #[[.ref a],[]]) (λr g=>r=.ok (.ret<|.bool true)/\OldK c.heap g.heap/\g.os=c.os/\AllBare g.gens) c:=by
  ext H I hS G J hK;let M:∀{b:Addr} {o:Obj},c.heap.get? b=some o->H b=none->(wJ c.heap H).get? b=some o:=λe n=>zeh e n;let T:∀{b:Addr} {o:Obj} {A:Array DictEntry} {t:Nat},c.heap.get? b=some o->o.data=.dict A t->H b=none:=λ{b o A t} e d=>by
   cases q:H b with
   | none=>rfl
   | some u=>
    let D:=J b (by rw[q];simp);subst D;rw[p]at e;cases e;let d':=d;cases d'
  let y:∀{b:Addr} {m:bg},c.heap.Ns b m->(wJ c.heap H).Ns b m:=λ{b m} ⟨o,A,t,e,d,r⟩=>#[o,A,t,M e<|T e d,d,r];let j:K.In<|wJ c.heap H:=λb o e=>M (E b o e) (by
   cases q:H b with
   | none=>rfl
   | some u=>
    let D:=J b (by rw[q];simp);subst D;rw[hK<|by rw[q];simp]at e;cases e)
  let X:NP P w K mg (wJ c.heap H) callerA [] c H:=#[rfl,#[j,y L,#[B,y f,C],let ⟨mc,h1,h2⟩:=Zt;#[mc,y h1,h2]],λb o e=>zeO e,Nat.le_of_eq<|PySem.W.hideAll_size _ _,trivial,λb f=>absurd (show b∈([]:bf)from f) A!,G,.of_eq Z];refine codeAny_mono ((F _ j<|y L).run callerA [] c H #[[.ref a],[]] [.ref a] [.ref a] _ _ hr X (Y c<|.ref a) (.cons rfl .nil)<|FX H I hS) λr g h=>?_;cases r with
  | error e=>exact(U H e g h).elim
  | ok fl=>
   cases fl with
   | next=>exact False.elim h
   | brk=>exact False.elim h
   | cont=>exact False.elim h
   | ret u=>
    let#[v,H',os,bare,un,Zp,r',q]:=h;let q':=q;subst q';obtain rfl:u=Value.bool true:=r';refine#[rfl,OldK.of_keep λb o e=>?_,os,bare];cases q:H b with
    | none=>exact un.keep b o e q (by ext z;exact absurd (show b∈([]:bf)from z) A!) A!
    | some u=>
     ext(z|⟨ob,xs,z⟩:I b);rw[q]at z;cases z;let#[e1,_]:=G b _ z;let#[e2,_]:=Zp b _<|un.sN b ob _ z;rw[e]at e1;cases e1;exact e2
 cases hk:K.lookup a with
 | some o=>
  let e:=E a o hk;rw[p]at e;cases e;refine core (λ_=>none) (λ_=>.inl rfl) (.inr #[_,vs.toArray,_,hk,rfl,rfl,rfl,Cj>>R.z>>Q,~~~rv]) (λb u z=>by let l:=z;cases l) (λb z=>absurd rfl z) λz=>absurd rfl z
 | none=>
  refine core (λb=>if b=a then some (.jA { cls:=.type "list",data:=.seq vs.toArray }<|.lst i.f)else none) (λb=>?_) (.inl<|.inr #[{ cls:=.type "list",data:=.seq vs.toArray },Al rfl]) (λb u z=>?_) (λb z=>?_) λ_=>hk;ext(f:b=a);exact .inr #[_,_,Al f];exact .inl<|Ak f;ext(f:b=a);let l:=(Al f).symm.trans z;cases l;subst f;exact#[p,ZO>>Q,vs,_,rv,p];let l:=(Ak f).symm.trans z;cases l;ext(f:b=a);exact f;exact absurd (Ak f) z
theorem zdT{l:PySem.W.OpenLaw}{n k:Nat}{q:Program}{loose:List Str}{E:(Str->Option Value)->Heap->Prop}{z:World->Heap->Prop}{d:DefRec}{K:Params->bb}{t:World->B4}{r:World->Sp}{x:Str}(S:l.most=some n)(j:n<=sizeLine)(I:d.params.defaults=[])(M:Room k callerA)(Q:∀(w:World) (h:Heap),z w h->(K w.params).In h)(F:∀(w:World) (mg:bg) (fa:Addr) (h:Heap),(K w.params).In h->h.Ns mainGlobals mg->mg d.name=fa.j->
   ∃p:FuncData,(∀(s:Shared) (u:Value),BindsTo s p #[[u],[]] [(x,u)])/\
    ∀base:Heap,(K w.params).In base->base.Ns mainGlobals mg->oK l.prog w (K w.params) mg base (t w) k fa p [x] (r w))(R:∀(w:World) (H:Hp) (a:Addr) (i:cc),i.z<=n->TF H->bH (K w.params) H a i.f->r w [.ref a] H (λv _=>v=.bl true) λ_ _ _=>False)(A:∀(w:World) (H:Hp) (s:Shared) (e:Value) (m:Shared),t w [] H s (λ_ _ _=>False) e m->False) :
  PySem.W.WalkO q loose E z l.row.toRowW d [] (λf vs=>PySem.call f vs):=by
 refine Att.zar S I λw s₀ c mg U fa o pm Z J a vs i G Y ho hd X O C hints hlen L=>?_;let y:=Q w _ Y;let#[p,D,P]:=F w mg fa _ y G.T.g O;exact zfG y G.T.g G.T.b G.T.builtins G.T.nolimit L C hints (Ay hlen j) M P D (λH N B=>R w H a i hlen N B) λH e m=>A w H c e m
noncomputable def bW(s:Stmt):Arguments:=match s with
 | .FunctionDef _ a _ _ _ _ _ _ _ _=>a
 | _=>{ posonlyargs:=[],args:=[],vararg:=none,kwonlyargs:=[],kw_defaults:=[],kwarg:=none,defaults:=[] }
noncomputable def bE(s:Stmt):List Stmt:=match s with
 | .FunctionDef _ _ b _ _ _ _ _ _ _=>b
 | _=>[]
noncomputable def aD(s:Stmt):Scope:=match s with
 | .FunctionDef _ _ _ _ _ _ sc _ _ _=>sc
 | _=>{ kind:=.function,names:=[],isGenerator:=false,isCoroutine:=false }
abbrev E0:XK:=λ_ _ _=>False
structure P5(K:bb)(x qual:Str)(st:Stmt)(f:Addr)(fd:FuncData):Prop where
 ex:∃(oc:Value) (od:Option Addr) (kV doc pm:Value) (an:Option Addr) (fM ct:Value) (Mz:Array<|Option Value),
  fd=PySem.W.fnOf x qual (bW st) (bE st) (aD st) .none kV doc pm an fM ct/\K.lookup f=some #[oc,od,.func fd,Mz]/\PySem.W.codeIn K fM qual=true
 kp:PySem.W.keepIn K (.ref f)=true
section
variable {P:Program} {w:World} {K:bb} {mg:bg} {base:Heap}
theorem P5.binds{x qual:Str}{st:Stmt}{e:FuncData}(F:P5 K x qual st f e)(h:∀(kV a c:Value) (d:Option Addr) (b ct:Value) (us:bc),us.z=ps.z->bindArgs (PySem.W.fnOf x qual (bW st) (bE st) (aD st) .none kV a c d b ct) #[us,[]]=pure (ps.zip us)):Binds K e ps []:=by let#[g,od,kV,a,c,d,b,ct,j,rfl,i,k]:=F.ex;exact .all<|h kV a c d b ct
theorem Bs{x qual:Str}{st:Stmt}{f:Addr}{g:Value}{od e:Option Addr}{h:Array<|Option Value}{kV a d b ct:Value}(l:K.lookup f=some #[g,od,.func<|PySem.W.fnOf x qual (bW st) (bE st) (aD st) .none kV a d e b ct,h])(c:PySem.W.codeIn K b qual=true)(k:PySem.W.keepIn K (.ref f)=true):P5 K x qual st f<|PySem.W.fnOf x qual (bW st) (bE st) (aD st) .none kV a d e b ct:=#[#[g,od,kV,a,d,e,b,ct,h,rfl,l,c],k]
end
theorem V9(a:Room k A):A.units+1<cLine:=FA (Nat.add_le_add_left (by decide:1<=64) _) a.units
theorem uH:dC X (.builtin "len") (λxs H Q=>∃a kvs,xs=[V.ref a]/\H a=some (.dK kvs)/\Q (.int kvs.z) H):=by ext pins s σ H xs us Q I r h;let#[a,kvs,rfl,d,q]:=h;let#[u,rfl,b]:=vals1 r;cases b;exact WS I (.inl d) λt e c=>#[.int kvs.z,H,c,#[t,rfl],q]
def ak(H a:Hp):Prop:=∀b o,H b=some o->a b=some o
theorem ak.refl(H:Hp):ak H H:=λ_ _ h=>h
theorem ak.trans(a:ak H H1)(b:ak H1 H2):ak H H2:=λc o h=>b c o<|a c o h
theorem ak.free(e:ak H H')(h:H' l=Option.none):H l=Option.none:=by
 cases q:H l with
 | none=>rfl
 | some o=>
  rw[e l o q]at h;cases h
theorem ak.seq{K:bb}{H b:Hp}{a:Addr}{xs:List V}(e:ak H b)(h:bH K H a xs):bH K b a xs:=by ext((h|⟨o,h⟩) | h:h);exact .inl<|.inl<|e _ _ h;exact .inl<|.inr #[o,e _ _ h];exact .inr h
end L2
namespace L2
open PySem PySem.Spec PyProof.Rows
def Sz(n:Nat)(x:Int):Prop:=x.natAbs<2 ^ n
theorem Sz.mono(h:Sz m x)(a:m<=n):Sz n x:=Ep h<|LX A? a
theorem Sz.le(h:Sz n y)(a:x.natAbs<=y.natAbs):Sz n x:=FA a h
theorem Sz.mul(b:Sz m x)(a:Sz n y):Sz (m+n)<|x*y:=by unfold Sz at *;erw[FL,Nat.pow_add,Nat.mul_lt_mul'' b a]
theorem Sz.add(b:Sz n x)(a:Sz n y):Sz (n+1)<|x+y:=by unfold Sz at *;let:=Int.natAbs_add_le x y;rw[K4];lia
theorem Sz.sub(b:Sz n x)(a:Sz n y):Sz (n+1)<|x-y:=by unfold Sz at *;let:=Int.natAbs_sub_le x y;rw[K4];lia
theorem Sz.neg(a:Sz n x):Sz n<|-x:=by unfold Sz at *;erw[JU,a]
theorem Sz.fB(c:Sz m x)(a:Sz n y)(b:D! (m+n<=134217728)):IntMulOk x y:=
 PySem.IntMulOk.of_le (PySem.intBits_le_iff.mpr c) (PySem.intBits_le_iff.mpr a) b
def KI(_ j:Int):Prop:=j≠0/\Sz 9000 j
theorem KI.np(h:KI i j):Builtin.divisionGoesByPylong i j=false:=by exact PyProof.noPylong_of_log2<|(Nat.log2_lt λe=>h.1<|Int.natAbs_eq_zero.mp e).mpr h.2
def Xj(_ j:Int):Prop:=0<j/\Sz 9000 j
theorem RI:oJ X (binaryOp .FloorDiv)<|rI Xj λi j=>.int<|i / j:=VE λi j _ _ _ _ _ a q=>by let b:=a.1;exact floordiv_int () (Int.fdiv_eq_ediv_of_nonneg i ()>>q)<|.inl<|KI.np #[(),a.2]
structure Ya(P:Program)(w:World)(K:bb)(mg:bg)(base:Heap)(CX:B4)(x:Str)(k:Nat)(ps:List Str)(sp:Sp):Prop where
 ex:∃f fd,oK P w K mg base CX k f fd ps sp/\mg x=f.j/\PySem.W.keepIn K (.ref f)=true/\Binds K fd ps []
section
variable {X:Cx} {CX:B4} {k j:Nat} {ps:List Str} {sp:Sp} {E:XK} {x:Str} {p pos:Pos} {e:Expr} {es:List Expr} {t:TA}
theorem yV(h:Ya X.prog X.w X.K X.mg X.base CX x k ps sp)(c:Room j X.A)(o:Passes CX X E)(m:PA X (e::es) t)(a:D! (k<=j))(g:E! Gl X x)(l:D! ((x==("__debug__":Str))=false))(i:E! BU X e es)(n:E! ((backTo pos<|starEach es X.env).any (·.1)=false)) :
  PE X (.Call (.Name x p) (e::es) [] pos) (tD sp [] E t):=by
 let#[f,r,F,b,d,q]:=h.ex;exact CQ F (c.mono a) g b d q .nil o m l i n
end
section
variable {X:Cx} {pins:bq} {σ:St} {H:Hp} {s:Shared} {h':Heap}
theorem Inv.gQ{t':Nat}{ch:bf}{a:Addr}{o:HO}(I:Inv X pins σ H s)(k:∀b u,b∉ch->s.heap.get? b=some u->h'.get? b=some u)(i:∀b∈ch,mJ X pins H b)(l:s.c<=a)(h:aY X.prog X.w (upd H a o) h' a o):Inv X pins σ (upd H a o) { s with heap:=h',toks:=t' }:=by
 let f:=I.bu.fresh l;let j:∀b u,H b=some u->b∉ch:=λb u e z=>by rw[(i b z).1]at e;cases e
 refine I.step (λb g=>?_) (λb o _ _ d e _=>k b o d e) (λb o _ _ d e _=>#[o.slots,k b o d e]) (λb u _ e n=>?_) (λb o d e=>#[o,k b o d e])
  (λb xs e=>by erw[aB<|bO e f,e]) (λb u v e=>by erw[aB<|bO e f,e]) (λb D e=>#[#[],by rw[aB<|bO e f,e];simp]) (λm t=>?_) (λb u e=>?_) I.bare
 let#[F,B,E,y,p,A]:=i b g;exact#[y,B,p,A];rw[aB<|D7<|Ep (AL e) l];exact n;let#[o,C,x,ho,r]:=t;exact#[o,C,x,k _ o (λz=>(i _ z).2.1 rfl) ho,r];ext(g:b=a);subst g;rw[aA]at e;cases e;exact h;rw[aB g]at e;refine(I.bu b u e).iW (λc v d q=>k c v ?_ q) (λc q=>by erw[aB<|bO q f,q]) λc xs q=>by erw[aB<|bO q f,q]
 ext(z|z:d);rw[z];exact j b u e;exact j c _ z
theorem Inv.oM{t':Nat}{ch:bf}(I:Inv X pins σ H s)(k:∀b u,b∉ch->s.heap.get? b=some u->h'.get? b=some u)(d:∀b∈ch,mJ X pins H b):Inv X pins σ H { s with heap:=h',toks:=t' }:=by
 let f:∀b u,H b=some u->b∉ch:=λb u e z=>by rw[(d b z).1]at e;cases e
 refine I.step (λb j=>?_) (λb o _ _ a e _=>k b o a e) (λb o _ _ a e _=>#[o.slots,k b o a e]) (λb u _ e n=>n) (λb o a e=>#[o,k b o a e])
  (λb xs e=>e) (λb u v e=>e) (λb y e=>#[#[],by rw[e];simp]) (λm h=>?_) (λb u e=>?_) I.bare
 let#[x,t,A,l,g,p]:=d b j;exact#[l,t,g,p];let#[o,w,i,ho,r]:=h;exact#[o,w,i,k _ o (λz=>(d _ z).2.1 rfl) ho,r];refine(I.bu b u e).iW (λc v a q=>k c v ?_ q) (λc q=>q) λc xs q=>q;ext(z|z:a);rw[z];exact f b u e;exact f c _ z
end
def Ite(K:bb)(a:Addr):It:=
 #[λi H=>∃xs x,bH K H a xs/\xs[i]?=some x,
  λi H x b=>∃p y,H p=none/\x=.ref p/\(∀xs,bH K H a xs->xs[i]?=some y)/\b=upd H p (.tup [.int i,y]),
  λi H=>∃xs,bH K H a xs/\xs.z<=i]
theorem zaP{P:Program}{w:World}{K:bb}{elts:List Expr}{Y:Nat}{px:Pos}(a e it:Addr)(G:e≠it) :
  Turn P w K (.Tuple elts Y px) (Ite K a) [e,it] e (λi h=>(∃g,IsEnum h e it (i:Nat) g)/\h.IsListIter it a i) where
 mem:=by simp
 obj:=λi h st b j=>by
  let#[#[g,l],f]:=st;ext(rfl|j:AX.mp j);exact#[_,l,λv z=>by cases z];obtain rfl:b=it:= ~~~j
  let#[o,e1,c,d]:=f;exact#[o,e1,λv z=>by rw[d]at z;cases z]
 keep:=λi h h' st k=>by let#[#[g,l],f]:=st;exact#[#[g,k e A! _ l],f.at λo q=>k it A! o q]
 item:=by
  ext X B C A J i pins s σ H E I t st y;subst B C A;let#[#[g,l],f]:=st;let#[xs,x,r,D]:=y;let#[T,rv,p,hz]:=I.list r;let#[u,Z,L]:=rv.get D;let F:e<s.c:=AL l;let M:it<s.c:=by let#[_,q,_]:=id f;exact AL q
  refine wpAny_pyNext_enum_item l f p.isList (x:=u) (~~~Z) G λh' ho S R hsz U=>#[_,rfl,?_];refine wpAny_letOwnedTupleGo_enum ho λn W m=>?_;replace m:Heap.SameBut e h' n:=m;let hn:H s.c=none:=I.bu.fresh<|Xx _;let Q:∀b o,b∉[e,it]->s.heap.get? b=some o->n.get? b=some o:=λb o j q=>(m.2 b λz=>j<|by simp[z]).trans<|U b o (λz=>j<|by simp[z]) (λz=>j<|by simp[z]) q;let ZI:n.get? s.c=some { cls:=.type "tuple",data:=.seq #[.int i s.toks,u,] }:=(m.2 _<|F5 F).trans R;refine#[.ref s.c,upd H s.c<|.tup [.int i,x],Inv.gQ (s:=s) (h':=n) (t':=s.toks+1) I Q t (Xx _) #[by simp only[Bq,L5];rw[FN];decide,[.int i s.toks,u],.cons #[_,rfl]<|.cons L .nil,#[_,ZI,rfl,_,rfl]],rfl,
   #[_,x,hn,rfl,λys N=>I.lE N r>>D,rfl],#[#[_,W],S.at λo q=>(m.2 it<|A6 G).trans q],λb j=>?_]
  rw[aB ?_];exact(t b j).1;ext(rfl|j:AX.mp j);exact D7 F;obtain rfl:b=it:= ~~~j
  exact D7 M
 done:=by ext X B C A J i pins s σ H E I t st y;subst B C A;let#[#[g,l],f]:=st;let#[xs,r,D]:=y;let#[T,rv,p,hz]:=I.list r;let hl:=rv.z;exact wpAny_pyNext_enum_end (I.ok.hd J) l f p.isList (by simp;lia) λh' O=>#[rfl,Inv.oM (t':=s.toks) (ch:=[e,it]) I (λb o j q=>O b o (λz=>j<|by simp[z]) q) t]
 self:=λ_ _ _ _ _ st h=>by let#[#[g,l],f]:=st;exact wpAny_pyIter_enum l h
def O9(K:bb)(c:TA):TI:=λσ H R=>c σ H λvs b=>∃a,vs=[.ref a]/\(∃xs,bH K b a xs)/\R (Ite K a) b
theorem zfk{X:Cx}{l:Expr}{i:TA}{p pos:Pos}{elts:List Expr}{x:Nat}{px:Pos}(y:X.mg "enumerate"=none)(v:PA X [l] i)(r:E! Gl X "enumerate")(z:E! EM X [l]) :
  PI X (.Tuple elts x px) (.Call (.Name "enumerate" p) [l] [] pos) (O9 X.K i):=by
 ext pins s σ H R I h;refine Call_<|bY I r y boot_enumerate<|HH (b9 (v pos pins s σ H _ I h) λus g ⟨vs,A,c,m,n⟩=>?_) z rfl;let#[a,rfl,#[xs,t],q]:=n;let#[u,rfl,k]:=vals1 m;cases k;let#[B,rv,pl,hz]:=c.list t;refine call_enumerate_list pl.isList λh' j f hsz w=>wpAny_pyIter_enum j ?_;refine#[_,[g.c+1,g.c],_,_,A,rfl,c.kept λb o e=>w b o e,zaP a _ _<|Nat.succ_ne_self _,#[#[_,j],f],λb d=>?_,q];ext(rfl|d:AX.mp d);exact c.nJ (IZ _)<|c.bu.fresh<|IZ _;obtain rfl:b=g.c:= ~~~d
 exact c.nJ (Xx _)<|c.bu.fresh<|Xx _
theorem CC(h:σ[i]?=some (some v))(q:Q v H):fE i σ H Q:=#[v,h,q]
theorem OL(q:Q (.bl<|decide<|i=j) H):Ub (.int i) (.int j) H Q:=#[rfl,pB>>Bool.beq_eq_decide_eq>>q]
theorem vS(h:R (σ.set i<|some v) H):bI i v σ H R:=h
theorem Ra(h:t σ H λx a=>∃k,x=.bl k/\R k a):tj t σ H R:=h
theorem Ys(h:t σ H λvs a=>r vs a Q):jT r t σ H Q:=h
theorem ifT{A B:Prop}(h:A):if true=true then A else B:=Al rfl>>h
theorem ifF{A B:Prop}(h:B):if false=true then A else B:=Ak Bj>>h
theorem Tq:bootBuiltins "abs"=some (.builtin "abs"):=by decide +kernel
theorem nP:bootBuiltins "len"=some (.builtin "len"):=by decide +kernel
theorem DU:bootBuiltins "list"=some (.type "list"):=by decide +kernel
structure Def(K:bb)(mg:bg)(x:Str)(st:Stmt)(ps:List Str):Prop where
 ex:∃f fd,P5 K x x st f fd/\mg x=f.j/\Binds K fd ps []
theorem ak.upd(h:H p=none):ak H<|upd H p o:=λb u e=>by erw[aB<|bO e h,e]
section
variable {σ:St} {H:Hp} {Q:VK} {K:bb}
theorem Rb(h:mF K H a xs)(b:xs.z=n)(q:t xs σ H R):oG K n t (.ref a) σ H R:=#[a,xs,rfl,h,b,q]
theorem CD(q:t v σ H λa b=>u vs a b R):dA t u (v::vs) σ H R:=#[v,vs,rfl,q]
theorem Rc(q:R σ H):oH [] σ H R:=#[rfl,q]
end
end L2
namespace Fr
structure Ao(a b t u:Int):Prop where
 pos:0<u
 co:Int.gcd t u=1
 eq:t*b=a*u
 ta:t.natAbs<=a.natAbs
 ub:u.natAbs<=b.natAbs
theorem uo(a b:Int):((Int.gcd a b:Nat):Int) ∣ a:=Int.gcd_dvd_left _ _
theorem uk(a b:Int):((Int.gcd a b:Nat):Int) ∣ b:=Int.gcd_dvd_right _ _
theorem o6(a:Int)(c:b≠0):0<Int.gcd a b:=Int.gcd_pos_of_ne_zero_right _ c
theorem nj(q:b≠0)(e:d=if b<0 then -((Int.gcd a b:Nat):Int)else((Int.gcd a b:Nat):Int)):Ao a b (a.fdiv d)<|b.fdiv d:=by
 let l:=o6 a q;let#[x,f]:=uo a b;let#[y,c]:=uk a b;generalize r:Int.gcd a b=g at *;let o:(g:Int)≠0:=();let j:Int.gcd x y=1:=by
  let m:Int.gcd a b=g*Int.gcd x y:=by rw[f,c,Int.gcd_mul_left];simp
  rw[r]at m;exact Nat.eq_of_mul_eq_mul_left l ()
 let k:x.natAbs<=a.natAbs:=by rw[f,FL];simp;exact JZ _ l
 let i:y.natAbs<=b.natAbs:=by rw[c,FL];simp;exact JZ _ l
 ext(p:b<0);rw[Al p]at e;let e1:a.fdiv d=-x:=by
  rw[e,f];let:(g:Int)*x=-(g:Int)*(-x):=by rw[Int.neg_mul_neg]
  erw[this,Lc _ ()]
 let e2:b.fdiv d=-y:=by
  rw[e,c];let:(g:Int)*y=-(g:Int)*(-y):=by rw[Int.neg_mul_neg]
  erw[this,Lc _ ()]
 let n:y<0:=by ext(h|h|h:LN y 0);exact h;rw[h]at c;lia;let:=E7 (show(0:Int)<g by lia) h;lia
 refine#[by rw[e2];lia,e1>>e2>>Int.gcd_neg>>Int.neg_gcd>>j,?_,e1>>JU>>k,e2>>JU>>i];rw[e1,e2];let m:x*b=a*y:=by
  calc x*b=x*(g*y):=by rw[<-c]
   _=(g*x)*y:=by rw[Int.mul_left_comm,L4]
   _=a*y:=by rw[<-f]
 rw[Int.neg_mul,Int.mul_neg,m];rw[Ak p]at e;let e1:a.fdiv d=x:=e>>f>>Lc _ o
 let e2:b.fdiv d=y:=e>>c>>Lc _ o
 let n:0<y:=by ext(h|h|h:LN y 0);let:=Int.mul_neg_of_pos_of_neg (show(0:Int)<g by lia) h;lia;rw[h]at c;lia;exact h
 refine#[e2>>n,e1>>e2>>j,?_,e1>>k,e2>>i];rw[e1,e2]
 calc x*b=x*(g*y):=by rw[<-c]
  _=(g*x)*y:=by rw[Int.mul_left_comm,L4]
  _=a*y:=by rw[<-f]
theorem zP(a b:Int)(c:0<=a)(d:0<b):Int.gcd b (a%b)=Int.gcd a b:=by let#[m,rfl]:=FH c;let#[n,rfl]:=FH<|Ft d;show Nat.gcd _ _=Nat.gcd _ _;simp only[Int.natAbs_natCast];rw[show((m:Int)%(n:Int)).natAbs=m%n by erw[<-Int.natCast_emod,Int.natAbs_natCast _]];rw[Nat.gcd_comm n<|m%n,<-Nat.gcd_rec,Nat.gcd_comm]
theorem Dx(a b:Int):Int.gcd (if a<0 then -a else a) (if b<0 then -b else b)=Int.gcd a b:=by split<;>split<;>simp[Int.gcd_neg,Int.neg_gcd]
theorem Dw(a:Int)(b:0<=a):((Int.gcd a 0:Nat):Int)=a:=by simp[Int.gcd];lia
end Fr
namespace L2
open PySem PySem.Spec PyProof.Rows
theorem sl2:2<=sizeLine:=by rw[FN];decide
section
variable {K:bb}
end
theorem mulL(h1 : -(2 ^ 64)<a)(c:a<2 ^ 64):IntMulOk a b:=.of_left<|intBits_le_64 h1 c
theorem mulR(h1 : -(2 ^ 64)<b)(c:b<2 ^ 64):IntMulOk a b:=.of_right<|intBits_le_64 h1 c
theorem fL(a:0<j)(b:j<2 ^ 64):Xj i j:=#[a,Sz.mono (m:=64) (by unfold Sz;lia) A?]
end L2
namespace Kd
open PySem
def Dc(e:Addr)(D:Option Addr)(h:Heap):Prop:=∃o,h.objs[e]?=some o/\o.dict=D
end Kd
namespace L2
open PySem PySem.Spec PySem.W PySem.Calls PyProof.Rows
def Xh(B:Heap)(c:bf)(h:Heap):Prop:=∀b o,h.get? b=some o->b∉c->∃a,B.get? b=some a
structure aap(P:Program)(w:World)(outer:List Env)(H:Hp)(s:Shared)(a:Addr)(cls:Value)(D:Option Addr)(H':Hp)(s':Shared):Prop where
 os:s'.os=s.os
 bare:AllBare s'.gens
 un:Un (zQ outer) [] H H' s.heap s'.heap
 bu:jS P w H' s'.heap
 fly:∃B a0,Heap.FlyingW B outer a cls a0 s'.heap/\Xh B (zQ outer) s.heap/\∀b o,H' b=some o->∃ob,B.get? b=some ob
 new:H' a=none
 fresh:s.heap.get? a=none
 dct:Kd.Dc a D s'.heap
noncomputable def Ah(P:Program)(w:World):B4:=λouter H s E e c=>∃a cls D b,e=.ref a/\aap P w outer H s a cls D b c/\E cls D b
theorem HS:Passes (Ah P w) X E0:=by ext pins σ d c e f I ⟨a,cls,D,b,rfl,F,q⟩;exact q.elim
end L2
namespace L2
open PySem PySem.Spec PySem.W PySem.Calls PyProof.Rows
section
variable {P:Program} {w:World} {K:bb} {mg:bg} {base:Heap}
theorem Def.Sv{x:Str}{st:Stmt}{k:Nat}{b:Sp}(D:Def K mg x st ps)(S:gF N ps<|aD st)(c:∀vs H Q E,b vs H Q E->vs.z=ps.z)(j:∀(f:Addr) (a:Value) (A:Around) (outer:List Env) (s:Shared) (H:Hp) (vs:List V) (Q:VK) (E:XK),Room k (A.deeper<|envOfC x (aD st) s.c f a)->b vs H Q E->
   ∃t,uO (sP (Ah P w) P w K mg base N x (aD st) f a A outer s H E).Kx (bE st) t/\t { nx:=λ_ m=>Q .dY m,rt:=Q } (start N vs) H):W! x (k+1) ps b:=by
 let#[f,z,F,n,e]:=D.ex;let#[u,od,kV,g,v,y,a,ct,r,rfl,d,l]:=F.ex;refine#[#[f,_,Jd d l S c λA o s H vs Q E i p=>?_,n,F.kp,e]];let#[t,h,q]:=j f a A o s H vs Q E i p;exact#[t,h.Kx,q]
end
end L2
namespace L2
open PySem PySem.Spec PySem.W PySem.Calls PyProof.Rows
def AllIn(cells:List<|Str×Addr):List (Str×Addr)->Prop
 | []=>True
 | p::r=>cells.lookup p.1=some p.2/\AllIn cells r
theorem AllIn.get{cells:List<|Str×Addr}:∀{cl:List<|Str×Addr},AllIn cells cl->∀{x c},cl.lookup x=some c->cells.lookup x=some c
 | [],_,x,c,e=>by cases e
 | (n,d)::r,h,x,c,e=>by
  rw[lookup_cons]at e;cases q:x==n with
  | true=>
   rw[q]at e;cases e;let z:x=n:= ~~~q
   subst z;exact h.1
  | false=>rw[q]at e;exact AllIn.get h.2 e
def FF(X:Cx)(a:List Expr)(t:TT):Prop:=
 ∀(pins:bq) (s:Shared) (σ:St) (H:Hp) (Q:Bool->Hp->Prop),Inv X pins σ H s->t σ H Q->
  wpAny (model X.prog X.w) X.A (forIn a true λc r=>if r=true then do let b <-isTrue c X.env (eval c X.env);pure (ForInStep.yield b)else pure (ForInStep.yield r)) (TP X pins σ Q) X.xe s
noncomputable def Oq:TT:=λ_ H Q=>Q true H
theorem zbL:FF X [] Oq:=λ_ _ _ H _ I h=>wpAny_tests_nil #[H,I,h]
theorem yQ(h:PT X c t):FF X [c] t:=λpins s σ H Q I a=>wpAny_tests_one<|h pins s σ H Q I a
theorem zaX{k target iter:Expr}{j:List Expr}{scope:Scope}{pos:Pos}{it i:Value}{env:Env}(I:Nat->Shared->Prop)(turn:∀n s,I n s->wpAny (model prog w) A (pyNext it) (λr b=>match r with
   | none=>R (.ok .next) b
   | some v=>wpAny (model prog w) A (letOwnedTupleGo target it v) (λ_ t=>wpAny (model prog w) A (assign target env v) (λ_ e=>
     wpAny (model prog w) A (forIn j true λc r=>if r=true then do let l <-isTrue c env (eval c env);pure (ForInStep.yield l)else pure (ForInStep.yield r)) (λl a=>
      if l=true then wpAny (model prog w) A (eval k env) (λx f=>wpAny (model prog w) A (call (.builtin "list.append") [i,x]) (λ_ d=>∃m,m<n/\I m d) (λ_ _=>False) f) (λ_ _=>False) a
      else ∃m,m<n/\I m a) (λ_ _=>False) e) (λ_ _=>False) t) (λ_ _=>False) b) (λ_ _=>False) s)(n:Nat)(h:I n s):codeAny (model prog w) A (.compLoop (.ListComp k [#[target,iter,j,0]] scope pos) 0 it i env) R s:=by
 refine codeAny_loop rfl I (λn s u=>?_) n h;show wpAny _ A ((compTurn (.ListComp k [#[target,iter,j,0]] scope pos) 0 it i env).onRaise<|λx=>do noteFrame x env;theTreesLotGoes x) _ _ s;refine wpAny_noted ?_;rw[compTurn_list];refine UA<|wpAny_standAt<|UA<|EW (turn n s u) (λr b h₁=>?_) λ_ _ z=>False.elim z;cases r with
 | none=>exact A8 h₁
 | some v=>
  refine UA<|EW h₁ (λ_ t y=>UA<|EW y (λ_ e o=>UA<|EW o (λl a g=>?_) λ_ _ z=>False.elim z) λ_ _ z=>False.elim z) λ_ _ z=>False.elim z;cases l with
  | false=>exact A8 #[rfl,g]
  | true=>
   exact UA<|UA<|EW g (λx f q=>UA<|EW q (λ_ d p=>A8<|A8 #[rfl,p]) λ_ _ z=>False.elim z) λ_ _ z=>False.elim z
noncomputable def Cx.block(X:Cx)(scope:Scope)(cl:List<|Str×Addr)(C:Addr)(N:List Str)(a:bf)(pins:bq)(s:Shared)(H:Hp):Cx:=
 { X with N:=N,s₀:=s,H₀:=H,env:=compEnvC scope cl C X.env,outer:=X.stack,ex:=a,fn:=λ_=>false,pn:=X.pn++pins,xe:=λ_ _=>False }
noncomputable def eE(n:Nat)(a:List Nat)(σ:St):St:=List.replicate n none++a.map λi=>(σ[i]?).join
structure cO(X:Cx)(scope:Scope)(cl:List<|Str×Addr)(tg:List Str)(fr:List<|Str×Nat):Prop where
 kind:scope.kind=.function
 RO:∀y∈scope.names,y.2≠.cell
 names:∀y∈scope.names,y.2=.local->scope.names.lookup y.1=some .local
 WV:closureFor scope X.env=pure cl
 PV:AllIn X.env.cells cl
 has:((relabel scope X.env).names.all λp=>!(p.2==.cell || p.2==.free) || (cl.lookup p.1).isSome)=true
 frN:∀p∈fr,X.N[p.2]?=some p.1/\X6 X.env.scope p.1/\(cl.lookup p.1).isSome=true/\((relabel scope X.env).names.lookup p.1==some .cell || (relabel scope X.env).names.lookup p.1==some .free)=true
 frL:∀p∈fr,(X.env.kindOf p.1==some .local)=false
section
variable {X:Cx} {pins:bq} {σ:St} {H:Hp} {s:Shared} {scope:Scope} {cl:List (Str×Addr)} {tg:List Str} {fr:List (Str×Nat)}
theorem lookup_mem{κ α:Type}[BEq κ][LawfulBEq κ]:∀{l:List<|κ×α} {x:κ} {v:α},l.lookup x=some v->(x,v)∈l
 | [],_,_,e=>by cases e
 | (k,u)::r,x,v,e=>by
  rw[lookup_cons]at e;cases q:x==k with
  | true=>
   rw[q]at e;cases e;let z:x=k:= ~~~q
   subst z;exact AO
  | false=>rw[q]at e;exact A7 _<|lookup_mem e
theorem zaw{C:Addr}{h:bf}{h':Heap}{t':Nat}{m:bg}(B:cO X scope cl tg fr)(I:Inv X pins σ H s)(A:∀b∈h,mJ X pins H b/\b<s.c)(F:s.c<=C)(hn:h'.Ns C m)(k:∀b o,s.heap.get? b=some o->h'.get? b=some o){t:Hp}(O:Un (zQ X.stack) h H t s.heap h')(bu:jS X.prog X.w t h')(Dr:t C=none) :
  Inv (X.block scope cl C (tg++fr.map (·.1)) h pins s H) [] (eE tg.z (fr.map (·.2)) σ) t { s with heap:=h',toks:=t' }:=by
 let cells:∀{x c},cl.lookup x=some c->X.env.cells.lookup x=some c:=λe=>B.PV.get e;let cC:∀x c,X.env.cells.lookup x=some c->c≠C:=λx c e z=>by let#[v,o,ho,_]:=I.cell x c e;exact absurd (Ep (AL ho) F) (z>>EK _)
 let cellK:∀{c v},s.heap.IsCell c v->h'.IsCell c v:=λ{c v} ⟨o,e,d⟩=>#[o,k c o e,d];let Q:∀x c,X.env.cells.lookup x=some c->c∉h/\t c=none:=λx c e=>by let f:c∉h:=λz=>(A c z).1.2.2.2.2.1 x c e rfl;let#[v,o,ho,_]:=I.cell x c e;exact#[f,O.free c o ho (I.iU x c e) f]
 let T:∀p∈X.pn++pins,p.1∉h/\t p.1=none:=λp j=>by let f:p.1∉h:=λz=>(A p.1 z).1.2.2.2.2.2 p j rfl;let#[e,n,_]:=I.pin p j;exact#[f,O.free p.1 _ e n f]
 let U:∀b∈zQ X.stack,b<s.c:=λb g=>by let#[_,o,ho,_]:=I.stack.mem g;exact AL ho
 refine#[#[I.ok.mod,B.kind,I.ok.glob,I.ok.blt,F,λx y c N a=>I.ok.inj x y c (cells N)<|cells a,λx hx=>?_,λx c z=>absurd (show false=true from z) Bj,I.ok.hd,I.ok.frames,.inl rfl,λb g=>?_,λb o e=>#[?_,?_],?_,λb o e z=>?_,λb g z=>?_,I.stack,I.Co],
  rfl,I.bare,O,#[m,hn,λi x v N a h3=>?_],λx c e=>?_,Dr,λx c e=>(Q x c<|cells e).2,λp j=>?_,bu,?_]
 let e:(relabel scope X.env).names.lookup x=some .cell\/(relabel scope X.env).names.lookup x=some .free:=hx;let mem:∃E,(x,E)∈(relabel scope X.env).names/\(E==NameKind.cell || E==NameKind.free)=true:=by ext(e|e:e);exact#[_,lookup_mem e,rfl];exact#[_,lookup_mem e,rfl]
 let#[E,mm,G]:=mem;let z:=List.all_eq_true.mp B.has _ mm;simp only[G,Bool.not_true,Bool.false_or]at z;exact N2.mp z;exact#[λz=>absurd (Ep (A b g).2 F) (z>>EK _),λx c e z=>(Q x c<|cells e).1<|z▸g];exact(I.bs b o e).1;exact(I.bs b o e).2;exact Ay I.ok.Tr I.sz;ext(q|q:(A b z).1.2.2.2.1);exact I.ok.HZ b o e q;exact absurd (Ep (AL (I.ok.bs b o e).1) q)<|EK _;ext(q|q:AX.mp<|I.pN b z);exact(A b g).1.2.1 q;exact(A b g).1.2.2.1 q;let P:tg.z<=i:=by refine Nat.le_of_not_lt λz=>?_;unfold eE at a;rw[Eh (~~~z),Hw,Al z]at a;cases a
 let D:(fr.map (·.1))[i-tg.z]?=some x:=by let z:(tg++fr.map (·.1))[i]?=some x:=N;rw[Fg P]at z;exact z
 let M:((fr.map (·.2)).map λi=>(σ[i]?).join)[i-tg.z]?=some (some v):=by unfold eE at a;rw[Fg<|~~~P]at a;simpa using a
 rw[AY]at D;rw[AY,AY]at M;cases q:fr[i-tg.z]? with
 | none=>rw[q]at D;cases D
 | some p=>
  rw[q]at D M;let ex:p.1=x:=BV D;let J:(σ[p.2]?).join=some v:=BV M;subst ex;let#[f1,Y,f3,f4]:=B.frN p<|A5 q;let K:σ[p.2]?=some (some v):=by
   cases z:σ[p.2]? with
   | none=>rw[z]at J;cases J
   | some w'=>rw[z]at J;exact A4 some J
  let#[m0,Z,L]:=I.loc;let#[u,r,l]:=L p.2 p.1 v f1 K Y;refine#[u,r,?_];let#[c,R]:=N2.mp f3;let G:=B.frL p<|A5 q;ext(⟨kl,_⟩|⟨_,c',W,z⟩:l);rw[kl]at G;cases G;let S:=cells R;rw[W]at S;cases S;exact .inr #[(Bool.or_eq_true_iff.mp f4).imp eq_of_beq eq_of_beq,c,R,cellK z]
 let#[v,z]:=I.cell x c<|cells e;exact#[v,cellK z];rw[GA]at j;let#[e,n,ne,f,d]:=I.pin p j;refine#[k _ _ e,(T p j).2,λz=>absurd (Ep (AL e) F) (z>>EK _),λz=>?_,d];ext(q|q:AX.mp<|I.pN _ z);exact ne q;exact f q;unfold eE;show _=(tg++fr.map (·.1)).z;simp
end
def nV(p:TI)(g:TG)(o:TT)(s:TE)(n:Nat)(q:List Nat):TE:=λσ H Q=>p σ H λJ k=>∀a,k a=none->∃W:Nat->Nat->St->List V->Hp->Prop,(∃m,W 0 m (eE n q σ) []<|upd k a<|.lst [])/\
 ∀i m e ys f,W i m e ys f->((J.stop i f/\Q (.ref a) f)\/(J.go i f/\∀x h,J.T7 i f x h->g x e h λc r=>o c r λb l=>
  if b=true then s c l λy j=>j a=some (.lst ys)/\ys.z<sizeLine/\∃d,d<m/\W (i+1) d c (ys++[y]) (upd j a<|.lst<|ys++[y])else ∃d,d<m/\W (i+1) d c ys l))
section
variable {X:Cx} {scope:Scope} {cl:List (Str×Addr)} {tg:List Str} {fr:List (Str×Nat)} {elt target iter:Expr} {ifs:List Expr} {wi:TI} {g:TG} {tt:TT} {te:TE} {pos:Pos}
theorem uF(B:cO X scope cl tg fr)(hc:X.calm=true)(hi:PI X target iter wi)(hg:∀C h pins s H,PG (X.block scope cl C (tg++fr.map (·.1)) h pins s H) target g)(ht:∀C h pins s H,FF (X.block scope cl C (tg++fr.map (·.1)) h pins s H) ifs tt)(he:∀C h pins s H,PE (X.block scope cl C (tg++fr.map (·.1)) h pins s H) elt te){pins:bq}{σ:St}{H:Hp}{s:Shared}{Q:VK}(I:Inv X pins σ H s)(hw:nV wi g tt te tg.z (fr.map (·.2)) σ H Q){RR:Value->Addr->Result->Shared->Prop}(ac:∀D C M k m,Inv X pins σ k M->M.heap.Ns C m->k C=none->C≠X.env.locals->X.s₀.c<=C->(∀x c,X.env.cells.lookup x=some c->c≠C)->(∀p∈X.pn++pins,p.1≠C)->Q (.ref D) k->RR (.ref D) C (.ok .next) M) :
  wpAny (model X.prog X.w) X.A (eval iter X.env) (λxv M=>wpAny (model X.prog X.w) X.A (pyIter xv) (λit s2=>wpAny (model X.prog X.w) X.A (newList []) (λY P=>
   wpAny (model X.prog X.w) X.A (newFunctionEnv scope X.env.globals cl [] X.env.qual none .none<|some X.env) (λWY s4=>
    codeAny (model X.prog X.w) X.A (.compStart (.ListComp elt [#[target,iter,ifs,0]] scope pos) 0 it Y { WY with scope:=relabel scope X.env }) (RR Y WY.locals) s4) X.xe P) X.xe s2) X.xe M) X.xe s:=by
 refine EW (hi pins s σ H _ I hw) (λxv M h1=>EW h1 (λYZ s2 h2=>?_) λ_ _ z=>z) λ_ _ z=>z;let#[it,h,tn,J,F,rfl,K,T,Yf,f2,ab]:=h2;let Je:∀b∈h,b<s2.c:=λb a=>by let#[o,e,_]:=T.obj _ _ Yf b a;exact AL e
 refine K5<|wpAny_newFunctionEnv B.RO (by ext y hy;simp at hy) (λh3 ug XI=>?_) B.kind;dsimp only at ug XI ⊢;generalize hP:s2.heap.push { cls:=.type "list",dict:=none,data:=.seq ([]:bc).toArray }=t at ug XI ⊢;let hC:t.e=s2.c+1:=by rw[<-hP,Heap.size_push]
 let E:s2.c<t.e:=hC>>G7 _
 let S:∀b o,s2.heap.get? b=some o->h3.get? b=some o:=λb o e=>by let l:=AL e;refine XI.extBut b o (D7<|IH l E)<|BN _<|hP▸BN _ e
 let hD:F s2.c=none:=K.bu.fresh<|Xx _;let#[W,#[m0,w0],turn]:=ab _ hD;let ar:jS X.prog X.w (upd F s2.c<|.lst []) h3:=K.bu.laid S (Xx _) #[Bv _,[],0,.nil,XI.extBut _ _ (D7 E)<|BN _<|hP▸EL _ rfl];let fC:upd F s2.c (.lst []) t.e=none:=by erw[aB<|F5 E,K.bu.fresh<|FE E]
 let nL:t.e≠X.env.locals:=F5<|IH K.lt E;let cC:∀x c,X.env.cells.lookup x=some c->c≠t.e:=λx c e z=>by let#[v,o,ho,_]:=K.cell x c e;exact absurd (IH (AL ho) E) (z>>EK _)
 let pC:∀p∈X.pn++pins,p.1≠t.e:=λp Sg z=>by exact absurd (IH (AL (K.pin p Sg).1) E) (z>>EK _)
 let J0:=zaw (t':=s2.toks+([]:List<|Str×Value).z) B K (λb a=>#[f2 b a,Je b a]) (FE E) ug S (Un.laid S (Xx _) hD) ar fC;let ZL:∀{H':Hp} {pl:bq},(∀b∈h,H' b=none)->(∀p∈pl,p.1∉h)->∀b∈h,mJ (X.block scope cl t.e (tg++fr.map (·.1)) h pins s2 F) pl H' b:=λhn oX b a=>by let#[g0,g1,g2,g3,g4,g5]:=f2 b a;refine#[hn b a,λz=>?_,λz=>?_,.inl a,λx c e=>g4 x c<|B.PV.get e,λp Sg z=>?_];exact absurd (IH (Je b a) E) (z>>EK _);ext(q|q:AX.mp<|K.pN b z);exact g1 q;exact g2 q;ext(q|q:Af.mp Sg);exact g5 p q z;exact oX p q<|z▸a
 let loop:∀P:Shared,P={ s2 with heap:=h3,toks:=s2.toks+([]:List<|Str×Value).z }->
   codeAny (model X.prog X.w) X.A (.compLoop (.ListComp elt [#[target,iter,ifs,0]] scope pos) 0 (.ref it) (.ref s2.c)<|compEnvC scope cl t.e X.env) (RR (.ref s2.c) t.e) P:=by
  ext P rfl;refine zaX (λn U=>∃i f ys k,Inv (X.block scope cl t.e (tg++fr.map (·.1)) h pins s2 F) [] f k U/\tn i U.heap/\(∀b∈h,k b=none)/\W i n f ys k) ?_ m0
   #[0,_,[],_,J0,T.keep _ _ _ Yf λb a o e=>S b o e,λb a=>?_,w0]
  ext n U ⟨i,f,ys,k,J5,t5,f5,w5⟩;ext(⟨stop,q⟩|⟨go,step⟩:turn i n f ys k w5);refine EW (T.done (X.block scope cl t.e (tg++fr.map (·.1)) h pins s2 F) rfl rfl rfl hc i [] U f k (λ_ _=>False) J5 (ZL f5 A!) t5 stop) (λr s6 ⟨hr,O⟩=>?_) λ_ _ z=>z;subst hr;let#[m6,an,_]:=O.loc;exact ac _ _ _ k m6 (K.WZ (ch:=h) O.os O.base O.bu O.bare λb a=>by let#[g0,g1,g2,g3,g4,g5]:=f2 b a;exact#[g3,g1,g4,g5]) an O.free nL (Ay K.sz<|FE E) cC pC q;refine EW (T.item (X.block scope cl t.e (tg++fr.map (·.1)) h pins s2 F) rfl rfl rfl hc i [] U f k (λ_ _=>False) J5 (ZL f5 A!) t5 go) (λr s6 ⟨u,hr,h6⟩=>?_) λ_ _ z=>z;subst hr;refine EW h6 (λ_ s7 ⟨x,H7,J7,r7,y7,t7,f7⟩=>?_) λ_ _ z=>z;let again:∀{j:St} {N:Hp} {L:Shared} {UD:List V},Inv (X.block scope cl t.e (tg++fr.map (·.1)) h pins s2 F) ([]++qo h s7.heap) j N L->(∃G,G<n/\W (i+1) G j UD N)->
    ∃G,G<n/\∃i f ys k,Inv (X.block scope cl t.e (tg++fr.map (·.1)) h pins s2 F) [] f k L/\tn i L.heap/\(∀b∈h,k b=none)/\W i G f ys k:=λ{j N L UD} R ⟨G,hm,w8⟩=>by
   refine#[G,hm,i+1,j,UD,N,R.kU,T.keep _ _ _ t7 λb a o e=>(R.pin (b,o)<|E8 _<|E8 _<|hZ a e).1,λb a=>?_,w8];let#[o,e,d]:=T.obj _ _ t7 b a;exact(R.pin (b,o)<|E8 _<|E8 _<|hZ a e).2.1
  refine EW (hg _ _ _ _ _ _ s7 f H7 x u _ (J7.pinned (ZL f7 A!)<|T.obj _ _ t7) r7<|step x H7 y7) (λ_ L ⟨j,N,R,q8⟩=>?_) λ_ _ z=>z;refine EW (ht _ _ _ _ _ _ L j N _ R q8) (λb s9 ⟨H9,J9,q9⟩=>?_) λ_ _ z=>z;cases b with
  | false=>
   rw[Ak Bj]at q9 ⊢;exact again J9 q9
  | true=>
   rw[Al rfl]at q9 ⊢;refine EW (he _ _ _ _ _ _ s9 j H9 _ J9 q9) (λy am ⟨v,ap,ad,ay,ZH,Zv,al⟩=>EW (nh (X:=X.block scope cl t.e (tg++fr.map (·.1)) h pins s2 F) _ am j ap (.ref s2.c) [v] (.ref s2.c) [y] (λ_ Z=>∃G,G<n/\W (i+1) G j (ys++[v]) Z) ad rfl (.cons ay .nil) #[_,ys,v,rfl,rfl,ZH,Zv,al]) (λ_ aC ⟨_,Z,ao,_,as⟩=>?_) λ_ _ z=>z) λ_ _ z=>z;exact again ao as
  erw[aB<|D7<|Je b a,(f2 b a).1]
 exact codeAny_compStart_list (loop _ rfl)<|T.self X.A 0 _ _ _ (T.keep _ _ _ Yf λb a o e=>S b o e)<|loop _ rfl
theorem CP(B:cO X scope cl tg fr)(v:X.calm=true)(k:PI X target iter wi)(h:∀C a pins s H,PG (X.block scope cl C (tg++fr.map (·.1)) a pins s H) target g)(t:∀C a pins s H,FF (X.block scope cl C (tg++fr.map (·.1)) a pins s H) ifs tt)(u:∀C a pins s H,PE (X.block scope cl C (tg++fr.map (·.1)) a pins s H) elt te)(w:Q! (∀x,foldedSetIterable iter X.env x=pure x)):PE X (.ListComp elt [#[target,iter,ifs,0]] scope pos)<|nV wi g tt te tg.z<|fr.map (·.2):=by ext pins s σ H Q I n;rw[eval_ListComp];refine wpAny_comprehension_free rfl w B.WV B.kind B.names<|uF B v k h t u I n λD C z i m J y j r f p l q=>#[m,y,λh' c=>#[.ref D,i,?_,rfl,q]];exact J.turned (λb o d e=>(c.2 b d).trans e) j r (.inr f) p l
theorem zdD{i:Nat}{y:Str}{py h:Pos}(l:X.N.Nodup)(t:X.N[i]?=some y)(L:Loc X.env.scope y)(B:cO X scope cl tg fr)(U:X.calm=true)(M:PI X target iter wi)(u:∀C c pins s H,PG (X.block scope cl C (tg++fr.map (·.1)) c pins s H) target g)(S:∀C c pins s H,FF (X.block scope cl C (tg++fr.map (·.1)) c pins s H) ifs tt)(T:∀C c pins s H,PE (X.block scope cl C (tg++fr.map (·.1)) c pins s H) elt te)(W:Q! (∀x,foldedSetIterable iter X.env x=pure x))(d:E! (swapsWith (.ListComp elt [#[target,iter,ifs,0]] scope pos) (some<|.Name y py) h.line X.env=pure true))(A:P! (X.fn y=true\/X.env.scope.names.lookup y=some .local)) :
  PS X (.Assign [.Name y py] (.ListComp elt [#[target,iter,ifs,0]] scope pos) h) (mT (nV wi g tt te tg.z<|fr.map (·.2))<|bI i):=by
 ext pins s σ H D I Q;rw[exec_Assign_Name_used _ _ _ _ d];refine UA<|wpAny_standAt<|UA ?_;refine UA<|EW (wpAny_comprehension_free rfl W B.WV B.kind B.names<|uF B U M u S T I Q λR C Z w m J Y K k r j O q=>?_) (λ_ s' E=>A8<|A8 E) λ_ _ z=>z
 refine wpAny_assign_Name<|tH (v:=.ref R) J l t L rfl (λs2 G ⟨a,n,F⟩=>?_) A;let P:C≠a:=by ext(z|z:F);rw[z];exact k;exact A6<|j y a z
 exact#[m,Y.sameBut n P,λh' f=>#[_,w,G.turned (λb o p e=>(f.2 b p).trans e) K k (.inr r) j O,q]]
end
def vT(K:Frag):List V->Hp->VK->Prop:=λvs H Q=>∃(a:Addr) (c:cc),vs=[.ref a]/\bH K H a c.f/\c.z<64/\∀(b:cc) p,b.Perm c->b.Pairwise (·<=·)->H p=none->Q (.ref p) (upd H p<|.lst b.f)
theorem zaz:dC X (.builtin "sorted")<|vT X.K:=by
 ext pins s σ H xs us Q I r h;let#[a,z,rfl,n,y,q]:=h;let#[u,rfl,l]:=vals1 r;cases l;let#[k,rv,pl,hz]:=I.list n;let g:=rv.z;rw[ZO]at g;refine sorted_ints pl.isList (intsAre_of rv) () λc d j i m=>?_;let lo:=j.z;let#[p,v]:=sortedAll_at s.heap k c;let x:=i.length_eq;let t:(d.f).z<=sizeLine:=by rw[ZO,La];lia
 let f:aY X.prog X.w (upd H (s.c+1)<|.lst d.f) (sortedAll s.heap k c) (s.c+1)<|.lst d.f:=#[t,c.toList,p,mR j,by simpa[seqObj]using v];exact#[.ref<|s.c+1,_,I.laid (λb o e=>sortedAll_old e) (IZ _) f,rfl,q d _ i m<|I.bu.fresh<|IZ _]
mutual
inductive xU(H:Hp):V->PyData->Prop where
 | int (i:Int):xU H (.int i) (.int i)
 | lst {a:Addr} {vs:List V} {ds:List PyData}:H a=some (.lst vs)->cV H vs ds->xU H (.ref a) (.list ds)
 | tup {a:Addr} {vs:List V} {ds:List PyData}:H a=some (.tup vs)->cV H vs ds->xU H (.ref a) (.tuple ds)
inductive cV(H:Hp):List V->List PyData->Prop where
 | nil:cV H [] []
 | cons {v:V} {vs:List V} {d:PyData} {ds:List PyData}:xU H v d->cV H vs ds->cV H (v::vs) (d::ds)
end
section
variable {X:Cx} {pins:bq} {σ:St} {H:Hp} {s:Shared}
mutual
theorem xU.reads(I:Inv X pins σ H s):∀{v:V} {d:PyData} {u:Value},xU H v d->RelV v u->∃c,Reads s.heap u d c
 | _,_,u,.int i,r=>by let#[t,rfl]:=r;exact#[_,.int i t]
 | _,_,u,.lst (a:=a) (vs:=vs) e h,r=>by cases(show u=Value.ref a from r);let#[_,f,n,rv,g]:=(show aY X.prog X.w H s.heap a (.lst vs)from I.bu a _ e);let#[c,b]:=cV.reads I h rv;exact#[_,.list g rfl rfl<|~~~b]
 | _,_,u,.tup (a:=a) (vs:=vs) e h,r=>by cases(show u=Value.ref a from r);let#[_,f,rv,o,g,k,n,j]:=(show aY X.prog X.w H s.heap a (.tup vs)from I.bu a _ e);let#[c,b]:=cV.reads I h rv;exact#[_,.tuple g k j<|~~~b]
theorem cV.reads(I:Inv X pins σ H s):∀{vs:List V} {a:List PyData} {us:bc},cV H vs a->Vals vs us->∃b,ReadsAll s.heap us a b
 | _,_,_,.nil,.nil=>#[_,.nil]
 | _,_,_,.cons h t,.cons r q=>by let#[b,d]:=xU.reads I h r;let#[e,c]:=cV.reads I t q;exact#[_,.cons d c]
end
end
noncomputable def Ho(neg:Bool):R2:=λx y H Q=>∃a b,xU H x a/\xU H y b/\SeqAt.shaped a=true/\SeqAt.shaped b=true/\Q (.bl<|if neg then !PyData.eqv a b else PyData.eqv a b) H
theorem HW(b:X.A.units+64<cLine):oJ X (compareOp .Eq)<|Ho false:=by ext pins s σ H x y v u Q I j d h;let#[k,l,g,a,i,e,q]:=h;let#[n,c]:=xU.reads I g j;let#[m,f]:=xU.reads I a d;exact SeqAt.compareEq_shaped c f i e b<|aX I q rfl
theorem xD:bootBuiltins "min"=some (.builtin "min"):=by decide +kernel
theorem uI:bootBuiltins "sorted"=some (.builtin "sorted"):=by decide +kernel
theorem cL{α:Type}{p:α->Prop}:∀x∈([]:List α),p x:=λ_ h=>by cases h
theorem aM{α:Type}{p:α->Prop}{a:α}{l:List α}(h:p a)(t:∀x∈l,p x):∀x∈a::l,p x:=Ly.mpr #[h,t]
theorem PM(b:i<n)(h:A):∃a,a<n-i/\(a=n-(i+1)/\i+1<=n/\A):=#[_,(),rfl,b,h]
theorem Rg(h:wi σ H λJ l=>∀a,l a=none->∃W:Nat->Nat->St->List V->Hp->Prop,(∃m,W 0 m (eE n fr σ) []<|upd l a<|.lst [])/\
 ∀i m e ys f,W i m e ys f->((J.stop i f/\Q (.ref a) f)\/(J.go i f/\∀x j,J.T7 i f x j->g x e j λc p=>tt c p λb o=>
  if b=true then te c o λy k=>k a=some (.lst ys)/\ys.z<sizeLine/\∃d,d<m/\W (i+1) d c (ys++[y]) (upd k a<|.lst<|ys++[y])else ∃d,d<m/\W (i+1) d c ys o))):nV wi g tt te n fr σ H Q:=h
end L2
namespace Gm
open PySem L2
noncomputable def put(l:cc)(k:Nat)(x:Int):cc:=l.take k++x::l.drop k
theorem gR(l:cc)(k:Nat)(x:Int):(put l k x).Perm<|x::l:=by unfold put;refine List.perm_middle.trans ?_;rw[JS]
theorem hW:y∈put l k x↔y=x\/y∈l:=by rw[(gR l k x).mem_iff,BX]
theorem tY(h:x∉l)(n:l.Nodup):(put l k x).Nodup:=(gR l k x).nodup_iff.mpr<|EB.mpr #[h,n]
structure ah(L:cq):Prop where
 nd:∀(i:Nat) (l:cc),L[i]?=some l->l.Nodup
 rg:∀(i:Nat) (l:cc),L[i]?=some l->∀x∈l,0<=x/\x<L.z/\x≠i
 sy:∀(i:Nat) (l:cc),L[i]?=some l->∀x∈l,∀j:Nat,x=j->∀m,L[j]?=some m->(i:Int)∈m
theorem ak.fresh(e:ak H H')(h:H a=none):ak H<|upd H' a o:=λb u q=>aB (λz=>by rw[z,h]at q;cases q)>>e b u q
inductive Reach(L:cq)(s:Int):Int->Prop where
 | here:Reach L s s
 | step {i:Nat} {l:cc} {x:Int}:Reach L s i->L[i]?=some l->x∈l->Reach L s x
theorem cp{α:Type}[BEq α][LawfulBEq α]:∀{l r:List α},l.Nodup->(∀x∈l,x∈r)->l.z<=r.z
 | [],_,_,_=>Bv _
 | x::l,r,n,h=>by
  let c:=h x AO;let a:=EB.mp n;let d:=cp a.2 λy b=>by let e:y≠x:=λz=>a.1<|z▸b;exact(mem_erase_of_ne e).mpr<|h y<|A7 _ b
  rw[length_erase_of_mem c]at d;let:=Fp c;rw[Bq];lia
theorem cZ{n:Nat}{l:cc}(h:l.Nodup)(r:∀x∈l,0<=x/\x<n):l.z<=n:=by
 let:=cp (r:=(List.range n).map λi:Nat=>(i:Int)) h λx a=>by let:=r x a;exact A3.mpr #[x.toNat,Ad.mpr (),()]
 simpa using this
theorem len_eq{α:Type}[BEq α][LawfulBEq α]{l r:List α}(b:l.Nodup)(a:r.Nodup)(h:∀x,x∈l↔x∈r):l.z=r.z:=
 Lk (cp b λx=>(h x).mp) (cp a λx=>(h x).mpr)
theorem eI(h:n<=1000):n<sizeLine:=by rw[La];lia
noncomputable def sH(i:Nat)(l:cc):Nat->cc
 | 0=>[]
 | j+1=>sH i l j++(if((i+1+j:Nat):Int)∈l then [((i+1+j:Nat):Int)]else [])
def eL(L:cq):Nat->List (Int×Int)
 | 0=>[]
 | k+1=>eL L k++(sH k (L.getD k [])<|L.z-(k+1)).map λx=>((k:Int),x)
theorem i7{i:Nat}{l:cc}:∀{j:Nat} {x:Int},x∈sH i l j↔(i:Int)<x/\x<(i+1+j:Nat)/\x∈l
 | 0,x=>by simp[sH,Bn,false_iff];ext h;lia
 | j+1,x=>by rw[sH,J3,i7];ext(h:((i+1+j:Nat):Int)∈l);rw[Al h,mem_singleton];constructor;rintro (⟨b,c,a⟩|rfl);exact#[b,(),a];exact#[(),(),h];ext⟨b,c,a⟩;ext(e:x=((i+1+j:Nat):Int));exact .inr e;exact .inl #[b,(),a];rw[Ak h];simp only[Bn,Bu];constructor;ext⟨b,c,a⟩;exact#[b,(),a];ext⟨b,c,a⟩;let:x≠((i+1+j:Nat):Int):=λz=>h<|z▸a;exact#[b,(),a]
theorem iX{i:Nat}{l:cc}:∀j,(sH i l j).Pairwise (·<·)
 | 0=>.nil
 | j+1=>by rw[sH,pairwise_append];refine#[iX j,by split<;>simp,λa d b c=>?_];let:=i7.mp d;split at c;rw[mem_singleton]at c;lia;cases c
theorem kh:∀{l r:cc},l.Pairwise (·<·)->r.Pairwise (·<·)->(∀x,x∈l↔x∈r)->l=r
 | [],[],_,_,_=>rfl
 | [],b::r,_,_,h=>absurd ((h b).mpr AO) A!
 | a::l,[],_,_,h=>absurd ((h a).mp AO) A!
 | a::l,b::r,hl,hr,h=>by
  let#[c,f]:=ML.mp hl;let#[d,g]:=ML.mp hr;let e:a=b:=by ext(z|z:AX.mp<|(h a).mp AO);exact z;ext(y|y:AX.mp<|(h b).mpr AO);exact y.symm;let:=d a z;let:=c b y;lia
  subst e;rw[kh f g λx=>?_];constructor;ext z;ext(y|y:AX.mp<|(h x).mp<|A7 _ z);let:=c x z;lia;exact y;ext z;ext(y|y:AX.mp<|(h x).mpr<|A7 _ z);let:=d x z;lia;exact y
theorem strict{l:cc}(h:l.Pairwise (·<=·))(n:l.Nodup):l.Pairwise (·<·):=by exact (h.and n).imp λ⟨x,y⟩=>()
theorem Q0{i n:Nat}{l s:cc}(p:s.Perm l)(h:s.Pairwise (·<=·))(d:l.Nodup)(r:∀x∈l,x<n)(e:i<n):s.filter (λx=>decide<|(i:Int)<x)=sH i l (n-(i+1)):=by refine kh ((strict h<|p.nodup_iff.mpr d).filter _) (iX _) λx=>?_;rw[Gp,i7,p.mem_iff];simp[Jk];constructor;ext⟨a,b⟩;let:=r x a;exact#[b,(),a];ext⟨a,b,c⟩;exact#[c,a]
theorem zq{i:Nat}{l:cc}:∀j,(sH i l j).z<=j
 | 0=>Xx _
 | j+1=>by rw[sH,Ac];let:=zq (i:=i) (l:=l) j;split<;>simp<;>lia
theorem zr{L:cq}:∀k,(eL L k).z<=k*L.z
 | 0=>Bv _
 | k+1=>by rw[eL,Ac,ZO];let:=zr (L:=L) k;let:=zq (i:=k) (l:=L.getD k [])<|L.z-(k+1);rw[Ks];lia
section
variable {L:cq} {s:Int} {ks ws:cc} {pl k:Nat} {l:cc} {x:Int}
theorem vc:(l++[x]).Nodup↔x∉l/\l.Nodup:=by rw[(MT x l).nodup_iff,nodup_cons]
theorem yd(h:l[k]?=some x)(a:y∈l.take (k+1)):y∈l.take k\/y=x:=by rw[Ir,h]at a;simpa using a
end
end Gm
namespace L2
open PySem PySem.Spec PySem.W PySem.Calls PyProof.Rows HT
section
open PySem.SeqAt
open PySem.AutoSeq1 (wpAny_loadPart')
open PySem.MeetsSeq PySem.MeetsSeq2 PySem.MeetsSeq3
theorem wD(h:IntsAre vs ns)(b:i<ns.z):∃t,vs[i]?=some (.int ns[i] t):=by
 induction h generalizing i with
 | nil=>simp at b
 | cons a t r c=>
  cases i with
  | zero=>exact#[t,rfl]
  | succ i=>
   let#[u,d]:=c (~~~b);exact#[u,~~~d]
theorem zeD(l b:Addr)(us vs:Array Value)(C H:Nat)(z F:Option Addr)(J s2:Array<|Option Value)(c a:cc)(I:IntsAre us.toList c)(G:IntsAre vs.toList a)(k:Nat) :
  ∀i:Nat,us.size-i=k->i<=c.z->i<=a.z->Meets (Builtin.«list.__eq__.loop» #[[.ref l,.ref b,rawInt i,rawInt 0],[]])
   (λA R s=>s.heap.get? l=some { cls:=.type "list",dict:=z,data:=.seq us C,slots:=J }/\
    s.heap.get? b=some { cls:=.type "list",dict:=F,data:=.seq vs H,slots:=s2 }/\R (.ok<|.ret<|.bool<|cx (c.drop i)<|a.drop i) s):=by
 let Q:us.size=c.z:=by rw[<-I.z];simp
 let S:vs.size=a.z:=by rw[<-G.z];simp
 let stop:∀i,i<=c.z->i<=a.z->¬(i<c.z/\i<a.z)->cx (c.drop i) (a.drop i)=decide (us.size<vs.size):=λi n m B=>by ext(q:i<c.z);let N:a.drop i=[]:=drop_eq_nil_of_le ();rw[N,I9 q,qK];exact(BQ ()).symm;rw[drop_eq_nil_of_le ()];ext(L:i<a.z);rw[I9 L,qJ];exact(BG ()).symm;erw[drop_eq_nil_of_le (),sL,(BQ ()).symm]
 let ends:∀i,i<=c.z->i<=a.z->¬(i<c.z/\i<a.z)->Meets (Builtin.«list.__eq__.loop» #[[.ref l,.ref b,rawInt i,rawInt 0],[]])
   (λA R s=>s.heap.get? l=some { cls:=.type "list",dict:=z,data:=.seq us C,slots:=J }/\
    s.heap.get? b=some { cls:=.type "list",dict:=F,data:=.seq vs H,slots:=s2 }/\R (.ok<|.ret<|.bool<|cx (c.drop i)<|a.drop i) s):=by
  ext i n m B prog w A R s h;let e:=stop i n m B;let#[t,g,d,v,y]:=s;let#[j,f,h]:=h;rw[e]at h
  wp_walk using GG f,GG j
  ext(q:i<us.size);let o:us[((i:Nat):Int).toNat]?=some us[i]:=by simp[q]
  let r:vs[((i:Nat):Int).toNat]?=none:=by simp;lia
  rw[o,r]
  wp_walk using GG f,GG j
  exact h;let o:us[((i:Nat):Int).toNat]?=none:=by simp;lia
  rw[o]
  wp_walk using GG f,GG j
  exact h
 induction k with
 | zero=>exact λi M n m=>ends i n m ()
 | succ k K=>
  ext i M n m;ext(E:i<a.z);let p:i<c.z:=();ext prog w A R s h;let#[t,g,d,v,y]:=s;let#[j,f,h]:=h;let#[u,e1]:=wD I p;let#[t2,e2]:=wD G E;let o:us[((i:Nat):Int).toNat]?=some (.int c[i] u):= ~~~e1
  let r:vs[((i:Nat):Int).toNat]?=some (.int a[i] t2):= ~~~e2
  rw[I9 p,I9 E,fS]at h
  wp_walk using GG f,GG j
  rw[o,r];let#[e,P,D]:=zbZ A.in1 #[t,g,d,v,y] c[i] u a[i] t2;refine UA<|P prog w _ _ ?_;let O:((i:Int)+1)=((i+1:Nat):Int):=();cases e with
  | true=>
   rw[Al<|D.mp rfl]at h
   wp_walk
   rw[O];refine#[GB plain_eq_loop _,Im entry_eq_loop ?_];erw[Io plain_eq_loop _,K (i+1) () () () prog w A R _ #[j,f,h]]
  | false=>
   rw[Ak<|λq=>absurd (D.mpr q) Bj]at h
   wp_walk using GG f,GG j
   rw[o,r];let x:=zdR A.in1 #[t,g,d,v,y] c[i] u a[i] t2 prog w
   wp_walk using x
   exact h
  exact ends i n m ()
theorem lD(l b:Addr)(us vs:Array Value)(j e:Nat)(f n:Option Addr)(m s2:Array<|Option Value)(a c:cc)(o:IntsAre us.toList a)(p:IntsAre vs.toList c) :
  Meets (Builtin.«list.__lt__» #[[.ref l,.ref b],[]])
   (λA R s=>s.heap.get? l=some { cls:=.type "list",dict:=f,data:=.seq us j,slots:=m }/\
    s.heap.get? b=some { cls:=.type "list",dict:=n,data:=.seq vs e,slots:=s2 }/\R (.ok<|.ret<|.bool<|cx a c) s):=by
 ext prog w A R s h;let#[q,g,d,r,u]:=s;let#[i,k,h]:=h;let t:=AutoSeq1.sub_list_list
 wp_walk using GG k,GG i
 refine#[GB plain_eq_loop _,Im entry_eq_loop ?_];erw[Io plain_eq_loop _,zeD l b us vs j e f n m s2 a c o p _ 0 rfl (Bv _) (Bv _) prog w A R _ #[i,k,h]]
end
theorem zcA(k:s.heap.IsList l us)(q:s.heap.IsList b vs)(m:IntsAre us.toList ns)(u:IntsAre vs.toList ms)(n:A.units<cLine)(h:Q (.bool<|cx ns ms) s) :
  wpAny (model prog w) A (compareOp .Lt (.ref l)<|.ref b) Q E s:=by
 let#[#[v,j,z,p],e,f,o,d]:=id k;let#[#[x,r,y,t],a,g,i,c]:=id q;dsimp only at f d g c;subst f d g c;exact richCompare_meets_room (op:=.Lt) #[_,e,rfl] #[_,a,rfl] Ms PySem.F.entry_list_lt (PySem.F.args_list_lt_2 _ _) (lD l b us vs o i j r p t ns ms m u)
  #[e,a,show Value.bool (cx ns ms)≠Value.notImplemented/\Q (.bool<|cx ns ms) s from#[nofun,h]] n
theorem yZ(k:s.heap.IsList l us)(q:s.heap.IsList b vs)(m:IntsAre us.toList ns)(u:IntsAre vs.toList ms)(n:A.units<cLine)(h:Q (cx ns ms) s) :
  wpAny (model prog w) A (oneLt' true (.ref l)<|.ref b) Q E s:=by
 let#[#[v,j,z,p],a,e,o,d]:=id k;let#[#[x,r,y,t],i,f,g,c]:=id q;dsimp only at e d f c;subst e d f c;rw[oneLt'_eq];simp[if_true];refine UA<|wpAny_cRoomFor n<|UA<|wpAny_callSpecialIfBound?_slot #[_,a,rfl] Ms<|HK Ms #[_,a,rfl] PySem.F.entry_list_lt (PySem.F.args_list_lt_2 _ _) (lD l b us vs o g j r p t ns ms m u) #[a,i,?_];exact Ih h
theorem oV:∀a:cc,cx a a=false
 | []=>rfl
 | x::a=>fS>>Al rfl>>oV a
theorem lex_trans:∀{a b c:cc},cx a b=true->cx b c=true->cx a c=true
 | [],[],_,h,_=>by cases h
 | [],_::_,[],_,h=>by cases h
 | [],_::_,_::_,_,_=>rfl
 | _::_,[],_,h,_=>by cases h
 | _::_,_::_,[],_,h=>by cases h
 | x::a,y::b,z::c,h1,h2=>by rw[fS]at h1 h2 ⊢;ext(e1:x=y);subst e1;ext(e2:x=z);subst e2;rw[Al rfl]at h1 h2 ⊢;exact lex_trans h1 h2;rw[Ak e2]at h2 ⊢;exact h2;rw[Ak e1]at h1;let e:=Eb h1;ext(e2:y=z);subst e2;rw[Ak e1];exact h1;rw[Ak e2]at h2;let d:=Eb h2;erw[Ak (),BG ()]
theorem lF:∀{a b:cc},cx a b=false->cx b a=false->a=b
 | [],[],_,_=>rfl
 | [],_::_,h,_=>by cases h
 | _::_,[],_,h=>by cases h
 | x::a,y::b,h1,h2=>by rw[fS]at h1 h2;ext(e:x=y);subst e;rw[Al rfl]at h1 h2;rw[lF h1 h2];rw[Ak e]at h1;rw[Ak<|λz=>e z.symm]at h2;let d:=Hu h1;let c:=Hu h2;lia
theorem zh{a b:cc}(h:cx a b=true):cx b a=false:=by
 cases q:cx b a with
 | false=>rfl
 | true=>have:=lex_trans h q;rw[oV]at this;cases this
def Le(a b:cc):Prop:=cx b a=false
theorem Le.refl(a:cc):Le a a:=oV a
theorem Le.trans(f:Le a b)(d:Le b c):Le a c:=by
 unfold Le at *;cases q:cx c a with
 | false=>rfl
 | true=>
  ext(e:cx a b=true);let:=lex_trans q e;rw[d]at this;cases this;let e2:=lF (~~~e) f;subst e2;rw[d]at q;cases q
theorem Le.of_lt{a b:cc}(h:cx a b=true):Le a b:=zh h
theorem Le.W5(d:Le a b)(c:Le b a):a=b:=lF c d
end L2
namespace L2
open PySem PySem.Spec PySem.W PySem.Calls PyProof.Rows
def xN(a:Nat->Nat->(Bool->Shared->Prop)->Shared->Prop)(n:Nat)(f:Nat->cc)(s:Shared):Prop:=∀i j C,i<n->j<n->C (HT.cx (f i)<|f j) s->a i j C s
structure Arr(n:Nat)(p:Array Nat):Prop where
 size:p.size=n
 perm:p.Perm (List.toArray<|List.range n)
noncomputable def kf(f:Nat->cc)(p:Array Nat)(i:Nat):cc:=f<|p.getD i 0
theorem Arr.lt(h:Arr n p)(a:i<n):p.getD i 0<n:=by
 let e:p.getD i 0=p[i]'(h.size>>a):=by simp[Array.getD,h.size,a]
 let m:p[i]'(h.size>>a)∈p:=Array.getElem_mem _;let:=(h.perm.mem_iff).mp m;rw[e];simpa using this
theorem kf_at(h:p[i]?=q[j]?):kf f p i=kf f q j:=by unfold kf;rw[Kl,Kl,h]
theorem Arr.rev(h:Arr n p)(i j:Nat):Arr n<|kas_rev p i j:=#[by unfold kas_rev;erw[mirror_size,h.size],(mirror_perm _ _ _ _).trans h.perm]
theorem Arr.bub(h:Arr n p)(i j:Nat):Arr n<|bubble p i j:=#[bubble_size>>h.size,(bubble_perm _ _ _).trans h.perm]
theorem wu(h:Arr n p)(a:j<=n)(k:Nat):kf f (kas_rev p i j) k=if i<=k/\k<j then kf f p (i+j-1-k)else kf f p k:=by let e:=getElem?_mirror_all (i:=i) (h.size>>a) k;ext(q:i<=k/\k<j);rw[Al q]at e ⊢;exact kf_at e;rw[Ak q]at e ⊢;exact kf_at e
def Up(f:Nat->cc)(p:Array Nat)(m:Nat):Prop:=∀i,i+1<m->Le (kf f p i) (kf f p<|i+1)
def Dn(f:Nat->cc)(p:Array Nat)(m:Nat):Prop:=∀i,i+1<m->Le (kf f p<|i+1) (kf f p i)
theorem Up.le(h:Up f p m)(c:i<=j)(a:j<m):Le (kf f p i)<|kf f p j:=by
 induction j with
 | zero=>
      obtain rfl:i=0:=();exact Le.refl _
 | succ j b=>
  ext(e:i=j+1);rw[e];exact Le.refl _;exact(b () ()).trans<|h j a
theorem Dn.le(h:Dn f p m)(c:i<=j)(a:j<m):Le (kf f p j)<|kf f p i:=by
 induction j with
 | zero=>
      obtain rfl:i=0:=();exact Le.refl _
 | succ j b=>
  ext(e:i=j+1);rw[e];exact Le.refl _;exact(h j a).trans<|b () ()
theorem BZ(d:xN cmp n f s){p:Array Nat}(c:Arr n p){Q:Nat->Shared->Prop}:∀(b m:Nat),1<=m->m+b<=n->Up f p m->(∀a,m<=a->a<=m+b->Up f p a->(a=m+b\/HT.cx (kf f p a) (kf f p<|a-1)=true)->Q a s)->(kas_asc p b m).kasWp cmp Q s
 | 0,m,_,_,u,k=>k m (Xx _) (Xx _) u<|.inl rfl
 | b+1,m,h1,h2,u,k=>by
  refine d _ _ _ (c.lt ()) (c.lt ()) ?_;show(if _ then _ else _:KasT Nat).kasWp cmp Q s;cases q:HT.cx (f<|p.getD m 0) (f<|p.getD (m-1) 0)with
  | true=>rw[Al rfl];exact k m (Xx _) () u<|.inr q
  | false=>
   rw[Ak A?];refine BZ d c b (m+1) () () (λi j=>?_) λa o l h g=>k a () () h<|g.imp (λz=>()) id;ext(e:i+1=m);let:i=m-1:=();rw[e,this];exact q;exact u i ()
def Flt(f:Nat->cc)(p:Array Nat)(m q:Nat):Prop:=∀i,m-(q+1)<=i->i<m->kf f p i=kf f p (m-1)
theorem qg(a:Arr n p)(b:m<=n)(c:q+1<=m)(h:Flt f p m q)(k:Nat):kf f (kas_rev p (m-(q+1)) m) k=kf f p k:=by rw[wu a b];ext(e:m-(q+1)<=k/\k<m);rw[Al e,h _ () (),<-h k e.1 e.2];rw[Ak e]
theorem pA(w:xN cmp n f s){Q:Array Nat×Nat×Nat->Shared->Prop}:∀(o:Nat) (p:Array Nat) (m q:Nat),Arr n p->1<=m->m+o<=n->q+1<=m->Dn f p m->Flt f p m q->
  (∀g h l,Arr n g->1<=h->h<=m+o->l+1<=h->Dn f g h->Flt f g h l->Q (g,h,l) s)->(kas_desc o p m q).kasWp cmp Q s
 | 0,p,m,q,hp,h1,_,hq,d,fl,k=>k p m q hp h1 (Xx _) hq d fl
 | o+1,p,m,q,hp,h1,h2,hq,d,fl,k=>by
  refine w _ _ _ (hp.lt ()) (hp.lt ()) ?_;show(if _ then _ else _:KasT _).kasWp cmp Q s;cases c:HT.cx (f<|p.getD m 0) (f<|p.getD (m-1) 0)with
  | true=>
   rw[Al rfl];let A:∀g,(∀j,kf f g j=kf f p j)->Dn f g (m+1):=λg e i C=>by
    rw[e,e];ext(z:i+1=m);let:i=m-1:=();rw[z,this];exact Le.of_lt c;exact d i ()
   let y:∀g,Flt f g (m+1) 0:=λg i a b=>by
    let:i=m:=();rw[this];rfl
   ext(z:q > 0);rw[Al z];refine pA w o _ (m+1) 0 (hp.rev _ _) () () () (A _ λj=>qg hp () hq fl j) (y _) λg h l x v B u t r=>k g h l x v () u t r;rw[Ak z];refine pA w o _ (m+1) 0 hp () () () (A _ λ_=>rfl) (y _) λg h l x v B u t r=>k g h l x v () u t r
  | false=>
   rw[Ak A?];refine w _ _ _ (hp.lt ()) (hp.lt ()) ?_;show(if _ then _ else _:KasT _).kasWp cmp Q s;cases c2:HT.cx (f<|p.getD (m-1) 0) (f<|p.getD m 0)with
   | true=>rw[Al rfl];exact k p m q hp h1 () hq d fl
   | false=>
    rw[Ak A?];let e:kf f p m=kf f p (m-1):=lF c c2;refine pA w o p (m+1) (q+1) hp () () () (λi C=>?_) (λi a b=>?_) λg h l x v B u t r=>k g h l x v () u t r;ext(z:i+1=m);let:i=m-1:=();rw[z,this,e];exact Le.refl _;exact d i ();rw[Jn];ext(z:i=m);rw[z];rw[fl i () (),e]
theorem ye(h:xN cmp n f s)(b:Arr n p)(g:1<=m)(e:m<=n)(d:Dn f p m)(k:∀a c,Arr n c->a<=n->1<=a->Up f c a->Q (a,c) s):(kas_tail3 m n p).kasWp cmp Q s:=by unfold kas_tail3;rw[LD];refine BZ h (b.rev 0 m) (n-m) m g () (λi o=>?_) λa q l j _=>k a _ (b.rev 0 m) () () j;erw[wu b e,wu b e,Al (),Al (),d.le () ()]
theorem oz(h:xN cmp n f s)(r:Arr n p)(v:m+1<=n)(w:1<=m)(d:Dn f p<|m+1)(k:∀c e,Arr n e->c<=n->1<=c->Up f e c->Q (c,e) s):(kas_descPart m n p).kasWp cmp Q s:=by
 unfold kas_descPart;rw[LD];refine pA h (n-(m+1)) p (m+1) 0 r () () () d (λi a b=>?_) λe c t g q x o l j=>?_;let:i=m:=();rw[this];rfl;ext(z:t > 0);rw[Al z];refine ye h (g.rev _ _) q () (λi u=>?_) k;rw[qg g () o j,qg g () o j];exact l i u;erw[Ak z,ye h g q () l k]
theorem zeI(h:xN cmp n f s)(a:Arr n p)(u:1<=n)(k:∀b q,Arr n q->b<=n->1<=b->Up f q b->Q (b,q) s):(kas_count n p).kasWp cmp Q s:=by
 unfold kas_count;rw[LD];refine BZ h a (n-1) 1 (Xx _) () (λi d=>()) λm l t o r=>?_;ext(z:m=n);rw[Al<|~~~z];exact k m p a () l o;rw[Ak<|~~~z];let st:=r.resolve_left ();ext(y:m > 1);rw[Al y];refine h _ _ _ (a.lt ()) (a.lt ()) ?_;show(if _ then _ else _:KasT _).kasWp cmp Q s;cases c:HT.cx (f<|p.getD 0 0) (f<|p.getD (m-1) 0)with
 | true=>rw[Al rfl];exact k m p a () l o
 | false=>
  rw[Ak A?];let g:∀i,i<m->kf f p i=kf f p (m-1):=λi d=>Le.W5 (o.le () ())<|Le.trans (show Le (kf f p<|m-1) (kf f p 0)from c)<|o.le (Bv _) d;let rv:∀j,kf f (kas_rev p 0 m) j=kf f p j:=λj=>by rw[wu a ()];ext(e:0<=j/\j<m);rw[Al e,g _ (),<-g j e.2];rw[Ak e]
  refine oz h (a.rev 0 m) () l (λi d=>?_) k;rw[rv,rv];ext(e:i+1=m);let:i=m-1:=();rw[e,this];exact Le.of_lt st;erw[g i (),g (i+1) (),Le.refl _]
 rw[Ak y];refine oz h a () l (λi d=>?_) k;let:i+1=m:=();let e2:i=m-1:=();erw[this,e2,Le.of_lt st]
theorem qk(j:xN cmp n f s){p:Array Nat}(e:Arr n p){k:Nat}(h:k<n)(u:Up f p k){Q:Nat->Shared->Prop}:∀(d l r:Nat),r-l<=d->l<=r->r<=k->(∀i,i<l->Le (kf f p i) (kf f p k))->(∀i,r<=i->i<k->Le (kf f p k) (kf f p i))->
  (∀g,g<=k->(∀i,i<g->Le (kf f p i) (kf f p k))->(∀i,g<=i->i<k->Le (kf f p k) (kf f p i))->Q g s)->(kas_place p k d l r).kasWp cmp Q s
 | 0,l,r,h1,h2,h3,h4,h5,q=>q l () h4 λi a b=>h5 i () b
 | d+1,l,r,h1,h2,h3,h4,h5,q=>by
  unfold kas_place;ext(z:l>=r);rw[Al z];exact q l () h4 λi a b=>h5 i () b;rw[Ak z];refine j _ _ _ (e.lt h) (e.lt ()) ?_;show(if _ then _ else _:KasT _).kasWp cmp Q s;cases c:HT.cx (f<|p.getD k 0) (f<|p.getD ((l+r) / 2) 0)with
  | true=>
   erw[Al rfl,qk j e h u d l ((l+r) / 2) () () () h4 (λi a b=>Le.trans (Le.of_lt c)<|u.le a b) q]
  | false=>
   erw[Ak A?,qk j e h u d ((l+r) / 2+1) r () () h3 (λi a=>Le.trans (u.le () ())<|show Le (kf f p<|(l+r) / 2) (kf f p k)from c) h5 q]
theorem JT(o:xN cmp n f s){Q:Array Nat->Shared->Prop}:∀(d:Nat) (p:Array Nat) (k:Nat),Arr n p->k+d=n->Up f p k->(∀g,Arr n g->Up f g n->Q g s)->(kas_bin d p k).kasWp cmp Q s
 | 0,p,k,hp,h1,u,q=>q p hp (by erw[<-h1,u])
 | d+1,p,k,hp,h1,u,q=>by
  unfold kas_bin;rw[LD];refine qk o hp () u k 0 k () (Bv _) (Xx _) (λi h=>()) (λi a b=>()) λl v lo r=>?_;let m:∀j,kf f (bubble p k<|k-l) j=if j=l then kf f p k else if l<j/\j<=k then kf f p (j-1)else kf f p j:=λj=>by
   let e:=getElem?_bubble (src:=k) (by rw[hp.size];lia) (k-l) () j;let t:k-(k-l)=l:=();rw[t]at e;ext(a:j=l);rw[Al a]at e ⊢;exact kf_at e;rw[Ak a]at e ⊢;ext(b:l<j/\j<=k);rw[Al b]at e ⊢;exact kf_at e;rw[Ak b]at e ⊢;exact kf_at e
  refine JT o d _ (k+1) (hp.bub _ _) () (λi w=>?_) q;rw[m,m];ext(a:i+1<l);rw[Ak (),Ak (),Ak (),Ak ()];exact u i ();ext(b:i+1=l);rw[Ak (),Ak (),Al b];exact lo i ();ext(c:i=l);rw[Al c,Ak (),Al (),Jn];exact r i () ();rw[Ak c,Al (),Ak (),Al ()];let:i+1-1=(i-1)+1:=();erw[this,u (i-1) ()]
theorem zen(b:xN cmp n f s)(c:1<=n)(q:∀p,Arr n p->Up f p n->Q p s):(kas_sort n).kasWp cmp Q s:=by
 unfold kas_sort;rw[LD];refine zeI b #[by simp,Array.Perm.refl _] c λm p a g d u=>?_;ext(z:m<n);rw[Al z];let e:max m 1=m:=();rw[e];exact JT b (n-m) p m a () u q;rw[Ak z];let e:m=n:=();exact q p a<|e▸u
def gO(h:Heap)(vs:bc)(f:Nat->cc):Prop:=∀i,i<vs.z->∃b us,vs[i]?=b.j/\h.IsList b us/\IntsAre us.toList (f i)
theorem gO.keep(r:gO h vs f)(k:∀(i:Nat) (b:Addr),vs[i]?=b.j->∀o,h.get? b=some o->h'.get? b=some o):gO h' vs f:=λi a=>by let#[b,us,e,l,q]:=r i a;exact#[b,us,e,l.at λo z=>k i b e o z,q]
noncomputable def gT(vs:bc)(p:Array Nat):Array Value:=List.toArray<|p.toList.map λi=>vs.getD i Value.none
theorem tX(vs:bc):gT vs (List.toArray<|List.range vs.z)=vs.toArray:=by unfold gT;congr 1;apply Gx;ext i;rw[AY];ext(h:i<vs.z);simp[h];simp[h]
theorem B7:∀l:bc,(l.zip l).map (λx=>x.snd)=l
 | []=>rfl
 | x::l=>by rw[zip_cons_cons,Ap,B7 l]
noncomputable def zd(h:Heap)(a:Addr)(vs:bc):Heap:=((h.update a<|Obj.mapSeq λ_=>#[]).push<|seqObj "tuple" vs.toArray 0).push<|seqObj "list" #[] 0
theorem zeM(c:b≠a)(e:h.get? b=some o):(zd h a vs).get? b=some o:=by let l:=AL e;unfold zd;rw[MD,MD,Heap.get?_update_ne _ _ _ _ c];exact e;rw[LG];exact D7 l;erw[size_push',LG,D7<|Gg l]
theorem NJ(a:gO s.heap vs f)(g:A.units<cLine):xN (kas_cmp prog w A oneType'<|pairsOf vs) vs.z f s:=by
 ext i j C e m c;let#[b1,o,e1,d,h]:=a i e;let#[b2,u2,e2,l,b]:=a j m;rw[<-kas_ask_eq];unfold kas_ask;let k:vs.getD i Value.none=.ref b1:=by rw[su,e1];rfl
 let n:vs.getD j Value.none=.ref b2:=by rw[su,e2];rfl
 erw[k,n,keyLt'_oneType,yZ d l h b g c]
theorem zel(ho:s.heap.get? a=some (seqObj "list" vs.toArray n))(R:vs.z<64)(Z:A.units<cLine)(O:gO s.heap vs f)(X:∀(i:Nat) (b:Addr),vs[i]?=b.j->b≠a)(k:∀p:Array Nat,Arr vs.z p->Up f p vs.z->P (.done<|.ret .none) { s with heap:=sortedHeap s.heap a vs (gT vs p) }) :
  wpAny (model prog w) A (Builtin.«list.sort» #[[.ref a],[]]) P E s:=by
 let m:vs.z<=sizeLine:=by rw[FN];lia
 obtain⟨C,h⟩:∃C,(s.heap.update a<|Obj.mapSeq λ_=>#[]).get? a=some (seqObj "list" #[] C):=#[_,get?_update_seq ho<|λ_=>#[]];let r:(zd s.heap a vs).get? a=some (seqObj "list" #[] C):=BN _<|BN _ h;let F:gO (zd s.heap a vs) vs f:=O.keep λi b e o z=>zeM (X i b e) z;rw[list_sort_plain];refine UA<|listItems_at ho rfl<|UA<|listUpdate_at ho rfl (UA<|seqEpoch_at h rfl<|UA<|wpAny_newTuple (UA<|wpAny_newList (Fi ?_)<|Bv _) m) (Cj>>m)<|Bv _;show wpAny (model prog w) A _ P E { s with heap:=zd s.heap a vs };dsimp only;ext(c:vs.toArray.size<2);rw[Al c,Al c];refine UA<|A8 ?_;rw[StateT.run_pure];refine UA<|A8<|UA<|seqEpoch_at r rfl ?_;let t:(arrOf<|SortSt.mk' general' (vs.toArray.zip vs.toArray) #[] 7 none).map (·.2)=gT vs (List.toArray<|List.range vs.z):=by rw[tX];show(vs.toArray.zip vs.toArray).map (·.2)=vs.toArray;apply Array.ext';simp;exact B7 vs
 dsimp only;rw[t];refine UA (listUpdate_at r rfl ?_ (Bv _)<|tX>>Cj>>N0 m);simp only[bne_self_eq_false,Fv,F8];refine A8<|k _ (#[by simp,Array.Perm.refl _]) λi B=>?_;rw[Cj]at c;lia;rw[Ak c,Ak c];let H:2<=vs.z:=by rw[Cj]at c;lia
 refine UA<|kas_kind (T:=.type "list") H (λv S=>?_) rfl rfl ?_;let#[i,B,rfl]:=Eg.mp S;let#[b,us,e,l,q]:=F i B;rw[me B]at e;rw[BV e];let#[o,z1,z2,z3]:=l;ext A' Q' E' d K I;exact Kr (T:= "list") #[o,K _ _ z1,z2] I;let y:SortSt.mk' oneType' (vs.toArray.zip vs.toArray) #[] 7 none=kas_st oneType' (pairsOf vs) (List.toArray<|List.range vs.z):=by let e:=kas_range<|pairsOf vs;rw[pairsOf_size]at e;unfold kas_st;rw[e];rfl
 let g:=kas_runs (prog:=prog) (w:=w) (A:=A) (κ:=oneType') (it:=pairsOf vs) (E:=E) (Q:=λ_ j d=>d={ s with heap:=zd s.heap a vs }/\∃p:Array Nat,Arr vs.z p/\Up f p vs.z/\arrOf j=p.map (kas_item<|pairsOf vs)/\failedOf j=none)
  (G:=λp d=>d={ s with heap:=zd s.heap a vs }/\Arr vs.z p/\Up f p vs.z) H R (λY j d a1 L W x=>#[x.1,Y,x.2.1,x.2.2,L,W]) (zen (NJ (s:={ s with heap:=zd s.heap a vs }) F Z) () λp N J=>#[rfl,N,J])
 rw[<-y]at g;refine UA<|EW g ?_ λ_ _ e=>e;ext⟨⟨⟩,j⟩ d ⟨rfl,p,D,M,u,hf⟩;dsimp only;let t:(arrOf j).map (·.2)=gT vs p:=by unfold gT;apply Array.toList_inj.mp;rw[u,Array.map_map,Array.toList_map];refine EU λi _=>?_;rw[Function.comp_apply,kas_item_eq]
 rw[t];let U:(gT vs p).size=vs.z:=by unfold gT;rw[Cj,ZO,Fs,D.size]
 refine UA (seqEpoch_at r rfl<|UA<|listUpdate_at r rfl ?_ (Bv _)<|U>>N0 m);rw[hf];simp only[bne_self_eq_false,Fv,F8];exact A8<|k p D M
theorem zcE(v:s.heap.IsList l vs.toArray)(B:vs.z<64)(x:A.in1.in1.units<cLine)(m:gO s.heap vs f)(k:∀p:Array Nat,Arr vs.z p->Up f p vs.z->Q (.ref<|s.c+1) { s with heap:=sortedAll s.heap vs (gT vs p) }) :
  wpAny (model prog w) A (call (.builtin "sorted") [.ref l]) Q E s:=by
 let j:vs.z<=sizeLine:=by rw[FN];lia
 refine Calls.call_function_entry kind_sorted plain_sorted entry_sorted (args_sorted1 _) ?_;unfold Builtin.«sorted»;refine UA<|A8<|UA<|collect_list v (UA<|wpAny_newList ?_ j) j;generalize a:(s.heap.push<|seqObj "list" #[] 0).update s.c (Obj.mapSeq (·++vs.toArray))=g;let d:g.e=s.c+1:=by rw[<-a,LG,size_push']
 let r:(g.push<|seqObj "list" vs.toArray 0).get? (s.c+1)=some (seqObj "list" vs.toArray 0):=by erw[<-d,EL _ rfl]
 let h:∀b o,s.heap.get? b=some o->(g.push<|seqObj "list" vs.toArray 0).get? b=some o:=λb o q=>by let c:=AL q;erw[MD _ _ _ (by erw[d,D7<|Gg c]),<-a,Heap.get?_update_ne _ _ _ _<|D7 c,MD _ _ _<|D7 c,q]
 rw[d];refine UA<|Fi<|KY slot_list_sort #[_,r,rfl] entry_list_sort (zel r B x (m.keep λi b e o z=>h b o z) (λi b e=>?_) λp t y=>#[_,rfl,?_])<|args_list_sort _;let#[u,_]:=AA.mp e;let#[C,us,n,#[o,z,_],_]:=m i u;rw[e]at n;cases n;exact D7<|Gg<|AL z;refine A8 #[_,rfl,?_];let:=k p t y;unfold sortedAll at this;rwa[a]at this
section
variable {A:Around} {R:Result->Shared->Prop} {n:Nat} {P:Nat->Value->Prop} {St:Nat->Heap->Prop} {Kp:Heap->Prop} {bt:Nat->Nat->Bool}
def P8(prog:Program)(w:World)(A:Around)(P:Nat->Value->Prop)(Kp:Heap->Prop)(bt:Nat->Nat->Bool):Prop:=
 ∀(i j:Nat) (x y:Value) (t:Shared) (Q E:bo),P i x->P j y->Kp t.heap->Q (.bool<|bt i j) t->wpAny (model prog w) A (richCompare .Lt x y) Q E t
theorem zat(W:Walks prog w A.in1 I fp wr n P St)(N:P8 prog w A.in1 P Kp bt)(C:S∉fp)(G:∀h h',Kp h->(∀b o,b∉wr->b≠S->h.get? b=some o->h'.get? b=some o)->Kp h') :
  ∀(k j:Nat) (t:Shared) (x:Value) (c:Nat),n-(j+1)=k->j+1<=n->St (j+1) t.heap->Kp t.heap->P (argBest bt j) x->t.heap.get? S=some { cls:=.type "list",dict:=none,data:=.seq #[x,x,] c,slots:=#[] }->
  (∀v h' i,P (argBest bt<|n-1) v->(∀b o,b∉wr->b≠S->t.heap.get? b=some o->h'.get? b=some o)->R (.ok<|.ret v) { t with heap:=h',toks:=i })->codeAny (model prog w) A (.builtin "min.loop" #[[.ref I,.none,.ref S],[]]) R t:=by
 let y:S∉wr:=λz=>C<|W.sub _ z;let nm:(toString "min"++toString ".loop" : String) = "min.loop":=by decide
 ext k;induction k with
 | zero=>
  ext j t x c M K st H px d g;let J:j+1=n:=();refine Im F.entry_min_loop ?_;rw[Io JQ _];refine UA<|JP d rfl<|UA<|LJ<|W.done t _ _ (J▸st) λh' i a=>?_;let f:=a S _ y d;refine UA<|Ji f rfl<|UA<|L0<|A8<|g x _ i (by erw[<-J,px]) λb o b1 b2 e=>?_;erw[HE _ _<|A6 b2,a b o b1 e]
 | succ k E=>
  ext j t x c M K st H px d g;let m:j+1<n:=();refine Im F.entry_min_loop ?_;rw[Io JQ _];refine UA<|JP d rfl<|UA<|LJ<|W.item (j+1) t _ _ m st λv h' i D B a=>?_;let f:=a S _ y d;let u:=G _ _ H λb o b1 _ e=>a b o b1 e;show wpAny _ A.in1 (tryCatch (holding [v,v]<|richCompare .Lt v x >>= _) _ >>= _) _ _ _;refine UA<|LJ<|Fi<|UA<|N (j+1) (argBest bt j) v x _ _ _ D px u<|UA<|Fi<|Ih<|UA<|L0<|A8 ?_;cases hb:bt (j+1) (argBest bt j)with
  | true=>
   simp[if_true];refine UA<|Ji f rfl<|UA<|L0 ?_;rw[nm];let up:∀b o,b≠S->h'.get? b=some o->(h'.update S<|Obj.mapSeq λ_=>#[v,v,]).get? b=some o:=λb o b2 e=>by erw[HE _ _<|A6 b2,e]
   refine A8 #[GB JQ _,E (j+1) _ v _ () m (W.frame _ _ _ B λb L o e=>up b o (λz=>C<|z▸L) e) (G _ _ u λb o _ b2 e=>up b o b2 e) (by simp[argBest,hb,if_true];exact D) (IA _ f rfl) λs l p r q=>?_];exact g s l p r λb o b1 b2 e=>q b o b1 b2<|up b o b2<|a b o b1 e
  | false=>
   simp[Fv,F8];refine UA<|L0 ?_;erw[nm,A8 #[GB JQ _,E (j+1) _ x c () m B u (by simp[argBest,hb,Fv,F8];exact px) f λs l p r q=>g s l p r λb o b1 b2 e=>q b o b1 b2<|a b o b1 e]]
theorem zt(W:Walks prog w A.in1 I fp wr n P St)(y:P8 prog w A.in1 P Kp bt)(d:S∉fp)(a:∀h h',Kp h->(∀b o,b∉wr->b≠S->h.get? b=some o->h'.get? b=some o)->Kp h')(k:0<n)(st:St 0 t.heap)(s:Kp t.heap)(g:t.heap.get? S=some { cls:=.type "list",dict:=none,data:=.seq #[] c,slots:=#[] })(p:∀v h' i,P (argBest bt<|n-1) v->(∀b o,b∉wr->b≠S->t.heap.get? b=some o->h'.get? b=some o)->R (.ok<|.ret v) { t with heap:=h',toks:=i }):codeAny (model prog w) A (.builtin "min.loop" #[[.ref I,.none,.ref S],[]]) R t:=by
 let nm:(toString "min"++toString ".loop" : String) = "min.loop":=by decide
 refine Im F.entry_min_loop ?_;rw[Io JQ _];refine UA<|JP g rfl<|UA<|LJ<|W.item 0 t _ _ k st λv h' i u r f=>?_;let j:=f S _ (λz=>d<|W.sub _ z) g;show wpAny _ A.in1 (updateSeq S (λ_=>#[v,v,]) >>= _) _ _ _;refine UA<|Ji j rfl ?_;rw[nm];let up:∀b o,b≠S->h'.get? b=some o->(h'.update S<|Obj.mapSeq λ_=>#[v,v,]).get? b=some o:=λb o b2 e=>by erw[HE _ _<|A6 b2,e]
 exact A8 #[GB JQ _,zat W y d a _ 0 _ v _ rfl k (W.frame _ _ _ r λb C o e=>up b o (λz=>d<|z▸C) e) (a _ _ (a _ _ s λb o b1 _ e=>f b o b1 e) λb o _ b2 e=>up b o b2 e) u (IA _ j rfl)
  λq l x m B=>p q l x m λb o b1 b2 e=>B b o b1 b2<|up b o b2<|f b o b1 e]
end
theorem DW(f:Nat->cc):∀k,argBest (λi j=>HT.cx (f i)<|f j) k<=k/\∀j,j<=k->Le (f<|argBest (λi j=>HT.cx (f i)<|f j) k) (f j)
 | 0=>#[Xx _,λj b=>by
                    obtain rfl:j=0:=();exact Le.refl _]
 | k+1=>by
  let#[c,a]:=DW f k;unfold argBest;cases q:HT.cx (f<|k+1) (f<|argBest (λi j=>HT.cx (f i)<|f j) k)with
  | true=>
   rw[Al rfl];refine#[Xx _,λj b=>?_];ext(e:j=k+1);rw[e];exact Le.refl _;exact Le.trans (Le.of_lt q)<|a j ()
  | false=>
   rw[Ak A?];refine#[(),λj b=>?_];ext(e:j=k+1);rw[e];exact q;exact a j ()
theorem zbN(K:A.handled=none)(C:s.heap.IsList l vs.toArray)(T:A.in1.units<cLine)(G:gO s.heap vs f)(L:0<vs.z)(k:∀(i:Nat) (v:Value) h' D,vs[i]?=some v->(∀j,j<vs.z->Le (f i) (f j))->(∀b o,s.heap.get? b=some o->h'.get? b=some o)->Q v { s with heap:=h',toks:=D }) :
  wpAny (model prog w) A (call (.builtin "min") [.ref l]) Q E s:=by
 let nm:(toString "min"++toString ".loop" : String) = "min.loop":=by decide
 let H:l<s.c:=by let#[_,e,_]:=id C;exact AL e
 let a:∀(i:Nat) (b:Addr),vs[i]?=b.j->b<s.c:=λi b e=>by let#[Z,us,J,#[o,z,_],_]:=G i (AA.mp e).1;rw[e]at J;cases J;exact AL z
 refine call_function_tree F.kind_min F.plain_min F.entry_min (F.args_min1 _) ?_;show wpAny _ A.in1 (Builtin.Builtins.bindParams "min" ["key", "default"] 0 #[[],[]] >>= _) _ _ s;refine UA<|IY (show Builtin.Builtins.bindParams "min" ["key", "default"] 0 #[[],[]]=pure [none,none]from rfl)<|UA<|A8<|UA<|MH C<|UA<|K5 ?_;rw[nm];generalize u:s.heap.push { cls:=.type "list_iterator",data:=.fields #[.ref l,.int 0 0,] }=g;let m:g.e=s.c+1:=by rw[<-u,Heap.size_push]
 let n:∀b o,s.heap.get? b=some o->g.get? b=some o:=λb o e=>u▸BN _ e;let U:g.IsListIter s.c l 0:=u▸#[_,EL _ rfl,rfl,rfl];refine A8 #[GB JQ _,zt (Kp:=λh=>gO h vs f) (bt:=λi j=>HT.cx (f i)<|f j) (W:=Walks.list (A:=A.in1) K s.c l (D7 H) vs.toArray) (S:=g.e)
  (λi j x y t Y X px py I q=>?_) (λz=>?_) (λh h' r p=>?_) (~~~L) #[U.at λo e=>BN _ e,C.at λo e=>BN _<|n _ _ e] (G.keep λi b _ o e=>BN _<|n _ _ e) (EL _ rfl) λv h' D N p=>?_]
 let c:vs[i]?=some x:= ~~~px
 let d:vs[j]?=some y:= ~~~py
 let#[b1,u1,e1,P,M]:=I i (AA.mp c).1;let#[b2,u2,e2,O,R]:=I j (AA.mp d).1;rw[c]at e1;rw[d]at e2;cases e1;cases e2;exact zcA P O M R T q;let:g.e=s.c\/g.e=l:= ~~~z
 ext(e|e:this);exact absurd (m.symm.trans e)<|Nat.succ_ne_self _;exact absurd (m.symm.trans e)<|F5<|Gg H;refine r.keep λi b e o z=>p b o (λy=>?_) (λy=>?_) z;let:b=s.c:= ~~~y
 exact absurd (a i b e) (this>>EK _);exact absurd (a i b e) (by erw[y,m,Nat.lt_asymm<|G7 _]);let B:vs[argBest (λi j=>HT.cx (f i)<|f j)<|vs.z-1]?=some v:= ~~~N
 refine k _ v h' D B (λj hj=>(DW f<|vs.z-1).2 j ()) λb o e=>p b o ?_ ?_<|BN _<|n b o e;ext z;let:b=s.c:= ~~~z
 exact absurd (AL e) (this>>EK _);ext z;exact absurd (AL e) (by erw[z,m,Nat.lt_asymm<|G7 _])
theorem yo:∀(l:cc) (x:Int),(l++[x]).sum=l.sum+x
 | [],x=>by simp
 | y::l,x=>by rw[GJ,Ek,Ek,yo l x];lia
theorem ua:∀(l:cc) (y:Int) (m:Nat) (h:m<l.z),m<l.idxOf y->l[m]≠y
 | [],_,m,h,_=>by simp at h
 | z::l,y,m,h,hm=>by
  rw[K1]at hm;ext(e:z=y);rw[e]at hm;simp at hm;rw[Lj e]at hm;cases m with
  | zero=>exact e
  | succ m=>
   let a:m<l.z:= ~~~h
   let b:m<l.idxOf y:= ~~~hm
   exact ua l y m a b
theorem Cz{σ:St}{s:Shared}(I:Inv X pins σ H s):∀{b:bf} {L:cq} {c:bc},Vals b.i c->b.z=L.z->(∀(i:Nat) (a:Addr) (l:cc),b[i]?=some a->L[i]?=some l->bH X.K H a l.f)->gO s.heap c (λi=>L.getD i []):=by
 ext b L c rv o k i p;let z:=rv.z;rw[ZO]at z;let d:i<b.z:=();let f:i<L.z:=();let#[u,h,g]:=rv.get (show(b.i)[i]?=some (V.ref b[i])by simp[d]);cases g;let#[n,m,j,_]:=I.list (k i b[i] L[i] (by simp[d])<|by simp[f]);refine#[b[i],n.toArray,h,j.isList,?_];let e:L.getD i []=L[i]:=by simp[f]
 dsimp only;erw[e,intsAre_of m]
noncomputable def pick{α:Type}(d:α)(L:List α)(p:Array Nat):List α:=p.toList.map λi=>L.getD i d
def yK(K:Frag):List V->Hp->VK->Prop:=λvs H Q=>∃(a:Addr) (c:bf) (L:cq),vs=[.ref a]/\bH K H a c.i/\c.z=L.z/\(∀(i:Nat) (b:Addr) (l:cc),c[i]?=some b->L[i]?=some l->bH K H b l.f)/\c.z<64/\
 ∀(p:Array Nat) (q:Addr),Arr L.z p->Up (λi=>L.getD i []) p L.z->H q=none->Q (.ref q) (upd H q<|.lst<|(pick 0 c p).i)
theorem xA(x:X.A.units+64<cLine):dC X (.builtin "sorted")<|yK X.K:=by
 ext pins s σ H xs us Q I r h;let#[a,c,L,rfl,C,n,J,O,q]:=h;let#[u,rfl,k]:=vals1 r;cases k;let#[d,rv,pl,hz]:=I.list C;let z:=rv.z;rw[ZO]at z;refine zcE pl.isList () (by simp[Around.in1_units];lia) (Cz I rv n J) λp g y=>?_;let#[E,N]:=sortedAll_at s.heap d<|gT d p;let G:Arr L.z p:=by erw[<-n,z,g]
 let F:((pick 0 c p).i).z<=sizeLine:=by unfold pick;rw[ZO,ZO,Fs,g.size,La];lia
 let m:Vals ((pick 0 c p).i) (gT d p).toList:=by
  let M:∀l:List Nat,(∀i∈l,i<d.z)->Vals ((l.map λi=>c.getD i 0).i) (l.map λi=>d.getD i Value.none):=by
   ext l;induction l with
   | nil=>intro _;exact .nil
   | cons i l B=>
    ext h;refine .cons ?_<|B λj D=>h j<|A7 _ D;let v:=h i AO;let t:i<c.z:=();let#[u,x,k]:=rv.get (show(c.i)[i]?=some (V.ref c[i])by simp[t]);let e1:c.getD i 0=c[i]:=by simp[t]
    let e2:d.getD i Value.none=u:=by rw[su,x];rfl
    dsimp only;erw[e1,e2,k]
  refine M _ λi v=>?_;let:=(g.perm.mem_iff).mp<|Array.mem_toList_iff.mp v;simpa using this
 let f:aY X.prog X.w (upd H (s.c+1)<|.lst<|(pick 0 c p).i) (sortedAll s.heap d<|gT d p) (s.c+1)<|.lst<|(pick 0 c p).i:=#[F,(gT d p).toList,E,m,by simpa[seqObj]using N];exact#[.ref<|s.c+1,_,I.laid (λb o e=>sortedAll_old e) (IZ _) f,rfl,q p _ G (by erw[<-n,z,y])<|I.bu.fresh<|IZ _]
def OP(K:Frag):List V->Hp->VK->Prop:=λvs H Q=>∃(a:Addr) (c:bf) (L:cq),vs=[.ref a]/\bH K H a c.i/\c.z=L.z/\(∀(i:Nat) (b:Addr) (l:cc),c[i]?=some b->L[i]?=some l->bH K H b l.f)/\0<c.z/\
 ∀(i:Nat) (b:Addr) (l:cc),c[i]?=some b->L[i]?=some l->(∀m∈L,Le l m)->Q (.ref b) H
theorem zcz(x:X.calm=true)(f:X.A.units+64<cLine):dC X (.builtin "min")<|OP X.K:=by
 ext pins s σ H xs us Q I r h;let#[a,b,L,rfl,n,p,w,y,q]:=h;let#[u,rfl,d]:=vals1 r;cases d;let#[B,rv,pl,hz]:=I.list n;let z:=rv.z;rw[ZO]at z;refine zbN (I.ok.hd x) pl.isList (by simp[Around.in1_units];lia) (Cz I rv p w) () λi v h' D k e l=>?_;let C:=(AA.mp k).1;let g:i<b.z:=();let c:i<L.z:=();let#[u,f,d]:=rv.get (show(b.i)[i]?=some (V.ref b[i])by simp[g]);rw[k]at f;cases f;cases d;refine#[.ref b[i],H,I.kept l,rfl,q i b[i] L[i] (by simp[g]) (by simp[c]) λm t=>?_];let#[j,o,rfl]:=Eg.mp t;let:=e j ();let e1:L.getD i []=L[i]:=by simp[c]
 let e2:L.getD j []=L[j]:=by simp[o]
 rwa[e1,e2]at this
noncomputable def CF(K:Frag):List V->Hp->VK->Prop:=λvs H Q=>∃(a:Addr) (b:cc),vs=[.ref a]/\bH K H a b.f/\b≠[]/\∀m,m∈b->(∀x∈b,m<=x)->Q (.int m) H
theorem uG(y:X.calm=true):dC X (.builtin "min")<|CF X.K:=by
 ext pins s σ H xs us Q I r h;let#[a,w,rfl,n,i,q]:=h;let#[u,rfl,g]:=vals1 r;cases g;let#[A,rv,pl,hz]:=I.list n;let c:=intsAre_of rv;let#[xs,e]:=c.allInts.items;let b:w=xs.toList.map (·.1):=by rw[<-c.numsOf,<-nums_intItems,<-e]
 let d:=pl.isList;rw[e]at d;let l:0<xs.size:=by let:=Lu.mpr i;rwa[b,ZO,Fs]at this
 refine min_intList (I.ok.hd y) d l λv h' B m k=>?_;let#[t,rfl]:=intItems_at m;let#[z,p]:=argBest_lt (numAt xs)<|xs.size-1;refine#[.int _,H,I.kept k,#[t,rfl],q _ ?_ λx f=>?_];rw[b,numAt_eq];exact getD_mem (by rw[ZO,Fs];lia);rw[b]at f;let#[j,o,rfl]:=mem_getD f;rw[ZO,Fs]at o;erw[<-numAt_eq,p j ()]
noncomputable def Hn(K:Frag):V->List V->Hp->VK->Prop:=λx vs H Q=>∃(l:Addr) (a:cc) (y:Int),x=.ref l/\vs=[.int y]/\H l=some (.lst a.f)/\y∈a/\Q (.int (a.idxOf y:Nat)) H
theorem zcG:W9 X "list.index"<|Hn X.K:=by
 ext pins s σ H x vs v us Q I A rv h;let#[l,a,y,rfl,rfl,k,o,q]:=h;cases A;let#[u,rfl,t,rfl]:=rv.one;let#[z,c,n,r,J,e]:=I.ze k;let j:=intsAre_of r;let G:=j.z;let B:=qI;let g:=Ci o;rw[ZO]at z;refine let D:Value->Bool:=λv=>match v with | .int i _=>i==y|_=>false;?_
 let b:∀m (f:m<a.z),∃t,c[m]?=some (.int a[m] t):=λm f=>wD j f;refine HK F.slot_list_index #[_,e,rfl] F.entry_list_index (F.args_list_index_2 _ _) (SeqAt.list_indexAt l c.toArray n none #[] (.int y t) D (a.idxOf y) (by rw[Cj];lia) () ?_ ?_) #[e,?_,?_];let#[d,e1]:=b _ g;let:c.toArray[a.idxOf y]'(by rw[Cj];lia)=.int a[a.idxOf y] d:=by let:=(AA.mp e1).2;simpa using this
 rw[this];show(a[a.idxOf y]==y)=true;rw[Ex g];simp;ext m f C;let#[d,e1]:=b m ();let:c.toArray[m]=.int (a[m]'()) d:=by let:=(AA.mp e1).2;simpa using this
 rw[this];show(a[m]'()==y)=false;exact Lj<|ua a y m () C;ext w E;let p:w∈c:= ~~~E
 let#[m,f,rfl]:=Eg.mp p;let#[d,e1]:=b m ();rw[(AA.mp e1).2];exact SeqAt.EqAt.int_int _ _ _ _;exact#[.int (a.idxOf y:Nat),H,I.tok _,#[_,rfl],q]
theorem Ti:bootBuiltins "sum"=some (.builtin "sum"):=by decide +kernel
end L2
namespace Gm
open PySem L2
noncomputable def cy(r:cc)(j:Nat):Int:=r.getD (j%r.z) 0
theorem aH(h:i%r.z=j%r.z):cy r i=cy r j:=by unfold cy;rw[h]
theorem a9(h:j<r.z):cy r j=r[j]:=by unfold cy;rw[AV h];simp[h]
theorem a8(h:0<r.z):cy r j∈r:=by
 let a:=AK j h;let:cy r j=r[j%r.z]:=by unfold cy;simp[a]
 erw[this,ET _]
theorem JV{i:Int}{j:Nat}(h1 : -(r.z:Int)<=i)(d:i<r.z)(e:(j:Int)=i\/(j:Int)=i+r.z):oI r.f i=some (V.int<|cy r j):=by
 unfold oI xP;rw[ZO];ext(c:0<=i);rw[Al c,Al d];let b:i.toNat<r.z:=();let g:j%r.z=i.toNat:=by
  ext(e|e:e);rw[AV ()];lia;let:j=i.toNat+r.z:=();rw[this,Aa,AV b]
 show(r.f)[i.toNat]?=_;unfold cy;rw[g];simp[b];rw[Ak c,Al h1];let f:(i+(r.z:Int)).toNat=j:=();let a:j<r.z:=();show(r.f)[(i+(r.z:Int)).toNat]?=_;rw[f,a9 a];simp[a]
theorem JF(c:r.z=q.z)(h:∀j,cy r j=cy q j):r=q:=by refine IX c λi b a=>?_;let:=h i;rwa[a9 b,a9 a]at this
noncomputable def dX(r:cc)(k:Nat):cc:=r.drop k++r.take k
theorem bQ(h:k<=r.z):(dX r k).z=r.z:=by unfold dX;simp;lia
theorem sS{a b n:Nat}(c:a<n)(d:b<n):(a+b)%n=if a+b<n then a+b else a+b-n:=by ext(h:a+b<n);rw[Al h,AV h];rw[Ak h,Hr (),AV ()]
theorem gN(h:k<r.z)(j:Nat):cy (dX r k) j=cy r (j+k):=by
 let a:=AK j (show 0<r.z by lia);let e:(j+k)%r.z=if j%r.z+k<r.z then j%r.z+k else j%r.z+k-r.z:=by rw[<-sS a h,KO]
 unfold cy;rw[bQ (),e];unfold dX;rw[su,su];congr 1;ext(c:j%r.z+k<r.z);rw[Al c,Eh (by rw[Ey];lia),Hj,Hh];rw[Ak c,Fg (by rw[Ey];lia),Ey,getElem?_take,Al ()];congr 1;lia
theorem vK(b:k<r.z)(d:i<r.z):dX (dX r k) i=dX r ((i+k)%r.z):=by let a:(dX r k).z=r.z:=bQ ();let c:=AK (i+k) (show 0<r.z by lia);refine JF (by rw[bQ (by rw[a];lia),a,bQ ()]) λj=>?_;rw[gN (a>>d),gN b,gN c];refine aH ?_;rw[Ia,Li]
abbrev af:=Int×Int
noncomputable def br(L:cq)(a:Int):cc:=L.getD a.toNat []
def pre(l:cc)(x:Int):Int:=cy l<|l.idxOf x+l.z-1
structure Dt(L:cq)(d:af):Prop where
 lo:0<=d.1
 hi:d.1<L.z
 mem:d.2∈br L d.1
def nx(L:cq)(d:af):af:=(d.2,pre (br L d.2) d.1)
theorem ag(c:0<=a)(b:a<L.z):L[a.toNat]?=some (br L a):=by
 unfold br;let:a.toNat<L.z:=();simp[this]
theorem hJ(h:x∈l):pre l x∈l:=a8<|Fp h
theorem md(h:i<n):(i+n-1)%n=if i=0 then n-1 else i-1:=by
 ext(e:i=0);rw[Al e,e,Fu,AV ()];rw[Ak e];let:i+n-1=(i-1)+n:=();rw[this,Aa,AV ()]
theorem hU(n:l.Nodup)(d:x∈l)(c:y∈l)(h:pre l x=pre l y):x=y:=by
 let ix:=Ci d;let a:=Ci c;let b:0<l.z:=();unfold pre cy at h;let mx:=AK (l.idxOf x+l.z-1) b;let f:=AK (l.idxOf y+l.z-1) b;let e1:l.getD ((l.idxOf x+l.z-1)%l.z) 0=l[(l.idxOf x+l.z-1)%l.z]:=by simp[mx]
 let e2:l.getD ((l.idxOf y+l.z-1)%l.z) 0=l[(l.idxOf y+l.z-1)%l.z]:=by simp[f]
 rw[e1,e2]at h;let e:=(Ez n).mp h;rw[md ix,md a]at e;let g:l.idxOf x=l.idxOf y:=by split at e<;>split at e<;>lia
 rw[<-(Ex ix),<-(Ex a)];congr 1
theorem zcT(h:x∈l):oI l.f ((l.idxOf x:Int)-1)=some (V.int<|pre l x):=by let ix:=Ci h;exact JV () ()<|.inr ()
theorem Dt.back(h:Dt L d)(m:ah L):0<=d.2/\d.2<L.z/\d.2≠d.1/\d.1∈br L d.2:=by let r:=ag h.lo h.hi;let g:=m.rg _ _ r _ h.mem;let e1:=Hx h.lo;refine#[g.1,g.2.1,by rw[e1]at g;exact g.2.2,?_];let:=m.sy _ _ r _ h.mem d.2.toNat () _<|ag g.1 g.2.1;rwa [e1]at this
theorem Dt.nx(h:Dt L d)(m:ah L):Dt L<|nx L d:=by let#[a,b,c,f]:=h.back m;exact#[a,b,hJ f]
theorem dJ(m:ah L)(k:Dt L d)(j:Dt L e)(h:Gm.nx L d=Gm.nx L e):d=e:=by let#[a,b,c,f]:=k.back m;let#[n,l,o,g]:=j.back m;unfold Gm.nx at h;let e2:d.2=e.2:=A4 Prod.fst h;let i:pre (br L d.2) d.1=pre (br L e.2) e.1:=A4 Prod.snd h;rw[<-e2]at i g;exact EF (hU (m.nd _ _<|ag a b) f g i) e2
def cT(L:cq):Nat->List af
 | 0=>[]
 | k+1=>cT L k++(br L k).map λx=>((k:Int),x)
theorem jJ:∀{k:Nat},d∈cT L k↔0<=d.1/\d.1<k/\d.2∈br L d.1
 | 0=>by simp[cT,Bn,false_iff];ext h;lia
 | k+1=>by rw[cT,J3,jJ,mem_map];constructor;rintro (⟨b,c,a⟩|⟨x,hx,rfl⟩);exact#[b,(),a];exact#[by simp,by simp;lia,hx];ext⟨b,c,a⟩;ext(e:d.1=k);right;rw[e]at a;exact#[d.2,a,EF e.symm rfl];left;exact#[b,(),a]
theorem aZ(m:ah L):∀{k:Nat},k<=L.z->(cT L k).Nodup
 | 0,_=>.nil
 | k+1,h=>by rw[cT,J1];refine#[aZ m (),?_,λa d b e z=>?_];exact Gv _ (λx y c z=>c<|A4 Prod.snd z)<|m.nd _ _<|ag (a:=(k:Int)) () ();let:=(jJ.mp d).2.1;let#[x,_,rfl]:=A3.mp e;rw[z]at this;simp at this
theorem Dt.all(h:Dt L d):d∈cT L L.z:=jJ.mpr #[h.lo,h.hi,h.mem]
theorem Dt.of(h:d∈cT L L.z):Dt L d:=by let:=jJ.mp h;exact#[this.1,this.2.1,this.2.2]
def it(L:cq)(d:af):Nat->af
 | 0=>d
 | k+1=>Gm.nx L<|it L d k
theorem qU(m:ah L)(h:Dt L d):∀k,Dt L (it L d k)
 | 0=>h
 | k+1=>(qU m h k).nx m
theorem qV(i:Nat):∀k,it L d (i+k)=it L (it L d i) k
 | 0=>rfl
 | k+1=>by show Gm.nx L (it L d<|i+k)=Gm.nx L (it L (it L d i) k);rw[qV i k]
theorem De(m:ah L)(h:Dt L d){k:Nat}:∀i,it L d i=it L d (i+k)->it L d k=d
 | 0,e=>by rw[Fu]at e;exact e.symm
 | i+1,e=>by rw[Nat.add_right_comm]at e;exact De m h i<|dJ m (qU m h _) (qU m h _) e
def jE(L:cq)(d:af)(k:Nat):Prop:=∀i,0<i->i<k->it L d i≠d
def tr(L:cq)(d:af)(k:Nat):List af:=(List.range k).map<|it L d
theorem pM(m:ah L)(h:Dt L d)(n:jE L d k):(tr L d k).Nodup:=by unfold tr;refine Gv _ (R:=λa b=>a<b/\a<k/\b<k) (λa b c z=>?_) ?_;obtain⟨j,rfl⟩:∃j,b=a+j:=#[b-a,()];exact n j () ()<|De m h a z;refine Jq (λe f c=>#[c,Ad.mp e,Ad.mp f])<|pairwise_lt_range (n:=k)
theorem qB(m:ah L)(h:Dt L d)(n:jE L d k):k<=(cT L L.z).z:=by
 let:=cp (pM m h n) λx a=>by let#[i,_,rfl]:=A3.mp a;exact(qU m h i).all
 simpa[tr]using this
def dj(r:cc)(j:Nat):af:=(cy r j,cy r<|j+1)
structure Good(L:cq)(r:cc):Prop where
 two:2<=r.z
 dt:∀j,Dt L<|dj r j
 st:∀j,Gm.nx L (dj r j)=dj r (j+1)
def sh(s:Nat)(r:cc):List af:=(List.range r.z).map λj=>dj r<|j+s
theorem aU(h:i%r.z=j%r.z):dj r i=dj r j:=by unfold dj;rw[aH h,aH<|show(i+1)%r.z=(j+1)%r.z by rw[EN,h,<-EN]]
theorem zeQ(r:cc)(s:Nat):(sh (s+1) r).Perm<|sh s r:=by
 unfold sh;cases hn:r.z with
 | zero=>exact Lq _
 | succ n=>
  let e1:(List.range<|n+1).map (λj=>dj r<|j+(s+1))=(List.range n).map (λj=>dj r<|j+(s+1))++[dj r<|n+(s+1)]:=by rw[GI,EE];rfl
  let e2:(List.range<|n+1).map (λj=>dj r<|j+s)=dj r s::(List.range n).map (λj=>dj r<|j+(s+1)):=by rw[Kh,Ap,ED,Fu];congr 1;refine EU λj _=>?_;show dj r (j+1+s)=_;congr 1;lia
  let a:dj r (n+(s+1))=dj r s:=aU (by rw[hn,show n+(s+1)=s+(n+1)by lia,Aa]);erw[e1,e2,a,MT _ _]
theorem gx(r:cc):∀s,(sh s r).Perm (sh 0 r)
 | 0=>Lq _
 | s+1=>(zeQ r s).trans<|gx r s
theorem aF(a:0<r.z):d∈sh s r↔∃j,d=dj r j:=by rw[(gx r s).mem_iff];unfold sh;rw[mem_map];constructor;ext⟨j,_,rfl⟩;exact#[_,rfl];ext⟨j,rfl⟩;exact#[j%r.z,Ad.mpr<|AK _ a,aU<|by rw[EH,EX]]
theorem xc(h:k<r.z)(j:Nat):dj (dX r k) j=dj r (j+k):=by unfold dj;rw[gN h,gN h];congr 2;lia
theorem G3(h:k<r.z):sh 0 (dX r k)=sh k r:=by unfold sh;erw[bQ (),EU λj _=>xc h j]
theorem Good.dX(g:Good L r)(h:k<r.z):Good L<|Gm.dX r k:=by refine#[bQ ()>>g.two,λj=>xc h>>g.dt _,λj=>?_];rw[xc h,xc h,g.st];congr 1;lia
def aI(L:cq)(d:af)(k:Nat):cc:=(List.range k).map λi=>(it L d i).1
theorem R8(e:it L d k=d)(j:Nat):it L d (j+k)=it L d j:=by rw[Hh,qV,e]
theorem Be(e:it L d k=d)(j:Nat):it L d (j%k)=it L d j:=by
 let b:∀q,it L d (j%k+k*q)=it L d (j%k):=by
  ext q;induction q with
  | zero=>rfl
  | succ q a=>rw[Nat.mul_succ,<-Ia,R8 e,a]
 rw[<-b (j / k),Nat.mod_add_div]
theorem DP(a:0<k)(e:it L d k=d)(j:Nat):cy (aI L d k) j=(it L d j).1:=by
 let b:(aI L d k).z=k:=by unfold aI;simp
 unfold cy;rw[b];unfold aI;rw[su,AY,Fy<|AK j a];show(it L d<|j%k).1=_;rw[Be e]
theorem iJ(a:0<k)(e:it L d k=d)(j:Nat):dj (aI L d k) j=it L d j:=by unfold dj;rw[DP a e,DP a e];rfl
theorem tQ(m:ah L)(h:Dt L d)(a:0<k)(e:it L d k=d):Good L<|aI L d k:=by
 refine#[?_,λj=>iJ a e>>qU m h j,λj=>by rw[iJ a e,iJ a e];rfl];let b:(aI L d k).z=k:=by unfold aI;simp
 rw[b];ext(z:k=1);subst z;exact absurd (A4 Prod.fst e)<|(h.back m).2.2.1;lia
theorem zap(m:ah L)(h:Dt L d)(a:0<k)(e:it L d k=d)(n:jE L d k):(sh 0<|aI L d k).Nodup:=by
 let b:(aI L d k).z=k:=by unfold aI;simp
 let:sh 0 (aI L d k)=tr L d k:=by unfold sh tr;erw[b,EU λj _=>by rw[iJ a e,EH]]
 erw[this,pM m h n]
def Kb(r:cc):Prop:=∀k,k<r.z->Le r (dX r k)
theorem zaZ(b:k<r.z)(h:∀j,j<r.z->Le (dX r k) (dX r j)):Kb<|dX r k:=λi a=>by rw[bQ ()]at a;erw[vK b a,h _<|AK _ ()]
structure fe(L R:cq):Prop where
 good:∀r∈R,Good L r
 least:∀r∈R,Kb r
 sorted:R.Pairwise (λa b=>HT.cx a b=true)
 nd:(R.flatMap<|sh 0).Nodup
 all:∀d,Dt L d->d∈R.flatMap (sh 0)
structure Lp(L R:cq)(ks:List af):Prop where
 good:∀r∈R,Good L r
 least:∀r∈R,Kb r
 nd:ks.Nodup
 pm:ks.Perm (R.flatMap<|sh 0)
 two:2*R.z<=ks.z
theorem Lp.start:Lp L [] []:=#[by simp,by simp,.nil,.nil,Xx _]
theorem Lp.dt(p:Lp L R ks)(h:d∈ks):Dt L d:=by let#[r,a,b]:=D8.mp<|p.pm.mem_iff.mp h;let#[j,rfl]:=(aF (by let:=(p.good r a).two;lia)).mp b;exact(p.good r a).dt j
theorem Lp.len(p:Lp L R ks):ks.z<=(cT L L.z).z:=cp p.nd λx a=>(p.dt a).all
theorem Lp.on(p:Lp L R ks)(h:d∈ks):∀t,it L d t∈ks:=by
 ext t;let#[r,b,c]:=D8.mp<|p.pm.mem_iff.mp h;let g:=p.good r b;let a:0<r.z:=by let:=g.two;lia
 let#[j,rfl]:=(aF a).mp c;let e:it L (dj r j) t=dj r (j+t):=by
  induction t with
  | zero=>rfl
  | succ t f=>show Gm.nx L (it L (dj r j) t)=_;rw[f,g.st];rfl
 erw[e,p.pm.mem_iff.mpr<|D8.mpr #[r,b,(aF a).mpr #[_,rfl]]]
theorem Lp.new(p:Lp L R ks)(a:0<k)(e:it L d k=d)(n:d∉ks)(j:Nat):it L d j∉ks:=by ext h;refine n ?_;let:=p.on h<|k*j-j;rw[<-qV,show j+(k*j-j)=k*j from by let:=JZ j a;lia,Gn]at this;let z:=Be e<|j*k;rw[Nat.mul_mod_left]at z;rwa[<-z]at this
theorem Lp.add(m:ah L)(p:Lp L R ks)(h:Dt L d)(f:0<k)(e:it L d k=d)(t:jE L d k)(n:d∉ks)(u:c<k)(q:∀j,j<k->Le (Gm.dX (aI L d k) c) (Gm.dX (aI L d k) j)) :
  Lp L (R++[Gm.dX (aI L d k) c]) (ks++sh (k-1) (aI L d k)):=by
 let o:(aI L d k).z=k:=by unfold aI;simp
 let g:=tQ m h f e;let i:c<(aI L d k).z:=o>>u
 refine#[λr l=>?_,λr l=>?_,?_,?_,?_];ext(z|z:Af.mp l);exact p.good r z;rw[Ax.mp z];exact g.dX i;ext(z|z:Af.mp l);exact p.least r z;rw[Ax.mp z];exact zaZ i (o>>q);rw[J1];refine#[p.nd,((gx _ _).nodup_iff).mpr<|zap m h f e t,λa v b s z=>?_];let#[j,rfl]:=(aF ()).mp s;rw[iJ f e]at z;exact p.new f e n j<|z▸v;rw[I8,flatMap_singleton,G3 i];exact p.pm.append<|(gx _ _).trans (gx _ _).symm;let:=g.two;let:=p.two;rw[Ac,Ac,HA];unfold sh;rw[ZO,Er];lia
theorem zbl{R:cq}(h:(R.flatMap<|sh 0).Nodup)(n:∀r∈R,2<=r.z):R.Nodup:=by
 refine Jq (λ{a b} e f d z=>?_)<|(LM.mp h).2;subst z;let c:0<a.z:=by let:=n a e;lia
 exact d (dj a 0) ((aF c).mpr #[0,rfl]) (dj a 0) ((aF c).mpr #[0,rfl]) rfl
theorem zfn{α:Type}{d:α}{L:List α}{p:Array Nat}(i:Nat):(pick d L p)[i]?=(p[i]?).map λj=>L.getD j d:=by unfold pick;simp
theorem range_getD{α:Type}{d:α}(L:List α):((List.range L.z).map λi=>L.getD i d)=L:=by apply Gx;ext i;rw[AY];ext(h:i<L.z);simp[h];simp[h]
theorem zbV{α:Type}{d:α}{L:List α}{p:Array Nat}(h:Arr L.z p):(pick d L p).Perm L:=by
 let:p.toList.Perm<|List.range L.z:=by let:=h.perm;rw[Array.perm_iff_toList_perm]at this;simpa using this
 let q:=this.map λi=>L.getD i d;rwa[range_getD (d:=d) L]at q
theorem zbB{α:Type}{d:α}{L:List α}{p:Array Nat}{n:Nat}(h:Arr n p):(pick d L p).z=n:=by unfold pick;simp[h.size]
theorem Lp.lands(h:Lp L R ks)(f:Arr R.z p)(up:Up (λi=>R.getD i []) p R.z)(all:∀d,Dt L d->d∈ks):fe L<|pick [] R p:=by
 let c:=zbV (d:=([]:cc)) f;let l:=((c.flatMap_right<|sh 0).nodup_iff).mpr<|(h.pm.nodup_iff).mp h.nd;let good:∀r∈pick [] R p,Good L r:=λr b=>h.good r<|c.mem_iff.mp b;refine#[good,λr b=>h.least r<|c.mem_iff.mp b,Fm.mpr λi j n s u=>?_,l,λd o=>((c.flatMap_right<|sh 0).mem_iff).mpr<|h.pm.mem_iff.mp<|all d o];let t:=zbB (d:=([]:cc)) (L:=R) f;let a:∀k (g:k<(pick [] R p).z),(pick [] R p)[k]=kf (λi=>R.getD i []) p k:=λk g=>by
  let e:=zfn (d:=([]:cc)) (L:=R) (p:=p) k;rw[me g]at e;unfold kf;rw[Kl];cases z:p[k]? with
  | none=>rw[z]at e;cases e
  | some m=>rw[z]at e;exact BV e
 let le:Le (pick [] R p)[i] (pick [] R p)[j]:=a i n>>a j s>>up.le () ()
 cases q:HT.cx (pick [] R p)[i] (pick [] R p)[j]with
 | true=>rfl
 | false=>
  let:=(Ez<|zbl l λr b=>(good r b).two).mp<|lF q le;lia
noncomputable def R7(d:af):List Key:=[.inl d.1,.inl d.2]
theorem hV{α:Type}{A B:List α}{x:α}{j:Nat}(h:(A++B).Nodup)(e:B[j]?=some x):x∉A++B.take j:=by let#[f,b,c]:=F9.mp h;ext z;ext(z|z:Af.mp z);exact c x z x (A5 e) rfl;let#[g,ex]:=AA.mp e;let#[i,d,a]:=Eg.mp z;rw[getElem_take]at a;rw[Fb]at d;let:=(Ez b).mp<|a.trans ex.symm;lia
theorem cG(s:Nat)(r:cc):(sh s r).z=r.z:=by unfold sh;simp
theorem tJ(h:j<r.z):(sh s r)[j]?=some (dj r<|j+s):=by unfold sh;simp[h]
theorem take_snoc{α:Type}{l:List α}{j:Nat}{x:α}(h:l[j]?=some x):l.take (j+1)=l.take j++[x]:=by rw[Ir,h];rfl
theorem BK{L:cq}(m:ah L):∀{k:Nat},k<=L.z->(cT L k).z<=k*(L.z-1)
 | 0,_=>Bv _
 | k+1,h=>by
  let i:=BK m (k:=k) ();let e:=ag (L:=L) (a:=(k:Int)) () ();let n:(br L (k:Int)).z<=L.z-1:=by
   let:=cZ (n:=L.z) (EB.mpr #[λz=>by let:=m.rg _ _ e _ z;rw[EC]at this;exact this.2.2 rfl,m.nd _ _ e]) λx b=>by ext(z|z:AX.mp b);lia;let:=m.rg _ _ e _ z;exact#[this.1,this.2.1]
   rw[Bq]at this;lia
  rw[cT,Ac,ZO,Ks];lia
theorem zbj(m:ah L)(h:L.z<=11):(cT L L.z).z<128:=by let b:=BK m<|Xx L.z;let a:L.z*(L.z-1)<=11*10:=Fx h ();lia
theorem yF(a:i<r.z):dX r i=cy r i::(r.drop (i+1)++r.take i):=by unfold dX;rw[I9 a,a9 a];rfl
theorem Q2(a:i<r.z)(b:j<r.z)(h:cy r i<cy r j):HT.cx (dX r i) (dX r j)=true:=yF a>>yF b>>HT.fS>>Ak ()>>BG h
noncomputable def eS:Int->cc->Int->Int
 | p,[],_=>p
 | p,h::t,x=>if h=x then p else eS h t x
noncomputable def lst(l:cc):Int:=l.getD (l.z-1) 0
theorem qG(h:Int)(n:t≠[]):lst (h::t)=lst t:=by
 unfold lst;cases t with
 | nil=>exact absurd rfl n
 | cons a t=>simp
theorem ig(u:cc)(n:v≠[]):lst (u++v)=lst v:=by
 induction u with
 | nil=>rfl
 | cons h t a=>rw[GJ,qG h (by simp[n]),a]
theorem zeC(n:l≠[]):lst l∈l:=by
 unfold lst;let:l.z-1<l.z:=by let:=Lu.mpr n;lia
 simp[this]
theorem CN:∀{l:cc} {p x:Int},x∈l->eS p l x=if l.idxOf x=0 then p else l.getD (l.idxOf x-1) 0
 | [],_,_,h=>by cases h
 | h::t,p,x,hx=>by
  unfold eS;rw[K1];ext(e:h=x);rw[Al e,e];simp;rw[Ak e];rw[Lj e];rw[CN<|(AX.mp hx).resolve_left<|λz=>e z.symm];simp[cond_false,Ak<|Nat.succ_ne_zero _];cases q:t.idxOf x with
  | zero=>simp
  | succ k=>simp
theorem k7(h:x∈l):pre l x=eS (lst l) l x:=by rw[CN h];unfold pre cy lst;rw[md<|Ci h];split<;>rfl
theorem v5:∀(l:cc) (p x:Int),eS p l x=p\/eS p l x∈l
 | [],p,x=>.inl rfl
 | h::t,p,x=>by unfold eS;ext(e:h=x);rw[Al e];exact .inl rfl;rw[Ak e];ext(z|z:v5 t h x);rw[z];exact .inr AO;exact .inr<|A7 _ z
theorem tW:∀{l:cc} {p x y:Int},l.Nodup->p≠y->x∈l->x≠y->eS p (l.erase y) x=if eS p l x=y then eS p l y else eS p l x
 | [],_,_,_,_,_,h,_=>by cases h
 | h::t,p,x,y,n,hp,hx,oW=>by
  let#[b,c]:=EB.mp n;ext(e:h=y);subst e;rw[KN];let a:=(AX.mp hx).resolve_left oW;let f:eS p (h::t) x=eS h t x:=by show(if h=x then p else eS h t x)=_;rw[Ak<|λz=>oW z.symm]
  let d:eS p (h::t) h=p:=by show(if h=h then p else eS h t h)=_;rw[Al rfl]
  rw[f,d];cases t with
  | nil=>cases a
  | cons k s=>
   ext(e2:k=x);let b1:eS p (k::s) x=p:=by show(if k=x then p else eS k s x)=_;rw[Al e2]
   let b2:eS h (k::s) x=h:=by show(if k=x then h else eS k s x)=_;rw[Al e2]
   rw[b1,b2,Al rfl];let b1:eS p (k::s) x=eS k s x:=by show(if k=x then p else eS k s x)=_;rw[Ak e2]
   let b2:eS h (k::s) x=eS k s x:=by show(if k=x then h else eS k s x)=_;rw[Ak e2]
   rw[b1,b2,Ak];ext z;ext(y|y:v5 s k x);rw[y]at z;exact b (by erw[<-z,AO]);rw[z]at y;exact b<|A7 _ y
  rw[erase_cons_tail<|~~~e];ext(e2:h=x);let b1:∀s,eS p (h::s) x=p:=λs=>by show(if h=x then p else eS h s x)=_;rw[Al e2]
  rw[b1,b1,Ak hp];let a:=(AX.mp hx).resolve_left<|λz=>e2 z.symm;let b1:∀s,eS p (h::s) x=eS h s x:=λs=>by show(if h=x then p else eS h s x)=_;rw[Ak e2]
  let b2:eS p (h::t) y=eS h t y:=by show(if h=y then p else eS h t y)=_;rw[Ak e]
  erw[b1,b1,b2,tW c e a oW]
theorem yS:∀{u:cc} {w:cc} {p x:Int},x∈u->eS p (u++w) x=eS p u x
 | [],_,_,_,h=>by cases h
 | h::t,w,p,x,hx=>by show(if h=x then p else eS h (t++w) x)=if h=x then p else eS h t x;ext(e:h=x);rw[Al e,Al e];erw[Ak e,Ak e,yS<|(AX.mp hx).resolve_left<|λz=>e z.symm]
theorem CO:∀{u:cc} {p y:Int},y∉u->eS p (u++[y]) y=if u=[]then p else lst u
 | [],p,y,_=>by show(if y=y then p else eS y [] y)=_;rw[Al rfl,Al rfl]
 | h::t,p,y,n=>by show(if h=y then p else eS h (t++[y]) y)=_;rw[Ak λz=>n (z>>AO),Ak A!,CO<|λz=>n<|A7 _ z];ext(q:t=[]);subst q;rw[Al rfl];rfl;rw[Ak q,qG h q]
theorem jG(n:l.Nodup)(d:x∈l)(i:y∈l)(f:x≠y):pre (l.erase y) x=if pre l x=y then pre l y else pre l x:=by
 rw[k7<|(mem_erase_of_ne f).mpr d,k7 d,k7 i];let#[u,v,rfl]:=K2 i;let#[p,j,m]:=F9.mp n;let#[o,r]:=EB.mp j;let a:y∉u:=λz=>m y z y AO rfl;let g:(u++y::v).erase y=u++v:=by rw[MK _ a,KN]
 ext(q:v=[]);subst q;rw[g,GA];let c:x∈u:=by ext(z|z:Af.mp d);exact z;exact absurd (Ax.mp z) f
 let k:u≠[]:=λz=>by rw[z]at c;cases c
 rw[ig u A!,yS c,CO a,Ak k];show eS (lst u) u x=if eS y u x=y then lst u else eS y u x;cases u with
 | nil=>cases c
 | cons h t=>
  ext(e:h=x);let b:∀q,eS q (h::t) x=q:=λq=>by show(if h=x then q else eS h t x)=_;rw[Al e]
  rw[b,b,Al rfl];let b:∀q,eS q (h::t) x=eS h t x:=λq=>by show(if h=x then q else eS h t x)=_;rw[Ak e]
  rw[b,b,Ak];ext z;ext(w|w:v5 t h x);rw[w]at z;exact a (by erw[<-z,AO]);rw[z]at w;exact a<|A7 _ w
 let e1:lst (u++y::v)=lst v:=by rw[ig u A!,qG y q]
 let e2:lst ((u++y::v).erase y)=lst v:=by rw[g,ig u q]
 erw[e1,e2,tW n (λz=>o<|by erw[<-z,zeC q]) d f]
theorem eX(n:l.Nodup)(a:x∈l)(h:pre l x=x):l=[x]:=by
 let ix:=Ci a;unfold pre cy at h;let mx:=AK (l.idxOf x+l.z-1) (show 0<l.z by lia);let e1:l.getD ((l.idxOf x+l.z-1)%l.z) 0=l[(l.idxOf x+l.z-1)%l.z]:=by simp[mx]
 rw[e1]at h;let e:=(Ez n).mp<|h.trans (Ex ix).symm;rw[md ix]at e;let b:l.z=1:=by split at e<;>lia
 match l,b,a with
 | [z],_,a=>rw[Ax.mp a]
theorem ja(h:∀x:Int,0<=x->x<L.z->(br L x).Nodup/\∀y∈br L x,0<=y/\y<L.z/\y≠x/\x∈br L y):ah L:=by
 let b:∀(i:Nat) (l:cc),L[i]?=some l->br L (i:Int)=l/\(i:Int)<L.z:=λi l e=>by let k:=(AA.mp e).1;let:=ag (L:=L) (a:=(i:Int)) () ();rw[EC,e]at this;exact#[(BV this).symm,()]
 refine#[λi l e=>?_,λi l e x c=>?_,λi l e x c j d m f=>?_];let#[e1,e2]:=b i l e;rw[<-e1];exact(h i () e2).1;let#[e1,e2]:=b i l e;rw[<-e1]at c;let:=(h i () e2).2 x c;exact#[this.1,this.2.1,this.2.2.1];let#[e1,e2]:=b i l e;let#[g,n]:=b j m f;rw[<-e1]at c;let:=((h i () e2).2 x c).2.2.2;rwa[d,g]at this
def rem(L:cq)(a b:Int):cq:=(L.set a.toNat<|(br L a).erase b).set b.toNat<|(br L b).erase a
theorem cX:(rem L a b).z=L.z:=by unfold rem;simp
theorem oP(m:ah L)(h:Dt L (a,b))(i:0<=x):br (rem L a b) x=if x=b then(br L b).erase a else if x=a then(br L a).erase b else br L x:=by let#[d,b1,b2,f]:=h.back m;let c:=h.lo;let g:=h.hi;dsimp only at c g d b1 b2 f;show(rem L a b).getD x.toNat []=_;unfold rem;rw[su,HY];ext(e:x=b);subst e;rw[Al rfl,Al rfl,Al<|by rw[Ec];lia];rfl;rw[Ak (),Ak e,HY];ext(e2:x=a);subst e2;rw[Al rfl,Al rfl,Al ()];rfl;rw[Ak (),Ak e2,<-su];rfl
theorem oQ(m:ah L)(h:Dt L (a,b)){x y:Int}(g:0<=x)(f:x<L.z):y∈br (rem L a b) x↔y∈br L x/\¬(x=a/\y=b)/\¬(x=b/\y=a):=by let#[k,b1,b2,l]:=h.back m;let j:=h.lo;let n:=h.hi;dsimp only at j n k b1 b2 l;rw[oP m h g];ext(e:x=b);subst e;rw[Al rfl,(m.nd _ _<|ag g f).mem_erase_iff];constructor;ext⟨c,d⟩;exact#[d,λz=>b2 z.1,λz=>c z.2];ext⟨c,d,i⟩;exact#[λz=>i #[rfl,z],c];rw[Ak e];ext(e2:x=a);subst e2;rw[Al rfl,(m.nd _ _<|ag g f).mem_erase_iff];constructor;ext⟨c,d⟩;exact#[d,λz=>c z.2,λz=>e z.1];ext⟨c,d,i⟩;exact#[λz=>d #[rfl,z],c];erw[Ak e2,#[λz=>#[z,λy=>e2 y.1,λy=>e y.1],λz=>z.1]]
theorem bS(m:ah L)(h:Dt L (a,b)):Dt (rem L a b) d↔Dt L d/\d≠(a,b)/\d≠(b,a):=by constructor;ext q;let c:=q.hi;rw[cX]at c;let:=(oQ m h q.lo c).mp q.mem;exact#[#[q.lo,c,this.1],λz=>this.2.1 #[A4 Prod.fst z,A4 Prod.snd z],λz=>this.2.2 #[A4 Prod.fst z,A4 Prod.snd z]];ext⟨q,f,e⟩;refine#[q.lo,cX>>q.hi,(oQ m h q.lo q.hi).mpr #[q.mem,λz=>f<|EF z.1 z.2,λz=>e<|EF z.1 z.2]]
theorem vO(m:ah L)(h:Dt L (a,b)):ah<|rem L a b:=by refine ja λx f c=>?_;rw[cX]at c;let n:=m.nd _ _<|ag f c;refine#[?_,λy j=>?_];rw[oP m h f];split;rename_i e;rw[<-e];exact n.erase _;split;rename_i e;rw[<-e];exact n.erase _;exact n;let q:=(oQ m h f c).mp j;let#[g,i,l,k]:=Dt.back (d:=(x,y)) #[f,c,q.1] m;rw[cX];refine#[g,i,l,(oQ m h g i).mpr #[k,λz=>q.2.2 #[z.2,z.1],λz=>q.2.1 #[z.2,z.1]]]
theorem mX(m:ah L)(h:Dt L (a,b))(p:Dt (rem L a b) d) :
  nx (rem L a b) d=if nx L d=(b,a)then nx L (a,b)else if nx L d=(a,b)then nx L (b,a)else nx L d:=by
 let#[q,o,k]:=(bS m h).mp p;let#[n,b1,b2,i]:=h.back m;let#[c,f,l,g]:=q.back m;let#[x,y]:=d;dsimp only at n b1 b2 i c f l g;let j:=h.mem;dsimp only at j;unfold nx;rw[oP m h c];ext(e:y=b);subst e;rw[Al rfl,jG (m.nd _ _<|ag c f) g i<|λz=>o<|by rw[z]];ext(z:pre (br L y) x=a);rw[Al z,z,Al rfl];rw[Ak z,Ak<|λw=>z<|A4 Prod.snd w,Ak<|λw=>b2<|A4 Prod.fst w];rw[Ak e];ext(e2:y=a);subst e2;rw[Al rfl,jG (m.nd _ _<|ag c f) g j λz=>k (by rw[z]),Ak<|λw=>e<|A4 Prod.fst w];ext(z:pre (br L y) x=b);rw[Al z,z,Al rfl];rw[Ak z,Ak<|λw=>z<|A4 Prod.snd w];rw[Ak e2,Ak<|λw=>e<|A4 Prod.fst w,Ak<|λw=>e2<|A4 Prod.fst w]
inductive Wk(f:af->af):af->List af->af->Prop where
 | nil (x:af):Wk f x [] x
 | cons {x y:af} {l:List af}:Wk f (f x) l y->Wk f x (x::l) y
theorem Wk.append(h:Wk f x l y)(k:Wk f y m z):Wk f x (l++m) z:=by
 induction h with
 | nil _=>exact k
 | cons _ a=>exact .cons<|a k
theorem Wk.split:∀{l:List af} {x:af},Wk f x (l++m) z->∃y,Wk f x l y/\Wk f y m z
 | [],x,h=>#[x,.nil x,h]
 | a::l,x,h=>by
  cases h with
  | cons h=>
   let#[y,c,b]:=Wk.split h;exact#[y,.cons c,b]
theorem Wk.nil_eq(h:Wk f x [] y):x=y:=by cases h;rfl
theorem Wk.hd(h:Wk f x (d::l) y):d=x:=by cases h;rfl
theorem Wk.tl(h:Wk f x (d::l) y):Wk f (f x) l y:=by cases h;assumption
theorem Wk.on(h:Wk f x l y):∀d∈l,f d∈l\/f d=y:=by
 induction h with
 | nil _=>intro d a;cases a
 | @cons x y l h b=>
  ext d a;ext(e|e:AX.mp a);subst e;cases h with
  | nil _=>exact .inr rfl
  | cons h=>exact .inl<|A7 _ AO
  ext(q|q:b d e);exact .inl<|A7 _ q;exact .inr q
theorem Wk.new(h:Wk f x l y)(n:l≠[])(b:y∉l)(i:∀d∈l,f d=y->g d=w)(c:∀d∈l,f d≠y->g d=f d):Wk g x l w:=by
 induction h with
 | nil _=>exact absurd rfl n
 | @cons x y l h j=>
  cases h with
  | nil _=>
   erw[<-(i x AO rfl),.cons<|.nil _]
  | @cons _ _ k h=>
   let e:=c x AO λq=>b (by erw[<-q,A7 _ AO]);refine .cons ?_;erw[e,j A! (λq=>b<|A7 _ q) (λd a=>i d<|A7 _ a) λd a=>c d<|A7 _ a]
theorem Wk.congr(h:Wk f x l y)(e:∀d∈l,g d=f d):Wk g x l y:=by
 induction h with
 | nil _=>exact .nil _
 | @cons x y l h b=>
  refine .cons ?_;erw[e x AO,b λd a=>e d<|A7 _ a]
def uP(f:af->af)(c:List af):Prop:=∃x l,c=x::l/\Wk f x c x
theorem uP.ne(h:uP f c):c≠[]:=by let#[x,l,rfl,_]:=h;simp
theorem uP.on(h:uP f c)(a:d∈c):f d∈c:=by let#[x,l,rfl,k]:=h;ext(q|q:k.on d a);exact q;erw[q,AO]
theorem uP.turn(h:uP f c)(b:d∈c):∃v,(d::v).Perm c/\Wk f (f d) v d:=by let#[x,l,e,k]:=h;let#[u,v,rfl]:=K2 b;let#[y,g,a]:=k.split;let:=a.hd;subst this;exact#[v++u,by erw[<-GJ,perm_append_comm],a.tl.append g]
structure Dec(L:cq)(R:List<|List af):Prop where
 gc:∀c∈R,uP (nx L) c
 nd:R.flatten.Nodup
 mem:∀d,d∈R.flatten↔Dt L d
theorem qu{α:Type}{x:α}{l:List α}(h:x∈l):∃r,l.Perm<|x::r:=by let#[u,v,rfl]:=K2 h;exact#[u++v,perm_middle]
theorem Dec.perm(h:Dec L R)(p:R.Perm S):Dec L S:=
 #[λc a=>h.gc c<|p.mem_iff.mpr a,(p.flatten.nodup_iff).mp h.nd,λd=>by erw[<-p.flatten.mem_iff,h.mem d]]
theorem Dec.swap(h:Dec L<|c::R)(p:e.Perm c)(k:uP (nx L) e):Dec L<|e::R:=by
 let q:(e::R).flatten.Perm (c::R).flatten:=Fc>>Fc>>p.append_right _
 refine#[λs a=>?_,q.nodup_iff.mpr h.nd,λd=>q.mem_iff>>h.mem d];ext(z|z:AX.mp a);rw[z];exact k;exact h.gc s<|A7 _ z
theorem Dec.front(h:Dec L R)(f:Dt L d):∃v S,Dec L ((d::v)::S)/\R.z=S.z+1/\Wk (nx L) (nx L d) v d/\(∀c∈S,c∈R):=by let#[c,a,e]:=EG.mp<|(h.mem d).mpr f;let#[S,p]:=qu a;let#[v,g,k]:=(h.gc c a).turn e;exact#[v,S,(h.perm p).swap g #[d,v,rfl,.cons k],p.length_eq,k,λs b=>p.mem_iff.mpr<|A7 _ b]
theorem kZ(m:ah L)(h:Dt L (a,b)):(cT L L.z).Perm ((a,b)::(b,a)::cT (rem L a b) (rem L a b).z)/\(cT L L.z).z=(cT (rem L a b) (rem L a b).z).z+2:=by
 let#[k,b1,b2,i]:=h.back m;let j:Dt L (b,a):=#[k,b1,i];let f:((a,b)::(b,a)::cT (rem L a b) (rem L a b).z).Nodup:=by refine EB.mpr #[λz=>?_,EB.mpr #[λz=>?_,aZ (vO m h)<|Xx _]];ext(z|z:AX.mp z);exact b2 (A4 Prod.fst z).symm;exact((bS m h).mp<|Dt.of z).2.1 rfl;exact((bS m h).mp<|Dt.of z).2.2 rfl
 let e:∀x,x∈cT L L.z↔x∈(a,b)::(b,a)::cT (rem L a b) (rem L a b).z:=λx=>by constructor;ext z;ext(e1:x=(a,b));rw[e1];exact AO;ext(e2:x=(b,a));rw[e2];exact A7 _ AO;exact A7 _<|A7 _ ((bS m h).mpr #[Dt.of z,e1,e2]).all;ext z;ext(z|z:AX.mp z);rw[z];exact h.all;ext(z|z:AX.mp z);rw[z];exact j.all;exact((bS m h).mp<|Dt.of z).1.all
 let g:=aZ m<|Xx L.z;let l:=len_eq g f e;refine#[?_,by rw[l];rfl];exact(List.perm_iff_count.mpr λx=>by
  let c:∀{l:List af},l.Nodup->l.count x=if x∈l then 1 else 0:=λ{l} n=>by ext(d:x∈l);rw[Al d];let p:=List.nodup_iff_count.mp n x;let o:=List.count_pos_iff.mpr d;lia;rw[Ak d,List.count_eq_zero.mpr d]
  rw[c g,c f];ext(d:x∈cT L L.z);rw[Al d,Al<|(e x).mp d];rw[Ak d,Ak<|λz=>d<|(e x).mpr z])
theorem vR(m:ah L)(h:Dt L (a,b))(D:Dec L R) :
  (∃A B S,Dec (rem L a b) ((if A=[]then []else [A])++(if B=[]then []else [B])++S)/\R.z=S.z+1/\Wk (nx L) (nx L (a,b)) A (b,a)/\Wk (nx L) (nx L (b,a)) B (a,b))\/
  (∃A B S,Dec (rem L a b) ((A++B)::S)/\R.z=S.z+2/\A≠[]/\B≠[]/\Wk (nx<|rem L a b) (nx L (a,b)) A (nx L (b,a))/\Wk (nx<|rem L a b) (nx L (b,a)) B (nx L (a,b))/\(∀d∈A++B,Dt (rem L a b) d)):=by
 let#[b0,b1,b2,b3]:=h.back m;let ne:(a,b)≠(b,a):=λz=>b2 (A4 Prod.fst z).symm;let spec:∀d,Dt L d->d≠(a,b)->d≠(b,a)->nx (rem L a b) d=if nx L d=(b,a)then nx L (a,b)else if nx L d=(a,b)then nx L (b,a)else nx L d:=λd h0 h1 h2=>mX m h<|(bS m h).mpr #[h0,h1,h2];let#[v,S,i,VY,kv,_]:=D.front h;let VO:=i.nd;rw[Fc,GJ,nodup_cons,J3]at VO;let#[x,O]:=VO;let#[VN,Y,YL]:=F9.mp O;let J:∀d∈v,Dt L d:=λd f=>(i.mem d).mp (by erw[Fc,E9 _<|A7 _ f]);ext(q:(b,a)∈v);left;let#[A,B,rfl]:=K2 q;let#[y,kA,C]:=kv.split;let:=C.hd;subst this;let C:=C.tl;let#[nA,nB,nX]:=F9.mp VN;let#[X,ac]:=EB.mp nB;let Z8:(b,a)∉A:=λz=>nX _ z _ AO rfl;let n:(a,b)∉A:=λz=>x<|.inl<|E9 _ z;let o:(a,b)∉B:=λz=>x<|.inl<|E8 _<|A7 _ z;refine#[A,B,S,#[λc g=>?_,?_,λd=>?_],VY,kA,C];ext(g|g:Af.mp g);ext(g|g:Af.mp g);ext(z:A=[]);rw[Al z]at g;cases g;rw[Ak z]at g;rw[Ax.mp g];let j:Wk (nx<|rem L a b) (nx L (a,b)) A<|nx L (a,b):=kA.new z Z8 (λd f e=>by rw[spec d (J d<|E9 _ f) (λy=>n<|y▸f)<|λy=>Z8<|y▸f,Al e]) λd f e=>by rw[spec d (J d<|E9 _ f) (λy=>n<|y▸f)<|λy=>Z8<|y▸f,Ak e,Ak];ext y;ext(w|w:kA.on d f);exact n<|y▸w;exact e w
 cases A with
 | nil=>exact absurd rfl z
 | cons p A=>have:=j.hd;subst this;exact#[_,_,rfl,j]
 ext(z:B=[]);rw[Al z]at g;cases g;rw[Ak z]at g;rw[Ax.mp g];let dB:∀d∈B,Dt L d:=λd f=>J d<|E8 _<|A7 _ f;let j:Wk (nx<|rem L a b) (nx L (b,a)) B<|nx L (b,a):=C.new z o (λd f e=>by rw[spec d (dB d f) (λy=>o<|y▸f)<|λy=>X<|y▸f,e,Ak ne,Al rfl]) λd f e=>by rw[spec d (dB d f) (λy=>o<|y▸f)<|λy=>X<|y▸f,Ak,Ak e];ext y;ext(w|w:C.on d f);exact X<|y▸w;exact e w
 cases B with
 | nil=>exact absurd rfl z
 | cons p B=>have:=j.hd;subst this;exact#[_,_,rfl,j]
 let cy:=i.gc c<|A7 _ g;let Zb:∀d∈c,d∈S.flatten:=λd f=>EG.mpr #[c,g,f];let E:(a,b)∉c:=λz=>x<|.inr<|Zb _ z;let M:(b,a)∉c:=λz=>YL _ q _ (Zb _ z) rfl;let#[p,r,rfl,k]:=id cy;refine#[p,r,rfl,k.congr λd f=>?_];let dd:Dt L d:=(i.mem d).mp (by erw[Fc,E8 _<|Zb d f]);let F:=cy.on f;let o1:nx L d≠(b,a):=λy=>M (by erw[<-y,F]);let o2:nx L d≠(a,b):=λy=>E (by erw[<-y,F]);rw[spec d dd (λy=>E<|y▸f)<|λy=>M<|y▸f,Ak o1,Ak o2];let K:∀A:List af,(if A=[]then([]:List<|List af)else [A]).flatten=A:=λA=>by ext(z:A=[]);rw[Al z,z];rfl;rw[Ak z];simp
 rw[Gy,Gy,K,K,Ga];let:(A++(B++S.flatten)).Perm<|A++(B++S.flatten):=Lq _;let e:((A++(b,a)::B)++S.flatten).Perm<|(b,a)::(A++(B++S.flatten)):=Ga>>GJ>>perm_middle
 exact(EB.mp<|e.nodup_iff.mp O).2;let K:∀A:List af,(if A=[]then([]:List<|List af)else [A]).flatten=A:=λA=>by ext(z:A=[]);rw[Al z,z];rfl;rw[Ak z];simp
 rw[Gy,Gy,K,K,Ga,bS m h,<-i.mem];let e:((A++(b,a)::B)++S.flatten).Perm<|(b,a)::(A++(B++S.flatten)):=Ga>>GJ>>perm_middle
 rw[Fc,GJ];constructor;ext z;exact#[A7 _<|e.mem_iff.mpr<|A7 _ z,λy=>(λz=>x<|Af.mp<|e.mem_iff.mpr<|A7 _ z)<|y▸z,λy=>(EB.mp<|e.nodup_iff.mp O).1<|y▸z];ext⟨z,z1,z2⟩;ext(z|z:AX.mp z);exact absurd z z1;ext(z|z:AX.mp<|e.mem_iff.mp z);exact absurd z z2;exact z;right;let q2:(b,a)∈S.flatten:=by let:=(i.mem (b,a)).mpr #[b0,b1,b3];rw[Fc,GJ]at this;ext(z|z:AX.mp this);exact absurd z.symm ne;ext(z|z:Af.mp z);exact absurd z q;exact z
 let#[c,g,W]:=EG.mp q2;let#[T,pT]:=qu g;let#[w,pw,P]:=(i.gc c<|A7 _ g).turn W;let N:S.flatten.Perm<|((b,a)::w)++T.flatten:=by refine pT.flatten.trans ?_;erw[Fc,pw.symm.append_right _]
 let nS:=N.nodup_iff.mp Y;rw[GJ,nodup_cons,J3]at nS;let#[ab,ad]:=nS;let l:(a,b)∉w:=λz=>(λz=>x<|.inr z)<|N.mem_iff.mpr<|E9 _<|A7 _ z;let Z7:(b,a)∉w:=λz=>ab<|.inl z;let t:(a,b)∉v:=λz=>x<|.inl z;let G:∀d∈w,Dt L d:=λd f=>(i.mem d).mp (by erw[Fc,E8 _<|N.mem_iff.mpr<|E9 _<|A7 _ f]);let v0:v≠[]:=λz=>by rw[z]at kv;let:nx L (a,b)=(a,b):=kv.nil_eq;exact b2<|A4 Prod.fst this
 let w0:w≠[]:=λz=>by rw[z]at P;let:nx L (b,a)=(b,a):=P.nil_eq;exact b2 (A4 Prod.fst this).symm
 let k1:Wk (nx<|rem L a b) (nx L (a,b)) v<|nx L (b,a):=kv.new v0 t (λd f e=>by rw[spec d (J d f) (λy=>t<|y▸f)<|λy=>q<|y▸f,e,Ak ne,Al rfl]) λd f e=>by rw[spec d (J d f) (λy=>t<|y▸f)<|λy=>q<|y▸f,Ak,Ak e];ext y;ext(u|u:kv.on d f);exact q<|y▸u;exact e u
 let j:Wk (nx<|rem L a b) (nx L (b,a)) w<|nx L (a,b):=P.new w0 Z7 (λd f e=>by rw[spec d (G d f) (λy=>l<|y▸f)<|λy=>Z7<|y▸f,Al e]) λd f e=>by rw[spec d (G d f) (λy=>l<|y▸f)<|λy=>Z7<|y▸f,Ak e,Ak];ext y;ext(u|u:P.on d f);exact l<|y▸u;exact e u
 let pe:((a,b)::(v++S.flatten)).Perm<|(a,b)::(b,a)::((v++w)++T.flatten):=by refine List.Perm.cons _ ?_;erw[Ga,(N.append_left v).trans<|GJ>>perm_middle]
 let#[H,Z]:=EB.mp<|pe.nodup_iff.mp<|EB.mpr #[λz=>x<|Af.mp z,O];let#[I,U]:=EB.mp Z;let mm:∀d,d∈(v++w)++T.flatten↔Dt (rem L a b) d:=λd=>by rw[bS m h,<-i.mem,Fc,GJ,pe.mem_iff];constructor;ext z;exact#[A7 _<|A7 _ z,λy=>H<|A7 _<|y▸z,λy=>I<|y▸z];ext⟨z,z1,z2⟩;ext(z|z:AX.mp z);exact absurd z z1;ext(z|z:AX.mp z);exact absurd z z2;exact z
 refine#[v,w,T,#[λs hs=>?_,Fc>>U,λd=>Fc>>mm d],by rw[VY,pT.length_eq];rfl,v0,w0,k1,j,λd f=>(mm d).mp<|E9 _ f];ext(z|z:AX.mp hs);rw[z];let k:=k1.append j;cases v with
 | nil=>exact absurd rfl v0
 | cons p v=>have:=k1.hd;subst this;exact#[_,_,rfl,k]
 let cy:=i.gc s<|A7 _<|pT.mem_iff.mpr<|A7 _ z;let Q:∀d∈s,d∈T.flatten:=λd f=>EG.mpr #[s,z,f];let E:(a,b)∉s:=λy=>H<|A7 _<|E8 _<|Q _ y;let M:(b,a)∉s:=λy=>I<|E8 _<|Q _ y;let#[p,r,rfl,k]:=id cy;refine#[p,r,rfl,k.congr λd f=>?_];let F:=cy.on f;rw[spec d (((bS m h).mp<|(mm d).mp<|E8 _<|Q d f).1) (λy=>E<|y▸f)<|λy=>M<|y▸f,Ak λy=>M (by erw[<-y,F]),Ak<|λy=>E<|by erw[<-y,F]]
noncomputable def iso(L:cq):Nat:=L.countP (·.isEmpty)
def mG(L:cq)(S:cc):Prop:=∀x:Int,0<=x->x<L.z->∃s∈S,Reach L s x
theorem Reach.one(h:Reach L s d.1)(q:Dt L d):Reach L s d.2:=by exact .step (Hx q.lo>>h) (ag q.lo q.hi) q.mem
theorem Reach.trans(h:Reach L s x)(k:Reach L x y):Reach L s y:=by
 induction k with
 | here=>exact h
 | step _ e a b=>exact .step b e a
theorem Reach.sO{i:Nat}{x:Int}(e:L[i]?=some l)(c:x∈l):Dt L ((i:Int),x):=by let b:=(AA.mp e).1;let:=ag (L:=L) (a:=(i:Int)) () ();rw[EC,e]at this;exact#[by simp,~~~b,by erw[<-BV this,c]]
theorem Reach.off(m:ah L)(h:Dt L (a,b))(r:Reach L s x):Reach (rem L a b) s x\/Reach (rem L a b) a x\/Reach (rem L a b) b x:=by
 induction r with
 | here=>exact .inl .here
 | step r e f d=>
  rename_i i l y;ext(e1:((i:Int),y)=(a,b));let:y=b:=A4 Prod.snd e1;rw[this];exact .inr<|.inr .here;ext(e2:((i:Int),y)=(b,a));let:y=a:=A4 Prod.snd e2;rw[this];exact .inr<|.inl .here;let c:=(bS m h).mpr #[Reach.sO e f,e1,e2];ext(z|z|z:d);exact .inl<|Reach.one z c;exact .inr<|.inl<|Reach.one z c;exact .inr<|.inr<|Reach.one z c
theorem Reach.near(m:ah L)(h:Dt L (a,b))(r:Reach L s x):Reach (rem L a b) s x\/Reach (rem L a b) s a\/Reach (rem L a b) s b:=by
 induction r with
 | here=>exact .inl .here
 | step r e d c=>
  rename_i i l y;ext(z|z:c);ext(e1:((i:Int),y)=(a,b));let:(i:Int)=a:=A4 Prod.fst e1;rw[this]at z;exact .inr<|.inl z;ext(e2:((i:Int),y)=(b,a));let:(i:Int)=b:=A4 Prod.fst e2;rw[this]at z;exact .inr<|.inr z;exact .inl<|Reach.one z<|(bS m h).mpr #[Reach.sO e d,e1,e2];exact .inr z
theorem Wk.reach(h:Wk (nx L) x l y)(q:∀d∈l,Dt L d):Reach L x.1 y.1:=by
 induction h with
 | nil _=>exact .here
 | @cons x y l _ b=>
  let d:=q x AO;exact(Reach.one .here d).trans<|b λd a=>q d<|A7 _ a
theorem mG.more(m:ah L)(h:Dt L (a,b))(s:mG L S):∃t,mG (rem L a b)<|t::S:=by
 let#[n,b1,b2,l]:=h.back m;let#[d,j,k]:=s a h.lo h.hi;let pick:Reach (rem L a b) d a\/Reach (rem L a b) d b:=by ext(z|z|z:k.near m h);exact .inl z;exact .inl z;exact .inr z
 ext(p|p:pick);refine#[b,λx g c=>?_];rw[cX]at c;let#[f,i,e]:=s x g c;ext(z|z|z:e.off m h);exact#[f,A7 _ i,z];exact#[d,A7 _ j,p.trans z];exact#[b,AO,z];refine#[a,λx g c=>?_];rw[cX]at c;let#[f,i,e]:=s x g c;ext(z|z|z:e.off m h);exact#[f,A7 _ i,z];exact#[a,AO,z];exact#[d,A7 _ j,p.trans z]
theorem mG.U4(m:ah L)(h:Dt L (a,b))(l:Reach (rem L a b) a b)(g:Reach (rem L a b) b a)(s:mG L S):mG (rem L a b) S:=by
 let#[c,d,f]:=s a h.lo h.hi;let pick:Reach (rem L a b) c a:=by ext(z|z|z:f.near m h);exact z;exact z;exact z.trans g
 ext x j e;rw[cX]at e;let#[i,k,q]:=s x j e;ext(z|z|z:q.off m h);exact#[i,k,z];exact#[c,d,pick.trans z];exact#[c,d,(pick.trans l).trans z]
theorem vP(m:ah L)(h:Dt L (a,b)):iso (rem L a b)=iso L+(if(br L b).erase a=[]then 1 else 0)+(if(br L a).erase b=[]then 1 else 0):=by
 let#[i,b1,b2,c]:=h.back m;let f:=h.lo;let j:=h.hi;let d:=h.mem;dsimp only at f j i b1 b2 c d;let k:a.toNat<L.z:=();let e:b.toNat<L.z:=();let s:L[a.toNat]=br L a:=by let:=ag f j;rw[me k]at this;exact BV this
 let p:L[b.toNat]=br L b:=by let:=ag i b1;rw[me e]at this;exact BV this
 let o:(br L a).isEmpty=false:=by cases q:br L a with|nil=>rw[q]at d;cases d|cons _ _=>rfl
 let n:(br L b).isEmpty=false:=by cases q:br L b with|nil=>rw[q]at c;cases c|cons _ _=>rfl
 let g:∀l:cc,(if l.isEmpty=true then 1 else 0)=(if l=[]then 1 else 0):=λl=>by cases l<;>simp
 unfold iso rem;let r:¬a.toNat=b.toNat:=();let e1:(L.set a.toNat<|(br L a).erase b)[b.toNat]'(Ec>>e)=br L b:=by rw[getElem_set,Ak r,p]
 rw[countP_set (Ec>>e),countP_set k,e1,s,o,n,g,g];simp[Fv,F8,Nat.sub_zero];lia
theorem fP(m:ah L)(h:Dt L (a,b)):(br L b).erase a=[]↔nx L (a,b)=(b,a):=by
 let#[d,b1,b2,c]:=h.back m;dsimp only at d b1 b2 c;let n:=m.nd _ _<|ag d b1;constructor;ext z;let:br L b=[a]:=by let#[u,v,e]:=K2 c;rw[e]at z n ⊢;rw[MK _ λy=>(F9.mp n).2.2 a y a AO rfl,KN]at z;let#[g,f]:=List.append_eq_nil_iff.mp z;rw[g,f];rfl
 unfold nx;rw[this];refine EF rfl ?_;unfold pre cy;simp[Nat.mod_one];ext z;rw[eX n c<|A4 Prod.snd z];simp
theorem Wk.all{f:af->af}{x y:af}{P:af->Prop}(h:Wk f x l y)(b:P x)(s:∀d∈l,P d->P (f d)):∀d∈l,P d:=by
 induction h with
 | nil _=>intro d a;cases a
 | @cons x y l _ c=>
  ext d a;ext(e|e:AX.mp a);rw[e];exact b;exact c (s x AO b) (λd a=>s d<|A7 _ a) d e
theorem uP.conn{f:af->af}{x y:af}{P:af->Prop}(h:uP f c)(g:x∈c)(a:y∈c)(px:P x)(s:∀d∈c,P d->P (f d)):P y:=by let#[v,p,k]:=h.turn g;let e:Wk f x (x::v) x:=.cons k;exact e.all px (λd b=>s d<|p.mem_iff.mp b) y<|p.mem_iff.mpr a
theorem nK{R:List<|List af}(n:R.flatten.Nodup){c e:List af}{d:af}(k:c∈R)(h:e∈R)(b:d∈c)(a:d∈e):c=e:=by let#[i,f,rfl]:=Eg.mp k;let#[j,g,rfl]:=Eg.mp h;let q:=Fm.mp<|(JW.mp n).2;ext(z|z|z:HC i j);exact absurd rfl<|q i j f g z d b d a;subst z;rfl;exact absurd rfl<|q j i g f z d a d b
noncomputable def M4(c:List af):af:=c.headD (0,0)
def rep(R:List<|List af)(d:af):af:=((R.find? λc=>decide<|d∈c).map M4).getD (0,0)
theorem AQ(h:d∈R.flatten):∃c∈R,d∈c/\rep R d=M4 c:=by
 let#[c,a,b]:=EG.mp h;unfold rep;cases q:R.find? λc=>decide (d∈c)with
 | none=>have:=Ij.mp q c a;simp[b]at this
 | some e=>
  exact#[e,Lx q,~~~(find?_some q),rfl]
theorem kH(h:c≠[]):M4 c∈c:=by cases c with|nil=>exact absurd rfl h|cons a l=>exact AO
theorem Dec.le(h:Dec L R)(k:Dec L S):R.z<=S.z:=by
 let i:∀c∈R,M4 c∈S.flatten:=λc a=>(k.mem _).mpr<|(h.mem _).mp<|EG.mpr #[c,a,kH (h.gc c a).ne];let n:(R.map λc=>rep S<|M4 c).Nodup:=by refine Gv _ (λx y p=>p)<|Jq (λ{c e} a o j z=>?_)<|(JW.mp h.nd).2;let#[f,b,l,g]:=AQ<|i c a;let#[u,m,q,t]:=AQ<|i e o;rw[g,t]at z;let r:=nK k.nd b m (kH (k.gc f b).ne) (z>>kH (k.gc u m).ne);subst r;let:=(k.gc f b).conn l q (kH (h.gc c a).ne) λd _ s=>(h.gc c a).on s;exact j _ this _ (kH (h.gc e o).ne) rfl
 let:=cp n λx v=>by let#[c,a,rfl]:=A3.mp v;let#[f,b,l,g]:=AQ<|i c a;erw[g,A3.mpr #[f,b,rfl]]
 simpa using this
theorem Dec.count(h:Dec L R)(k:Dec L S):R.z=S.z:=Lk (h.le k)<|k.le h
theorem Oj{L:cq}{r:cc}(g:Good L r):∀(n s:Nat),Wk (nx L) (dj r s) ((List.range n).map λj=>dj r<|j+s) (dj r<|s+n)
 | 0,s=>.nil _
 | n+1,s=>by
  let e2:(List.range<|n+1).map (λj=>dj r<|j+s)=dj r s::(List.range n).map (λj=>dj r<|j+(s+1)):=by rw[Kh,Ap,ED,Fu];congr 1;refine EU λj _=>?_;show dj r (j+1+s)=_;congr 1;lia
  rw[e2];refine .cons ?_;erw[g.st,show s+(n+1)=s+1+n by lia,Oj g n<|s+1]
theorem Good.gc(g:Good L r):uP (nx L)<|sh 0 r:=by
 let k:=Oj g r.z 0;let e:dj r (0+r.z)=dj r 0:=aU (by rw[Fu,Gk,Kq]);rw[e]at k;let b:=g.two;let a:Wk (nx L) (dj r 0) (sh 0 r)<|dj r 0:=k;cases q:sh 0 r with
 | nil=>have:=cG 0 r;rw[q]at this;simp at this;lia
 | cons x l=>
  rw[q]at a;let:=a.hd;subst this;exact#[_,_,rfl,a]
theorem i9{L:cq}:∀{k:Nat} {d:af},k<=L.z->(d∈eL L k↔0<=d.1/\d.1<k/\d.1<d.2/\d.2<L.z/\d.2∈br L d.1)
 | 0,d,_=>by simp[eL,Bn,false_iff];ext h;lia
 | k+1,d,hk=>by rw[eL,J3,i9 (),mem_map];let g:L.getD k []=br L (k:Int):=rfl;rw[g];constructor;rintro (⟨c,f,a⟩|⟨x,hx,rfl⟩);exact#[c,(),a];let:=i7.mp hx;exact#[by simp,by simp;lia,this.1,by let:=this.2.1;lia,this.2.2];ext⟨c,f,a,i,b⟩;ext(e:d.1=k);right;rw[e]at b a;exact#[d.2,i7.mpr #[a,(),b],EF e.symm rfl];left;exact#[c,(),a,i,b]
theorem qA{L:cq}:∀{k:Nat},k<=L.z->(eL L k).Nodup
 | 0,_=>.nil
 | k+1,hk=>by rw[eL,J1];refine#[qA (),?_,λa c b d z=>?_];exact Gv _ (λx y e z=>by let:=A4 Prod.snd z;dsimp only at this;lia)<|iX<|L.z-(k+1);let:=((i9 ()).mp c).2.1;let#[x,_,rfl]:=A3.mp d;rw[z]at this;simp at this
theorem rA:∀(l:List af) (p:af->Bool),l.z=(l.filter p).z+(l.filter λd=>!p d).z
 | [],_=>rfl
 | x::l,p=>by
  let:=rA l p;cases q:p x with
  | true=>rw[K6 q,LO (by simp[q]),Bq,Bq];lia
  | false=>rw[LO (by simp[q]),K6 (by simp[q]),Bq,Bq];lia
theorem bK(m:ah L):(cT L L.z).z=2*(eL L L.z).z:=by
 let n:=aZ m<|Xx L.z;let i:=qA<|Xx L.z;let s:=rA (cT L L.z) (λd:af=>decide<|d.1<d.2);let e1:((cT L L.z).filter λd=>decide<|d.1<d.2).z=(eL L L.z).z:=by refine len_eq (n.filter _) i λd=>?_;rw[Gp,i9<|Xx _];constructor;ext⟨b,a⟩;let q:=Dt.of b;exact#[q.lo,q.hi,~~~a,(q.back m).2.1,q.mem];ext⟨b,a,h,k,c⟩;exact#[Dt.all #[b,a,c],~~~h]
 let e2:((cT L L.z).filter λd=>!decide (d.1<d.2)).z=((eL L L.z).map λd=>(d.2,d.1)).z:=by
  refine len_eq (n.filter _) (Gv _ (λx y j z=>j<|EF (A4 Prod.snd z)<|A4 Prod.fst z) i) λd=>?_;rw[Gp,mem_map];constructor;ext⟨b,a⟩;let q:=Dt.of b;let#[g,b1,b2,f]:=q.back m;refine#[(d.2,d.1),(i9<|Xx _).mpr #[g,b1,?_,q.hi,f],rfl];let:¬d.1<d.2:= ~~~a
  lia;ext⟨e,l,rfl⟩;let#[b,a,h,k,c]:=(i9<|Xx _).mp l;let#[g,b1,b2,f]:=Dt.back #[b,a,c] m;refine#[Dt.all #[g,b1,f],?_];let:¬e.2<e.1:=();simpa using this
 rw[ZO]at e2;lia
theorem Oi{L:cq}{d:af}:∀k,Wk (nx L) d (tr L d k) (it L d k)
 | 0=>.nil _
 | k+1=>by
  let e:tr L d (k+1)=tr L d k++[it L d k]:=by unfold tr;rw[GI,EE];rfl
  erw[e,(Oi k).append<|.cons<|.nil _]
theorem rB(m:ah L)(h:Dt L d):∃k,0<k/\it L d k=d/\jE L d k:=by
 let f:∀n,(∃k,0<k/\it L d k=d/\jE L d k)\/jE L d (n+1):=by
  ext n;induction n with
  | zero=>exact .inr λi a b=>()
  | succ n c=>
   ext(z|z:c);exact .inl z;ext(e:it L d (n+1)=d);exact .inl #[n+1,(),e,z];refine .inr λi a b=>?_;ext(q:i=n+1);rw[q];exact e;exact z i a ()
 ext(z|z:f (cT L L.z).z);exact z;let:=qB m h z;lia
structure Dp(L:cq)(R:List<|List af):Prop where
 gc:∀c∈R,uP (nx L) c
 nd:R.flatten.Nodup
 dt:∀d∈R.flatten,Dt L d
theorem Dp.start:Dp L []:=#[by simp,.nil,by simp]
theorem Dp.on(p:Dp L R)(h:d∈R.flatten):∀t,it L d t∈R.flatten
 | 0=>h
 | t+1=>by let#[c,a,b]:=EG.mp<|p.on h t;exact EG.mpr #[c,a,(p.gc c a).on b]
theorem Dp.new(p:Dp L R)(a:0<k)(e:it L d k=d)(n:d∉R.flatten)(j:Nat):it L d j∉R.flatten:=by ext h;refine n ?_;let:=p.on h<|k*j-j;rw[<-qV,show j+(k*j-j)=k*j from by let:=JZ j a;lia,Gn]at this;let z:=Be e<|j*k;rw[Nat.mul_mod_left]at z;rwa[<-z]at this
theorem Dp.add(m:ah L)(p:Dp L R)(h:Dt L d)(b:0<k)(e:it L d k=d)(g:jE L d k)(n:d∉R.flatten):Dp L<|R++[tr L d k]:=by
 refine#[λc i=>?_,?_,λx a=>?_];ext(z|z:Af.mp i);exact p.gc c z;rw[Ax.mp z];let w:=Oi (L:=L) (d:=d) k;rw[e]at w;obtain⟨j,rfl⟩:∃j,k=j+1:=#[k-1,()];let e2:tr L d (j+1)=d::(tr L d<|j+1).tail:=by unfold tr;rw[Kh];rfl
 exact#[d,_,e2,w];rw[Gy,Kf,J1];refine#[p.nd,pM m h g,λx a y f z=>?_];let#[j,_,rfl]:=A3.mp f;exact p.new b e n j<|z▸a;rw[Gy,Kf]at a;ext(z|z:Af.mp a);exact p.dt x z;let#[j,_,rfl]:=A3.mp z;exact qU m h j
theorem Dp.dec(p:Dp L R)(all:∀d,Dt L d->d∈R.flatten):Dec L R:=#[p.gc,p.nd,λd=>#[p.dt d,all d]]
end Gm
namespace L2
open PySem PySem.Spec PySem.W PySem.Calls PyProof.Rows
noncomputable def BM(a:cc):cc:=a.foldl step_dedup []
theorem zbc(a:cc):firstMet (λi=>a.getD i 0) a.z=BM a:=by unfold firstMet BM;rw[show((List.range a.z).map λi=>a.getD i 0)=a from Gm.range_getD a]
theorem DO:∀(a σ:cc),σ.Nodup->((a.foldl step_dedup σ).z=σ.z+a.z↔(σ++a).Nodup)
 | [],σ,h=>by simp[h]
 | x::a,σ,h=>by
  rw[foldl_cons];ext(e:x∈σ);let e1:step_dedup σ x=σ:=by unfold step_dedup;rw[Al<|~~~e]
  rw[e1];constructor;ext z;let:=foldl_step_dedup_length_le σ a;rw[Bq]at z;lia;ext z;exact absurd rfl<|(F9.mp z).2.2 x e x AO;let e1:step_dedup σ x=σ++[x]:=by unfold step_dedup;rw[Ak<|~~~e]
  rw[e1];let:=DO a (σ++[x])<|(MT x σ).nodup_iff.mpr<|EB.mpr #[e,h];rw[Ac,HA,Ga,singleton_append]at this;rw[<-this,Bq];lia
theorem zeJ(a:cc):(BM a).z=a.z↔a.Nodup:=by let:=DO a [] .nil;rwa[L5,Fu,K0]at this
def OO(K:Frag):List V->Hp->VK->Prop:=λvs H Q=>∃(a:Addr) (b:cc),vs=[.ref a]/\bH K H a b.f/\b.z<=1000/\∀(p:Addr) (S:Int->Bool),H p=none->Q (.ref p) (upd H p<|.set S (BM b).z)
theorem zbh(m:X.calm=true):dC X (.type "set")<|OO X.K:=by
 ext pins s σ H xs us Q I r h;let#[a,g,rfl,n,k,q]:=h;let#[u,rfl,j]:=vals1 r;cases j;let#[i,rv,pl,hz]:=I.list n;let d:=intsAre_of rv;let f:=d.z;refine call_set_list (I.ok.hd m) pl.isList (~~~d) (Cj>>f>>FA (Nat.succ_le_succ k) A?) λh' t c l=>?_;let p:i.toArray.size=g.z:=Cj>>f
 rw[p,zbc]at c;exact#[.ref s.c,_,I.laid (λb o e=>l b o (AL e) e) (Xx _)<|show aY X.prog X.w _ h' s.c (.set _ (BM g).z)from c,rfl,q _ _<|I.bu.fresh<|Xx _]
theorem zbW:dC X (.builtin "len") (λxs H Q=>∃a S n,xs=[V.ref a]/\H a=some (.set S n)/\Q (.int (n:Nat)) H):=by ext pins s σ H xs us Q I r h;let#[a,S,n,rfl,g,q]:=h;let#[u,rfl,c]:=vals1 r;cases c;let#[o,i,m,k,ho,b,f,_,_,d,e,j]:=(show s.heap.SetOf (intKind X.prog X.w) a S n from I.bu a _ g);let l:i.size<4096:=d;refine call_len_set ho b f e () #[.int (n:Nat),H,I.tok _,#[_,by rw[j]],q]
end L2
namespace Gm
open PySem L2
theorem rC(m:ah L):∃R,Dec L R:=by
 let j:∀a:List af,(∀d∈a,Dt L d)->∃R,Dp L R/\∀d∈a,d∈R.flatten:=by
  ext a;induction a with
  | nil=>intro _;exact#[[],Dp.start,by simp]
  | cons d a l=>
   ext h;let#[R,p,q]:=l λx b=>h x<|A7 _ b;ext(e:d∈R.flatten);refine#[R,p,λx b=>?_];ext(z|z:AX.mp b);rw[z];exact e;exact q x z;let dt:=h d AO;let#[k,f,g,i]:=rB m dt;refine#[_,p.add m dt f g i e,λx b=>?_];rw[Gy,Kf];ext(z|z:AX.mp b);rw[z];exact E8 _<|A3.mpr #[0,Ad.mpr f,rfl];exact E9 _<|q x z
 let#[R,p,q]:=j (cT L L.z) λd c=>Dt.of c;exact#[R,p.dec λd c=>q d c.all]
theorem Wk.last(h:Wk f x l y)(n:l≠[]):∃d∈l,f d=y:=by
 induction h with
 | nil _=>exact absurd rfl n
 | @cons x y l k b=>
  cases l with
  | nil=>exact#[x,AO,k.nil_eq]
  | cons p l=>
   let#[d,a,e]:=b A!;exact#[d,A7 _ a,e]
theorem NK(c:ah M)(h:Dt M (a,b))(x:nx M (z1,a)=(a,b))(r:nx M (z2,b)=(b,a))(y:Dt (rem M a b) (z1,a))(I:Dt (rem M a b) (z2,b))(D:Dec (rem M a b) R)(H:Dec M R')(conn:∀P:af->Prop,P (z1,a)->(∀d,Dt (rem M a b) d->P d->P (nx (rem M a b) d))->P (z2,b)):R'.z=R.z+1/\iso M=iso (rem M a b):=by
 let#[G,b1,b2,C]:=h.back c;let o:Dt M (b,a):=#[G,b1,C];let m:=(bS c h).mp y;let g:=(bS c h).mp I;let w:nx M (a,b)≠(b,a):=λz=>g.2.1 (dJ c h g.1<|z.trans r.symm).symm;let t:nx M (b,a)≠(a,b):=λz=>m.2.2 (dJ c o m.1<|z.trans x.symm).symm;let u:=vP c h;rw[Ak λz=>w<|(fP c h).mp z,Ak<|λz=>t<|(fP c o).mp z]at u;refine#[?_,u.symm];ext(⟨A,B,S,e,E,j,l⟩|⟨A,B,S,e,E,_⟩:vR c h H);exfalso;let v:A≠[]:=λz=>by rw[z]at j;exact w j.nil_eq
 let n:B≠[]:=λz=>by rw[z]at l;exact t l.nil_eq
 rw[Ak v,Ak n]at e;let#[p,i,J]:=j.last v;let#[q,k,K]:=l.last n;let L:=dJ c ((λd f=>((bS c h).mp<|(e.mem d).mp<|EG.mpr #[A,by simp,f]).1) p i) g.1<|J.trans r.symm;let F:=dJ c ((λd f=>((bS c h).mp<|(e.mem d).mp<|EG.mpr #[B,by simp,f]).1) q k) m.1<|K.trans x.symm;rw[L]at i;rw[F]at k;let:=conn (λd=>d∈B) k λd _ f=>(e.gc B A!).on f;let s:=e.nd;rw[Gy,Gy,Kf,Kf,Ga]at s;exact(F9.mp s).2.2 _ i _ (E9 _ this) rfl;let:=D.count e;rw[Bq]at this;lia
theorem zqc(c:ah M)(h:Dt M (a,b))(e1:nx M (a,b)=(b,a))(u:nx M (z1,a)=(a,b))(o:Dt (rem M a b) (z1,a))(D:Dec (rem M a b) R)(t:Dec M R'):R'.z=R.z/\iso (rem M a b)=iso M+1:=by
 let#[s,b1,b2,q]:=h.back c;let l:Dt M (b,a):=#[s,b1,q];let m:=(bS c h).mp o;let i:nx M (b,a)≠(a,b):=λz=>m.2.2 (dJ c l m.1<|z.trans u.symm).symm;let j:=vP c h;rw[Al<|(fP c h).mpr e1,Ak<|λz=>i<|(fP c l).mp z]at j;refine#[?_,j];ext(⟨A,B,S,d,r,f,g⟩|⟨A,B,S,d,r,e,k,f,g,dd⟩:vR c h t);let e:A=[]:=by
  cases A with
  | nil=>rfl
  | cons p A=>
   let n:=f.hd;let dt:=(d.mem p).mp<|EG.mpr #[p::A,by simp,AO];rw[n,e1]at dt;exact absurd rfl ((bS c h).mp dt).2.2
 let k:B≠[]:=λz=>by rw[z]at g;exact i g.nil_eq
 rw[Al e,Ak k]at d;let:=D.count d;rw[K0,singleton_append,Bq]at this;lia;cases A with
 | nil=>exact absurd rfl e
 | cons p A=>
  let dt:=dd p A!;rw[f.hd,e1]at dt;exact absurd rfl ((bS c h).mp dt).2.2
structure bA(L:cq):Prop where
 map:ah L
 two:2<=L.z
 span:mG L [0]
 Fn:∃R,Dec L R/\(L.z:Int)+R.z+iso L=(eL L L.z).z+2
theorem Reach.mono(h:∀d,Dt L d->Dt M d)(r:Reach L s x):Reach M s x:=by
 induction r with
 | here=>exact .here
 | step r e b a=>
  rename_i i l y;exact Reach.one a<|h _<|Reach.sO e b
noncomputable def both(L:cq)(a b:Int)(A B:cc):cq:=(L.set a.toNat A).set b.toNat B
structure bD(L:cq)(a b:Int)(A B:cc):Prop where
 map:ah L
 a0:0<=a
 a1:a<L.z
 b0:0<=b
 b1:b<L.z
 ne:a≠b
 no:b∉br L a
 pa:A.Perm (b::br L a)
 pb:B.Perm (a::br L b)
 ea:A.erase b=br L a
 eb:B.erase a=br L b
theorem bD.Uc(F:bD L a b A B):a∉br L b:=λz=>F.no (Dt.back (d:=(b,a)) #[F.b0,F.b1,z] F.map).2.2.2
theorem cU:(both L a b A B).z=L.z:=by unfold both;simp
theorem bD.row(F:bD L a b A B)(c:0<=x):br (both L a b A B) x=if x=b then B else if x=a then A else br L x:=by let:=F.a0;let:=F.a1;let:=F.b0;let:=F.b1;let:=F.ne;show(both L a b A B).getD x.toNat []=_;unfold both;rw[su,HY];ext(e:x=b);subst e;rw[Al rfl,Al rfl,Al<|by rw[Ec];lia];rfl;rw[Ak (),Ak e,HY];ext(e2:x=a);subst e2;rw[Al rfl,Al rfl,Al ()];rfl;rw[Ak (),Ak e2,<-su];rfl
theorem bD.mem(F:bD L a b A B)(c:0<=x):y∈br (both L a b A B) x↔y∈br L x\/(x=a/\y=b)\/(x=b/\y=a):=by rw[F.row c];ext(e:x=b);subst e;rw[Al rfl,F.pb.mem_iff,BX];constructor;rintro (z|z);exact .inr<|.inr #[rfl,z];exact .inl z;rintro (z|z|z);exact .inr z;exact absurd z.1.symm F.ne;exact .inl z.2;rw[Ak e];ext(e2:x=a);subst e2;rw[Al rfl,F.pa.mem_iff,BX];constructor;rintro (z|z);exact .inr<|.inl #[rfl,z];exact .inl z;rintro (z|z|z);exact .inr z;exact .inl z.2;exact absurd z.1 e;erw[Ak e2,#[.inl,λz=>z.elim id λz=>z.elim (λw=>absurd w.1 e2) λw=>absurd w.1 e]]
theorem bD.fU(F:bD L a b A B):ah<|both L a b A B:=by let:=F.a0;let:=F.a1;let:=F.b0;let:=F.b1;let h:=F.ne;refine ja λx c f=>?_;rw[cU]at f ⊢;let n:=F.map.nd _ _<|ag c f;refine#[?_,λy i=>?_];rw[F.row c];split;rename_i e;subst e;exact F.pb.nodup_iff.mpr<|EB.mpr #[F.Uc,n];split;rename_i e;subst e;exact F.pa.nodup_iff.mpr<|EB.mpr #[F.no,n];exact n;ext(z|⟨z,w⟩|⟨z,w⟩:(F.mem c).mp i);let#[g,j,l,k]:=Dt.back (d:=(x,y)) #[c,f,z] F.map;exact#[g,j,l,(F.mem g).mpr<|.inl k];subst z w;exact#[F.b0,F.b1,h.symm,(F.mem F.b0).mpr<|.inr<|.inr #[rfl,rfl]];subst z w;exact#[F.a0,F.a1,h,(F.mem F.a0).mpr<|.inr<|.inl #[rfl,rfl]]
theorem bD.dt(F:bD L a b A B):Dt (both L a b A B) (a,b):=#[F.a0,cU>>F.a1,(F.mem F.a0).mpr<|.inr<|.inl #[rfl,rfl]]
theorem bD.rem(F:bD L a b A B):rem (both L a b A B) a b=L:=by
 let c:=F.a0;let f:=F.a1;let d:=F.b0;let b1:=F.b1;let g:=F.ne;unfold Gm.rem;rw[F.row c,F.row d,Ak g,Al rfl,Al rfl,F.ea,F.eb];unfold both;apply Gx;ext i;rw[HY];ext(e:b.toNat=i);rw[Al e];let:i<L.z:=();rw[Al (by simp;lia),<-e,ag d b1];rw[Ak e,HY];ext(e2:a.toNat=i);rw[Al e2,Al (by simp;lia),<-e2,ag c f];rw[Ak e2,HY,Ak e,HY,Ak e2]
theorem bD.sub(F:bD L a b A B)(d:af)(h:Dt L d):Dt (both L a b A B) d:=#[h.lo,cU>>h.hi,(F.mem h.lo).mpr<|.inl h.mem]
theorem bD.Uw(F:bD L a b A B):(eL (both L a b A B) L.z).z=(eL L L.z).z+1:=by let c:=(kZ F.fU F.dt).2;rw[F.rem]at c;let d:=bK F.fU;let e:=bK F.map;rw[cU]at c d;lia
theorem bD.bM(F:bD L a b A B)(s:bA L)(u:z1∈br L a)(h:z2∈br L b)(q:pre A z1=b)(n:pre B z2=a)(conn:∀P:af->Prop,P (z1,a)->(∀d,Dt L d->P d->P (nx L d))->P (z2,b)):bA<|both L a b A B:=by
 let#[i,l,z,p]:=Dt.back (d:=(a,z1)) #[F.a0,F.a1,u] F.map;let#[k,e1,e2,y]:=Dt.back (d:=(b,z2)) #[F.b0,F.b1,h] F.map;let#[R,D,ch]:=s.Fn;let#[w,e]:=rC F.fU;let m:nx (both L a b A B) (z1,a)=(a,b):=by unfold nx;rw[F.row F.a0,Ak F.ne,Al rfl,q]
 let g:nx (both L a b A B) (z2,b)=(b,a):=by unfold nx;rw[F.row F.b0,Al rfl,n]
 let#[j,c]:=NK F.fU F.dt m g (F.rem>>#[i,l,p]) (F.rem>>#[k,e1,y]) (F.rem>>D) e (F.rem>>conn);rw[F.rem]at c;refine#[F.fU,cU>>s.two,λx v f=>?_,w,e,?_];rw[cU]at f;let#[t,o,r]:=s.span x v f;exact#[t,o,r.mono F.sub];rw[cU,F.Uw,j,c];lia
theorem fQ:∀{l:cc} {k:Nat} {x:Int},x∉l->(put l k x).erase x=l:=λ{l k x} h=>by unfold put;rw[MK _<|λz=>h<|Fz z,KN,JS]
theorem CM:∀{l:cc} {p z x:Int},z∈l->x≠z->eS p (put l (l.idxOf z) x) z=x
 | [],_,_,_,h,_=>by cases h
 | h::t,p,z,x,hz,hx=>by
  rw[K1];ext(e:h=z);subst e;let:(h==h)=true:=by simp
  rw[this];show(if x=h then p else if h=h then x else eS h t h)=x;rw[Ak hx,Al rfl];rw[Lj e];show(if h=z then p else eS h (put t (t.idxOf z) x) z)=x;erw[Ak e,CM ((AX.mp hz).resolve_left<|λw=>e w.symm) hx]
theorem fF(hz:z∈l)(a:x∉l):pre (put l (l.idxOf z) x) z=x:=by erw[k7<|hW.mpr<|.inr hz,CM hz<|λw=>a<|w▸hz]
theorem zcj:pre ((y::l)++[x]) y=x:=by rw[k7 A!,ig (y::l) A!];show(if y=y then lst [x]else _)=x;rw[Al rfl];rfl
theorem Reach.inv(r:Reach L s x):x=s\/∃(j:Nat) (l:cc),L[j]?=some l/\x∈l:=by
 cases r with
 | here=>exact .inl rfl
 | step r e a=>exact .inr #[_,_,e,a]
theorem bA.II(s:bA L):iso L=0:=by
 unfold iso;refine Ls.mpr λl h=>?_;let#[i,k,rfl]:=Eg.mp h;let d:=me k;ext z;let c:L[i]=[]:= ~~~z
 let f:=s.two;ext(g:i=0);subst g;let#[t,b,r]:=s.span 1 () ();let:=Ax.mp b;subst this;let m:∀x,Reach L 0 x->x=0:=λx r=>by
  induction r with
  | here=>rfl
  | step r e a n=>
   rename_i j l y;let:j=0:=();subst this;rw[d]at e;cases e;rw[c]at a;cases a
 exact absurd (m 1 r) ();let#[t,b,r]:=s.span i () ();let:=Ax.mp b;subst this;ext(w|⟨j,l,e,a⟩:r.inv);lia;let:=s.map.sy _ _ e _ a i rfl _ d;rw[c]at this;cases this
theorem bA.three(s:bA L)(Q:3<=L.z)(D:Dec L R)(q:c∈R):3<=c.z:=by
 let dt:∀d∈c,Dt L d:=λd O=>(D.mem d).mp<|EG.mpr #[c,q,O];let#[x,l,e,k]:=D.gc c q;subst e;let a:=dt x AO;let#[F,b1,b2,B]:=a.back s.map;let m:=k.tl;cases l with
 | nil=>exact absurd (A4 Prod.fst m.nil_eq) b2
 | cons y l=>
  cases l with
  | cons w l=>simp
  | nil=>
   exfalso;let h:=m.hd;let ex:=m.tl.nil_eq;rw[<-h]at ex;let M:y.1=x.2:=by rw[h];rfl
   let o:y.2=x.1:=A4 Prod.fst ex;let E:pre (br L x.2) x.1=x.1:=by
    let:y.2=pre (br L x.2) x.1:=by rw[h];rfl
    rw[<-this,o]
   let J:pre (br L x.1) x.2=x.2:=(by let:pre (br L y.2) y.1=x.2:=A4 Prod.snd ex;rwa [M,o]at this);let n:=eX (s.map.nd _ _<|ag F b1) B E;let p:=eX (s.map.nd _ _<|ag a.lo a.hi) a.mem J;let g:∀u,Reach L 0 u->((u=x.1\/u=x.2)↔((0:Int)=x.1\/(0:Int)=x.2)):=λu r=>by
    induction r with
    | here=>exact Iff.rfl
    | step r e I H=>
     rename_i i l v;refine Iff.trans ?_ H;let d:=Reach.sO e I;let#[P,C,K,f]:=d.back s.map;let b:=d.mem;dsimp only at P C K f b;constructor;rintro (z|z);rw[z,p]at f;exact .inr<|Ax.mp f;rw[z,n]at f;exact .inl<|Ax.mp f;rintro (z|z);rw[z,p]at b;exact .inr<|Ax.mp b;rw[z,n]at b;exact .inl<|Ax.mp b
   let reach:∀u:Int,0<=u->u<L.z->Reach L 0 u:=λu A G=>by let#[t,N,r]:=s.span u A G;rwa[Ax.mp N]at r
   let j:=(g x.1<|reach x.1 a.lo a.hi).mp<|.inl rfl;let T:=a.lo;let S:=(g 0<|reach 0 () ()).mpr j;let U:=(g 1<|reach 1 () ()).mpr j;let W:=(g 2<|reach 2 () ()).mpr j;lia
theorem rh:∀{R:List<|List af},(∀c∈R,3<=c.z)->3*R.z<=R.flatten.z
 | [],_=>Xx _
 | c::R,h=>by let:=rh λx a=>h x<|A7 _ a;let:=h c AO;rw[Fc,Ac,Bq];lia
theorem Dec.len(m:ah L)(D:Dec L R):R.flatten.z=(cT L L.z).z:=
 len_eq D.nd (aZ m<|Xx _) λd=>(D.mem d).trans #[λh=>h.all,λh=>Dt.of h]
noncomputable def gK(L:cq):cq:=L++[[]]
theorem eY(a:0<=x):br (gK L) x=if x<L.z then br L x else []:=by
 unfold br gK;rw[su,su];ext(h:x<L.z);rw[Al h,Eh ()];rw[Ak h,Fg ()];cases q:([[]]:cq)[x.toNat-L.z]? with
 | none=>rfl
 | some l=>
  rw[Ax.mp<|A5 q];rfl
theorem iq:Dt (gK L) d↔Dt L d:=by constructor;ext h;let m:=h.mem;rw[eY h.lo]at m;ext(z:d.1<L.z);rw[Al z]at m;exact#[h.lo,z,m];rw[Ak z]at m;cases m;ext h;refine#[h.lo,by unfold gK;let:=h.hi;simp;lia,?_];erw[eY h.lo,Al h.hi,h.mem]
theorem lA:(gK L).z=L.z+1:=by unfold gK;simp
theorem zf(m:ah L):ah<|gK L:=by refine ja λx c h=>?_;rw[eY c];ext(z:x<L.z);rw[Al z];refine#[m.nd _ _<|ag c z,λy a=>?_];let#[b,e,g,f]:=Dt.back (d:=(x,y)) #[c,z,a] m;dsimp only at b e g f;rw[eY b,Al e,lA];exact#[b,(),g,f];erw[Ak z,#[.nil,λy a=>by cases a]]
theorem wj(m:ah L)(h:Dt L d):nx (gK L) d=nx L d:=by let#[a,b1,b2,b]:=h.back m;unfold nx;rw[eY a,Al b1]
theorem zfC:iso (gK L)=iso L+1:=by unfold iso gK;rw[countP_append];rfl
structure Pl(L:cq)(r:cc)(c1 cj:Nat)(dn:List Nat)(M:cq):Prop where
 sh:bA M
 len:M.z=L.z+1
 new:br M (L.z:Int)=dn.map (cy r)
 hd:∃rest,dn=c1::rest
 keep:∀x:Int,0<=x->x<L.z->(∀c∈dn,cy r c≠x)->br M x=br L x
 sub:∀d,Dt L d->Dt M d
 le:c1<=cj
 top:cj<r.z
 i1:∀i,cj<=i->i+1<c1+r.z->nx M (dj r i)=dj r (i+1)
 i2:nx M (dj r<|c1+(r.z-1))=(cy r c1,(L.z:Int))
 i3:nx M (cy r c1,(L.z:Int))=((L.z:Int),cy r cj)
 i4:nx M ((L.z:Int),cy r cj)=dj r cj
theorem jC(n:(sh 0 r).Nodup)(h:i<j)(m:j<i+r.z):dj r i≠dj r j:=by
 ext z;let f:0<r.z:=();let e1:dj r (i%r.z)=dj r i:=aU<|EX _ _;let e2:dj r (j%r.z)=dj r j:=aU<|EX _ _;let g:=AK i f;let l:=AK j f;let d:∀k (e:k<r.z),(sh 0 r)[k]'(cG>>e)=dj r k:=λk e=>by let:=tJ (s:=0) e;rw[me<|cG>>e]at this;exact BV this
 let o:i%r.z=j%r.z:=by refine(Ez (h₀:=cG>>g) (h₁:=cG>>l) n).mp ?_;rw[d _ g,d _ l,e1,e2,z]
 let:=Lh i r.z;let:=Lh j r.z;let a:r.z*(i / r.z)<r.z*(j / r.z):=();let b:i / r.z+1<=j / r.z:=Nat.lt_of_mul_lt_mul_left a;let c:=Mm r.z b;rw[Nat.mul_add,Nat.mul_one]at c;lia
theorem du(g:Good L r)(m:ah L):cy r (c+(r.z-1))∈br L (cy r c)/\0<=cy r c/\cy r c<L.z/\dj r (c+(r.z-1))=(cy r<|c+(r.z-1),cy r c):=by
 let a:=g.two;let e:cy r (c+(r.z-1)+1)=cy r c:=aH (by rw[show c+(r.z-1)+1=c+r.z by lia,Aa]);let b:=(g.dt<|c+(r.z-1)).back m;let ed:dj r (c+(r.z-1))=(cy r<|c+(r.z-1),cy r c):=by unfold dj;rw[e]
 rw[ed]at b;exact#[b.2.2.2,b.1,b.2.1,ed]
theorem nc{x:Int}(m:ah L)(b:0<=x)(a:x<L.z):(L.z:Int)∉br L x:=λz=>by let:=m.rg _ _ (ag b a) _ z;lia
theorem Pl.first(s:bA L)(g:Good L r)(nd:(Gm.sh 0 r).Nodup)(G:c<r.z) :
  bD (gK L) (cy r c) (L.z:Int) (put (br L<|cy r c) ((br L<|cy r c).idxOf<|cy r<|c+(r.z-1)) L.z) [cy r c]/\
  Pl L r c c [c] (both (gK L) (cy r c) (L.z:Int) (put (br L<|cy r c) ((br L<|cy r c).idxOf<|cy r<|c+(r.z-1)) L.z) [cy r c]):=by
 let ac:=g.two;let#[B,j,p,ed]:=du g s.map;generalize u:cy r c=x at B j p ed ⊢;generalize hz:cy r (c+(r.z-1))=z at B ed ⊢;let K:=nc s.map j p;let N:br (gK L) x=br L x:=by rw[eY j,Al p]
 let T:br (gK L) (L.z:Int)=[]:=by rw[eY (),Ak ()]
 let F:bD (gK L) x (L.z:Int) (put (br L x) ((br L x).idxOf z) L.z) [x]:=
  #[zf s.map,j,by rw[lA];lia,(),by rw[lA];lia,(),N>>K,N>>gR _ _ _,by rw[T],N>>fQ K,by rw[T];simp]
 refine#[F,?_];generalize m:both (gK L) x (L.z:Int) (put (br L x) ((br L x).idxOf z) L.z) [x]=M at F ⊢;let a:=m▸F.fU;let o:=m▸F.dt;let f:=m▸F.rem;let v:∀{y:Int},0<=y->br M y=if y=(L.z:Int)then [x]else if y=x then put (br L x) ((br L x).idxOf z) L.z else br (gK L) y:=λh=>m▸F.row h;let H:M.z=L.z+1:=by rw[<-m,cU,lA]
 let Q:x≠(L.z:Int):=();let sub:∀d,Dt L d->Dt M d:=λd b=>m▸F.sub d (iq.mpr b);let E:nx M (z,x)=(x,(L.z:Int)):=by unfold nx;rw[v j,Ak Q,Al rfl,fF B K]
 let J:nx M (x,(L.z:Int))=((L.z:Int),x):=by unfold nx;rw[v (),Al rfl];refine EF rfl ?_;unfold pre cy;simp[Nat.mod_one]
 let A:Dt L (z,x):=by let#[c0,c1,c2,c3]:=Dt.back (d:=(x,z)) #[j,p,B] s.map;exact#[c0,c1,c3]
 let Kw:∀d,Dt L d->d≠(z,x)->nx M d=nx L d:=λd b rX=>by
  let n:=mX a o (f>>iq.mpr b);rw[f,wj s.map b]at n;let U:=sub d b;let W:nx M d≠((L.z:Int),x):=λw=>by let:=dJ a U o<|w.trans J.symm;rw[this]at b;exact nc s.map j p b.mem
  rw[Ak W,Ak<|λw=>rX<|dJ a U (sub _ A)<|w.trans E.symm]at n;exact n.symm
 let YF:nx M ((L.z:Int),x)=nx L (z,x):=by let n:=mX a o (f>>iq.mpr A);rw[f,wj s.map A,E,Ak<|λw=>Q<|A4 Prod.fst w,Al rfl]at n;exact n.symm
 let#[R,D,ch]:=s.Fn;let#[R',S]:=rC a;let#[l1,Z]:=zqc a o J E (f>>iq.mpr A) (by rw[f];refine#[λc G=>?_,D.nd,λd=>(D.mem d).trans iq.symm];let#[x,l,e,k]:=D.gc c G;exact#[x,l,e,k.congr λd b=>wj s.map<|(D.mem d).mp<|EG.mpr #[c,G,b]]) S;rw[f,zfC]at Z;let Uw:(eL M M.z).z=(eL L L.z).z+1:=by let h1:=(kZ a o).2;rw[f,(len_eq (aZ (zf s.map)<|Xx _) (aZ s.map<|Xx _) λd=>#[λh=>(iq.mp<|Dt.of h).all,λh=>(iq.mpr<|Dt.of h).all])]at h1;let h2:=bK a;let h3:=bK s.map;lia
 let T9:bA M:=by
  refine#[a,by let:=s.two;lia,λy C O=>?_,R',S,?_];ext(e:y<L.z);let#[t,P,q]:=s.span y C e;exact#[t,P,q.mono sub];let X:y=(L.z:Int):=by rw[H]at O;lia
  let#[t,P,q]:=s.span x j p;rw[X];exact#[t,P,Reach.one (q.mono sub) o];rw[Uw,H,l1];lia
 let I:=ed;refine#[T9,H,by rw[v (),Al rfl,map_singleton,u],#[[],rfl],λy C O Y=>?_,sub,Xx _,G,λi ab M1=>?_,?_,?_,?_];let:=Y c A!;rw[u]at this;rw[v C,Ak (),Ak<|λw=>this w.symm,eY C,Al O];rw[Kw _ (g.dt i) (by erw[<-I,jC nd () ()]),g.st];rw[I,E,u];rw[u,J];erw[u,YF,<-I,g.st,aU<|by rw[show c+(r.z-1)+1=c+r.z by lia,Aa]]
theorem Pl.next(s:bA L)(g:Good L r)(T:(Gm.sh 0 r).Nodup)(p:Pl L r c1 cj dn M)(hc:cj<c)(So:c<r.z)(un:∀e∈dn,cy r e≠cy r c) :
  bD M (cy r c) (L.z:Int) (put (br L<|cy r c) ((br L<|cy r c).idxOf<|cy r<|c+(r.z-1)) L.z) (br M (L.z:Int)++[cy r c])/\
  Pl L r c1 c (dn++[c]) (both M (cy r c) (L.z:Int) (put (br L<|cy r c) ((br L<|cy r c).idxOf<|cy r<|c+(r.z-1)) L.z)<|br M (L.z:Int)++[cy r c]):=by
 let ac:=g.two;let le:=p.le;let#[A,o,G,ed]:=du g s.map;let l:=p.keep (cy r c) o G un;let X:cy r c∉br M (L.z:Int):=by rw[p.new];ext w;let#[e,H,h]:=A3.mp w;exact un e H h
 let I:=p.new;generalize v:cy r c=x at A o G ed l X ⊢;generalize hz:cy r (c+(r.z-1))=z at A ed ⊢;let D:=nc s.map o G;let F:bD M x (L.z:Int) (put (br L x) ((br L x).idxOf z) L.z)<|br M (L.z:Int)++[x]:=
  #[p.sh.map,o,by rw[p.len];lia,(),by rw[p.len];lia,(),l>>D,l>>gR _ _ _,MT _ _,l>>fQ D,by rw[MK _ X,KN,GA]]
 refine#[F,?_];let#[rest,a]:=p.hd;let C:br M (L.z:Int)=cy r c1::rest.map (cy r):=by rw[I,a];rfl
 let e1:dj r (c-1)=(z,x):=by erw[<-ed,(aU<|by rw[show c+(r.z-1)=(c-1)+r.z by lia,Aa]).symm]
 let U:=e1▸g.dt (c-1);let E:Dt M (cy r c1,(L.z:Int)):=by let:=Dt.back (d:=((L.z:Int),cy r c1)) #[by simp,by rw[p.len];simp;lia,C>>AO] p.sh.map;exact#[this.1,this.2.1,this.2.2.2]
 let m:=fF A D;let j:pre (br M (L.z:Int)++[x]) (cy r c1)=x:=C>>zcj
 let conn:∀P:af->Prop,P (z,x)->(∀d,Dt M d->P d->P (nx M d))->P (cy r c1,(L.z:Int)):=λP b Y=>by
  let go:∀k,c-1+k<=c1+(r.z-1)->P (dj r<|c-1+k):=by
   ext k;induction k with
   | zero=>intro _;erw[EH,e1,b]
   | succ k ih=>
    ext hk;let:=Y _ (p.sub _<|g.dt<|c-1+k)<|ih ();rwa[p.i1 (c-1+k) () ()]at this
  let:=go (c1+(r.z-1)-(c-1)) ();rw[show c-1+(c1+(r.z-1)-(c-1))=c1+(r.z-1)by lia]at this;let:=Y _ (p.sub _<|g.dt _) this;rwa[p.i2]at this
 let T9:=F.bM p.sh (l>>A) (C>>AO) m j conn;generalize f:both M x (L.z:Int) (put (br L x) ((br L x).idxOf z) L.z) (br M (L.z:Int)++[x])=N at F T9 ⊢;let t:=f▸F.fU;let R:=f▸F.dt;let u:=f▸F.rem;let q:∀{y:Int},0<=y->br N y=if y=(L.z:Int)then br M (L.z:Int)++[x]else if y=x then put (br L x) ((br L x).idxOf z) L.z else br M y:=λh=>f▸F.row h;let Nl:N.z=L.z+1:=by rw[<-f,cU,p.len]
 let J:x≠(L.z:Int):=();let B:∀d,Dt M d->Dt N d:=λd a=>f▸F.sub d a;let f1:nx N (z,x)=(x,(L.z:Int)):=by unfold nx;rw[q o,Ak J,Al rfl,m]
 let K:nx N (cy r c1,(L.z:Int))=((L.z:Int),x):=by unfold nx;rw[q (),Al rfl,j]
 let W:∀d,Dt M d->d≠(z,x)->d≠(cy r c1,(L.z:Int))->nx N d=nx M d:=λd a rX Zs=>by let b:=mX t R (u>>a);rw[u]at b;let Q:=B d a;rw[Ak λw=>Zs<|dJ t Q (B _ E)<|w.trans K.symm,Ak<|λw=>rX<|dJ t Q (B _<|p.sub _ U)<|w.trans f1.symm]at b;exact b.symm
 let YF:nx N ((L.z:Int),x)=nx M (z,x):=by let b:=mX t R (u>>p.sub _ U);rw[u,f1,Ak<|λw=>J<|A4 Prod.fst w,Al rfl]at b;exact b.symm
 let n:∀i,dj r i≠(cy r c1,(L.z:Int)):=λi w=>by let d:=g.dt i;let:=(d.back s.map).2.1;rw[w]at this;simp at this
 refine#[T9,Nl,?_,#[rest++[c],by rw[a];rfl],λy Z y1 O=>?_,λd a=>B d<|p.sub d a,(),So,λi ab M1=>?_,?_,?_,?_];rw[q (),Al rfl,I,EE,map_singleton,v];let S:=O c A!;rw[v]at S;rw[q Z,Ak (),Ak<|λw=>S w.symm];exact p.keep y Z y1 λe H=>O e<|E9 _ H;rw[W _ (p.sub _<|g.dt i) (by erw[<-e1,(jC T () ()).symm])<|n i];exact p.i1 i () M1;rw[W _ (p.sub _<|g.dt _) (by erw[<-e1,(jC T () ()).symm])<|n _];exact p.i2;rw[K,v];rw[v,YF,<-e1,p.i1 (c-1) () (),show c-1+1=c by lia]
end Gm
namespace L2
open PySem PySem.Spec PySem.W PySem.Calls PyProof.Rows
theorem Tj:bootBuiltins "set"=some (.type "set"):=by decide +kernel
end L2
namespace Gm
open PySem L2
theorem Dd(k:Nat):it L (nx L d) k=it L d (k+1):=by rw[Hh,qV];rfl
theorem zcY(h:Wk (nx L) x l y):l=tr L x l.z/\y=it L x l.z:=by
 induction h with
 | nil x=>exact#[rfl,rfl]
 | @cons x y l _ c=>
  let#[b,a]:=c;refine#[?_,by erw[Bq,<-Dd,a]];rw[Bq];unfold tr;rw[Kh,Ap,ED];show x::l=x::_;congr 1;refine b.trans ?_;unfold tr;exact EU λj _=>Dd j
theorem zeP(a:0<k)(e:it L d k=d):sh 0 (aI L d k)=tr L d k:=by
 let b:(aI L d k).z=k:=by unfold aI;simp
 unfold sh tr;erw[b,EU λj _=>by rw[iJ a e,EH]]
theorem Dec.good(m:ah L)(D:Dec L R)(a:c∈R):Good L (c.map (·.1))/\sh 0 (c.map (·.1))=c/\c.Nodup:=by
 let#[x,l,e,k]:=D.gc c a;let#[f,b]:=zcY k;let d:0<c.z:=by rw[e];simp
 let g:c.map (·.1)=aI L x c.z:=by
  conv=>lhs;rw[f]
  unfold aI tr;rw[ED];rfl
 erw[g,#[tQ m ((D.mem x).mp<|EG.mpr #[c,a,e>>AO]) d b.symm,(zeP d b.symm).trans f.symm,(JW.mp D.nd).1 c a]]
theorem Good.on(g:Good L r){P:af->Prop}(a:∀d,Dt L d->P d->P (nx L d)){i:Nat}(h:P<|dj r i)(j:Nat):P<|dj r j:=by
 let b:=g.two;let c:∀k,P<|dj r<|i+k:=by
  ext k;induction k with
  | zero=>exact h
  | succ k f=>have:=a _ (g.dt _) f;rwa[g.st]at this
 let:=c<|j+i*r.z-i;let e:i<=i*r.z:=Mc i ();rw[show i+(j+i*r.z-i)=j+i*r.z by lia]at this;rw[aU (j:=j)<|by rw[Nat.add_mul_mod_self_right]]at this;exact this
end Gm
namespace L2
open PySem PySem.Spec PySem.W PySem.Calls PyProof.Rows
def Itz(K:Frag)(a b:Addr):It:=
 #[λi H=>∃xs ys x y,bH K H a xs/\bH K H b ys/\xs[i]?=some x/\ys[i]?=some y,
  λi H v c=>∃p x y,H p=none/\v=.ref p/\(∀xs,bH K H a xs->xs[i]?=some x)/\(∀ys,bH K H b ys->ys[i]?=some y)/\c=upd H p (.tup [x,y]),
  λi H=>∃xs ys,bH K H a xs/\bH K H b ys/\(xs.z<=i\/ys.z<=i)]
theorem zdt{P:Program}{w:World}{K:Frag}{elts:List Expr}{kx:Nat}{px:Pos}{a b z TI TO i1 g:Addr}(D:ZipApart z TI TO i1 g a b) :
  Turn P w K (.Tuple elts kx px) (Itz K a b) [z,TI,TO,i1,g] z (λi h=>IsZip h z TI TO .none/\IsPair h TI (.ref i1) (.ref g)/\(∃u v,IsPair h TO u v)/\h.IsListIter i1 a i/\h.IsListIter g b i) where
 mem:=by simp
 obj:=λi h st c e=>by let#[n,f,#[u,v,l],m,j]:=st;simp only[BX,Bn,Bu]at e;ext(rfl|rfl|rfl|rfl|rfl:e);exact#[_,n,λv q=>by cases q];exact#[_,f,λv q=>by cases q];exact#[_,l,λv q=>by cases q];let#[o,e1,_,d]:=m;exact#[o,e1,λv q=>by rw[d]at q;cases q];let#[o,e1,_,d]:=j;exact#[o,e1,λv q=>by rw[d]at q;cases q]
 keep:=λi h h' st k=>by let#[n,f,#[u,v,l],m,j]:=st;exact#[k z A! _ n,k TI A! _ f,#[u,v,k TO A! _ l],m.at λo q=>k i1 A! o q,j.at λo q=>k g A! o q]
 item:=by
  ext X Q R N e i pins s σ H E I A st J;subst Q R N;let#[n,f,#[u,v,l],m,j]:=st;let#[xs,ys,x,y,B,t,T,U]:=J;let#[ia,M,F,Y]:=I.list B;let#[ib,L,O,zb]:=I.list t;let#[r,Zg,LU]:=M.get T;let#[u2,Zf,Z]:=L.get U;let S:∀c∈[z,TI,TO,i1,g],c<s.c:=λc e=>by simp only[BX,Bn,Bu]at e;ext(rfl|rfl|rfl|rfl|rfl:e);exact AL n;exact AL f;exact AL l;let#[_,q,_]:=id m;exact AL q;let#[_,q,_]:=id j;exact AL q
  refine wpAny_pyNext_zip_item D n f l m j F.isList O.isList (x:=r) (y:=u2) (~~~Zg) (~~~Zf) λh' k1 k2 k3 k4 hT hsz W=>#[_,rfl,?_];refine wpAny_letOwnedTupleGo_zip k1 λG ju p=>?_;let kk:∀c o,c∉[z,TI,TO,i1,g]->s.heap.get? c=some o->G.get? c=some o:=λc o e q=>by simp only[BX,Bn,Bu,G8]at e;exact(p.2 c e.1).trans<|W c o e.1 e.2.2.1 e.2.2.2.1 e.2.2.2.2 q
  let ZI:G.get? s.c=some { cls:=.type "tuple",data:=.seq #[r,u2,] }:=(p.2 _<|F5<|S z A!).trans hT;refine#[.ref s.c,upd H s.c<|.tup [x,y],Inv.gQ (s:=s) (h':=G) (t':=s.toks) I kk A (Xx _) #[by simp only[Bq,L5];rw[FN];decide,[r,u2],.cons LU<|.cons Z .nil,#[_,ZI,rfl,_,rfl]],rfl,
   #[_,x,y,I.bu.fresh<|Xx _,rfl,λUD C=>I.lE C B>>T,λUD C=>I.lE C t>>U,rfl],#[ju,?_,#[r,u2,(p.2 _ D.TOz).trans k2],k3.at λo q=>(p.2 i1 D.i1z).trans q,k4.at λo q=>(p.2 g D.i2z).trans q],λc e=>?_]
  exact(p.2 _ D.TIz).trans<|W TI _ D.TIz D.TITO D.TIi1 D.TIi2 f;erw[aB<|D7<|S c e,(A c e).1]
 done:=by ext X Q R N e i pins s σ H E I A st J;subst Q R N;let#[n,f,#[u,v,l],m,j]:=st;let#[xs,ys,B,t,zJ]:=J;let#[ia,M,F,Y]:=I.list B;let#[ib,L,O,zb]:=I.list t;let la:=M.z;let lb:=L.z;refine wpAny_pyNext_zip_end (I.ok.hd e) D n f l m j F.isList O.isList ?_ λh' eb=>#[rfl,Inv.oM (t':=s.toks) (ch:=[z,TI,TO,i1,g]) I (λc o e q=>?_) A];ext(q|q:zJ);left;simp;lia;right;simp;lia;simp only[BX,Bn,Bu,G8]at e;exact eb c o e.1 e.2.2.1 e.2.2.2.1 e.2.2.2.2 q
 self:=λ_ _ _ _ _ st h=>M9 st.1 h
def V5(K:Frag)(d:TA):TI:=λσ H R=>d σ H λvs c=>∃a b,vs=[.ref a,.ref b]/\(∃xs,bH K c a xs)/\(∃ys,bH K c b ys)/\R (Itz K a b) c
theorem nQ:bootBuiltins "zip"=some (.type "zip"):=by decide +kernel
abbrev ND(z TI TO i1 c a b:Addr)(i:Nat)(h:Heap):Prop:=IsZip h z TI TO .none/\IsPair h TI (.ref i1) (.ref c)/\(∃u v,IsPair h TO u v)/\h.IsListIter i1 a i/\h.IsListIter c b i
theorem NC{z TI TO i1 d a b c i:Nat}(st:ND z TI TO i1 d a b i h)(g:c∈[z,TI,TO,i1,d]):c<h.e:=by let#[hz,k,#[_,_,j],#[_,f,_],#[_,e,_]]:=st;let:=AL hz;let:=AL k;let:=AL j;let:=AL f;let:=AL e;simp only[BX,Bn,Bu]at g;lia
theorem Mi{p pos:Pos}{F:List V->Hp->Prop}(J:X.mg "zip"=none)(B:PA X [l,m] ta)(x:Gl X "zip")(N:BU X l [m])(r:IB X pos [m])(I:Inv X pins σ H s)(h:ta σ H F)(E:∀vs d,F vs d->∃a b,vs=[.ref a,.ref b]/\(∃xs,bH X.K d a xs)/\∃ys,bH X.K d b ys)(q:∀{a b z TI TO i1 i2 s2 d},F [.ref a,.ref b] d->Inv X pins σ d s2->ZipApart z TI TO i1 i2 a b->ND z TI TO i1 i2 a b 0 s2.heap->(∀c∈[z,TI,TO,i1,i2],mJ X pins d c)->Q (.ref z) s2) :
  wpAny (model X.prog X.w) X.A (eval (.Call (.Name "zip" p) [l,m] [] pos) X.env) Q X.xe s:=by
 refine Call_<|bY I x J nQ<|HH (b9 (B pos pins s σ H _ I h) λus g ⟨vs,d,f,o,j⟩=>?_) N r;let#[a,b,rfl,#[xs,P],#[ys,y]]:=E _ _ j;let#[S,u2,rfl,M,t]:=vals2 o;cases M;cases t;let#[T,U,i,R]:=f.list P;let#[Y,W,k,Z]:=f.list y;let u:a<g.c:=by let#[_,e,_]:=i.isList;exact AL e
 let L:b<g.c:=by let#[_,e,_]:=k.isList;exact AL e
 refine call_zip_2 i.isList k.isList λh' hz D G v n hsz C=>q j (f.kept (t':=g.toks) C) (by constructor<;>lia) #[hz,D,#[_,_,G],v,n] λc O=>?_;let le:g.c<=c:=by simp only[BX,Bn,Bu]at O;lia
 exact f.nJ le<|f.bu.fresh le
theorem Rn{X:Cx}{l m:Expr}{c:TA}{p pos:Pos}{elts:List Expr}{k:Nat}{px:Pos}(n:X.mg "zip"=none)(j:PA X [l,m] c)(i:E! Gl X "zip")(o:E! BU X l [m])(d:E! IB X pos [m]) :
  PI X (.Tuple elts k px) (.Call (.Name "zip" p) [l,m] [] pos) (V5 X.K c):=λpins s σ H R I h=>
 Mi n j i o d I h (λ_ _ ⟨a,b,e,x,y,_⟩=>#[a,b,e,x,y]) λ{a b z TI TO i1 r s2 t} ⟨_,_,e,_,_,q⟩ g D st f=>by cases e;exact M9 st.1 #[_,_,_,_,_,rfl,g,zdt D,st,f,q]
end L2
namespace Gm
open PySem L2
theorem C5:∀{l r:cq},l.Pairwise (λa b=>HT.cx a b=true)->r.Pairwise (λa b=>HT.cx a b=true)->(∀x,x∈l↔x∈r)->l=r
 | [],[],_,_,_=>rfl
 | [],b::r,_,_,h=>absurd ((h b).mpr AO) A!
 | a::l,[],_,_,h=>absurd ((h a).mp AO) A!
 | a::l,b::r,hl,hr,h=>by
  let#[d,i]:=ML.mp hl;let#[f,j]:=ML.mp hr;let c:∀{x y:cc},HT.cx x y=true->HT.cx y x=true->False:=λp q=>by let:=zh p;rw[q]at this;cases this
  let e:a=b:=by ext(z|z:AX.mp<|(h a).mp AO);exact z;ext(y|y:AX.mp<|(h b).mpr AO);exact y.symm;exact(c (f a z)<|d b y).elim
  subst e;let g:∀{x:cc},HT.cx x x=true->False:=λp=>by rw[oV]at p;cases p
  rw[C5 i j λx=>?_];constructor;ext z;ext(y|y:AX.mp<|(h x).mp<|A7 _ z);subst y;exact(g<|d x z).elim;exact y;ext z;ext(y|y:AX.mp<|(h x).mpr<|A7 _ z);subst y;exact(g<|f x z).elim;exact y
theorem Good.it{L:cq}{r:cc}(g:Good L r)(j:Nat):∀i,dj r (j+i)=Gm.it L (dj r j) i
 | 0=>rfl
 | i+1=>by show dj r (j+i+1)=nx L (Gm.it L (dj r j) i);rw[<-g.it j i,g.st]
theorem zbq(g:Good L r)(k:Good L q)(s:(sh 0 r).Nodup)(o:(sh 0 q).Nodup)(h:dj r 0=dj q j):∃c,c<q.z/\r=dX q c:=by
 let t:0<r.z:=by let:=g.two;lia
 let a:0<q.z:=by let:=k.two;lia
 let mem:∀x,x∈sh 0 r↔x∈sh 0 q:=λx=>by let cr:=g.gc;let f:=k.gc;let m:dj r 0∈sh 0 r:=(aF t).mpr #[0,rfl];let n:dj r 0∈sh 0 q:=(aF a).mpr #[j,h];constructor;ext z;exact cr.conn m z n λd _ e=>f.on e;ext z;exact f.conn n z m λd _ e=>cr.on e
 let b:r.z=q.z:=by let:=len_eq s o mem;rwa [cG,cG]at this
 refine#[j%q.z,AK _ a,JF (by rw[bQ<|FE<|AK _ a,b]) λi=>?_];rw[gN<|AK _ a];let e1:dj r i=dj q (j+i):=by let l:=g.it 0 i;let p:=k.it j i;rw[Fu]at l;rw[l,p,h]
 let e2:cy r i=cy q (j+i):=A4 Prod.fst e1;erw[e2,aH<|by rw[Li,Hh]]
theorem fe.sub(h:fe L R)(k:fe L S)(b:r∈R):r∈S:=by
 let g:=h.good r b;let v:0<r.z:=by let:=g.two;lia
 let#[q,a,s]:=D8.mp<|k.all _<|g.dt 0;let i:=k.good q a;let t:0<q.z:=by let:=i.two;lia
 let#[j,o]:=(aF t).mp s;let n:=(LM.mp h.nd).1 r b;let l:=(LM.mp k.nd).1 q a;let#[c,d,e]:=zbq g i n l o;let m:Le q r:=e>>k.least q a c d
 let p:Le r q:=by
  ext(z:c=0);let:r=q:=by rw[e,z];unfold dX;simp
  rw[this];exact Le.refl _;let u:r.z=q.z:=by rw[e,bQ<|FE d]
  let:=h.least r b (q.z-c) ();rw[e]at this ⊢;rw[vK d (),show q.z-c+c=q.z by lia,Gk]at this;let f:dX q 0=q:=by unfold dX;simp
  rwa[f]at this
 erw[Le.W5 p m,a]
theorem fe.unique(h:fe L R)(k:fe L S):R=S:=C5 h.sorted k.sorted λ_=>#[λz=>h.sub k z,λz=>k.sub h z]
def cK(a b:cc):Prop:=a=b\/∃c,c<b.z/\a=dX b c
theorem cK.len(h:cK a b):a.z=b.z:=by ext(rfl|⟨c,d,rfl⟩:h);rfl;exact bQ<|FE d
end Gm
namespace L2
open PySem PySem.Spec PySem.W PySem.Calls PyProof.Rows
theorem JR:bootBuiltins "max"=some (.builtin "max"):=by decide +kernel
end L2
namespace Gm
open PySem L2
theorem cK.perm(h:cK a b):a.Perm b:=by ext(rfl|⟨c,d,rfl⟩:h);exact Lq _;unfold dX;exact(perm_append_comm).trans (by rw[JS])
def bZ(L M:cq):Prop:=L.z=M.z/\∀(i:Nat) (l m:cc),L[i]?=some l->M[i]?=some m->cK l m
theorem bZ.fU(h:bZ L M)(m:ah M):ah L:=by
 let a:∀(j:Nat) (x:cc),L[j]?=some x->∃y,M[j]?=some y/\x.Perm y:=λj x e=>by
  let c:j<M.z:=by erw[<-h.1,(AA.mp e).1]
  exact#[M[j],me c,(λi l k e1 e2=>(h.2 i l k e1 e2).perm) j x M[j] e<|me c]
 refine#[λj x e=>?_,λj x e y b=>?_,λj x e y b k d z g=>?_];let#[y,e1,e2]:=a j x e;exact e2.nodup_iff.mpr<|m.nd _ _ e1;let#[w,e1,e2]:=a j x e;rw[h.1];exact m.rg _ _ e1 y<|e2.mem_iff.mp b;let#[w,e1,e2]:=a j x e;let#[w',n,f]:=a k z g;exact f.mem_iff.mpr<|m.sy _ _ e1 y (e2.mem_iff.mp b) k d _ n
theorem bZ.mem(h:bZ L M){x y:Int}(b:0<=x)(a:x<L.z):y∈br L x↔y∈br M x:=by exact(h.2 _ _ _ (ag b a)<|ag b<|by erw[<-h.1,a]).perm.mem_iff
theorem cK.trans(h:cK a b)(k:cK b c):cK a c:=by ext(rfl|⟨j,d,rfl⟩:k);exact h;ext(rfl|⟨i,e,rfl⟩:h);exact .inr #[j,d,rfl];rw[bQ<|FE d]at e;erw[vK d e,.inr #[_,AK _ (),rfl]]
theorem bZ.row(h:bZ L M){x:Int}(b:0<=x)(a:x<L.z):cK (br L x)<|br M x:=h.2 _ _ _ (ag b a) (ag b<|by erw[<-h.1,a])
theorem bZ.dt(h:bZ L M)(k:Dt M d):Dt L d:=#[k.lo,h.1>>k.hi,(h.mem k.lo<|h.1>>k.hi).mpr k.mem]
end Gm
namespace PySem
abbrev sU(h:Heap)(z TI TO a:Addr)(f:Bool):Prop:=
 h.get? z=some { cls:=.type "zip",dict:=none,data:=.fields #[rawInt a,.bool f,.bool false,.ref TI,.ref TO,],slots:=#[] }
theorem zcd(ho:s.heap.get? a=some o)(h:Q (some o) s):wpAny (model prog w) A (loadIfAlive a) Q E s:=by
 let h':Q (s.heap.get? a) s:=ho>>h
 exact λ_ _ _=>h'
theorem B6(hz:sU s.heap z TI TO a f)(e:s.heap.get? a=some oa)(h:∀h',sU h' z TI TO a true->Heap.SameBut z s.heap h'->Q false { s with heap:=h' }):wpAny (model prog w) A (Builtin.SmallTypes.ownedTupleIsFree<|.ref z) Q E s:=by
 unfold Builtin.SmallTypes.ownedTupleIsFree;refine UA<|Ju hz rfl rfl ?_;show wpAny _ _ (loadIfAlive ((a:Int).toNat) >>= _) _ _ _;rw[EC];refine UA<|zcd e ?_;simp only[Option.isNone_some,Fv,F8];refine UA<|Ju hz rfl (x:=.bool f) rfl ?_;cases f with
 | true=>
  erw[Ak<|show ¬((Value.bool true != Value.bool true)=true)from Bj,A8<|h _ hz<|Heap.SameBut.refl _ _]
 | false=>
  rw[Al<|show(Value.bool false != Value.bool true)=true from rfl];refine UA<|wpAny_setField_rec hz A! λd c b=>?_;exact A8<|h _ c b
theorem zdV{z TI TO i1 l n m a:Addr}{f:Bool}{C:Obj}{r p:Nat}{xs ys:Array Value}{x y:Value}{Q:bo}(D:ZipApart z TI TO i1 l n m)(hz:sU s.heap z TI TO a f)(H:s.heap.get? a=some C)(P:IsPair s.heap TI (.ref i1)<|.ref l)(G:s.heap.IsListIter i1 n r)(u:s.heap.IsListIter l m p)(N:s.heap.IsList n xs)(J:s.heap.IsList m ys)(K:xs[r]?=some x)(F:ys[p]?=some y)(B:∀h',sU h' z TI TO a true->h'.IsListIter i1 n (r+1)->h'.IsListIter l m (p+1)->IsPair h' s.c x y->h'.e=s.c+1->
   (∀c o,c≠z->c≠i1->c≠l->s.heap.get? c=some o->h'.get? c=some o)->Q (.ref s.c) { s with heap:=h' }) :
  wpAny (model prog w) A (Builtin.«zip.__next__» #[[.ref z],[]]) (λq O=>∃v,q=.done (.ret v)/\Q v O) E s:=by
 show wpAny _ _ (field (.ref z) 2 >>= _) _ _ _;refine UA<|Ju hz rfl (x:=.bool false) rfl ?_;show wpAny _ _ (field (.ref z) 3 >>= _) _ _ _;refine UA<|Ju hz rfl (x:=.ref TI) rfl<|UA<|JP P rfl ?_;show wpAny _ _ (Builtin.SmallTypes.ownedTupleIsFree (.ref z) >>= _) _ _ _;refine UA<|B6 hz H λh₁ k b=>?_;simp only[Fv,F8];refine UA ?_;rw[<-Array.forIn_toList];simp only[forIn_cons,forIn_nil];refine UA<|UA<|Fi ?_;show wpAny _ _ (Builtin.SmallTypes.nextOf (.ref i1) >>= _) _ _ _;refine UA<|wpAny_nextOf_list_item (G.extBut b.extBut D.i1z) (N.extBut b.extBut D.l1z) K λt j d=>A8<|A8<|UA<|UA<|Fi ?_;show wpAny _ _ (Builtin.SmallTypes.nextOf (.ref l) >>= _) _ _ _;refine UA<|wpAny_nextOf_list_item ((u.extBut b.extBut D.i2z).extBut d.extBut D.i12.symm)
  ((J.extBut b.extBut D.l2z).extBut d.extBut D.l2i1) F λh i g=>A8<|A8<|A8 ?_
 refine UA<|wpAny_newTuple (hsz:=by show 2<=sizeLine;rw[FN];decide) ?_;refine A8 #[_,rfl,?_];let hsz:h.e=s.c:=by rw[g.1,d.1,b.1]
 show Q (.ref h.e) _;rw[hsz];refine B _ (BN _<|g.extBut _ _ D.i2z.symm<|d.extBut _ _ D.i1z.symm k) ((j.extBut g.extBut D.i12).at λo e=>BN _ e) (i.at λo e=>BN _ e) (by erw[<-hsz,EL _ rfl]) (by rw[Heap.size_push,hsz]) λc o L M I e=>
  BN _ (g.extBut _ _ I<|d.extBut _ _ M<|b.extBut _ _ L e)
theorem Qa(i:A.handled=none)(D:ZipApart z TI TO i1 i2 l1 l2)(hz:sU s.heap z TI TO a f)(q:s.heap.get? a=some oa)(t:IsPair s.heap TI (.ref i1)<|.ref i2)(m:s.heap.IsListIter i1 l1 k1)(u:s.heap.IsListIter i2 l2 k2)(l:s.heap.IsList l1 xs)(v:s.heap.IsList l2 ys)(p:xs[k1]?=none)(j:∀h' e,(∀c o,c≠z->c≠i1->c≠i2->s.heap.get? c=some o->h'.get? c=some o)->(∃o,h'.get? e=some o/\o.cls=.type "StopIteration")->E (.ref e) { s with heap:=h' }) :
  wpAny (model prog w) A (Builtin.«zip.__next__» #[[.ref z],[]]) Q E s:=by
 show wpAny _ _ (field (.ref z) 2 >>= _) _ _ _;refine UA<|Ju hz rfl rfl<|UA<|Ju hz rfl rfl ?_;refine UA<|JP t rfl<|UA<|B6 hz q λh₁ h b=>?_;simp only[Fv,F8];refine UA ?_;rw[<-Array.forIn_toList];simp only[forIn_cons,forIn_nil];refine UA<|UA<|Fi<|UA<|wpAny_nextOf_list_end i (m.extBut b.extBut D.i1z) (l.extBut b.extBut D.l1z) p λg e d n=>?_;exact j g e (λc o k r _ x=>d _ _ r<|b.extBut _ _ k x) n
theorem zaT(D:ZipApart z TI TO i1 i2 l1 l2)(hz:sU s.heap z TI TO a f)(q:s.heap.get? a=some oa)(g:IsPair s.heap TI (.ref i1)<|.ref i2)(n:s.heap.IsListIter i1 l1 k1)(d:s.heap.IsListIter i2 l2 k2)(l:s.heap.IsList l1 xs)(u:s.heap.IsList l2 ys)(t:xs[k1]?=some x)(k:ys[k2]?=some y)(h:∀h',sU h' z TI TO a true->h'.IsListIter i1 l1 (k1+1)->h'.IsListIter i2 l2 (k2+1)->IsPair h' s.c x y->h'.e=s.c+1->
   (∀c o,c≠z->c≠i1->c≠i2->s.heap.get? c=some o->h'.get? c=some o)->Q (some<|.ref s.c) { s with heap:=h' }) :
  wpAny (model prog w) A (pyNext<|.ref z) Q E s:=by
 let b:s.TypeIs (.ref z) "zip":=#[_,hz,rfl];unfold pyNext;exact UA<|wpAny_attempt<|Mb b Lg<|KY Lg b F.entry_zip_next
   (zdV D hz q g n d l u t k λh' p m r j i e=>A8<|h h' p m r j i e)<|F.args_zip_next_1 _
theorem zbH(g:A.handled=none)(D:ZipApart z TI TO i1 i2 l1 l2)(hz:sU s.heap z TI TO a f)(q:s.heap.get? a=some oa)(i:IsPair s.heap TI (.ref i1)<|.ref i2)(l:s.heap.IsListIter i1 l1 k1)(d:s.heap.IsListIter i2 l2 k2)(k:s.heap.IsList l1 xs)(r:s.heap.IsList l2 ys)(n:xs[k1]?=none)(j:∀h',(∀c o,c≠z->c≠i1->c≠i2->s.heap.get? c=some o->h'.get? c=some o)->Q none { s with heap:=h' }):wpAny (model prog w) A (pyNext<|.ref z) Q E s:=by
 let b:s.TypeIs (.ref z) "zip":=#[_,hz,rfl];unfold pyNext;refine UA<|wpAny_attempt<|Mb b Lg<|KY Lg b F.entry_zip_next (Qa g D hz q i l d k r n λh' e h m=>?_)<|F.args_zip_next_1 _
 let#[o,ho,p]:=m;exact UA<|wpAny_isInstance #[o,ho,p] isSubtype_stop<|A8<|j _ h
structure oA(h:Heap)(z TI TO i1 i2 l1 l2 S:Addr)(i:Nat):Prop where
 own:(i=0/\IsZip h z TI TO .none/\∃a b,IsPair h TO a b)\/∃a f oa,sU h z TI TO a f/\h.get? a=some oa/\a∉[z,i1,i2,S]
 it:IsPair h TI (.ref i1) (.ref i2)
 one:h.IsListIter i1 l1 i
 two:h.IsListIter i2 l2 i
theorem oA.keep(x:oA h z TI TO i1 i2 l1 l2 S i)(c:∀b o,b≠S->h.get? b=some o->h'.get? b=some o)(k:S∉[z,TI,TO,i1,i2]):oA h' z TI TO i1 i2 l1 l2 S i:=by simp[BX,Bn,Bu,G8]at k;let#[l,m,n,r,q]:=k;refine#[?_,c _ _ (A6 m) x.it,x.one.at λo e=>c _ _ (A6 r) e,x.two.at λo e=>c _ _ (A6 q) e];ext(⟨e,j,a,b,d⟩|⟨a,f,p,j,d,g⟩:x.own);exact .inl #[e,c _ _ (A6 l) j,a,b,c _ _ (A6 n) d];refine .inr #[a,f,p,c _ _ (A6 l) j,c _ _ ?_ d,g];simp[BX,Bn,Bu,G8]at g;exact g.2.2.2
theorem B5(D:ZipApart z TI TO i1 i2 l1 l2)(st:oA s.heap z TI TO i1 i2 l1 l2 S i)(P:S<s.c)(N:s.heap.IsList l1 xs)(L:s.heap.IsList l2 ys)(O:xs[i]?=some x)(K:ys[i]?=some y)(J:∀h',oA h' z TI TO i1 i2 l1 l2 S (i+1)->IsPair h' s.c x y->h'.e=s.c+1->
   (∀c o,c∉[z,TO,i1,i2]->s.heap.get? c=some o->h'.get? c=some o)->Q (some<|.ref s.c) { s with heap:=h' }) :
  wpAny (model prog w) A (pyNext<|.ref z) Q E s:=by
 let H:i1<s.c:=by let#[_,e,_]:=st.one;exact AL e
 let G:i2<s.c:=by let#[_,e,_]:=st.two;exact AL e
 let f:∀{c p q r t:Addr},c∉[p,q,r,t]->c≠p/\c≠q/\c≠r/\c≠t:=λh=>by simpa only [BX,Bn,Bu,G8]using h
 let g:∀{c p q r t:Addr},c≠p->c≠q->c≠r->c≠t->c∉[p,q,r,t]:=λj d l R=>by simp[BX,Bn,Bu,G8];exact#[j,d,l,R]
 ext(⟨rfl,j,a,b,d⟩|⟨a,fl,U,j,d,l⟩:st.own);refine wpAny_pyNext_zip_item D j st.it d st.one st.two N L O K λh' F W u v m hsz k=>J h' #[.inr #[_,false,_,F,m,g (F5<|AL j) (F5 H) (F5 G)<|F5 P],k _ _ D.TIz D.TITO D.TIi1 D.TIi2 st.it,u,v] m hsz λc o C e=>?_;let#[B,M,n,I]:=f C;exact k c o B M n I e;let#[b1,b2,T,X]:=f l;refine zaT D j d st.it st.one st.two N L O K λh' F u v m hsz k=>J h' #[.inr #[a,true,U,F,k _ _ b1 b2 T d,l],k _ _ D.TIz D.TIi1 D.TIi2 st.it,u,v] m hsz λc o C e=>?_;let#[B,M,n,I]:=f C;exact k c o B n I e
theorem F3(u:A.handled=none)(D:ZipApart z TI TO i1 i2 l1 l2)(st:oA s.heap z TI TO i1 i2 l1 l2 S i)(B:s.heap.IsList l1 xs)(y:s.heap.IsList l2 ys)(C:xs[i]?=none)(v:∀h',(∀c o,c∉[z,TO,i1,i2]->s.heap.get? c=some o->h'.get? c=some o)->Q none { s with heap:=h' }):wpAny (model prog w) A (pyNext<|.ref z) Q E s:=by
 let f:∀{c p q r t:Addr},c∉[p,q,r,t]->c≠p/\c≠q/\c≠r/\c≠t:=λh=>by simpa only [BX,Bn,Bu,G8]using h
 ext(⟨rfl,k,a,b,d⟩|⟨a,fl,G,k,d,F⟩:st.own);refine wpAny_pyNext_zip_end u D k st.it d st.one st.two B y (.inl C) λh' g=>v h' λc o l e=>?_;let#[j,x,m,n]:=f l;exact g c o j x m n e;refine zbH u D k d st.it st.one st.two B y C λh' g=>v h' λc o l e=>?_;let#[j,x,m,n]:=f l;exact g c o j m n e
namespace F
theorem zba:typeLookup (.type "zip") "__len__"=pure none:=by rw[K8,Km];kernel_rfl
theorem xV:typeLookup (.type "zip") "__length_hint__"=pure none:=by rw[K8,Km];kernel_rfl
end F
section
variable {prog:Program} {w:World} {A:Around} {E:bo} {s:Shared} {xs ys:Array Value}
theorem NB(h:∀j c,(∀b o,s.heap.get? b=some o->j.get? b=some o)->j.get? s.c=some { cls:=.type "list",data:=.seq #[] c }->wpAny (model prog w) A.in1.in1 (Builtin.List.listExtendWith (.ref s.c) src .none)
 (λk i=>match k with | .done f=>wants (λr a=>r=.none/\Q (.ref s.c) a) E (.ok f) i | .again c'=>c'.quiet=true/\codeAny (model prog w) A.in1 c' (wants (λr a=>r=.none/\Q (.ref s.c) a) E) i)
    (λe i=>wants (λr a=>r=.none/\Q (.ref s.c) a) E (.error e) i) { s with heap:=j }):wpAny (model prog w) A (call (.type "list") [src]) Q E s:=by
 refine callType_codes (Q₁:=λobj d=>obj=.ref s.c/\d={ s with heap:=s.heap.push { cls:=.type "list",data:=.seq #[] } }) PySem.F.called_list (PySem.F.typeCall_list_1 _) PySem.F.entry_list_init
  (code_list_new _ #[rfl,rfl]) λobj d h₁=>?_
 let#[rfl,rfl]:=h₁;let g:(s.heap.push { cls:=.type "list",data:=.seq #[] }).get? s.c=some { cls:=.type "list",data:=.seq #[] }:=EL _ rfl;refine#[#[_,g,rfl],PySem.F.args_list_init_2 _ _,?_];show wpAny _ _ (do let l <-Builtin.List.listItems (.ref s.c);Builtin.List.listUpdate (.ref s.c) (λ_=>#[]);letGo l.toList.reverse;Builtin.List.listExtendWith (.ref s.c) _ .none) _ _ _;refine UA ?_;unfold Builtin.List.listItems;refine UA<|JP g rfl<|A8 ?_;show wpAny _ _ (updateSeq s.c (λ_=>#[]) >>= λ_=>letGo (#[]:Array Value).toList.reverse >>= λ_=>Builtin.List.listExtendWith (.ref s.c) _ .none) _ _ _;exact UA<|Ji g rfl<|UA<|L0<|h _ _ (λb o e=>(HE _ _<|F5<|AL e).trans<|BN _ e)<|IA (Obj.mapSeq<|λ_=>(#[]:Array Value)) g rfl
end
end PySem
namespace L2
open PySem PySem.Spec PySem.W PySem.Calls PyProof.Rows
theorem ID{T:String}{c b:Pos}(I:Inv X pins σ H s)(f:Gl X T)(g:X.mg T=none)(bt:bootBuiltins T=some (.type T))(i:(T:Str)≠ "__name__")(e:((T:Str)==("__debug__" : Str))=false)(a:BU X x [])(h:wpAny (model X.prog X.w) X.A (eval x X.env) (λv d=>wpAny (model X.prog X.w) X.A (call (.type T) [v]) Q X.xe d) X.xe s) :
  wpAny (model X.prog X.w) X.A (eval (.Call (.Name T c) [x] [] b) X.env) Q X.xe s:=by
 refine Call_<|bY I f g bt (HH ?_ a rfl) i e;rw[a];show wpAny _ _ (spliced<|(false,eval x X.env)::backTo b (starEach [] X.env)) _ _ s;exact Ko<|b9 h λ_ _ q=>Lf q
def Mh(H:Hp)(S:Addr)(xs ys:List V)(b:List Addr)(a:Hp):Prop:=ak H a/\a S=some (.lst b.i)/\∀(j:Nat) (p:Addr),b[j]?=some p->H p=none/\p≠S/\∃x y,xs[j]?=some x/\ys[j]?=some y/\a p=some (.tup [x,y])
theorem zq5{A:Around}{a b z TI TO i1 h S:Addr}{R:Result->Shared->Prop}{res:Value}(hh:A.in1.handled=none)(D:ZipApart z TI TO i1 h a b)(M:S∉[z,TI,TO,i1,h])(k:∀c∈[z,TI,TO,i1,h],mJ X pins H c)(qa:bH X.K H a xs)(qb:bH X.K H b ys)(Y:xs.z=ys.z)(hn:H S=none)(hR:∀L U f,Inv X pins σ U L->Mh H S xs ys f U->f.z=xs.z->R (.ok<|.ret res) L) :
  ∀(m:Nat) (f:List Addr) (l:Hp) (s:Shared),xs.z-f.z=m->f.z<=xs.z->Inv X pins σ l s->Mh H S xs ys f l->(∀c∈[z,TI,TO,i1,h],l c=none/\c<s.c)->oA s.heap z TI TO i1 h a b S f.z->
   codeAny (model X.prog X.w) A (.builtin "list.extend.loop" #[[.ref S,.ref z,res],[]]) R s:=by
 ext m;induction m<;>ext f l s hm hi I d t st<;>let#[sm,v,each]:=id d<;>let#[ia,P,G,za]:=I.list (sm.seq qa)<;>let#[ib,rb,W,zb]:=I.list (sm.seq qb)<;>let la:=P.z<;>refine Im PySem.F.entry_extend_loop ?_<;>rw[Io Mg _]<;>show wpAny _ A.in1 (pyNext (.ref z) >>= _) _ _ _;case zero=>
  refine UA<|F3 hh D st G.isList W.isList (by rw[Array.getElem?_eq_none];simp;lia) λh' E=>?_;exact A8<|hR _ l f (I.oM (t':=s.toks) (ch:=[z,TI,TO,i1,h]) (λc o g e=>E c o (λy=>g<|by simp at y ⊢;lia) e) λc g=>#[(t c g).1,(k c g).2]) d ()
 case succ m ih=>
  let r:f.z<xs.z:=();let#[J,Zg,LU]:=P.get<|me r;let#[u2,Zf,Z]:=rb.get<|me<|Y▸r;let lS:S<s.c:=by let#[_,_,_,_,e]:=I.bu _ _ v;exact AL e
  refine UA<|B5 D st lS G.isList W.isList (x:=J) (y:=u2) (~~~Zg) (~~~Zf) λh' nW hT hsz E=>?_;let O:=I.gQ (t':=s.toks) (ch:=[z,TI,TO,i1,h]) (o:=.tup [xs[f.z],ys[f.z]]) (λc o g e=>E c o (λy=>g<|by simp at y ⊢;lia) e) (λc g=>#[(t c g).1,(k c g).2]) (Xx _) #[by simp[FN],[J,u2],.cons LU<|.cons Z .nil,#[_,hT,rfl,_,rfl]];let pn:=I.bu.fresh<|Xx s.c;let#[zz,aJ,n,p,e]:=O.bu _ _<|(aB<|D7 lS).trans v;let N:=p.z;show wpAny _ A.in1 (updateSeq S (·.push (Value.ref s.c)) >>= _) _ _ _;refine UA (Ji e rfl (A8 #[GB Mg _,ih (f++[s.c]) _ _ (by simp;lia) (by simp;lia) (O.write (x:=S) (o:=.lst<|(f++[s.c]).i) (by erw[aB<|D7 lS,v,True.intro]) (.inl rfl) (λb u B q=>(HE _ _<|A6 B).trans q) #[_,IA _ e rfl] #[by simp;lia,aJ++[.ref s.c],_,?_,(IA _ e rfl).trans<|by simp[Obj.mapSeq];rfl]) #[λb u q=>(aB<|bO q hn).trans<|(sm.trans<|.upd pn) b u q,aA,λj q i=>?_] (λc g=>?_) ?_]) (by simp at N ⊢;lia)<|by simp at N ⊢;lia);rw[EE];exact p.append<|.cons rfl .nil;ext(C|C:Hk j f.z);rw[Eh C]at i;let#[g1,Q,x,y,e1,e2,T]:=each j q i;exact#[g1,Q,x,y,e1,e2,(aB Q).trans<|(aB<|bO T pn).trans T];rw[Fg C]at i;obtain⟨rfl,rfl⟩:j=f.z/\s.c=q:=by
   let:=(AA.mp i).1;simp at this;let e:j=f.z:=();subst e;exact#[rfl,~~~i]
  exact#[sm.free pn,F5 lS,_,_,me r,me<|Y▸r,(aB<|F5 lS).trans aA];let#[n1,n2]:=t c g;exact#[(aB λz:c=S=>M<|z▸g).trans<|(aB<|D7 n2).trans n1,by simp[LG,hsz];lia];erw[Ac,nW.keep (λb o B e=>(HE _ _<|A6 B).trans e) M]
def yf(K:Frag)(f:TA):TE:=λσ H Q=>f σ H λvs c=>∃a b xs ys,vs=[.ref a,.ref b]/\bH K c a xs/\bH K c b ys/\xs.z=ys.z/\
 ∀(l:Addr) (e:List Addr) (d:Hp),c l=none->Mh c l xs ys e d->e.z=xs.z->Q (.ref l) d
theorem gg:bootBuiltins "list"=some (.type "list"):=by decide +kernel
theorem zaq{J:TA}{p p2 pos N:Pos}(i:X.calm=true)(hm:X.mg "zip"=none)(zH:X.mg "list"=none)(Y:PA X [l,m] J)(T:E! Gl X "zip")(Z:E! Gl X "list")(he:E! BU X l [m])(P:E! IB X pos [m])(ju:E! (BU X (.Call (.Name "zip" p) [l,m] [] pos) [])) :
  PE X (.Call (.Name "list" p2) [.Call (.Name "zip" p) [l,m] [] pos] [] N) (yf X.K J):=by
 ext pins s σ H Q I h;refine ID I Z zH gg A? A? ju<|Mi hm Y T he P I h (λ_ _ ⟨a,b,_,_,e,x,y,_⟩=>#[a,b,e,#[_,x],#[_,y]]) ?_;ext a b z TI TO i1 U s2 H1 ⟨_,_,xs,ys,e,qa,qb,hl,q⟩ B D st f;cases e;let#[hz,xS,#[u,v,Bh],S,L]:=id st;refine NB λG c t r=>?_;let C:Shared.TypeIs { s2 with heap:=G } (.ref z) "zip":=#[_,t _ _ hz,rfl];let M:=AL hz;unfold Builtin.List.listExtendWith;refine UA<|Kr C ?_;let O:Builtin.List.listSameRef (.ref s2.c) (.ref z)=false:=by simp[Builtin.List.listSameRef,F5 M]
 let q2:(Value.type "zip"==Value.type "list")=false:=by decide
 let W:(Value.type "zip"==Value.type "tuple")=false:=by decide
 simp only[O,q2,W,Bool.or_false,Fv,F8];refine UA<|M9 (t _ _ hz)<|UA<|Fi ?_;unfold Builtin.List.listLengthHint;refine UA<|KP C F.zba ?_;show wpAny _ _ (specialOf (Value.ref z) (Str.ofString "__length_hint__") >>= _) _ _ _;refine UA<|KP C F.xV<|A8 ?_;show wpAny _ _ (rule "list.extend.makes-room" >>= λ_=>Builtin.List.listTouch (.ref s2.c) >>= λ_=>
  again<|.builtin "list.extend.loop" #[[.ref s2.c,.ref z,.none],[]]) _ _ _
 refine UA<|wpAny_rule<|UA ?_;show wpAny _ _ (updateSeq s2.c (·.push .none) >>= λ_=>updateSeq s2.c (·.pop)) _ _ _;refine UA<|Ji r rfl ?_;let g:=IA (Obj.mapSeq (·.push Value.none)) r rfl;refine Ji (hz:=by seq_fits) g rfl ?_;let k:∀b o,s2.heap.get? b=some o->((G.update s2.c<|Obj.mapSeq (·.push Value.none)).update s2.c<|Obj.mapSeq (·.pop)).get? b=some o:=λb o e=>have n:=F5<|AL e;(HE _ _ n).trans ((HE _ _ n).trans<|t b o e)
 let E:=B.bu.fresh<|Xx _;let w:∀c∈[z,TI,TO,i1,U],c<s2.c:=λ_=>NC st;refine A8 #[GB Mg _,zq5 (A:=X.A.in1) (B.ok.hd i) D (λz=>EK _<|w _ z) f qa qb hl E (λs' H' as R d e=>#[rfl,.ref s2.c,H',R,rfl,q _ _ _ E d e]) _ [] _ _ rfl (Bv _)
  (B.laid (t':=s2.toks) k (Xx _) (o:=.lst []) #[Bv _,[],_,.nil,(IA _ g rfl).trans<|by simp[Obj.mapSeq];rfl]) #[.upd E,aA,λj q e=>by simp at e] (λc i=>#[(aB<|D7<|w c i).trans (f c i).1,by simp only[LG];exact IH (w c i)<|AL r])
  #[.inl #[rfl,k _ _ hz,u,v,k _ _ Bh],k _ _ xS,S.at λo e=>k _ o e,L.at λo e=>k _ o e]]
end L2
namespace Gm
open PySem L2
theorem Lp.perm(p:Lp L R ks)(h:qP.Perm ks):Lp L R qP:=
 #[p.good,p.least,h.nodup_iff.mpr p.nd,h.trans p.pm,h.length_eq>>p.two]
theorem zdA(h:j<r.z):(dX r 1)[j]?=some (cy r<|j+1):=by
 let c:(dX r 1).z=r.z:=bQ ();let e1:cy (dX r 1) j=(dX r 1)[j]'():=a9 ();ext(a:1<r.z);rw[gN a]at e1;rw[e1];exact me _;let e2:r.z=1:=();let b:j=0:=();subst b
 match r,e2 with
 | [x],_=>unfold dX cy;simp
theorem W4(h:j<r.z):r[j]?=some (cy r j):=a9 h>>me _
end Gm
namespace L2
open PySem PySem.Spec PySem.W PySem.Calls PyProof.Rows
theorem Bb{n:Nat}{k:Int}(b:0<=k)(a:k<n):xP n k=some k.toNat:=by unfold xP;rw[Al b,Al a]
end L2
namespace L2
open PySem PySem.Spec PySem.W PySem.Calls PyProof.Rows
noncomputable def Vp(K:Frag):List V->Hp->VK->Prop:=λvs H Q=>∃(a:Addr) (b:List Bool),vs=[.ref a]/\bH K H a (b.map V.bl)/\Q (.bl<|b.all id) H
theorem uJ:∀{a:List Bool} {c:bc},Vals (a.map V.bl) c->c=a.map Value.bool
 | [],_,h=>by cases h;rfl
 | b::a,_,h=>by
  cases h with
  | @cons _ u _ us d rv=>
   cases d;rw[uJ rv];rfl
theorem all_range(a:List Bool):((List.range a.z).all λi=>a.getD i false)=a.all id:=by
 induction a with
 | nil=>rfl
 | cons b a c=>
  rw[Bq,Kh,all_cons,all_map,all_cons];congr 1
theorem zdj(x:X.calm=true):dC X (.builtin "all")<|Vp X.K:=by
 ext pins s σ H xs us Q I r h;let#[a,c,rfl,m,q]:=h;let#[u,rfl,g]:=vals1 r;cases g;let#[B,rv,pl,hz]:=I.list m;obtain rfl:=uJ rv;let t:a<s.c:=by let#[_,e,_]:=pl.isList;exact AL e
 refine call_all_walk<|MH pl.isList #[s.c,_,_,_,_,_,λi=>c.getD i false,rfl,Walks.list (A:=X.A.in1) (I.ok.hd x) s.c a (D7 t) (c.map Value.bool).toArray,#[#[_,EL _ rfl,rfl,rfl],pl.isList.at λo e=>BN _ e],λi v w j y k l=>?_,λh' C p=>?_];let d:(c.map Value.bool)[i]?=some v:= ~~~k
 rw[AY]at d;cases e:c[i]? with
 | none=>rw[e]at d;cases d
 | some b=>
  rw[e]at d;cases d;let:c.getD i false=b:=by rw[su,e];rfl
  let f:j b w:=by erw[<-this,l]
  exact Ih f
 let n:(c.map Value.bool).toArray.size=c.z:=by simp
 rw[n,all_range];exact#[.bl<|c.all id,H,I.kept λb o e=>p b o (λz=>by
  let:b=s.c:= ~~~z
  exact absurd (AL e)<|this>>EK _)<|BN _ e,rfl,q]
end L2
namespace Gm
open PySem L2
theorem fW{s:cc->Nat}:∀(R:cq),(R.flatMap λr=>sh (s r) r).Perm (R.flatMap<|sh 0)
 | []=>.nil
 | r::R=>by erw[HM,HM,(gx r _).append<|fW R]
def lo(R:cq)(d:af):Int:=(R.findIdx λr=>decide (d∈sh 0 r):Nat)
theorem Iy(h:(R.flatMap<|sh 0).Nodup){i:Nat}(a:R[i]?=some r)(c:d∈sh 0 r):lo R d=i:=by
 induction R generalizing i with
 | nil=>simp at a
 | cons q R j=>
  rw[HM,J1]at h;let#[k,f,g]:=h;unfold lo;rw[findIdx_cons];cases i with
  | zero=>
   let e:q=r:= ~~~a
   subst e;rw[BG c];rfl
  | succ i=>
   let b:R[i]?=some r:= ~~~a
   rw[BQ<|λz=>g d z d (D8.mpr #[r,A5 b,c]) rfl];let:=j f b;unfold lo at this;show((R.findIdx (λr=>decide<|d∈sh 0 r)+1:Nat):Int)=_;lia
def yY(R:cq)(s:Nat)(r:cc):cc:=(sh s r).map λd=>lo R (d.2,d.1)
theorem fG(R:cq)(s:Nat)(r:cc):(yY R s r).z=r.z:=by unfold yY;rw[ZO,cG]
theorem qz(h:j<r.z):(yY R s r)[j]?=some (lo R ((dj r<|j+s).2,(dj r<|j+s).1)):=by unfold yY;rw[AY,tJ h];rfl
theorem HV(c:0<r.z)(j:Nat):cy (yY R s r) j=lo R ((dj r<|j+s).2,(dj r<|j+s).1):=by
 let a:j%r.z<r.z:=AK _ c;let b:j%r.z<(yY R s r).z:=fG>>a
 rw[aH (by rw[fG,EX]),a9 b];let e2:=qz (R:=R) (s:=s) a;rw[me b]at e2;rw[BV e2];let d:dj r (j%r.z+s)=dj r (j+s):=aU (by rw[KO]);rw[d]
def rT(D:cq):Prop:=∀(k:Nat) (l:cc),D[k]?=some l->(k:Int)∉l/\l.Nodup
theorem DY(a:ah L)(h:Dt L d):Dt L (d.2,d.1):=by let:=h.back a;exact#[this.1,this.2.1,this.2.2.2]
theorem uu{α β:Type}(f:α->List β)(R:List α)(i:Nat):((R.take i).flatMap f).Sublist<|R.flatMap f:=by
 let e:R.flatMap f=(R.take i).flatMap f++(R.drop i).flatMap f:=by rw[<-I8,JS]
 erw[e,sublist_append_left _ _]
inductive dH(L:cq)(S:cc)(s:Int):Int->Prop where
 | here:dH L S s s
 | step {i:Nat} {l:cc} {x:Int}:dH L S s i->L[i]?=some l->x∈l->x∉S->dH L S s x
theorem dH.rg(h:dH L S s x)(m:ah L)(a:0<=s/\s<L.z):0<=x/\x<L.z:=by
 cases h with
 | here=>exact a
 | step _ e b _=>
  let:=m.rg _ _ e x b;exact#[this.1,this.2.1]
structure F2(L:cq)(S:cc)(s:Int)(ks ws:cc):Prop where
 nd:ks.Nodup
 nw:ws.Nodup
 st:s∈ks
 re:∀x∈ks,dH L S s x
 sub:∀x∈ws,x∈ks
 cl:∀(i:Nat) (l:cc),(i:Int)∈ks->(i:Int)∉ws->L[i]?=some l->∀x∈l,x∉S->x∈ks
structure KH(L:cq)(S:cc)(s:Int)(ks ws:cc)(pl:Nat)(l:cc)(k:Nat):Prop where
 nd:ks.Nodup
 nw:ws.Nodup
 st:s∈ks
 re:∀x∈ks,dH L S s x
 sub:∀x∈ws,x∈ks
 pk:(pl:Int)∈ks
 cl:∀(i:Nat) (m:cc),(i:Int)∈ks->(i:Int)∉ws->i≠pl->L[i]?=some m->∀x∈m,x∉S->x∈ks
 tk:∀x∈l.take k,x∉S->x∈ks
section
variable {L:cq} {S:cc} {s:Int} {ks ws:cc} {pl k:Nat} {l:cc} {x:Int}
theorem F2.start:F2 L S s [s] [s]:=#[by simp,by simp,by simp,λx h=>by erw[Ax.mp h,.here],λx h=>h,λi l b a=>absurd b a]
theorem F2.pop(h:F2 L S s ks<|ws++[(pl:Int)]):KH L S s ks ws pl l 0:=
 #[h.nd,(vc.mp h.nw).2,h.st,h.re,λx a=>h.sub x<|E9 _ a,h.sub _ A!,λi m c b e d x a=>h.cl i m c (λz=>by ext(z|z:Af.mp z);exact b z;let:=Ax.mp z;lia) d x a,λx a=>by simp at a]
theorem KH.add(h:KH L S s ks ws pl l k)(e:l[k]?=some x)(n:x∉ks)(j:x∉S)(o:L[pl]?=some l):KH L S s (ks++[x]) (ws++[x]) pl l<|k+1:=by refine#[vc.mpr #[n,h.nd],vc.mpr #[λz=>n<|h.sub _ z,h.nw],E9 _ h.st,λy a=>?_,λy a=>?_,E9 _ h.pk,λi m f c d g y a b=>?_,λy a b=>?_];ext(z|z:Af.mp a);exact h.re y z;rw[Ax.mp z];exact .step (h.re _ h.pk) o (A5 e) j;ext(z|z:Af.mp a);exact E9 _<|h.sub y z;exact E8 _ z;refine E9 _<|h.cl i m ?_ (λz=>c<|E9 _ z) d g y a b;ext(z|z:Af.mp f);exact z;exact absurd (E8 _ z) c;ext(z|z:yd e a);exact E9 _<|h.tk y z b;erw[z,E8 _ A!]
theorem KH.skip(h:KH L S s ks ws pl l k)(e:l[k]?=some x)(n:x∈ks\/x∈S):KH L S s ks ws pl l<|k+1:=
 #[h.nd,h.nw,h.st,h.re,h.sub,h.pk,h.cl,λy b a=>by ext(z|z:yd e b);exact h.tk y z a;ext(n|n:n);rw[z];exact n;exact absurd (z▸n) a]
theorem KH.done(h:KH L S s ks ws pl l l.z)(g:L[pl]?=some l):F2 L S s ks ws:=
 #[h.nd,h.nw,h.st,h.re,h.sub,λi m f d a x c b=>by ext(e:i=pl);subst e;rw[g]at a;cases a;exact h.tk x (F6>>c) b;exact h.cl i m f d e a x c b]
theorem F2.all(h:F2 L S s ks [])(x:Int):x∈ks↔dH L S s x:=by
 refine#[h.re x,λr=>?_];induction r with
 | here=>exact h.st
 | step _ e b a c=>exact h.cl _ _ c A! e _ b a
theorem F2.len(m:ah L)(b:0<=s/\s<L.z)(c:ks.Nodup)(a:∀x∈ks,dH L S s x):ks.z<=L.z:=cZ c λx d=>(a x d).rg m b
end
noncomputable def aP(n:Nat):cc:=(List.range n).map λi:Nat=>(i:Int)
theorem cR:x∈aP n↔0<=x/\x<n:=by unfold aP;rw[mem_map];constructor;ext⟨i,a,rfl⟩;let:=Ad.mp a;lia;intro#[h1,h2];exact#[x.toNat,Ad.mpr (),()]
theorem g9(n:Nat):(aP n).Nodup:=Gv _ (λa b h z=>h ()) JK
theorem zeq(h:i<n):(aP n)[i]?=some (i:Int):=by unfold aP;simp[h]
theorem bB(n:Nat):(aP n).z=n:=by unfold aP;simp
def left(n:Nat)(S:cc):cc:=(aP n).filter λx=>!decide (x∈S)
open Classical in
noncomputable def rn (L:cq) (S:cc) (s:Int):Nat:=((aP L.z).filter λx=>decide<|dH L S s x).z
theorem OG{L:cq}{S ks:cc}{s:Int}(m:ah L)(a:0<=s/\s<L.z)(c:ks.Nodup)(b:∀x,x∈ks↔dH L S s x):ks.z=rn L S s:=by unfold rn;refine List.Perm.length_eq<|(N5 c<|(g9 _).filter _).mpr λx=>?_;rw[b,Gp,cR];constructor;ext r;exact#[r.rg m a,~~~r];intro#[_,r];simpa using r
theorem Q4(a:0<=s/\s<L.z):0<rn L S s:=by unfold rn;refine Fp<|ER.mpr #[cR.mpr a,?_];simpa using dH.here
noncomputable def Aj (L:cq) (S:cc):Bool:=match left L.z S with | []=>false|s::r=>decide<|rn L S s<(s::r).z
theorem CI(h:left L.z S=[]):Aj L S=false:=by unfold Aj;rw[h]
theorem qi(h:left L.z S=s::r):Aj L S=decide (rn L S s<(s::r).z):=by unfold Aj;rw[h]
theorem lG(h:s∈left n S):0<=s/\s<n/\s∉S:=by unfold left at h;let#[b,a]:=ER.mp h;let:=cR.mp b;exact#[this.1,this.2,~~~a]
theorem zdO(h:left L.z S=[s]):Aj L S=false:=by rw[qi h];let:=lG (n:=L.z) (S:=S) (s:=s) (h>>Ax.mpr rfl);let:=Q4 (L:=L) (S:=S) (s:=s) #[this.1,this.2.1];exact BQ (by simp;lia)
theorem zeo(n:Nat)(S:cc):(left n S).z<=n:=by let:=LF (λx=>!decide (x∈S))<|aP n;rwa[bB]at this
noncomputable def twos(n a:Nat):cq:=(List.range<|n-(a+1)).map λj:Nat=>[(a:Int),(a:Int)+1+(j:Int)]
def dE(n:Nat):Nat->cq
 | 0=>[]::(aP n).map λi=>[i]
 | k+1=>dE n k++twos n k
theorem twos_at{n a j:Nat}(h:j<n-(a+1)):(twos n a)[j]?=some [(a:Int),(a:Int)+1+j]:=by unfold twos;simp[h]
theorem twos_len(n a:Nat):(twos n a).z=n-(a+1):=by unfold twos;simp
end Gm
namespace Gm
open PySem L2
theorem Bf{l:cc}{k:Nat}(n:l.Nodup)(a:k<l.z):l.idxOf l[k]=k:=by exact(Ez n).mp<|Ex<|Ci<|ET a
end Gm
namespace Gm
open PySem L2
end Gm
namespace L2
open PySem PySem.Spec PySem.W PySem.Calls PyProof.Rows Gm
section
variable {X:Cx} {l:Expr} {tl:TE} {p p2 pos cQ:Pos}
def yg(tl:TE):TE:=λσ H Q=>tl σ H λx a=>∃n:Nat,x=.int (n:Int)/\n<=1000/\∀p,a p=none->Q (.ref p) (upd a p<|.lst<|(aP n).f)
theorem sX{lo st:Int}{n:Nat}(h:ItemsOf (λi v=>∃t,v=Value.int (lo+(i:Int)*st) t) acc n):Vals (((List.range n).map λi:Nat=>lo+(i:Int)*st).f) acc.toList:=by
 let#[d,h]:=h;let key:∀(l:bc) (k:Nat),(∀j v,l[j]?=some v->∃t,v=Value.int (lo+((k+j:Nat):Int)*st) t)->Vals (((List.range' k l.z).map λi:Nat=>lo+(i:Int)*st).f) l:=by
  ext l;induction l with
  | nil=>intro k _;exact .nil
  | cons a l f=>
   ext k c;rw[Bq,range'_succ,Ap,Ap];refine .cons ?_<|f (k+1) λj v e=>?_;let#[t,e]:=c 0 a rfl;exact#[t,e];let#[t,b]:=c (j+1) v (~~~e);refine#[t,?_];rw[b,show k+(j+1)=k+1+j by lia]
 let:=key acc.toList 0 λj v e=>by let#[t,b]:=h j v (by erw[<-MS,e]);refine#[t,?_];rw[b,Fu]
 rw[Fs,d]at this;erw[range_eq_range',this]
theorem NA{Q:VK}{z:Addr}{lo:Int}{n:Nat}(g:X.calm=true)(I:Inv X pins σ H s)(hz:IsRange s.heap z lo (lo+n) 1 t u v)(k:n<=1000)(l1 : -1000<=lo)(j:lo<=1000)(q:∀p,H p=none->Q (.ref p) (upd H p<|.lst<|((List.range n).map λi:Nat=>lo+(i:Int)).f)):wpAny (model X.prog X.w) X.A (call (.type "list") [.ref z]) (EP X pins σ Q) X.xe s:=
 call_list_range (n:=n) (I.ok.hd g) hz (small_one () () () ()) (by rw[rangeSize_one];split<;>lia) () λh f a c e d b=>
  #[.ref s.c,_,I.laid (t':=f) (o:=.lst _) e (Xx _) #[by simp[FN];lia,a.toList,c,by simpa only [Int.mul_one]using sX (st:=1) b,d],rfl,q _<|I.bu.fresh<|Xx _]
theorem v8(k:X.calm=true)(f:X.mg "range"=none)(u:X.mg "list"=none)(m:PE X l tl)(i:E! Gl X "range")(r:E! Gl X "list")(j:E! BU X l [])(a:E! (BU X (.Call (.Name "range" p) [l] [] pos) [])) :
  PE X (.Call (.Name "list" p2) [.Call (.Name "range" p) [l] [] pos] [] cQ) (yg tl):=by
 ext pins s σ H Q I h;refine ID I r u gg A? A? a<|ID I i f boot_range A? A? j<|b9 (m pins s σ H _ I h) λw y ⟨x,z,d,b,g⟩=>?_;let#[n,rfl,v,q]:=g;let#[t,rfl]:=b;exact call_range_1 (NA (lo:=0) k (d.kept λc o e=>BN _ e) (Int.zero_add>>IsRange.new ..) v () ()<|by simp only[Int.zero_add];exact q)
end
theorem V0(h:(a7 P w).is k u=true):RelV (kV k) u:=by
 rw[zau]at h;cases k with
 | inl i=>
  let h:Value.isInt i u=true:=h;cases u<;>simp_all[Value.isInt,kV,RelV]
 | inr x=>exact Value.isStrOf_shape h
theorem KV.key(h:KV kvs vs):∀{i:Nat} {k:Key} {x:Value},vs[i]?=some (k,x)->∃v,kvs[i]?=some (k,v):=by
 induction h with
 | nil=>intro i k x e;cases i<;>cases e
 | @cons p q kvs vs r t c=>
  ext i k x e;cases i with
  | zero=>
   let e:q=(k,x):= ~~~e
   subst e;let#[a,b]:=p;let:a=k:=r.1;exact#[b,by rw[<-this];rfl]
  | succ i=>exact c (~~~e)
section
variable {X:Cx} {tg:Expr}
def Hm:List V->Hp->VK->Prop:=λxs H Q=>∃a kvs,xs=[V.ref a]/\H a=some (.dK kvs)/\∀p,H p=none->Q (.ref p) (upd H p<|.lst<|kvs.map λkv=>kV kv.1)
theorem zaQ(kv:KV kvs vs)(h:ItemsOf (λi v=>∃k x,vs[i]?=some (k,x)/\(a7 P w).is k v=true) acc vs.z):Vals (kvs.map λkv=>kV kv.1) acc.toList:=by
 let#[d,h]:=h;let key:∀(kvs:List<|Key×V) (l:bc),kvs.z=l.z->(∀(j:Nat) (u:Value),l[j]?=some u->∃k v,kvs[j]?=some (k,v)/\RelV (kV k) u)->Vals (kvs.map λkv=>kV kv.1) l:=by
  ext kvs;induction kvs with
  | nil=>intro l c _;cases l with|nil=>exact .nil|cons _ _=>simp at c
  | cons p kvs f=>
   ext l c b;cases l with
   | nil=>simp at c
   | cons a l=>
    refine .cons ?_<|f l (~~~c) λj u e=>?_;let#[k,v,e,r]:=b 0 a rfl;let e:p=(k,v):= ~~~e
    rw[e];exact r;let#[k,v,m,r]:=b (j+1) u (~~~e);exact#[k,v,~~~m,r]
 refine key _ _ (kv.length.trans<|d.symm.trans Fs.symm) λj u e=>?_;let#[k,x,e1,b]:=h j u (by erw[<-MS,e]);let#[v,g]:=kv.key e1;exact#[k,v,g,V0 b]
theorem zaj(i:X.calm=true):dC X (.type "list") Hm:=by ext pins s σ H xs us Q I r h;let#[a,kvs,rfl,j,q]:=h;let#[u,rfl,k]:=vals1 r;cases k;let#[hz,g,vs,kv,dd]:=uD I.bu j;let#[n,f]:=dd.dictAt;let l:=kv.z;refine kdl_call (kdl_dict g) (I.ok.hd i) f () λh' m b c d e it=>?_;refine#[.ref s.c,_,I.laid d (Xx _)<|show aY X.prog X.w _ h' _ (.lst<|kvs.map λkv=>kV kv.1)from#[ZO>>hz,b.toList,c,zaQ kv it,NI>>e],rfl,q _<|I.bu.fresh<|Xx _]
noncomputable def Itv(K:Frag)(a:Addr)(xs:List V):It:=
 #[λi H=>bH K H a xs/\i<xs.z,λi H x b=>b=H/\xs.reverse[i]?=some x,λi H=>xs.z<=i]
theorem zco{P:Program}{w:World}{K:Frag}{tg:Expr}{a it:Addr}{xs:List V} :
  Turn P w K tg (Itv K a xs) [it] it (λi h=>i<=xs.z/\h.IsRevIter it a ((xs.z:Int)-1-(i:Int))) where
 mem:=by simp
 obj:=λi h st b f=>by
  let e:b=it:= ~~~f
  subst e;let#[_,o,e,c,d]:=st;exact#[o,e,λv z=>by rw[d]at z;cases z]
 keep:=λi h h' st k=>#[st.1,st.2.at λo e=>k it A! o e]
 item:=by
  ext X q y m F i pins s σ H E I l st j;subst q y m;let#[O,W]:=j;let#[T,rv,p,hz]:=I.list O;let U:=rv.z;let#[r,C,N,A,t,B]:=l it A!;let n:(xs.z:Int)-1-(i:Int)=((xs.z-1-i:Nat):Int):=();let g:=st.2;rw[n]at g;let#[u,Q,G]:=rv.get (i:=xs.z-1-i) (x:=xs[xs.z-1-i]'()) (by simp[show xs.z-1-i<xs.z by lia]);refine wpAny_pyNext_rev_item g p.isList (x:=u) (~~~Q) λh' D J=>?_;let e2:((xs.z-1-i:Nat):Int)-1=(xs.z:Int)-1-((i+1:Nat):Int):=();rw[e2]at D;let#[Y,L,R,S]:=id D;refine#[u,rfl,ui (s:={ s with heap:=h' }) L R S A? #[_,H,I.turned (t':=s.toks) (λb o f e=>(J.2 b f).trans e) r C A t B,G,#[rfl,?_],#[(),D],λb f=>(l b f).1]];rw[getElem?_reverse (),me ()]
 done:=by
  ext X q y m F i pins s σ H E I l st j;subst q y m;let j:xs.z<=i:=j;let#[r,C,N,A,t,B]:=l it A!;let n:(xs.z:Int)-1-(i:Int)=-1:=by let:=st.1;lia
  let g:=st.2;rw[n]at g;exact wpAny_pyNext_rev_end (I.ok.hd F) g λh' M=>#[rfl,I.turned (t':=s.toks) (λb o f e=>M b o f e) r C A t B]
 self:=λ_ _ _ _ _ st h=>wpAny_pyIter_revIter st.2 h
def V6(K:Frag)(c:TE):TI:=λσ H R=>c σ H λx b=>∃a xs,x=.ref a/\bH K b a xs/\R (Itv K a xs) b
theorem Ro{i:TE}{p pos:Pos}(A:X.mg "reversed"=none)(z:PE X l i)(w:E! Gl X "reversed")(k:E! BU X l []):PI X tg (.Call (.Name "reversed" p) [l] [] pos)<|V6 X.K i:=by
 ext pins s σ H R I h;refine Call_<|bY I w A boot_reversed<|HH ?_ k rfl;rw[k];refine Ko<|b9 (z pins s σ H _ I h) λD d ⟨x,j,f,r,t⟩=>Lf ?_;let#[a,xs,rfl,B,q]:=t;cases r;let#[g,y,n,C]:=f.list B;let E:=y.z;refine call_reversed_list n.isList ?_;generalize m:d.heap.push (revObj a<|(g.toArray.size:Int)-1)=h';let hz:h'.IsRevIter d.c a<|(g.toArray.size:Int)-1:=m▸#[_,EL _ rfl,rfl,rfl];let v:Inv X pins σ j { d with heap:=h' }:=f.kept λc o e=>m▸BN _ e;refine wpAny_pyIter_revIter hz #[d.c,[d.c],_,_,j,rfl,v,zco,#[Bv _,?_],λb u=>?_,q];let:((g.toArray.size:Nat):Int)-1=(xs.z:Int)-1-((0:Nat):Int):=by simp;lia
 rwa[this]at hz;let e:b=d.c:= ~~~u
 subst e;exact f.nJ (Xx _)<|f.bu.fresh<|Xx _
end
end L2
namespace Gm
open PySem L2
noncomputable def gp(l:cc)(i:Int):Int:=l.getD i.toNat 0
theorem Ie{k:Nat}{x:Int}(h:l[k]?=some x):gp l (k:Int)=x:=by unfold gp;rw[EC,su,h];rfl
theorem we(b:0<=i)(c:i<l.z):l[i.toNat]?=some (gp l i):=by
 let a:i.toNat<l.z:=();let:=Ie<|me a;rw[Hx b]at this;erw[this,me a]
structure rZ(n:Nat)(l:cc):Prop where
 len:l.z=n
 nd:l.Nodup
 rg:∀x∈l,0<=x/\x<n
theorem rZ.all{n:Nat}(h:rZ n l){x:Int}(c:0<=x)(b:x<n):x∈l:=by
 refine BS λz=>?_;let:=cZ (EB.mpr #[z,h.nd]) λy a=>by ext(rfl|a:AX.mp a);exact#[c,b];exact h.rg y a
 rw[Bq,h.len]at this;lia
theorem rZ.L3{n:Nat}(h:rZ n l){i:Int}(b:0<=i)(a:i<n):0<=gp l i/\gp l i<n:=
 h.rg _ (A5<|we b<|h.len>>a)
theorem rZ.inj{n:Nat}(h:rZ n l){i j:Int}(d:0<=i)(i1:i<n)(b:0<=j)(f:j<n)(e:gp l i=gp l j):i=j:=by let a:=we d (h.len>>i1);rw[e]at a;let#[g,c]:=AA.mp a;let#[b1,b2]:=AA.mp (we b<|h.len>>f);let:=(Ez h.nd).mp<|c.trans b2.symm;lia
theorem rZ.AZ{n:Nat}(h:rZ n l){x:Int}(c:0<=x)(b:x<n):∃j:Int,0<=j/\j<n/\gp l j=x:=by let#[k,a,e]:=Eg.mp<|h.all c b;exact#[(k:Int),(),by rw[h.len]at a;lia,Ie<|by rw[me a,e]]
structure D2(A:cq)(l:cc)(R:cq):Prop where
 len:R.z=A.z
 row:∀j:Int,0<=j->j<A.z->R[(gp l j).toNat]?=some ((br A j).map<|gp l)
theorem dQ{i:Nat}(h:L[i]?=some l):br L (i:Int)=l:=by unfold br;rw[EC,su,h];rfl
theorem D2.fU(h:D2 A l R)(n:rZ A.z l)(m:ah A):ah R:=by
 let q:∀(i:Nat) (r:cc),R[i]?=some r->∃j:Int,0<=j/\j<A.z/\gp l j=i/\r=(br A j).map (gp l):=λi r p=>by let I:=(AA.mp p).1;rw[h.len]at I;let#[j,c,f,e]:=n.AZ (x:=(i:Int)) () ();let t:=h.row j c f;rw[e,EC,p]at t;exact#[j,c,f,e,BV t]
 let rg:∀{j x:Int},0<=j->j<A.z->x∈br A j->0<=x/\x<A.z/\x≠j/\j∈br A x:=λ{j x} c f g=>Dt.back (d:=(j,x)) #[c,f,g] m;refine#[λi r p=>?_,λi r p y v=>?_,λi r p y v k F L K=>?_];let#[j,c,f,e,rfl]:=q i r p;let:∀s:cc,s.Nodup->(∀x∈s,0<=x/\x<A.z)->(s.map<|gp l).Nodup:=by
  ext s;induction s with
  | nil=>intro _ _;exact nodup_nil
  | cons a s H=>
   ext J u;rw[Ap,nodup_cons];let D:=EB.mp J;refine#[λz=>?_,H D.2 λx g=>u x<|A7 _ g];let#[b,w,G]:=A3.mp z;let B:=u a AO;let C:=u b<|A7 _ w;exact D.1<|n.inj C.1 C.2 B.1 B.2 G▸w
 exact this _ (m.nd _ _<|ag c f) λx g=>#[(rg c f g).1,(rg c f g).2.1];let#[j,c,f,e,rfl]:=q i r p;let#[x,g,rfl]:=A3.mp v;let o:=rg c f g;let E:=n.L3 o.1 o.2.1;exact#[E.1,h.len>>E.2,λz=>o.2.2.1<|n.inj o.1 o.2.1 c f<|z.trans e.symm];let#[j,c,f,e,rfl]:=q i r p;let#[x,g,rfl]:=A3.mp v;let o:=rg c f g;let t:=h.row x o.1 o.2.1;rw[F,EC,K]at t;erw[BV t,A3.mpr #[j,o.2.2.2,e]]
def sV(L:cq):Prop:=∀x:Int,0<=x->x<L.z->Reach L 0 x
theorem Reach.sym(h:Reach L s x)(m:ah L)(f:0<=s/\s<L.z):Reach L x s:=by
 induction h with
 | here=>exact .here
 | @step i l x r e c a=>
  let d:=Reach.sO e c;let b:=d.back m;exact(Reach.one (d:=(x,(i:Int))) .here #[b.1,b.2.1,b.2.2.2]).trans a
theorem sV.of(m:ah L){s:Int}(c:0<=s)(b:s<L.z)(h:∀x:Int,0<=x->x<L.z->Reach L s x):sV L:=λx d a=>
 ((h 0 (Jt 0) ()).sym m #[c,b]).trans (h x d a)
end Gm
namespace Gm
open PySem L2
theorem eU{c:List af}(h:(c.map (·.1)).Nodup){d e:af}(b:d∈c)(f:e∈c)(q:d.1=e.1):d=e:=by let#[i,a,rfl]:=Eg.mp b;let#[j,g,rfl]:=Eg.mp f;let:=(Ez (h₀:=ZO>>a) (h₁:=ZO>>g) h).mp (IS>>IS>>q);subst this;rfl
theorem Wk.hold{f:af->af}{P:af->Prop}{x y:af}(k:Wk f x l y)(c:P x)(b:∀d,d∈l->P d->P (f d)):∀e∈l,P e:=by
 induction k with
 | nil _=>intro e a;cases a
 | @cons x y l k h=>
  ext e a;ext(z|z:AX.mp a);rw[z];exact c;exact h (b x AO c) (λd g=>b d<|A7 _ g) e z
theorem uP.all{f:af->af}{P:af->Prop}(h:uP f c){d:af}(b:d∈c)(g:P d)(a:∀e,e∈c->P e->P (f e)):∀e∈c,P e:=by let#[v,i,k]:=h.turn b;ext e j;ext(z|z:AX.mp<|i.mem_iff.mpr j);rw[z];exact g;exact k.hold (a d b g) (λx l=>a x<|i.mem_iff.mp<|A7 _ l) e z
def nT(L:cq):Prop:=∀d,Dt L d->∃c,d∈c/\uP (nx L) c/\(c.map (·.1)).Nodup
theorem nT.ring(s:nT L)(g:Good L r)(n:(sh 0 r).Nodup):r.Nodup:=by let#[c,k,a,m]:=s _<|g.dt 0;let all:∀j,dj r j∈c:=λj=>g.on (λd _ f=>a.on f) k j;refine Fm.mpr λi j h l b e=>jC n b ()<|eU m (all i) (all j) ?_;show cy r i=cy r j;erw[a9 h,a9 l,e]
theorem nT.apart(s:nT L)(st:bA L)(o:3<=L.z)(D:Dec L R)(h:Dt L (a,b))(j:c∈R)(l:(a,b)∈c):(b,a)∉c:=by
 ext n;let#[q,f,g,m]:=s _ h;let k:=D.gc c j;let b1:=k.all l f (λe _ i=>g.on i) _ n;let all:=k.all (P:=λd=>d=(a,b)\/d=(b,a)) l (.inl rfl) λe _ i=>by ext(rfl|rfl:i);exact .inr<|eU m (g.on f) b1 rfl;exact .inl<|eU m (g.on b1) f rfl
 let:=cp (r:=[(a,b),(b,a)]) ((JW.mp D.nd).1 c j) λx p=>by ext(z|z:all x p)<;>simp[z]
 let:=st.three o D j;simp at *;lia
theorem cA(n:r.Nodup)(h:i<j)(g:j<i+r.z):cy r i≠cy r j:=by
 ext z;let d:0<r.z:=();let e:=AK i d;let f:=AK j d;let e1:cy r i=r[i%r.z]:=by erw[<-a9 e,aH<|by rw[EX]]
 let e2:cy r j=r[j%r.z]:=by erw[<-a9 f,aH<|by rw[EX]]
 rw[e1,e2]at z;let k:=(Ez n).mp z;let:=Lh i r.z;let:=Lh j r.z;let a:r.z*(i / r.z)<r.z*(j / r.z):=();let b:i / r.z+1<=j / r.z:=Nat.lt_of_mul_lt_mul_left a;let c:=Mm r.z b;rw[Nat.mul_add,Nat.mul_one]at c;lia
theorem Qb(n:r.Nodup)(s:Nat):∀{m:Nat},m<=r.z->((List.range m).map λt=>cy r<|s+t).Nodup:=λ{m} d=>by refine Gv _ (R:=λa b=>a<b/\b<m) (λa b h=>?_) ?_;exact cA n () ();refine Jq (λ{a b} e c h=>#[h,Ad.mp c]) pairwise_lt_range
theorem seg_at(a:0<r.z):∃u,u<r.z/\dj r t=dj r (s+u):=by refine#[(t+s*r.z-s)%r.z,AK _ a,aU ?_];let e:=Mc s a;rw[Li,show s+(t+s*r.z-s)=t+s*r.z by lia,Nat.add_mul_mod_self_right]
theorem bD.Kw(F:bD L a b A B)(r:z1∈br L a)(j:z2∈br L b)(q:pre A z1=b)(p:pre B z2=a) :
  nx (both L a b A B) (z1,a)=(a,b)/\nx (both L a b A B) (z2,b)=(b,a)/\nx (both L a b A B) (a,b)=nx L (z2,b)/\nx (both L a b A B) (b,a)=nx L (z1,a)/\
  ∀d,Dt L d->d≠(z1,a)->d≠(z2,b)->nx (both L a b A B) d=nx L d:=by
 let#[l,n,u,s]:=Dt.back (d:=(a,z1)) #[F.a0,F.a1,r] F.map;let#[m,e1,e2,t]:=Dt.back (d:=(b,z2)) #[F.b0,F.b1,j] F.map;let h:Dt L (z1,a):=#[l,n,s];let i:Dt L (z2,b):=#[m,e1,t];let g:nx (both L a b A B) (z1,a)=(a,b):=by unfold nx;rw[F.row F.a0,Ak F.ne,Al rfl,q]
 let f:nx (both L a b A B) (z2,b)=(b,a):=by unfold nx;rw[F.row F.b0,Al rfl,p]
 let e:∀d,Dt L d->nx L d=if nx (both L a b A B) d=(b,a)then nx (both L a b A B) (a,b)else if nx (both L a b A B) d=(a,b)then nx (both L a b A B) (b,a)else nx (both L a b A B) d:=λd c=>by let:=mX F.fU F.dt (F.rem>>c);rwa [F.rem]at this
 refine#[g,f,?_,?_,λd c o k=>?_];let:=e _ i;rw[Al f]at this;exact this.symm;let:=e _ h;rw[g,Ak<|λz=>F.ne<|A4 Prod.fst z,Al rfl]at this;exact this.symm;let:=e d c;rw[Ak<|λz=>k<|dJ F.fU (F.sub _ c) (F.sub _ i)<|z.trans f.symm,Ak<|λz=>o<|dJ F.fU (F.sub _ c) (F.sub _ h)<|z.trans g.symm]at this;exact this.symm
theorem bD.cT(F:bD L a b A B)(h:Dt (both L a b A B) d):Dt L d\/d=(a,b)\/d=(b,a):=by ext(z|⟨z,y⟩|⟨z,y⟩:(F.mem h.lo).mp h.mem);exact .inl #[h.lo,by let:=h.hi;rwa [cU]at this,z];exact .inr<|.inl<|EF z y;exact .inr<|.inr<|EF z y
theorem uP.keep(h:uP f c)(e:∀d∈c,g d=f d):uP g c:=by let#[x,l,rfl,k]:=h;exact#[x,l,rfl,k.congr e]
theorem bA.gu(s:bA L):sV L:=λx c a=>by let#[t,b,r]:=s.span x c a;rwa[Ax.mp b]at r
theorem dZ(m:ah L){x y:Int}(b:0<=x)(a:x<L.z)(h:y∈br L x):0<=y/\y<L.z/\y≠x/\x∈br L y:=Dt.back (d:=(x,y)) #[b,a,h] m
theorem zq4{f:Int->Int}{x:Int}(inj:∀a∈l,∀b∈l,f a=f b->a=b)(c:x∈l):pre (l.map f) (f x)=f (pre l x):=by
 let d:∀(l:cc),(∀a∈l,∀b∈l,f a=f b->a=b)->x∈l->(l.map f).idxOf (f x)=l.idxOf x:=by
  ext l;induction l with
  | nil=>intro _ h;cases h
  | cons y l i=>
   ext inj c;rw[Ap,K1,K1];ext(e:y=x);subst e;simp;let b1:(f y==f x)=false:=by simpa using λz=>e<|inj y AO x c z
   let b2:(y==x)=false:= ~~~e
   rw[b1,b2];rw[i (λa j b g=>inj a (A7 _ j) b<|A7 _ g)<|(AX.mp c).resolve_left λz=>e z.symm]
 unfold pre;rw[d l inj c,ZO];unfold cy;rw[ZO];let k:=AK (l.idxOf x+l.z-1)<|Fp c;rw[su,su,AY,me k];rfl
theorem D2.br(h:D2 A l R){j:Int}(a:0<=j)(b:j<A.z)(n:rZ A.z l):br R (gp l j)=(br A j).map (gp l):=by let r:=n.L3 a b;unfold Gm.br;rw[su,h.row j a b];rfl
def FU(l:cc)(d:af):af:=(gp l d.1,gp l d.2)
theorem D2.dt(h:D2 A l R)(n:rZ A.z l)(m:ah A)(a:Dt A d):Dt R<|FU l d:=by let r:=n.L3 a.lo a.hi;refine#[r.1,h.len>>r.2,?_];show gp l d.2∈Gm.br R (gp l d.1);erw[h.br a.lo a.hi n,A3.mpr #[d.2,a.mem,rfl]]
theorem D2.DG(h:D2 A l R)(n:rZ A.z l)(a:Dt R e):∃d,Dt A d/\FU l d=e:=by let f:=a.hi;rw[h.len]at f;let#[j,b,c,i]:=n.AZ a.lo f;let g:=a.mem;rw[<-i,h.br b c n]at g;let#[y,k,m]:=A3.mp g;exact#[(j,y),#[b,c,k],EF i m]
theorem D2.nx(h:D2 A l R)(n:rZ A.z l)(m:ah A)(i:Dt A d):nx R (FU l d)=FU l (Gm.nx A d):=by let#[c,b1,b2,j]:=i.back m;unfold Gm.nx FU;rw[h.br c b1 n,zq4 (λa k b o e=>?_) j];let g:=dZ m c b1 k;let f:=dZ m c b1 o;exact n.inj g.1 g.2.1 f.1 f.2.1 e
theorem CV(n:rZ A.z l)(m:ah A)(b:Dt A d)(a:Dt A e)(q:FU l d=FU l e):d=e:=by let#[c,b1,_]:=b.back m;let#[f,g,_]:=a.back m;exact EF (n.inj b.lo b.hi a.lo a.hi<|A4 Prod.fst q)<|n.inj c b1 f g<|A4 Prod.snd q
theorem Reach.Ua(h:D2 A l R)(n:rZ A.z l)(m:ah A)(r:Reach A s x):Reach R (gp l s)<|gp l x:=by
 induction r with
 | here=>exact .here
 | step r e b a=>
  rename_i i c x;exact Reach.one a<|h.dt n m<|Reach.sO e b
end Gm
namespace Gm
open PySem L2
theorem zak(g:l.Nodup)(hz:z∈l)(a:n∉l)(b:y∈l)(f:y≠z):pre (put l (l.idxOf z) n) y=pre l y:=by let d:(put l (l.idxOf z) n).Nodup:=tY a g;let c:y∈put l (l.idxOf z) n:=hW.mpr<|.inr b;let h:=jG d c (hW.mpr<|.inl rfl) λe=>a<|e▸b;rw[fQ a]at h;let:pre (put l (l.idxOf z) n) y≠n:=λe=>f<|hU d c (hW.mpr<|.inr hz)<|e.trans (fF hz a).symm;rw[Ak this]at h;exact h.symm
theorem bA.place(s:bA L)(g:Good L r)(q:(sh 0 r).Nodup){a:List Nat}(m:a.Pairwise (·<·))(v:∀c∈a,c<r.z)(un:(a.map<|cy r).Nodup) :
  ∀k,1<=k->k<=a.z->∃M p i,Pl L r p i (a.take k) M/\a[k-1]?=some i/\∀c∈a.take k,br M (cy r c)=put (br L<|cy r c) ((br L<|cy r c).idxOf<|cy r<|c+(r.z-1)) L.z:=by
 ext k;induction k with
 | zero=>intro h;lia
 | succ k y=>
  ext _ J;obtain⟨c,b⟩:∃c,a[k]?=some c:=#[a[k],me ()];let t:=v c<|A5 b;let#[O,u,N,ed]:=du g s.map (c:=c);let D:a.take (k+1)=a.take k++[c]:=by rw[take_add_one,b];rfl
  rw[D];ext(H:k=0);subst H;let#[F,pl]:=Pl.first s g q t;refine#[_,c,c,pl,~~~b,λe f=>?_];let e1:e=c:= ~~~f
  subst e1;rw[F.row u,Ak (),Al rfl];let#[M,p,i,pl,o,rows]:=y () ();let n:i<c:=by let#[w,E]:=AA.mp o;let#[C,I]:=AA.mp b;let:=Fm.mp m (k-1) k w C ();rw[E,I]at this;exact this
  let d:∀e∈a.take k,cy r e≠cy r c:=λe f z=>by refine (hV (A:=[]) (B:=a.map<|cy r) (j:=k) (x:=cy r c) (~~~un)<|by rw[AY,b];rfl) ?_;erw[K0,<-map_take,<-z,A3.mpr #[e,f,rfl]]
  let#[F,l]:=pl.next s g q n t d;refine#[_,p,c,l,Jn>>b,λe f=>?_];ext(h|h:Af.mp f);let#[_,G,K,_]:=du g s.map (c:=e);rw[F.row G,Ak (),Ak<|d e h,rows e h];let e1:e=c:= ~~~h
  subst e1;rw[F.row u,Ak (),Al rfl]
structure Put(L:cq)(r:cc)(cs:List Nat)(M:cq):Prop where
 bM:bA M
 len:M.z=L.z+1
 new:br M (L.z:Int)=cs.map (cy r)
 sub:∀d,Dt L d->Dt M d
 keep:∀x:Int,0<=x->x<L.z->(∀c∈cs,cy r c≠x)->br M x=br L x
 Kw:∀d,Dt L d->(∀c∈cs,d≠dj r (c+(r.z-1)))->nx M d=nx L d
theorem Put.good(p:Put L r cs M)(a:Good L q)(b:∀j c,dj q j≠dj r c):Good M q:=
 #[a.two,λj=>p.sub _<|a.dt j,λj=>by erw[p.Kw _ (a.dt j) λc _=>b j _,a.st j]]
def F1(L:cq):Prop:=∀a b x y:Int,0<=x->x<L.z->0<=y->y<L.z->x≠a->x≠b->y≠a->y≠b->dH L [a,b] x y
theorem dH.y4(h:dH L S s x)(a:s∉S):x∉S:=by
 cases h with
 | here=>exact a
 | step _ _ _ h=>exact h
theorem dh(h:x∈r):∃i,i<r.z/\cy r i=x:=by let#[i,a,e]:=Eg.mp h;exact#[i,a,a9 a>>e]
theorem dH.trans(h:dH L S s x)(k:dH L S x y):dH L S s y:=by
 induction k with
 | here=>exact h
 | step _ e b a c=>exact .step c e b a
theorem dH.one(h:Dt L d)(a:d.2∉S):dH L S d.1 d.2:=by refine dH.step (by erw[Hx h.lo,.here]) (ag h.lo h.hi) h.mem a
theorem F1.An(t:F1 L)(m:ah L)(R:4<=L.z){x:Int}(p:0<=x)(n:x<L.z):3<=(br L x).z:=by
 refine BS λM=>?_;obtain⟨a,b,C⟩:∃a b:Int,∀z∈br L x,z=a\/z=b:=by
  match hr:br L x with
  | []=>exact#[0,0,λz hz=>by cases hz]
  | [u]=>exact#[u,u,λz hz=>.inl<|Ax.mp hz]
  | [u,w]=>exact#[u,w,λz hz=>~~~hz]
  | u::w::v::l=>rw[hr]at M;simp at M
 let B:∀z∈br L x,z≠x:=λz hz=>(dZ m p n hz).2.2.1;have⟨y,G,Q,P,j⟩:∃y:Int,(0<=y/\y<L.z)/\y≠a/\y≠b/\y≠x:=by
  refine BS λo=>?_;let:=cp (l:=aP L.z) (r:=[a,b,x]) (g9 _) λz hz=>by let hz:=cR.mp hz;ext(e1:z=a);simp[e1];ext(e2:z=b);simp[e2];ext(f:z=x);simp[f];exact absurd #[z,hz,e1,e2,f] o
  rw[bB]at this;simp at this;lia
 ext(D:x=a\/x=b)
 
 obtain⟨c,N⟩:∃c:Int,∀z∈br L x,z=c:=by ext(e|e:D);exact#[b,λz hz=>(C z hz).resolve_left λw=>B z hz<|w.trans e.symm];exact#[a,λz hz=>(C z hz).resolve_right λw=>B z hz<|w.trans e.symm]
 have⟨w,s,K,I⟩:∃w:Int,(0<=w/\w<L.z)/\w≠c/\w≠x:=by
  refine BS λo=>?_;let:=cp (l:=aP L.z) (r:=[c,x]) (g9 _) λz hz=>by let hz:=cR.mp hz;ext(e1:z=c);simp[e1];ext(f:z=x);simp[f];exact absurd #[z,hz,e1,f] o
  rw[bB]at this;simp at this;lia
 let J:x≠c:=λe=>by
  let h:=t y y x w p n s.1 s.2 (A6 j)<|A6 j;let only:∀u,dH L [y,y] x u->u=x:=λu k=>by
   induction k with
   | here=>rfl
   | @step i l u' _ q d _ g=>
    let:br L x=l:=by erw[<-g,dQ q]
    rw[<-this]at d;exact absurd ((N _ d).trans e.symm)<|B _ d
  ext(F:w=y);obtain⟨v,H,E,O⟩:∃v:Int,(0<=v/\v<L.z)/\v≠y/\v≠x:=by
   refine BS λo=>?_;let:=cp (l:=aP L.z) (r:=[y,x]) (g9 _) λz hz=>by ext(e1:z=y);simp[e1];ext(f:z=x);simp[f];exact absurd #[z,cR.mp hz,e1,f] o
   rw[bB]at this;simp at this;lia
  exact O<|only v (t y y x v p n H.1 H.2 (A6 j) (A6 j) E E);exact I<|only w (h F F)
 let h:=t c c x w p n s.1 s.2 J J K K;let only:∀u,dH L [c,c] x u->u=x:=λu k=>by
  induction k with
  | here=>rfl
  | @step i l u' _ q d A g=>
   let:br L x=l:=by erw[<-g,dQ q]
   rw[<-this]at d;exact absurd (by simp[N _ d]) A
 exact I<|only w h;let h:=t a b x y p n G.1 G.2 (λe=>D<|.inl e) (λe=>D<|.inr e) Q P;let only:∀u,dH L [a,b] x u->u=x:=λu k=>by
  induction k with
  | here=>rfl
  | @step i l u' _ q d A g=>
   let:br L x=l:=by erw[<-g,dQ q]
   rw[<-this]at d;exact absurd (~~~C _ d) A
 exact j<|only y h
theorem zcL(n:l.Nodup)(c:a∈l)(hz:z∈l)(k:a≠z)(g:pre l a=z)(e:pre l z=a):l.z<=2:=by
 let j:=N1.mpr c;let i:=N1.mpr hz;let b:∀{x:Int},x∈l->l.idxOf (pre l x)=if l.idxOf x=0 then l.z-1 else l.idxOf x-1:=λ{x} h=>by
  let f:=N1.mpr h;unfold pre cy;rw[md f];let d:(if l.idxOf x=0 then l.z-1 else l.idxOf x-1)<l.z:=by split<;>lia
  erw[su,me d,M8,Bf n d]
 let e1:=b c;let e2:=b hz;rw[g]at e1;rw[e]at e2;split at e1<;>split at e2<;>lia
theorem wO{c:List af}{d:af}(h:d∈c):d.1∈c.map (·.1):=A3.mpr #[d,h,rfl]
theorem ve(D:Dec L R)(a:c∈R)(h:d∈c):d.2∈c.map (·.1):=A3.mpr #[nx L d,(D.gc c a).on h,rfl]
def fc(R:List<|List af):Prop:=∀c∈R,∀d∈R,c≠d->∀a b:Int,a≠b->a∈c.map (·.1)->b∈c.map (·.1)->a∈d.map (·.1)->b∈d.map (·.1)->(a,b)∈c\/(b,a)∈c
theorem F1.YB(t:F1 L)(B:fc R)(s:bA L)(sm:nT L)(M:4<=L.z)(D:Dec L R)(f:c1∈R)(k:c2∈R)(v:c1≠c2)(l:d∈c1)(e1:e∈c1)(C:(d.2,d.1)∈c2)(e2:(e.2,e.1)∈c2):d=e:=by
 refine BS λO=>?_;let m:=s.map;let u:∀{c:List af},c∈R->(c.map (·.1)).Nodup:=λ{c} o=>by let#[g,Q,n]:=D.good m o;exact sm.ring g (Q>>n)
 let h:∀{c:List af} {x:af},c∈R->x∈c->Dt L x:=λo p=>(D.mem _).mp<|EG.mpr #[_,o,p];let#[a,b]:=d;let S:a≠b:=λz=>((h f l).back m).2.2.1 z.symm;let b1:=ve D f l;let b2:=wO C;obtain⟨z,F,G,A,H⟩:∃z,z∈c1.map (·.1)/\z∈c2.map (·.1)/\z≠a/\z≠b:=by ext(i:e.1=a\/e.1=b);ext(j:e.2=a\/e.2=b);exfalso;let K:e.1≠e.2:=λw=>((h f e1).back m).2.2.1 w.symm;ext(i|i:i)<;>ext(j|j:j);exact K<|i.trans j.symm;exact O<|EF i.symm j.symm;let:e=(b,a):=EF i j;rw[this]at e1;exact (λo r=>sm.apart s () D (h o r) o r) f l e1;exact K<|i.trans j.symm;exact#[e.2,ve D f e1,wO e2,λw=>j<|.inl w,λw=>j<|.inr w];exact#[e.1,wO e1,ve D k e2,λw=>i<|.inl w,λw=>i<|.inr w]
 let T:(z,a)∈c1:=by ext(w|w:B _ f _ k v _ _ (A6 A) (wO l) F (ve D k C) G);exact absurd (A4 Prod.snd<|(λp q=>eU (u f) p q) w l rfl) H;exact w
 let E:(b,z)∈c1:=by ext(w|w:B _ f _ k v _ _ (A6 H) b1 F b2 G);exact w;exact absurd (A4 Prod.fst<|(λ{x y} p q w=>dJ m (h f p) (h f q)<|eU (u f) ((D.gc c1 f).on p) ((D.gc c1 f).on q) w) w l rfl) A
 let P:(z,b)∈c2:=by ext(w|w:B _ k _ f (A6 v) _ _ (A6 H) b2 G b1 F);exact((λr N=>v<|nK D.nd f k r N) E w).elim;exact w
 let#[J,I,_,ba]:=(h f l).back m;let:=zcL (m.nd _ _<|ag J I) ba ((h f E).mem) (A6 A) (A4 Prod.snd<|eU (u f) ((D.gc c1 f).on l) E rfl)<|A4 Prod.snd<|eU (u k) ((D.gc c2 k).on P) C rfl;let:=t.An m M J I;lia
structure dP(L R:cq):Prop where
 good:∀r∈R,Good L r
 nd:(R.flatMap<|sh 0).Nodup
 all:∀d,Dt L d->d∈R.flatMap (sh 0)
theorem fe.L1(h:fe L R):dP L R:=#[h.good,h.nd,h.all]
theorem dP.dec(h:dP L R):Dec L<|R.map<|sh 0:=by let e:(R.map<|sh 0).flatten=R.flatMap (sh 0):=rfl;refine#[λc f=>?_,e>>h.nd,λd=>?_];let#[r,a,rfl]:=A3.mp f;exact(h.good r a).gc;rw[e];constructor;ext z;let#[r,a,b]:=D8.mp z;let#[j,rfl]:=(aF (by let:=(h.good r a).two;lia)).mp b;exact(h.good r a).dt j;exact h.all d
theorem qH(a:dP L R)(c:Dt L d):0<=lo R d/\lo R d<R.z:=by let#[r,f,e]:=D8.mp<|a.all d c;let#[i,b]:=Ej.mp f;rw[Iy a.nd b e];let:=(AA.mp b).1;lia
theorem qd(b:dP L R)(a:r∈R):(sh 0 r).Nodup:=(JW.mp b.dec.nd).1 _<|A3.mpr #[r,a,rfl]
theorem Dec.L1(m:ah L)(D:Dec L<|R.map<|sh 0):dP L R:=by
 let e:(R.map<|sh 0).flatten=R.flatMap (sh 0):=rfl;refine#[λr c=>?_,by erw[<-e,D.nd],λd b=>by erw[<-e,(D.mem d).mpr b]];let:=(D.good m<|A3.mpr #[r,c,rfl]).1;let fst:(sh 0 r).map (·.1)=r:=by unfold sh;rw[ED];refine IX A! λi f a=>?_;simp[IS,getElem_range,Function.comp];show cy r (i+0)=_;rw[EH,a9 a]
 rwa [fst]at this
theorem Sa{l:cc}(n:l.Nodup)(b:0<l.z)(m:Nat):l.idxOf (cy l m)=m%l.z:=by let a:=AK m b;unfold cy;erw[su,me a,M8,Bf n a]
theorem ck(n:l.Nodup)(a:0<l.z)(m:Nat):pre l (cy l<|m+1)=cy l m:=by unfold pre;rw[Sa n a];refine aH ?_;rw[show(m+1)%l.z+l.z-1=(m+1)%l.z+(l.z-1)by lia,KO,show m+1+(l.z-1)=m+l.z by lia,Aa]
theorem rN(f:Int->Int)(a:0<l.z)(m:Nat):cy (l.map f) m=f (cy l m):=by unfold cy;rw[ZO,su,su,AY,me<|AK m a];rfl
abbrev Du(R:cq):cq:=R.map<|yY R 0
def dl(R:cq)(d:af):af:=(lo R d,lo R (d.2,d.1))
theorem iu(c:dP L R)(h:Dt L d):∃(i:Nat) (r:cc) (j:Nat),R[i]?=some r/\j<r.z/\d=dj r j/\lo R d=i:=by let#[r,g,f]:=D8.mp<|c.all d h;let#[i,b]:=Ej.mp g;let#[k,a,e]:=Eg.mp f;rw[cG]at a;let:=tJ (s:=0) a;rw[me (cG>>a),e]at this;exact#[i,r,k,b,a,BV this,Iy c.nd b f]
theorem vN(b:dP L R)(a:r∈R):(sh 0 r).Nodup:=(JW.mp b.dec.nd).1 _<|A3.mpr #[r,a,rfl]
theorem lC(b:dP L R){i:Nat}(a:R[i]?=some r)(j:Nat):lo R (dj r j)=i:=by exact Iy b.nd a<|(aF (by let:=(b.good r<|A5 a).two;lia)).mpr #[j,rfl]
theorem Iw(a:dP L R)(c:Dt L d):lo R (nx L d)=lo R d:=by let#[i,r,j,b,f,rfl,e]:=iu a c;rw[(a.good r<|A5 b).st,lC a b,e]
theorem w9{i:Nat}(a:R[i]?=some r):br (Du R) (i:Int)=yY R 0 r:=dQ (by rw[AY,a];rfl)
theorem fZ:(Du R).z=R.z:=ZO _
theorem wg(g:Good L r):x∈yY R 0 r↔∃j,x=lo R ((dj r j).2,(dj r j).1):=by unfold yY;rw[mem_map];constructor;ext⟨d,a,rfl⟩;let#[j,rfl]:=(aF (by let:=g.two;lia)).mp a;exact#[j,rfl];ext⟨j,rfl⟩;exact#[dj r j,(aF (by let:=g.two;lia)).mpr #[j,rfl],rfl]
theorem zY(a:dP L R)(f:ah L)(c:Dt L d):Dt (Du R)<|dl R d:=by let#[i,r,j,b,g,rfl,e]:=iu a c;let rg:=qH a c;refine#[rg.1,fZ>>rg.2,?_];show lo R _∈br (Du R) (lo R<|dj r j);erw[e,w9 b,(wg<|a.good r<|A5 b).mpr #[j,rfl]]
theorem PJ(h:dP L R)(a:Dt (Du R) e):∃d,Dt L d/\dl R d=e:=by
 let l:=a.hi;rw[fZ]at l;let#[i,c]:=FH a.lo;let b:i<R.z:=();let f:=me b;let k:=a.mem;rw[c]at k;let n:e.2∈yY R 0 R[i]:=by erw[<-w9 f,k]
 let g:=h.good R[i]<|ET b;let#[j,m]:=(wg g).mp n;exact#[dj R[i] j,g.dt j,EF ((lC h f j).trans c.symm) m.symm]
theorem JA(g:dP L R)(p:rT<|Du R)(v:Dt L d)(w:Dt L e)(q:dl R d=dl R e):d=e:=by
 let#[i,r,j,l,m,rfl,e1]:=iu g v;let#[z,c,a,f,h,rfl,e2]:=iu g w;let t:lo R (dj r j)=lo R (dj c a):=A4 Prod.fst q;let n:lo R ((dj r j).2,(dj r j).1)=lo R ((dj c a).2,(dj c a).1):=A4 Prod.snd q;rw[e1,e2]at t;let x:i=z:=();subst x;rw[l]at f;cases f;let y:=(p i _<|by rw[AY,l];rfl).2;let b:=qz (R:=R) (s:=0) m;let k:=qz (R:=R) (s:=0) h;rw[EH]at b k;rw[n,<-k]at b;let o:j<(yY R 0 r).z:=fG>>m
 let u:a<(yY R 0 r).z:=fG>>h
 rw[me o,me u]at b;let:=(Ez y).mp<|BV b;rw[this]
theorem BJ(a:dP L R)(e:ah L)(h:rT<|Du R):ah<|Du R:=by
 refine ja λx n l=>?_;let#[i,rfl]:=FH n;let f:i<R.z:=by rw[fZ]at l;lia
 let b:=me f;let#[m,k]:=h i (yY R 0 R[i]) (by rw[AY,b];rfl);rw[w9 b];refine#[k,λy d=>?_];let g:=a.good R[i]<|ET f;let#[j,c]:=(wg g).mp d;let bk:=DY e<|g.dt j;let rg:=qH a bk;rw[<-c]at rg;refine#[rg.1,fZ>>rg.2,λz=>m<|z▸d,?_];show(i:Int)∈br (Du R) y;erw[c,<-lC a b j,(zY a e bk).mem]
theorem WO(b:dP L R)(l:ah L)(k:rT<|Du R)(h:Dt L e):nx (Du R) (dl R ((nx L e).2,(nx L e).1))=dl R e:=by
 let#[i,r,j,a,m,rfl,e1]:=iu b h;let g:=b.good r<|A5 a;let c:0<r.z:=by let:=g.two;lia
 rw[g.st];let s:∀d:af,dl R (d.2,d.1)=(lo R (d.2,d.1),lo R d):=λd=>rfl;rw[s];unfold nx;dsimp only;rw[lC b a,w9 a];let f:=HV (R:=R) (s:=0) c<|j+1;rw[EH]at f;rw[<-f,ck ((k i _<|by rw[AY,a];rfl).2) (fG>>c),HV c,EH];unfold dl;rw[lC b a]
def rd(L R:cq)(b:Int):cc:=(br L b).map λx=>lo R (x,b)
theorem CB(e:dP L R)(c:ah L){b:Int}(d:0<=b)(b1:b<L.z)(a:0<(br L b).z)(m:Nat):dj (rd L R b) m=dl R (cy (br L b) m,b):=by let bk:=dZ c d b1<|a8 (j:=m+1) a;let dt:Dt L (cy (br L b)<|m+1,b):=#[bk.1,bk.2.1,bk.2.2.2];let e1:nx L (cy (br L b)<|m+1,b)=(b,cy (br L b) m):=EF rfl<|ck (c.nd _ _<|ag d b1) a m;let e2:=Iw e dt;rw[e1]at e2;unfold dj rd dl;rw[rN _ a,rN _ a,<-e2]
theorem zfB(e:dP L R)(a:ah L)(g:rT<|Du R){b:Int}(c:0<=b)(b1:b<L.z)(f:2<=(br L b).z):Good (Du R)<|rd L R b:=by
 let d:0<(br L b).z:=();let dt:∀m,Dt L (cy (br L b) m,b):=λm=>by let bk:=dZ a c b1<|a8 (j:=m) d;exact#[bk.1,bk.2.1,bk.2.2.2]
 refine#[by unfold rd;erw[ZO,f],λm=>by erw[CB e a c b1 d,zY e a<|dt m],λm=>?_];rw[CB e a c b1 d,CB e a c b1 d];let e1:nx L (cy (br L b)<|m+1,b)=(b,cy (br L b) m):=EF rfl<|ck (a.nd _ _<|ag c b1) d m;let:=WO e a g<|dt<|m+1;rw[e1]at this;exact this
theorem Good.along(a:Good L r)(b:Good L q)(h:dj r i=dj q j)(m:Nat):dj r (i+m)=dj q (j+m):=by
 induction m with
 | zero=>exact h
 | succ m c=>rw[<-Ia,<-Ia,<-a.st,<-b.st,c]
structure rV(L R:cq):Prop where
 im:ah L
 ld:dP L R
 jU:rT (Du R)
 two:∀x:Int,0<=x->x<L.z->2<=(br L x).z
theorem rV.dt(D:rV L R){b:Int}(a:0<=b)(b1:b<L.z)(m:Nat):Dt L (cy (br L b) m,b):=by
 let e:0<(br L b).z:=by let:=D.two b a b1;lia
 let#[g,c,_,f]:=Dt.back (d:=(b,cy (br L b) m)) #[a,b1,a8 e] D.im;exact#[g,c,f]
theorem rV.cT(D:rV L R):(Gm.cT (Du R) (Du R).z).z=(Gm.cT L L.z).z:=by
 let:=len_eq (Hl.mpr<|(aZ D.im<|Xx _).imp_of_mem λ{a b} g i f q=>f<|JA D.ld D.jU (Dt.of g) (Dt.of i) q) (aZ (BJ D.ld D.im D.jU)<|Xx _) λe=>by constructor;ext h;let#[d,c,rfl]:=A3.mp h;exact(zY D.ld D.im<|Dt.of c).all;ext h;let#[d,c,rfl]:=PJ D.ld<|Dt.of h;exact A3.mpr #[d,c.all,rfl]
 rw[ZO]at this;exact this.symm
theorem rV.iso(D:rV L R):Gm.iso (Du R)=0:=by
 unfold Gm.iso;refine Ls.mpr λl a=>?_;let#[r,b,rfl]:=A3.mp a;let g:=(D.ld.good r b).two;let a:=fG R 0 r;ext z;let z:yY R 0 r=[]:= ~~~z
 rw[z]at a;simp at a;lia
theorem rV.gu(D:rV L R)(s:sV L)(h:0<L.z):sV<|Du R:=by
 let n:=BJ D.ld D.im D.jU;let step:∀{d:af},Dt L d->Reach (Du R) (lo R d) (lo R (d.2,d.1)):=λ{d} w=>Reach.one .here<|zY D.ld D.im w;let round:∀{b:Int},0<=b->b<L.z->∀m,Reach (Du R) (lo R (cy (br L b) 0,b))<|lo R (cy (br L b) m,b):=λ{b} c b1 m=>by
  induction m with
  | zero=>exact .here
  | succ m f=>
   let h:0<(br L b).z:=by let:=D.two b c b1;lia
   let e1:nx L (cy (br L b)<|m+1,b)=(b,cy (br L b) m):=EF rfl<|ck (D.im.nd _ _<|ag c b1) h m;let e2:=Iw D.ld<|D.dt c b1<|m+1;rw[e1]at e2;erw[<-e2,f.trans<|step<|D.dt c b1 m]
 let a:∀{b x:Int},0<=b->b<L.z->x∈br L b->Reach (Du R) (lo R (cy (br L b) 0,b)) (lo R (x,b)):=λ{b x} c b1 g=>by let#[i,z,e]:=dh g;let:=round c b1 i;rwa[e]at this
 let j:(0:Int)<L.z:=();let all:∀b:Int,Reach L 0 b->Reach (Du R) (lo R (cy (br L 0) 0,0)) (lo R (cy (br L b) 0,b)):=λb u=>by
  induction u with
  | here=>exact .here
  | @step i l x r e g f=>
   let d:=Reach.sO e g;let bk:=d.back D.im;let q:=f.trans<|a d.lo d.hi d.mem;exact (q.trans<|step #[bk.1,bk.2.1,bk.2.2.2]).trans<|(a bk.1 bk.2.1 bk.2.2.2).sym n (by let:=qH D.ld<|D.dt bk.1 bk.2.1 0;erw[fZ,this])
 refine sV.of n (qH D.ld<|D.dt () j 0).1 (fZ>>(qH D.ld<|D.dt () j 0).2) λx y v=>?_;rw[fZ]at v;let#[k,rfl]:=FH y;let dt:=(D.ld.good R[k]<|ET ()).dt 0;let#[o,p,_,t]:=dt.back D.im;let:=(all (dj R[k] 0).2<|s _ o p).trans<|a o p t;rw[show((dj R[k] 0).1,(dj R[k] 0).2)=dj R[k] 0 from rfl,lC D.ld<|me ()]at this;exact this
theorem F1.jU(t:F1 L)(s:bA L)(sm:nT L)(G:4<=L.z)(h:dP L R)(H:fc<|R.map<|sh 0):rT<|Du R:=by
 let D:=h.dec;ext k l f;rw[AY]at f;cases hr:R[k]? with
 | none=>rw[hr]at f;cases f
 | some r=>
  rw[hr]at f;cases f;let x:=A5 hr;let g:=h.good r x;let Q:0<r.z:=by let:=g.two;lia
  let A:sh 0 r∈R.map (sh 0):=A3.mpr #[r,x,rfl];let v:∀j,dj r j∈sh 0 r:=λj=>(aF Q).mpr #[j,rfl];let land:∀j,∃c,c∈R/\∃i:Nat,R[i]?=some c/\lo R ((dj r j).2,(dj r j).1)=i/\((dj r j).2,(dj r j).1)∈sh 0 c:=λj=>by let#[i,c,m,n,C,e,o]:=iu h<|DY s.map<|g.dt j;exact#[c,A5 n,i,n,o,e>>(aF (by let:=(h.good c<|A5 n).two;lia)).mpr #[m,rfl]]
  let apart:∀j,((dj r j).2,(dj r j).1)∉sh 0 r:=λj=>sm.apart s () D (a:=(dj r j).1) (b:=(dj r j).2) (g.dt j) A<|v j;constructor;ext z;let#[j,J]:=(wg g).mp z;let#[c,_,i,d,o,C]:=land j;rw[<-J]at o;let:i=k:=();subst this;rw[hr]at d;cases d;exact apart j C;refine Fm.mpr λi j d u M z=>?_;rw[fG]at d u;let q:=qz (R:=R) (s:=0) d;let p:=qz (R:=R) (s:=0) u;rw[EH]at q p;rw[me<|fG>>d]at q;rw[me<|fG>>u]at p;rw[BV q,BV p]at z;let#[I,F,S,N,P,B]:=land i;let#[U,T,O,y,K,E]:=land j;rw[z,K]at P;let:S=O:=();subst this;rw[N]at y;cases y;let:=t.YB H s sm G D A (A3.mpr #[I,F,rfl]) (λw=>apart i<|w>>B) (v i) (v j) B E;exact jC (Gm.vN h x) M () this
end Gm
namespace Gm
theorem cK.pre(h:cK l m)(n:m.Nodup)(b:y∈m):pre l y=pre m y:=by
 ext(rfl|⟨c,a,rfl⟩:h);rfl;let d:0<m.z:=();let#[i,f,e]:=dh<|(cK.perm<|.inr #[c,a,rfl]).mem_iff.mpr b;let e2:cy (dX m c) (i+(m.z-1)+1)=y:=by erw[<-e,aH<|by rw[(cK.perm<|.inr #[c,a,rfl]).length_eq,show i+(m.z-1)+1=i+m.z by lia,Aa]]
 rw[<-e2,ck ((cK.perm<|.inr #[c,a,rfl]).nodup_iff.mpr n) (),gN a,gN a,show i+(m.z-1)+1+c=(i+(m.z-1)+c)+1 by lia,ck n d]
theorem bZ.X3(h:bZ L M)(k:Dt L d):Dt M d:=#[k.lo,by erw[<-h.1,k.hi],(h.mem k.lo k.hi).mp k.mem]
theorem bZ.nx(h:bZ L M)(m:ah M)(k:Dt M d):nx L d=Gm.nx M d:=by let#[a,b1,_,b]:=k.back m;unfold Gm.nx;rw[(h.row a<|h.1>>b1).pre (m.nd _ _<|ag a b1) b]
theorem bZ.dec(h:bZ L M)(m:ah M)(D:Dec M R):Dec L R:=
 #[λc a=>(D.gc c a).keep λd b=>h.nx m<|(D.mem d).mp<|EG.mpr #[c,a,b],D.nd,λd=>(D.mem d).trans #[λk=>h.dt k,λk=>h.X3 k]]
theorem bZ.kR(h:bZ L M)(m:ah M)(s:nT M):nT L:=λd f=>by let#[c,b,a,g]:=s d<|h.X3 f;exact#[c,b,a.keep λe i=>h.nx m<|a.all b (h.X3 f) (λe _ k=>k.nx m) e i,g]
theorem bZ.iso(h:bZ L M):iso L=Gm.iso M:=by
 obtain⟨a,h⟩:=h;unfold Gm.iso;induction L generalizing M with
 | nil=>cases M with
  | nil=>rfl
  | cons _ _=>simp at a
 | cons l L d=>cases M with
  | nil=>simp at a
  | cons m M=>
   rw[countP_cons,countP_cons,d (by simpa using a) λi l m c b=>h (i+1) l m (by simpa using c) (by simpa using b)];have:=(h 0 l m rfl rfl).len;have e:l.isEmpty=m.isEmpty:=(by cases l<;>cases m<;>simp at this ⊢);rw[e]
theorem bZ.bM(h:bZ L M)(s:bA M):bA L:=by
 let c:=h.fU s.map;refine#[c,h.1>>s.two,λx l j=>?_,?_];let#[k,i,r]:=s.span x l (by erw[<-h.1,j]);exact#[k,i,r.mono λd k=>h.dt k];let#[R,D,e]:=s.Fn;refine#[R,h.dec s.map D,?_];let e1:=bK c;let e2:=bK s.map;let m:(cT L L.z).z=(cT M M.z).z:=by refine Lk (cp (aZ c<|Xx _) λd f=>?_)<|cp (aZ s.map<|Xx _) λd f=>?_;let#[b,g,a]:=jJ.mp f;exact(h.X3 #[b,g,a]).all;let#[b,g,a]:=jJ.mp f;exact(h.dt #[b,g,a]).all
 rw[h.1,h.iso,e];rw[h.1]at e1 m;lia
theorem bA.lands(s:bA L)(g:4<=L.z)(b:dP L R):R.z+4<=2*L.z/\(L.z:Int)+R.z=(eL L L.z).z+2:=by let#[e,D,ch]:=s.Fn;let c:=b.dec.count D;rw[ZO]at c;let f:=rh λc a=>s.three () D a;rw[D.len s.map]at f;let i:=s.II;let d:=bK s.map;lia
theorem F1.dua(t:F1 L)(s:bA L)(sm:nT L)(a:4<=L.z)(b:dP L R)(d:fc<|R.map<|sh 0):rV L R:=
 #[s.map,b,t.jU s sm a b d,λx e c=>by let:=t.An s.map a e c;lia]
end Gm
namespace Gm
open PySem L2
theorem rV.CA(D:rV L R){b:Int}(c:0<=b)(b1:b<L.z):sh 0 (rd L R b)=(br L b).map λx=>dl R (x,b):=by
 let d:0<(br L b).z:=by let:=D.two b c b1;lia
 refine Gx λj=>?_;ext(a:j<(br L b).z);rw[tJ (by unfold rd;erw[ZO,a]),AY,me a,EH,CB D.ld D.im c b1 d,a9 a];rfl;rw[Eu (by rw[cG];unfold rd;rw[ZO];lia),Eu<|by rw[ZO];lia]
theorem rV.flat(D:rV L R):∀k,k<=L.z->(((List.range k).map λb:Nat=>sh 0<|rd L R (b:Int))).flatten=(Gm.cT L k).map λd=>dl R (d.2,d.1)
 | 0,_=>rfl
 | k+1,h=>by rw[GI,EE,Gy,D.flat k (),Gm.cT,EE,ED];congr 1;rw[map_singleton,Kf,D.CA () ()];rfl
theorem rV.dec(D:rV L R):Dec (Du R) ((List.range L.z).map λb:Nat=>sh 0<|rd L R (b:Int)):=by refine#[λc i=>?_,?_,λd=>?_];let#[b,f,rfl]:=A3.mp i;let f:=Ad.mp f;exact(zfB D.ld D.im D.jU () ()<|D.two b () ()).gc;rw[D.flat _<|Xx _];refine Hl.mpr<|(aZ D.im<|Xx _).imp_of_mem λ{x y} a g j q=>j ?_;let bx:=Dt.back (Dt.of a) D.im;let e:=Dt.back (Dt.of g) D.im;let:=JA D.ld D.jU #[bx.1,bx.2.1,bx.2.2.2] #[e.1,e.2.1,e.2.2.2] q;exact EF (A4 Prod.snd this)<|A4 Prod.fst this;rw[D.flat _<|Xx _];constructor;ext h;let#[x,a,rfl]:=A3.mp h;let bx:=Dt.back (Dt.of a) D.im;exact zY D.ld D.im #[bx.1,bx.2.1,bx.2.2.2];ext h;let#[x,a,rfl]:=PJ D.ld h;let bx:=Dt.back a D.im;exact A3.mpr #[(x.2,x.1),(show Dt L (x.2,x.1)from#[bx.1,bx.2.1,bx.2.2.2]).all,rfl]
theorem rV.bM(D:rV L R)(s:bA L)(g:2<=R.z):bA<|Du R:=by
 let l:sV L:=λx d a=>by let#[t,k,r]:=s.span x d a;rw[Ax.mp k]at r;exact r
 let i:=s.two;let f:=BJ D.ld D.im D.jU;refine#[f,fZ>>g,λx d a=>#[0,by simp,(D.gu l ()) x d a],_,D.dec,?_];let#[Q,j,ch]:=s.Fn;let c:=j.count D.ld.dec;rw[ZO]at c;let e1:=bK f;let e2:=bK D.im;let m:=D.cT;let n:=s.II;let h:((List.range L.z).map λb:Nat=>sh 0<|rd L R (b:Int)).z=L.z:=by rw[ZO,Er]
 let e:=fZ (R:=R);rw[h,D.iso,e];rw[e]at e1 m;lia
section
variable {a b:Int}
theorem dH.bk(m:ah L)(h:dH L S s x)(g:s∉S)(r:0<=s/\s<L.z):dH L S x s:=by
 induction h with
 | here=>exact .here
 | @step i l x j c d o k=>
  let n:=m.rg i l c x d;let#[e,rfl]:=FH n.1;let f:e<L.z:=();exact dH.trans (dH.step .here (me f) (m.sy i l c _ d e rfl _<|me f)<|dH.y4 j g) k
theorem dH.wk(m:ah L)(h:∀z:Int,0<=z->z<L.z->z∈S'->z∈S)(r:dH L S s x):dH L S' s x:=by
 induction r with
 | here=>exact .here
 | step _ d c e f=>exact .step f d c λz=>e<|h _ (m.rg _ _ d _ c).1 (m.rg _ _ d _ c).2.1 z
theorem mW{r:cc}(g:Good L r){S:cc}{i:Nat}:∀k,(∀t,1<=t->t<=k+1->cy r (i+t)∉S)->dH L S (cy r<|i+1) (cy r<|i+(k+1))
 | 0,_=>.here
 | k+1,h=>by exact (mW g k λt c d=>h t c ()).trans<|dH.one (g.dt _)<|h (k+2) () ()
theorem JD(m:ah L)(D:Dec L R)(f:c∈R)(e:d∈c):∃i,d=dj (c.map (·.1)) i:=by let#[g,s,n]:=D.good m f;rw[<-s]at e;exact(aF (by let:=g.two;lia)).mp e
theorem kP(m:ah L)(sm:nT L)(D:Dec L R)(d:c∈R)(h:(x,a)∈c)(f:(y,a)∈c):x=y:=by let#[g,s,n]:=D.good m d;let e:=eU (sm.ring g<|s>>n) ((D.gc c d).on h) ((D.gc c d).on f) rfl;exact A4 Prod.fst<|dJ m ((D.mem _).mp<|EG.mpr #[c,d,h]) ((D.mem _).mp<|EG.mpr #[c,d,f]) e
theorem zan(m:ah L)(sm:nT L)(D:Dec L R)(f:c∈R)(o:(x,a)∈c)(e:b∉c.map (·.1)):dH L [a,b] (pre (br L a) x) x:=by
 let#[g,s,n]:=D.good m f;let h:=sm.ring g (s>>n);let#[i,d]:=JD m D f o;let st:=g.st i;generalize c.map (·.1)=r at g h d st e;let k:=g.two;let ex:cy r i=x:=(A4 Prod.fst d).symm;rw[<-d]at st;let l:cy r (i+2)=pre (br L a) x:=(A4 Prod.snd st).symm;let p:=mW g (S:=[a,b]) (i:=i+1) (r.z-2) λt q t2 z=>by simp only[BX,Bn,Bu]at z;ext(z|z:z);exact cA h (i:=i+1) (j:=i+1+t) () ()<|((A4 Prod.snd d).symm).trans z.symm;exact e<|z▸a8 ()
 rw[show i+1+(r.z-2+1)=i+r.z by lia,aH<|Aa i _,ex,show i+1+1=i+2 by lia,l]at p;exact p
theorem rS(m:ah L)(c:0<=a)(e:a<L.z){S:cc}(d:0<(br L a).z){i:Nat}:∀k,(∀t,t<k->dH L S (cy (br L a)<|i+t) (cy (br L a)<|i+t+1))->dH L S (cy (br L a) i) (cy (br L a)<|i+k)
 | 0,_=>.here
 | k+1,h=>(rS m c e d k λt f=>h t ()).trans<|h k ()
theorem RP(m:ah L)(sm:nT L)(D:Dec L R)(O:fc R)(Y:a≠b)(u:0<=a)(r:a<L.z)(W:x∈br L a)(I:y∈br L a)(T:x≠b)(J:y≠b):dH L [a,b] x y:=by
 let q:=m.nd _ _<|ag u r;let E:∀{z:Int},z∈br L a->(z∉[a,b]↔z≠b):=λ{z} hz=>by let:=(Dt.back (d:=(a,z)) #[u,r,hz] m).2.2.1;simp only[BX,Bn,Bu,G8];exact#[λh=>h.2,λh=>#[this,h]]
 let rg:∀{z:Int},z∈br L a->0<=z/\z<L.z:=λhz=>#[(Dt.back (d:=(a,_)) #[u,r,hz] m).1,(Dt.back (d:=(a,_)) #[u,r,hz] m).2.1];let land:∀j,∃c∈R,(cy (br L a)<|j+1,a)∈c/\(a,cy (br L a) j)∈c:=λj=>by
  let k:0<(br L a).z:=Fp W;let bk:=Dt.back (d:=(a,cy (br L a)<|j+1)) #[u,r,a8 (j:=j+1) k] m;let dt:Dt L (cy (br L a)<|j+1,a):=#[bk.1,bk.2.1,bk.2.2.2];let#[c,f,v]:=EG.mp<|(D.mem _).mpr dt;let nx:=(D.gc c f).on v;let e:Gm.nx L (cy (br L a)<|j+1,a)=(a,cy (br L a) j):=by show(a,pre (br L a)<|cy (br L a)<|j+1)=_;rw[ck q k]
  rw[e]at nx;exact#[c,f,v,nx]
 let key:∀i j,i<j->j<(br L a).z->cy (br L a) i≠b->cy (br L a) j≠b->dH L [a,b] (cy (br L a) i) (cy (br L a) j):=by
  ext i j ij jn K H;let k:0<(br L a).z:=();let good:∀t,(∀c∈R,(cy (br L a)<|t+1,a)∈c->b∉c.map (·.1))->dH L [a,b] (cy (br L a) t) (cy (br L a)<|t+1):=λt h=>by let#[c,f,U,_]:=land t;let p:=zan m sm D f U<|h c f U;rwa [ck q k]at p
  let am:cy (br L a) i∈br L a:=a8 k;let Z:cy (br L a) j∈br L a:=a8 k;ext(P:∀t,i<=t->t<j->∀c∈R,(cy (br L a)<|t+1,a)∈c->b∉c.map (·.1));let p:=rS m u r k (S:=[a,b]) (i:=i) (j-i) λt ht=>good (i+t)<|P (i+t) () ();rwa [show i+(j-i)=j by lia]at p;let g2:∀t,j<=t->t<i+(br L a).z->∀c∈R,(cy (br L a)<|t+1,a)∈c->b∉c.map (·.1):=by
   ext t2 ad an N F l Q;refine P λo ac al M w G A=>?_;let X:M≠N:=λz=>by subst z;let:=kP m sm D w G l;exact cA q (i:=o+1) (j:=t2+1) () () this
   let fa:∀{t:Nat} {c:List af},c∈R->(cy (br L a)<|t+1,a)∈c->a∈c.map (·.1):=λf v=>A3.mpr #[_,(D.gc _ f).on v,rfl];let at':∀{t:Nat} {c:List af},c∈R->(cy (br L a)<|t+1,a)∈c->((a,b)∈c\/(b,a)∈c)->cy (br L a) t=b\/cy (br L a) (t+1)=b:=λ{t c} f v h=>by ext(h|h:h);left;let#[g,s,n]:=D.good m f;let e:Gm.nx L (cy (br L a)<|t+1,a)=(a,cy (br L a) t):=(by show(a,pre (br L a)<|cy (br L a)<|t+1)=_;rw[ck q k]);let:=eU (sm.ring g<|s>>n) ((D.gc _ f).on v) h rfl;rw[e]at this;exact A4 Prod.snd this;right;exact kP m sm D f v h
   let e1:=at' w G<|O M w N F X a b Y (fa w G) A (fa F l) Q;let e2:=at' F l<|O N F M w (A6 X) a b Y (fa F l) Q (fa w G) A;ext(e1|e1:e1)<;>ext(e2|e2:e2);exact cA q (i:=o) (j:=t2) () ()<|e1.trans e2.symm;ext(z:t2+1=o+(br L a).z);let:o=i:=();rw[this]at e1;exact K e1;exact cA q (i:=o) (j:=t2+1) () ()<|e1.trans e2.symm;ext(z:o+1=t2);let:t2=j:=();rw[this]at e2;exact H e2;exact cA q (i:=o+1) (j:=t2) () ()<|e1.trans e2.symm;exact cA q (i:=o+1) (j:=t2+1) () ()<|e1.trans e2.symm
  let p:=rS m u r k (S:=[a,b]) (i:=j) (i+(br L a).z-j) λt ht=>good (j+t)<|g2 (j+t) () ();rw[show j+(i+(br L a).z-j)=i+(br L a).z by lia,aH<|Aa i _]at p;exact p.bk m ((E Z).mpr H)<|rg Z
 let#[i,K,C]:=dh W;let#[j,H,B]:=dh I;ext(z|z|z:HC i j);rw[<-C,<-B];exact key i j z H (C>>T) (B>>J);rw[<-C,<-B,z];exact .here;let p:=key j i z K (B>>J) (C>>T);rw[C,B]at p;exact p.bk m ((E I).mpr J)<|rg I
theorem Reach.closed{P:Int->Prop}{s x:Int}(r:Reach L s x)(d:P s)(c:∀y z:Int,P y->Dt L (y,z)->P z):P x:=by
 induction r with
 | here=>exact d
 | @step i l x r e g f=>exact c _ _ f<|Reach.sO e g
theorem back_mem(m:ah L)(h:Dt L (x,y)):x∈br L y:=(h.back m).2.2.2
theorem link(s:bA L)(sm:nT L)(D:Dec L R)(Q:fc R)(I:a≠b)(l:0<=a)(k:a<L.z)(A:0<=b)(b1:b<L.z)(G:∀x:Int,0<=x->x<L.z->2<=(br L x).z) :
  ∃x∈br L a,x≠b/\∃y∈br L b,y≠a/\dH L [a,b] x y:=by
 let m:=s.map;ext(C:b∈br L a);let dt:Dt L (a,b):=#[l,k,C];let#[c,J,X]:=EG.mp<|(D.mem _).mpr dt;let#[g,Y,n]:=D.good m J;let f:=sm.ring g (Y>>n);let#[i,u]:=JD m D J X;let st:=g.st i;generalize c.map (·.1)=r at g f u st;let U:=g.two;let v:cy r i=a:=(A4 Prod.fst u).symm;let o:cy r (i+1)=b:=(A4 Prod.snd u).symm;let three:3<=r.z:=by
  refine BS λz=>?_;let Z:r.z=2:=();let e2:cy r (i+2)=a:=by rw[show i+2=i+r.z by lia,aH<|Aa i _,v]
  rw[<-u]at st;let e:pre (br L b) a=a:=by let:=A4 Prod.snd st;exact this.trans e2
  let:=eX (m.nd _ _<|ag A b1) (back_mem m dt) e;let:=G b A b1;rw[‹br L b=[a]›]at this;simp at this
 let p:=mW g (S:=[a,b]) (i:=i+1) (r.z-3) λt t1 t2 z=>by simp only[BX,Bn,Bu]at z;ext(z|z:z);exact cA f (i:=i) (j:=i+1+t) () ()<|v.trans z.symm;exact cA f (i:=i+1) (j:=i+1+t) () ()<|o.trans z.symm
 rw[show i+1+1=i+2 by lia,show i+1+(r.z-3+1)=i+(r.z-1)by lia]at p;let E:Dt L (b,cy r<|i+2):=by let:=g.dt<|i+1;erw[<-o,this]
 let T:Dt L (cy r<|i+(r.z-1),a):=by
  let e:cy r (i+(r.z-1)+1)=a:=by rw[show i+(r.z-1)+1=i+r.z by lia,aH<|Aa i _,v]
  erw[<-e,g.dt<|i+(r.z-1)]
 let N:cy r (i+2)≠a:=λz=>cA f (i:=i) (j:=i+2) () ()<|v.trans z.symm;let H:=E.back m;exact#[_,back_mem m T,λz=>cA f (i:=i+1) (j:=i+(r.z-1)) () ()<|o.trans z.symm,_,E.mem,N,p.bk m (by simp;exact#[N,λz=>cA f (i:=i+1) (j:=i+2) () ()<|o.trans z.symm]) #[H.1,H.2.1]];let ha:=G a l k;let O:0<(br L a).z:=();let q:cy (br L a) 0∈br L a:=a8 O;let B:cy (br L a) 0≠b:=λz=>C<|z▸q;let M:cy (br L a) 0∉[a,b]:=by simp;exact#[(Dt.back (d:=(a,cy (br L a) 0)) #[l,k,q] m).2.2.1,B]
 refine BS λW=>?_;let P:=(((s.gu a l k).sym m #[(),()]).trans<|s.gu b A b1).closed (P:=λw=>w=a\/dH L [a,b] (cy (br L a) 0) w) (.inl rfl) λy z h hz=>by ext(rfl|h:h);exact .inr<|RP m sm D Q I l k q hz.mem B λw=>C<|w▸hz.mem;ext(F:z=a);exact .inl F;ext(K:z=b);subst K;refine absurd #[_,q,B,y,back_mem m hz,λw=>(dH.y4 h M) (by simp[w]),h] W;exact .inr (h.trans<|dH.one (d:=(y,z)) hz<|by simp;exact#[F,K])
 ext(z|z:P);exact I z.symm;exact dH.y4 z M A!
theorem RC(s:bA L)(o:a≠b)(h:0<=a)(k:a<L.z){z:Int}(n:0<=z)(j:z<L.z)(i:z≠a)(l:z≠b) :
  ∃x,dH L [a,b] z x/\((x∈br L a/\x≠b)\/(x∈br L b/\x≠a)):=by
 let m:=s.map;let g:z∉[a,b]:=by simp;exact#[i,l]
 refine BS λf=>?_;let P:=(((s.gu z n j).sym m #[(),()]).trans<|s.gu a h k).closed (P:=λw=>dH L [a,b] z w) .here λy u c e=>by let d:=dH.y4 c g;simp[BX,Bn,Bu,G8]at d;refine c.trans<|dH.one e λw=>?_;simp[BX,Bn,Bu]at w;ext(rfl|rfl:w);exact f #[y,c,.inl #[back_mem m e,d.2]];exact f #[y,c,.inr #[back_mem m e,d.1]]
 exact dH.y4 P g A!
theorem QI(s:bA L)(sm:nT L)(D:Dec L R)(l:fc R)(M:∀x:Int,0<=x->x<L.z->2<=(br L x).z)(j:a≠b)(i:0<=a)(g:a<L.z)(n:0<=b)(b1:b<L.z){x y:Int}(W:0<=x)(T:x<L.z)(E:0<=y)(A:y<L.z)(J:x≠a)(K:x≠b)(t:y≠a)(r:y≠b):dH L [a,b] x y:=by
 let m:=s.map;let#[u,o,F,v,N,O,U]:=link s sm D l j i g n b1 M;let Q:∀{p q:Int},p∈br L b->q∈br L b->p≠a->q≠a->dH L [a,b] p q:=λe c G H=>(RP m sm D l (A6 j) n b1 e c G H).wk m λz _ _ hz=>by simp[BX,Bn,Bu]at hz ⊢;exact hz.symm
 let f:∀{p:Int},p∈br L a->(0<=p/\p<L.z)/\p≠a:=λk=>let h:=Dt.back (d:=(a,_)) #[i,g,k] m;#[#[h.1,h.2.1],h.2.2.1]
 let Y:∀{p:Int},p∈br L b->(0<=p/\p<L.z)/\p≠b:=λk=>let h:=Dt.back (d:=(b,_)) #[n,b1,k] m;#[#[h.1,h.2.1],h.2.2.1]
 let un:u∉[a,b]:=by simp;exact#[(f o).2,F]
 let B:∀{z:Int},0<=z->z<L.z->z≠a->z≠b->dH L [a,b] z u:=λ{z} P S I X=>by let#[w,C,h]:=RC s j i g P S I X;ext(⟨e,c⟩|⟨e,c⟩:h);exact C.trans<|(RP m sm D l j i g) e o c F;exact(C.trans<|Q e N c O).trans<|U.bk m un (f o).1
 exact(B W T J K).trans<|(B E A t r).bk m (by simp;exact#[t,r]) #[E,A]
theorem Jc{n:Nat}(h:4<=n)(p q r:Int):∃z:Int,0<=z/\z<n/\z≠p/\z≠q/\z≠r:=by
 refine BS λd=>?_;let:=cp (g9 n) (r:=[p,q,r]) λx c=>by let c:=cR.mp c;simp only[BX,Bn,Bu];refine BS λz=>d #[x,c.1,c.2,?_];simp[G8]at z;exact z
 rw[bB]at this;simp at this;lia
theorem zcC(s:bA L)(sm:nT L)(D:Dec L R)(o:fc R)(t:∀x:Int,0<=x->x<L.z->2<=(br L x).z)(l:4<=L.z):F1 L:=by
 ext a b x y J F G E n r K v;obtain⟨c,B,u,ax,A,H⟩:∃c:Int,0<=c/\c<L.z/\x≠c/\y≠c/\(0<=a->a<L.z->a=c):=by ext(h:0<=a/\a<L.z);exact#[a,h.1,h.2,n,K,λ_ _=>rfl];let#[z,e,f,k,i,_]:=Jc l x y x;exact#[z,e,f,A6 k,A6 i,λj g=>absurd #[j,g] h]
 obtain⟨d,p,b1,bx,C,ba,I⟩:∃d:Int,0<=d/\d<L.z/\x≠d/\y≠d/\c≠d/\(0<=b->b<L.z->b=d\/b=c):=by ext(h:(0<=b/\b<L.z)/\c≠b);exact#[b,h.1.1,h.1.2,r,v,h.2,λ_ _=>.inl rfl];let#[z,e,f,k,i,m]:=Jc l x y c;exact#[z,e,f,A6 k,A6 i,A6 m,λj g=>.inr<|BS λw=>h #[#[j,g],λq=>w q.symm]]
 refine(QI s sm D o t ba B u p b1 J F G E ax bx A C).wk s.map λz e f hz=>?_;simp[BX,Bn,Bu]at hz ⊢;ext(rfl|rfl:hz);exact .inl<|H e f;exact(I e f).symm
end
theorem bX(r:cc):(sh 0 r).map (·.1)=r:=by unfold sh;rw[ED];refine IX A! λi b a=>?_;simp[IS,getElem_range,Function.comp];show cy r (i+0)=_;rw[EH,a9 a]
theorem wF(f:dP L R)(g:ah L)(h:Dt L (x,b)):∃(i:Nat) (r:cc),R[i]?=some r/\lo R (x,b)=i/\(x,b)∈sh 0 r/\b∈r:=by
 let#[i,r,j,d,k,e,c]:=iu f h;let a:0<r.z:=();refine#[i,r,d,c,(aF a).mpr #[j,e],?_];let:b=cy r (j+1):=A4 Prod.snd e;erw[this,a8 a]
theorem rV.zde(D:rV L R)(sm:nT L){b:Int}(c:0<=b)(b1:b<L.z):(rd L R b).Nodup:=by
 refine Hl.mpr<|(D.im.nd _ _<|ag c b1).imp_of_mem λ{x y} l k h q=>h ?_;let bx:=dZ D.im c b1 l;let a:=dZ D.im c b1 k;let#[i,r,d,e,g,_]:=wF D.ld D.im #[bx.1,bx.2.1,bx.2.2.2];let#[j,n,f,e2,m,_]:=wF D.ld D.im #[a.1,a.2.1,a.2.2.2];rw[q,e2]at e;let:j=i:=();subst this;rw[d]at f;cases f;exact kP D.im sm D.ld.dec (A3.mpr #[r,A5 d,rfl]) g m
theorem rV.kR(D:rV L R)(sm:nT L):nT<|Du R:=λd g=>by let#[c,a,f]:=EG.mp<|(D.dec.mem d).mpr g;refine#[c,f,D.dec.gc c a,?_];let#[b,e,rfl]:=A3.mp a;let e:=Ad.mp e;erw[bX,D.zde sm () ()]
theorem rV.meet(D:rV L R)(F:fc<|R.map<|sh 0):fc ((List.range L.z).map λb:Nat=>sh 0<|rd L R (b:Int)):=by
 ext c1 h1 c2 h2 ne a b ab M b1 J b2;let#[p,o,rfl]:=A3.mp h1;let#[q,s,rfl]:=A3.mp h2;let o:=Ad.mp o;let s:=Ad.mp s;let X:(p:Int)≠(q:Int):=λz=>ne (by rw[z]);rw[bX]at M b1 J b2;let t:∀{z:Int} {u:Nat},u<L.z->z∈rd L R (u:Int)->∃(i:Nat) (r:cc),R[i]?=some r/\z=i/\(u:Int)∈r:=λ{z u} hu hz=>by let#[x,hx,e]:=A3.mp hz;let bx:=dZ D.im () () hx;let#[i,r,hr,el,_,hb]:=wF D.ld D.im #[bx.1,bx.2.1,bx.2.2.2];exact#[i,r,hr,by erw[<-e,el],hb]
 let#[i,c,v,Z,C]:=t o M;let#[N,ad,P,ac,Y]:=t s J;let#[j,h,w,H,O]:=t o b1;let#[W,al,I,X0,Q]:=t s b2;let:N=i:=();subst this;let:W=j:=();subst this;rw[v]at P;cases P;rw[w]at I;cases I;let G:=A5 v;let E:=A5 w;let U:sh 0 c∈R.map (sh 0):=A3.mpr #[c,G,rfl];let K:sh 0 h∈R.map (sh 0):=A3.mpr #[h,E,rfl];let y:=D.ld.good c G;let S:=D.ld.good h E;let f:∀{d:af},d∈sh 0 c->lo R d=N:=λn=>by let#[k,rfl]:=(aF (by let:=y.two;lia)).mp n;exact lC D.ld v k
 let l:∀{d:af},d∈sh 0 h->lo R d=W:=λn=>by let#[k,rfl]:=(aF (by let:=S.two;lia)).mp n;exact lC D.ld w k
 let T:sh 0 c≠sh 0 h:=λz=>by let m:dj c 0∈sh 0 c:=(aF (by let:=y.two;lia)).mpr #[0,rfl];let e1:=f m;rw[z]at m;let e2:=l m;lia
 let A:=F _ U _ K T _ _ X (bX>>C) (bX>>Y) (bX>>O) (bX>>Q);let B:=F _ K _ U (A6 T) _ _ X (bX>>O) (bX>>Q) (bX>>C) (bX>>Y);rw[D.CA () ()];let dt:∀{r:cc} {d:af},Good L r->d∈sh 0 r->Dt L d:=λg n=>by let#[k,rfl]:=(aF (by let:=g.two;lia)).mp n;exact g.dt k
 ext(A|A:A)<;>ext(B|B:B);let e1:=f A;let e2:=l B;lia;right;refine A3.mpr #[(q:Int),(dt y A).mem,?_];let e1:=f A;let e2:=l B;unfold dl;rw[e1,e2,Z,H];left;refine A3.mpr #[(q:Int),(dt S B).mem,?_];let e1:=f A;let e2:=l B;unfold dl;rw[e1,e2,Z,H];let e1:=f A;let e2:=l B;lia
theorem Jv{L:cq}{g:Nat}(h:∀x:Int,0<=x->x<L.z->g<=(br L x).z):∀k,k<=L.z->g*k<=(cT L k).z
 | 0,_=>Bv _
 | k+1,hk=>by let a:=Jv h k ();let:=h (k:Int) () ();rw[cT,Ac,ZO,Nat.mul_succ];lia
theorem fc.of(D:Dec L R)(E:Dec L S)(o:fc R):fc S:=by
 let key:∀f∈S,∃c∈R,∀d,d∈c↔d∈f:=λf i=>by let g:=kH (E.gc f i).ne;let#[c,k,h]:=EG.mp<|(D.mem _).mpr<|(E.mem _).mp<|EG.mpr #[f,i,g];exact#[c,k,λd=>#[λz=>(D.gc c k).conn h z g λe _ q=>(E.gc f i).on q,λz=>(E.gc f i).conn g z h λe _ q=>(D.gc c k).on q]]
 ext m j r l p a b s v b1 t b2;let#[n,w,e1]:=key m j;let#[u,y,e2]:=key r l;let up:∀{c d:List af} {x:Int},(∀e,e∈d↔e∈c)->x∈c.map (·.1)->x∈d.map (·.1):=λq h=>by let#[e,A,rfl]:=A3.mp h;exact A3.mpr #[e,(q e).mpr A,rfl]
 let g:=kH (E.gc m j).ne;exact(o n w u y (λz=>p<|nK E.nd j l g<|(e2 _).mp<|z▸(e1 _).mpr g) a b s (up e1 v) (up e1 b1) (up e2 t)<|up e2 b2).imp (e1 _).mp (e1 _).mp
theorem ie{R:cq}(h:∀p∈R,∀q∈R,p≠q->∀a b:Int,a≠b->a∈p->b∈p->a∈q->b∈q->(a,b)∈sh 0 p\/(b,a)∈sh 0 p):fc<|R.map<|sh 0:=by ext l j m e g a b i d b1 c b2;let#[p,f,rfl]:=A3.mp j;let#[q,k,rfl]:=A3.mp e;rw[bX]at d b1 c b2;exact h p f q k (λz=>g<|z▸rfl) a b i d b1 c b2
theorem bA.ZY(s:bA L)(sm:nT L)(C:4<=L.z){x:Int}(r:0<=x)(q:x<L.z):2<=(br L x).z:=by
 let m:=s.map;let#[R,D,_]:=s.Fn;let p:=Ls.mp s.II _<|A5<|ag r q;refine BS λj=>?_;let#[y,o]:=List.length_eq_one_iff.mp (show(br L x).z=1 by let:(br L x).z≠0:= ~~~p;lia)
 let t:Dt L (x,y):=#[r,q,by rw[o];simp];let#[v,b1,b2,u]:=t.back m;let e:nx L (y,x)=(x,y):=by show(x,pre (br L x) y)=_;rw[o];simp[pre,cy]
 let#[c,i,f]:=EG.mp<|(D.mem (y,x)).mpr #[v,b1,u];let#[g,w,n]:=D.good m i;let k:=D.gc c i;let e2:=eU (sm.ring g<|w>>n) (k.on<|e▸k.on f) f rfl;let all:∀d∈c,d=(y,x)\/d=(x,y):=λd z=>k.conn (P:=λd=>d=(y,x)\/d=(x,y)) f z (.inl rfl) λd _ h=>by ext(rfl|rfl:h);exact .inr e;exact .inl e2
 let three:=s.three () D i
 match c,three,n,all with
 | a::b::d::l,_,n,all=>
  simp[nodup_cons,BX,G8]at n;let E:=all a A!;let A:=all b A!;let B:=all d A!;grind
structure b8(L:cq):Prop where
 bM:bA L
 kR:nT L
 four:4<=L.z
 mt:∃R,Dec L R/\fc R
theorem b8.QJ(t:b8 L):F1 L:=let ⟨_,D,mp⟩:=t.mt;zcC t.bM t.kR D mp (λ_=>t.bM.ZY t.kR t.four) t.four
theorem b8.meet(t:b8 L)(D:Dec L R):fc R:=let ⟨_,E,m⟩:=t.mt;m.of E D
theorem b8.meets(t:b8 L)(h:dP L R)(c:p∈R)(f:q∈R)(i:p≠q)(d:a≠b)(g:a∈p)(b1:b∈p)(e:a∈q)(b2:b∈q):(a,b)∈sh 0 p\/(b,a)∈sh 0 p:=
 t.meet h.dec _ (A3.mpr #[p,c,rfl]) _ (A3.mpr #[q,f,rfl]) (λz=>i<|by rw[<-bX p,z,bX]) a b d (bX>>g) (bX>>b1) (bX>>e) (bX>>b2)
theorem b8.map(t:b8 L):ah L:=t.bM.map
theorem b8.An(t:b8 L){x:Int}(b:0<=x)(a:x<L.z):3<=(br L x).z:=t.QJ.An t.map t.four b a
theorem b8.A9(t:b8 L)(c:dP L R):4<=R.z:=by let h:=(t.bM.lands t.four c).2;let g:=Jv (λx b a=>t.An b a) L.z<|Xx _;let d:=bK t.map;let:=t.four;lia
theorem b8.ZW(t:b8 L)(a:dP L R):b8<|Du R:=by let D:=t.QJ.dua t.bM t.kR t.four a<|t.meet a.dec;let b:=t.A9 a;let sh:=D.bM t.bM ();exact#[sh,D.kR t.kR,fZ>>b,_,D.dec,D.meet<|t.meet a.dec]
theorem o5(a:2<=r.z)(dt:∀j,j<r.z->Dt L (dj r j))(st:∀j,j<r.z->nx L (dj r j)=dj r (j+1)):Good L r:=by let e:∀j,dj r j=dj r (j%r.z):=λj=>aU (EX j _).symm;let b:∀j,j%r.z<r.z:=λj=>AK _ ();refine#[a,λj=>by erw[e,dt _<|b j],λj=>?_];erw[e j,st _<|b j,aU<|by rw[KO]]
theorem gE(h:0<r.z)(j:Nat):dj r j∈sh 0 r:=(aF h).mpr #[j,rfl]
theorem G4(h:r.Nodup):(sh 0 r).Nodup:=by
 let:((sh 0 r).map (·.1)).Nodup:=bX>>h
 exact(Hl.mp this).imp λh z=>h (by rw[z])
theorem dP.kR(b:dP L R)(h:∀q∈R,q.Nodup):nT L:=λd e=>by let#[q,a,c]:=D8.mp<|b.all d e;exact#[sh 0 q,c,(b.good q a).gc,bX>>h q a]
theorem nT.rings(s:nT L)(b:dP L R):∀q∈R,q.Nodup:=λq a=>s.ring (b.good q a)<|qd b a
theorem yc{α:Type}{R:List α}{k:Nat}{r:α}(a:R[k]?=some r):R=R.take k++r::R.drop (k+1):=by let#[h,e]:=AA.mp a;rw[<-e,<-I9 h,JS]
theorem dP.off(b:dP L R)(f:R[k]?=some r)(g:q∈R.take k++R.drop (k+1))(i j:Nat):dj q i≠dj r j:=λz=>by
 let e:=yc f;let l:q∈R:=by rw[e];ext(h|h:Af.mp g);exact E9 _ h;exact E8 _<|A7 _ h
 let c:=b.nd;rw[e,I8,HM]at c;let a:dj q i∈sh 0 q:=gE (by let:=(b.good q l).two;lia) i;let d:dj r j∈sh 0 r:=gE (by let:=(b.good r<|A5 f).two;lia) j;rw[z]at a;ext(h|h:Af.mp g);exact(F9.mp c).2.2 _ (D8.mpr #[q,h,a]) _ (E9 _ d) rfl;exact(F9.mp (F9.mp c).2.1).2.2 _ d _ (D8.mpr #[q,h,a]) rfl
theorem dP.split(w:dP L R)(I:R[k]?=some r)(f:∀q∈R.take k++R.drop (k+1),Good M q)(A:∀b∈B,Good M b)(Q:∀b∈B,(sh 0 b).Nodup)(P:B.Pairwise λb c=>∀i j,dj b i≠dj c j)(C:∀b∈B,∃j,¬Dt L (dj b j))(all:∀d,Dt M d->Dt L d\/d∈B.flatMap (sh 0))(N:∀j,dj r j∈B.flatMap (sh 0)):dP M<|R.take k++B++R.drop (k+1):=by
 let e:=yc I;let sub:∀q,q∈R.take k++R.drop (k+1)->q∈R:=λq a=>by rw[e];ext(h|h:Af.mp a);exact E9 _ h;exact E8 _<|A7 _ h
 refine#[λq a=>?_,?_,λd F=>?_];ext(h|h:Af.mp a);ext(h|h:Af.mp h);exact f q<|E9 _ h;exact A q h;exact f q<|E8 _ h;let v:=w.nd;rw[e,I8,HM]at v;let p:∀d,d∈B.flatMap (sh 0)->∀q∈R.take k++R.drop (k+1),d∉sh 0 q:=λd F q a t=>by let#[b,g,K]:=D8.mp F;let D:=A b g;let J:=f q a;let#[i,e1]:=(aF (by let:=D.two;lia)).mp K;let#[j,e2]:=(aF (by let:=J.two;lia)).mp t;let#[o,s]:=C b g;let H:=D.along J (e1.symm.trans e2)<|o+i*(b.z-1);let md:dj b (i+(o+i*(b.z-1)))=dj b o:=aU (by let S:=D.two;rw[show i+(o+i*(b.z-1))=o+b.z*i by obtain⟨n,W⟩:∃n,b.z=n+1:=#[b.z-1,()];rw[W,Jn,JE,Js,Gn n i];lia,Ld]);rw[md]at H;rw[H]at s;exact s<|(w.good q<|sub q a).dt _
 let O:(B.flatMap<|sh 0).Nodup:=by show((B.map<|sh 0).flatten).Nodup;refine JW.mpr #[λl T=>?_,Hl.mpr<|P.imp_of_mem λ{b c} g U h x u y m z=>?_];let#[b,g,rfl]:=A3.mp T;exact Q b g;let#[i,e1]:=(aF (by let:=(A b g).two;lia)).mp u;let#[j,e2]:=(aF (by let:=(A c U).two;lia)).mp m;exact h i j<|e1.symm.trans<|z.trans e2
 rw[I8,I8];refine F9.mpr #[F9.mpr #[(F9.mp v).1,O,λx u y m z=>?_],(F9.mp (F9.mp v).2.1).2.1,λx u y m z=>?_];let#[q,a,E]:=D8.mp u;exact p y m q (E9 _ a)<|z▸E;let#[q,a,G]:=D8.mp m;ext(h|h:Af.mp u);exact(F9.mp v).2.2 x h y (E8 _ m) z;exact p x h q (E8 _ a)<|z▸G;rw[I8,I8];ext(h|h:all d F);let#[q,a,t]:=D8.mp<|w.all d h;rw[e]at a;ext(h|h:Af.mp a);exact E9 _<|E9 _<|D8.mpr #[q,h,t];ext(rfl|h:AX.mp h);let#[j,rfl]:=(aF (by let:=(w.good q<|A5 I).two;lia)).mp t;exact E9 _<|E8 _<|N j;exact E8 _<|D8.mpr #[q,h,t];exact E9 _<|E8 _ h
def bw(r:cc)(s m:Nat):cc:=(List.range m).map λt=>cy r<|s+t
theorem aK(r:cc)(s m:Nat):(bw r s m).z=m:=by unfold bw;simp
theorem kg(h:t<m):(bw r s m)[t]?=some (cy r<|s+t):=by unfold bw;simp[h]
theorem uE(h:q[j]?=some x):cy q j=x:=by let#[b,a]:=AA.mp h;erw[a9 b,a]
theorem S9:cy q q.z=cy q 0:=aH (by rw[Gk,Kq])
theorem jQ(h:t<m):cy (bw r s m) t=cy r (s+t):=uE<|kg h
theorem dg(h:t+1<m):dj (bw r s m) t=dj r (s+t):=by unfold dj;rw[jQ (),jQ h];rfl
theorem DI(h:0<m):dj (bw r s m) (m-1)=(cy r<|s+(m-1),cy r s):=by unfold dj;rw[jQ (),show m-1+1=(bw r s m).z by rw[aK];lia,S9,jQ h];rfl
theorem DH(h:1<m):dj (bw r s m) m=dj r s:=by let e:dj (bw r s m) m=dj (bw r s m) 0:=aU (by rw[aK,Gk,Kq]);rw[e,dg ()];rfl
theorem mQ(n:r.Nodup)(s:Nat)(h:m<=r.z):(bw r s m).Nodup:=Qb n s h
theorem S5(n:(sh 0 r).Nodup)(a:0<r.z)(e:dj r i=dj r j):i%r.z=j%r.z:=by let c:=AK i a;let b:=AK j a;rw[aU (EX i _).symm,aU (EX j _).symm]at e;ext(z|z|z:HC (i%r.z)<|j%r.z);exact absurd e<|jC n z ();exact z;exact absurd e.symm<|jC n z ()
theorem gv(h:x∈bw r s m):∃t,t<m/\x=cy r (s+t):=by let#[i,a,e]:=Eg.mp h;rw[aK]at a;let:=kg (r:=r) (s:=s) a;rw[me (aK>>a),e]at this;exact#[i,a,BV this]
theorem xh(c:r.Nodup)(d:a<r.z)(f:b<r.z)(e:cy r (s+a)=cy r (s+b)):a=b:=by ext(z|z|z:HC a b);exact absurd e<|cA c () ();exact z;exact absurd e.symm<|cA c () ()
theorem JY(c:r.Nodup)(l:n+2<=r.z)(h:d∈sh 0 r)(f:d.1∈bw r s (n+1))(b:d.2∈bw r s (n+1)):∃u,u<n/\d=dj r (s+u):=by let#[j,rfl]:=(aF ()).mp h;let#[u,g,e]:=seg_at (r:=r) (s:=s) (t:=j) ();rw[e]at f b ⊢;let#[t,i,e1]:=gv f;let#[v,k,e2]:=gv b;let x:=xh c g () e1;refine#[u,?_,rfl];ext(z:u<n);exact z;let:=xh c (s:=s) (a:=u+1) () () e2;lia
theorem b8.UW(t:b8 L)(l:dP L R)(P:R[k]?=some r)(m2:2<=m)(m1:m+2<=r.z)(J:cy r (i+m)∉br L (cy r i)) :
  ∃M,b8 M/\M.z=L.z/\dP M (R.take k++[bw r i<|m+1,bw r (i+m)<|r.z-m+1]++R.drop (k+1)):=by
 let Y:=t.map;let K:=A5 P;let g:=l.good r K;let ns:=qd l K;let U:=t.kR.rings l r K;let#[Xn,a0,A,S]:=du g Y (c:=i);let#[Z,b0,b1,T]:=du g Y (c:=i+m);let ne:cy r i≠cy r (i+m):=cA U () ();let F:bD L (cy r i) (cy r<|i+m) (put (br L<|cy r i) ((br L<|cy r i).idxOf<|cy r<|i+(r.z-1))<|cy r<|i+m)<|put (br L<|cy r<|i+m) ((br L<|cy r<|i+m).idxOf<|cy r<|i+m+(r.z-1))<|cy r i:=by let Uc:cy r i∉br L (cy r<|i+m):=λz=>J (Dt.back (d:=(cy r<|i+m,cy r i)) #[b0,b1,z] Y).2.2.2;exact#[Y,a0,A,b0,b1,ne,J,gR _ _ _,gR _ _ _,fQ J,fQ Uc]
 let T9:=F.bM t.bM Xn Z (fF Xn J) (fF Z F.Uc) (λPd h0 hs=>by rw[<-S]at h0;erw[<-T,g.on hs h0 _]);let#[n1,n2,n3,n4,N]:=F.Kw Xn Z (fF Xn J)<|fF Z F.Uc;let hd:=λd (h:Dt _ d)=>F.cT (d:=d) h;let sub:=F.sub;let ad:=F.dt;let ZZ:=(F.dt.back F.fU);let O:(both L (cy r i) (cy r<|i+m) (put (br L<|cy r i) ((br L<|cy r i).idxOf<|cy r<|i+(r.z-1))<|cy r<|i+m)<|put (br L<|cy r<|i+m) ((br L<|cy r<|i+m).idxOf<|cy r<|i+m+(r.z-1))<|cy r i).z=L.z:=cU;rw[<-S]at n1 n4 N;rw[<-T]at n2 n3 N;rw[g.st]at n3 n4;generalize both L (cy r i) (cy r<|i+m) (put (br L<|cy r i) ((br L<|cy r i).idxOf<|cy r<|i+(r.z-1))<|cy r<|i+m) (put (br L<|cy r<|i+m) ((br L<|cy r<|i+m).idxOf<|cy r<|i+m+(r.z-1))<|cy r i)=M at *;let q1:dj r (i+m+(r.z-1))=dj r (i+(m-1)):=aU (by rw[show i+m+(r.z-1)=i+(m-1)+r.z by lia,Aa]);let q3:dj r (i+m+(r.z-1)+1)=dj r (i+m):=aU (by rw[show i+m+(r.z-1)+1=i+m+r.z by lia,Aa]);let q4:dj r (i+(r.z-1)+1)=dj r i:=aU (by rw[show i+(r.z-1)+1=i+r.z by lia,Aa]);rw[q1]at n2 N;rw[q3]at n3;rw[q4]at n4;let XB:¬Dt L (cy r i,cy r<|i+m):=λz=>J z.mem;let Q:¬Dt L (cy r<|i+m,cy r i):=λz=>F.Uc z.mem;let rn:cy r (i+m+(r.z-m))=cy r i:=aH (by rw[show i+m+(r.z-m)=i+r.z by lia,Aa]);let G:dj (bw r i<|m+1) m=(cy r<|i+m,cy r i):=by let:=DI (r:=r) (s:=i) (m:=m+1) ();rwa [Jn]at this
 let I:dj (bw r (i+m)<|r.z-m+1) (r.z-m)=(cy r i,cy r<|i+m):=by let:=DI (r:=r) (s:=i+m) (m:=r.z-m+1) ();rw[Jn,rn]at this;exact this
 let G1:Good M<|bw r i<|m+1:=by refine o5 (by rw[aK];lia) (λj H=>?_)<|λj H=>?_;rw[aK]at H;ext(z:j<m);rw[dg ()];exact sub _<|g.dt _;rw[show j=m by lia,G];exact#[ZZ.1,ZZ.2.1,ZZ.2.2.2];rw[aK]at H;ext(z:j+1<m);rw[dg (),dg (),N _ (g.dt _) (jC ns () ())<|jC ns () (),g.st];rfl;ext(y:j+1=m);rw[dg (),y,G,show i+j=i+(m-1)by lia,n2];rw[show j=m by lia,G,n4,DH ()]
 let G2:Good M<|bw r (i+m)<|r.z-m+1:=by refine o5 (by rw[aK];lia) (λj H=>?_)<|λj H=>?_;rw[aK]at H;ext(z:j<r.z-m);rw[dg ()];exact sub _<|g.dt _;rw[show j=r.z-m by lia,I];exact ad;rw[aK]at H;ext(z:j+1<r.z-m);rw[dg (),dg (),N _ (g.dt _) (jC ns () ())<|A6<|jC ns () (),g.st];rfl;ext(y:j+1=r.z-m);rw[dg (),y,I,show i+m+j=i+(r.z-1)by lia,n1];rw[show j=r.z-m by lia,I,n3,DH ()]
 let ac:∀j,Dt L (dj (bw r (i+m)<|r.z-m+1) j)\/dj (bw r (i+m)<|r.z-m+1) j=(cy r i,cy r<|i+m):=λj=>by let e:dj (bw r (i+m)<|r.z-m+1) j=dj (bw r (i+m)<|r.z-m+1) (j%(r.z-m+1)):=aU (by rw[aK,EX]);let lt:=AK j (show 0<r.z-m+1 by lia);rw[e];ext(z:j%(r.z-m+1)<r.z-m);left;rw[dg ()];exact g.dt _;right;rw[show j%(r.z-m+1)=r.z-m by lia,I]
 let am:∀q∈R.take k++R.drop (k+1),Good M q:=λq f=>by
  let qm:q∈R:=by ext(h|h:Af.mp f);exact Fz h;exact GK h
  let X:=l.good q qm;refine#[X.two,λj=>sub _<|X.dt j,λj=>?_];rw[N _ (X.dt j) (l.off P f j _)<|l.off P f j _,X.st]
 let VO:=mQ U i (m:=m+1) ();let ME:=mQ U (i+m) (m:=r.z-m+1) ();let RG:dP M<|R.take k++[bw r i<|m+1,bw r (i+m)<|r.z-m+1]++R.drop (k+1):=by
  refine l.split P am (λb D=>?_) (λb D=>?_) ?_ (λb D=>?_) (λd ZE=>?_)<|λj=>?_;simp only[BX,Bn,Bu]at D;ext(rfl|rfl:D);exact G1;exact G2;simp only[BX,Bn,Bu]at D;ext(rfl|rfl:D);exact G4 VO;exact G4 ME;refine List.pairwise_pair.mpr λu v z=>?_;let al:=G1.along G2 z<|m+u*m;let md:dj (bw r i<|m+1) (u+(m+u*m))=dj (bw r i<|m+1) m:=aU (by rw[aK,show u+(m+u*m)=m+(m+1)*u by rw[JE,Js,Gn m u];lia,Ld]);rw[md,G]at al;ext(h|h:ac<|v+(m+u*m));rw[<-al]at h;exact Q h;rw[<-al]at h;exact ne<|A4 Prod.snd h;simp only[BX,Bn,Bu]at D;ext(rfl|rfl:D);exact#[m,G>>Q];exact#[r.z-m,I>>XB];ext(h|h|h:hd d ZE);exact .inl h;right;refine D8.mpr #[bw r (i+m)<|r.z-m+1,by simp,?_];rw[h,<-I];exact gE (by rw[aK];lia) _;right;refine D8.mpr #[bw r i<|m+1,by simp,?_];rw[h,<-G];exact gE (by rw[aK];lia) _;let#[u,hu,e]:=seg_at (r:=r) (s:=i) (t:=j) ();rw[e];ext(z:u<m);refine D8.mpr #[bw r i<|m+1,by simp,?_];rw[<-dg (r:=r) (s:=i) (m:=m+1) ()];exact gE (by rw[aK];lia) _;refine D8.mpr #[bw r (i+m)<|r.z-m+1,by simp,?_];let:dj r (i+u)=dj (bw r (i+m)<|r.z-m+1) (u-m):=by rw[dg (),show i+m+(u-m)=i+u by lia]
  erw[this,gE (by rw[aK];lia) _]
 let sm:nT M:=RG.kR λq f=>by ext(h|h:Af.mp f);ext(h|h:Af.mp h);exact t.kR.rings l q<|Fz h;simp only[BX,Bn,Bu]at h;ext(rfl|rfl:h);exact VO;exact ME;exact t.kR.rings l q<|GK h
 let inr:∀{s n:Nat} {x:Int},x∈bw r s n->x∈r:=λh=>by let#[_,_,rfl]:=gv h;exact a8 ()
 let cl:∀q∈R.take k++[bw r i<|m+1,bw r (i+m)<|r.z-m+1]++R.drop (k+1),(q∈R/\q≠r)\/q=bw r i (m+1)\/q=bw r (i+m) (r.z-m+1):=λq f=>by let o:q∈R.take k++R.drop (k+1)->q∈R/\q≠r:=λh=>#[(Af.mp h).elim Fz GK,λz=>l.off P h 0 0<|z▸rfl];simp only[J3,BX,Bn,Bu]at f o;ext((h|h) | h:f);exact .inl<|o<|.inl h;exact .inr h;exact .inl<|o<|.inr h
 let W:∀{s n:Nat} {q:cc} {a b:Int},n+2<=r.z->q∈R/\q≠r->a≠b->a∈bw r s (n+1)->b∈bw r s (n+1)->a∈q->b∈q->(a,b)∈sh 0 (bw r s<|n+1)\/(b,a)∈sh 0 (bw r s<|n+1):=λ{s n q a b} hn f B A b1 C b2=>by
  let w:∀{d:af},d∈sh 0 r->d.1∈bw r s (n+1)->d.2∈bw r s (n+1)->d∈sh 0 (bw r s<|n+1):=λhd h1 h2=>by let#[u,hu,rfl]:=JY U hn hd h1 h2;erw[<-dg (r:=r) (s:=s) (m:=n+1) (),gE (by rw[aK];lia) _]
  exact(t.meets l K f.1 (A6 f.2) B (inr A) (inr b1) C b2).imp (λh=>w h A b1) λh=>w h b1 A
 let ends:∀{x:Int},x∈bw r i (m+1)->x∈bw r (i+m) (r.z-m+1)->x=cy r i\/x=cy r (i+m):=λh1 h2=>by let#[u,hu,rfl]:=gv h1;let#[v,hv,e]:=gv h2;rw[Ia]at e;ext(z:m+v<r.z);let:=xh U () z e;exact .inr (by rw[show u=m by lia]);rw[show i+(m+v)=i+r.z by lia,aH<|Aa i _]at e;exact .inl e
 let mp:fc<|(R.take k++[bw r i<|m+1,bw r (i+m)<|r.z-m+1]++R.drop (k+1)).map<|sh 0:=ie λp E q f pq a b B A b1 C b2=>by
  let i1:(cy r<|i+m,cy r i)∈sh 0 (bw r i<|m+1):=by erw[<-G,gE (by rw[aK];lia) _]
  let i2:(cy r i,cy r<|i+m)∈sh 0 (bw r (i+m)<|r.z-m+1):=by erw[<-I,gE (by rw[aK];lia) _]
  ext(E|rfl|rfl:cl p E)<;>ext(f|rfl|rfl:cl q f);exact t.meets l E.1 f.1 pq B A b1 C b2;exact t.meets l E.1 K E.2 B A b1 (inr C)<|inr b2;exact t.meets l E.1 K E.2 B A b1 (inr C)<|inr b2;exact W () f B A b1 C b2;exact absurd rfl pq;ext(rfl|rfl:ends A C)<;>ext(rfl|rfl:ends b1 b2);exact absurd rfl B;exact .inr i1;exact .inl i1;exact absurd rfl B;exact W () f B A b1 C b2;ext(rfl|rfl:ends C A)<;>ext(rfl|rfl:ends b2 b1);exact absurd rfl B;exact .inl i2;exact .inr i2;exact absurd rfl B;exact absurd rfl pq
 exact#[M,#[T9,sm,O>>t.four,_,RG.dec,mp],O,RG]
theorem yN(b:l.Nodup)(hz:z∈l)(a:n∉l):pre (put l (l.idxOf z) n) n=pre l z:=by let c:n∈put l (l.idxOf z) n:=hW.mpr<|.inl rfl;let h:=jG (tY a b) (hW.mpr<|.inr hz) c<|λe=>a<|e▸hz;rw[fQ a,Al<|fF hz a]at h;exact h.symm
theorem bA.put2(s:bA L)(g:Good L r)(t:(sh 0 r).Nodup)(k:cs≠[])(f:cs.Pairwise (·<·))(m:∀c∈cs,c<r.z)(un:(cs.map<|cy r).Nodup) :
  ∃M,Put L r cs M/\∀c∈cs,br M (cy r c)=Gm.put (br L<|cy r c) ((br L<|cy r c).idxOf<|cy r<|c+(r.z-1)) L.z:=by
 let#[M,u,v,pl,_,rows]:=s.place g t f m un cs.z (Lu.mpr k)<|Xx _;rw[F6]at pl rows;refine#[M,#[pl.sh,pl.len,pl.new,pl.sub,pl.keep,λd p n=>?_],rows];let#[i,b1,b2,l]:=p.back s.map;unfold nx;ext(h:∃c∈cs,cy r c=d.2);let#[c,b,e]:=h;let#[j,q,o,ed]:=du g s.map;rw[e]at j q o ed;let a:=rows c b;rw[e]at a;rw[a,zak (s.map.nd _ _<|ag i b1) j (nc s.map i b1) l λz=>n c b ?_];rw[ed,<-z];rw[pl.keep d.2 i b1 λc b e=>h #[c,b,e]]
noncomputable def dD(a:List Nat)(k:Nat):Nat:=a.getD ((k+(a.z-1))%a.z) 0
def fg(r:cc)(a:List Nat)(k:Nat):Nat:=if a.getD k 0<dD a k then a.getD k 0+r.z else a.getD k 0
def cP(r:cc)(a:List Nat)(N:Nat)(k:Nat):cc:=bw r (dD a k) (fg r a k-dD a k+1)++[(N:Int)]
def GU(r:cc)(a:List Nat)(N:Nat):cq:=(List.range a.z).map<|cP r a N
structure NT(r:cc)(cs:List Nat)(k h T:Nat):Prop where
 hm:∃j,j<cs.z/\cs[j]?=some h/\j=(k+(cs.z-1))%cs.z
 km:∃c,cs[k]?=some c/\(T=c\/T=c+r.z)
 lt:h<T
 le:T<h+r.z
 top:h<r.z
 no:∀u,h<u->u<T->∀c∈cs,c≠u/\c+r.z≠u
theorem JX(q:cs.Pairwise (·<·))(m:∀c∈cs,c<r.z)(B:2<=cs.z)(d:k<cs.z):NT r cs k (dD cs k)<|fg r cs k:=by
 let mono:∀{i j:Nat} (l:i<cs.z) (b:j<cs.z),i<j->cs[i]<cs[j]:=λl b h=>Fm.mp q _ _ l b h;let o:∀{i j:Nat} (l:i<cs.z) (b:j<cs.z),cs[i]<cs[j]->i<j:=λ{i j} l b h=>by ext(z|z|z:HC i j);exact z;subst z;lia;let:=mono b l z;lia
 let v:cs.getD k 0=cs[k]:=by rw[su,me d];rfl
 let A:=m cs[k]<|ET _;ext(y:k=0);subst y;let e:(0+(cs.z-1))%cs.z=cs.z-1:=Fu>>AV ()
 let a:cs.z-1<cs.z:=();let f:dD cs 0=cs[cs.z-1]:=by unfold dD;rw[e,su,me a];rfl
 let x:=m cs[cs.z-1]<|ET _;let w:=mono d a ();let t:fg r cs 0=cs[0]+r.z:=by unfold fg;rw[v,f,Al w]
 rw[t];refine#[#[_,a,f>>me a,e.symm],#[_,me d,.inr rfl],(),(),(),λu g p c n=>?_];let#[j,b,s]:=Eg.mp n;rw[f]at g;let cl:=m c n;refine#[λz=>?_,λz=>?_];rw[<-z,<-s]at g;let:=o a b g;lia;let:cs[j]<cs[0]:=();let:=o b d this;lia;let e:(k+(cs.z-1))%cs.z=k-1:=by erw[show k+(cs.z-1)=k-1+cs.z by lia,Aa,AV ()]
 let a:k-1<cs.z:=();let f:dD cs k=cs[k-1]:=by unfold dD;rw[e,su,me a];rfl
 let x:=m cs[k-1]<|ET _;let w:=mono a d ();let t:fg r cs k=cs[k]:=by unfold fg;rw[v,f,Ak ()]
 rw[t];refine#[#[_,a,f>>me a,e.symm],#[_,me d,.inl rfl],(),(),(),λu g p c n=>?_];let#[j,b,s]:=Eg.mp n;rw[f]at g;let cl:=m c n;refine#[λz=>?_,λz=>()];rw[<-z,<-s]at g p;let:=o a b g;let:=o b d p;lia
section
variable {s e N t:Nat}
theorem iP:(bw r s (e+1)++[(N:Int)]).z=e+2:=by rw[Ac,aK];rfl
theorem xj(h:t<=e):cy (bw r s (e+1)++[(N:Int)]) t=cy r (s+t):=uE (by rw[Eh (by rw[aK];lia),kg ()])
theorem DR:cy (bw r s (e+1)++[(N:Int)]) (e+1)=(N:Int):=uE (by rw[Fg (by rw[aK];lia),aK,L8];rfl)
theorem kM(h:t<e):dj (bw r s (e+1)++[(N:Int)]) t=dj r (s+t):=by unfold dj;rw[xj (),xj ()];rfl
theorem Nz:dj (bw r s (e+1)++[(N:Int)]) e=(cy r<|s+e,(N:Int)):=by unfold dj;rw[xj<|Xx _,DR]
theorem DJ:dj (bw r s (e+1)++[(N:Int)]) (e+1)=((N:Int),cy r s):=by unfold dj;rw[DR,show cy (bw r s (e+1)++[(N:Int)]) (e+1+1)=cy (bw r s (e+1)++[(N:Int)]) 0 from aH (by rw[iP,Gk,Kq]),xj<|Bv _];rfl
theorem zq7(h:0<e):dj (bw r s (e+1)++[(N:Int)]) (e+2)=dj r s:=by let q:dj (bw r s (e+1)++[(N:Int)]) (e+2)=dj (bw r s (e+1)++[(N:Int)]) 0:=aU (by rw[iP,Gk,Kq]);rw[q,kM h];rfl
end
theorem VQ(d:a<2*n)(g:b<2*n)(e:a%n=b%n):a=b\/a+n=b\/a=b+n:=by
 let f:∀{c:Nat},c<2*n->c%n=c\/c%n+n=c:=λ{c} h=>by ext(z:c<n);exact .inl<|AV z;right;rw[Hr (),AV ()];lia
 let:=f d;let:=f g;lia
theorem z8(d:r.Nodup)(c:0<r.z)(e:cy r a=cy r b):a%r.z=b%r.z:=by let x:cy r a=cy r (0+a%r.z):=aH (by rw[Fu,EX]);let y:cy r b=cy r (0+b%r.z):=aH (by rw[Fu,EX]);rw[x,y]at e;exact xh d (AK _ c) (AK _ c) e
section
variable {r:cc} {cs:List Nat} {k l h h' T T':Nat}
theorem kO(a:cs.Pairwise (·<·)){i j c:Nat}(e:cs[i]?=some c)(f:cs[j]?=some c):i=j:=by let#[d,g]:=AA.mp e;let#[b,m]:=AA.mp f;ext(z|z|z:HC i j);let:=Fm.mp a _ _ d b z;lia;exact z;let:=Fm.mp a _ _ b d z;lia
theorem NT.ends(A:NT r cs k h T)(f:∀c∈cs,c<r.z):∃c j,cs[k]?=some c/\c<r.z/\(T=c\/T=c+r.z)/\cs[j]?=some h/\k<cs.z/\j=if k=0 then cs.z-1 else k-1:=by let#[j,i,d,g]:=A.hm;let#[c,a,e]:=A.km;let b:=(AA.mp a).1;refine#[c,j,a,f c<|A5 a,e,d,b,?_];rw[g];split;rw[AV ()];lia;rw[show k+(cs.z-1)=k-1+cs.z by lia,Aa,AV ()]
theorem NT.short(A:NT r cs k h T)(a:cs.Pairwise (·<·))(f:∀c∈cs,c<r.z)(B:3<=cs.z):T-h+2<=r.z:=by
 let#[c,j,p,cl,w,g,v,u]:=A.ends f;obtain⟨i,e,m,n⟩:∃i,i<cs.z/\i≠k/\i≠j:=by ext(q:0≠k/\0≠j);exact#[0,(),q];ext(o:1≠k/\1≠j);exact#[1,(),o];exact#[2,(),(),()]
 let b:=me e;let d:=ET e;let x:=f _ d;let t:cs[i]≠c:=λz=>m<|kO a (z▸b) p;let s:cs[i]≠h:=λz=>n<|kO a (z▸b) g;let:=A.top;let:=A.le;ext(z:h<cs[i]);let:¬cs[i]<T:=λy=>(A.no _ z y _ d).1 rfl;lia;let:¬cs[i]+r.z<T:=λy=>(A.no _ () y _ d).2 rfl;lia
theorem g6(C:r.Nodup)(a:cs.Pairwise (·<·))(f:∀c∈cs,c<r.z)(A:NT r cs k h T)(B:NT r cs l h' T')(F:k≠l)(n:x∈bw r h (T-h+1))(g:x∈bw r h' (T'-h'+1)):x=cy r h\/x=cy r T:=by
 let#[u,M,rfl]:=gv n;let#[v,J,e]:=gv g;let#[c,j,S,cl,H,d,R,m]:=A.ends f;let#[z,O,i,t,s,b,N,D]:=B.ends f;let K:=A.top;let G:=A.le;let L:=A.lt;let b1:=B.top;let b2:=B.le;let E:=B.lt;let e:=VQ () ()<|z8 C () e;ext(p:u=0);left;rw[p];rfl;ext(y:u=T-h);right;rw[y,show h+(T-h)=T by lia];exfalso;let I:=λq (o:q∈cs)=>A.no (h+u) () () q o;ext(Q:v=0);let:=I h'<|A5 b;lia;ext(P:v=T'-h');let:=I z<|A5 i;lia;ext(w|w|w:HC u v);let:=B.no (h'+(v-u)) () () h<|A5 d;lia;let:h=h':=();subst this;let:=kO a d b;split at m<;>split at D<;>lia;let:=A.no (h+(u-v)) () () h'<|A5 b;lia
theorem zcx(e:r.Nodup)(d:cs.Pairwise (·<·))(f:∀c∈cs,c<r.z)(O:3<=cs.z)(A:NT r cs k h T)(B:NT r cs l h' T')(g:k≠l)(E:a≠b)(v:a∈bw r h (T-h+1))(b1:b∈bw r h (T-h+1))(u:a∈bw r h' (T'-h'+1))(b2:b∈bw r h' (T'-h'+1)):False:=by
 let#[c,j,F,cl,M,n,R,s]:=A.ends f;let#[w,Q,o,J,H,t,P,D]:=B.ends f;let L:=A.top;let t2:=A.le;let t3:=B.top;let N:=B.le;let m:0<r.z:=();let C:cy r h≠cy r h':=λz=>by
  let:=VQ () ()<|z8 e m z;let:h=h':=();subst this;let:=kO d n t;split at s<;>split at D<;>lia
 let K:cy r T≠cy r T':=λz=>by
  let:=VQ () ()<|z8 e m z;let:c=w:=();subst this;exact g<|kO d F o
 let x:cy r h=cy r T'->cy r T=cy r h'->False:=λy z=>by
  let:=VQ () ()<|z8 e m y;let:=VQ () ()<|z8 e m z;let G:h=w:=();let I:c=h':=();subst G I;let:=kO d n o;let:=kO d F t;split at s<;>split at D<;>lia
 ext(p|p:g6 e d f A B g v u)<;>ext(q|q:g6 e d f A B g b1 b2)<;>ext(p' | p':g6 e d f B A (A6 g) u v)<;>ext(i | i:g6 e d f B A (A6 g) b2 b1);all_goals first
  | exact E<|p.trans q.symm
  | exact E<|p'.trans i.symm
  | exact C<|p.symm.trans p'
  | exact C<|q.symm.trans i
  | exact K<|p.symm.trans p'
  | exact x (p.symm.trans p')<|q.symm.trans i
  | exact x (q.symm.trans i)<|p.symm.trans p'
end
theorem b8.stack(t:b8 L)(D:dP L R)(hr:R[k]?=some r)(C:cs.Pairwise (·<·))(Q:∀c∈cs,c<r.z)(c3:3<=cs.z) :
  ∃M,b8 M/\M.z=L.z+1/\dP M (R.take k++GU r cs L.z++R.drop (k+1)):=by
 let im:=t.map;let rm:=A5 hr;let g:=D.good r rm;let ns:=qd D rm;let nr:=t.kR.rings D r rm;let ar:=g.two;let r0:0<r.z:=();let c0:cs≠[]:=λz=>by rw[z]at c3;simp at c3
 let un:(cs.map<|cy r).Nodup:=Gv _ (R:=λa b=>a<b/\b<r.z) (λa b h=>cA nr h.1 ())<|Jq (λ{a b} _ E h=>#[h,Q b E]) C;let#[M,P,rows]:=t.bM.put2 g ns c0 C Q un;let U:=P.len;let W:=P.new;let mM:=P.bM.map;let dt:∀d,Dt M d->Dt L d\/(∃c∈cs,d=(cy r c,(L.z:Int)))\/∃c∈cs,d=((L.z:Int),cy r c):=λd N=>by
  let h1:=N.hi;rw[U]at h1;ext(z:d.1=(L.z:Int));let F:=N.mem;rw[z,W]at F;let#[c,f,e]:=A3.mp F;exact .inr<|.inr #[c,f,EF z e.symm];let H:d.1<L.z:=();ext(y:∃c∈cs,cy r c=d.1);let#[c,f,e]:=y;let F:=N.mem;rw[<-e,rows c f]at F;ext(w|w:hW.mp F);exact .inr<|.inl #[c,f,EF e.symm w];rw[e]at w;exact .inl #[N.lo,H,w];let F:=N.mem;rw[P.keep _ N.lo H λc f e=>y #[c,f,e]]at F;exact .inl #[N.lo,H,F]
 let dN:∀{c:Nat},c∈cs->Dt M ((L.z:Int),cy r c):=λ{c} f=>#[(),by rw[U];lia,W>>A3.mpr #[c,f,rfl]];let dT:∀{c:Nat},c∈cs->Dt M (cy r c,(L.z:Int)):=λf=>let h:=(dN f).back mM;#[h.1,h.2.1,h.2.2.2]
 let nN:∀{x:Int},¬Dt L (x,(L.z:Int)):=λ{x} z=>by let:=(z.back im).2.1;lia
 let YG:∀{c:Nat},c∈cs->nx M (dj r<|c+(r.z-1))=(cy r c,(L.z:Int)):=λ{c} f=>by let#[zm,x0,H,ed]:=du g im (c:=c);rw[ed];unfold nx;dsimp only;rw[rows c f,fF zm<|nc im x0 H]
 let an:∀{c:Nat},c∈cs->nx M ((L.z:Int),cy r c)=dj r c:=λ{c} f=>by let#[zm,x0,H,ed]:=du g im (c:=c);let st:=g.st<|c+(r.z-1);let e:dj r (c+(r.z-1)+1)=dj r c:=aU (by rw[show c+(r.z-1)+1=c+r.z by lia,Aa]);rw[ed,e]at st;rw[<-st];unfold nx;dsimp only;rw[rows c f,yN (im.nd _ _<|ag x0 H) zm<|nc im x0 H]
 let ad:∀{k h:Nat} {c:Nat},cs[k]?=some c->(∃j,j<cs.z/\cs[j]?=some h/\j=(k+(cs.z-1))%cs.z)->nx M (cy r c,(L.z:Int))=((L.z:Int),cy r h):=λ{k h c} J ⟨j,O,hh,ej⟩=>by
  let kl:=(AA.mp J).1;show((L.z:Int),pre (br M (L.z:Int))<|cy r c)=_;rw[W];let l0:0<(cs.map<|cy r).z:=by rw[ZO];lia
  let e1:cy (cs.map<|cy r) (k+(cs.z-1)+1)=cy r c:=by erw[aH (show(k+(cs.z-1)+1)%(cs.map<|cy r).z=k%(cs.map<|cy r).z by rw[ZO,show k+(cs.z-1)+1=k+cs.z by lia,Aa]),uE<|by rw[AY,J];rfl]
  let e2:cy (cs.map<|cy r) (k+(cs.z-1))=cy r h:=by erw[aH (show(k+(cs.z-1))%(cs.map<|cy r).z=j%(cs.map<|cy r).z by rw[ZO,ej,EX]),uE<|by rw[AY,hh];rfl]
  rw[<-e1,ck un l0,e2]
 let Uz:=λ{k:Nat} (J:k<cs.z)=>JX C Q (r:=r) () J;let m:∀k,k<cs.z->Good M (cP r cs L.z k)/\(cP r cs L.z k).Nodup/\(∃c,cs[k]?=some c/\dj (cP r cs L.z k) (fg r cs k-dD cs k)=(cy r c,(L.z:Int)))/\
   (∀j,Dt L (dj (cP r cs L.z k) j)\/(∃c,cs[k]?=some c/\dj (cP r cs L.z k) j=(cy r c,(L.z:Int)))\/∃x,dj (cP r cs L.z k) j=((L.z:Int),x))/\(cP r cs L.z k).z=fg r cs k-dD cs k+2:=λk J=>by
  let A:=Uz J;unfold cP;generalize dD cs k=h at A ⊢;generalize fg r cs k=T at A ⊢;let#[c,f,hT]:=A.km;let cm:=A5 f;let#[jh,as,hh,_]:=A.hm;let hm:=A5 hh;let ap:=A.lt;let le:=A.le;let eT:cy r (h+(T-h))=cy r c:=by rw[show h+(T-h)=T by lia];ext(z|z:hT);rw[z];erw[z,aH<|Aa _ _]
  let E1:dj (bw r h (T-h+1)++[(L.z:Int)]) (T-h)=(cy r c,(L.z:Int)):=by rw[Nz,eT]
  let E2:dj (bw r h (T-h+1)++[(L.z:Int)]) (T-h+1)=((L.z:Int),cy r h):=DJ;refine#[o5 (by rw[iP];lia) (λj O=>?_)<|λj O=>?_,?_,#[c,f,E1],λj=>?_,iP];rw[iP]at O;ext(z:j<T-h);rw[kM z];exact P.sub _<|g.dt _;ext(y:j=T-h);rw[y,E1];exact dT cm;rw[show j=T-h+1 by lia,E2];exact dN hm;rw[iP]at O;ext(z:j+1<T-h);rw[kM (),kM z,P.Kw _ (g.dt _)<|λG I w=>?_,g.st];rfl;let q:=S5 ns r0 w;let n1:=A.no (h+j+1) () () G I;let cl:=Q G I;let Z:=A.top;let Y:(h+j+1)%r.z=G%r.z:=by rw[EN,q,<-EN,show G+(r.z-1)+1=G+r.z by lia,Aa]
  rw[AV cl]at Y;ext(w2:h+j+1<r.z);rw[AV w2]at Y;exact n1.1 Y.symm;rw[show h+j+1=h+j+1-r.z+r.z by lia,Aa,AV ()]at Y;exact n1.2 ();ext(y:j+1=T-h);rw[kM (),y,E1,<-YG cm];congr 1;refine aU ?_;ext(w|w:hT);rw[show c+(r.z-1)=h+j+r.z by lia,Aa];rw[show h+j=c+(r.z-1)by lia];ext(x:j=T-h);rw[x,E1,E2,ad f A.hm];rw[show j=T-h+1 by lia,E2,an hm,show T-h+1+1=T-h+2 by lia,zq7 ()];refine F9.mpr #[mQ nr h (),by simp,λx hx y hy z=>?_];rw[Ax.mp hy]at z;let#[u,hu,e]:=A3.mp hx;let:=(g.dt<|h+u).hi;rw[show(dj r<|h+u).1=cy r (h+u)from rfl]at this;lia;let e:dj (bw r h (T-h+1)++[(L.z:Int)]) j=dj (bw r h (T-h+1)++[(L.z:Int)]) (j%(T-h+2)):=aU (by rw[iP,EX]);let jl:=AK j (show 0<T-h+2 by lia);rw[e];ext(z:j%(T-h+2)<T-h);left;rw[kM z];exact g.dt _;ext(y:j%(T-h+2)=T-h);exact .inr<|.inl #[c,f,by rw[y,E1]];exact .inr<|.inr #[_,by rw[show j%(T-h+2)=T-h+1 by lia,E2]]
 let lq:∀{b:cc},b∈GU r cs L.z->∃k,k<cs.z/\b=cP r cs L.z k:=λE=>by let#[k,J,e]:=A3.mp E;exact#[k,Ad.mp J,e.symm]
 let uY:∀{k:Nat},k<cs.z->cP r cs L.z k∈GU r cs L.z:=λJ=>A3.mpr #[_,Ad.mpr J,rfl];let O5:∀{k c:Nat},cs[k]?=some c->(cy r c,(L.z:Int))∈sh 0 (cP r cs L.z k):=λ{k c} f=>by let kl:=(AA.mp f).1;let#[_,_,#[G,I,e],_,Z]:=m k kl;rw[f]at I;cases I;erw[<-e,gE (by rw[Z];lia) _]
 let pred:∀{k:Nat} {d:af},k<cs.z->Dt M d->nx M d∈sh 0 (cP r cs L.z k)->d∈sh 0 (cP r cs L.z k):=λ{k d} J N h=>by let#[gq,_,_,_,Z]:=m k J;let#[j,ej]:=(aF<|by rw[Z];lia).mp h;let e:dj (cP r cs L.z k) (j+((cP r cs L.z k).z-1)+1)=dj (cP r cs L.z k) j:=aU (by rw[show j+((cP r cs L.z k).z-1)+1=j+(cP r cs L.z k).z by lia,Aa]);let:=gq.st<|j+((cP r cs L.z k).z-1);rw[e,<-ej]at this;erw[<-dJ mM (gq.dt _) N this,gE (by rw[Z];lia) _]
 let ao:∀q∈R.take k++R.drop (k+1),Good M q:=λq B=>by
  let qm:q∈R:=by ext(h|h:Af.mp B);exact Fz h;exact GK h
  exact P.good (D.good q qm) λj c=>D.off hr B j c
 let Z3:∀n j,(∃c∈cs,(j+n)%r.z=(c+(r.z-1))%r.z)->∃k,k<cs.z/\dj r j∈sh 0 (cP r cs L.z k):=by
  ext n;induction n with
  | zero=>
   ext j ⟨c,f,e⟩;let#[i,l]:=Ej.mp f;let K:=(AA.mp l).1;refine#[i,K,pred K (P.sub _<|g.dt _) ?_];erw[show dj r j=dj r (c+(r.z-1))from aU e,YG f,O5 l]
  | succ n ih=>
   ext j ⟨c,f,e⟩;ext(z:∃G∈cs,dj r j=dj r (G+(r.z-1)));let#[G,I,e']:=z;let#[i,l]:=Ej.mp I;let K:=(AA.mp l).1;refine#[i,K,pred K (P.sub _<|g.dt _) ?_];rw[e',YG I];exact O5 l;let#[i,K,h]:=ih (j+1) #[c,f,by erw[show j+1+n=j+(n+1)by lia,e]];refine#[i,K,pred K (P.sub _<|g.dt _) ?_];erw[P.Kw _ (g.dt _) λG I w=>z #[G,I,w],g.st,h]
 let RG:dP M<|R.take k++GU r cs L.z++R.drop (k+1):=by
  refine D.split hr ao (λb E=>?_) (λb E=>?_) ?_ (λb E=>?_) (λd ZE=>?_)<|λj=>?_;let#[i,l,rfl]:=lq E;exact(m i l).1;let#[i,l,rfl]:=lq E;exact G4 (m i l).2.1;refine Hl.mpr<|Jq (λ{a b} ha E (zL:a≠b) u v z=>?_) JK;let ha:=Ad.mp ha;let E:=Ad.mp E;let#[ga,_,#[ca,ac,ea],_,la]:=m a ha;let#[gb,_,_,ob,_]:=m b E;generalize hw:fg r cs a-dD cs a=w at ea la;let al:=ga.along gb z<|w+u*(w+1);let md:dj (cP r cs L.z a) (u+(w+u*(w+1)))=dj (cP r cs L.z a) w:=aU (by rw[la,show u+(w+u*(w+1))=w+(w+2)*u by rw[JE,Nat.mul_add,Gn w u];lia,Ld]);rw[md,ea]at al;ext(h|⟨cb,am,h⟩|⟨x,h⟩:ob<|v+(w+u*(w+1)));rw[<-al]at h;exact nN h;rw[<-al]at h;let e:cy r ca=cy r cb:=A4 Prod.fst h;let l1:=Q ca<|A5 ac;let l2:=Q cb<|A5 am;let ee:ca=cb:=by ext(y|y|y:HC ca cb);exact absurd e<|cA nr y ();exact y;exact absurd e.symm<|cA nr y ()
  subst ee;let#[q1,w1]:=AA.mp ac;let#[Y,w2]:=AA.mp am;ext(y|y:Nat.lt_or_gt_of_ne zL);let:=Fm.mp C _ _ q1 Y y;lia;let:=Fm.mp C _ _ Y q1 y;lia;rw[<-al]at h;let:=A4 Prod.fst h;let:=(g.dt ca).hi;rw[show(dj r ca).1=cy r ca from rfl]at this;dsimp only at *;lia;let#[i,l,rfl]:=lq E;let#[_,_,#[c,_,e],_]:=m i l;exact#[_,e>>nN];ext(h|⟨c,f,e⟩|⟨c,f,e⟩:dt d ZE);exact .inl h;right;let#[i,l]:=Ej.mp f;exact D8.mpr #[_,uY (AA.mp l).1,e>>O5 l];right;let#[i,l]:=Ej.mp f;let K:=(AA.mp l).1;let kl:(i+1)%cs.z<cs.z:=AK _ ();refine D8.mpr #[_,uY kl,?_];let#[gq,_,#[G,I,e'],_,Z]:=m _ kl;let n3:=ad I (h:=c) #[i,K,l,by ext(z:i+1<cs.z);rw[AV z,show i+1+(cs.z-1)=i+cs.z by lia,Aa,AV K];rw[show i+1=cs.z by lia,Gk,Fu,AV ()];lia];rw[e,<-n3,<-e',gq.st];exact gE (by rw[Z];lia) _;let#[c,f]:=Mr cs c0;let#[i,l,h]:=Z3 (c+(r.z-1)+j*(r.z-1)) j #[c,f,by rw[show j+(c+(r.z-1)+j*(r.z-1))=c+(r.z-1)+r.z*j by obtain⟨n,hn⟩:∃n,r.z=n+1:=#[r.z-1,()];rw[hn,Jn,JE,Js,Gn n j];lia,Ld]];exact D8.mpr #[_,uY l,h]
 let sm:nT M:=RG.kR λq B=>by ext(h|h:Af.mp B);ext(h|h:Af.mp h);exact t.kR.rings D q<|Fz h;let#[i,l,rfl]:=lq h;exact(m i l).2.1;exact t.kR.rings D q<|GK h
 let inr:∀{s n:Nat} {x:Int},x∈bw r s n->x∈r:=λh=>by let#[_,_,rfl]:=gv h;exact a8 r0
 let cl:∀q∈R.take k++GU r cs L.z++R.drop (k+1),(q∈R/\q≠r)\/∃i,i<cs.z/\q=cP r cs L.z i:=λq B=>by let o:q∈R.take k++R.drop (k+1)->q∈R/\q≠r:=λh=>#[(Af.mp h).elim Fz GK,λz=>D.off hr h 0 0<|z▸rfl];simp only[J3]at B o;ext((h|h) | h:B);exact .inl<|o<|.inl h;exact .inr<|lq h;exact .inl<|o<|.inr h
 let X:∀{q:cc} {x:Int},q∈R->x∈q->x≠(L.z:Int):=λB hx=>by let#[i,_,e]:=dh hx;let:=((D.good _ B).dt i).hi;rw[show(dj _ i).1=cy _ i from rfl,e]at this;lia
 let st:∀{i:Nat} {x:Int},x∈cP r cs L.z i->x=(L.z:Int)\/x∈bw r (dD cs i) (fg r cs i-dD cs i+1):=λh=>by unfold cP at h;ext(h|h:Af.mp h);exact .inr h;exact .inl<|Ax.mp h
 let Xs:∀{i:Nat} {q:cc} {x:Int},q∈R->x∈q->x∈cP r cs L.z i->x∈bw r (dD cs i) (fg r cs i-dD cs i+1):=λB hx h=>(st h).resolve_left<|X B hx;let OB:∀{i j:Nat} {x:Int},i<cs.z->j<cs.z->i≠j->x∈bw r (dD cs i) (fg r cs i-dD cs i+1)->x∈bw r (dD cs j) (fg r cs j-dD cs j+1)->((L.z:Int),x)∈sh 0 (cP r cs L.z i)\/(x,(L.z:Int))∈sh 0 (cP r cs L.z i):=λ{i j x} l O ij h1 F=>by let A:=Uz l;ext(rfl|rfl:g6 nr C Q A (Uz O) ij h1 F);left;let e:dj (cP r cs L.z i) (fg r cs i-dD cs i+1)=((L.z:Int),cy r<|dD cs i):=DJ;rw[<-e];exact gE (by rw[(m i l).2.2.2.2];lia) _;right;let#[c,f,hT]:=A.km;let:=O5 f;ext(z|z:hT);rw[z];exact this;erw[z,aH<|Aa c _,this]
 let mp:fc<|(R.take k++GU r cs L.z++R.drop (k+1)).map<|sh 0:=ie λp S q B pq a b ab a1 b1 a2 b2=>by
  ext(S|⟨i,l,rfl⟩:cl p S)<;>ext(B|⟨j,O,rfl⟩:cl q B);exact t.meets D S.1 B.1 pq ab a1 b1 a2 b2;exact t.meets D S.1 rm S.2 ab a1 b1 (inr<|Xs S.1 a1 a2)<|inr<|Xs S.1 b1 b2;let w1:=Xs B.1 a2 a1;let w2:=Xs B.1 b2 b1;let w:∀{d:af},d∈sh 0 r->d.1∈bw r (dD cs i) (fg r cs i-dD cs i+1)->d.2∈bw r (dD cs i) (fg r cs i-dD cs i+1)->d∈sh 0 (cP r cs L.z i):=λN h1 F=>by let#[u,hu,rfl]:=JY nr ((Uz l).short C Q c3) N h1 F;let e:dj (cP r cs L.z i) u=dj r (dD cs i+u):=kM hu;erw[<-e,gE (by rw[(m i l).2.2.2.2];lia) _]
  exact(t.meets D rm B.1 (A6 B.2) ab (inr w1) (inr w2) a2 b2).imp (λh=>w h w1 w2) λh=>w h w2 w1;let ij:i≠j:=λz=>pq<|z▸rfl;ext(rfl|H:st a1);ext(rfl|y1:st b1);exact absurd rfl ab;exact OB l O ij y1<|(st b2).resolve_left<|A6 ab;let na:a≠(L.z:Int):=X rm<|inr H;let x2:=(st a2).resolve_left na;ext(rfl|y1:st b1);exact(OB l O ij H x2).symm;exact(zcx nr C Q c3 (Uz l) (Uz O) ij ab H y1 x2<|(st b2).resolve_left<|X rm<|inr y1).elim
 exact#[M,#[P.bM,sm,by let:=t.four;lia,_,RG.dec,mp],U,RG]
theorem dP.Yp(k:dP L R)(f:R'.z=R.z)(h:∀(i:Nat) (q r:cc),R'[i]?=some q->R[i]?=some r->cK q r):dP L R':=by
 let at':∀{i:Nat} {q:cc},R'[i]?=some q->∃r,R[i]?=some r/\cK q r:=λ{i q} j=>by let z:=(AA.mp j).1;let:=me (show i<R.z by lia);exact#[_,this,h i q _ j this]
 let l:∀{q r:cc},cK q r->(sh 0 q).Perm (sh 0 r):=λ{q r} e=>by ext(rfl|⟨c,m,rfl⟩:e);exact .refl _;erw[G3 m,gx _ _]
 let t:∀{q r:cc},cK q r->Good L r->Good L q:=λ{q r} e g=>by ext(rfl|⟨c,m,rfl⟩:e);exact g;exact g.dX m
 let v:∀(A B:cq),A.z=B.z->(∀(i:Nat) (q r:cc),A[i]?=some q->B[i]?=some r->cK q r)->(A.flatMap<|sh 0).Perm (B.flatMap<|sh 0):=by
  ext A;induction A with
  | nil=>
   ext B f _;cases B with
   | nil=>exact .refl _
   | cons b B=>simp at f
  | cons a A y=>
   ext B f n;cases B with
   | nil=>simp at f
   | cons b B=>
    erw[HM,HM,(l<|n 0 a b rfl rfl).append<|y B (~~~f) λi q r u o=>n (i+1) q r (~~~u)<|~~~o]
 let p:=v R' R f h;refine#[λq j=>?_,p.nodup_iff.mpr k.nd,λd w=>p.mem_iff.mpr<|k.all d w];let#[i,s]:=Ej.mp j;let#[r,x,e]:=at' s;exact t e<|k.good r<|A5 x
def Bs1(L:cq):Prop:=∀i∈List.range L.z,(br L (i:Int)).Nodup/\(∀y∈br L (i:Int),0<=y/\y<(L.z:Int)/\y≠(i:Int)/\(i:Int)∈br L y)/\2<=(br L (i:Int)).z/\(i=0\/∃y∈br L (i:Int),y<(i:Int))
def Bs2(L R:cq):Prop:=∀r∈R,2<=r.z/\r.Nodup/\∀j∈List.range r.z,(0<=(dj r j).1/\(dj r j).1<(L.z:Int)/\(dj r j).2∈br L (dj r j).1)/\nx L (dj r j)=dj r (j+1)
def Bs3(L R:cq):Prop:=(R.flatMap<|sh 0).Nodup/\(∀d∈cT L L.z,d∈R.flatMap (sh 0))/\((L.z:Int)+R.z+iso L=(eL L L.z).z+2)/\4<=L.z
def Bs4(R:cq):Prop:=∀c∈R,∀d∈R,c≠d->∀a∈c,∀b∈c,a≠b->a∈d->b∈d->(a,b)∈sh 0 c\/(b,a)∈sh 0 c
instance (L:cq):Decidable<|Bs1 L:=by unfold Bs1;infer_instance
instance (L R:cq):Decidable<|Bs2 L R:=by unfold Bs2;infer_instance
instance (L R:cq):Decidable<|Bs3 L R:=by unfold Bs3;infer_instance
instance (R:cq):Decidable<|Bs4 R:=by unfold Bs4;infer_instance
def iR(L R:cq):Prop:=Bs1 L/\Bs2 L R/\Bs3 L R/\Bs4 R
instance (L R:cq):Decidable<|iR L R:=by unfold iR;infer_instance
theorem iR.x9(h:iR L R):b8 L/\dP L R:=by
 let#[l,t,#[A,B,w,P],M]:=h;let c:∀x:Int,0<=x->x<L.z->∃i:Nat,x=i/\i∈List.range L.z:=λx k f=>#[x.toNat,(),Ad.mpr ()];let E:=ja λx k f=>by let#[i,rfl,e]:=c x k f;exact#[(l i e).1,(l i e).2.1]
 let g:dP L R:=by refine#[λr H=>?_,A,λd S=>B d S.all];let#[D,_,u]:=t r H;refine o5 D (λj s=>?_)<|λj s=>(u j<|Ad.mpr s).2;let:=(u j<|Ad.mpr s).1;exact#[this.1,this.2.1,this.2.2]
 let reach:∀n:Nat,n<L.z->Reach L 0 (n:Int):=by
  ext n;induction n using Nat.strongRecOn with
  | ind n I=>
   ext U;let#[_,K,_,T]:=l n<|Ad.mpr U;ext(rfl|⟨y,F,W⟩:T);exact .here;let#[v,O,_,C]:=K y F;let#[m,rfl]:=FH v;exact Reach.one (d:=((m:Int),(n:Int))) (I m () ()) #[v,O,C]
 let st:bA L:=#[E,(),λx k f=>#[0,by simp,by let#[i,rfl,e]:=c x k f;exact reach i<|Ad.mp e],_,g.dec,ZO>>w];exact#[#[st,g.kR λq o=>(t q o).2.1,P,_,g.dec,ie λp z q o N a b Q J b1 G b2=>M p z q o N a J b b1 Q G b2],g]
theorem xf(h:0<q.z)(j:Nat):dj (q.map<|gp l) j=FU l (dj q j):=by unfold dj FU;rw[rN _ h,rN _ h]
theorem G5(h:0<q.z):sh 0 (q.map<|gp l)=(sh 0 q).map (FU l):=by unfold sh;erw[ZO,ED,EU λj _=>xf h _]
theorem dP.Ua(e:dP A R)(h:D2 A l B)(n:rZ A.z l)(m:ah A):dP B<|R.map<|List.map<|gp l:=by
 let fl:∀S:cq,(∀q∈S,0<q.z)->(S.map<|List.map<|gp l).flatMap (sh 0)=(S.flatMap<|sh 0).map (FU l):=by
  ext S;induction S with
  | nil=>intro _;rfl
  | cons q S v=>
   ext r;rw[Ap,HM,HM,EE,G5<|r q AO,v λx z=>r x<|A7 _ z]
 let pos:∀q∈R,0<q.z:=λq c=>by let:=(e.good q c).two;lia
 let f:∀d∈R.flatMap (sh 0),Dt A d:=λd o=>by let#[q,c,y]:=D8.mp o;let#[j,rfl]:=(aF<|pos q c).mp y;exact(e.good q c).dt j
 refine#[λq c=>?_,?_,λd o=>?_];let#[i,k,rfl]:=A3.mp c;let g:=e.good i k;refine#[ZO>>g.two,λj=>?_,λj=>?_];rw[xf<|pos i k];exact h.dt n m<|g.dt j;rw[xf<|pos i k,xf<|pos i k,h.nx n m<|g.dt j,g.st];rw[fl R pos];exact Hl.mpr<|e.nd.imp_of_mem λ{a b} w u t q=>t<|CV n m (f a w) (f b u) q;rw[fl R pos];let#[p,s,rfl]:=h.DG n o;exact A3.mpr #[p,e.all p s,rfl]
theorem b8.Ua(t:b8 A)(f:dP A R)(h:D2 A l B)(n:rZ A.z l):b8 B:=by
 let m:=t.map;let T:=h.fU n m;let K:=f.Ua h n m;let P:∀x:Int,0<=x->x<B.z->∃j:Int,0<=j/\j<A.z/\gp l j=x:=λx w o=>by rw[h.len]at o;exact n.AZ w o
 let W:=t.bM.gu;let four:=t.four;let An:∀x:Int,0<=x->x<B.z->3<=(br B x).z:=λx w o=>by let#[j,D,J,rfl]:=P x w o;erw[h.br D J n,ZO,t.An D J]
 let dl:(cT B B.z).z=(cT A A.z).z:=by
  let e:=len_eq (Hl.mpr<|(aZ m<|Xx _).imp_of_mem λ{a b} H F s q=>s<|CV n m (Dt.of H) (Dt.of F) q) (aZ T<|Xx _) λx=>by constructor;ext C;let#[d,S,rfl]:=A3.mp C;exact(h.dt n m<|Dt.of S).all;ext C;let#[d,S,rfl]:=h.DG n<|Dt.of C;exact A3.mpr #[d,S.all,rfl]
  rw[ZO]at e;exact e.symm
 let iB:iso B=0:=by
  unfold iso;refine Ls.mpr λq k z=>?_;let#[i,I]:=Ej.mp k;let il:=(AA.mp I).1;let:=An (i:Int) () ();rw[dQ I]at this;cases q with
  | nil=>simp at this
  | cons a q=>simp at z
 let st:bA B:=by refine#[T,by rw[h.len];lia,λx w o=>#[0,by simp,?_],_,K.dec,?_];let#[j,D,J,rfl]:=P x w o;let#[u,u0,L,Z]:=P 0 () (by rw[h.len];lia);let:=((W u u0 L).sym m #[(),()]).trans<|W j D J;let:=this.Ua h n m;rwa [Z]at this;let#[Q,DQ,ch]:=t.bM.Fn;let c:=DQ.count f.dec;rw[ZO]at c;let e1:=bK T;let e2:=bK m;let i0:=t.bM.II;rw[ZO,ZO,iB];rw[h.len]at e1 dl ⊢;lia
 let sm:=K.kR λq k=>by
  let#[N,G,rfl]:=A3.mp k;let g:=f.good N G;let rg:∀x∈N,0<=x/\x<A.z:=λx C=>by let#[i,I,e]:=dh C;erw[<-e,#[(g.dt i).lo,(g.dt i).hi]]
  exact Hl.mpr<|(t.kR.rings f N G).imp_of_mem λ{a b} H F s q=>s<|n.inj (rg a H).1 (rg a H).2 (rg b F).1 (rg b F).2 q
 refine#[st,sm,h.len>>four,_,K.dec,ie λ_ Sg _ G s a b ab a1 b1 a2 b2=>?_];let#[p,E,rfl]:=A3.mp Sg;let#[q,k,rfl]:=A3.mp G;let same:∀{x:Int},x∈p.map (gp l)->x∈q.map (gp l)->∃y,y∈p/\y∈q/\x=gp l y:=λh1 X=>by
  let#[u,O,rfl]:=A3.mp h1;let#[v,M,e]:=A3.mp X;let rg:∀{r:cc} {z:Int},r∈R->z∈r->0<=z/\z<A.z:=λU hz=>by let#[i,I,e]:=dh hz;erw[<-e,#[((f.good _ U).dt i).lo,((f.good _ U).dt i).hi]]
  exact#[u,O,n.inj (rg k M).1 (rg k M).2 (rg E O).1 (rg E O).2 e▸M,rfl]
 let#[u,L,u2,rfl]:=same a1 a2;let#[v,Y,v2,rfl]:=same b1 b2;erw[G5 (by let:=(f.good p E).two;lia),(t.meets f E k (λz=>s<|by rw[z]) (λz=>ab<|by rw[z]) L Y u2 v2).imp (λh=>A3.mpr #[_,h,rfl]) λh=>A3.mpr #[_,h,rfl]]
theorem Q6(n:rZ A.z l):∃B,D2 A l B:=by
 refine#[(aP A.z).map λi=>(br A<|((aP A.z).find? λj=>decide<|gp l j=i).getD 0).map<|gp l,by rw[ZO,bB],λj a b=>?_];let r:=n.L3 a b;let g:(gp l j).toNat<A.z:=();rw[AY,zeq g];let e:=Hx r.1;let f:(aP A.z).find? (λi=>decide<|gp l i=gp l j)=some j:=by
  cases hf:(aP A.z).find? (λi=>decide<|gp l i=gp l j)with
  | none=>
   let:=Ij.mp hf j<|cR.mpr #[a,b];simp at this
  | some u=>
   let d:=find?_some hf;let c:=cR.mp<|Lx hf;simp[Jk]at d;rw[n.inj c.1 c.2 a b d]
 show some ((br A<|((aP A.z).find? λi=>decide<|gp l i=((gp l j).toNat:Int)).getD 0).map<|gp l)=_;rw[e,f];rfl
theorem Yw:iR [[1,3,2],[0,2,3],[0,3,1],[0,1,2]] [[0,1,3],[1,2,3],[2,0,3],[2,1,0]]:=by decide +kernel
theorem Yv:iR [[1,4,3],[0,2,4],[1,3,4],[0,4,2],[0,1,2,3]] [[0,1,4],[1,2,4],[2,3,4],[3,0,4],[3,2,1,0]]:=by decide +kernel
theorem Yu:iR [[1,5,4],[0,2,5],[1,3,5],[2,4,5],[0,5,3],[0,1,2,3,4]] [[0,1,5],[1,2,5],[2,3,5],[3,4,5],[4,0,5],[4,3,2,1,0]]:=by decide +kernel
theorem Yy:iR [[1,3,2],[0,2,4],[0,5,1],[0,4,5],[1,5,3],[2,3,4]] [[0,1,4,3],[1,2,5,4],[2,0,3,5],[3,4,5],[2,1,0]]:=by decide +kernel
theorem Yx:iR [[1,4,3],[0,2,5],[1,3,6],[0,7,2],[0,5,7],[1,6,4],[2,7,5],[3,4,6]] [[0,1,5,4],[1,2,6,5],[2,3,7,6],[3,0,4,7],[4,5,6,7],[3,2,1,0]]:=by decide +kernel
def TR(R:cq)(n:Nat):Prop:=∃L,b8 L/\dP L R/\L.z=n
theorem vL(a:dP L R)(b:r∈R):∀x∈r,0<=x/\x<L.z:=λx c=>by let#[i,d,e]:=dh c;erw[<-e,#[((a.good r b).dt i).lo,((a.good r b).dt i).hi]]
theorem b8.three(t:b8 L)(b:dP L R)(a:r∈R):3<=r.z:=by let:=t.bM.three (by let:=t.four;lia) b.dec<|A3.mpr #[r,a,rfl];rwa [cG]at this
theorem b8.small(t:b8 L)(b:dP L R)(a:r∈R):r.z<=L.z:=cZ (t.kR.rings b r a)<|vL b a
theorem b8.many(t:b8 L)(a:dP L R):R.z+4<=2*L.z:=(t.bM.lands t.four a).1
theorem TR.four(h:TR R n):4<=n:=by let#[L,t,_,rfl]:=h;exact t.four
theorem TR.many(h:TR R n):4<=R.z/\R.z+4<=2*n:=by let#[L,t,a,rfl]:=h;exact#[t.A9 a,t.many a]
theorem TR.ring(h:TR R n)(b:r∈R):3<=r.z/\r.z<=n/\r.Nodup/\∀x∈r,0<=x/\x<n:=by let#[L,t,a,rfl]:=h;exact#[t.three a b,t.small a b,t.kR.rings a r b,vL a b]
theorem TR.on{n:Nat}(h:TR R n){x:Int}(b:0<=x)(a:x<n):∃r∈R,x∈r:=by let#[L,t,g,rfl]:=h;let d:=t.An b a;let#[y,c]:=exists_mem_of_length_pos (l:=br L x) ();let#[r,f,e]:=D8.mp<|g.all (x,y) #[b,a,c];refine#[r,f,?_];let:x∈(sh 0 r).map (·.1):=A3.mpr #[(x,y),e,rfl];rwa [bX]at this
end Gm
namespace L2
open PySem PySem.Spec PySem.W PySem.Calls PyProof.Rows Gm
def TK(lo:Int)(n:Nat):It:=#[λi _=>i<n,λi H x a=>a=H/\x=.int (lo-i),λi _=>n<=i]
theorem x8{P:Program}{w:World}{K:bb}{y:Expr}(it:Addr)(lo:Int)(n:Nat):Turn P w K y (TK lo n) [it] it (λi h=>IsRangeIter h it (lo+(i:Nat)*(-1)) ((n:Int)-(i:Nat))<|-1) where
 mem:=by simp
 obj:=λi h st b a=>by
  let e:b=it:= ~~~a
  subst e;exact#[_,st,λv z=>by let A:Data.fields _=Data.cell v:=z;cases A]
 keep:=λi h h' st k=>k it A! _ st
 item:=by ext X g q f u i pins s σ H E I c st d;subst g q f;let#[j,r,C,m,l,p]:=c it A!;refine (Walks.range (prog:=X.prog) (w:=X.w) (I.ok.hd u) it lo (-1) n).item i s _ _ d st λv h' G F x D=>?_;let#[t,rfl]:=F;refine#[_,rfl,ui (s:={ s with heap:=h',toks:=G }) (n:= "range_iterator") x rfl rfl A? #[.int<|lo-i,H,I.turned (λb o a e=>D b o (~~~a) e) j r m l p,#[t,?_],#[rfl,rfl],x,λb a=>(c b a).1]];congr 1;lia
 done:=by ext X g q f u i pins s σ H E I c st d;subst g q f;let#[j,r,C,m,l,p]:=c it A!;exact wpAny_pyNext_range_end (I.ok.hd u) st (by let:n<=i:=d;lia) λh' B=>#[rfl,I.turned (t':=s.toks) (λb o a e=>B b o a e) j r m l p]
 self:=λ_ _ _ _ _ st h=>N7 st h
section
variable {X:Cx} {tg:Expr}
theorem zaH{σ:St}{s:Shared}{R:It->Hp->Prop}{lo a:Int}{t u v:Tok}{d:Nat}(I:Inv X pins σ H s)(h1 : -(2 ^ 62)<=lo)(f:lo<2 ^ 62)(h3 : -(2 ^ 62)<=a)(g:a<2 ^ 62)(q:R (TK lo (lo-a).toNat) H):wpAny (model X.prog X.w) X.A (pyIter<|.ref s.c) (PIE X pins σ tg R) E { s with heap:=s.heap.push { cls:=.type "range",data:=.fields #[.int lo t,.int a u,.int (-1) v,] },toks:=d }:=by
 refine wpAny_pyIter_range (IsRange.new ..) (small_down h1 f h3 g) ?_;let c:Inv X pins σ H { s with heap:=s.heap.push { cls:=.type "range",data:=.fields #[.int lo t,.int a u,.int (-1) v,] },toks:=d }:=I.kept λb o e=>BN _ e;refine#[(s.heap.push { cls:=.type "range",data:=.fields #[.int lo t,.int a u,.int (-1) v,] }).e,[(s.heap.push { cls:=.type "range",data:=.fields #[.int lo t,.int a u,.int (-1) v,] }).e],_,_,H,rfl,
  c.kept λb o e=>BN _ e,x8 _ lo (lo-a).toNat,?_,λb h=>?_,q]
 let e1:lo+((0:Nat):Int)*(-1)=lo:=by simp
 let e2:(((lo-a).toNat:Nat):Int)-((0:Nat):Int)=Builtin.Range.rangeSize lo a (-1):=by rw[rangeSize_downNat];lia
 rw[e1,e2];exact EL _ rfl;let e:b=(s.heap.push { cls:=.type "range",data:=.fields #[.int lo t,.int a u,.int (-1) v,] }).e:= ~~~h
 subst e;exact c.nJ (Xx _)<|c.bu.fresh<|Xx _
def IL(b:TA):TI:=λσ H R=>b σ H λvs a=>∃i j:Int,vs=[.int i,.int j,.int<|-1]/\(-(2 ^ 62)<=i/\i<2 ^ 62/\-(2 ^ 62)<=j/\j<2 ^ 62)/\R (TK i (i-j).toNat) a
theorem tV{l:TA}{p pos:Pos}(n:Gl X "range")(x:X.mg "range"=none)(u:PA X [a,b,c] l)(y:E! EM X [a,b,c])(k:E! EM X [b,c]) :
  PI X tg (.Call (.Name "range" p) [a,b,c] [] pos) (IL l):=by
 ext pins s σ H R I h;refine Call_ (bY I n x boot_range<|HH (b9 (u pos pins s σ H _ I h) λus C ⟨vs,D,w,m,f⟩=>?_) (by rw[y,k];rfl)<|by rw[k];rfl);let#[i,j,e,#[f,v,o,B],q]:=f;subst e;cases m with
 | cons r d=>
  cases d with
  | cons A d=>
   cases d with
   | cons g d=>
    cases d;let#[t,rfl]:=r;let#[t',rfl]:=A;let#[z,rfl]:=g;exact call_range_3 A? (zaH w f v o B q)<|Or.inl<|PyProof.noPylong_small ()
end
end L2
namespace PySem
namespace F
theorem zaM:typeLookup (.type "range_iterator") "__len__"=pure none:=by rw[K8,Km];kernel_rfl
theorem zfd:typeLookup (.type "range_iterator") "__length_hint__"=pure (some<|.builtin "range_iterator.__length_hint__"):=by rw[K8,Km];kernel_rfl
theorem oC:isSubtype (.type "range_iterator") (.type "reversed")=pure false:=by rw[isSubtype_type];kernel_rfl
end F
theorem i6(r:Addr)(a b c:Int)(t u v:Tok)(e:¬(!(Builtin.Range.rangeFitsLong a&&Builtin.Range.rangeFitsLong b&&Builtin.Range.rangeFitsLong c&&Builtin.Range.rangeFitsLong (-c)&&Builtin.Range.rangeFitsLong (a-c)&&Builtin.Range.rangeFitsLong (Builtin.Range.rangeSize a b c)))=true) :
  Meets (Builtin.«range.__reversed__» #[[.ref r],[]]) (λ_ R s=>s.heap.get? r=some { cls:=.type "range",dict:=none,data:=.fields #[.int a t,.int b u,.int c v,],slots:=#[] }/\R (.ok<|.ret<|Value.ref s.c) { s with heap:=s.heap.push { cls:=Value.type (if(Builtin.Range.rangeFitsLong a&&Builtin.Range.rangeFitsLong b&&Builtin.Range.rangeFitsLong c&&Builtin.Range.rangeFitsLong (-c)&&Builtin.Range.rangeFitsLong (a-c)&&Builtin.Range.rangeFitsLong (Builtin.Range.rangeSize a b c))=true then "range_iterator" else "longrange_iterator"),data:=Data.fields #[rawInt<|a+(Builtin.Range.rangeSize a b c-1)*c,rawInt<|Builtin.Range.rangeSize a b c,rawInt<|-c,] },toks:=s.toks }):=
 .of_wp λprog w A R s h=>by let#[f,g,d,j,k]:=s;let#[i,h]:=h;wp_walk;exact#[_,rfl,h]
theorem fX(h1 : -(2 ^ 62)<=i)(a:i<2 ^ 62):Builtin.Range.rangeFitsLong i=true:=by simp[Builtin.Range.rangeFitsLong,KZ,Jk];lia
theorem jX{n:Nat}(b:IsRange s.heap r 0 (n:Int) 1 t u v)(c:n<=1000)(h:Q (.ref s.c) { s with heap:=s.heap.push { cls:=.type "range_iterator",data:=.fields #[rawInt<|(n:Int)-1,rawInt (n:Int),rawInt<|-1,] } }):wpAny (model prog w) A (call (.builtin "range.__reversed__") [.ref r]) Q E s:=by
 let a:Builtin.Range.rangeSize 0 (n:Int) 1=(n:Int):=by rw[rangeSize_one];split<;>lia
 let sm:(Builtin.Range.rangeFitsLong 0&&Builtin.Range.rangeFitsLong (n:Int)&&Builtin.Range.rangeFitsLong 1&&Builtin.Range.rangeFitsLong (-1)&&Builtin.Range.rangeFitsLong (0-1)&&Builtin.Range.rangeFitsLong (Builtin.Range.rangeSize 0 (n:Int) 1))=true:=by rw[a,fX () (),fX () (),fX () (),fX () (),fX () ()];rfl
 refine HK F.slot_range_reversed #[_,b,rfl] F.entry_range_reversed (F.args_range_reversed_1 _) (i6 r 0 (n:Int) 1 t u v<|by rw[sm];decide) #[b,?_];erw[Al sm,a,show(0:Int)+((n:Int)-1)*1=(n:Int)-1 by lia,h]
theorem jV{n:Nat}(a:IsRange s.heap r 0 (n:Int) 1 t u v)(b:n<=1000)(h:Q₁ (.ref s.c) { s with heap:=s.heap.push { cls:=.type "range_iterator",data:=.fields #[rawInt<|(n:Int)-1,rawInt (n:Int),rawInt<|-1,] } }) :
  codeAny (model prog w) A (.call (.builtin "reversed.__new__") #[[.type "reversed",.ref r],[]]) (wants Q₁ E) s:=by
 refine codeAny_of_tree ?_;show wpAny _ A.in1 (do checkBuiltinCall "reversed.__new__" #[[.type "reversed",.ref r],[]];again (.builtin "reversed.__new__" #[[.type "reversed",.ref r],[]])) _ _ s;refine UA<|IY (F.newCall_reversed_1 _)<|A8 #[GB F.plain_reversed_new _,Im F.entry_reversed_new ?_];rw[Io F.plain_reversed_new _];unfold Builtin.«reversed.__new__»;refine UA<|IY (newClass_reversed _) ?_;try dsimp only
 refine UA<|IY (by first|rfl|kernel_rfl) ?_;refine UA<|IY (by first|rfl|kernel_rfl) ?_;try dsimp only
 refine UA<|KP #[_,a,rfl] F.slot_range_reversed.lookup ?_;try dsimp only
 refine UA<|IY (F.slot_range_reversed.bind _) ?_;try dsimp only
 first
 | rw[Ak<|show ¬((Value.builtin "range.__reversed__"==Value.none)=true)from Bj]
 | (show wpAny _ _ (if(Value.builtin "range.__reversed__"==Value.none)=true then _ else _) _ _ _;rw[Ak<|show ¬((Value.builtin "range.__reversed__"==Value.none)=true)from Bj])
 refine UA<|wpAny_rule<|UA<|show wpAny _ _ (call (.builtin "range.__reversed__") [.ref r]) _ _ _ from jX a b ?_;first
 | exact A8 h
 | exact UA<|A8<|A8 h
theorem jW{n:Nat}(b:IsRange s.heap r 0 (n:Int) 1 t u v)(c:n<=1000)(h:Q (.ref s.c) { s with heap:=s.heap.push { cls:=.type "range_iterator",data:=.fields #[rawInt<|(n:Int)-1,rawInt (n:Int),rawInt<|-1,] } }):wpAny (model prog w) A (call (.type "reversed") [.ref r]) Q E s:=by refine callType_other (Q₁:=λobj a=>obj=.ref s.c/\a={ s with heap:=s.heap.push { cls:=.type "range_iterator",data:=.fields #[rawInt<|(n:Int)-1,rawInt (n:Int),rawInt<|-1,] } }) B! F.create_reversed #[_,_,F.mro_reversed] F.made_reversed F.oC (F.typeCall_reversed_1 _) (jV b c #[rfl,rfl]) ?_;ext obj a ⟨rfl,rfl⟩;exact#[#[_,EL _ rfl,rfl],h]
theorem sI(it:Addr)(x left step:Int) :
  Meets (Builtin.«range_iterator.__length_hint__» #[[.ref it],[]]) (λ_ R s=>s.heap.get? it=some { cls:=.type "range_iterator",dict:=none,data:=.fields #[rawInt x,rawInt left,rawInt step,],slots:=#[] }/\R (.ok<|.ret<|Value.int left s.toks) { s with toks:=s.toks+1 }):=
 .of_wp λprog w A R s h=>by let#[a,g,d,e,b]:=s;let#[c,h]:=h;wp_walk;exact#[_,rfl,h]
theorem zdf{x step:Int}{n:Nat}(hz:IsRangeIter s.heap z x (n:Int) step)(i:n<=sizeLine)(h:Q false { s with toks:=s.toks+1 }):wpAny (model prog w) A (Builtin.List.listLengthHint<|.ref z) Q E s:=by
 let e:s.TypeIs (.ref z) "range_iterator":=#[_,hz,rfl];unfold Builtin.List.listLengthHint;refine UA<|KP e F.zaM ?_;show wpAny _ A (specialOf (Value.ref z) (Str.ofString "__length_hint__") >>= _) _ _ _;refine UA<|KP e F.zfd ?_;generalize d:("range_iterator.__length_hint__" : String)=f
 wp_delta
 rw[show splitId f=some ("range_iterator", "__length_hint__")from by subst d;decide +kernel];subst d;refine UA<|wpAny_isInstance (b:=true) e (by rw[isSubtype_type];kernel_rfl) ?_;refine wpAny_ite_split (λc=>absurd c A?)<|λ_=>?_;refine wpAny_ite_split (λ_=>wpAny_ite_split (λ_=>?_)<|λc=>absurd B! c)<|λc=>absurd B! c;refine UA<|HK F.slot_range_iterator_length_hint e F.entry_range_iterator_length_hint (F.args_range_iterator_length_hint_1 _) (sI z x (n:Int) step) #[hz,?_];show wpAny _ A (do
     let g <-asInt? (Value.int (n:Int) s.toks)
     _) Q E _
 refine UA<|IY (a:=some (n:Int)) rfl ?_;dsimp only;erw[Ak (by unfold Builtin.List.listTooLong;rw[EC];simpa using i),A8 h]
theorem xB{x step:Int}{n:Nat}(B:A.handled=none)(hz:IsRangeIter s.heap z x (n:Int) step)(y:n<=sizeLine)(C:∀h' J d c,(∀b o,b≠z->s.heap.get? b=some o->h'.get? b=some o)->h'.get? s.c=some { cls:=.type "list",dict:=none,data:=.seq d c,slots:=#[] }->ItemsOf (λi v=>∃t,v=.int (x+i*step) t) d n->
   Q (.ref s.c) { s with heap:=h',toks:=J }):wpAny (model prog w) A (call (.type "list") [.ref z]) Q E s:=by
 let p:z<s.c:=AL hz;refine NB λf m q a=>?_;let h:IsRangeIter f z x (n:Int) step:=q _ _ hz;unfold Builtin.List.listExtendWith;refine UA<|Kr (T:= "range_iterator") (show Shared.TypeIs { s with heap:=f } (.ref z) "range_iterator" from#[_,h,rfl]) ?_;let D:Builtin.List.listSameRef (.ref s.c) (.ref z)=false:=by simp[Builtin.List.listSameRef,F5 p]
 let I:(Value.type "range_iterator"==Value.type "list")=false:=by decide
 let H:(Value.type "range_iterator"==Value.type "tuple")=false:=by decide
 simp only[D,I,H,Bool.or_false,Fv,F8];refine UA<|N7 (s:={ s with heap:=f }) h<|UA<|Fi<|zdf (s:={ s with heap:=f }) h y ?_;rw[Ak A?];let j:s.c∉[z]:=λg=>absurd p (by erw[<-Ax.mp g,EK _]);refine A8 #[GB Mg _,codeAny_extend_loopS (Walks.range (A:=A.in1.in1) B z x step n).toS y _ j _ n 0 _ _ _ rfl (Bv _) (by show IsRangeIter _ _ (x+((0:Nat):Int)*step) ((n:Int)-((0:Nat):Int)) step;simpa using h) a (ItemsOf.nil _) λu l K g L G=>?_];rw[Moved.eq_with g];refine#[rfl,C u.heap u.toks l K (λb r F e=>g.heap b r (λk=>?_)<|q b r e) L G];ext(M | k:BX.mp k);exact absurd (AL e) (M>>EK _);exact F<|Ax.mp k
end PySem
namespace Gm
open PySem L2
end Gm
namespace L2
open PySem PySem.Spec PySem.W PySem.Calls PyProof.Rows Gm
theorem To:bootBuiltins "all"=some (.builtin "all"):=by decide +kernel
end L2
namespace L2
open PySem PySem.Spec PySem.W PySem.Calls PyProof.Rows Gm
theorem zeW(c:(dk==sysModules)=false)(ho:t0.heap.get? dk=some o)(d:o.ExactDict)(b:o.data=.dict ents ep)(q:Q (.ref t0.c) { t0 with heap:=t0.heap.push { cls:=.type "dict_keyiterator",data:=.fields #[.ref dk,.int 0 0,.int ents.size 0,.int ep 0,] } }) :
  wpAny (model prog w) ar (pyIter<|.ref dk) Q E t0:=by
 let a:t0.TypeIs (.ref dk) "dict":=#[o,ho,d.1];refine wpAny_pyIter_slot a F.slot_dict_iter<|KY F.slot_dict_iter a F.entry_dict_iter ?_<|F.args_dict_iter_1 _;unfold Builtin.«dict.__iter__» Builtin.Dict.dictSlotNone;refine UA<|UA<|wpAny_notOrdered_dict a<|show wpAny _ _ (pure<|Value.ref dk) _ _ t0 from A8 ?_;show wpAny _ _ (Builtin.Dict.showsAll dk >>= _) _ _ t0;unfold Builtin.Dict.showsAll;rw[Ak<|c>>Bj];refine UA<|A8<|UA<|wpAny_dictEntries ho b<|UA<|wpAny_dictEpoch ho b<|UA<|K5<|A8 #[_,rfl, "dict_keyiterator",_,#[_,EL _ rfl,rfl],F.slot_dict_keyiterator_next.lookup,?_];simpa[rawInt]using q
theorem zem(i:Nat)(a:t0.heap.IsKeyIter ik dk i ents.size ep)(ho:t0.heap.get? dk=some o)(c:o.data=.dict ents ep)(d:i<ents.size)(q:∀h',h'.IsKeyIter ik dk (i+1) ents.size ep->Heap.SameBut ik t0.heap h'->Q (some ents[i].key) { t0 with heap:=h' }):wpAny (model prog w) ar (pyNext<|.ref ik) Q E t0:=by
 let#[f,b,e,di]:=id a;unfold pyNext;refine UA<|wpAny_attempt<|Mb a.typeIs MR<|KY MR a.typeIs F.entry_dict_keyiterator_next (UA<|A8<|UA<|UA ?_)<|F.args_dict_keyiterator_next_1 _;first|refine UA (Mf a.typeIs<|A8<|UA<|wpAny_fieldsOf b di ?_) | refine UA<|Md a.typeIs<|A8<|UA<|wpAny_fieldsOf b di ?_
 simp only[show Builtin.Dict_items.ownsTuple "dict_keyiterator"=false by decide,Fv,F8];show wpAny _ _ (if(Value.ref dk==Value.none)=true then _ else _) _ _ t0;rw[Ak<|show ¬((Value.ref dk==Value.none)=true)from Bj];refine UA<|A8<|UA<|wpAny_dictEntries ho c ?_;rw[Ak A!];refine UA<|A8<|UA<|wpAny_dictEpoch ho c ?_;rw[Ak A!];refine A8 ?_;simp[show ¬((i:Int)<0)from (),F8,EC,N3 d];refine UA ?_;first|refine UA (Mf a.typeIs<|A8<|UA<|N4 a.typeIs ?_) | refine UA<|Md a.typeIs<|A8<|UA<|N4 a.typeIs ?_
 show wpAny _ _ (setField (.ref ik) 1 (rawInt<|(i:Int)+1) >>= _) _ _ t0;refine UA<|wpAny_setField b di A! ?_;let nx:(t0.heap.update ik<|Obj.mapFields (·.setIfInBounds 1 (rawInt<|(i:Int)+1))).IsKeyIter ik dk (i+1) ents.size ep:=
  #[_,IA _ b<|Obj.isFreed_of_fields<|Obj.data_mapFields di _,(Obj.cls_mapFields ..).trans e,by rw[Obj.data_mapFields di];simp[rawInt]]
 exact UA<|Fi<|UA<|N4 nx.typeIs<|A8<|A8 #[_,rfl,A8<|q _ nx<|Heap.SameBut.update ..]
theorem zcp(i:Nat)(f:ar.handled=none)(c:t0.heap.IsKeyIter ik dk i ents.size ep)(ho:t0.heap.get? dk=some o)(e:o.data=.dict ents ep)(g:ents.size<=i)(q:∀h',Heap.ExtBut ik t0.heap h'->Q none { t0 with heap:=h' }):wpAny (model prog w) ar (pyNext<|.ref ik) Q E t0:=by
 let#[h,d,j,di]:=id c;unfold pyNext;refine UA<|wpAny_attempt<|Mb (name:=Str.ofString "__next__") (c).typeIs MR<|KY MR (c).typeIs F.entry_dict_keyiterator_next (UA<|A8<|UA<|UA ?_)<|F.args_dict_keyiterator_next_1 _;first|refine UA (Mf (c).typeIs<|A8<|UA<|wpAny_fieldsOf d di ?_) | refine UA<|Md (c).typeIs<|A8<|UA<|wpAny_fieldsOf d di ?_
 simp only[show Builtin.Dict_items.ownsTuple "dict_keyiterator"=false by decide,Fv,F8];show wpAny _ _ (if(Value.ref dk==Value.none)=true then _ else _) _ _ t0;rw[Ak<|show ¬((Value.ref dk==Value.none)=true)from Bj];refine UA<|A8<|UA<|wpAny_dictEntries ho e ?_;rw[Ak A!];refine UA<|A8<|UA<|wpAny_dictEpoch ho e ?_;rw[Ak A!];refine A8 ?_;simp only[show ¬((i:Int)<0)from (),F8,EC,Array.getElem?_eq_none g];refine UA ?_;first|refine UA (Mf (c).typeIs<|A8 ?_) | refine UA<|Md (c).typeIs<|A8 ?_
 show wpAny _ _ (setField (.ref ik) 0 .none >>= _) _ _ t0;refine UA<|wpAny_setField d di A!<|show wpAny _ _ (newExc (.type "StopIteration") [] >>= _) _ _ _ from UA ?_;simp only[newExc,newTuple];refine UA (K5 (UA (m:=firstArgMember _ _)<|IY (a:=Value.none) (by first|rfl | (simp only[firstArgMember];rfl))<|K5 ?_<|by size_fits)<|by size_fits);simp only[raiseNew];refine UA<|wpAny_handled ?_;rw[show ar.in1.handled=none from f];refine UA<|A8<|wpAny_throw ?_;refine UA<|wpAny_isInstance (b:=true) (T:= "StopIteration") #[_,EL _ rfl,rfl] isSubtype_stop ?_;exact A8<|q _<|((Heap.SameBut.update ..).extBut.push _).push _
def UC(d:Addr)(o:Obj)(kvs:List<|List Key×V):It:=
 #[λi H=>H d=some (.jA o<|.dT kvs)/\i<kvs.z,λi H x a=>a=H/\∃k v b,kvs[i]?=some (k,v)/\H b=some (.tup<|k.map kV)/\x=.ref b,λi H=>H d=some (.jA o<|.dT kvs)/\kvs.z<=i]
theorem zed{P:Program}{w:World}{K:Frag}{tg:Expr}{d it:Addr}{o:Obj}{kvs:List<|List Key×V}{n:Array DictEntry}{Q:Nat}(D:o.data=.dict n Q)(hn:n.size=kvs.z) :
  Turn P w K tg (UC d o kvs) [it] it (λi h=>h.IsKeyIter it d i n.size Q) where
 mem:=by simp
 obj:=λi h st b a=>by
  let e:b=it:= ~~~a
  subst e;let#[o,e,c,d]:=st;exact#[o,e,λv z=>by rw[d]at z;cases z]
 keep:=λi h h' st k=>let ⟨o,e,r⟩:=st;#[o,k it A! o e,r]
 item:=by
  ext X G N F S i pins s σ H E I g st t;subst G N F;let#[A,hi]:=t;let#[e1,O]:=(show aY X.prog X.w H s.heap d (.jA o<|.dT kvs)from I.bu d _ A);let#[z,y,xs,r,o2,ab,Y,U,h2,T,h4,h5]:=(show aY X.prog X.w H s.heap d (.dT kvs)from O);rw[e1]at U;cases U;rw[D]at T;cases T;let#[B,C,f2,M,J,L]:=g it A!;refine zem i st e1 D () λh' R sb=>?_;let#[o',e',c',d']:=id R;let xl:=r.z;let f:xs[i]?=some (xs[i]'()):=me _;let key:∀{l:List<|List Key×V} {m:List<|List Key×Addr×Value} (_:Paired (λ(p:List Key×V) (q:List Key×Addr×Value)=>p.1=q.1/\H q.2.1=some (.tup<|p.1.map kV)/\RelV p.2 q.2.2) l m) (j:Nat) (x:List Key×Addr×Value),m[j]?=some x->∃v,l[j]?=some (x.1,v)/\H x.2.1=some (.tup<|x.1.map kV):=by
   ext l m pr;induction pr with
   | nil=>intro j x e;simp at e
   | @cons p q ps qs hq _ Z=>
    ext j x e;cases j with
    | zero=>
     let e:q=x:= ~~~e
     subst e;let#[p1,p2]:=p;let#[u,a2,_]:=hq;let u:=u;subst u;exact#[p2,rfl,a2]
    | succ j=>simpa using Z j x (~~~e)
  let#[v,hv,a]:=key r i _ f;let ek:n[i]'()=entryOfKey (tupleKind<|a7 X.prog X.w) (xs[i]'()):=by let:=entry_at h4 i;rw[f,N3 ()]at this;exact BV this
  erw[ek,#[_,rfl,ui e' c' d' A? #[.ref (xs[i]'()).2.1,H,I.turned (λb o a e=>(sb.2 b a).trans e) B C M J L,rfl,#[rfl,_,v,_,hv,a,rfl],R,λb a=>(g b a).1]]]
 done:=by ext X G N F S i pins s σ H E I g st t;subst G N F;let#[A,hi]:=t;let#[e1,O]:=(show aY X.prog X.w H s.heap d (.jA o<|.dT kvs)from I.bu d _ A);let#[B,C,f2,M,J,L]:=g it A!;exact zcp i (I.ok.hd S) st e1 D () λh' W=>#[rfl,I.turned (λb o a e=>W b o a e) B C M J L]
 self:=λ_ _ _ _ _ st h=>wpAny_pyIter_keyiter st h
def wH(c:TE):TI:=λσ H R=>c σ H λx b=>∃a kvs,x=.ref a/\b a=some (.dT kvs)/\∀o,R (UC a o kvs)<|upd b a<|.jA o<|.dT kvs
theorem zaD(M:PE X l tl):PI X tg l<|wH tl:=by
 ext pins s σ H R I h;refine b9 (M pins s σ H _ I h) λv d ⟨x,n,i,F,G⟩=>?_;let#[a,kvs,e,m,q]:=G;subst e;cases F;let#[z,y,xs,r,o,t,C,g,A,k,B,E]:=(show aY X.prog X.w n d.heap a (.dT kvs)from i.bu a _ m);let K:t.size=kvs.z:=size_of_entries B>>r.length.symm
 refine zeW y g A k ?_;generalize D:d.heap.push { cls:=Value.type "dict_keyiterator",data:=Data.fields #[Value.ref a,Value.int 0 0,Value.int t.size 0,Value.int C 0,] }=h';let j:∀c o,d.heap.get? c=some o->h'.get? c=some o:=λc o e=>D▸BN _ e;let N:∀b ys,n b=some (.tup ys)->b≠a:=λb ys e z=>by rw[z,m]at e;cases e
 let L:Inv X pins σ (upd n a<|.jA o<|.dT kvs) { d with heap:=h',toks:=d.toks }:=
  Inv.write (e:=a) (t':=d.toks) i (by rw[m];trivial) (.inl rfl) (λb u _ e=>j b u e) #[o,j _ _ g]
   #[j _ _ g,z,y,xs,Paired.Il r λp q w=>#[w.1,by erw[aB<|N _ _ w.2.1,w.2.1],w.2.2],o,t,C,j _ _ g,A,k,B,E]
 refine#[d.c,[d.c],_,_,_,rfl,L,zed k K,#[_,D▸EL _ rfl,rfl,rfl],λb J=>?_,q o];let e:b=d.c:= ~~~J
 subst e;let f:=i.nJ (Xx _)<|i.bu.fresh<|Xx _;exact#[(aB λz=>EK _<|z▸AL g).trans f.1,f.2]
theorem zcw(h:tl σ H λx b=>∃a kvs,x=.ref a/\b a=some (.dT kvs)/\∀o,R (UC a o kvs)<|upd b a<|.jA o<|.dT kvs):wH tl σ H R:=h
theorem Inv.Yh{σ:St}{s:Shared}{o:Obj}{u:HO}(I:Inv X pins σ H s)(a:H d=some (.jA o u))(F:∀xs,u≠.tup xs)(G:∀x,u≠.own x)(t:∀B u',X.H₀ d≠some (.jA B u')):Inv X pins σ (upd H d u) s:=by
 let f:∀{b:Addr},H b=none->b≠d:=λ{b} e z=>by rw[z,a]at e;cases e
 let D:jS X.prog X.w (upd H d u) s.heap:=λb v e=>by
  let i:∀c xs,H c=some (.tup xs)->upd H d u c=some (.tup xs):=λc xs q=>aB (show c≠d from λz=>by rw[z,a]at q;cases q)>>q
  let j:∀c x,H c=some (.own x)->upd H d u c=some (.own x):=λc x q=>aB (show c≠d from λz=>by rw[z,a]at q;cases q)>>q
  ext(z:b=d);subst z;rw[aA]at e;cases e;let#[_,q]:=(show aY X.prog X.w H s.heap b (.jA o u)from I.bu b _ a);exact q.iW (λc v _ r=>r) (λc q=>j c _ q) i;rw[aB z]at e;exact(I.bu b v e).iW (λc v _ r=>r) (λc q=>j c _ q) i
 let y:Un X.fs X.ex X.H₀ (upd H d u) X.s₀.heap s.heap:=by refine#[I.base.keep,I.base.slot,λb g e n E=>?_,I.base.there,λb xs e=>?_,λb g v e=>?_,λb l e=>?_];let:=I.base.free b g e n E;rw[aB<|f this];exact this;let:=I.base.uU b xs e;rw[aB<|show b≠d from λz=>by rw[z,a]at this;cases this];exact this;let:=I.base.sN b g v e;rw[aB<|show b≠d from λz=>t g v<|by erw[<-z,e]];exact this;let#[m,this]:=I.base.uW b l e;exact#[m,aB (show b≠d from λz=>by rw[z,a]at this;cases this)>>this]
 exact#[I.ok,I.os,I.bare,y,I.loc,I.cell,by erw[aB<|f I.free,I.free],λx c e=>by erw[aB<|f<|I.iU x c e,I.iU x c e],λp k=>by let#[A,h,C]:=I.pin p k;exact#[A,by erw[aB<|f h,h],C],D,I.len]
def Cg(c:Hp)(t:TS):TS:=λD σ H=>t { D with nx:=λa b=>∃(d:Addr) (o:Obj) (kvs:List<|List Key×V),b d=some (.jA o<|.dT kvs)/\(∀e u',c d≠some (.jA e u'))/\D.nx a (upd b d<|.dT kvs) } σ H
theorem zdK{st:Stmt}{t:TS}(h:PS X st t):PS X st<|Cg X.H₀ t:=by
 ext pins s σ H D I q;refine b9 (h pins s σ H _ I q) λf j r=>?_;cases f with
 | next=>
  let#[a,i,e,d,o,kvs,g,c,b]:=r;exact#[a,_,e.Yh g (λxs z=>nomatch z) (λx z=>nomatch z) c,b]
 | brk=>exact r
 | cont=>exact r
 | ret u=>exact r
theorem Q9(h:t { D with nx:=λa b=>∃(d:Addr) (o:Obj) (kvs:List<|List Key×V),b d=some (.jA o<|.dT kvs)/\(∀c u',H0 d≠some (.jA c u'))/\D.nx a (upd b d<|.dT kvs) } σ H):Cg H0 t D σ H:=h
section
variable {X:Cx} {l a b:Expr} {tl:TE} {ta:TA} {p p2 p3 pos cQ HB:Pos}
def tp(ta:TA):TE:=λσ H Q=>ta σ H λvs c=>∃(lo:Int) (n:Nat),vs=[.int lo,.int<|lo+n]/\n<=1000/\-1000<=lo/\lo<=1000/\∀p,c p=none->Q (.ref p) (upd c p<|.lst<|((List.range n).map λi:Nat=>lo+(i:Int)).f)
theorem sJ(A:X.calm=true)(y:X.mg "range"=none)(C:X.mg "list"=none)(m:PA X [a,b] ta)(k:E! Gl X "range")(u:E! Gl X "list")(z:E! EM X [a,b])(f:E! EM X [b])(w:E! (BU X (.Call (.Name "range" p) [a,b] [] pos) [])) :
  PE X (.Call (.Name "list" p2) [.Call (.Name "range" p) [a,b] [] pos] [] cQ) (tp ta):=by
 ext pins s σ H Q I h;refine ID I u C gg A? A? w ?_;refine Call_ (bY I k y boot_range<|HH (b9 (m pos pins s σ H _ I h) λus E ⟨vs,F,x,g,i⟩=>?_) (by rw[z,f];rfl)<|by rw[f];rfl);let#[lo,n,rfl,D,v,j,q]:=i;cases g with
 | cons r d=>
  cases d with
  | cons B d=>
   cases d;let#[t,rfl]:=r;let#[t',rfl]:=B;exact call_range_2<|NA A (x.kept λc o e=>BN _ e) (IsRange.new ..) D v j q
noncomputable def down(n:Nat):cc:=(List.range n).map λi:Nat=>(n:Int)-1-(i:Int)
def tq(tl:TE):TE:=λσ H Q=>tl σ H λx c=>∃n:Nat,x=.int (n:Int)/\n<=1000/\∀p,c p=none->Q (.ref p) (upd c p<|.lst<|(down n).f)
theorem zq8{Q:VK}{z:Addr}{n:Nat}(k:X.calm=true)(I:Inv X pins σ H s)(hz:IsRangeIter s.heap z ((n:Int)-1) (n:Int)<|-1)(fz:mJ X pins H z)(r:n<=1000)(q:∀p,H p=none->Q (.ref p) (upd H p<|.lst<|(down n).f)):wpAny (model X.prog X.w) X.A (call (.type "list") [.ref z]) (EP X pins σ Q) X.xe s:=
 xB (I.ok.hd k) hz (by rw[FN];lia) λm j d c i h g=>
  #[.ref s.c,_,I.gQ (t':=j) (ch:=[z]) (o:=.lst _) (λb u f e=>i b u (~~~f) e) (λb f=>Ax.mp f>>fz) (Xx _) #[by simp[down,FN];lia,d.toList,c,by simpa only [down,Int.mul_neg,Int.mul_one,<-Int.sub_eq_add_neg]using sX g,h],rfl,q _<|I.bu.fresh<|Xx _]
theorem yU(z:X.calm=true)(u:X.mg "range"=none)(g:X.mg "reversed"=none)(C:X.mg "list"=none)(A:PE X l tl)(w:E! Gl X "range")(d:E! Gl X "reversed")(B:E! Gl X "list")(y:E! BU X l [])(k:E! (BU X (.Call (.Name "range" p) [l] [] pos) []))(m:E! (BU X (.Call (.Name "reversed" p3) [.Call (.Name "range" p) [l] [] pos] [] HB) [])) :
  PE X (.Call (.Name "list" p2) [.Call (.Name "reversed" p3) [.Call (.Name "range" p) [l] [] pos] [] HB] [] cQ) (tq tl):=by
 ext pins s σ H Q I h;refine ID I B C gg A? A? m<|ID I d g boot_reversed A? A? k<|ID I w u boot_range A? A? y<|b9 (A pins s σ H _ I h) λD i ⟨x,E,f,r,v⟩=>?_;let#[n,rfl,j,q]:=v;let#[t,rfl]:=r;let le:∀{o:Obj},i.c<=(i.heap.push o).e:=by simp[Heap.size_push]
 exact call_range_1<|jW (IsRange.new ..) j<|zq8 z (f.kept λc o e=>BN _<|BN _ e) (EL _ rfl) (f.nJ le<|f.bu.fresh le) j q
noncomputable def OQ(K:Frag):List V->Hp->VK->Prop:=λvs H Q=>∃(a:Addr) (c:cc),vs=[.ref a]/\bH K H a c.f/\c≠[]/\∀m,m∈c->(∀x∈c,x<=m)->Q (.int m) H
theorem zbx(B:X.calm=true):dC X (.builtin "max")<|OQ X.K:=by
 ext pins s σ H xs us Q I r h;let#[a,A,rfl,w,k,q]:=h;let#[u,rfl,i]:=vals1 r;cases i;let#[D,rv,pl,hz]:=I.list w;let d:=intsAre_of rv;let#[xs,e]:=d.allInts.items;let c:A=xs.toList.map (·.1):=by rw[<-d.numsOf,<-nums_intItems,<-e]
 let f:=pl.isList;rw[e]at f;let n:0<xs.size:=by let:=Lu.mpr k;rwa[c,ZO,Fs]at this
 refine max_intList (I.ok.hd B) f n λv h' E o m=>?_;let#[t,rfl]:=intItems_at o;let#[C,z]:=argBest_gt (numAt xs)<|xs.size-1;refine#[.int _,H,I.kept m,#[t,rfl],q _ ?_ λx g=>?_];rw[c,numAt_eq];exact getD_mem (by rw[ZO,Fs];lia);rw[c]at g;let#[j,y,rfl]:=mem_getD g;rw[ZO,Fs]at y;erw[<-numAt_eq,z j ()]
end
theorem zaA{R:Hp->Prop}{f d:Addr}{o:Obj}{kvs:List<|List Key×V}{g:TG}{u:TT}{z:TE}(h:Nat->St->List V->Hp->Prop)(A:h 0 σ [] H)(E:∀i σ ys H,i<=kvs.z->h i σ ys H->H d=some (.jA o<|.dT kvs))(G:∀i k v b σ ys H,kvs[i]?=some (k,v)->H b=some (.tup<|k.map kV)->i<kvs.z->h i σ ys H->g (.ref b) σ H λa s=>u a s λC r=>if C=true then z a r λy j=>j f=some (.lst ys)/\ys.z<sizeLine/\∃c,c<kvs.z-i/\(c=kvs.z-(i+1)/\i+1<=kvs.z/\h (i+1) a (ys++[y]) (upd j f<|.lst<|ys++[y]))else ∃c,c<kvs.z-i/\(c=kvs.z-(i+1)/\i+1<=kvs.z/\h (i+1) a ys r))(I:∀σ ys H,h kvs.z σ ys H->R H) :
  ∃W:Nat->Nat->St->List V->Hp->Prop,(∃m,W 0 m σ [] H)/\∀i m l ys n,W i m l ys n->(((UC d o kvs).stop i n/\R n)\/((UC d o kvs).go i n/\∀x t,(UC d o kvs).T7 i n x t->g x l t λa s=>u a s λb r=>
   if b=true then z a r λy j=>j f=some (.lst ys)/\ys.z<sizeLine/\∃c,c<m/\W (i+1) c a (ys++[y]) (upd j f<|.lst<|ys++[y])else ∃c,c<m/\W (i+1) c a ys r)):=by
 refine#[λi m σ ys H=>m=kvs.z-i/\i<=kvs.z/\h i σ ys H,#[kvs.z,by simp,Bv _,A],?_];ext i m σ ys H ⟨rfl,F,p⟩;let q:=E i σ ys H F p;ext(w:i<kvs.z);refine .inr #[#[q,w],λx J y=>?_];let#[e,k,v,b,D,B,rfl]:=y;subst e;exact G i k v b σ ys _ D B w p;let e:i=kvs.z:=();subst e;exact .inl #[#[q,Xx _],I σ ys H p]
end L2
namespace Dt
noncomputable def sm:Nat->(Nat->Int)->Int
 | 0,_=>0
 | n+1,f=>sm n f+f n
theorem aV{f g:Nat->Int}:∀{n:Nat},(∀i,i<n->f i=g i)->sm n f=sm n g
 | 0,_=>rfl
 | n+1,h=>by show sm n f+f n=sm n g+g n;rw[aV λi a=>h i<|Gg a,h n<|G7 n]
theorem vf{f:Nat->Int}:∀{n:Nat},(∀i,i<n->f i=0)->sm n f=0
 | 0,_=>rfl
 | n+1,h=>by show sm n f+f n=0;rw[vf λi a=>h i<|Gg a,h n<|G7 n];rfl
theorem AH{f g:Nat->Int}(a b:Int):∀(n:Nat),sm n (λi=>a*f i+b*g i)=a*sm n f+b*sm n g
 | 0=>by simp[sm]
 | n+1=>by show sm n (λi=>a*f i+b*g i)+(a*f n+b*g n)=a*(sm n f+f n)+b*(sm n g+g n);rw[AH a b n];grind
theorem GY{f:Nat->Int}(a:Int):∀(n:Nat),sm n (λi=>a*f i)=a*sm n f
 | 0=>by simp[sm]
 | n+1=>by show sm n (λi=>a*f i)+a*f n=a*(sm n f+f n);rw[GY a n];grind
theorem AI{f g:Nat->Int}:∀(n:Nat),sm n (λi=>f i+g i)=sm n f+sm n g
 | 0=>by simp[sm]
 | n+1=>by show sm n (λi=>f i+g i)+(f n+g n)=(sm n f+f n)+(sm n g+g n);rw[AI n];lia
theorem GX{f g:Nat->Int}:∀(n:Nat),sm n (λi=>f i-g i)=sm n f-sm n g
 | 0=>by simp[sm]
 | n+1=>by show sm n (λi=>f i-g i)+(f n-g n)=(sm n f+f n)-(sm n g+g n);rw[GX n];lia
theorem ki{f:Nat->Int}{k:Nat}:∀{n:Nat},k<n->(∀i,i<n->i≠k->f i=0)->sm n f=f k
 | n+1,hk,h=>by show sm n f+f n=f k;ext(e:k=n);subst e;rw[vf λi a=>h i (Gg a)<|D7 a];lia;rw[ki () λi a=>h i<|Gg a,h n (G7 n)<|λz=>e z.symm];lia
theorem GW{f:Nat->Int}{k l:Nat}:∀{n:Nat},k<l->l<n->(∀i,i<n->i≠k->i≠l->f i=0)->sm n f=f k+f l
 | n+1,hk,hl,h=>by show sm n f+f n=f k+f l;ext(e:l=n);subst e;rw[ki hk λi a z=>h i () z ()];rw[GW hk () λi a=>h i<|Gg a,h n (G7 n) () ()];lia
noncomputable def sg:Nat->Int
 | 0=>1
 | n+1=>- sg n
noncomputable def sk(j l:Nat):Nat:=if l<j then l else l+1
abbrev Mx:=Nat->Nat->Int
def mi(A:Mx)(j:Nat):Mx:=λi l=>A (i+1)<|sk j l
def det:Nat->Mx->Int
 | 0,_=>1
 | n+1,A=>sm (n+1) λj=>sg j*A 0 j*det n (mi A j)
theorem bL(n:Nat)(A:Mx):det (n+1) A=sm (n+1) λj=>sg j*A 0 j*det n (mi A j):=rfl
theorem GZ(h:l<n):sk j l<n+1:=by unfold sk;split<;>lia
theorem dU:∀{n:Nat} {A B:Mx},(∀i j,i<n->j<n->A i j=B i j)->det n A=det n B
 | 0,_,_,_=>rfl
 | n+1,A,B,h=>by rw[bL,bL];refine aV λj b=>?_;rw[h 0 j () b,dU (A:=mi A j) (B:=mi B j) λi l c a=>h _ _ ()<|GZ a]
noncomputable def cl(A:Mx)(c:Nat)(v:Nat->Int):Mx:=λi j=>if j=c then v i else A i j
theorem bJ(A:Mx)(c:Nat)(v:Nat->Int)(i:Nat):cl A c v i c=v i:=Al rfl
theorem cJ(v:Nat->Int)(i:Nat)(h:j≠c):cl A c v i j=A i j:=Ak h
theorem dM(A:Mx)(c:Nat)(v:Nat->Int):mi (cl A c v) c=mi A c:=by funext i l;exact cJ _ _ (by unfold sk;split<;>lia)
noncomputable def dn(j c:Nat):Nat:=if c<j then c else c-1
theorem vi(h:j≠c):sk j l=c↔l=dn j c:=by unfold sk dn;split<;>split<;>lia
theorem PK(h:j≠c)(a:c<n+1)(b:j<n+1):dn j c<n:=by unfold dn;split<;>lia
theorem nZ(v:Nat->Int)(h:j≠c):mi (cl A c v) j=cl (mi A j) (dn j c) λi=>v<|i+1:=by funext i l;unfold mi cl;ext(z:sk j l=c);rw[Al z,Al<|(vi h).mp z];rw[Ak z,Ak<|λy=>z<|(vi h).mpr y]
theorem eV(a b:Int):∀{n:Nat} (A:Mx) {c:Nat} (v w:Nat->Int),c<n->det n (cl A c λi=>a*v i+b*w i)=a*det n (cl A c v)+b*det n (cl A c w)
 | n+1,A,c,v,w,hc=>by rw[bL,bL,bL,<-AH];refine aV λj d=>?_;ext(e:j=c);subst e;rw[dM,dM,dM,bJ,bJ,bJ];grind;rw[nZ _ e,nZ _ e,nZ _ e,cJ _ _ e,cJ _ _ e,cJ _ _ e,eV a b (mi A j) (λi=>v<|i+1) (λi=>w<|i+1)<|PK e hc d];grind
theorem jP:∀{n:Nat} {A:Mx} {c:Nat},c+1<n->(∀i,i<n->A i c=A i (c+1))->det n A=0
 | n+1,A,c,hc,h=>by
  rw[bL,GW (k:=c) (l:=c+1) () hc λj g d b=>?_];let e:det n (mi A c)=det n (mi A<|c+1):=dU λi l a f=>by
   unfold mi;ext(z:l=c);subst z;let e1:sk l l=l+1:=by unfold sk;rw[Ak ()]
   let e2:sk (l+1) l=l:=by unfold sk;rw[Al ()]
   rw[e1,e2];exact(h _ ()).symm;let:sk c l=sk (c+1) l:=by unfold sk;split<;>split<;>lia
   rw[this]
  rw[e,<-h 0 ()];show sg c*A 0 c*det n (mi A<|c+1)+(- sg c)*A 0 c*det n (mi A<|c+1)=0;grind;let e:det n (mi A j)=0:=by
   ext(z:j<c);refine jP (c:=c-1) () λi a=>?_;unfold mi;let e1:sk j (c-1)=c:=by unfold sk;rw[Ak ()];lia
   let e2:sk j (c-1+1)=c+1:=by unfold sk;rw[Ak ()];lia
   rw[e1,e2];exact h _ ();refine jP (c:=c) () λi a=>?_;unfold mi;let e1:sk j c=c:=by unfold sk;rw[Al ()]
   let e2:sk j (c+1)=c+1:=by unfold sk;rw[Al ()]
   erw[e1,e2,h _ ()]
  rw[e,Iz]
theorem iN(v w:Nat->Int)(h:c≠d):cl (cl A c v) d w=cl (cl A d w) c v:=by funext i j;unfold cl;ext(z:j=d);rw[Al z,Ak (),Al z];rw[Ak z,Ak z]
theorem gf(A:Mx)(c:Nat):cl A c (λi=>A i c)=A:=by funext i j;unfold cl;split;rename_i e;rw[e];rfl
theorem oO(b:c<n)(f:d<n)(a:c≠d)(h:∀(A:Mx),(∀i,i<n->A i c=A i d)->det n A=0)(A:Mx)(u w:Nat->Int) :
  det n (cl (cl A c u) d w)=- det n (cl (cl A c w) d u):=by
 let z:∀v:Nat->Int,det n (cl (cl A c v) d v)=0:=λv=>h _ λi _=>by rw[bJ,cJ _ _ a,bJ]
 let e:det n (cl (cl A c λi=>1*u i+1*w i) d λi=>1*u i+1*w i)=0:=z _;rw[eV 1 1 _ _ _ f,iN _ _ a,iN _ _ a,eV 1 1 _ _ _ b,eV 1 1 _ _ _ b,<-iN _ _ a,<-iN _ _ a,<-iN _ _ a,<-iN _ _ a,z,z]at e;lia
theorem iK:∀(k:Nat) {n:Nat} {A:Mx} {c:Nat},c+1+k<n->(∀i,i<n->A i c=A i (c+1+k))->det n A=0
 | 0,n,A,c,hc,h=>jP hc h
 | k+1,n,A,c,hc,h=>by let s:=oO () hc () (λB b=>jP (c:=c+1+k) () b) A (λi=>A i<|c+1+k)<|λi=>A i<|c+1+(k+1);rw[gf]at s;rw[gf A _]at s;rw[s,iK k (c:=c) () λi a=>?_];rfl;erw[cJ _ _ (),cJ _ _ (),cJ _ _ (),bJ,h i a]
theorem eD(e:c<n)(a:d<n)(f:c≠d)(h:∀i,i<n->A i c=A i d):det n A=0:=by ext(z:c<d);obtain⟨k,rfl⟩:∃k,d=c+1+k:=#[d-(c+1),()];exact iK k a h;obtain⟨k,rfl⟩:∃k,c=d+1+k:=#[c-(d+1),()];exact iK k e λi b=>(h i b).symm
theorem z7(a:c<n)(b:d<n)(e:c≠d)(A:Mx)(u w:Nat->Int):det n (cl (cl A c u) d w)=- det n (cl (cl A c w) d u):=
 oO a b e (λ_ h=>eD a b e h) A u w
theorem DK(a:c<n):det n (cl A c λ_=>0)=0:= ~~~(eV 0 0 A (λ_=>0) (λ_=>0) a)
theorem eM(a:Int)(v:Nat->Int)(b:c<n):det n (cl A c λi=>a*v i)=a*det n (cl A c v):= ~~~(eV a 0 A v v b)
theorem pz{n c:Nat}(A:Mx)(V:Nat->Nat->Int)(a:c<n):∀m:Nat,det n (cl A c λi=>sm m λl=>V l i)=sm m λl=>det n (cl A c<|V l)
 | 0=>DK a
 | m+1=>by let e:=eV 1 1 A (λi=>sm m λl=>V l i) (V m) a;rw[pz A V a m]at e;simp[Int.one_mul]at e;exact e
noncomputable def un(k i:Nat):Int:=if i=k then 1 else 0
theorem kN:∀(k:Nat) (A:Mx),det (k+1) (cl A k<|un k)=det k A
 | 0,A=>by rw[bL];show 0+sg 0*cl A 0 (un 0) 0 0*1=1;rw[bJ];rfl
 | k+1,A=>by
  rw[bL,bL];show sm (k+1) _+_=_;let b:cl A (k+1) (un<|k+1) 0 (k+1)=0:=by rw[bJ];rfl
  dsimp only;rw[b,Iz,Int.zero_mul,Int.add_zero];refine aV λj c=>?_;let a:j≠k+1:=();rw[cJ _ _ a,nZ _ a,<-kN k (mi A j)];let e1:dn j (k+1)=k:=by unfold dn;rw[Ak ()];lia
  let e2:(λi=>un (k+1)<|i+1)=un k:=by funext i;unfold un;ext(z:i=k);rw[Al z,Al ()];rw[Ak z,Ak ()]
  rw[e1,e2]
theorem Uy{d a b:Int}(h:d≠0)(e:d*a=d*b):a=b:=Int.eq_of_mul_eq_mul_left h e
structure Ba(k:Nat)(A W:Mx)(d:Int):Prop where
 ne:d≠0
 dt:d=det k A
 up:∀i j,i<k->d*A i j=sm k λl=>A i l*W l j
 lo:∀i j,k<=i->W i j=d*A i j-sm k λl=>A i l*W l j
theorem Ba.start(A:Mx):Ba 0 A A 1:=#[by decide,rfl,λi j h=>absurd h<|Nat.not_lt_zero _,λi j _=>by show _=1*A i j-0;lia]
noncomputable def rl(A:Mx)(k:Nat)(v:Nat->Int):Mx:=λi j=>if i=k then v j else A i j
theorem gA(A:Mx)(k:Nat)(v:Nat->Int)(j:Nat):rl A k v k j=v j:=Al rfl
theorem iZ(v:Nat->Int)(j:Nat)(h:i≠k):rl A k v i j=A i j:=Ak h
theorem Ba.led(b:Ba k A W d)(g:k<r):Ba k (rl A k λj=>A k j+A r j) (rl W k λj=>W k j+W r j) d:=by
 let c:∀(v:Nat->Int) (j:Nat),sm k (λl=>v l*rl W k (λj=>W k j+W r j) l j)=sm k λl=>v l*W l j:=λv j=>aV λl f=>by rw[iZ _ _ ()]
 refine#[b.ne,b.dt.trans<|dU λi j a h=>(iZ _ _ ()).symm,λi j a=>?_,λi j a=>?_];let e:∀l,rl A k (λj=>A k j+A r j) i l=A i l:=λl=>iZ _ _ ();erw[e,c,b.up i j a,aV λl _=>by rw[e]]
 rw[c];ext(z:i=k);subst z;rw[gA,gA,b.lo i j<|Xx _,b.lo r j ()];let e:sm i (λl=>rl A i (λj=>A i j+A r j) i l*W l j)=sm i (λl=>A i l*W l j)+sm i (λl=>A r l*W l j):=by rw[<-AI];exact aV λl _=>gA>>Int.add_mul _ _ _
 rw[e];grind;rw[iZ _ _ z,iZ _ _ z,b.lo i j a];let e:sm k (λl=>rl A k (λj=>A k j+A r j) i l*W l j)=sm k (λl=>A i l*W l j):=aV λl _=>by rw[iZ _ _ z]
 rw[e]
theorem Ba.vec(b:Ba k A W d)(a:i<k+1)(j:Nat):d*A i j=sm k (λl=>W l j*A i l)+W k j*un k i:=by rw[aV λl _=>GD _ _];unfold un;ext(z:i=k);subst z;rw[Al rfl,b.lo i j<|Xx _];lia;rw[Ak z,b.up i j ()];lia
theorem Ba.col(b:Ba k A W d)(B:Mx)(a:c<k+1)(j:Nat) :
  d*det (k+1) (cl B c λi=>A i j)=sm k (λl=>W l j*det (k+1) (cl B c λi=>A i l))+W k j*det (k+1) (cl B c<|un k):=by
 rw[<-eM d _ a];let e:det (k+1) (cl B c λi=>d*A i j)=det (k+1) (cl B c λi=>1*sm k (λl=>W l j*A i l)+W k j*un k i):=dU λi l f _=>by unfold cl;split;dsimp only;rw[b.vec f j];lia;rfl
 rw[e,eV 1 (W k j) _ _ _ a,Int.one_mul,pz B (λl i=>W l j*A i l) a];congr 1;exact aV λl _=>eM _ _ a
theorem Ba.last(b:Ba k A W d)(j:Nat):det (k+1) (cl A k λi=>A i j)=W k j:=by refine Uy b.ne ?_;rw[b.col A (G7 k) j,kN,<-b.dt,vf λl a=>?_];rw[Int.zero_add];exact GD _ _;erw[eD (c:=l) (d:=k) () () () λi _=>by rw[bJ,cJ _ _ ()],Iz _]
theorem Ba.Xw(b:Ba k A W d):det (k+1) A=W k k:=by let:=b.last k;rwa[gf]at this
theorem Ba.unit(b:Ba k A W d)(f:i<k):det (k+1) (cl A i<|un k)=- W i k:=by
 refine Uy b.ne ?_;let a:k<k+1:=G7 k;let e:=b.col (cl A i<|un k) a k;let e1:cl (cl A i<|un k) k (λj=>A j k)=cl A i (un k):=by
  let:=gf (cl A i<|un k) k;let e2:(λj=>cl A i (un k) j k)=λj=>A j k:=by funext j;exact cJ _ _ ()
  rw[e2]at this;exact this
 let h:det (k+1) (cl (cl A i<|un k) k<|un k)=0:=eD (c:=i) (d:=k) () a () λj _=>by rw[bJ,cJ _ _ (),bJ]
 let g:det (k+1) (cl (cl A i<|un k) k λj=>A j i)=- d:=by rw[z7 () a (),gf,kN,<-b.dt]
 rw[e1,h,ki f λl m z=>?_,g]at e;rw[e];grind;erw[eD (c:=l) (d:=k) () a () λj _=>by rw[bJ,cJ _ _ (),cJ _ _ z],Iz _]
theorem Ba.step(b:Ba k A W d)(q:W k k≠0):∃g:Mx,(∀i j,i≠k->d*g i j=W k k*W i j-W i k*W k j)/\(∀j,g k j=W k j)/\Ba (k+1) A g (W k k):=by
 refine let X:Mx:=λi j=>if i<k then det (k+1) (cl A i λl=>A l j)else W k j;?_;let n:∀i j,i<k->d*X i j=W k k*W i j-W i k*W k j:=λi j f=>by show d*(if i<k then _ else _)=_;rw[Al f];rw[b.col A () j,b.unit f,ki f λl a z=>?_];rw[gf,b.Xw];grind;erw[eD (c:=l) (d:=i) () () z λ j _=>by rw[bJ,cJ _ _ z],Iz _]
 let p:∀j,X k j=W k j:=λj=>Ak<|EK k;let S:∀i j,d*sm (k+1) (λl=>A i l*X l j)=W k k*sm k (λl=>A i l*W l j)+(- W k j)*sm k (λl=>A i l*W l k)+d*A i k*W k j:=λi j=>by rw[<-GY];show sm k (λl=>d*(A i l*X l j))+d*(A i k*X k j)=_;rw[p,<-AH,L4 d];congr 1;refine aV λl a=>?_;let:=n l j a;grind
 refine#[λi j=>if i<k+1 then X i j else W k k*A i j-sm (k+1) (λl=>A i l*X l j),λi j r=>?_,λj=>?_,q,b.Xw.symm,λi j f=>?_,λi j f=>?_];dsimp only;ext(z:i<k+1);rw[Al z];exact n i j ();rw[Ak z,Int.mul_sub,S];let o:=b.lo i j ();let h:=b.lo i k ();grind;dsimp only;rw[Al<|G7 k];exact p j;let e:sm (k+1) (λl=>A i l*(if l<k+1 then X l j else W k k*A l j-sm (k+1) (λm=>A l m*X m j)))=sm (k+1) (λl=>A i l*X l j):=aV λl a=>by rw[Al a]
 rw[e];refine Uy b.ne ?_;rw[S];ext(z:i=k);subst z;let o:=b.lo i j<|Xx _;let h:=b.lo i i<|Xx _;grind;let o:=b.up i j ();let h:=b.up i k ();grind;let e:sm (k+1) (λl=>A i l*(if l<k+1 then X l j else W k k*A l j-sm (k+1) (λm=>A l m*X m j)))=sm (k+1) (λl=>A i l*X l j):=aV λl a=>by rw[Al a]
 rw[e,Ak ()]
theorem zq6{n:Nat}{A:Mx}{v:Nat->Int}(h:∀i,i<n->sm n (λl=>v l*A i l)=0){c:Nat}(a:c<n):v c*det n A=0:=by
 let e:det n (cl A c λi=>sm n λl=>v l*A i l)=0:=by rw[<-DK a];refine dU λi j b _=>?_;unfold cl;split;exact h i b;rfl
 rw[pz A (λl i=>v l*A i l) a,ki a λl d z=>?_,eM _ _ a,gf]at e;exact e;erw[eM _ _ a,eD () a z λj _=>by rw[bJ,cJ _ _ z],Iz _]
theorem zq1{n:Nat}{A:Mx}(a:det n A≠0){v:Nat->Int}(h:∀i,i<n->sm n (λl=>v l*A i l)=0){c:Nat}(b:c<n):v c=0:=
 (K7.mp<|zq6 h b).resolve_right a
theorem Ba.stuck(b:Ba k A W d)(a:k<m)(h:∀i,k<=i->i<n->W i k=0):∀i,i<n->sm m (λl=>(if l<k then W l k else if l=k then-d else 0)*A i l)=0:=by
 ext i f;let key:∀m,k<m->sm m (λl=>(if l<k then W l k else if l=k then-d else 0)*A i l)=sm k (λl=>A i l*W l k)-d*A i k:=λm=>by
  induction m with
  | zero=>intro z;lia
  | succ m j=>
   ext z;show sm m _+_=_;dsimp only;ext(e:m=k);subst e;rw[Ak (),Al rfl,aV (g:=λl=>A i l*W l m) λl c=>Al c>>GD _ _];grind;rw[j (),Ak (),Ak e];lia
 rw[key m a];ext(z:i<k);rw[b.up i k z];lia;let:=b.lo i k ();rw[h i () f]at this;lia
theorem Ba.done(b:Ba n A W d)(a:c<n)(f:j<n):W c j=if c=j then d else 0:=by
 let:=zq1 (λz=>b.ne<|b.dt.trans z) (v:=λl=>W l j-if l=j then d else 0) (λi g=>?_) a;lia;let e:sm n (λl=>(W l j-if l=j then d else 0)*A i l)=sm n (λl=>A i l*W l j)-sm n (λl=>(if l=j then d else 0)*A i l):=by erw[<-GX,aV λl _=>by rw[Int.sub_mul,GD<|W l j]]
 rw[e,<-b.up i j g,ki f λl _ z=>Ak z>>Int.zero_mul _,Al rfl];lia
theorem AJ{B:Nat}{f:Nat->Int}:∀{n:Nat},(∀i,i<n->(f i).natAbs<=B)->(sm n f).natAbs<=n*B
 | 0,_=>by simp[sm]
 | n+1,h=>by let d:=AJ λi a=>h i<|Gg a;let b:=h n<|G7 n;let c:=Int.natAbs_add_le (sm n f)<|f n;show(sm n f+f n).natAbs<=_;rw[Ks];lia
theorem G6:∀j,(sg j).natAbs=1
 | 0=>rfl
 | j+1=>by show(- sg j).natAbs=1;erw[JU,G6 j]
theorem jO{M:Nat}:∀{n:Nat} {A:Mx},(∀i j,i<n->j<n->(A i j).natAbs<=M)->(det n A).natAbs<=(n*M) ^ n
 | 0,_,_=>by simp[det]
 | n+1,A,h=>by
  rw[bL];let:=AJ (f:=λj=>sg j*A 0 j*det n (mi A j)) λj b=>by erw[FL,FL,G6,Js,Fx (h 0 j () b)<|jO λi l c a=>h _ _ ()<|GZ a]
  refine Ay this ?_;erw[<-Nat.mul_assoc,K4,Gn,HD _<|LP (HD _<|IZ n) n]
theorem Ba.cr(b:Ba k A W d)(f:i<k)(j:Nat):W i j=det k (cl A i λl=>A l j):=by
 refine Uy b.ne ?_;rw[<-eM d _ f];let e:det k (cl A i λl=>d*A l j)=det k (cl A i λl=>sm k λm=>W m j*A l m):=dU λa c h _=>by unfold cl;split;dsimp only;rw[b.up a j h];exact aV λl _=>GD _ _;rfl
 rw[e,pz A (λm l=>W m j*A l m) f,ki f λl g z=>?_,eM _ _ f,gf,<-b.dt];exact GD _ _;erw[eM _ _ f,eD g f z λj _=>by rw[bJ,cJ _ _ z],Iz _]
theorem Ba.bound(b:Ba k A W d)(m:1<=M)(h:∀i j,(A i j).natAbs<=M)(i j:Nat):(W i j).natAbs<=((k+1)*M) ^ (k+1):=by
 let g:∀l j,l<k->(W l j).natAbs<=(k*M) ^ k:=λl j e=>by rw[b.cr e j];refine jO λa c _ _=>?_;unfold cl;split;exact h _ _;exact h _ _
 let f:(k*M) ^ k<=((k+1)*M) ^ k:=LP (HD _<|IZ k) k;ext(z:i<k);refine Ay (g i j z)<|Ay f ?_;rw[K4];exact Mc _<|Ay m<|JZ _<|Nat.succ_pos k;rw[b.lo i j ()];let e1:(d*A i j).natAbs<=(k*M) ^ k*M:=by rw[FL];refine Fx ?_<|h i j;erw[b.dt,jO λa c _ _=>h a c]
 let e2:=AJ λl e=>by erw[FL,Fx (h i l)<|g l j e]
 let o:=Int.natAbs_sub_le (d*A i j) (sm k λl=>A i l*W l j);let n:(k*M) ^ k*M+k*(M*(k*M) ^ k)=(k+1)*M*(k*M) ^ k:=by rw[Gn ((k*M) ^ k) M,JE,JE,Js,Nat.mul_assoc k M];lia
 rw[K4,Gn<|((k+1)*M) ^ k];refine Ay o<|Ay (Nat.add_le_add e1 e2) ?_;erw[n,Mm _ f]
theorem Ba.S6(b:Ba k A W d)(h:∀i j,(A i j).natAbs<=M):d.natAbs<=(k*M) ^ k:=by erw[b.dt,jO λa c _ _=>h a c]
theorem great(u:Nat->Int):∀{n:Nat},0<n->∃m,m<n/\∀l,l<n->(u l).natAbs<=(u m).natAbs
 | 1,_=>#[0,(),λl a=>by erw[show l=0 by lia,Xx _]]
 | n+2,_=>by let#[m,b,h]:=great u (n:=n+1) ();ext(z:(u m).natAbs<=(u<|n+1).natAbs);exact#[n+1,(),λl a=>by ext(y:l=n+1);rw[y];exact Xx _;exact Ay (h l ()) z];exact#[m,(),λl a=>by ext(y:l=n+1);rw[y];lia;exact h l ()]
theorem AG{f:Nat->Int}{k:Nat}:∀{n:Nat},k<n->sm n f=f k+sm n λi=>if i=k then 0 else f i
 | n+1,hk=>by show sm n f+f n=f k+(sm n (λi=>if i=k then 0 else f i)+if n=k then 0 else f n);ext(z:n=k);subst z;rw[Al rfl,aV λi a=>Ak ()];lia;rw[Ak z,AG (k:=k) (n:=n) ()];lia
noncomputable def mx(L:cq):Mx:=λi j=>(L.getD i []).getD j 0
structure g7(L:cq)(n m:Nat):Prop where
 len:L.z=n
 row:∀l∈L,l.z=m
theorem fR(h:L[i]?=some l)(j:Nat):mx L i j=l.getD j 0:=by
 unfold mx;let e:L.getD i []=l:=by rw[su,h];rfl
 rw[e]
theorem getD_none{l:cc}{j:Nat}(h:l.z<=j):l.getD j 0=0:=by rw[su,Eu h];rfl
theorem g7.at(r:g7 L n m)(a:i<n):∃l,L[i]?=some l/\l.z=m:=by
 let h:i<L.z:=r.len>>a
 exact#[L[i],by simp[h],r.row _<|ET h]
theorem g7.out(r:g7 L n m)(h:n<=i\/m<=j):mx L i j=0:=by
 ext(z:i<n);let#[l,a,e]:=r.at z;rw[fR a];exact getD_none ();unfold mx;let e:L.getD i []=[]:=by rw[su,Eu<|by rw[r.len];lia];rfl
 rw[e];rfl
theorem C1(h:L[i]?=some l)(a:l[j]?=some x):mx L i j=x:=by rw[fR h,su,a];rfl
def UB(n m:Nat)(A:Mx)(u:Nat->Int):Prop:=∀i,i<n->sm m (λl=>u l*A i l)=0
theorem zdv(e:k<r)(b:r<n)(u:Nat->Int):UB n m (rl A k λj=>A k j+A r j) u↔UB n m A u:=by
 let e1:∀i,i≠k->sm m (λl=>u l*rl A k (λj=>A k j+A r j) i l)=sm m (λl=>u l*A i l):=λi z=>aV λl _=>by rw[iZ _ _ z]
 let e2:sm m (λl=>u l*rl A k (λj=>A k j+A r j) k l)=sm m (λl=>u l*A k l)+sm m (λl=>u l*A r l):=by rw[<-AI];exact aV λl _=>gA>>Int.mul_add _ _ _
 constructor;ext h i a;ext(z:i=k);subst z;let d:=h i a;let c:=h r b;rw[e2]at d;rw[e1 r ()]at c;lia;rw[<-e1 i z];exact h i a;ext h i a;ext(z:i=k);subst z;rw[e2,h i a,h r b];rfl;erw[e1 i z,h i a]
structure Cd(n m M k t:Nat)(A0 W:Mx)(d:Int)(A:Mx):Prop where
 ba:Ba k A W d
 b2:∀i j,(A i j).natAbs<=2*M
 b1:∀i j,t<=i->(A i j).natAbs<=M
 Kz:∀u,UB n m A u↔UB n m A0 u
 dt:∀f:(Mx->Int),(∀(B:Mx) (c r:Nat),c<r->r<n->f (rl B c λj=>B c j+B r j)=f B)->f A=f A0
theorem Cd.start(h:∀i j,(A i j).natAbs<=M):Cd n m M 0 0 A A 1 A:=#[Ba.start A,λi j=>Ay (h i j) (),λi j _=>h i j,λ_=>Iff.rfl,λ_ _=>rfl]
theorem Cd.led(c:Cd n m M k k A0 W d A)(a:k<r)(e:r<n):Cd n m M k (k+1) A0 (rl W k λj=>W k j+W r j) d (rl A k λj=>A k j+A r j) where
 ba:=c.ba.led a
 b2:=λi j=>by ext(z:i=k);subst z;rw[gA];exact Ay (Int.natAbs_add_le _ _)<|Nat.two_mul M▸Nat.add_le_add (c.b1 i j<|Xx _) (c.b1 r j ());erw[iZ _ _ z,c.b2 i j]
 b1:=λi j l=>iZ _ _ ()>>c.b1 i j ()
 Kz:=λu=>(zdv a e u).trans<|c.Kz u
 dt:=λf b=>(b A k r a e).trans<|c.dt f b
theorem Cd.same(c:Cd n m M k t A0 W d A)(h:W=W'):Cd n m M k t A0 W' d A:=h▸c
structure Clr(L L':cq)(n m k:Nat)(d:Int):Prop where
 Q7:g7 L' n m
 own:∀j,j<m->mx L' k j=mx L k j
 row:∀i j,i<n->i≠k->j<m->mx L' i j=(mx L k k*mx L i j-mx L i k*mx L k j).fdiv d
theorem Cd.next(c:Cd n m M k (k+1) A0 (mx L) d A)(r:g7 L n m)(s:k<n)(p:mx L k k≠0)(h:Clr L L' n m k d):Cd n m M (k+1) (k+1) A0 (mx L') (mx L k k) A:=by
 let#[q,f,g,b]:=c.ba.step p;let e:q=mx L':=by funext i j;ext(l:j<m);ext(a:i=k);subst a;rw[g,h.own j l];ext(o:i<n);rw[h.row i j o a l,<-f i j a,Lc _ c.ba.ne];let:=f i j a;rw[r.out (i:=i) (j:=j)<|.inl (),r.out (i:=i) (j:=k)<|.inl ()]at this;rw[h.Q7.out<|.inl ()];refine Uy c.ba.ne ?_;rw[this];lia;rw[h.Q7.out<|.inr ()];ext(a:i=k);subst a;rw[g];exact r.out<|.inr ();let:=f i j a;rw[r.out (i:=i) (j:=j)<|.inr (),r.out (i:=k) (j:=j)<|.inr ()]at this;refine Uy c.ba.ne ?_;rw[this];lia
 erw[<-e,#[b,c.b2,c.b1,c.Kz,c.dt]]
theorem Cd.bound(c:Cd n m M k t A0 W d A)(a:1<=M)(i j:Nat):(W i j).natAbs<=((k+1)*(2*M)) ^ (k+1):=c.ba.bound () c.b2 i j
theorem Cd.FC(c:Cd n m M k t A0 W d A)(a:1<=M)(b:k<=n)(i j:Nat):(W i j).natAbs<=((n+1)*(2*M)) ^ (n+1):=by refine Ay (c.bound a i j)<|Ay (LP (HD _<|Nat.succ_le_succ b) _) ?_;exact LX (Nat.mul_pos () ()) ()
theorem Cd.S7(c:Cd n m M k t A0 W d A)(b:1<=M)(a:k<=n):d.natAbs<=((n+1)*(2*M)) ^ (n+1):=by refine Ay (c.ba.S6 c.b2)<|Ay (LP (HD _<|N0 a) _) ?_;exact LX (Nat.mul_pos () ()) ()
def Inj(n m:Nat)(A:Mx):Prop:=∀u:Nat->Int,(∀l,n<=l->u l=0)->UB n m A u->∀l,l<n->u l=0
theorem Cd.lead(c:Cd n m M k t A0 W d A)(b:k<n)(g:n<=m)(h:Inj n m A0):∃r,k<=r/\r<n/\W r k≠0:=by ext(z:∃r,k<=r/\r<n/\W r k≠0);exact z;exfalso;let:=h _ (λl f=>by rw[Ak (),Ak ()]) ((c.Kz _).mp<|c.ba.stuck (m:=m) () λi e a=>Decidable.byContradiction λw=>z #[i,e,a,w]) k b;rw[Ak (),Al rfl]at this;exact c.ba.ne ()
theorem A2(a:k<L.z):mx (L.set k v)=rl (mx L) k λj=>v.getD j 0:=by
 funext i j;unfold rl;ext(z:i=k);subst z;rw[Al rfl,fR<|Hq a];rw[Ak z];unfold mx;let e:(L.set k v).getD i []=L.getD i []:=by rw[su,su,FJ<|λw=>z w.symm]
 rw[e]
theorem zdU{a b:cc}(h:a.z=b.z)(j:Nat):(List.zipWith (·+·) a b).getD j 0=a.getD j 0+b.getD j 0:=by
 rw[su,su,su,getElem?_zipWith];ext(z:j<a.z);let:j<b.z:=();simp[z,this];rw[Eu (),Eu ()];rfl
def Led(L c:cq)(n k:Nat):Prop:=(c=L/\mx L k k≠0)\/(mx L k k=0/\∃(r:Nat) (a b:cc),k<r/\r<n/\L[k]?=some a/\L[r]?=some b/\mx L r k≠0/\c=L.set k (List.zipWith (·+·) a b))
theorem Cd.YV(c:Cd n m M k k A0 (mx L) d A)(r:g7 L n m)(s:k<n)(h:Led L L' n k):g7 L' n m/\mx L' k k≠0/\∃u,Cd n m M k (k+1) A0 (mx L') d u:=by
 ext(⟨rfl,f⟩|⟨f,q,a,b,v,p,o,g,w,rfl⟩:h);exact#[r,f,A,#[c.ba,c.b2,λi j x=>c.b1 i j (),c.Kz,c.dt]];let B:=r.row a<|A5 o;let y:=r.row b<|A5 g;let e:mx (L.set k<|List.zipWith (·+·) a b)=rl (mx L) k λj=>mx L k j+mx L q j:=by rw[A2<|r.len>>s];congr 1;funext j;rw[zdU (),fR o,fR g]
 refine#[#[Ec>>r.len,λl t=>?_],?_,_,(c.led v p).same e.symm];ext(z|rfl:Mq t);exact r.row l z;rw[length_zipWith];lia;rw[e,gA,f];lia
end Dt
namespace Gm
open PySem L2
theorem tK{L:cq}{c:Nat}{v:cc}(h:c<L.z):L.take c++[v]++L.drop (c+1)=L.set c v:=by rw[set_eq_take_append_cons_drop,Al h];simp
structure Fq(z:Nat)(fs:List<|Int×Int):Prop where
 pos:∀f∈fs,0<f.2
 top:∀f∈fs,Sz z f.1
 bot:∀f∈fs,Sz z f.2
structure Wh(fs:List<|Int×Int)(b:Int)(l:cc):Prop where
 pos:0<b
 len:l.z=fs.z
 eq:∀(i:Nat) (f:Int×Int) (x:Int),fs[i]?=some f->l[i]?=some x->x*f.2=f.1*b
theorem zq3(j:0<b)(d:0<u):0<b / ((Int.gcd b u:Nat):Int)*u/\b ∣ b / ((Int.gcd b u:Nat):Int)*u/\u ∣ b / ((Int.gcd b u:Nat):Int)*u/\(b / ((Int.gcd b u:Nat):Int)*u).natAbs<=b.natAbs*u.natAbs:=by
 let h:=Fr.o6 b (show u≠0 by lia);let#[x,a]:=Fr.uo b u;let#[y,c]:=Fr.uk b u;let i:0<((Int.gcd b u:Nat):Int):=();generalize ((Int.gcd b u:Nat):Int)=g at *;let e:b / g=x:=a>>Jh _ ()
 let f:0<x:=by ext(z:0<x);exact z;let:=NH (show 0<=g by lia) (show x<=0 by lia);lia
 rw[e];refine#[E7 f d,#[y,?_],#[x,GD _ _],?_];rw[c];let:g*x*y=x*(g*y):=by grind
 rw[a,this];rw[FL];refine HD _ ?_;let:b.natAbs=g.natAbs*x.natAbs:=by rw[<-FL,<-a]
 erw[this,JZ _ ()]
noncomputable def nI(a:List Nat):cc:=a.map λc:Nat=>(c:Int)
theorem uQ(h:k<=r.z):dX r k=bw r k r.z:=by
 ext(z:k=r.z);subst z;unfold dX bw;rw[drop_length,K0,F6];refine IX A! λi a b=>?_;rw[IS,getElem_range,aH (show(r.z+i)%r.z=i%r.z by rw[Hh,Aa]),a9 a];let c:k<r.z:=();refine IX (by rw[bQ h,aK]) λi a b=>?_;rw[bQ h]at a;let e:=gN c i;rw[a9<|bQ h>>a]at e;rw[e];let w:=kg (r:=r) (s:=k) (m:=r.z) a;rw[me<|aK>>a]at w;rw[BV w,Hh]
theorem xW(h:k<=m):(bw r s m).take k=bw r s k:=by unfold bw;rw[<-map_take,take_range,Nat.min_eq_left h]
theorem zbn(h:k<=m):(bw r s m).drop k=bw r (s+k) (m-k):=by refine Gx λi=>?_;rw[Hj];ext(z:i<m-k);rw[kg z,kg (),Ia];rw[Eu (by rw[aK];lia),Eu<|by rw[aK];lia]
theorem xX:bw r s (m+1)=bw r s m++[cy r<|s+m]:=by unfold bw;rw[GI,EE];rfl
theorem behind(b:ah L){p:Int}(i:0<=p)(g:p<L.z){c:Int}{j:Nat}(h:Dt L (c,p))(e:nx L (c,p)=(p,cy (br L p) j)):c=cy (br L p) (j+1):=by let f:=b.nd _ _<|ag i g;let d:=(h.back b).2.2.2;let a:=Fp d;exact hU f d (a8 a)<|(A4 Prod.snd e).trans (ck f a j).symm
def gw(L R:cq)(b:Int)(a m:Nat):cc:=(List.range m).map λu=>lo R (b,cy (br L b)<|a+u)
theorem zdd(g:dP L R)(d:ah L){b:Int}(f:0<=b)(b1:b<L.z){a:Nat}(h:a<(br L b).z):cK (gw L R b a (br L b).z)<|rd L R b:=by
 let c:0<(br L b).z:=();let rl:(rd L R b).z=(br L b).z:=ZO _;let key:∀j,lo R (b,cy (br L b) j)=cy (rd L R b) (j+1):=λj=>by
  let bk:=dZ d f b1<|a8 (j:=j+1) c;let e:nx L (cy (br L b)<|j+1,b)=(b,cy (br L b) j):=by show(b,pre (br L b)<|cy (br L b)<|j+1)=_;rw[ck (d.nd _ _<|ag f b1) c]
  rw[<-e,Iw g #[bk.1,bk.2.1,bk.2.2.2]];unfold rd;rw[rN _ c]
 let w:gw L R b a (br L b).z=bw (rd L R b) (a+1) (rd L R b).z:=by unfold gw bw;rw[rl];refine EU λu _=>?_;rw[key,show a+u+1=a+1+u by lia]
 rw[w,<-uQ ()];ext(z:a+1<(rd L R b).z);exact .inr #[a+1,z,rfl];left;unfold dX;rw[show a+1=(rd L R b).z by lia,drop_length,F6,K0]
theorem b8.turned(t:b8 L)(c:dP L R)(j:R'.z=L.z)(h:∀(b:Nat) (q:cc),R'[b]?=some q->cK q (rd L R (b:Int))):TR R' R.z:=by
 let dt:=t.ZW c;let e:((List.range L.z).map λb:Nat=>sh 0<|rd L R (b:Int))=((List.range L.z).map λb:Nat=>rd L R (b:Int)).map (sh 0):=by rw[ED];rfl
 let d:=(t.QJ.dua t.bM t.kR t.four c<|t.meet c.dec).dec;rw[e]at d;refine#[Du R,dt,(d.L1 dt.map).Yp (by rw[j,ZO,Er]) λi q r f a=>?_,fZ];rw[AY]at a;let g:i<L.z:=by let:=(AA.mp f).1;lia
 rw[Fy g]at a;cases a;exact h i q f
theorem zce(h:rZ n l)(s:j<l.z)(m:k<l.z):rZ n<|(l.set k l[j]).set j l[k]:=by
 let f:((l.set k l[j]).set j l[k]).z=l.z:=by rw[Ec,Ec]
 let at':∀i (c:i<((l.set k l[j]).set j l[k]).z),∃u,∃d:u<l.z,((l.set k l[j]).set j l[k])[i]=l[u]/\u=(if i=j then k else if i=k then j else i):=λi c=>by rw[f]at c;ext(z:i=j);subst z;exact#[k,m,by rw[getElem_set_self],by rw[Al rfl]];ext(y:i=k);subst y;exact#[j,s,by rw[getElem_set_ne<|A6 z,getElem_set_self],by rw[Ak z,Al rfl]];exact#[i,c,by rw[getElem_set_ne<|A6 z,getElem_set_ne<|A6 y],by rw[Ak z,Ak y]]
 refine#[f>>h.len,Fm.mpr λa b r p w e=>?_,λx t=>?_];let#[u,d,e1,o]:=at' a r;let#[v,g,e2,q]:=at' b p;rw[e1,e2]at e;let:u=v:=by ext(z|z|z:HC u v);exact absurd e<|Fm.mp h.nd u v d g z;exact z;exact absurd e.symm<|Fm.mp h.nd v u g d z
 rw[o,q]at this;split at this<;>split at this<;>(try split at this)<;>(try split at this)<;>lia;let#[i,c,e]:=Eg.mp t;let#[u,d,e1,_]:=at' i c;erw[<-e,e1,h.rg _<|ET d]
end Gm
namespace Fw
open Dt (sm)
end Fw
namespace Fw
open PySem L2 Gm
theorem Tx{l:cc}{n:Nat}{y:Int}(a:l.z=n+1)(h:l[n]?=some y):oI l.f (-1)=some (V.int y):=by
 let e:l=l.take n++[y]:=by let:=Ir (l:=l) (i:=n);rw[h,Jj ()]at this;exact this
 erw[e,EE,zdI _ _]
theorem zez(m:ah L)(h:Aj L S=true):∃a b:Int,(0<=a/\a<L.z)/\(0<=b/\b<L.z)/\a∉S/\b∉S/\¬dH L S a b:=by
 cases e:left L.z S with
 | nil=>rw[CI e]at h;cases h
 | cons s r=>
  rw[qi e]at h;let h:=Eb h;let f:=lG (n:=L.z) (S:=S) (s:=s) (by erw[e,.head _]);refine BS λg=>?_;let all:∀x∈s::r,dH L S s x:=λx d=>by let c:=lG (n:=L.z) (S:=S) (s:=x) (e>>d);exact BS λnx=>g #[s,x,#[f.1,f.2.1],#[c.1,c.2.1],f.2.2,c.2.2,nx]
  let i:(s::r).Nodup:=by erw[<-e,(g9 _).filter _]
  let:=i.length_le_of_subset (l₂:=(aP L.z).filter<|λx=>@decide (dH L S s x)<|Classical.propDecidable _) λx d=>by let c:=lG (n:=L.z) (S:=S) (s:=x) (e>>d);exact ER.mpr #[cR.mpr #[c.1,c.2.1],~~~all x d]
  unfold rn at h;lia
end Fw
namespace Gm
open PySem L2
theorem pO{n:Nat}:∀(k:Nat) (S:cc),S∈dE n k->S.z<=2
 | 0,S,h=>by unfold dE at h;ext(rfl|h:AX.mp h);simp;let#[i,_,rfl]:=A3.mp h;simp
 | k+1,S,h=>by unfold dE at h;ext(h|h:Af.mp h);exact pO k S h;let#[j,a]:=Ej.mp h;let jl:=(AA.mp a).1;rw[twos_len]at jl;rw[twos_at jl]at a;cases a;simp
theorem F1.Aj(t:F1 L)(m:ah L)(h:S.z<=2):Aj L S=false:=by
 cases e:Gm.Aj L S with
 | false=>rfl
 | true=>
  let#[a,b,g,i,f,c,j]:=Fw.zez m e;exfalso;obtain⟨x,y,d⟩:∃x y:Int,(∀z∈S,z=x\/z=y)/\a≠x/\a≠y/\b≠x/\b≠y:=by
   match S,h with
   | [],_=>exact#[-1,-1,by simp,(),(),(),()]
   | [x],_=>exact#[x,x,by simp,~~~f,~~~f,~~~c,~~~c]
   | [x,y],_=>
    simp[BX,Bn,Bu,G8]at f c;exact#[x,y,by simp,f.1,f.2,c.1,c.2]
  refine j<|(t x y a b g.1 g.2 i.1 i.2 d.2.1 d.2.2.1 d.2.2.2.1 d.2.2.2.2).wk m λz _ _ hz=>?_;simp[BX,Bn,Bu];exact d.1 z hz
end Gm
namespace L2
open PySem PySem.Spec PySem.W PySem.Calls PyProof.Rows
end L2
namespace L2
open PySem PySem.Spec PySem.W PySem.Calls PyProof.Rows
structure DefIn(K:Frag)(x:Str)(st:Stmt):Prop where
 ex:∃(f:Addr) (od an:Option Addr) (sl:Array<|Option Value) (oc kV dc pm cd ct:Value),nsIn K mainGlobals x=some (f.j)/\K.lookup f=some #[oc,od,.func<|fnOf x x (bW st) (bE st) (aD st) .none kV dc pm an cd ct,sl]/\codeIn K cd x=true/\keepIn K (.ref f)=true
theorem DefIn.mk0{K:Frag}{x:Str}{st:Stmt}{f:Addr}{od h:Option Addr}{sl:Array<|Option Value}{e kV d g b ct:Value}(a:nsIn K mainGlobals x=some (f.j))(l:K.lookup f=some #[e,od,.func<|fnOf x x (bW st) (bE st) (aD st) .none kV d g h b ct,sl])(c:codeIn K b x=true)(k:keepIn K (.ref f)=true):DefIn K x st:=#[#[f,od,h,sl,e,kV,d,g,b,ct,a,l,c,k]]
section
variable {K:Frag} {h:Heap} {mg:bg} {x q:Str} {st:Stmt} {ps:List Str} {C:Addr}
theorem DefIn.dfn(d:DefIn K x st)(X:K.In h)(G:h.Ns mainGlobals mg)(j:∀(kV b e:Value) (g:Option Addr) (i ct:Value) (us:bc),us.z=ps.z->bindArgs (fnOf x x (bW st) (bE st) (aD st) .none kV b e g i ct) #[us,[]]=pure (ps.zip us)):Def K mg x st ps:=by let#[f,od,g,sl,n,kV,m,e,o,ct,a,l,c,k]:=d.ex;exact#[#[f,_,Bs l c k,mg_of X G a,(Bs l c k).binds j]]
end
end L2
namespace Dt
open Fr Gm
noncomputable def qt(f:Int×Int):Rat:=(f.1:Rat) / (f.2:Rat)
theorem dS{u:Int}(h:u≠0):(u:Rat)≠0:=λz=>h<|L9.mp z
theorem vV(c:b≠0)(h:Ao a b t u):qt (t,u)=(a:Rat) / (b:Rat):=by let e:=A4 (λx:Int=>(x:Rat)) h.eq;simp[Fj]at e;let f:=dS c;let d:=dS (show u≠0 by let:=h.pos;lia);show(t:Rat) / (u:Rat)=_;grind
theorem zfA(a:f.2≠0)(b:g.2≠0)(h:Ao (f.1*g.2+g.1*f.2) (f.2*g.2) t u):qt (t,u)=qt f+qt g:=by rw[vV (λz=>(K7.mp z).elim a b) h];simp[Fj,Rat.intCast_add];let d:=dS a;let c:=dS b;unfold qt;grind
theorem zcl(a:f.2≠0)(b:g.2≠0)(h:Ao (f.1*g.1) (f.2*g.2) t u):qt (t,u)=qt f*qt g:=by rw[vV (λz=>(K7.mp z).elim a b) h];simp[Fj];let d:=dS a;let c:=dS b;unfold qt;grind
theorem zbJ(g:0<e)(c:Int.gcd o e=1)(h:0<u)(f:Int.gcd t u=1)(a:t*e=o*u):t=o/\u=e:=by
 let b:u.natAbs ∣ e.natAbs:=by let:u ∣ t*e:=#[o,by rw[a,GD]];let:=Int.natAbs_dvd_natAbs.mpr this;rw[FL]at this;exact NF (show Nat.gcd u.natAbs t.natAbs=1 by erw[Nat.gcd_comm,f]) this
 let d:e.natAbs ∣ u.natAbs:=by let:e ∣ o*u:=#[t,by rw[<-a,GD]];let:=Int.natAbs_dvd_natAbs.mpr this;rw[FL]at this;exact NF (show Nat.gcd e.natAbs o.natAbs=1 by erw[Nat.gcd_comm,c]) this
 let e1:=Nat.dvd_antisymm b d;let e2:u=e:=();subst e2;exact#[MQ () a,rfl]
def Lw(f:Int×Int):Prop:=0<f.2/\Int.gcd f.1 f.2=1
theorem vW(a:Lw f)(b:Lw g)(h:qt f=qt g):f=g:=by
 let#[t,u]:=f;let#[o,e]:=g;let j:=dS (show u≠0 by let:=a.1;lia);let d:=dS (show e≠0 by let:=b.1;lia);let i:(t:Rat) / (u:Rat)=(o:Rat) / (e:Rat):=h;let c:((t*e:Int):Rat)=((o*u:Int):Rat):=by rw[Fj,Fj];grind
 let#[rfl,rfl]:=zbJ b.1 b.2 a.1 a.2<|L9.mp c;rfl
noncomputable def sq:Nat->(Nat->Rat)->Rat
 | 0,_=>0
 | n+1,f=>sq n f+f n
theorem eW{f g:Nat->Rat}:∀{n:Nat},(∀i,i<n->f i=g i)->sq n f=sq n g
 | 0,_=>rfl
 | n+1,h=>by show sq n f+f n=sq n g+g n;rw[eW λi a=>h i<|Gg a,h n<|G7 n]
theorem AE{f:Nat->Rat}(a:Rat):∀(n:Nat),sq n (λi=>a*f i)=a*sq n f
 | 0=>by show(0:Rat)=a*0;grind
 | n+1=>by show sq n (λi=>a*f i)+a*f n=a*(sq n f+f n);rw[AE a n];grind
theorem kY{f:Nat->Int}:∀(n:Nat),((sm n f:Int):Rat)=sq n λi=>(f i:Rat)
 | 0=>rfl
 | n+1=>by show((sm n f+f n:Int):Rat)=_+_;rw[Rat.intCast_add,kY n]
def fa(fs:List<|Int×Int)(j:Nat):Rat:=qt<|fs.getD j (0,1)
theorem mf(h:fs[j]?=some f):fa fs j=qt f:=by unfold fa;rw[su,h];rfl
def NS(n:Nat)(R:List<|List<|Int×Int):Prop:=∀u:Nat->Int,(∀fs∈R,sq n (λj=>fa fs j*(u j:Rat))=0)->∀j,j<n->u j=0
def oB(n:Nat)(R:List<|List<|Int×Int)(a:List<|Int×Int)(L:cq):Prop:=
 L.z=R.z/\∀(i:Nat) (fs:List<|Int×Int) (g:Int×Int) (l:cc),R[i]?=some fs->a[i]?=some g->L[i]?=some l->∃b,Wh (fs++[g]) b l
structure rT(n:Nat)(R:List<|List<|Int×Int)(gs:List<|Int×Int):Prop where
 rl:R.z=n
 gl:gs.z=n
 row:∀fs∈R,fs.z=n/\∀f∈fs,0<f.2
 goal:∀g∈gs,0<g.2
theorem B8{b:Int}(w:Wh fs b l){i:Nat}{x:Int}(a:fs[i]?=some f)(c:l[i]?=some x)(g:0<f.2):(x:Rat)=qt f*(b:Rat):=by let e:=A4 (λx:Int=>(x:Rat))<|w.eq i f x a c;simp[Fj]at e;let d:=dS (show f.2≠0 by lia);unfold qt;grind
theorem oB.row(F:rT n R gs)(w:oB n R gs L)(e:R[i]?=some fs)(k:gs[i]?=some g):∃b:Int,b≠0/\(∀j,j<n->(mx L i j:Rat)=fa fs j*(b:Rat))/\(mx L i n:Rat)=qt g*(b:Rat):=by
 let m:i<L.z:=w.1>>(AA.mp e).1
 obtain⟨l,c⟩:∃l,L[i]?=some l:=#[L[i],by simp[m]];let#[b,a]:=w.2 i fs g l e k c;let#[fl,o]:=F.row fs<|A5 e;let h:=a.len;rw[Ac,fl,HA]at h;refine#[b,by let:=a.pos;lia,λj p=>?_,?_];obtain⟨f,d⟩:∃f,fs[j]?=some f:=#[fs[j],by simp[show j<fs.z by lia]];obtain⟨x,ex⟩:∃x,l[j]?=some x:=#[l[j],by simp[show j<l.z by lia]];rw[C1 c ex,mf d];exact B8 a (Eh ()>>d) ex<|o f<|A5 d;obtain⟨x,ex⟩:∃x,l[n]?=some x:=#[l[n],by simp[show n<l.z by lia]];erw[C1 c ex,B8 a (by rw[Fg (),fl,L8];rfl) ex<|F.goal g<|A5 k]
theorem oB.inj(F:rT n R gs)(w:oB n R gs L)(h:NS n R):Inj n (n+1)<|mx L:=by
 ext u m Kz;refine h u λfs o=>?_;let#[i,f]:=Ej.mp o;let c:=(AA.mp f).1;rw[F.rl]at c;obtain⟨g,r⟩:∃g,gs[i]?=some g:=#[gs[i]'(F.gl>>c),by simp[show i<gs.z by erw[F.gl,c]]];let#[b,p,q,_]:=w.row F f r;let k:sm n (λl=>u l*mx L i l)+u n*mx L i n=0:=Kz i c;rw[m n<|Xx _,Int.zero_mul,Int.add_zero]at k;let d:=A4 (λx:Int=>(x:Rat)) k;rw[kY]at d;let e:sq n (λa=>((u a*mx L i a:Int):Rat))=(b:Rat)*sq n (λj=>fa fs j*(u j:Rat)):=by rw[<-AE];exact eW λj s=>by rw[Fj,q j s];grind
 rw[e]at d;let:=dS p;let t:=d;grind
def iQ(n:Nat)(R:List<|List<|Int×Int)(a xs:List<|Int×Int):Prop:=∀(i:Nat) (fs:List<|Int×Int) (g:Int×Int),R[i]?=some fs->a[i]?=some g->sq n (λj=>fa fs j*fa xs j)=qt g
theorem oB.sol(F:rT n R gs)(w:oB n R gs L)(c:Cd n (n+1) M n n (mx L) W d A)(v:∀j,j<n->fa xs j=(W j n:Rat) / (d:Rat)):iQ n R gs xs:=by
 ext i fs g h s;let k:=(AA.mp h).1;rw[F.rl]at k;let#[b,q,r,p]:=w.row F h s;let Kz:UB n (n+1) A λl=>if l<n then W l n else-d:=λa u=>by show sm n _+_=0;dsimp only;rw[Ak<|EK n,aV (g:=λl=>A a l*W l n) λl f=>Al f>>GD _ _,<-c.ba.up a n u];grind
 let t:sm n (λl=>(if l<n then W l n else-d)*mx L i l)+(if n<n then W n n else-d)*mx L i n=0:=(c.Kz _).mp Kz i k;rw[Ak<|EK n,aV (g:=λl=>W l n*mx L i l) λl f=>by rw[Al f]]at t;let o:((sm n λl=>W l n*mx L i l:Int):Rat)=((d*mx L i n:Int):Rat):=L9.mpr (by grind);rw[kY,Fj,p]at o;let e:sq n (λl=>((W l n*mx L i l:Int):Rat))=((b:Rat)*(d:Rat))*sq n (λj=>fa fs j*fa xs j):=by rw[<-AE];refine eW λj m=>?_;rw[Fj,r j m,v j m];let:=dS c.ba.ne;grind
 rw[e]at o;let x:=dS q;let y:=dS c.ba.ne;grind
theorem oT:∀(fs:List<|Int×Int),(∀f∈fs,0<f.2)->∃b:Int,0<b/\∀f∈fs,f.2 ∣ b
 | [],_=>#[1,by decide,by simp]
 | f::fs,h=>by let#[b,d,i]:=oT fs λg a=>h g<|A7 _ a;refine#[f.2*b,E7 (h f AO) d,λg a=>?_];ext(rfl|a:AX.mp a);exact#[b,rfl];let#[c,e]:=i g a;exact#[f.2*c,by rw[e];grind]
theorem CH(g:0<f.2)(h:f.2 ∣ b):((f.1*(b / f.2):Int):Rat)=qt f*(b:Rat):=by
 let#[c,a]:=h;let e:b / f.2=c:=a>>Jh _ ()
 let d:=dS (show f.2≠0 by lia);rw[e,a];simp[Fj];unfold qt;grind
end Dt
namespace Dt
open PySem L2 Fr Gm
noncomputable def pd:List (Int×Int)->Nat
 | []=>1
 | f::r=>f.2.natAbs*pd r
theorem dR:∀(a b:List<|Int×Int),pd (a++b)=pd a*pd b
 | [],b=>by show pd b=1*pd b;lia
 | f::a,b=>by show f.2.natAbs*pd (a++b)=f.2.natAbs*pd a*pd b;rw[dR a b,Nat.mul_assoc]
theorem kD(f:Int×Int):pd [f]=f.2.natAbs:=by show f.2.natAbs*1=_;lia
theorem zcR{b:Int}(w:Wh fs b l)(c:∀f∈fs,0<f.2){i:Nat}{x:Int}(a:fs[i]?=some f)(d:l[i]?=some x):x.natAbs<=f.1.natAbs*b.natAbs:=by let e:=A4 Int.natAbs<|w.eq i f x a d;rw[FL,FL]at e;erw[<-e,Mc _ (by let:=c f<|A5 a;lia)]
end Dt
namespace iQ
structure V3 where
 u:Int
 v:Int
 w:Int
noncomputable def tn(a b c:V3):Int:=a.u*(b.v*c.w-b.w*c.v)+a.v*(b.w*c.u-b.u*c.w)+a.w*(b.u*c.v-b.v*c.u)
end iQ
namespace iQ
end iQ
namespace iQ
open Gm L2
noncomputable def l3(p:V3):cc:=[p.u,p.v,p.w]
def S3(z:Nat)(p:V3):Prop:=Sz z p.u/\Sz z p.v/\Sz z p.w
end iQ
namespace L2
open PySem PySem.Spec PySem.W PySem.Calls PyProof.Rows
theorem uy:entryFor table "dict.update.loop"=some Builtin.«dict.update.loop»:=entryFor_of_tree (by kernel_rfl)
theorem jI:plainId "dict.update.loop"=true:=by decide +kernel
end L2
namespace iQ
open PySem L2 Gm
end iQ
namespace Dq
open Dt
end Dq
namespace Dt
open PySem L2 Fr Gm
def dO(fs:List<|Int×Int):Int:=fs.foldl (λb f=>b / ((Int.gcd b f.2:Nat):Int)*f.2) 1
theorem e7(fs:List<|Int×Int)(f:Int×Int):dO (fs++[f])=dO fs / ((Int.gcd (dO fs) f.2:Nat):Int)*f.2:=by unfold dO;rw[foldl_append];rfl
end Dt
namespace L2
open PySem PySem.Spec PySem.W PySem.Calls PyProof.Rows Gm
end L2
section
set_option maxHeartbeats 2000000
end
namespace iQ
open PySem L2 Gm Dt
theorem WH(d:Lw f)(c:Lw g)(h:f.1*g.2=g.1*f.2):f=g:=by
 refine vW d c ?_;let#[j,_]:=d;let#[i,_]:=c;unfold qt;let a:((f.2:Int):Rat)≠0:=by simp[ne_eq,Rat.intCast_eq_zero_iff];lia
 let b:((g.2:Int):Rat)≠0:=by simp[ne_eq,Rat.intCast_eq_zero_iff];lia
 let e:((f.1*g.2:Int):Rat)=((g.1*f.2:Int):Rat):=by rw[h]
 rw[Fj,Fj]at e;rw[Rat.div_def,Rat.div_def];grind
def wk(p:List<|Int×Int)(k:Nat):Int:=(p.getD k (0,1)).1*(dO p / (p.getD k (0,1)).2)
theorem n6:∀{p:List<|Int×Int},(∀f∈p,0<f.2)->0<dO p/\(∀f∈p,f.2 ∣ dO p)/\(dO p).natAbs<=pd p:=by
 ext p d;let key:∀(q r:List<|Int×Int),(∀f∈q++r,0<f.2)->(0<dO q/\(∀f∈q,f.2 ∣ dO q)/\(dO q).natAbs<=pd q)->(0<dO (q++r)/\(∀f∈q++r,f.2 ∣ dO (q++r))/\(dO<|q++r).natAbs<=pd (q++r)):=by
  ext q r;induction r generalizing q with
  | nil=>intro _ h;erw[GA,h]
  | cons g r n=>
   ext a h;let e:q++g::r=(q++[g])++r:=by simp
   rw[e];refine n (q++[g]) (by erw[<-e,a]) ?_;let#[m,c,i]:=h;let#[o,j,b,k]:=zq3 m<|a g A!;rw[e7];refine#[o,λf l=>?_,?_];ext(z|z:Af.mp l);exact Int.dvd_trans (c f z) j;rw[Ax.mp z];exact b;erw[dR,kD,Ay k<|HD _ i]
 simpa using (key [] p (~~~d) #[by decide,by simp,by simp[dO,pd]])
end iQ
namespace L2
open PySem PySem.Spec PySem.W PySem.Calls PyProof.Rows
def V7(K:Frag)(t:TE):TI:=λσ H R=>t σ H λx b=>∃a,x=.ref a/\(((∃xs,bH K b a xs)/\R (Itl K a) b)\/((∃xs,mF K b a xs)/\R (Itt K a) b))
theorem HI(m:PE X l tl):PI X tg l (V7 X.K tl):=by
 intro pins s σ H R I h;refine b9 (m pins s σ H _ I h) λv d ⟨x,k,c,n,f⟩=>?_;obtain⟨a,e,f⟩:=f;subst e;cases n;rcases f with⟨⟨xs,i⟩,q⟩|⟨⟨xs,i⟩,q⟩;obtain⟨j,rv,p,hz⟩:=c.list i;refine MH p.isList ⟨d.heap.objs.size,[d.heap.objs.size],_,_,k,rfl,c.kept λb o e=>BN _ e,sZ a _,⟨_,EL _ rfl,rfl,rfl⟩,λb g=>?_,q⟩;have e:b=d.heap.objs.size:=by simpa using g
 subst e;exact c.nJ (Xx _) (c.bu.fresh (Xx _));obtain⟨j,rv,p,hz⟩:=c.tuple i;refine wpAny_pyIter_tuple (show d.heap.IsTuple a j.toArray from p) ⟨d.heap.objs.size,[d.heap.objs.size],_,_,k,rfl,c.kept λb o e=>BN _ e,zao a _,⟨_,EL _ rfl,rfl,rfl⟩,λb g=>?_,q⟩;have e:b=d.heap.objs.size:=by simpa using g
 subst e;exact c.nJ (Xx _) (c.bu.fresh (Xx _))
theorem mP:typeLookup (.type "zip") "__getattr__"=pure none:=by rw[K8,Km];kernel_rfl
theorem r9:typeLookup (.type "zip") "keys"=pure none:=by rw[K8,Km];kernel_rfl
theorem iG:entryFor table "zip.__getattribute__"=some Builtin.«object.__getattribute__»:=entryFor_alias (id':= "object.__getattribute__") (by kernel_rfl) B! B! (by kernel_rfl)
theorem qF(a:Addr)(vs:Array Value)(sl:Array<|Option Value)(name:Str)(u:Tok)(f:typeLookup (.type "zip") name=pure none)(i:(["__module__", "__name__", "__qualname__", "__doc__", "__annotations__"]:List Str).contains name=false)(hsz:name.z+100<=sizeLine:=by size_fits) :
  Meets (Builtin.«object.__getattribute__» #[[.ref a,.str name u],[]]) (λA R s=>s.heap.get? a=some { cls:=.type "zip",dict:=none,data:=.fields vs,slots:=sl }/\raisesAttr (.ref a) name A R s):=
 Meets.of_wp λprog w A R s b=>by
  let#[c,g,d,e,h]:=s;let#[j,b]:=b;let k:(#[c,g,d,e,h]:Shared).TypeIs (.ref a) "zip":=#[_,j,rfl];unfold Builtin.«object.__getattribute__»;repeat (any_goals (first|assumption|wp_step))
  simp only[i,Fv,F8];repeat (any_goals (first|assumption|wp_step))
  exact wpAny_raiseAttrError b.1 b.2<|attrMsg_fits B! hsz
theorem zdm(k:s.heap.get? a=some { cls:=.type "zip",dict:=none,data:=.fields xs,slots:=sl })(l:A.handled=none)(h:∀h' f,(∀b o,s.heap.get? b=some o->h'.get? b=some o)->Q none { s with heap:=h',toks:=f }):wpAny (model prog w) A (getAttr? (.ref a) "keys") Q E s:=by
 let#[m,g,d,f,n]:=s;let j:∀c,(#[m,g,d,c,n]:Shared).TypeIs (.ref a) "zip":=λ_=>#[_,k,rfl];let t:=sub_AttributeError;let q:=PySem.F.slot_zip_getattribute.lookup;let p:=PySem.F.slot_zip_getattribute.bind<|.ref a;let r:=mP;unfold getAttr? getAttrBy? getAttrBy;repeat (any_goals (first|assumption|exact j _ | ((with_reducible show wpAny _ _ (call (Value.builtin "zip.__getattribute__") _ _) _ _ _);refine HK PySem.F.slot_zip_getattribute (j _) iG (PySem.F.args_zip_getattribute_2 _ _) (qF a xs sl "keys" _ r9 B! B!) #[k,l,λh' c e i=>?_]) | wp_step))
 let#[t',u',u]:=i.there;unfold getattributeRaised;repeat (any_goals (first|assumption|wp_step))
 exact h h' c i.keeps
section
variable {X:Cx} {pins:bq} {σ:St} {H:Hp} {s:Shared} {A:Around} {E:bo}
theorem zal(I:Inv X pins σ H s)(e:H d=some (.dK kvs))(l:kvs.z<sizeLine)(g:RelV (kV k) u)(rv:RelV v r)(h:∀b,Heap.SameBut d s.heap b.heap->Inv X pins σ (upd H d<|.dK<|cw kvs k v) b->Q Unit.unit b):wpAny (model X.prog X.w) A (dictSet d u r) Q E s:=by
 let#[z,m,vs,a,dd]:=uD I.bu e;let hz:vs.z<=sizeLine:=by erw[<-a.z,z]
 let i:(cw kvs k v).z<=sizeLine:=by let:=eZ kvs k v;lia
 refine wpAny_dictSet_pairs (qS g) dd λh' f c=>h _ c ?_;let j:∃q,h'.get? d=some q:=let ⟨q,_,_,hq,_⟩:=f;#[q,hq]
 exact pD I (by erw[e,True.intro]) c j<|BL i m (a.put k rv) f
def oS(kvs kv:List<|Key×V):List<|Key×V:=kv.foldl (λa p=>cw a p.1 p.2) kvs
theorem zaI{X:Cx}{A:Around}{pins:List<|Addr×Obj}{σ:St}{H:Hp}{d z TI TO i1 a r q:Addr}{R:Result->Shared->Prop}{kv:List<|Key×V}(P:A.in1.handled=none)(D:ZipApart z TI TO i1 a r q)(N:bH X.K H r<|kv.map λp=>kV p.1)(J:bH X.K H q<|kv.map (·.2))(G:H d=none)(dn:d∉[z,TI,TO,i1,a])(g:∀c∈[z,TI,TO,i1,a],mJ X pins H c) :
  ∀(m i:Nat) (kvs:List<|Key×V) (s:Shared),kv.z-i=m->i<=kv.z->kvs.z+(kv.z-i)<sizeLine->Inv X pins σ (upd H d<|.dK kvs) s->d<s.c->oA s.heap z TI TO i1 a r q d i->
   (∀k,Inv X pins σ (upd H d<|.dK<|oS kvs<|kv.drop i) k->R (.ok<|.ret .none) k)->codeAny (model X.prog X.w) A (.builtin "dict.update.loop" #[[.ref d,.ref z,rawInt (i:Int),.none],[]]) R s:=by
 ext m;induction m<;>ext i kvs s hm hi hz I Q st h<;>let#[ia,B,t,za]:=I.list (ak.seq (.upd G) N)<;>let#[ib,U,C,zb]:=I.list (ak.seq (.upd G) J)<;>let Z:=B.z<;>rw[ZO]at Z<;>refine Im uy ?_<;>rw[Io jI _]<;>unfold Builtin.«dict.update.loop»<;>dsimp only;all_goals
  let tu:∀{h'},(∀c o,c∉[z,TO,i1,a]->s.heap.get? c=some o->h'.get? c=some o)->Inv X pins σ (upd H d<|.dK kvs) { s with heap:=h' }:=λf=>I.oM (t':=s.toks) (ch:=[z,TI,TO,i1,a]) (λc o j e=>f c o (λy=>j<|by simp at y ⊢;lia) e) λc j=>#[(aB λe:c=d=>dn<|e▸j).trans (g c j).1,(g c j).2]
 case zero=>
  refine UA<|F3 P D st t.isList C.isList (by simp;lia) λh' f=>UA (m:=Builtin.Dict.addKeywords d [])<|A8<|A8<|h _ ?_;erw[show i=kv.z by lia,List.drop_length,tu f]
 case succ m ih=>
  let n:i<kv.z:=();let#[l,Zg,W]:=B.get (i:=i) (x:=kV kv[i].1) (by simp[n]);let#[u2,O,L]:=U.get (i:=i) (x:=kv[i].2) (by simp[n]);refine UA<|B5 D st Q t.isList C.isList (x:=l) (y:=u2) (~~~Zg) (~~~O) λh' Y v hsz f=>?_;dsimp only;refine UA<|Fi<|UA<|LJ ?_;unfold Builtin.Dict.pairItems;refine UA<|Kr (T:= "tuple") #[_,v,rfl] ?_;rw[Al A?];refine UA<|JP v rfl<|A8 ?_;show wpAny _ _ (holding [l,u2]<|dictSet d l u2) _ _ _;refine Fi<|zal (tu f) aA () W L λk F u=>?_;rw[zeg]at u;let lp:=eZ kvs kv[i].1 kv[i].2;refine A8 #[GB jI _,ih (i+1) (cw kvs kv[i].1 kv[i].2) k () () () u (by rw[F.1];show d<h'.e;lia) (Y.keep (λb o M e=>(F.2 b M).trans e) dn) λs2 S=>h s2 ?_];erw[I9 n,S]
def yh(K:Frag)(e:TA):TE:=λσ H Q=>e σ H λvs c=>∃(a b:Addr) (kv:List<|Key×V),vs=[.ref a,.ref b]/\bH K c a (kv.map λp=>kV p.1)/\bH K c b (kv.map (·.2))/\kv.z<=1000/\∀d,c d=none->Q (.ref d) (upd c d<|.dK<|oS [] kv)
theorem zaC:bootBuiltins "dict"=some (.type "dict"):=by decide +kernel
theorem zay{C:TA}{p Z pos N:Pos}(hc:X.calm=true)(hm:X.mg "zip"=none)(zH:X.mg "dict"=none)(W:PA X [l,m] C)(S:E! Gl X "zip")(Y:E! Gl X "dict")(he:E! BU X l [m])(P:E! IB X pos [m])(ju:E! (BU X (.Call (.Name "zip" p) [l,m] [] pos) [])) :
  PE X (.Call (.Name "dict" Z) [.Call (.Name "zip" p) [l,m] [] pos] [] N) (yh X.K C):=by
 ext pins s σ H Q I h;refine ID I Y zH zaC A? A? ju<|Mi hm W S he P I h (λ_ _ ⟨a,b,_,e,x,y,_⟩=>#[a,b,e,#[_,x],#[_,y]]) ?_;ext a b z TI TO i1 i2 s2 n ⟨_,_,kv,e,Dm,U,hz,q⟩ i D st f;cases e;let#[B,xS,#[u,v,Bh],R,L]:=id st;let t:X.A.handled=none:=i.ok.hd hc;let G:n s2.c=none:=i.bu.fresh<|Xx _;refine callType_codes (s:=s2) (Q₁:=λobj d=>obj=.ref s2.c/\d={ s2 with heap:=s2.heap.push { cls:=.type "dict",data:=.dict #[] } }) PySem.F.kt_called_dict (PySem.F.kt_typeCall_dict_1 _) PySem.F.entry_dict_init (kt_code_dict_new (s:=s2) _ #[rfl,rfl]) ?_;ext obj d ⟨rfl,rfl⟩;let Zl:(s2.c==sysModules)=false:=by let:=i.big;erw[LR,F5 this]
 let r:(s2.heap.push { cls:=.type "dict",data:=.dict #[] }).DictOf (a7 X.prog X.w) s2.c []:=Heap.DictOf.new s2.heap;let I3:Inv X pins σ (upd n s2.c<|.dK []) { s2 with heap:=s2.heap.push { cls:=.type "dict",data:=.dict #[] } }:=i.laid (t':=s2.toks) (λb u e=>BN _ e) (Xx _) #[Bv _,Zl,[],.nil,r];refine#[r.typeIs,PySem.F.args_dict_init_2 _ _,?_];unfold Builtin.«dict.__init__»;refine UA ?_;unfold Builtin.Dict.selfAndRest;refine UA<|wpAny_notOrdered_dict r.typeIs ?_;show wpAny _ _ (pure (s2.c,[Value.ref z])) _ _ _;refine A8 ?_;show wpAny _ _ (Builtin.Dict.updateFrom _ s2.c (.ref z) [] .none) _ _ _;unfold Builtin.Dict.updateFrom;let k:=BN { cls:=.type "dict",data:=.dict #[] } B;refine UA<|Kr (T:= "zip") #[_,k,rfl] ?_;rw[Al A?];refine UA<|zdm k (show X.A.in1.in1.handled=none from t) λj tk keep=>?_;let O:=I3.kept (h':=j) (t':=tk) keep;dsimp only;rw[Al<|show(none:Option Value).isNone=true from rfl];refine UA<|wpAny_rule<|UA<|M9 (keep _ _ k) ?_;let g:∀c o,s2.heap.get? c=some o->j.get? c=some o:=λc o e=>keep c o<|BN _ e;let M:s2.c<j.e:=AL<|keep _ _<|EL s2.heap (o:={ cls:=.type "dict",data:=.dict #[] }) rfl;exact A8 #[GB jI _,zaI (A:=X.A.in1) (kv:=kv) (H:=n) t D Dm U G (λz=>EK _<|NC st z) f kv.z 0 [] _ rfl (Bv _) (by rw[FN];simp;lia) O M #[.inl #[rfl,g _ _ B,_,_,g _ _ Bh],g _ _ xS,R.at λo e=>g _ o e,L.at λo e=>g _ o e] λs' J=>#[rfl,.ref s2.c,_,J,rfl,q _ G]]
end
def zct:List V->Hp->VK->Prop:=λxs H Q=>∃(a:Addr) (kvs:List<|Key×V),xs=[.ref a]/\H a=some (.dK kvs)/\∀d,H d=none->Q (.ref d) (upd H d<|.dK kvs)
theorem zqa:dC X (.type "dict") zct:=by
 ext pins s σ H xs us Q I r h;let#[a,kvs,rfl,j,q]:=h;let#[u,rfl,c]:=vals1 r;obtain rfl:u=Value.ref a:=c;let#[hz,i,vs,kv,dd]:=uD I.bu j;let k:=kv.z;refine kt_call_dict i dd () λh' f g=>?_;let d:(s.c==sysModules)=false:=LR>>F5 I.big
 refine#[.ref s.c,_,I.laid (λb o e=>?_) (Xx _)<|show aY X.prog X.w _ h' _ (.dK kvs)from#[hz,d,vs,kv,f],rfl,q _<|I.bu.fresh<|Xx _];erw[g.2 b<|D7<|AL e,BN _ e]
theorem zbM{kvs:List<|Key×V}{vs:List<|Key×Value}(kv:KV kvs vs){a:Array Value}(h:ItemsOf (λi v=>∃k,vs[i]?=some (k,v)) a vs.z):Vals (kvs.map (·.2)) a.toList:=by
 let e:a.toList=vs.map (·.2):=by refine kdl_vals_eq a.toList (Fs>>h.1) λj v c=>h.2 j v (by erw[<-MS,c])
 rw[e];clear h e;induction kv with
 | nil=>exact .nil
 | cons h _ b=>exact .cons h.2 b
def tm(c:TE):TE:=λσ H Q=>c σ H λx b=>∃(a:Addr) (kvs:List<|Key×V),x=.ref a/\b a=some (.dK kvs)/\∀p,b p=none->Q (.ref p) (upd b p<|.lst<|kvs.map (·.2))
theorem yT{m:TE}{C p apos f:Pos}(J:X.calm=true)(K:X.mg "list"=none)(ho:PE X o m)(B:E! Gl X "list")(r:E! (attributeBase o "values" X.env (eval o X.env)=eval o X.env))(A:E! ((apos.endLine==f.line)=true))(l:E! (BU X (.Call (.Attribute o "values" apos) [] [] f) [])) :
  PE X (.Call (.Name "list" C) [.Call (.Attribute o "values" apos) [] [] f] [] p) (tm m):=by
 ext pins s σ H Q I h;refine Call_<|bY I B K gg<|HH ?_ l rfl;rw[l];refine Ko<|wpAny_Call_method0_late r A<|b9 (ho pins s σ H _ I h) λv j ⟨x,E,g,t,u⟩=>?_;let#[a,kvs,rfl,k,q]:=u;cases t;let#[z,n]:=Aw (x:=.ref a) g rfl<|.inr<|.inr<|.inl #[rfl,.inl #[kvs,k]];let#[hz,G,vs,kv,dd]:=uD g.bu k;let L:=kv.z;refine#["dict", "dict.values",PySem.F.plainAttrs_dict,PySem.F.slot_dict_values,PySem.F.type_dict_values,z,n,Ma rfl<|PySem.evalArgs_none<|call_meetsIn PySem.F.slot_dict_values dd.typeIs PySem.F.entry_dict_values (PySem.F.args_dict_values_1 _) (meets_dict_values (a7 X.prog X.w) a G) #[#[vs,dd],?_]];refine Lf ?_;let d:Inv X pins σ E { j with heap:=j.heap.push { cls:=.type "dict_values",data:=.fields #[.ref a,] } }:=g.kept λb o e=>BN _ e;let#[N,y]:=(dd.push { cls:=.type "dict_values",data:=.fields #[.ref a,] }).dictAt;refine kdl_call (kdl_values) (d.ok.hd J) #[#[_,EL _ rfl,rfl,rfl],y] () λh' M i c D e it=>?_;refine#[.ref (j.heap.push { cls:=.type "dict_values",data:=.fields #[.ref a,] }).e,_,d.laid D (Xx _)<|show aY X.prog X.w _ h' _ (.lst<|kvs.map (·.2))from#[ZO>>hz,i.toList,c,zbM kv it,NI>>e],rfl,q _<|d.bu.fresh<|Xx _]
end L2
namespace L2
open PySem PySem.Spec PySem.W PySem.Calls PyProof.Rows
structure Xd(P:Program)(w:World)(K:Frag)(mg:bg)(base:Heap)(CX:B4)(x:Str)(k:Nat)(ps:List Str)(sp:Sp):Prop where
 ex:∃f fd,oK P w K mg base CX k f fd ps sp/\mg x=f.j/\keepIn K (.ref f)=true/\Binds K fd ps [.none]
structure DefDIn(K:Frag)(x:Str)(st:Stmt):Prop where
 ex:∃(f t:Addr) (od an:Option Addr) (sl:Array<|Option Value) (oc kV dc pm cd ct:Value) (o:Obj) (n:Nat),nsIn K mainGlobals x=some (f.j)/\K.lookup f=some #[oc,od,.func<|fnOf x x (bW st) (bE st) (aD st) (.ref t) kV dc pm an cd ct,sl]/\codeIn K cd x=true/\keepIn K (.ref f)=true/\K.lookup t=some o/\o.data=.seq #[.none,] n
theorem DefDIn.mk0{K:Frag}{x:Str}{st:Stmt}{f t:Addr}{od h:Option Addr}{sl:Array<|Option Value}{e kV d g b ct:Value}{o:Obj}{n:Nat}(a:nsIn K mainGlobals x=some (f.j))(l:K.lookup f=some #[e,od,.func<|fnOf x x (bW st) (bE st) (aD st) (.ref t) kV d g h b ct,sl])(c:codeIn K b x=true)(k:keepIn K (.ref f)=true)(i:K.lookup t=some o)(j:o.data=.seq #[.none,] n):DefDIn K x st:=#[#[f,t,od,h,sl,e,kV,d,g,b,ct,o,n,a,l,c,k,i,j]]
end L2
namespace L2
open PySem PySem.Spec PySem.W PySem.Calls PyProof.Rows
noncomputable def OM(K:Frag):List V->Hp->VK->Prop:=λvs H Q=>∃(a:Addr) (b:cc),vs=[.ref a]/\bH K H a b.f/\Q (.int b.sum) H
theorem zbt(v:X.calm=true):dC X (.builtin "sum")<|OM X.K:=by
 ext pins s σ H xs us Q I r h;let#[a,b,rfl,m,q]:=h;let#[u,rfl,i]:=vals1 r;cases i;let#[w,rv,pl,hz]:=I.list m;let f:=intsAre_of rv;let#[xs,e]:=f.allInts.items;let d:b=xs.toList.map (·.1):=by rw[<-f.numsOf,<-nums_intItems,<-e]
 let g:=pl.isList;rw[e]at g;let p:xs.size=b.z:=by rw[d,ZO,Fs]
 let t:∀j,j<b.z->numAt xs j=b.getD j 0:=λj o=>by rw[numAt_eq,d]
 let n:∀j,j<=b.z->preSum (numAt xs) j=(b.take j).sum:=by
  ext j;induction j with
  | zero=>intro _;simp[preSum]
  | succ j l=>
   ext o;let c:j<b.z:=();let e1:b.getD j 0=b[j]:=by simp[c]
   rw[preSum,t j c,e1,show b.take (j+1)=b.take j++[b[j]]by rw[Ir,me c];rfl,yo,l ()]
 refine sum_intListG (I.ok.hd v) g λh' x t' k=>#[.int b.sum,H,I.kept k,#[t',?_],q];rw[p,n b.z<|Xx _,F6]
structure Xc(P:Program)(w:World)(K:Frag)(mg:bg)(base:Heap)(CX:B4)(x:Str)(k:Nat)(ps:List Str)(sp:Sp):Prop where
 d:Xd P w K mg base CX x k ps sp
 h:Ya P w K mg base CX x k ps sp
structure FG(K:Frag)(mg:bg)(x:Str)(st:Stmt)(ps:List Str):Prop where
 ex:∃(f:Addr) (od an:Option Addr) (sl:Array<|Option Value) (oc dV kV dc pm cd ct:Value),K.lookup f=some #[oc,od,.func<|fnOf x x (bW st) (bE st) (aD st) dV kV dc pm an cd ct,sl]/\codeIn K cd x=true/\keepIn K (.ref f)=true/\mg x=f.j/\Binds K (fnOf x x (bW st) (bE st) (aD st) dV kV dc pm an cd ct) ps [.none]/\Binds K (fnOf x x (bW st) (bE st) (aD st) dV kV dc pm an cd ct) ps []
section
variable {P:Program} {w:World} {K:Frag} {mg:bg} {base:Heap}
theorem FG.Sv{x:Str}{st:Stmt}{k:Nat}{a:Sp}(D:FG K mg x st ps)(S:gF N ps<|aD st)(b:∀vs H Q E,a vs H Q E->vs.z=ps.z)(m:∀(f:Addr) (c:Value) (A:Around) (outer:List Env) (s:Shared) (H:Hp) (vs:List V) (Q:VK) (E:XK),Room k (A.deeper<|envOfC x (aD st) s.c f c)->a vs H Q E->
   ∃t,uO (sP (Ah P w) P w K mg base N x (aD st) f c A outer s H E).Kx (bE st) t/\t { nx:=λ_ p=>Q .dY p,rt:=Q } (start N vs) H):Xc P w K mg base (Ah P w) x (k+1) ps a:=by
 let#[f,od,C,sl,y,B,kV,v,z,r,ct,g,n,e,d,i,j]:=D.ex;let F:=Jd g n S b λA o s H vs Q E l u=>by let#[t,h,q]:=m f r A o s H vs Q E l u;exact#[t,h.Kx,q]
 exact#[#[f,_,F,d,e,i],#[f,_,F,d,e,j]]
end
section
variable {K:Frag} {h:Heap} {mg:bg} {x:Str} {st:Stmt} {ps:List Str}
theorem DefDIn.dff(d:DefDIn K x st)(X:K.In h)(G:h.Ns mainGlobals mg)(A:∀(t:Addr) (kV e b:Value) (g:Option Addr) (p ct:Value) (us:bc),us.z+1=ps.z->∃k:Option (Array Value)->Sem (List<|Str×Value),bindArgs (fnOf x x (bW st) (bE st) (aD st) (.ref t) kV e b g p ct) #[us,[]]=seqItems? (.ref t) >>= k/\k (some #[.none,])=pure (ps.zip<|us++[.none]))(B:∀(t:Addr) (kV e b:Value) (g:Option Addr) (p ct:Value) (us:bc),us.z=ps.z->∃k:Option (Array Value)->Sem (List<|Str×Value),bindArgs (fnOf x x (bW st) (bE st) (aD st) (.ref t) kV e b g p ct) #[us,[]]=seqItems? (.ref t) >>= k/\k (some #[.none,])=pure (ps.zip us)):FG K mg x st ps:=by let#[f,t,od,g,sl,y,kV,j,b,r,ct,o,n,a,l,c,z,v,w]:=d.ex;refine#[#[f,od,g,sl,y,.ref t,kV,j,b,r,ct,l,c,z,mg_of X G a,λs us q i=>?_,λs us q i=>?_]];rw[Ac]at i;let#[k,u,m]:=A t kV j b g r ct us i;exact BindsTo.of_defaults rfl (q _ _ v) w u m;rw[GA]at i ⊢;let#[k,u,m]:=B t kV j b g r ct us i;exact BindsTo.of_defaults rfl (q _ _ v) w u m
end
end L2
namespace Pg
structure V2 where
 x:Int
 y:Int
noncomputable def cr(a b:V2):Int:=a.x*b.y-a.y*b.x
noncomputable def sub(a b:V2):V2:=#[a.x-b.x,a.y-b.y]
theorem fI{a b:Int}(c:0<a):(0<a*b↔0<b):=by constructor;ext h;refine Int.not_le.mp λz=>?_;let:=NH (Ft c) z;lia;exact E7 c
variable {p:Nat->V2} {n:Nat}
variable {p:Nat->V2} {n:Nat}
end Pg
section
set_option maxHeartbeats 1000000
namespace rY
open PySem L2 Fr Gm Fw
open Dt (dO e7 pd dR kD)
open iQ (V3 l3 S3 tn)
def top(i:Nat):Stmt:=PySem.Challenge.pw_standup_k65_whole_frames_led.main.body.getD i<|.Pass #[0,0,0,0]
abbrev zav:Stmt:=top 10
abbrev zdl:Stmt:=top 11
abbrev QT:Stmt:=top 12
abbrev zbT:Stmt:=top 13
abbrev zdG:Stmt:=top 14
abbrev zes:Stmt:=top 15
abbrev yq:Stmt:=top 16
abbrev sD:Stmt:=top 17
abbrev zeA:Stmt:=top 18
abbrev zdQ:Stmt:=top 19
abbrev zdE:Stmt:=top 20
abbrev mU:Stmt:=top 22
abbrev zdo:Stmt:=top 23
abbrev oD:Stmt:=top 25
abbrev vt:Stmt:=top 26
abbrev U9:Stmt:=top 27
abbrev sA:Stmt:=top 28
abbrev mV:Stmt:=top 29
abbrev zbS:Stmt:=top 30
abbrev zbC:Stmt:=top 31
abbrev zdZ:Stmt:=top 33
abbrev sv:Stmt:=top 34
abbrev zbb:Stmt:=top 35
abbrev pQ:Stmt:=top 37
abbrev vo:Stmt:=top 38
abbrev vm:Stmt:=top 39
abbrev QS:Stmt:=top 40
abbrev yv:Stmt:=top 41
abbrev sC:Stmt:=top 43
abbrev pR:Stmt:=top 44
abbrev vq:Stmt:=top 45
abbrev zbu:Stmt:=top 46
abbrev vv:Stmt:=top 47
abbrev zdF:Stmt:=top 48
abbrev pW:Stmt:=top 52
abbrev pZ:Stmt:=top 53
abbrev oE:Stmt:=top 54
abbrev vH:Stmt:=top 55
abbrev yD:Stmt:=top 56
abbrev pV:Stmt:=top 57
abbrev yw:Stmt:=top 58
abbrev sE:Stmt:=top 59
abbrev p8:Stmt:=top 60
abbrev iY:Stmt:=top 61
abbrev vD:Stmt:=top 62
abbrev sF:Stmt:=top 63
abbrev vF:Stmt:=top 64
abbrev yA:Stmt:=top 65
abbrev vB:Stmt:=top 66
abbrev sG:Stmt:=top 69
abbrev pU:Stmt:=top 70
abbrev zvaa:Stmt:=top 42
abbrev zvab:Stmt:=top 49
abbrev zvac:Stmt:=top 50
abbrev zvad:Stmt:=top 67
abbrev zvae:Stmt:=top 68
section
open Dt
theorem PR(c:b≠0)(hz:Sz 9000 b):KI x ((Int.gcd a b:Nat):Int):=by let d:=o6 a c;refine#[(),Sz.le hz ?_];simpa using (Int.gcd_le_natAbs_right a c)
theorem WX(h:KI x d):KI x<|-d:=#[λe=>h.1 (),h.2.neg]
def Q8(r l:cc)(c:Nat)(d:Int):cc:=List.zipWith (λx y=>(l.getD c 0*x-r.getD c 0*y).fdiv d) r l
structure SzR(R:List<|List<|Int×Int)(gs:List<|Int×Int):Prop where
 rt:∀fs∈R,∀f∈fs,f.2=1/\f.1.natAbs<=2 ^ 90
 gt:∀g∈gs,g.2=1/\g.1.natAbs<=2 ^ 90
end
open iQ (V3 l3 S3 tn)
def t3(l:cc):V3:=#[l.getD 0 0,l.getD 1 0,l.getD 2 0]
def xJ(L:cq)(k:Nat):Prop:=∀i,2<=i->i<L.z->0<tn (t3<|L.getD k []) (t3<|L.getD ((k+1)%L.z) []) (t3<|L.getD ((k+i)%L.z) [])
def P4(L:cq):Prop:=3<=L.z/\∀k,k<L.z->xJ L k
structure P2(p:List<|Int×Int):Prop where
 len:p.z=2
 fq:Fq 9000 p
 low:∀f∈p,Dt.Lw f
open iQ (wk) in
def wr(p:List<|Int×Int):cc:=[wk p 0,wk p 1,dO p]
theorem UK(h:P2 p)(d:Wh p (dO p) row)(m:∀f∈p,f.2 ∣ dO p):row++[dO p]=wr p:=by
 let key:∀(k:Nat) (f:Int×Int) (x:Int),p[k]?=some f->row[k]?=some x->x=iQ.wk p k:=λk f x a i=>by
  let e:=d.eq k f x a i;let b:=A5 a;let#[y,c]:=m f b;let n:=h.fq.pos f b;unfold iQ.wk;rw[su,a];show x=f.1*(dO p / f.2);rw[c,Jh _ ()];rw[c]at e;let:x*f.2=(f.1*y)*f.2:=by rw[e];grind
  exact MQ () this
 let l:=d.len;rw[h.len]at l;let l3:=h.len
 match row,l with
 | [x,y],_=>
  let g:∀k (j:k<2),p[k]?=some p[k]:=λk j=>me ();rw[key 0 _ x (g 0 ()) rfl,key 1 _ y (g 1 ()) rfl];rfl
theorem UJ(h:P2 p):(wr p).z=3/\∀x∈wr p,Sz 30000 x:=by
 refine#[rfl,?_];let#[j,k,i]:=iQ.n6 λf d=>h.fq.pos f d;let pl:=h.len
 match p,pl with
 | [f,g],_=>
  let b:Sz 18000<|dO [f,g]:=by let e:pd [f,g]=f.2.natAbs*(g.2.natAbs*1):=rfl;unfold Sz at *;refine FA i ?_;erw[e,Nat.mul_one,show 2 ^ 18000=2 ^ 9000*2 ^ 9000 from by rw[<-Nat.pow_add],Nat.mul_lt_mul_of_lt_of_lt (h.fq.bot f A!)<|h.fq.bot g A!]
  let c:∀u:Int,Sz 18000<|dO [f,g] / u:=λu=>by unfold Sz at *;exact FA (Kj _ _) b
  ext x a;unfold wr at a;simp[BX,Bn,Bu]at a;ext(rfl|rfl|rfl:a);exact(Sz.mul (h.fq.top f A!)<|c _).mono A?;exact(Sz.mul (h.fq.top g A!)<|c _).mono A?;exact b.mono A?
def cE(p:List<|Int×Int):Int×Int:=p.getD 0 (0,1)
def cW(p:List<|Int×Int):Int×Int:=p.getD 1 (0,1)
def share(p q r:List<|Int×Int):Int:=1*(cE p).2*(cW p).2*(cE q).2*(cW q).2*(cE r).2*(cW r).2
def bx(s:Int)(f:Int×Int):Int:=f.1*(s / f.2)
def FC(p q r:List<|Int×Int):Int:=(bx (share p q r) (cE q)-bx (share p q r) (cE p))*(bx (share p q r) (cW r)-bx (share p q r) (cW q))-(bx (share p q r) (cW q)-bx (share p q r) (cW p))*(bx (share p q r) (cE r)-bx (share p q r) (cE q))
def bk(n k d:Nat):Nat:=(k+n-d)%n
theorem bh{α:Type}{Y:List α}{d:α}{i:Nat}(h:i<Y.z):Y.getD i d∈Y:=su>>me h>>ET h
theorem Reach.rex(h:Reach L s x):dH L [] s x:=by
 induction h with
 | here=>exact .here
 | step _ e a b=>exact .step b e a A!
theorem k9{α:Type}[DecidableEq α]:∀{l m:List α},l.Nodup->(∀x∈l,x∈m)->l.z<=m.z
 | [],m,_,_=>Bv _
 | x::l,m,hn,hs=>by let b:=EB.mp hn;let pl:=(perm_cons_erase<|hs x AO).length_eq;rw[Bq]at pl;let:=k9 (m:=m.erase x) b.2 λy a=>(mem_erase_of_ne λe=>b.1<|by erw[<-e,a]).mpr<|hs y<|A7 _ a;rw[Bq];lia
def gD(n i:Nat):List<|Int×Int:=[(((n-1-i:Nat):Int),1),(((n-1-i:Nat):Int)*((n-1-i:Nat):Int),1)]
def cY(l:cc)(x y:Int):Int×Int:=if y=x then((l.z:Int),1)else if y∈l then(-1,1)else(0,1)
theorem CT:∀{fs:List<|Int×Int},(∀f∈fs,f.2=1)->pd fs=1
 | [],_=>rfl
 | f::fs,h=>by show f.2.natAbs*pd fs=1;rw[h f AO,CT λg a=>h g<|A7 _ a];rfl
def ko(L:cq)(a b:cc):List<|List<|Int×Int:=b.map λx=>a.map<|cY (br L x) x
open Dt (qt fa Lw)
def P6(f:Int×Int):Prop:=Lw f/\f.2<=6/\f.1.natAbs<=2 ^ 61
def wv(r a:cc)(y:Int):Int:=a.getD (r.idxOf y) 0
theorem Cn{M:Nat}:∀{a:cc},(∀n∈a,n.natAbs<=M)->a.sum.natAbs<=a.z*M
 | [],_=>Bv _
 | n::a,h=>by let d:=h n AO;let c:=Cn λm b=>h m<|A7 _ b;rw[Ek,Bq,Ks,Nat.add_comm];exact Ay (Int.natAbs_add_le _ _)<|Nat.add_le_add d c
def mH(L:cq)(q:Int->Rat)(v:Int):Prop:=((br L v).z:Rat)*q v=((br L v).map q).sum
def qx(Z:List<|List<|Int×Int)(v:Int):Rat:=qt<|cE<|Z.getD v.toNat []
def qy(Z:List<|List<|Int×Int)(v:Int):Rat:=qt<|cW<|Z.getD v.toNat []
structure NQ(L:cq)(r:cc)(F Z:List<|List<|Int×Int):Prop where
 len:Z.z=L.z
 p2:∀q∈Z,P2 q
 s8:∀q∈Z,∀f∈q,Sz 880 f.1/\Sz 880 f.2
 fix:∀x∈r,Z.getD x.toNat []=F.getD (r.idxOf x) []
 mid:∀v:Int,0<=v->v<L.z->v∉r->mH L (qx Z) v/\mH L (qy Z) v
def TL(q:List<|Int×Int):Prop:=q.z=2/\∀f∈q,P6 f
theorem P6.sz(h:P6 f):Sz 62 f.1/\Sz 3 f.2:=by let#[#[c,_],b,a]:=h;exact#[FA a A?,by unfold Sz;lia]
theorem TL.p2(h:TL q):P2 q:=#[h.1,#[λf m=>(h.2 f m).1.1,λf m=>(h.2 f m).sz.1.mono A?,λf m=>(h.2 f m).sz.2.mono A?],λf m=>(h.2 f m).1]
structure mI(F:List<|List<|Int×Int):Prop where
 F0:∀q∈F,TL q
 gl:P4 (F.map wr).reverse
end rY
end
namespace Pu
open PySem L2
def cut(H:Hp)(O:bf):Hp:=λa=>if a∈O then none else H a
theorem aE:cut H O a=some o↔a∉O/\H a=some o:=by unfold cut;by_cases h:a∈O<;>simp[h]
theorem bU(H:Hp)(O:bf):ak (cut H O) H:=λb o e=>(aE.mp e).2
theorem aO(e:ak H H'):ak (cut H O)<|cut H' O:=λb o q=>by let#[c,a]:=aE.mp q;exact aE.mpr #[c,e b o a]
theorem pF(s:∀a∈O',a∈O):ak (cut H O)<|cut H O':=λb o q=>by let#[d,c]:=aE.mp q;exact aE.mpr #[λz=>d<|s b z,c]
theorem cN(e:ak H H')(h:H a=none):ak (cut H O)<|cut H'<|a::O:=λb o q=>by let#[d,c]:=aE.mp q;refine aE.mpr #[λz=>?_,e b o c];ext(z|z:AX.mp z);rw[z,h]at c;cases c;exact d z
theorem pE(h:a∈O):cut (upd H a o) O=cut H O:=by funext b;unfold cut;ext(z:b∈O);rw[Al z,Al z];rw[Ak z,Ak z,aB<|λe=>z<|e>>h]
structure Cell where
 p:Hp->V->Prop
 mono:∀{H H':Hp} {v:V},ak H H'->p H v->p H' v
class Rp (α:Type) where
 dflt:α
 r:Hp->V->α->Prop
 mono:∀{H H':Hp} {v:V} {x:α},ak H H'->r H v x->r H' v x
def is{α:Type}[Rp α](x:α):Cell:=#[λH v=>Rp.r H v x,Rp.mono]
def aW{α:Type}[Rp α](f:α->Prop):Cell:=#[λH v=>∃x,f x/\Rp.r H v x,λe ⟨x,h,q⟩=>#[x,h,Rp.mono e q]]
instance:Rp Int:=#[0,λ_ v x=>v=.int x,λ_ h=>h]
instance:Rp Bool:=#[false,λ_ v x=>v=.bl x,λ_ h=>h]
instance:Rp Unit:=#[Unit.unit,λ_ v _=>v=.dY,λ_ h=>h]
section
variable [Rp α] [Rp β] [Rp γ]
abbrev Rs(H:Hp)(vs:List V)(xs:List α):Prop:=Paired (λv x=>Rp.r H v x) vs xs
theorem Rs.mono{H a:Hp}{vs:List V}{xs:List α}(e:ak H a)(h:Rs H vs xs):Rs a vs xs:=Paired.imp' (λ_ _ q=>Rp.mono e q) h
instance:Rp<|List α:=#[[],λH v xs=>∃a vs,v=.ref a/\H a=some (.lst vs)/\Rs H vs xs,λe ⟨a,vs,h1,h2,h3⟩=>#[a,vs,h1,e _ _ h2,h3.mono e]]
instance:Rp<|α×β:=#[(Rp.dflt,Rp.dflt),λH v x=>∃a u w,v=.ref a/\H a=some (.tup [u,w])/\Rp.r H u x.1/\Rp.r H w x.2,λe ⟨a,u,w,h1,h2,h3,h4⟩=>#[a,u,w,h1,e _ _ h2,Rp.mono e h3,Rp.mono e h4]]
instance:Rp<|Option α:=#[none,λH v x=>match x with|none=>v=.dY|some y=>Rp.r H v y,λ{_ _ _ x} e h=>by cases x with|none=>exact h|some y=>exact Rp.mono (α:=α) e h]
structure Tp(α:Type) where
 l:List α
instance:Rp<|Tp α:=#[#[[]],λH v x=>∃a vs,v=.ref a/\H a=some (.tup vs)/\Rs H vs x.l,λe ⟨a,vs,h1,h2,h3⟩=>#[a,vs,h1,e _ _ h2,h3.mono e]]
end
section
variable {α β:Type} {R:α->β->Prop}
theorem fh:∀{vs:List α} {xs:List β} {i:Nat} {x:β},Paired R vs xs->xs[i]?=some x->∃v,vs[i]?=some v/\R v x
 | _,_,0,_,.cons h _,e=>by cases BV (~~~e);exact#[_,rfl,h]
 | _,_,i+1,_,.cons _ t,e=>fh (i:=i) t (~~~e)
theorem jH:∀{vs:List α} {xs:List β} {i:Nat} {v:α},Paired R vs xs->vs[i]?=some v->∃x,xs[i]?=some x/\R v x
 | _,_,0,_,.cons h _,e=>by cases BV (~~~e);exact#[_,rfl,h]
 | _,_,i+1,_,.cons _ t,e=>jH (i:=i) t (~~~e)
theorem gH:∀{vs us:List α} {xs ys:List β},Paired R vs xs->Paired R us ys->Paired R (vs++us) (xs++ys)
 | _,_,_,_,.nil,h=>h
 | _,_,_,_,.cons a t,h=>.cons a<|gH t h
theorem vZ:∀{vs:List α} {xs:List β} (n:Nat),Paired R vs xs->Paired R (vs.take n) (xs.take n)
 | _,_,0,_=>~~~.nil
 | _,_,_+1,.nil=>.nil
 | _,_,n+1,.cons a t=>.cons a<|vZ n t
theorem CJ:∀{vs:List α} {xs:List β} (n:Nat),Paired R vs xs->Paired R (vs.drop n) (xs.drop n)
 | _,_,0,h=>h
 | _,_,_+1,.nil=>.nil
 | _,_,n+1,.cons _ t=>CJ n t
theorem Hy{v:α}{x:β}(h:R v x):∀{vs:List α} {xs:List β} (n:Nat),Paired R vs xs->Paired R (vs.set n v) (xs.set n x)
 | _,_,_,.nil=>.nil
 | _,_,0,.cons _ t=>.cons h t
 | _,_,n+1,.cons a t=>.cons a<|Hy h n t
theorem Hz(h:Paired R vs xs):Paired R vs.reverse xs.reverse:=by
 induction h with
 | nil=>exact .nil
 | cons a _ b=>rw[reverse_cons,reverse_cons];exact gH b<|.cons a .nil
theorem ky(h:R v x):Paired R [v] [x]:=.cons h .nil
theorem Rm{b:Type}{S:α->b->Prop}{f:β->b}(h:Paired R vs xs)(q:∀v x,x∈xs->R v x->S v (f x)):Paired S vs<|xs.map f:=by
 induction h with
 | nil=>exact .nil
 | cons a _ c=>exact .cons (q _ _ AO a)<|c λv x m=>q v x<|A7 _ m
end
theorem eP(h:Rs H vs ns):vs=ns.f:=by
 induction h with
 | nil=>rfl
 | cons a _ b=>rw[Ap,b];congr 1
theorem p9(H:Hp):∀a:cc,Rs H a.f a
 | []=>.nil
 | _::l=>.cons rfl<|p9 H l
theorem QX(h:Rs H vs ns):vs=ns.map V.bl:=by
 induction h with
 | nil=>rfl
 | cons a _ b=>rw[Ap,b];congr 1
structure Own where
 q:Hp->HO->Prop
 mono:∀{H H':Hp} {o:HO},ak H H'->q H o->q H' o
inductive Sl where
 | un
 | sh (c:Cell)
 | ow (w:Own)
def ol{α:Type}[Rp α](xs:List α):Own:=#[λH o=>∃vs,o=.lst vs/\Rs H vs xs,λe ⟨vs,h,q⟩=>#[vs,h,q.mono e]]
structure En(H0:Hp)(O0:bf)(H:Hp)(O:bf)(σ:St)(e:List Sl):Prop where
 len:σ.z=e.z
 same:ak H0 H
 sub:∀a∈O0,a∈O
 new:∀a∈O,a∉O0->H0 a=none
 rK:∀a∈O,H a≠none
 sh:∀(i:Nat) (c:Cell),e[i]?=some (.sh c)->∃v:V,σ[i]?=some (some v)/\c.p (cut H O) v
 ow:∀(i:Nat) (w:Own),e[i]?=some (.ow w)->∃(a:Addr) (o:HO),σ[i]?=some (a.j)/\a∈O/\a∉O0/\H a=some o/\w.q (cut H O) o
 inj:∀(i j:Nat) (w w':Own) (a:Addr),e[i]?=some (.ow w)->e[j]?=some (.ow w')->σ[i]?=some (a.j)->σ[j]?=some (a.j)->i=j
theorem En.grow(E:En H0 O0 H O σ e)(s:ak H H'):En H0 O0 H' O σ e:=
 #[E.len,E.same.trans s,E.sub,E.new,λa m z=>E.rK a m<|s.free z,λi c h=>by
  let#[v,d,b]:=E.sh i c h;exact#[v,d,c.mono (aO s) b],λi w h=>by
  let#[a,o,d,b,g,j,f]:=E.ow i w h;exact#[a,o,d,b,g,s _ _ j,w.mono (aO s) f],E.inj]
theorem get_set{α:Type}{l:List α}{i j:Nat}{a b:α}(h:(l.set i a)[j]?=some b):(i=j/\b=a)\/(i≠j/\l[j]?=some b):=by ext(z:i=j);subst z;rw[HY]at h;simp at h;exact .inl #[rfl,h.2.symm];rw[FJ z]at h;exact .inr #[z,h]
theorem En.set(E:En H0 O0 H O σ e)(h:c.p (cut H O) v):En H0 O0 H O (σ.set i<|some v)<|e.set i<|.sh c:=
 #[by rw[Ec,Ec,E.len],E.same,E.sub,E.new,E.rK,λj d q=>by
  ext(⟨rfl,z⟩|⟨n,z⟩:get_set q);cases z;let:i<σ.z:=by let:=(AA.mp q).1;rwa[Ec,<-E.len]at this
  exact#[v,Hq this,h];erw[FJ n,E.sh j d z],λj w q=>by
  ext(⟨rfl,z⟩|⟨n,z⟩:get_set q);cases z;erw[FJ n,E.ow j w z],λj k w w' a q f=>by
  ext(⟨rfl,z⟩|⟨n,z⟩:get_set q);cases z;ext(⟨rfl,b⟩|⟨g,b⟩:get_set f);cases b;erw[FJ n,FJ g,E.inj j k w w' a z b]]
theorem En.lay(E:En H0 O0 H O σ e)(s:ak H H')(u:H a=none)(ho:H' a=some o)(h:w.q (cut H'<|a::O) o):En H0 O0 H' (a::O) (σ.set i<|a.j)<|e.set i<|.ow w:=by
 let B:a∉O:=λz=>E.rK a z u;let y:ak (cut H O)<|cut H'<|a::O:=cN s u;refine#[by rw[Ec,Ec,E.len],E.same.trans s,λb m=>A7 _<|E.sub b m,λb m n=>?_,λb m=>?_,λj d q=>?_,λj w' q=>?_,λj k I J b q A t t'=>?_];ext(z|z:AX.mp m);rw[z];exact E.same.free u;exact E.new b z n;ext(z|z:AX.mp m);erw[z,ho,λz=>by cases z]
 exact λg=>E.rK b z<|s.free g;ext(⟨rfl,z⟩|⟨n,z⟩:get_set q);cases z;let#[v,c,f]:=E.sh j d z;exact#[v,FJ n>>c,d.mono y f];ext(⟨rfl,z⟩|⟨n,z⟩:get_set q);cases z;let:i<σ.z:=by let:=(AA.mp q).1;rwa[Ec,<-E.len]at this
 exact#[a,o,Hq this,AO,λz=>B<|E.sub a z,ho,h];let#[b,C,c,f,F,G,D]:=E.ow j w' z;exact#[b,C,FJ n>>c,A7 _ f,F,s _ _ G,w'.mono y D];let l:∀{p:Nat} {w':Own},i≠p->e[p]?=some (.ow w')->σ[p]?≠some (a.j):=λ{p w'} _ z t=>by let#[K,C,c,f,_]:=E.ow p w' z;rw[t]at c;cases c;exact B f
 ext(⟨rfl,z⟩|⟨n,z⟩:get_set q)<;>ext(⟨x,g⟩|⟨r,g⟩:get_set A);exact x;rw[FJ r]at t';let:i<σ.z:=by let:=(AA.mp q).1;rwa[Ec,<-E.len]at this
 rw[Hq this]at t;cases t;exact absurd t'<|l r g;subst x;rw[FJ n]at t;let:i<σ.z:=by let:=(AA.mp A).1;rwa[Ec,<-E.len]at this
 rw[Hq this]at t';cases t';exact absurd t<|l n z;rw[FJ n]at t;rw[FJ r]at t';exact E.inj j k I J b z g t t'
theorem En.put(E:En H0 O0 H O σ e)(p:e[i]?=some (.ow w))(v:σ[i]?=some (a.j))(h:w'.q (cut H O) o):En H0 O0 (upd H a o) O σ<|e.set i<|.ow w':=by
 let#[Q,C,B,g,y,P,N]:=E.ow i w p;rw[v]at B;cases B;let x:cut (upd H a o) O=cut H O:=pE g;refine#[by rw[Ec,E.len],λb u q=>?_,E.sub,E.new,λb m=>?_,λj d q=>?_,λj s q=>?_,λj k s R b q L t t'=>?_];rw[aB<|λz=>by rw[z,E.new a g y]at q;cases q];exact E.same b u q;ext(z:b=a);erw[z,aA,λz=>by cases z]
 rw[aB z];exact E.rK b m;ext(⟨rfl,z⟩|⟨n,z⟩:get_set q);cases z;rw[x];exact E.sh j d z;ext(⟨rfl,z⟩|⟨n,z⟩:get_set q);cases z;exact#[a,o,v,g,y,aA,x>>h];let#[b,C,A,J,M,I,G]:=E.ow j s z;refine#[b,C,A,J,M,?_,x>>G];rw[aB λD=>?_];exact I;exact n (E.inj i j w s a p z v<|by rw[A,D]);let c:∀{r:Nat} {f:Own},(e.set i<|.ow w')[r]?=some (.ow f)->∃l,e[r]?=some (.ow l):=λ{r f} q=>by ext(⟨rfl,_⟩|⟨_,z⟩:get_set q);exact#[_,p];exact#[_,z]
 let#[f,F]:=c q;let#[l,K]:=c L;exact E.inj j k f l b F K t t'
theorem En.share(E:En H0 O0 H O σ e)(u:e[i]?=some (.ow w))(h:∀(H:Hp) (a:Addr) (o:HO),H a=some o->w.q H o->c.p H (.ref a)):∃F,En H0 O0 H F σ<|e.set i<|.sh c:=by let#[a,o,t,L,y,A,x]:=E.ow i w u;let r:ak (cut H O)<|cut H<|O.filter (·≠a):=pF λb m=>(ER.mp m).1;let mem:∀{b:Addr},b∈O->b≠a->b∈O.filter (·≠a):=λm n=>ER.mpr #[m,~~~n];refine#[O.filter (·≠a),by rw[Ec,E.len],E.same,λb m=>mem (E.sub b m) λz=>y<|z▸m,λb m=>E.new b (ER.mp m).1,λb m=>E.rK b (ER.mp m).1,λj d q=>?_,λj f q=>?_,λj k f K b q G=>?_];ext(⟨rfl,z⟩|⟨n,z⟩:get_set q);cases z;exact#[_,t,h _ a o (aE.mpr #[λz=>~~~(ER.mp z).2,A])<|w.mono r x];let#[v,g,s]:=E.sh j d z;exact#[v,g,d.mono r s];ext(⟨rfl,z⟩|⟨n,z⟩:get_set q);cases z;let#[b,J,g,s,I,D,C]:=E.ow j f z;exact#[b,J,g,mem s λB=>n (E.inj i j w f a u z t<|by rw[g,B]),I,D,f.mono r C];ext(⟨rfl,z⟩|⟨n,z⟩:get_set q);cases z;ext(⟨rfl,l⟩|⟨M,l⟩:get_set G);cases l;exact E.inj j k f K b z l
theorem En.drop(E:En H0 O0 H O σ e)(i:Nat):En H0 O0 H O σ<|e.set i .un:=
 #[by rw[Ec,E.len],E.same,E.sub,E.new,E.rK,λj d q=>by
  ext(⟨rfl,z⟩|⟨n,z⟩:get_set q);cases z;exact E.sh j d z,λj w q=>by
  ext(⟨rfl,z⟩|⟨n,z⟩:get_set q);cases z;exact E.ow j w z,λj k w w' a q c=>by
  ext(⟨rfl,z⟩|⟨n,z⟩:get_set q);cases z;ext(⟨rfl,b⟩|⟨f,b⟩:get_set c);cases b;exact E.inj j k w w' a z b]
structure Pe(t:TE)(e:List Sl)(c:Cell):Prop where
 h:∀{H0 H:Hp} {O0 O:bf} {σ:St},En H0 O0 H O σ e->∀Q:VK,(∀v H',ak H H'->c.p (cut H' O) v->Q v H')->t σ H Q
structure Pf(t:TE)(e:List Sl)(w:Own):Prop where
 h:∀{H0 H:Hp} {O0 O:bf} {σ:St},En H0 O0 H O σ e->∀Q:VK,(∀a o H',H a=none->ak H H'->H' a=some o->w.q (cut H'<|a::O) o->Q (.ref a) H')->t σ H Q
structure Pl{α:Type}[Rp α](t:TE)(e:List Sl)(xs:List α):Prop where
 h:∀{H0 H:Hp} {O0 O:bf} {σ:St},En H0 O0 H O σ e->∀Q:VK,(∀a vs H',ak H H'->H' a=some (.lst vs)->Rs (cut H' O) vs xs->Q (.ref a) H')->t σ H Q
structure Pt(t:TT)(e:List Sl)(b:Bool):Prop where
 h:∀{H0 H:Hp} {O0 O:bf} {σ:St},En H0 O0 H O σ e->∀Q:Bool->Hp->Prop,(∀H',ak H H'->Q b H')->t σ H Q
structure Pa(t:TA)(e:List Sl)(cs:List Cell):Prop where
 h:∀{H0 H:Hp} {O0 O:bf} {σ:St},En H0 O0 H O σ e->∀Q:List V->Hp->Prop,(∀vs H',ak H H'->Paired (λv c=>c.p (cut H' O) v) vs cs->Q vs H')->t σ H Q
structure Po(t:TO)(e:List Sl)(o:Option Int):Prop where
 h:∀{H0 H:Hp} {O0 O:bf} {σ:St},En H0 O0 H O σ e->∀Q:Option Int->Hp->Prop,(∀H',ak H H'->Q o H')->t σ H Q
structure Iter{α:Type}[Rp α](J:It)(O:bf)(H1:Hp)(xs:List α):Prop where
 go:∀(i:Nat) (H:Hp),ak (cut H1 O) H->i<xs.z->J.go i H
 yl:∀(i:Nat) (H H':Hp) (v:V) (x:α) (O':bf),ak (cut H1 O) (cut H O')->(∀a∈O',H a≠none)->xs[i]?=some x->J.T7 i H v H'->ak H H'/\Rp.r (cut H' O') v x
 stop:∀(i:Nat) (H:Hp),ak (cut H1 O) H->xs.z<=i->J.stop i H
structure Pi{α:Type}[Rp α](t:TI)(e:List Sl)(xs:List α):Prop where
 h:∀{H0 H:Hp} {O0 O:bf} {σ:St},En H0 O0 H O σ e->∀R:It->Hp->Prop,(∀J H',ak H H'->Iter J O H' xs->R J H')->t σ H R
structure Pg(g:TG)(c:Cell)(e e':List Sl):Prop where
 h:∀{H0 H:Hp} {O0 O:bf} {σ:St},En H0 O0 H O σ e->∀v,c.p (cut H O) v->∀Q:St->Hp->Prop,(∀σ',En H0 O0 H O σ' e'->Q σ' H)->g v σ H Q
structure Go(t:TS)(e:List Sl)(N:List Sl->Prop)(c:Cell):Prop where
 h:∀{H0 H:Hp} {O0 O:bf} {σ:St} {D:Ends},En H0 O0 H O σ e->(∀H' O' σ' e',N e'->En H0 O0 H' O' σ' e'->D.nx σ' H')->(∀v H',ak H0 H'->c.p (cut H' O0) v->D.rt v H')->t D σ H
structure GoH(Hb:Hp)(t:TS)(e:List Sl)(N:List Sl->Prop)(c:Cell):Prop where
 h:∀{H:Hp} {O0 O:bf} {σ:St} {D:Ends},En Hb O0 H O σ e->(∀H' O' σ' e',N e'->En Hb O0 H' O' σ' e'->D.nx σ' H')->(∀v H',ak Hb H'->c.p (cut H' O0) v->D.rt v H')->t D σ H
def ix{α:Type}[Rp α](xs:List α)(i:Int):α:=(oI xs i).getD Rp.dflt
section
variable {α β γ:Type} {iα:Rp α} {iβ:Rp β} {iγ:Rp γ} {c d:Cell} {ta tb:TE} {t u:TS}
theorem kE{H:Hp}{a:Addr}{O:bf}(E:∀b∈O,H b≠none)(h:H a=none):a∉O:=λz=>E a z h
theorem Pf.pe{xs:List α}(h:Pf ta e<|ol xs):Pe ta e<|is xs:=.mk λE Q q=>h.h E Q λa o l i f g ⟨vs,k,j⟩=>by subst k;exact q _ _ f #[a,vs,rfl,aE.mpr #[kE E.rK i,g],j.mono<|pF λb m=>A7 _ m]
theorem Pe.pl{xs:List α}(h:Pe ta e<|is xs):Pl ta e xs:=.mk λE Q q=>h.h E Q λv b s ⟨a,vs,i,f,g⟩=>by subst i;exact q a vs b s (aE.mp f).2 g
theorem Qd{i:Nat}{xs:List α}(h:e[i]?=some (.ow<|ol xs)):Pl (fE i) e xs:=.mk λE Q q=>by let#[a,o,b,j,k,f,vs,rfl,g]:=E.ow i _ h;exact#[_,b,q a vs _ (ak.refl _) f g]
theorem Qj(h:e[i]?=some (.sh c)):Pe (fE i) e c:=.mk λE Q q=>by let#[v,b,a]:=E.sh i c h;exact#[v,b,q v _ (ak.refl _) a]
theorem Qw(h:∀H,c.p H v):Pe (tC v) e c:=.mk λE Q q=>q _ _ (ak.refl _)<|h _
theorem Qz{f:V->V->Hp->VK->Prop}{x:α}{y:β}(s:Pe ta e<|is x)(m:Pe tb e<|is y)(h:∀{k H:Hp} {o O:bf} {σ:St},En k o H O σ e->∀v w,Rp.r (cut H O) v x->Rp.r (cut H O) w y->∀Q:VK,(∀v a,ak H a->c.p (cut a O) v->Q v a)->f v w H Q):Pe (mK f ta tb) e c:=.mk λE Q q=>
 s.h E _ λv B b j=>m.h (E.grow b) _ λw A s2 n=>h (E.grow<|b.trans s2) v w (Rp.mono (aO s2) j) n Q λz l g i=>q z l (b.trans<|s2.trans g) i
theorem Gq{f:Int->Int->Int}{i j:Int}(g:Pe ta e<|is i)(h:Pe tb e<|is j):Pe (mK (Kv λi j=>.int<|f i j) ta tb) e<|is<|f i j:=
 Qz g h λ_ v w b a Q q=>#[i,j,b,a,q _ _ (ak.refl _) rfl]
theorem uR{f:Int->Int->Bool}{i j:Int}(g:Pe ta e<|is i)(h:Pe tb e<|is j):Pe (mK (Kv λi j=>.bl<|f i j) ta tb) e<|is<|f i j:=
 Qz g h λ_ v w b a Q q=>#[i,j,b,a,q _ _ (ak.refl _) rfl]
theorem pJ{C:Int->Int->Prop}{f:Int->Int->Int}{i j:Int}(h:Pe ta e<|is i)(k:Pe tb e<|is j)(g:C i j):Pe (mK (rI C λi j=>.int<|f i j) ta tb) e<|is<|f i j:=
 Qz h k λ_ v w b a Q q=>#[i,j,b,a,g,q _ _ (ak.refl _) rfl]
theorem Qu{i j:Int}(f:Pe ta e<|is i)(g:Pe tb e<|is j):Pe (mK Ub ta tb) e<|is<|decide<|i=j:=
 Qz f g λ_ v w b a Q q=>by cases b;cases a;exact OL<|q _ _ (ak.refl _) rfl
theorem Qo{i j:Int}(f:Pe ta e<|is i)(g:Pe tb e<|is j):Pe (mK Yt ta tb) e<|is<|!decide (i=j):=
 Qz f g λ_ v w b a Q q=>by cases b;cases a;exact #[rfl,pB>>Bool.beq_eq_decide_eq>>(q _ _ (ak.refl _) rfl)]
theorem Qk{f:Int->Int}{i:Int}(g:Pe ta e<|is i):Pe (tUn (rU λi=>.int<|f i) ta) e<|is<|f i:=.mk λE Q q=>g.h E _ λv j a b=>#[i,b,q _ _ a rfl]
theorem BY{R:V->α->Prop}{vs:List V}{xs:List α}{i:Int}{x:α}(h:Paired R vs xs)(a:oI xs i=some x):∃v,oI vs i=some v/\R v x:=by
 unfold oI at a ⊢;rw[show vs.z=xs.z from Bm h];cases q:xP xs.z i with
 | none=>rw[q]at a;cases a
 | some j=>rw[q]at a;exact fh h a
theorem Qq{x:α}{i:Int}(n:Pl ta e xs)(g:Pe tb e<|is i)(h:oI xs i=some x):Pe (mK (L7 K) ta tb) e<|is x:=.mk λE Q q=>
 n.h E _ λa vs o b l f=>g.h (E.grow b) _ λw k s2 j=>by cases j;let#[v,m,rv]:=BY f h;exact#[a,vs,i,v,rfl,rfl,bH.of<|s2 _ _ l,m,q v k (b.trans s2)<|Rp.mono (aO s2) rv]
theorem O3{xs:List α}{i:Int}(h : -(xs.z:Int)<=i/\i<xs.z):oI xs i=some (ix xs i):=by unfold ix oI xP;ext(z:0<=i);rw[Al z,Al h.2,KW,me ()];rfl;rw[Ak z,Al h.1,KW,me ()];rfl
theorem Om{xs:List α}{i:Int}(a:Pl ta e xs)(b:Pe tb e<|is i)(h : -(xs.z:Int)<=i/\i<xs.z):Pe (mK (L7 K) ta tb) e<|is<|ix xs i:=Qq a b<|O3 h
theorem zer(i:Pe ta e c)(f:Pa tr e cs):Pa (aG ta tr) e<|c::cs:=.mk λE Q q=>
 i.h E _ λv k a g=>f.h (E.grow a) _ λvs j s2 b=>q _ _ (a.trans s2)<|.cons (c.mono (aO s2) g) b
theorem jB{H e:Hp}{O:bf}{a:Addr}{o:HO}(E:∀b∈O,H b≠none)(h:H a=none)(q:e a=some o):cut e O a=some o:=aE.mpr #[kE E h,q]
theorem OE{H:Hp}:∀{vs:List V} {xs:List α},Paired (λv c=>Cell.p c H v) vs (xs.map is)->Rs H vs xs
 | _,[],.nil=>.nil
 | _,_::_,.cons a t=>.cons a<|OE t
theorem Qi{f:TA}{xs:List α}(h:Pa f e<|xs.map is)(i:D! (xs.z<=1000)):Pf (UZ f) e<|ol xs:=.mk λE Q q=>
 h.h E _ λvs g b r=>by let r:=OE r;let:=Bm r;exact#[FE<|Gm.eI (),λp a=>q p _ _ (b.free a) (b.trans<|ak.upd a) aA #[vs,rfl,r.mono<|cN (ak.upd a) a]]
theorem Gw{xs:List α}(i:Pl ta e xs):Pe (jT (λxs H Q=>∃x n,xs=[x]/\Ka K x H n/\Q (.int n) H)<|aG ta bN) e<|is (xs.z:Int):=.mk λE Q q=>
 i.h E _ λa vs j b f g=>#[_,_,rfl,.inl #[vs,bH.of f,rfl],q _ _ b<|by rw[Bm g];rfl]
theorem B9(h:Pe ta e<|is b):Pt (tj ta) e b:=.mk λE Q q=>h.h E _ λv g a f=>#[b,f,q _ a]
theorem Gb(h:Pe ta e<|is b):Pt (tB ta) e b:=.mk λE Q q=>h.h E _ λv g a f=>#[b,f,q _ a]
theorem Gd{t u:TT}{a b:Bool}(h:Pt t e a)(k:a=true->Pt u e b):Pt (U2 t u) e<|a&&b:=.mk λE Q q=>h.h E _ λi f=>by
 cases a with
 | true=>exact(k rfl).h (E.grow f) _ λg s2=>q g<|f.trans s2
 | false=>exact q i f
theorem Ol{t u:TT}{a b:Bool}(h:Pt t e a)(k:a=false->Pt u e b):Pt (tOr t u) e<|a || b:=.mk λE Q q=>h.h E _ λi f=>by
 cases a with
 | false=>exact(k rfl).h (E.grow f) _ λg s2=>q g<|f.trans s2
 | true=>exact q i f
theorem Cf(h:Pe ta e<|is a)(k:a=true->Pe tb e (is b)):Pe (OA ta tb) e<|is<|a&&b:=.mk λE Q q=>h.h E _ λv j f l=>#[a,l,by
 cases a with
 | true=>exact(k rfl).h (E.grow f) _ λw i s2 g=>q w i (f.trans s2) g
 | false=>exact q _ j f rfl]
def part(xs:List α)(lo a:Option Int):List α:=(xs.drop<|HT.tN xs.z 0 lo).take<|HT.tN xs.z xs.z a-HT.tN xs.z 0 lo
theorem zdS(h:Pe ta e<|is i):Po (Ot ta) e<|some i:=.mk λE Q q=>h.h E _ λv f a b=>#[i,b,q _ a]
theorem UM{xs:List α}{lo i:Option Int}{k l:TO}(r:Pl ta e xs)(n:Po k e lo)(m:Po l e i):Pf (tSl (Vl K) ta k l) e<|ol<|part xs lo i:=.mk λE Q q=>
 r.h E _ λa vs w g o j=>n.h (E.grow g) _ λv s2=>m.h (E.grow<|g.trans s2) _ λs b=>by refine#[a,vs,rfl,bH.of<|b _ _<|s2 _ _ o,λp f=>q p _ _ ((g.trans<|s2.trans b).free f) (g.trans<|s2.trans<|b.trans<|ak.upd f) aA #[_,rfl,?_]];unfold JH part;erw[show vs.z=xs.z from Bm j,vZ _<|CJ _<|Rs.mono (cN ((s2.trans b).trans<|ak.upd f)<|(s2.trans b).free f) j]
theorem Gi{xs ys:List α}(n:Pl ta e xs)(l:Pl tb e ys)(r:xs.z+ys.z<=1000):Pf (mK Vo ta tb) e<|ol<|xs++ys:=.mk λE Q q=>
 n.h E _ λa vs w g m i=>l.h (E.grow g) _ λb us v s2 k j=>by let o:=Bm i;let s:=Bm j;refine#[a,b,vs,us,rfl,rfl,s2 _ _ m,k,FE<|Gm.eI (),λp f=>q p _ _ ((g.trans s2).free f) (g.trans<|s2.trans<|ak.upd f) aA #[_,rfl,?_]];exact gH (Rs.mono (cN (s2.trans<|ak.upd f)<|s2.free f) i)<|Rs.mono (cN (ak.upd f) f) j
def FT(A:List Cell->Cell->Prop):Sp:=λvs H Q _=>∃(e:List Cell) (c:Cell) (O:bf),(∀a∈O,H a≠none)/\Paired (λv c=>Cell.p c (cut H O) v) vs e/\A e c/\∀v b,ak H b->c.p (cut b O) v->Q v b
theorem zet(i:Pa ts e cs)(h:A cs c):Pe (tD (FT A) [] E ts) e c:=.mk λEn Q q=>
 i.h En _ λvs j a g=>#[cs,c,_,(En.grow a).rK,GA>>g,h,λv b s2 f=>q v b (a.trans s2) f]
theorem eO:Pg (bI i) c e<|e.set i<|.sh c:=.mk λE v h Q q=>q _<|E.set h
theorem As{f g:TG}{x:α}{y:β}(o:Pg f (is x) e e1)(j:Pg g (is y) e1 e2):Pg (oG K 2<|dA f<|dA g oH) (is (x,y)) e e2:=.mk λE v ⟨a,u,w,k,l,i,n⟩ Q q=>
 #[a,[u,w],k,mF.of (aE.mp l).2,rfl,u,[w],rfl,o.h E u i _ λp m=>#[w,[],rfl,j.h m w n _ λb r=>#[rfl,q b r]]]
theorem I0(l:Pf ta e w)(m:Go u (e.set i<|.ow w) N c):Go (gG (mT ta<|bI i) u) e N c:=.mk λE n k=>l.h E _ λa o p g f b j=>m.h (E.lay f g b j) n k
theorem Bo(g:Pe ta e c):Go (LA ta) e N c:=.mk λE j i=>g.h E _ λv a b f=>i v a (E.same.trans b)<|c.mono (pF E.sub) f
theorem WD(j:Pt tt e b)(k:b=true->Go t e N c)(i:b=false->Go u e N c):Go (U0 tt t u) e N c:=.mk λE g f=>j.h E _ λl a=>by
 cases b with
 | true=>exact(k rfl).h (E.grow a) g f
 | false=>exact(i rfl).h (E.grow a) g f
theorem zec{i:Nat}{xs:List α}(l:e[i]?=some (.ow<|ol xs))(h:Go t (e.set i<|.sh<|is xs) N c):Go t e N c:=.mk λE m k=>by let#[n,f]:=E.share (c:=is xs) l λH a o j ⟨vs,b,g⟩=>#[a,vs,rfl,by rw[j,b],g];exact h.h f m k
theorem zaR{i:Nat}{x:α}(j:e[i]?=some (.ow<|ol xs))(n:Pe ta e<|is x)(w:xs.z<1000)(h:Go u (e.set i<|.ow<|ol<|xs++[x]) N c):Go (gG (tw<|U1 K "list" vU (fE i)<|aG ta bN) u) e N c:=.mk λE q p=>by let#[a,o,k,r,s,g,vs,rfl,f]:=E.ow i _ j;refine#[_,k,.inl #[rfl,vs,bH.of g],n.h E _ λv y b m=>?_];let l:=Bm f;exact#[a,vs,v,rfl,rfl,b _ _ g,Gm.eI (),h.h ((E.grow b).put j k #[_,rfl,gH (Rs.mono (aO b) f)<|ky m]) q p]
theorem zaK{i:Nat}{xs ys:List α}(k:e[i]?=some (.ow<|ol xs))(q:Pl ta e ys)(y:xs.z+ys.z<=10000)(h:Go u (e.set i<|.ow<|ol<|xs++ys) N c):Go (gG (tw<|U1 K "list" CG (fE i)<|aG ta bN) u) e N c:=.mk λE s r=>by let#[a,o,n,v,w,j,vs,rfl,g]:=E.ow i _ k;refine#[_,n,.inl #[rfl,vs,bH.of j],q.h E _ λb us z f p m=>?_];let l:=Bm g;let x:=Bm m;exact#[a,b,vs,us,rfl,rfl,f _ _ j,p,by rw[La];lia,h.h ((E.grow f).put k n #[_,rfl,gH (Rs.mono (aO f) g) m]) s r]
theorem SG{i j:Nat}{x:α}(g:e[i]?=some (.ow<|ol<|xs++[x]))(h:Go u ((e.set i<|.ow<|ol xs).set j<|.sh<|is x) N c):Go (gG (mT (QP K "list" Vm<|fE i)<|bI j) u) e N c:=.mk λ{z H A O σ D} E w r=>by
 let#[a,o,k,m,y,f,vs,rfl,b]:=E.ow i _ g;let l:vs.z=xs.z+1:=by rw[show vs.z=(xs++[x]).z from Bm b];simp
 let#[v,p,s]:=fh (i:=xs.z) (x:=x) b A!;let q:vs.dropLast=vs.take xs.z:=by rw[dropLast_eq_take,l];rfl
 refine#[_,k,.inl #[rfl,vs,bH.of f],a,vs,v,rfl,rfl,f,l>>p,?_];let n:=E.put (w':=ol xs) (o:=.lst vs.dropLast) g k #[_,rfl,by rw[q];let:=vZ xs.z b;rwa [take_left]at this];exact h.h (n.set (c:=is x)<|pE m>>s) w r
theorem SF{i j:Nat}{p:TE}{x:α}{k:Int}(b:e[i]?=some (.ow<|ol xs))(A:Pe ta e<|is x)(q:Pe p e<|is k)(C:xP xs.z k=some j)(h:Go u (e.set i<|.ow<|ol<|xs.set j x) N c):Go (gG (mT ta<|WG (fE i) p ON) u) e N c:=.mk λE D B=>by refine A.h E _ λv I z s=>?_;let f:=E.grow z;let#[a,o,g,_]:=f.ow i _ b;refine#[_,g,q.h f _ λw H s2 y=>?_];cases y;let m:=f.grow s2;let#[J,K,n,F,G,r,vs,rfl,l]:=m.ow i _ b;rw[g]at n;cases n;exact#[a,vs,k,j,rfl,rfl,r,by erw[show vs.z=xs.z from (Bm l),C],h.h (m.put b g #[_,rfl,Hy (Rp.mono (aO s2) s) j l]) D B]
theorem zpr{α β:Type}{R:α->β->Prop}{l:List α}{a b:β}:Paired R l [a,b]->∃v w,l=[v,w]/\R v a/\R w b|.cons r (.cons s .nil)=>#[_,_,rfl,r,s]
theorem SH(f:Pa ts e [c1,c2])(h:Go u ((e.set i<|.sh c1).set j<|.sh c2) N c):Go (gG (UX i j ts) u) e N c:=.mk λE g b=>by
 refine f.h E _ λvs k a r=>?_
 let#[v,w,z,q,s]:=zpr r;subst z;exact#[v,w,rfl,h.h (((E.grow a).set q).set s) g b]
end
def bare(H:Hp)(O b:bf):Hp:=λa=>if a∈O/\a∉b then none else H a
theorem zeE:ak (bare H O O0) H:=λb o q=>by unfold bare at q;split at q;cases q;exact q
theorem En.rebase(E:En H0 O0 H O σ e)(c:En (bare H O O0) O0 H' O' σ' e'):En H0 O0 H' O' σ' e':=by
 have s:ak H0 (bare H O O0):=λb o q=>by unfold bare;rw[Ak λz=>by rw[E.new b z.1 z.2]at q;cases q];exact E.same b o q
 exact⟨c.len,s.trans c.same,c.sub,λa m n=>s.free (c.new a m n),c.rK,c.sh,c.ow,c.inj⟩
theorem En.keeps(E:En H0 O0 H O σ e)(c:En (bare H O O0) O0 H' O' σ' e'):ak (cut H O)<|cut H' O':=λb o q=>by
 let#[d,f]:=aE.mp q;let a:bare H O O0 b=some o:=by unfold bare;erw[Ak λz=>d z.1,f]
 refine aE.mpr #[λz=>?_,c.same b o a];ext(n:b∈O0);exact d<|E.sub b n;rw[c.new b z n]at a;cases a
section
variable {α β γ:Type} {iα:Rp α} {iβ:Rp β} {iγ:Rp γ} {c d:Cell} {ta tb:TE} {t u:TS}
theorem Bp{xs:List α}{K:TI}{g:TG}{tb:TS}(W:Nat->List Sl->Prop)(hi:Pi K e xs)(X:W 0 e)(hs:∀k x f,xs[k]?=some x->W k f->∃e2,Pg g (is x) f e2/\Go tb e2 (W (k+1)) c)(hu:∀f,W xs.length f->Go u f N c):Go (gG (LB K g tb) u) e N c:=.mk λ{H0 H w O σ D} E hn G=>by
 refine hi.h E _ λJ Q s1 I=>?_;have j:=E.grow s1;refine⟨λi m s r=>m+i=xs.length/\∃B f,W i f/\En (bare Q O w) w r B s f,⟨xs.length,rfl,O,e,X,⟨j.len,zeE,j.sub,λa m n=>by unfold bare;rw[Al ⟨m,n⟩],j.rK,j.sh,j.ow,j.inj⟩⟩,?_⟩;rintro i m s r ⟨hm,B,f,P,p⟩;have C:=j.keeps p;by_cases F:i<xs.length;refine .inr ⟨I.go i r (C.trans (bU _ _)) F,λl M=>∃y e2,W (i+1) e2/\En (bare Q O w) w M y l e2,λl M ⟨y,e2,h1,T⟩=>⟨m-1,by lia,by lia,y,e2,h1,T⟩,λv Z hy=>?_⟩;obtain⟨S,Y⟩:=I.yl i r Z v xs[i] B C p.rK (me F) hy;obtain⟨e2,hg,A⟩:=hs i xs[i] f (me F) P;exact hg.h (p.grow S) v Y _ λl E2=>A.h E2 (λL R σ4 e4 U E4=>⟨R,e4,U,E4⟩) λv' L s4 r4=>G v' L (λb o q=>s4 b o (by unfold bare;rw[Ak λz=>by rw[j.new b z.1 z.2]at q;cases q];exact j.same b o q)) r4;have Uj:i=xs.length:=by lia
 subst Uj;exact .inl ⟨I.stop _ r (C.trans (bU _ _)) (Xx _),(hu f P).h ((λp=>j.rebase p) p) hn G⟩
theorem zee{r:TT}{tb:TS}(W:Nat->List Sl->Prop)(C:∃m,W m e)(M:∀m a,W m a->∃b,Pt r a b/\(b=true->Go tb a (λe2=>∃f,f<m/\W f e2) c)/\(b=false->Go u a N c)):Go (gG (GP r tb) u) e N c:=.mk λ{l H n O σ D} E Q o=>by
 let#[m,J]:=C;refine#[λm g p=>∃q a,W m a/\En l n p q g a,#[m,O,e,J,E],?_];ext m g p ⟨q,a,P,j⟩;let#[b,L,G,y]:=M m a P;refine L.h j _ λS v=>?_;cases b with
 | true=>
  exact#[λi s=>∃k e2,(∃f,f<m/\W f e2)/\En l n s k i e2,λi s ⟨k,e2,⟨f,A,B⟩,x⟩=>#[f,A,k,e2,B,x],(G rfl).h (j.grow v) (λR w I K z F=>#[w,K,z,F]) o]
 | false=>exact(y rfl).h (j.grow v) Q o
theorem Ca{xs:List α}(h:Pe ta e<|is xs):Pi (O8 K ta) e xs:=.mk λ{C H D O σ} E R q=>h.h E _ λv l o ⟨a,vs,p,k,f⟩=>by
 subst p;let j:∀{b:Hp},ak (cut l O) b->b a=some (.lst vs):=λs=>s _ _ k;let uniq:∀{b:Hp} {ys:List V},b a=some (.lst vs)->bH K b a ys->True:=λ_ _=>trivial;refine#[a,rfl,#[vs,bH.of<|(aE.mp k).2],q _ l o #[λi b s g=>?_,λi b G v x B s F A ⟨n,y⟩=>?_,λi b s g=>#[vs,bH.of<|j s,by erw[show vs.z=xs.z from Bm f,g]]]];let r:i<vs.z:=by erw[show vs.z=xs.z from Bm f,g]
 exact#[vs,vs[i],bH.of<|j s,me r];subst n;let#[w,m,z]:=fh f A;let:=y vs<|bH.of<|j<|s.trans<|bU _ _;rw[m]at this;cases this;exact#[ak.refl _,Rp.mono s z]
def xZ(lo:Int)(n:Nat):cc:=(List.range n).map λk:Nat=>lo+(k:Int)
theorem kT(lo:Int)(n:Nat):(xZ lo n).z=n:=by unfold xZ;rw[ZO,Er]
theorem QD:(xZ lo n)[k]?=some x↔k<n/\x=lo+(k:Int):=by unfold xZ;rw[AY];ext(h:k<n);rw[Fy h];simp[h,eq_comm];rw[Eu<|by rw[Er];lia];simp[h]
theorem zB:Iter (Xb lo n) O H1<|xZ lo n:=
 #[λi H _ h=>by rwa[kT]at h,λi H f v x g _ _ e ⟨b,a⟩=>by subst b;exact#[ak.refl _,(QD.mp e).2>>a],λi H _ h=>by rwa[kT]at h]
theorem zdH(f:Pe ta e<|is n)(h : -(2 ^ 62)<=n/\n<2 ^ 62):Pi (IM<|aG ta bN) e<|xZ 0 n.toNat:=.mk λE R q=>f.h E _ λv g a b=>by cases b;exact#[n,rfl,h.1,h.2,q _ _ a zB]
theorem zdJ(g:Pe ta e<|is m)(i:Pe tb e<|is n)(h : -(2 ^ 62)<=m/\m<2 ^ 62/\-(2 ^ 62)<=n/\n<2 ^ 62):Pi (O7<|aG ta<|aG tb bN) e<|xZ m (n-m).toNat:=.mk λE R q=>g.h E _ λv k a f=>i.h (E.grow a) _ λw j s2 b=>by cases f;cases b;exact#[m,n,rfl,h,q _ _ (a.trans s2) zB]
def enum(xs:List α):List<|Int×α:=xs.zipIdx.map λp=>(((p.2:Nat):Int),p.1)
theorem iF{k:Nat}:(enum xs)[k]?=some y↔∃x,xs[k]?=some x/\y=((k:Int),x):=by
 unfold enum;rw[AY,getElem?_zipIdx];cases q:xs[k]? with
 | none=>simp
 | some x=>simp[eq_comm]
theorem fY(xs:List α):(enum xs).z=xs.z:=by unfold enum;simp
theorem zfL{xs:List α}(h:Pe ta e<|is xs):Pi (O9 K<|aG ta bN) e<|enum xs:=.mk λ{J H L O σ} E R q=>h.h E _ λv m F ⟨a,vs,A,j,l⟩=>by subst A;let f:∀{b:Hp},ak (cut m O) b->b a=some (.lst vs):=λs=>s _ _ j;let N:=Bm l;refine#[a,rfl,#[vs,bH.of<|(aE.mp j).2],q _ m F #[λi b s g=>?_,λi b P v x M s G I ⟨p,y,k,B,r,n⟩=>?_,λi b s g=>#[vs,bH.of<|f s,by rw[fY]at g;lia]]];rw[fY]at g;exact#[vs,vs[i]'(),bH.of<|f s,me _];subst B n;let#[z,D,rfl]:=iF.mp I;let#[w,o,C]:=fh l D;let:=r vs<|bH.of<|f<|s.trans<|bU _ _;rw[o]at this;cases this;let s2:ak b<|upd b p<|.tup [.int i,y]:=ak.upd k;exact#[s2,p,.int i,y,rfl,jB G k aA,rfl,Rp.mono (s.trans<|aO s2) C]
theorem Qe{xs:List α}{ys:List β}(h:Pe ta e<|is xs)(k:Pe tb e<|is ys):Pi (V5 K<|aG ta<|aG tb bN) e<|xs.zip ys:=.mk λ{X H Z O σ} E R q=>h.h E _ λv H1 F ⟨a,vs,L,j,l⟩=>k.h (E.grow F) _ λw D s2 ⟨b,us,S,A,B⟩=>by subst L S;replace j:=aO s2 _ _ j;replace l:=Rs.mono (aO s2) l;let g:∀{f:Hp},ak (cut D O) f->f a=some (.lst vs)/\f b=some (.lst us):=λs=>#[s _ _ j,s _ _ A];let hl:=Bm l;let Y:=Bm B;refine#[a,b,rfl,#[vs,bH.of (aE.mp j).2],#[us,bH.of (aE.mp A).2],q _ D (F.trans s2) #[λi f s n=>?_,λi f Xe v x O' s Q W J=>?_,λi f s n=>?_]];rw[G9]at n;exact#[vs,us,vs[i]'(),us[i]'(),bH.of (g s).1,bH.of (g s).2,me _,me _];let#[p,y,z,o,N,m,U,G]:=J;subst N G;let#[z1,z2]:=x;let#[e1,e2]:=Ki.mp W;let#[w1,I,P]:=fh l e1;let#[w2,T,M]:=fh B e2;let r:=m vs<|bH.of (g<|s.trans<|bU _ _).1;let C:=U us<|bH.of (g<|s.trans<|bU _ _).2;rw[I]at r;rw[T]at C;cases r;cases C;let s2:ak f<|upd f p<|.tup [y,z]:=ak.upd o;exact#[s2,p,y,z,rfl,jB Q o aA,Rp.mono (s.trans<|aO s2) P,Rp.mono (s.trans<|aO s2) M];rw[G9]at n;exact#[vs,us,bH.of (g s).1,bH.of (g s).2,()]
theorem eN{a:Type}{l m:List a}{i:Nat}{x:a}(h:(l++m)[i]?=some x):(i<l.z/\l[i]?=some x)\/(l.z<=i/\m[i-l.z]?=some x):=by rw[getElem?_append]at h;split at h;exact .inl #[by assumption,h];exact .inr #[(),h]
def inner(n:Nat)(a:List Nat)(e:List Sl):List Sl:=List.replicate n .un++a.map λi=>match e[i]? with|some (.sh c)=>.sh c|_=>.un
theorem En.block(E:En H0 O0 H O σ e)(s:ak H H')(A:H l=none)(h':H' l=some o):En (λ_=>none) (l::O) H' (l::O) (eE n fr σ)<|inner n fr e:=by
 refine#[by unfold eE inner;simp,λb o q=>(by cases q),λ_ m=>m,λa m n=>absurd m n,λa m=>?_,λi c q=>?_,λi w q=>?_,λi j w w' a q=>?_]
 ·ext(z|z:AX.mp m)
  ·erw[z,h',λz=>by cases z]
  ·exact λx=>E.rK a z<|s.free x
 ·unfold inner at q;ext(⟨h,f⟩|⟨h,f⟩:eN q)
  ·rw[Hw]at f;split at f<;>cases f
  ·rw[LH]at h f;rw[AY]at f;let#[k,p,g]:=GF.mp f;split at g
   ·next c' q'=>
    cases g
    let#[v,r,y]:=E.sh k _ q';refine#[v,?_,Cell.mono _ (cN s A) y];unfold eE;rw[Fg (LH>>h),LH,AY,p];simp[r]
   ·cases g
 ·exfalso;unfold inner at q;ext(⟨h,f⟩|⟨h,f⟩:eN q)
  ·rw[Hw]at f;split at f<;>cases f
  ·rw[AY]at f;let#[k,p,g]:=GF.mp f;split at g<;>cases g
 ·exfalso;unfold inner at q;ext(⟨h,f⟩|⟨h,f⟩:eN q)
  ·rw[Hw]at f;split at f<;>cases f
  ·rw[AY]at f;let#[k,p,g]:=GF.mp f;split at g<;>cases g
theorem eJ(h:i<n):(inner n fr e)[i]?=some .un:=by unfold inner;rw[Eh (LH>>h),Hw,Al h]
theorem pP{a:Type}{l:List a}{i:Nat}{x y:a}(h:l[i]?=some x):(l.set i y).set i x=l:=by rw[set_set];apply Gx;ext j;ext(z:i=j);subst z;rw[h,Hq (AA.mp h).1];rw[FJ z]
theorem Cb(f:α->β)(b:α->Bool)(A:α->List Sl)(hi:Pi wi e xs)(hg:∀x∈xs,Pg g (is x) (inner n fr e)<|A x)(Y:∀{C H F O σ x},x∈xs->En C F H O σ (A x)->En C F H O σ (inner n fr e))(ht:∀x∈xs,Pt tt (A x)<|b x)(he:∀x∈xs,b x=true->Pe te (A x) (is<|f x))(hl:xs.z<=1000):Pf (nV wi g tt te n fr) e<|ol<|(xs.filter b).map f:=.mk λ{C H F O σ} E Q q=>by
 refine hi.h E _ λJ Z N I j l=>#[λi m r ys k=>m+i=xs.z/\ak Z k/\k j=some (.lst ys)/\Rs (cut k<|j::O) ys (((xs.take i).filter b).map f)/\En (λ_=>none) (j::O) k (j::O) r (inner n fr e),
  #[xs.z,rfl,ak.upd l,aA,~~~.nil,(E.grow N).block (ak.upd l) l aA],?_]
 ext i m r ys k ⟨hm,s2,G,s,U⟩;let M:ak (cut Z O)<|cut k<|j::O:=cN s2 l;ext(L:i<xs.z);let hx:=me L;let mx:=ET L;let X:xs.take (i+1)=xs.take i++[xs[i]]:=by rw[Ir,hx];rfl
 refine .inr #[I.go i k (M.trans<|bU _ _) L,λv H3 hy=>?_];let#[P,r3]:=I.yl i k H3 v xs[i] _ M U.rK hx hy;refine(hg _ mx).h (U.grow P) v r3 _ λσ2 W=>(ht _ mx).h W _ λH4 R=>?_;let D:=W.grow R;let B:=P.trans R;cases hb:b xs[i]with
 | true=>
  rw[Al rfl];refine(he _ mx hb).h D _ λy T S r5=>?_;let K:=B.trans S;let l5:ys.z<=i:=by erw[show ys.z=_ from Bm s,ZO,Ay (LF _ _)<|by rw[Fb];lia]
  let hc:cut (upd T j<|.lst<|ys++[y]) (j::O)=cut T (j::O):=pE AO;refine#[K _ _ G,Gm.eI (),m-1,(),(),Gm.ak.fresh (s2.trans K) l,aA,?_,?_];rw[hc,X,Hi,EE];refine gH (Rs.mono (aO K) s) ?_;rw[Jr,hb,Al rfl];exact ky r5;let p:=Y mx<|D.grow S;refine#[p.len,λb o q=>(by cases q),λ_ m=>m,λa m n=>absurd m n,λa m=>?_,λi c q=>hc>>p.sh i c q,λi w q=>?_,p.inj];ext(z:a=j);erw[z,aA,λz=>by cases z]
  rw[aB z];exact p.rK a m;let#[a',o',g1,g2,g3,_]:=p.ow i w q;exact absurd g2 g3
 | false=>
  rw[Ak Bj];refine#[m-1,(),(),s2.trans B,B _ _ G,?_,Y mx D];erw[X,Hi,EE,Jr,hb,Ak Bj,filter_nil,map_nil,GA,Rs.mono (aO B) s]
 rw[Jj ()]at s;exact .inl #[I.stop _ k (M.trans<|bU _ _) (),q j _ k (N.free l) (N.trans s2) G #[ys,rfl,s]]
end
end Pu
namespace Pu
open PySem PySem.Spec PySem.W PySem.Calls PyProof.Rows L2
theorem zfj(o:∀a∈O,H a≠none)(h:Paired (λv c=>Cell.p c (cut H O) v) vs cs):En H O H O (vs.map some++List.replicate m none)<|cs.map Sl.sh++List.replicate m .un:=by let l:=Bm h;refine#[by simp[l],ak.refl _,λ_ m=>m,λa m n=>absurd m n,o,λi c q=>?_,λi w q=>?_,λi j w w' a q=>?_];ext(⟨d,b⟩|⟨d,b⟩:eN q);rw[AY]at b;let#[g,f,e]:=GF.mp b;cases e;let#[v,k,r]:=fh h f;rw[ZO]at d;exact#[v,by rw[Eh (by simpa[l]using d),AY,k];rfl,r];rw[Hw]at b;split at b<;>cases b;exfalso;ext(⟨d,b⟩|⟨d,b⟩:eN q);rw[AY]at b;let#[g,f,e]:=GF.mp b;cases e;rw[Hw]at b;split at b<;>cases b;exfalso;ext(⟨d,b⟩|⟨d,b⟩:eN q);rw[AY]at b;let#[g,f,e]:=GF.mp b;cases e;rw[Hw]at b;split at b<;>cases b
end Pu
namespace Pu
open PySem L2
def ur{α β:Type}[Rp α][Rp β](d:α->Prop)(F:α->β)(a:List Cell)(c:Cell):Prop:=∃x,d x/\a=[is x]/\c=is (F x)
def Bt{α β a:Type}[Rp α][Rp β][Rp a](d:α->β->Prop)(F:α->β->a)(b:List Cell)(c:Cell):Prop:=∃x y,d x y/\b=[is x,is y]/\c=is (F x y)
def Pz{α β a b:Type}[Rp α][Rp β][Rp a][Rp b](d:α->β->a->Prop)(F:α->β->a->b)(e:List Cell)(c:Cell):Prop:=∃x y z,d x y z/\e=[is x,is y,is z]/\c=is (F x y z)
def fn4{α β b a e:Type}[Rp α][Rp β][Rp b][Rp a][Rp e](d:α->β->b->a->Prop)(F:α->β->b->a->e)(f:List Cell)(c:Cell):Prop:=∃x y z w,d x y z w/\f=[is x,is y,is z,is w]/\c=is (F x y z w)
section
variable {α β γ:Type} {iα:Rp α} {iβ:Rp β} {iγ:Rp γ} {c d:Cell} {ta tb:TE} {t u:TS}
theorem cH{k:Nat}(h:k<xs.z):ix xs (k:Int)=xs.getD k iα.dflt:=by unfold ix oI xP;rw[Al (),Al (),KW,EC,su]
theorem Nb{xs:List α}{b:TI}{j:Nat}{tb:TS}(W:Nat->List Sl->Prop)(i:Pi b e xs)(l:W 0 e)(f:∀k x a,xs[k]?=some x->W k a->Go tb (a.set j<|.sh<|is x) (W<|k+1) c)(m:∀a,W xs.z a->Go u a N c):Go (gG (LB b (bI j) tb) u) e N c:=
 Bp W i l (λk x a g h=>#[_,eO,f k x a g h]) m
theorem zbU{xs:List<|α×β}{b:TI}{i j:Nat}{tb:TS}(W:Nat->List Sl->Prop)(f:Pi b e xs)(g:W 0 e)(l:∀k x y a,xs[k]?=some (x,y)->W k a->Go tb ((a.set i<|.sh<|is x).set j<|.sh<|is y) (W<|k+1) c)(h:∀a,W xs.z a->Go u a N c):Go (gG (LB b (oG K 2<|dA (bI i)<|dA (bI j) oH) tb) u) e N c:=
 Bp W f g (λk x a n m=>#[_,As eO eO,l k x.1 x.2 a n m]) h
theorem zdN{n:Nat}(h:Pe ta e<|is (n:Int))(a:n<=1000):Pi (IM<|aG ta bN) e<|Gm.aP n:=by let:=zdH h ();rw[EC]at this;rwa [show xZ 0 n=Gm.aP n from by unfold xZ Gm.aP;simp]at this
theorem aT(xs:List α)(k:Nat):part xs (some (k:Int)) none=xs.drop k:=by unfold part;rw[HT.Ct,HT.yE,Jj<|by rw[Ey];lia];ext(h:k<=xs.z);rw[Nat.min_eq_left h];rw[drop_of_length_le (),drop_of_length_le ()]
theorem bR(xs:List α)(k:Nat):part xs none (some (k:Int))=xs.take k:=by unfold part;rw[HT.Ct,HT.yE,drop_zero,Nat.sub_zero];ext(h:k<=xs.z);rw[Nat.min_eq_left h];rw[Jj (),Jj ()]
theorem Qx(h:Pl ta e bs):Pe (jT (Vp K)<|aG ta bN) e<|is<|bs.all id:=.mk λE Q q=>h.h E _ λa vs i b f g=>#[a,bs,rfl,bH.of (by rw[f,QX g]),q _ _ b rfl]
theorem Qy(h:Pe ta e<|is i):Pe (jT (λxs H Q=>∃i,xs=[V.int i]/\Q (.int<|if i<0 then -i else i) H)<|aG ta bN) e (is<|if i<0 then -i else i):=.mk λE Q q=>h.h E _ λv f a b=>by cases b;exact#[i,rfl,q _ _ a rfl]
theorem zfr{i j:Int}(h:Pe ta e<|is i)(k:Pe tb e<|is j):Pe (jT (λxs H Q=>∃i j,xs=[V.int i,V.int j]/\Q (.int<|if j > i then j else i) H)<|aG ta<|aG tb bN) e (is<|if j > i then j else i):=.mk λE Q q=>h.h E _ λv l a b=>k.h (E.grow a) _ λw g s2 f=>by cases b;cases f;exact#[i,j,rfl,q _ _ (a.trans s2) rfl]
theorem zbI{i j:Int}(h:Pe ta e<|is i)(k:Pe tb e<|is j):Pe (jT (λxs H Q=>∃i j,xs=[V.int i,V.int j]/\Q (.int<|if j<i then j else i) H)<|aG ta<|aG tb bN) e (is<|if j<i then j else i):=.mk λE Q q=>h.h E _ λv l a b=>k.h (E.grow a) _ λw g s2 f=>by cases b;cases f;exact#[i,j,rfl,q _ _ (a.trans s2) rfl]
theorem zcM{m:Int}(h:Pl ta e ns)(b:m∈ns)(l:∀x∈ns,m<=x):Pe (jT (CF K)<|aG ta bN) e<|is m:=.mk λE Q q=>h.h E _ λa vs o i j n=>#[a,ns,rfl,bH.of (by rw[j,eP n]),(λz=>by rw[z]at b;cases b),λf g k=>by erw[show f=m from Int.le_antisymm (k m b)<|l f g,q _ _ i rfl]]
theorem zfs{m:Int}(h:Pl ta e ns)(b:m∈ns)(l:∀x∈ns,x<=m):Pe (jT (OQ K)<|aG ta bN) e<|is m:=.mk λE Q q=>h.h E _ λa vs o i j n=>#[a,ns,rfl,bH.of (by rw[j,eP n]),(λz=>by rw[z]at b;cases b),λf g k=>by erw[show f=m from Int.le_antisymm (l f g)<|k m b,q _ _ i rfl]]
theorem Ql{b:cc}(h:Pl ta e b):Pe (jT (OM K)<|aG ta bN) e<|is b.sum:=.mk λE Q q=>h.h E _ λa vs j f g i=>#[a,b,rfl,bH.of (by rw[g,eP i]),q _ _ f rfl]
theorem qC{H e:Hp}{O:bf}{Q:VK}{g:cc}{p:Addr}(s:ak H e)(f:e p=none)(q:∀a o b,H a=none->ak H b->b a=some o->(ol g).q (cut b<|a::O) o->Q (.ref a) b):Q (.ref p)<|upd e p<|.lst g.f:=
 q p _ _ (s.free f) (s.trans<|ak.upd f) aA #[_,rfl,p9 _ _]
theorem Qh{n:Nat}(h:Pe ta e<|is (n:Int))(g:n<=1000):Pf (yg ta) e<|ol<|Gm.aP n:=.mk λE Q q=>h.h E _ λv i a f=>#[n,f,g,λp b=>qC a b q]
theorem zeN{lo:Int}{n:Nat}{a:Int}(h:Pe ta e<|is lo)(k:Pe tb e<|is a)(i:a=lo+n)(m:n<=1000)(h1 : -1000<=lo)(f:lo<=1000):Pf (tp<|aG ta<|aG tb bN) e<|ol<|xZ lo n:=.mk λE Q q=>h.h E _ λv r b j=>k.h (E.grow b) _ λw o s2 l=>by cases j;cases l;exact#[lo,n,by rw[i],m,h1,f,λp g=>qC (b.trans s2) g q]
theorem zdW{n:Nat}(h:Pe ta e<|is (n:Int))(g:n<=1000):Pf (tq ta) e<|ol<|down n:=.mk λE Q q=>h.h E _ λv i a f=>#[n,f,g,λp b=>qC a b q]
theorem uw:∀a:cc,(a.f).all l9=true
 | []=>rfl
 | _::l=>by rw[Ap,all_cons,uw l];rfl
theorem zD(i:Int):∀a:cc,XF (.int i) a.f=decide (i∈a)
 | []=>rfl
 | n::l=>by let:=zD i l;unfold XF at this ⊢;rw[Ap,IF,this];let:Nu (.int n) (.int i)=decide (n=i):=rfl;rw[this];ext(h:n=i);simp[h];let:i≠n:=λz=>h z.symm;simp[h,this]
theorem GC{i:Int}{b:Bool}(h:Pe ta e<|is i)(k:Pl tb e ns):Pe (mK (Vn K b) ta tb) e (is<|if b then !decide (i∈ns)else decide (i∈ns)):=.mk λE Q q=>h.h E _ λv n f l=>k.h (E.grow f) _ λa vs m s2 j g=>by cases l;let:=eP g;subst this;exact#[a,_,rfl,.inl<|bH.of j,rfl,uw _,zD>>q _ _ (f.trans s2) rfl]
theorem zcy{i:Int}(h:Pl ta e ns)(k:Pe tb e<|is i)(j:i∈ns):Pe (U1 K "list" (Hn K) ta<|aG tb bN) e<|is ((ns.idxOf i:Nat):Int):=.mk λE Q q=>h.h E _ λa vs n b f l=>#[.inl #[rfl,vs,bH.of f],k.h (E.grow b) _ λv m s2 g=>by cases g;let:=eP l;subst this;exact#[a,ns,i,rfl,rfl,s2 _ _ f,j,q _ _ (b.trans s2) rfl]]
theorem Qg{xs:List α}{ys:List β}(h:Pl ta e xs)(k:Pl tb e ys)(W:xs.z=ys.z):Pf (yf K<|aG ta<|aG tb bN) e<|ol<|xs.zip ys:=.mk λ{R H T O σ} E Q q=>h.h E _ λa vs Y i B o=>k.h (E.grow i) _ λb us X s2 r p=>by
 let U:=Bm o;let S:=Bm p;refine#[a,b,vs,us,rfl,bH.of<|s2 _ _ B,bH.of r,(),λl f v m ⟨j,s,each⟩ Z=>q l _ _ ((i.trans s2).free m) (i.trans<|s2.trans j) s #[_,rfl,?_]];let all:∀(n:Nat),n<=f.z->Rs (cut v<|l::O) ((f.take n).i) ((xs.zip ys).take n):=λn=>by
  induction n with
  | zero=>intro _;simpa using .nil
  | succ n D=>
   ext P;let g:=P;let#[w,G,x,y,N,C,A]:=each n f[n]<|me g;let#[M,L,F]:=jH o N;let#[y',I,J]:=jH p C;let hz:(xs.zip ys)[n]?=some (M,y'):=Ki.mpr #[L,I];rw[Ir,Ir,hz,me g,EE];refine gH (D ())<|ky #[f[n],x,y,rfl,aE.mpr #[λz=>?_,A],Rp.mono (cN (s2.trans j)<|s2.free m) F,Rp.mono (cN j m) J];ext(z|z:AX.mp z);exact G z;exact (E.grow<|i.trans s2).rK _ z w
 let:=all f.z<|Xx _;rwa [F6,Jj<|by rw[G9];lia]at this
theorem uS{x:α}{i:Int}(o:Pe ta e<|is<|Tp.mk xs)(j:Pe tb e<|is i)(h:oI xs i=some x):Pe (mK (Rh K) ta tb) e<|is x:=.mk λE Q q=>
 o.h E _ λv p b ⟨a,vs,m,f,g⟩=>j.h (E.grow b) _ λw l s2 k=>by cases k;let#[v',n,rv]:=BY g h;exact#[a,vs,i,v',m,rfl,mF.of<|s2 _ _ (aE.mp f).2,n,q v' l (b.trans s2)<|Rp.mono (aO s2) rv]
theorem zdu{O:bf}{e:Hp}{a:Addr}{vs:List V}{xs:List α}(h:cut e O a=some (.tup vs))(g:Rs (cut e O) vs xs):Iter (Itt K a) O e xs:=by let f:∀{b:Hp},ak (cut e O) b->b a=some (.tup vs):=λs=>s _ _ h;let q:=Bm g;refine#[λi b s j=>#[vs,vs[i]'(),mF.of<|f s,me _],λi b y v x p s r o ⟨l,m⟩=>?_,λi b s j=>#[vs,mF.of<|f s,()]];subst l;let#[w,k,n]:=fh g o;let:=m vs<|mF.of<|f<|s.trans<|bU _ _;rw[k]at this;cases this;exact#[ak.refl _,Rp.mono s n]
end
structure Sq(α:Type) where
 l:List α
instance {α:Type} [Rp α]:Rp<|Sq α:=#[#[[]],λH v x=>∃a vs,v=.ref a/\(H a=some (.lst vs)\/H a=some (.tup vs))/\Rs H vs x.l,λe ⟨a,vs,h1,h2,h3⟩=>#[a,vs,h1,h2.imp (e _ _)<|e _ _,h3.mono e]]
class Dq (α:Type) [Rp α] where
 d:α->PyData
 n:Nat
 rd:∀{H:Hp} {v:V} {x:α},Rp.r H v x->xU H v (d x)
 lay:∀x,(d x).canLay0=true
 dep:∀x,(d x).depth<=n
 inj:∀x y,PyData.eqv (d x) (d y)=true↔x=y
instance:Dq Int where
 d:=.int
 n:=0
 rd:=λh=>by cases h;exact .int _
 lay:=λ_=>by simp[PyData.canLay0]
 dep:=λ_=>by simp[PyData.depth]
 inj:=λx y=>by simp[PyData.eqv]
section
variable [Rp α] [Dq α] [Rp β] [Dq β]
theorem oR{H:Hp}{vs:List V}{xs:List α}(h:Rs H vs xs):cV H vs<|xs.map Dq.d:=by
 induction h with
 | nil=>exact .nil
 | cons a _ b=>exact .cons (Dq.rd a) b
theorem wt:∀xs:List α,PyData.canLayAll0 (xs.map Dq.d)=true
 | []=>by simp[PyData.canLayAll0]
 | x::l=>by simp[PyData.canLayAll0,Dq.lay,wt l]
theorem xg:∀xs:List α,PyData.depthAll (xs.map Dq.d)<=Dq.n α
 | []=>by simp[PyData.depthAll]
 | x::l=>by let:=xg l;let:=Dq.dep x;simp[Ap,PyData.depthAll];lia
theorem wG:∀xs ys:List α,PyData.eqvAll (xs.map Dq.d) (ys.map Dq.d)=true↔xs=ys
 | [],[]=>by simp[PyData.eqvAll]
 | [],_::_=>by simp[PyData.eqvAll]
 | _::_,[]=>by simp[PyData.eqvAll]
 | x::l,y::m=>by rw[Ap,Ap,PyData.eqvAll,KZ,Dq.inj,wG l m,List.cons.injEq]
instance:Dq (List α) where
 d:=λl=>.list<|l.map Dq.d
 n:=Dq.n α+1
 rd:=λ⟨a,vs,h1,h2,h3⟩=>by subst h1;exact .lst h2<|oR h3
 lay:=λl=>PyData.canLay0>>wt l
 dep:=λl=>by rw[PyData.depth];let:=xg l;lia
 inj:=λl m=>PyData.eqv>>wG l m
instance:Dq (Tp α) where
 d:=λl=>.tuple<|l.l.map Dq.d
 n:=Dq.n α+1
 rd:=λ⟨a,vs,h1,h2,h3⟩=>by subst h1;exact .tup h2<|oR h3
 lay:=λl=>PyData.canLay0>>wt l.l
 dep:=λl=>by rw[PyData.depth];let:=xg l.l;lia
 inj:=λ⟨l⟩ ⟨m⟩=>by rw[PyData.eqv,wG l m];exact⟨λh=>h▸rfl,λh=>by cases h;rfl⟩
instance:Dq (α×β) where
 d:=λp=>.tuple [Dq.d p.1,Dq.d p.2]
 n:=max (Dq.n α) (Dq.n β)+1
 rd:=λ⟨a,u,w,h1,h2,h3,h4⟩=>by subst h1;exact .tup h2<|.cons (Dq.rd h3)<|.cons (Dq.rd h4) .nil
 lay:=λp=>by simp[PyData.canLay0,PyData.canLayAll0,Dq.lay]
 dep:=λp=>by
  let:=Dq.dep p.1;let:=Dq.dep p.2;simp only[PyData.depth,PyData.depthAll];lia
 inj:=λp q=>by
  simp only[PyData.eqv,PyData.eqvAll,Bool.and_true,KZ,Dq.inj];exact Prod.ext_iff.symm
theorem fO(h:Dq.n α<=64)(x:α):SeqAt.shaped (Dq.d x)=true:=by unfold SeqAt.shaped;erw[Dq.lay,Bool.true_and,BG<|Ay (Dq.dep x) h]
end
section
variable {α β γ:Type} {iα:Rp α} {iβ:Rp β} {c:Cell} {ta tb:TE} {t u:TS}
theorem BI{x y:α}(d:Dq α)(a:DecidableEq α):PyData.eqv (Dq.d x) (Dq.d y)=decide (x=y):=KR>>Ii>>Dq.inj x y
theorem Qp{x y:α}(h:Pe ta e<|is x)(i:Pe tb e<|is y)(d:Dq α)(f:DecidableEq α)(a:Dq.n α<=64):Pe (mK (Ho true) ta tb) e<|is<|!decide (x=y):=
 Qz h i λ_ v w g b Q q=>#[_,_,Dq.rd<|Rp.mono (bU _ _) g,Dq.rd<|Rp.mono (bU _ _) b,fO a x,fO a y,q _ _ (ak.refl _)<|by rw[BI d f];rfl]
theorem Ge{xs:List α}(h:Pe ta e<|is<|Sq.mk xs):Pi (V7 K ta) e xs:=.mk λ{B H C O σ} E R q=>h.h E _ λv g k ⟨a,vs,o,b,f⟩=>by subst o;refine#[a,rfl,?_];ext(b|b:b);refine .inl #[#[vs,bH.of (aE.mp b).2],q _ g k ?_];let j:∀{d:Hp},ak (cut g O) d->d a=some (.lst vs):=λs=>s _ _ b;let A:=Bm f;refine#[λi d s l=>#[vs,vs[i]'(),bH.of<|j s,me _],λi d F v x z s D y ⟨n,p⟩=>?_,λi d s l=>#[vs,bH.of<|j s,()]];subst n;let#[w,m,r]:=fh f y;let:=p vs<|bH.of<|j<|s.trans<|bU _ _;rw[m]at this;cases this;exact#[ak.refl _,Rp.mono s r];exact .inr #[#[vs,mF.of (aE.mp b).2],q _ g k<|zdu b f]
end
section
variable {κ κ' α:Type} [DecidableEq κ] [DecidableEq κ']
def cF(l:List<|κ×α)(k:κ):Option α:=(l.find? λp=>decide<|p.1=k).map (·.2)
def dput(l:List<|κ×α)(k:κ)(x:α):List<|κ×α:=if(l.any λp=>decide<|p.1=k)=true then l.map (λp=>if p.1=k then(p.1,x)else p)else l++[(k,x)]
theorem mS{f:κ->κ'}(inj:∀a b,f a=f b->a=b)(k:κ):∀l:List (κ×V),g8 (l.map λp=>(f p.1,p.2)) (f k)=g8 l k
 | []=>rfl
 | p::l=>by let c:=mS inj k l;unfold g8 at c ⊢;rw[Ap,Ff,Ff];ext(h:p.1=k);simp[h];let:f p.1≠f k:=λz=>h<|inj _ _ z;simp only[h,this,L6];exact c
theorem tU{f:κ->κ'}(inj:∀a b,f a=f b->a=b)(k:κ)(v:V)(l:List<|κ×V):cw (l.map λp=>(f p.1,p.2)) (f k) v=(cw l k v).map λp=>(f p.1,p.2):=by
 let c:((l.map λp=>(f p.1,p.2)).any λkv=>decide<|kv.1=f k)=l.any λkv=>decide<|kv.1=k:=by rw[any_map];congr 1;funext p;ext(h:p.1=k);simp[h];let:f p.1≠f k:=λz=>h<|inj _ _ z;simp[h,this]
 unfold cw;rw[c];split;rw[ED,ED];congr 1;funext p;show(if f p.1=f k then(f p.1,v)else(f p.1,p.2))=_;ext(h:p.1=k);simp[h];let:f p.1≠f k:=λz=>h<|inj _ _ z;simp[h,this];rw[EE];rfl
end
class Kc (κ:Type) [Rp κ] [DecidableEq κ] where
 ho:List (κ×V)->HO
 Y5:∀{H:Hp} {a:Addr} {l:List (κ×V)},H a=some (ho l)->IsD H a
 get:∀{H:Hp} {a:Addr} {y:V} {k:κ} {l:List (κ×V)},Rp.r H y k->H a=some (ho l)->Ag H a y (g8 l k)
 put:∀{H:Hp} {a:Addr} {y v:V} {k:κ} {l:List (κ×V)},Rp.r H y k->H a=some (ho l)->l.length<sizeLine->TM H a y v (upd H a (ho (cw l k v)))
instance:Kc Int where
 Y5:=λe=>.inl #[_,.inl e]
 ho:=λl=>.dK<|l.map λp=>(.inl p.1,p.2)
 get:=λ{H a y k l} h e=>by
  cases h
  exact .inl #[_,.inl k,.inl e,rfl,(mS (f:=(Sum.inl:Int->Key)) (λ_ _ z=>Sum.inl.inj z) k l).symm]
 put:=λ{H a y v k l} h e hl=>by
  cases h
  exact .inl #[_,.inl k,e,rfl,ZO>>hl,by rw[tU (f:=(Sum.inl:Int->Key))<|λ_ _ z=>Sum.inl.inj z]]
instance:Kc (Int×Int) where
 Y5:=λe=>.inr #[_,.inl e]
 ho:=λl=>.dT<|l.map λp=>([.inl p.1.1,.inl p.1.2],p.2)
 get:=λ{H a y k l} ⟨b,u,w,h1,h2,h3,h4⟩ e=>by
  cases h3;cases h4
  exact .inr #[_,[.inl k.1,.inl k.2],b,.inl e,h1,h2,(mS (f:=λk:Int×Int=>([.inl k.1,.inl k.2]:List Key)) (λa b z=>by simp at z;exact EF z.1 z.2) k l).symm]
 put:=λ{H a y v k l} ⟨b,u,w,h1,h2,h3,h4⟩ e hl=>by
  cases h3;cases h4
  exact .inr #[_,[.inl k.1,.inl k.2],b,e,h1,h2,ZO>>hl,by rw[tU (f:=λk:Int×Int=>([.inl k.1,.inl k.2]:List Key))<|λa b z=>by simp at z;exact EF z.1 z.2]]
structure sW(κ α:Type) where
 l:List (κ×α)
abbrev Ds{κ α:Type}[Rp α](H:Hp)(vs:List<|κ×V)(xs:List<|κ×α):Prop:=Paired (λp q=>p.1=q.1/\Rp.r H p.2 q.2) vs xs
section
variable {κ α β:Type} {rκ:Rp κ} {dκ:DecidableEq κ} {kκ:Kc κ} {iα:Rp α} {iβ:Rp β}
theorem Ds.mono{H a:Hp}{vs:List<|κ×V}{xs:List<|κ×α}(e:ak H a)(h:Ds H vs xs):Ds a vs xs:=Paired.imp' (λ_ _ q=>#[q.1,Rp.mono e q.2]) h
theorem rH{H:Hp}{k:κ}{vs:List<|κ×V}{xs:List<|κ×α}(h:Ds H vs xs):(∀x,cF xs k=some x->∃v,g8 vs k=some v/\Rp.r H v x)/\(cF xs k=none->g8 vs k=none):=by
 induction h with
 | nil=>exact#[λx q=>(by cases q),λ_=>rfl]
 | @cons p q d c a _ b=>
  unfold cF g8 at b ⊢;rw[Ff,Ff,a.1];ext(z:q.1=k);simp only[z,decide_true];exact#[λx e=>(by cases e;exact#[_,rfl,a.2]),λe=>(by cases e)];simp only[z,L6];exact b
theorem S0{H:Hp}{k:κ}{vs:List<|κ×V}{xs:List<|κ×α}(h:Ds H vs xs):(vs.any λp=>decide<|p.1=k)=xs.any λp=>decide<|p.1=k:=by
 induction h with
 | nil=>rfl
 | cons a _ b=>rw[IF,IF,b,a.1]
theorem SX{k:κ}{x:α}(h:Ds H vs xs)(r:Rp.r H v x):Ds H (vs.map λp=>if p.1=k then(p.1,v)else p) (xs.map λp=>if p.1=k then(p.1,x)else p):=by
 induction h with
 | nil=>exact .nil
 | @cons p q d c a _ b=>
  refine .cons ?_ b;dsimp only;ext(z:q.1=k);rw[Al<|a.1.trans z,Al z];exact#[a.1,r];erw[Ak<|λy=>z<|a.1.symm.trans y,Ak z,a]
theorem SW{k:κ}{x:α}(h:Ds H vs xs)(r:Rp.r H v x):Ds H (cw vs k v)<|dput xs k x:=by unfold cw dput;rw[S0 h];split;exact SX h r;exact gH h<|ky #[rfl,r]
end
instance {κ α:Type} [Rp κ] [DecidableEq κ] [Kc κ] [Rp α]:Rp<|sW κ α:=#[#[[]],λH v x=>∃a vs,v=.ref a/\H a=some (Kc.ho (κ:=κ) vs)/\Ds H vs x.l,λe ⟨a,vs,h1,h2,h3⟩=>#[a,vs,h1,e _ _ h2,h3.mono e]]
def od{κ α:Type}[Rp κ][DecidableEq κ][Kc κ][Rp α](xs:List<|κ×α):Own:=#[λH o=>∃vs,o=Kc.ho (κ:=κ) vs/\Ds H vs xs,λe ⟨vs,h,q⟩=>#[vs,h,q.mono e]]
structure Pd{κ α:Type}[Rp κ][DecidableEq κ][Kc κ][Rp α](t:TE)(e:List Sl)(xs:List<|κ×α):Prop where
 h:∀{H0 H:Hp} {O0 O:bf} {σ:St},En H0 O0 H O σ e->∀Q:VK,(∀a vs H',ak H H'->H' a=some (Kc.ho (κ:=κ) vs)->Ds (cut H' O) vs xs->Q (.ref a) H')->t σ H Q
section
variable {κ α β:Type} {rκ:Rp κ} {dκ:DecidableEq κ} {kκ:Kc κ} {iα:Rp α} {iβ:Rp β} {c:Cell} {ta tb:TE} {t u:TS}
theorem Pe.pd{xs:List<|κ×α}(h:Pe ta e<|is<|sW.mk xs):Pd ta e xs:=.mk λE Q q=>h.h E Q λv b s ⟨a,vs,g,d,f⟩=>by subst g;exact q a vs b s (aE.mp d).2 f
theorem QA{i:Nat}{xs:List<|κ×α}(h:e[i]?=some (.ow<|od xs)):Pd (fE i) e xs:=.mk λE Q q=>by let#[a,o,b,g,j,d,vs,rfl,f]:=E.ow i _ h;exact#[_,b,q a vs _ (ak.refl _) d f]
theorem Pf.ped{xs:List<|κ×α}(h:Pf ta e<|od xs):Pe ta e<|is<|sW.mk xs:=.mk λE Q q=>h.h E Q λa o k g d f ⟨vs,j,i⟩=>by subst j;exact q _ _ d #[a,vs,rfl,aE.mpr #[kE E.rK g,f],i.mono<|pF λb m=>A7 _ m]
theorem zfK{k:κ}{x:α}(m:Pd ta e xs)(f:Pe tb e<|is k)(h:cF xs k=some x):Pe (Oz ta tb) e<|is x:=.mk λE Q q=>
 m.h E _ λa vs n b j d=>f.h (E.grow b) _ λy i s2 g=>by let#[v,l,rv]:=(rH d).1 x h;exact#[a,v,rfl,l▸Kc.get (Rp.mono (bU _ _) g) (s2 _ _ j),q v i (b.trans s2)<|Rp.mono (aO s2) rv]
theorem zcK{k:κ}{x:α}{i:TE}(o:Pd ta e xs)(l:Pe tb e<|is k)(p:Pe i e<|is x):Pe (GS ta tb i) e<|is<|(cF xs k).getD x:=.mk λE Q q=>
 o.h E _ λa vs A d g f=>#[a,rfl,Kc.Y5 g,l.h (E.grow d) _ λy s s2 m=>p.h (E.grow<|d.trans s2) _ λz r b j=>#[g8 vs k,Kc.get (Rp.mono ((bU _ _).trans b) m)<|b _ _<|s2 _ _ g,q _ _ (d.trans<|s2.trans b) (by
  cases hz:cF xs k with
  | none=>rw[(rH f).2 hz];exact j
  | some w=>obtain⟨v,n,rv⟩:=(rH f).1 w hz;erw[n,Rp.mono (aO<|s2.trans b) rv])]]
theorem zaW{xs:List<|κ×α}{k:κ}(i:Pe tb e<|is k)(l:Pd ta e xs):Pe (zaU tb ta) e<|is<|!(cF xs k).isSome:=.mk λE Q q=>
 i.h E _ λy n d g=>l.h (E.grow d) _ λa vs m s2 f b=>#[a,g8 vs k,rfl,Kc.get (Rp.mono ((bU _ _).trans s2) g) f,q _ _ (d.trans s2) (by
  cases z:cF xs k with
  | none=>rw[(rH b).2 z];rfl
  | some x=>obtain⟨v,j,_⟩:=(rH b).1 x z;rw[j];rfl)]
theorem Nd{i:Nat}{j:TE}{k:κ}{x:α}(b:e[i]?=some (.ow<|od xs))(A:Pe ta e<|is x)(p:Pe j e<|is k)(F:xs.z<1000)(h:Go u (e.set i<|.ow<|od<|dput xs k x) N c):Go (gG (OD (fE i) j ta) u) e N c:=.mk λE B z=>by refine A.h E _ λv H w r=>?_;let d:=E.grow w;let#[a,o,f,_]:=d.ow i _ b;refine#[_,f,p.h d _ λy G s2 s=>?_];let m:=d.grow s2;let#[I,J,n,C,D,q,vs,rfl,g]:=m.ow i _ b;rw[f]at n;cases n;let l:=Bm g;exact#[a,_,rfl,Kc.put (Rp.mono (bU _ _) s) q<|Gm.eI (),h.h (m.put b f #[_,rfl,SW g<|Rp.mono (aO s2) r]) B z]
theorem zbe{i:Nat}{xs:List<|κ×α}(k:e[i]?=some (.ow<|od xs))(h:Go t (e.set i<|.sh<|is<|sW.mk xs) N c):Go t e N c:=.mk λE l j=>by let#[m,d]:=E.share (c:=is<|sW.mk xs) k λH a o g ⟨vs,b,f⟩=>#[a,vs,rfl,by rw[g,b],f];exact h.h d l j
theorem eK{xs:List<|κ×α}{k:κ}:cF xs k=none↔k∉xs.map (·.1):=by unfold cF;rw[Option.map_eq_none_iff,find?_eq_none];simp only[mem_map,Jk,not_exists,not_and]
theorem rJ{k:κ}{x:α}(h:k∉xs.map (·.1)):dput xs k x=xs++[(k,x)]:=by unfold dput;rw[Ak];ext z;let#[p,a,e]:=M6.mp z;exact h<|A3.mpr #[p,a,Eb e]
theorem En.laid(E:En H0 O0 H O σ e)(d:H p=none):En H0 O0 (upd H p o) (p::O) σ e:=by
 let s:ak H<|upd H p o:=ak.upd d;let g:ak (cut H O)<|cut (upd H p o)<|p::O:=cN s d;refine#[E.len,E.same.trans s,λa m=>A7 _<|E.sub a m,λa m n=>?_,λa m=>?_,λi c h=>?_,λi w h=>?_,E.inj];ext(z|z:AX.mp m);rw[z];exact E.same.free d;exact E.new a z n;ext(z|z:AX.mp m);erw[z,aA,λz=>by cases z]
 exact λq=>E.rK a z<|s.free q;let#[v,f,b]:=E.sh i c h;exact#[v,f,c.mono g b];let#[a,o,f,b,k,l,j]:=E.ow i w h;exact#[a,o,f,A7 _ b,k,s _ _ l,w.mono g j]
theorem zbK{k:Int}{x:α}(d:Pe ta e<|is k)(i:Pe tb e<|is x):Pf (Oy [(ta,tb)]) e<|od [(k,x)]:=.mk λ{j H m O σ} E Q q p a=>by let E0:=E.laid (o:=.dK []) a;refine d.h E0 _ λv n b f=>i.h (E0.grow b) _ λw l s2 g=>?_;cases f;exact#[(b.trans s2) _ _ aA,[(.inl k,w)],rfl,Nat.le_of_ble_eq_true rfl,q p _ _ a (Gm.ak.fresh ((ak.upd a).trans<|b.trans s2) a) aA #[[(k,w)],rfl,ky #[rfl,pE AO>>g]]]
theorem Pe.XY{f:α->Prop}{y:α}(h:Pe ta e<|aW f)(q:∀x,f x->x=y):Pe ta e<|is y:=.mk λE Q k=>h.h E Q λv a s ⟨x,b,r⟩=>k v a s<|q x b▸r
theorem zaY{i:Nat}{f:α->Prop}(j:e[i]?=some (.ow<|ol xs))(p:Pe ta e<|aW f)(y:xs.z<1000)(h:∀x,f x->Go u (e.set i<|.ow<|ol<|xs++[x]) N c):Go (gG (tw<|U1 K "list" vU (fE i)<|aG ta bN) u) e N c:=.mk λE r q=>by let#[a,o,k,s,w,g,vs,rfl,d]:=E.ow i _ j;refine#[_,k,.inl #[rfl,vs,bH.of g],p.h E _ λv z b ⟨x,m,n⟩=>?_];let l:=Bm d;exact#[a,vs,v,rfl,rfl,b _ _ g,Gm.eI (),(h x m).h ((E.grow b).put j k #[_,rfl,gH (Rs.mono (aO b) d)<|ky n]) r q]
theorem Cy{H:Hp}{vs:List V}{xs:List<|List α}(h:Rs H vs xs):∃d:bf,vs=d.i/\Paired (λa l=>∃us,H a=some (.lst us)/\Rs H us l) d xs:=by
 induction h with
 | nil=>exact#[[],rfl,.nil]
 | cons a _ i=>
  let#[d,rfl,e]:=i;let#[b,us,rfl,f,g]:=a;exact#[b::d,rfl,.cons #[us,f,g] e]
theorem zcQ(h:Pl ta e L)(w:0<L.z):Pe (jT (OP K)<|aG ta bN) e (aW λl=>l∈L/\∀m∈L,L2.Le l m):=.mk λE Q q=>h.h E _ λa vs y s v r=>by let#[p,rfl,g]:=Cy r;let o:=Bm g;refine#[a,p,L,rfl,bH.of v,o,λi b l k f=>?_,(),λi b l k f le=>?_];let#[x,d,us,j,n]:=jH g k;rw[f]at d;cases d;exact bH.of (by rw[(aE.mp j).2,eP n]);let#[x,d,us,j,n]:=jH g k;rw[f]at d;cases d;exact q _ _ s #[l,#[A5 f,le],b,us,rfl,j,n]
theorem zda(h:Pl ta e L)(S:L.z<64):Pe (jT (yK K)<|aG ta bN) e (aW λR=>∃p,Arr L.z p/\Up (λi=>L.getD i []) p L.z/\R=pick [] L p):=.mk λ{N H P O σ} E Q q=>h.h E _ λa vs y z C A=>by
 let#[d,rfl,n]:=Cy A;let v:=Bm n;refine#[a,d,L,rfl,bH.of C,v,λi b l g J=>?_,(),λp b o B g=>?_];let#[x,m,us,r,s]:=jH n g;rw[J]at m;cases m;exact bH.of (by rw[(aE.mp r).2,eP s]);refine q _ _ (z.trans<|ak.upd g) #[pick [] L p,#[p,o,B,rfl],b,(pick 0 d p).i,rfl,jB (E.grow z).rK g aA,?_];let s2:ak (cut y O)<|cut (upd y b<|.lst<|(pick 0 d p).i) O:=aO<|ak.upd g;let key:∀l:List Nat,(∀i∈l,i<L.z)->Rs (cut (upd y b<|.lst<|(pick 0 d p).i) O) ((l.map λi=>d.getD i 0).i) (l.map λi=>L.getD i []):=λl=>by
  induction l with
  | nil=>intro _;exact .nil
  | cons i l D=>
   ext h;let w:=h i AO;let m:L[i]?=some (L.getD i []):=by rw[su,me w];rfl
   let#[c,M,us,r,s]:=fh n m;refine .cons #[c,us,by show V.ref (d.getD i 0)=_;rw[su,M];rfl,s2 _ _ r,Rs.mono s2 s]<|D λj F=>h j<|A7 _ F
 refine key p.toList λi w=>?_;let#[k,I]:=Eg.mp w;let#[f,G]:=I;let:=o.lt (by rw[<-o.size];simpa using f);rw[Kl,N3<|~~~f]at this;simp at this G;lia
theorem zeX{f:α->Prop}{x:α}(h:Pe ta e<|is x)(k:f x):Go (LA ta) e N<|aW f:=Bo<|.mk λE Q q=>h.h E Q λv a s r=>q v a s #[x,k,r]
theorem zeY{f g:α->Prop}(h:Pe ta e<|aW f)(k:∀x,f x->g x):Go (LA ta) e N<|aW g:=Bo<|.mk λE Q q=>h.h E Q λv a s ⟨x,b,r⟩=>q v a s #[x,k x b,r]
theorem wC(h:oI l.f i=x.m):ix l i=x:=by
 unfold oI at h;unfold ix oI;rw[ZO]at h;cases q:xP l.z i with
 | none=>rw[q]at h;cases h
 | some j=>
  rw[q,KW,AY]at h;let#[y,a,e]:=GF.mp h;cases e;rw[KW,a];rfl
theorem zfq{f:sW Int α->Prop}{n:Nat}(h:Pe ta e<|aW f)(k:∀D,f D->D.l.z=n):Pe (jT (λxs H Q=>∃a kvs,xs=[V.ref a]/\H a=some (.dK kvs)/\Q (.int kvs.z) H)<|aG ta bN) e<|is (n:Int):=.mk λE Q q=>h.h E _ λv m i ⟨D,d,a,vs,j,b,g⟩=>by subst j;exact#[a,_,rfl,(aE.mp b).2,q _ _ i<|by rw[ZO,show vs.z=D.l.z from Bm g,k D d];rfl]
theorem zdP(h:Pl ta e ns)(k:ns.z<64):Pe (jT (vT K)<|aG ta bN) e (aW λb:cc=>b.Perm ns/\b.Pairwise (·<=·)):=.mk λE Q q=>h.h E _ λa vs m d j l=>#[a,ns,rfl,bH.of (by rw[j,eP l]),k,λb p i g f=>q _ _ (d.trans<|ak.upd f) #[b,#[i,g],p,_,rfl,jB (E.grow d).rK f aA,p9 _ _]]
theorem zfp(h:Pl ta e ns)(d:ns.z<=1000):Pe (jT (λxs H Q=>∃a S n,xs=[V.ref a]/\H a=some (.set S n)/\Q (.int (n:Nat)) H)<|aG (jT (OO K)<|aG ta bN) bN) e<|is ((BM ns).z:Int):=.mk λE Q q=>h.h E _ λa vs j g i f=>#[a,ns,rfl,bH.of (by rw[i,eP f]),d,λp S b=>#[p,S,_,rfl,aA,q _ _ (g.trans<|ak.upd b) rfl]]
theorem C8{x:α}:ix (x::l) 0=x:=(cH<|Nat.succ_pos _).trans rfl
end
section
variable {α β:Type} {iα:Rp α} {iβ:Rp β} {c:Cell} {ta tb tc:TE} {t u:TS}
theorem Nx{H:Hp}{vs:List<|Int×V}{xs:List<|Int×α}(h:Ds H vs xs):Rs H (vs.map (·.2))<|xs.map (·.2):=by
 induction h with
 | nil=>exact .nil
 | cons a _ b=>exact .cons a.2 b
theorem Ny{H:Hp}{vs:List<|Int×V}{xs:List<|Int×α}(h:Ds H vs xs):vs.map (·.1)=xs.map (·.1):=by
 induction h with
 | nil=>rfl
 | cons a _ b=>rw[Ap,Ap,b,a.1]
theorem zeR{xs:List<|Int×α}(h:Pd ta e xs):Pf (tm ta) e<|ol<|xs.map (·.2):=.mk λE Q q=>h.h E _ λa vs i d f g=>#[a,_,rfl,f,λp b=>ED>>q p _ _ (d.free b) (d.trans<|ak.upd b) aA #[_,rfl,Rs.mono (cN (ak.upd b) b)<|Nx g]]
theorem zdk{xs:List<|Int×α}(h:Pd ta e xs):Pf (jT Hm<|aG ta bN) e<|ol<|xs.map (·.1):=.mk λE Q q=>h.h E _ λa vs i b f g=>#[a,_,rfl,f,λp d=>by
 rw[ED];refine q p _ _ (b.free d) (b.trans<|ak.upd d) aA #[_,rfl,?_];rw[<-Ny g];let:vs.map ((λkv:Key×V=>kV kv.1) ∘ λp:Int×V=>(Sum.inl p.1,p.2))=(vs.map (·.1)).f:=by rw[ED];rfl
 erw[this,p9 _ _]]
theorem qh:∀{kv kvs:List<|Key×V},((kvs++kv).map (·.1)).Nodup->oS kvs kv=kvs++kv
 | [],kvs,_=>by rw[GA];rfl
 | p::kv,kvs,h=>by
  let n:p.1∉kvs.map (·.1):=λz=>by rw[EE,Ap,J1]at h;exact h.2.2 _ z _ AO rfl
  let e:cw kvs p.1 p.2=kvs++[p]:=by unfold cw;rw[Ak];ext z;let#[q,a,e]:=M6.mp z;exact n<|A3.mpr #[q,a,Eb e]
  let:=qh (kvs:=kvs++[p]) (Ga>>h);unfold oS at this ⊢;rw[foldl_cons,e,this,Ga];rfl
theorem Jx{H:Hp}{us:List V}{xs:List α}:∀(ks:cc),Rs H us xs->Ds H (ks.zip us) (ks.zip xs)
 | [],_=>~~~.nil
 | _::_,.nil=>~~~.nil
 | k::ks,.cons a t=>.cons #[rfl,a]<|Jx ks t
theorem zdX{ks:cc}{xs:List α}(h:Pl ta e ks)(k:Pl tb e xs)(w:ks.z=xs.z)(m:ks.Nodup)(x:ks.z<=1000):Pf (yh K<|aG ta<|aG tb bN) e<|od<|ks.zip xs:=.mk λ{y H C O σ} E Q q=>h.h E _ λa vs D g s l=>k.h (E.grow g) _ λb us B s2 j i=>by
 let:=eP l;subst this;let A:us.z=xs.z:=Bm i;let v:(ks.zip us).z=ks.z:=by rw[G9];lia
 let o:((ks.zip us).map λp=>((Sum.inl p.1:Key),p.2)).map (λp=>kV p.1)=ks.f:=by rw[ED,show(λp:Key×V=>kV p.1) ∘ (λp:Int×V=>((Sum.inl p.1:Key),p.2))=λp=>V.int p.1 from rfl,<-map_fst_zip (l₁:=ks) (l₂:=us) (),ED,map_fst_zip ()];rfl
 let r:((ks.zip us).map λp=>((Sum.inl p.1:Key),p.2)).map (·.2)=us:=by rw[ED,show(λp:Key×V=>p.2) ∘ (λp:Int×V=>((Sum.inl p.1:Key),p.2))=Prod.snd from rfl,map_snd_zip ()]
 let n:(((ks.zip us).map λp=>((Sum.inl p.1:Key),p.2)).map (·.1)).Nodup:=by rw[ED,show(λp:Key×V=>p.1) ∘ (λp:Int×V=>((Sum.inl p.1:Key),p.2))=(Sum.inl:Int->Key) ∘ Prod.fst from rfl,<-ED,map_fst_zip ()];erw[Ig,K3,My (λh z=>h<|Sum.inl.inj z)<|Kk.mp m]
 refine#[a,b,(ks.zip us).map λp=>(.inl p.1,p.2),rfl,bH.of (o>>s2 _ _ s),bH.of (r>>j),by rw[ZO];lia,λd f=>?_];erw[qh (~~~n),K0,q d _ _ ((g.trans s2).free f) (g.trans<|s2.trans<|ak.upd f) aA #[ks.zip us,rfl,Jx ks<|Rs.mono (cN (ak.upd f) f) i]]
theorem zfJ{n:Nat}(A:Pe ta e<|is<|(n:Int)-1)(p:Pe tb e<|is (-1:Int))(y:Pe tc e<|is (-1:Int))(I:n<=1000):Pi (IL<|aG ta<|aG tb<|aG tc bN) e<|down n:=.mk λE R q=>A.h E _ λv G a o=>p.h (E.grow a) _ λw F s2 r=>y.h (E.grow<|a.trans s2) _ λz D g m=>by
 cases o;cases r;cases m;refine#[(n:Int)-1,-1,rfl,(),q _ _ (a.trans<|s2.trans g) ?_];let l:((n:Int)-1 - -1).toNat=n:=();rw[l];let dl:(down n).z=n:=by unfold down;simp
 refine#[λi H _ h=>by rwa[dl]at h,λi H B v x C _ _ d ⟨s,k⟩=>?_,λi H _ h=>by rwa[dl]at h];subst s;refine#[ak.refl _,?_];unfold down at d;rw[AY]at d;let#[j,b,e]:=GF.mp d;let:j=i:=by let f:=(AA.mp b).1;rw[Er]at f;rw[Fy f]at b;exact(BV b).symm
 subst this;erw[<-e,k]
theorem zX{κ:Type}[DecidableEq κ](k y:κ)(x:α):∀l:List (κ×α),cF (l.map λp=>if p.1=k then(p.1,x)else p) y=if y=k then(cF l y).map (λ_=>x)else cF l y
 | []=>by unfold cF;simp
 | p::l=>by let a:=zX k y x l;unfold cF at a ⊢;rw[Ap,Ff,Ff];ext(h:p.1=k);rw[Al h];ext(z:p.1=y);let:=z.symm.trans h;simp[z,this];simp only[z,L6];exact a;rw[Ak h];ext(z:p.1=y);let:¬y=k:=λw=>h<|z.trans w;simp[z,this];simp only[z,L6];exact a
theorem zcI[DecidableEq κ](l:List<|κ×α)(k y:κ)(x:α):cF (dput l k x) y=if y=k then some x else cF l y:=by
 unfold dput;split
 ·next h=>
  rw[zX];ext(z:y=k)
  ·rw[Al z,Al z,z];cases q:cF l k with
   | none=>
    let#[p,a,e]:=M6.mp h;exact absurd (A3.mpr #[p,a,Eb e])<|eK.mp q
   | some _=>rfl
  ·rw[Ak z,Ak z]
 ·next h=>
  unfold cF;rw[find?_append];ext(z:y=k)
  ·subst z;rw[Al rfl,Ij.mpr λp a e=>h<|M6.mpr #[p,a,e]];simp
  ·rw[Ak z];let:¬k=y:=λw=>z w.symm;cases q:l.find? (λp=>decide<|p.1=y)with
   | none=>simp[this]
   | some _=>rfl
theorem rG(y:Int):∀(r:cc) (d:List α),r.z=d.z->cF (r.zip d) y=d[r.idxOf y]?
 | [],[],_=>rfl
 | a::r,b::d,h=>by
  let e:=rG y r d (~~~h);unfold cF at e ⊢;rw[zip_cons_cons,Ff,K1];ext(z:a=y);simp[z];let:(a==y)=false:= ~~~z
  simp only[z,L6,this,cond_false];rw[e];simp
theorem zfO[DecidableEq κ](l:List<|κ×α)(k:κ)(x:α):(dput l k x).z<=l.z+1:=by unfold dput;split;rw[ZO];lia;erw[Ac,Xx _]
theorem Qf{xs:List α}(h:Pe ta e<|is xs):Pi (V6 K ta) e xs.reverse:=.mk λ{A H B O σ} E R q=>h.h E _ λv n m ⟨a,vs,o,f,g⟩=>by subst o;let z:=Bm g;refine#[a,vs,rfl,bH.of (aE.mp f).2,q _ n m #[λi d s b=>#[bH.of<|s _ _ f,by rw[Gz]at b;lia],λi d D v x y s C r ⟨l,j⟩=>?_,λi d s b=>by rw[Gz]at b;show vs.z<=i;lia]];subst l;let#[w,k,p]:=fh (Hz g) r;rw[k]at j;cases j;exact#[ak.refl _,Rp.mono s p]
theorem zbO(g:Pa ts e cs)(h:A (cs++[is (none:Option α)]) c):Pe (tD (FT A) [.dY] E ts) e c:=.mk λEn Q q=>
 g.h En _ λvs i a f=>#[_,c,_,(En.grow a).rK,gH f<|ky rfl,h,λv b s2 d=>q v b (a.trans s2) d]
end
end Pu
namespace rY
open PySem L2 Fr Gm Fw Pu
open Dt (dO e7 pd dR kD)
open iQ (V3 l3 S3 tn)
noncomputable def FQ (p:Prop):Bool:=@decide p<|Classical.propDecidable p
theorem jF:FQ p=true↔p:=by unfold FQ;exact @Ii p<|Classical.propDecidable p
theorem uV(h:¬p):FQ p=false:=by
 cases q:FQ p with
 | true=>exact absurd (jF.mp q) h
 | false=>rfl
theorem Az:(b=FQ p)=(b=true↔p):=by
 refine propext #[λh=>h>>jF,λh=>?_];cases b with
 | true=>exact(jF.mpr<|h.mp rfl).symm
 | false=>exact(uV λz=>by cases h.mpr z).symm
theorem kW(h:p):FQ p=true:=jF.mpr h
theorem iw{α:Type}[Rp α]{L:List<|List α}{k:Nat}(h:k<L.z):ix L (k:Int)=L.getD k []:=cH h
theorem wA{l:cc}{k:Nat}(h:k<l.z):ix l (k:Int)=l.getD k 0:=cH h
abbrev TQ:=Pz (λp q r:cc=>∃a b c:V3,p=l3 a/\q=l3 b/\r=l3 c/\S3 30000 a/\S3 30000 b/\S3 30000 c) λp q r=>tn (t3 p) (t3 q)<|t3 r
noncomputable abbrev T2:=ur (λL:cq=>(∀l∈L,l.z=3/\∀x∈l,Sz 30000 x)/\L.z<=200) λL=>FQ<|P4 L
abbrev P9:=Bt (λ_ _:Int=>True) λa b=>((Int.gcd a b:Nat):Int)
def gJ(a b:Int):Int×Int:=(a.fdiv (if b<0 then -((Int.gcd a b:Nat):Int)else((Int.gcd a b:Nat):Int)),b.fdiv<|if b<0 then -((Int.gcd a b:Nat):Int)else((Int.gcd a b:Nat):Int))
abbrev zep:=Bt (λa b:Int=>b≠0/\Sz 9000 b) gJ
def Xg(n:Nat)(s:Sq<|Int×Int):Prop:=(∃z,Fq z s.l/\z<=9000)/\s.l.z<=n
abbrev zfx:=ur (Xg 1000) λs=>dO s.l
def FV(fs:List<|Int×Int):cc:=fs.map λf=>f.1*(dO fs / f.2)
abbrev TY:=ur (Xg 1000) λs=>FV s.l
abbrev NV:=ur (Xg 900) λs=>FV s.l++[dO s.l]
theorem OU{z:Nat}:∀{a:List<|Int×Int},(∀f∈a,Sz z f.2)->pd a<=2 ^ (z*a.z)
 | [],_=>Xx _
 | g::a,h=>by erw[Bq,Nat.mul_succ,Hh,Nat.pow_add,Fx (FE<|h g AO)<|OU λf b=>h f<|A7 _ b]
theorem IE(q:Fq z fs)(hz:z<=9000)(a:fs.z<=1000):Sz 10000000<|dO fs:=
 FA (Ay (iQ.n6 q.pos).2.2<|OU q.bot) (Lv A?<|FA (Fx hz a) A?)
def Spot:Type:=List<|Int×Int
instance:Rp Spot:=#[([]:List<|Int×Int),λH v p=>Rp.r H v<|Tp.mk (α:=Int×Int) p,λe h=>Rp.mono (α:=Tp<|Int×Int) e h]
instance:Dq Spot:=#[λp=>Dq.d<|Tp.mk (α:=Int×Int) p,2,λh=>Dq.rd (α:=Tp<|Int×Int) h,λ_=>Dq.lay _,λ_=>Dq.dep (α:=Tp<|Int×Int) _,λx y=>(Dq.inj (α:=Tp<|Int×Int) _ _).trans #[λh=>A4 Tp.l h,λh=>A4 _ h]]
instance:DecidableEq Spot:=inferInstanceAs<|DecidableEq<|List<|Int×Int
section
variable {c:Cell} {ta tb:TE} {p:Spot}
theorem vb(h:List.length p=2):p=[cE p,cW p]:=by
 match p,h with
 | [f,g],_=>rfl
end
theorem zbG{α:Type}{xs:List α}{k d:Nat}{v:α}(a:k<xs.z)(b:d<=xs.z)(h:xs[bk xs.z k d]?=some v):oI xs ((k:Int)-d)=some v:=by unfold bk at h;unfold oI xP;ext(c:d<=k);rw[show k+xs.z-d=(k-d)+xs.z by lia,Aa,AV ()]at h;rw[Al (),Al (),show((k:Int)-d).toNat=k-d by lia];exact h;rw[AV ()]at h;erw[Ak (),Al (),show((k:Int)-d+xs.z).toNat=k+xs.z-d by lia,h]
section
open Dt
def qM(L:cq)(c:Nat):cq:=if mx L c c≠0 then L else match (L.drop<|c+1).find? (λr=>decide<|r.getD c 0≠0)with
 | some r=>L.set c<|List.zipWith (·+·) (L.getD c []) r
 | none=>L
abbrev Xl:=Bt (λ(L:cq) (c:Int)=>∃n m k:Nat,c=(k:Int)/\g7 L n m/\k<n/\k<m/\n<=1000/\m<=1000/\∃r,k<=r/\r<n/\mx L r k≠0) λL c=>qM L c.toNat
abbrev zfQ:=fn4 (λ(r l:cc) (c d:Int)=>∃k m:Nat,c=(k:Int)/\r.z=m/\l.z=m/\k<m/\m<=1000/\d≠0/\Sz 9000 d/\(∀x∈r,Sz 9000 x)/\∀x∈l,Sz 9000 x) λr l c d=>Q8 r l c.toNat d
def Te(L:cq)(c:Nat)(d:Int):cq:=(L.map λr=>Q8 r (L.getD c []) c d).set c<|L.getD c []
abbrev Og:=Pz (λ(L:cq) (c d:Int)=>∃n m k:Nat,c=(k:Int)/\g7 L n m/\k<n/\k<m/\n<=1000/\m<=1000/\d≠0/\Sz 9000 d/\∀l∈L,∀x∈l,Sz 9000 x) λL c d=>Te L c.toNat d
def gj(L:cq):Nat->List cc×Int
 | 0=>(L,1)
 | k+1=>(Te (qM (gj L k).1 k) k (gj L k).2,mx (Te (qM (gj L k).1 k) k (gj L k).2) k k)
structure NR(L:cq)(n m M:Nat):Prop where
 rc:g7 L n m
 nm:n<=m
 hn:n<=1000
 hm:m<=1000
 hM:1<=M
 hb:∀i j,(mx L i j).natAbs<=M
 hz:((n+1)*(2*M)) ^ (n+1)<2 ^ 9000
 inj:Inj n m (mx L)
abbrev zdc:=ur (λL:cq=>∃n m M,NR L n m M) λL=>(gj L L.z).1
theorem pH{α β a:Type}(f:α->β->a):∀(l:List α) (m:List β),(l.zip m).map (λp=>f p.1 p.2)=List.zipWith f l m
 | [],_=>by simp
 | _::_,[]=>by simp
 | _::l,_::m=>by simp[pH f l m]
theorem OZ{i j:Nat}(b:i<L.z)(a:j<(L.getD i []).z):ix (ix L (i:Int)) (j:Int)=mx L i j:=cH b>>(cH a).trans rfl
theorem RX(g:g7 L n m)(l:k<n)(h:∃r,k<=r/\r<n/\mx L r k≠0):Led L (qM L k) n k:=by
 let d:∀{i:Nat},i<n->L[i]?=some (L.getD i []):=λ{i} a=>by rw[su,me<|g.len>>a];rfl
 unfold qM;ext(c:mx L k k≠0);rw[Al c];exact .inl #[rfl,c];rw[Ak c];let#[r,s,j,e]:=h;let p:r≠k:=λz=>c<|z▸e;cases q:(L.drop<|k+1).find? (λr=>decide<|r.getD k 0≠0)with
 | none=>
  exact absurd (BG e)<|Ij.mp q (L.getD r [])<|Ej.mpr #[r-(k+1),by erw[Hj,show k+1+(r-(k+1))=r by lia,d j]]
 | some b=>
  let o:=find?_some q;let#[i,a]:=Ej.mp<|Lx q;rw[Hj]at a;let f:=(AA.mp a).1;rw[g.len]at f;refine .inr #[BS c,k+1+i,L.getD k [],b,(),f,d l,a,?_,rfl];erw[fR a,Eb o]
end
theorem C4(q:Fq z fs):Wh fs (dO fs)<|FV fs:=by let#[e,d,g]:=iQ.n6 q.pos;refine#[e,by unfold FV;simp,λi f x a b=>?_];unfold FV at b;rw[AY,a]at b;cases b;let#[y,c]:=d f<|A5 a;let:=q.pos f<|A5 a;show f.1*(dO fs / f.2)*f.2=_;rw[c,Jh _ ()];grind
section
open Dt
def sM(R:List<|List<|Int×Int)(a:List<|Int×Int):cq:=(R.zip a).map λp=>FV<|p.1++[p.2]
def Ku(R:List<|List<|Int×Int)(a:List<|Int×Int):List<|Int×Int:=(enum (gj (sM R a) (sM R a).z).1).map λp=>gJ (ix p.2<|-1)<|ix p.2 p.1
structure NN(n:Nat)(R:List<|List<|Int×Int)(gs:List<|Int×Int):Prop where
 fn:rT n R gs
 hn:n<=8
 sz:SzR R gs
 ns:NS n R
abbrev zdB:=Bt (λ(R:List<|List<|Int×Int) (a:List<|Int×Int)=>∃n,NN n R a) Ku
end
abbrev zcr:=Pz (λ(L:cq) (a b:Int)=>ah L/\Dt L (a,b)) λL a b=>(nx L (a,b)).2
def TC(L:cq)(d:af)(r:cc):Prop:=∃k,r=aI L d k/\0<k/\it L d k=d/\jE L d k
def TV(a:List Cell)(c:Cell):Prop:=∃(L:cq) (d:af),ah L/\Dt L d/\(cT L L.z).z<128/\a=[is L,is d.1,is d.2]/\c=aW (TC L d)
def NO(r l:cc):Prop:=∃c,l=dX r c/\c<r.z/\∀j,j<r.z->Le (dX r c) (dX r j)
def zeK(a:List Cell)(c:Cell):Prop:=∃r:cc,0<r.z/\r.z<=1000/\a=[is r]/\c=aW (NO r)
abbrev NY:=ur (λr:cc=>0<r.z/\r.z<=1000) λr=>sh 0 r
noncomputable def fT (L:cq):cq:=open Classical in if h:∃R,fe L R then h.choose else []
theorem jL(h:fe L R):fT L=R:=by unfold fT;erw[dif_pos #[R,h],fe.unique (Exists.choose_spec (#[R,h]:∃R,fe L R)) h]
noncomputable abbrev Oa:=ur (λL:cq=>ah L/\L.z<=60/\(cT L L.z).z<128) λL=>fT L
theorem Bx:∀{l:cc},l≠[]->∃m∈l,∀x∈l,m<=x
 | [],h=>absurd rfl h
 | [a],_=>#[a,by simp,by simp]
 | a::b::l,_=>by let#[m,e,d]:=Bx (l:=b::l) A!;ext(z:a<=m);exact#[a,by simp,λx c=>by ext(rfl|c:AX.mp c);exact Jt _;exact Int.le_trans z<|d x c];exact#[m,A7 _ e,λx c=>by ext(rfl|c:AX.mp c);lia;exact d x c]
def T8(c:cc):cc:=c.mergeSort λa b=>decide<|a<=b
theorem uZ(d:cc):(T8 d).Perm d/\(T8 d).Pairwise (·<=·):=#[mergeSort_perm _ _,(pairwise_mergeSort (λa b c f e=>by simp at *;lia) (λa b=>by simp;lia) d).imp λh=>Eb h]
theorem zdb(h:Pl ta e ns)(d:ns.z<64)(a:ns.Nodup):Pe (jT (vT K)<|aG ta bN) e<|is<|T8 ns:=Pe.XY (zdP h d) λf ⟨b,c⟩=>
 kh (strict c<|b.nodup_iff.mpr a) (strict (uZ ns).2<|(uZ ns).1.nodup_iff.mpr a) λx=>(b.mem_iff).trans ((uZ ns).1.mem_iff).symm
abbrev TU:=ur (λL:cq=>L.z<=60/\ah L) λL=>eL L L.z
def Ke(L:cq)(S:cc)(st:Int)(D:sW Int Bool):Prop:=∃ks:cc,D.l=ks.map (λx=>(x,true))/\ks.Nodup/\∀x,x∈ks↔dH L S st x
def T4(a:List Cell)(c:Cell):Prop:=∃(L:cq) (st:Int) (S:cc),L.z<=60/\ah L/\(0<=st/\st<L.z)/\a=[is L,is st,is S]/\c=aW (Ke L S st)
noncomputable abbrev Ob:=ur (λL:cq=>L.z<=60/\0<L.z/\ah L) λL=>decide<|(rn L [] 0:Int)=L.z
noncomputable abbrev Of:=ur (λL:cq=>ah L/\L.z<=60/\(cT L L.z).z<128) λL=>(L.z:Int)+(fT L).z-(eL L L.z).z+iso L
abbrev NW:=Bt (λ(L:cq) (k:Int)=>ah L/\(0<=k/\k<L.z)/\L.z<=60) λ_ _=>false
abbrev zcF:=ur (λL:cq=>ah L/\L.z<=60) λ_=>Unit.unit
noncomputable abbrev zeV:=Bt (λ(L:cq) (S:cc)=>ah L/\L.z<=60) λL S=>Aj L S
abbrev NZ:=ur (λn:Int=>0<=n/\n<=60) λn=>dE n.toNat n.toNat
noncomputable abbrev zby:=ur (λL:cq=>ah L/\L.z<=60) λL=>(dE L.z L.z).find?<|Aj L
abbrev zcg:=ur (λL:cq=>b8 L/\L.z<=60/\(cT L L.z).z<128) λ_=>Unit.unit
noncomputable abbrev zeU:=Bt (λ(L:cq) (k:Int)=>b8 L/\L.z<=60/\(cT L L.z).z<128/\0<=k/\k<(fT L).z) λL k=>(fT L).getD k.toNat []
theorem IC(a b:cc):Le a b\/Le b a:=by
 cases h:HT.cx b a with
 | false=>exact .inl h
 | true=>exact .inr<|Le.of_lt h
theorem Dy(r:cc):∀n,0<n->∃c,c<n/\∀j,j<n->Le (dX r c) (dX r j)
 | 0,h=>absurd h A?
 | 1,_=>#[0,by decide,λj a=>by erw[show j=0 by lia,Le.refl _]]
 | n+2,_=>by let#[c,b,h]:=Dy r (n+1) ();ext(z|z:IC (dX r c)<|dX r<|n+1);exact#[c,(),λj a=>by ext(e:j=n+1);rw[e];exact z;exact h j ()];exact#[n+1,(),λj a=>by ext(e:j=n+1);rw[e];exact Le.refl _;exact Le.trans z<|h j ()]
theorem PF{L:cq}(m:ah L):∀(n:Nat) {R:cq} {ks:List af},Lp L R ks->(cT L L.z).z-ks.z<=n->∃o b,Lp L o b/\∀d,Dt L d->d∈b
 | n,R,ks,lp,hn=>by
  ext(all:∀d,Dt L d->d∈ks);exact#[R,ks,lp,all];let#[d,j]:=Classical.not_forall.mp all;let#[dt,p]:=Classical.not_imp.mp j;let#[k,e,h,i]:=rB m dt;let#[c,l,g]:=Dy (aI L d k) k e;let a:=lp.add m dt e h i p l g;let f:=a.len;let rl:(aI L d k).z=k:=by unfold aI;simp
  rw[Ac,cG,rl]at f
  match n with
  | 0=>lia
  | n+1=>exact PF m n a (by rw[Ac,cG,rl];lia)
theorem SN(f:Nat->cc)(n:Nat):∃p,Arr n p/\Up f p n:=by
 refine let l:=(List.range n).mergeSort λi j=>!HT.cx (f j) (f i);?_;let d:l.Perm<|List.range n:=mergeSort_perm _ _;refine#[l.toArray,#[~~~d.length_eq,?_],λi h=>?_];exact Array.perm_iff_toList_perm.mpr (~~~d);let st:l.Pairwise λi j=>(!HT.cx (f j) (f i))=true:=pairwise_mergeSort (le:=λi j=>!HT.cx (f j) (f i)) (λa b c g e=>by
  simp only[Bool.not_eq_true']at g e ⊢;exact Le.trans (a:=f a) (b:=f b) g e) (λa b=>by
  ext(z|z:IC (f a)<|f b);rw[show HT.cx (f b) (f a)=false from z];rfl;rw[show HT.cx (f a) (f b)=false from z];simp) _
 let k:l.z=n:= ~~~d.length_eq
 show HT.cx (f<|l.toArray.getD (i+1) 0) (f<|l.toArray.getD i 0)=false;rw[Kl,Kl];simp only[getElem?_toArray,me (show i<l.z by lia),me (show i+1<l.z by lia),M8];simpa using (Fm.mp st i (i+1) () () ())
theorem iC(m:ah L):∃R,fe L R:=by let#[R,ks,c,all]:=PF m _ Lp.start<|Xx _;let#[p,b,a]:=SN (λi=>R.getD i []) R.z;exact#[_,c.lands b a all]
def KG(n:Nat):List Spot:=(List.range n).map<|gD n
abbrev Oc:=ur (λn:Int=>0<=n/\n<=60) λn=>KG n.toNat
abbrev TX:=Pz (λ(l:cc) (x:Int) (a:cc)=>a.z<=60/\l.z<=500) λl x a=>a.map<|cY l x
structure PY(L:cq)(r:cc)(fs:List<|Int×Int):Prop where
 im:ah L
 gu:sV L
 l8:L.z<=8
 rl:r.z=fs.z
 nd:r.Nodup
 ne:r≠[]
 rg:∀x∈r,0<=x/\x<L.z
 fr:∀f∈fs,P6 f
structure Xa(L:cq)(r:cc)(fs xs:List<|Int×Int):Prop where
 len:xs.z=L.z
 sz:∀x∈xs,Dt.Lw x/\Sz 880 x.1/\Sz 880 x.2
 fix:∀x∈r,Dt.fa xs x.toNat=Dt.fa fs (r.idxOf x)
 mid:∀v:Int,0<=v->v<L.z->v∉r->mH L (λw=>Dt.fa xs w.toNat) v
def zbm(a:List Cell)(c:Cell):Prop:=∃(L:cq) (r:cc) (fs:List<|Int×Int),PY L r fs/\a=[is L,is<|sW.mk<|r.zip fs]/\c=aW (Xa L r fs)
def D5(a:List Cell)(c:Cell):Prop:=∃(L:cq) (r:cc) (Y:List Spot),ah L/\sV L/\L.z<=8/\r.z=Y.z/\r.Nodup/\r≠[]/\(∀x∈r,0<=x/\x<L.z)/\(∀q∈Y,TL q)/\a=[is L,is r,is Y]/\c=aW (α:=List Spot) (λZ=>NQ L r Y Z)
abbrev zbw:=Bt (λ(F:List Spot) (n:Int)=>n=F.z/\mI F/\F.z<=60) λ_ _=>Unit.unit
def Od(a:List Cell)(c:Cell):Prop:=∃(L:cq) (k:Nat) (o:Option<|List Spot) (F:List Spot),b8 L/\L.z<=8/\(cT L L.z).z<128/\k<(fT L).z/\((fT L).getD k []).z=F.z/\(o=some F\/o=none/\F=KG F.z)/\mI F/\a=[is L,is (k:Int),is o]/\c=aW (α:=List Spot) (λZ=>NQ L ((fT L).getD k []) F Z)
abbrev zeL:=Bt (λa b:Int=>0<b/\Sz 9000 b) gJ
abbrev Oe:=Pz (λn b p:Int=>(0<=n/\n<10 ^ 61)/\(2<=b/\b<=100)/\0<=p/\p<=100) λn b p=>n / b ^ p.toNat%b
abbrev zeT:=Bt (λf g:Int×Int=>(0<f.2/\0<g.2)/\Sz 8100 f.1/\Sz 8100 f.2/\Sz 900 g.1/\Sz 900 g.2) λf g=>gJ (f.1*g.2+g.1*f.2)<|f.2*g.2
abbrev zcm:=Bt (λf g:Int×Int=>(0<f.2/\0<g.2)/\Sz 8100 f.1/\Sz 8100 f.2/\Sz 900 g.1/\Sz 900 g.2) λf g=>gJ (f.1*g.1)<|f.2*g.2
end rY
namespace Pu
open PySem L2 Gm
def fz(K:bb)(b:cc):Cell:=#[λH v=>∃a,v=.ref a/\bH K H a b.f,λe ⟨a,h,q⟩=>#[a,h,e.seq q]]
theorem Ce(h:Pe ta e<|fz K ns):Pe (jT (λxs H Q=>∃x n,xs=[x]/\Ka K x H n/\Q (.int n) H)<|aG ta bN) e<|is (ns.z:Int):=.mk λE Q q=>h.h E _ λv f c ⟨a,d,b⟩=>by subst d;exact#[_,_,rfl,.inl #[_,(bU _ _).seq b,rfl],q _ _ c<|by rw[ZO];rfl]
theorem Qr(k:Pe ta e<|fz K ns)(l:Pe tb e<|is i)(h : -(ns.z:Int)<=i/\i<ns.z):Pe (mK (L7 K) ta tb) e<|is<|ix ns i:=.mk λE Q q=>k.h E _ λv m c ⟨a,g,f⟩=>l.h (E.grow c) _ λw b s2 d=>by subst g;cases d;let#[v,j,rv]:=BY (p9 b ns)<|O3 h;exact#[a,_,i,v,rfl,rfl,s2.seq<|(bU _ _).seq f,j,q v b (c.trans s2)<|by rw[show v=V.int (ix ns i)from rv];rfl]
section
variable {α:Type} {iα:Rp α} {c d:Cell} {ta tb tc:TE} {t u:TS}
theorem Qt{xs ys:List α}(o:Pl ta e xs)(k:Pl tb e ys)(d:Dq α)(s:DecidableEq α)(g:Dq.n α+1<=64):Pe (mK (Ho false) ta tb) e<|is<|decide<|xs=ys:=.mk λE Q q=>o.h E _ λa vs r f m j=>k.h (E.grow f) _ λb us p s2 i l=>
 #[.list<|xs.map Dq.d,.list<|ys.map Dq.d,.lst (s2 _ _ m)<|oR<|Rs.mono ((bU _ _).trans s2) j,.lst i<|oR<|Rs.mono (bU _ _) l,fO g xs,fO g ys,q _ _ (f.trans s2) (by let:PyData.eqv (.list<|xs.map Dq.d) (.list<|ys.map Dq.d)=decide (xs=ys):=BI (α:=List α) inferInstance inferInstance;rw[this];rfl)]
def S4(a:Int)(n:Nat):cc:=(List.range n).map λk:Nat=>a-(k:Int)
theorem Jz:(S4 hi n)[k]?=some x↔k<n/\x=hi-(k:Int):=by unfold S4;rw[AY];ext(h:k<n);rw[Fy h];simp[h,eq_comm];rw[Eu<|by rw[Er];lia];simp[h]
theorem zdM(r:Pe ta e<|is i)(m:Pe tb e<|is j)(p:Pe tc e<|is (-1:Int))(h : -(2 ^ 62)<=i/\i<2 ^ 62/\-(2 ^ 62)<=j/\j<2 ^ 62):Pi (IL<|aG ta<|aG tb<|aG tc bN) e<|S4 i (i-j).toNat:=.mk λE R q=>r.h E _ λv D a l=>m.h (E.grow a) _ λw C s2 n=>p.h (E.grow<|a.trans s2) _ λz B b g=>by
 cases l;cases n;cases g;let dl:(S4 i (i-j).toNat).z=(i-j).toNat:=by unfold S4;simp
 refine#[i,j,rfl,h,q _ _ (a.trans<|s2.trans b) #[λk H _ h=>by rwa[dl]at h,λk H y v x A _ _ s ⟨o,f⟩=>?_,λk H _ h=>by rwa[dl]at h]];subst o;exact#[ak.refl _,(Jz.mp s).2>>f]
end
section
variable {α β:Type} {iα:Rp α} {iβ:Rp β} {ta:TE}
theorem zbo{E:XK}{tr:TA}{f:α->Prop}{g:β->Prop}(r:Pe ta e<|aW f)(p:Pa tr e cs)(h:∀x,f x->∃a : β->Prop,A (is x::cs) (aW a)/\∀y,a y->g y):Pe (tD (FT A) [] E<|aG ta tr) e<|aW g:=.mk λEn Q q=>
 r.h En _ λv t b ⟨x,j,k⟩=>p.h (En.grow b) _ λvs s s2 n=>by let#[a,i,m]:=h x j;exact#[is x::cs,aW a,_,(En.grow<|b.trans s2).rK,by erw[GA,.cons (Rp.mono (aO s2) k) n],i,λv c d ⟨y,o,l⟩=>q v c (b.trans<|s2.trans d) #[y,m y o,l]]
end
def Ky{α:Type}[Rp α](b:Hp)(xs:List<|af×α):Cell:=#[λH v=>Rp.r H v (sW.mk xs)/\∀a o u,v=.ref a->b a≠some (.jA o u),λe h=>#[Rp.mono e h.1,h.2]]
section
variable {α:Type} {iα:Rp α} {e:List Sl} {c:Cell} {K:bb} {ta tb:TE} {t u:TS} {N:List Sl->Prop} {Hb:Hp} {xs:List (af×α)}
theorem zef{i:Nat}{f:sW af α->Prop}(q:Pe ta e<|aW f)(m:∀xs,f #[xs]->Go u (e.set i<|.sh<|Ky Hb xs) N c):GoH Hb (gG (mT ta<|bI i) u) e N c:=.mk λE w r=>q.h E _ λv y g ⟨x,k,d⟩=>(m x.l k).h ((E.grow g).set #[d,λa o u s n=>by let#[b,vs,p,j,_]:=d;subst s;cases p;let:=(aE.mp j).2;rw[(E.same.trans g) _ _ n]at this;cases this]) w r
theorem UQ(h:e[i]?=some (.sh<|Ky Hb xs)):Pd (fE i) e xs:=.mk λE Q q=>by let#[v,f,#[a,vs,b,d,g],_]:=E.sh i _ h;subst b;exact#[_,f,q a vs _ (ak.refl _) (aE.mp d).2 g]
theorem SY(h:Ds H vs xs):vs.map (·.1)=xs.map (·.1):=by
 induction h with
 | nil=>rfl
 | cons a _ b=>rw[Ap,Ap,b,a.1]
def hits(a:List af)(pl:Int):cc:=(a.filter λd=>decide<|d.1=pl).map (·.2)
theorem qE:x∈hits ds pl↔(pl,x)∈ds:=by unfold hits;constructor;ext h;let#[d,f,e]:=A3.mp h;let#[b,a]:=ER.mp f;rw[<-Eb a,<-e];exact b;ext h;exact A3.mpr #[(pl,x),ER.mpr #[h,BG rfl],rfl]
theorem zcD{σ:St}{H L:Hp}{a:Addr}{vs:List<|af×V}{D:Ends}{Q I P:Nat}{pl:Int}(top:H a=some (.dT<|vs.map λp=>(R7 p.1,p.2)))(S:∀o u,L a≠some (.jA o u))(hc:σ[Q]?=some (a.j))(A:σ[I]?=some (pl.m))(Y:hits (vs.map (·.1)) pl≠[])(hl:vs.z<=5000)(q:∀m M,m∈hits (vs.map (·.1)) pl->(∀x∈hits (vs.map (·.1)) pl,m<=x)->ak H M->D.nx (σ.set P<|m.m) M) :
  Cg L (mT (jT (CF K)<|aG (nV (wH<|fE Q) (oG K 2<|dA (bI 0)<|dA (bI 1) oH) (tj<|mK Ub (fE 0)<|fE 2) (fE 1) 2 [I]) bN)<|bI P) D σ H:=by
 refine Q9<|(Ys<|(Rg<|zcw<|CC hc #[a,_,rfl,top,λo=>?_]));ext r w;generalize j:(vs.map λp=>(R7 p.1,p.2))=h at top w ⊢;let y:h.z=vs.z:=by rw[<-j,ZO]
 let J:∀b u,b≠a->H b=some u->upd H a (.jA o<|.dT h) b=some u:=λb u R e=>aB R>>e
 let E:upd H a (.jA o<|.dT h) a=some (.jA o<|.dT h):=aA;generalize upd H a (.jA o<|.dT h)=W at J E w ⊢;let T:eE 2 [I] σ=[none,none,pl.m]:=by unfold eE;simp[A]
 rw[T];refine zaA (λi f ys n=>∃B G:Option V,f=[B,G,pl.m]/\ys=(hits ((vs.map (·.1)).take i) pl).f/\ak W n/\n r=some (.lst ys)) #[none,none,rfl,rfl,ak.upd w,aA] (λi f ys n _ ⟨_,_,_,_,e,_⟩=>e _ _ E) ?_ ?_;ext i k v b f ys n O l F ⟨B,G,rfl,rfl,s,g⟩;rw[y]at F;obtain⟨d,Z,rfl⟩:∃d,(vs.map (·.1))[i]?=some d/\k=R7 d:=by rw[<-j,AY]at O;let#[p,A,e]:=GF.mp O;cases e;exact#[p.1,by rw[AY,A];rfl,rfl]
 let U:(hits ((vs.map (·.1)).take i) pl).z<=i:=by unfold hits;rw[ZO];refine Ay (LF _ _) ?_;rw[Fb];lia
 refine Rb (mF.of l) rfl<|CD<|vS<|CD<|vS<|Rc ?_;refine Ra<|(CC rfl<|CC rfl<|OL #[_,rfl,?_]);rw[take_snoc Z];unfold hits at U g ⊢;rw[Hi,EE,EE,Jr];ext(z:d.1=pl);rw[BG z];exact ifT<|CC rfl #[g,by rw[ZO,La];lia,PM (y>>F) #[_,_,rfl,rfl,ak.fresh s w,aA]];rw[BQ z];exact ifF<|PM (y>>F) #[_,_,rfl,by simp,s,g];ext f ys n ⟨B,G,rfl,rfl,s,g⟩;rw[y,<-ZO,F6]at g;refine#[r,_,rfl,bH.of g,λz=>Y z,λm X C=>vS #[a,o,h,s _ _ E,S,?_]];refine q m _ X C λb u l=>?_;ext(z:b=a);subst z;rw[top]at l;rw[aA];exact l;erw[aB z,s _ _<|J b u z l]
theorem zcS(C:e[ic]?=some (.sh<|Ky Hb xs))(p:e[ip]?=some (.sh<|is pl))(g:(pl,m)∈xs.map (·.1))(b:∀x,(pl,x)∈xs.map (·.1)->m<=x)(r:xs.z<=5000)(y:Go u (e.set jf<|.sh<|is m) N c) :
  Go (gG (Cg Hb<|mT (jT (CF K)<|aG (nV (wH<|fE ic) (oG K 2<|dA (bI 0)<|dA (bI 1) oH) (tj<|mK Ub (fE 0)<|fE 2) (fE 1) 2 [ip]) bN)<|bI jf) u) e N c:=.mk λE G B=>by
 let#[v,A,#[a,vs,n,q,f],k]:=E.sh ic _ C;let#[w,D,F]:=E.sh ip _ p;subst n;cases F;let j:=SY f;refine zcD (aE.mp q).2 (λo u=>k a o u rfl) A D (λz=>?_) (by erw[show vs.z=xs.z from Bm f,r]) λl H i d s=>?_;rw[j]at z;let:=qE.mpr g;rw[z]at this;cases this;rw[j]at i d;erw[show l=m from Int.le_antisymm (d _<|qE.mpr g)<|b _<|qE.mp i,y.h ((E.grow s).set rfl) G B]
end
theorem zeG(H:Hp):cut H []=H:=by funext a;unfold cut;simp
end Pu
namespace Pu
open PySem PySem.Spec PySem.W PySem.Calls PyProof.Rows L2 Gm
section
variable [Rp α]
def GQ(e:List Sl)(c:Cell):TE:=λσ H Q=>∃d b O,En d b H O σ e/\∀v a,ak H a->c.p (cut a O) v->Q v a
def tF(e:List Sl)(w:Own):TE:=λσ H Q=>∃d c O,En d c H O σ e/\∀a o b,H a=none->ak H b->b a=some o->w.q (cut b<|a::O) o->Q (.ref a) b
def tL(e:List Sl)(xs:List α):TE:=λσ H Q=>∃d c O,En d c H O σ e/\∀a vs b,ak H b->b a=some (.lst vs)->Rs (cut b O) vs xs->Q (.ref a) b
def tT(e:List Sl)(b:Bool):TT:=λσ H Q=>∃d c O,En d c H O σ e/\∀a,ak H a->Q b a
def tA(e:List Sl)(d:List Cell):TA:=λσ H Q=>∃f b O,En f b H O σ e/\∀vs a,ak H a->Paired (λv c=>c.p (cut a O) v) vs d->Q vs a
def tP(e:List Sl)(o:Option Int):TO:=λσ H Q=>∃c b O,En c b H O σ e/\∀a,ak H a->Q o a
def tI(e:List Sl)(xs:List α):TI:=λσ H R=>∃c b O,En c b H O σ e/\∀J a,ak H a->Iter J O a xs->R J a
def tS(e:List Sl)(N:List Sl->Prop)(c:Cell):TS:=λD σ H=>∃f d O,En f d H O σ e/\(∀a h b g,N g->En f d a h b g->D.nx b a)/\∀v a,ak f a->c.p (cut a d) v->D.rt v a
structure Ev(X:Cx)(x:Expr)(e:List Sl)(c:Cell):Prop where p:PE X x (GQ e c)
structure Ef(X:Cx)(x:Expr)(e:List Sl)(w:Own):Prop where p:PE X x (tF e w)
structure El(X:Cx)(x:Expr)(e:List Sl)(xs:List α):Prop where p:PE X x (tL e xs)
structure Et(X:Cx)(x:Expr)(e:List Sl)(b:Bool):Prop where p:PT X x (tT e b)
structure Ew(X:Cx)(x:Expr)(e:List Sl)(b:Bool):Prop where p:PW X x (tT e b)
structure Ea(X:Cx)(xs:List Expr)(e:List Sl)(cs:List Cell):Prop where p:PA X xs (tA e cs)
structure Eo(X:Cx)(x:Option Expr)(e:List Sl)(o:Option Int):Prop where p:PO X x (tP e o)
structure Ei(X:Cx)(tg x:Expr)(e:List Sl)(xs:List α):Prop where p:PI X tg x (tI e xs)
structure Gs(X:Cx)(b:List Stmt)(e:List Sl)(N:List Sl->Prop)(c:Cell):Prop where p:uO X b (tS e N c)
end
section
variable {α β:Type} {iα:Rp α} {iβ:Rp β} {c:Cell}
theorem aq  : Pe (GQ e c) e c:=.mk λE Q q=>#[_,_,_,E,q]
theorem Rt:Pf (tF e w) e w:=.mk λE Q q=>#[_,_,_,E,q]
theorem gn{xs:List α}:Pl (tL e xs) e xs:=.mk λE Q q=>#[_,_,_,E,q]
theorem qj:Pt (tT e b) e b:=.mk λE Q q=>#[_,_,_,E,q]
theorem yW:Pa (tA e cs) e cs:=.mk λE Q q=>#[_,_,_,E,q]
theorem Vt:Po (tP e o) e o:=.mk λE Q q=>#[_,_,_,E,q]
theorem HF{xs:List α}:Pi (tI e xs) e xs:=.mk λE Q q=>#[_,_,_,E,q]
theorem kJ:Go (tS e N c) e N c:=.mk λE b a=>#[_,_,_,E,b,a]
theorem Ev.of(p:PE X x t)(h:Pe t e c):Ev X x e c:=#[λpins s σ H Q I ⟨_,_,_,E,q⟩=>p pins s σ H Q I<|h.h E Q q]
theorem Ef.of(p:PE X x t)(h:Pf t e w):Ef X x e w:=#[λpins s σ H Q I ⟨_,_,_,E,q⟩=>p pins s σ H Q I<|h.h E Q q]
theorem El.of{t:TE}{xs:List α}(p:PE X x t)(h:Pl t e xs):El X x e xs:=#[λpins s σ H Q I ⟨_,_,_,E,q⟩=>p pins s σ H Q I<|h.h E Q q]
theorem Et.of(p:PT X x t)(h:Pt t e b):Et X x e b:=#[λpins s σ H Q I ⟨_,_,_,E,q⟩=>p pins s σ H Q I<|h.h E Q q]
theorem Ew.of(p:PW X x t)(h:Pt t e b):Ew X x e b:=#[λa pins s σ H Q I ⟨_,_,_,E,q⟩=>p a pins s σ H Q I<|h.h E Q q]
theorem Ea.of(p:PA X xs t)(h:Pa t e cs):Ea X xs e cs:=#[λpos pins s σ H Q I ⟨_,_,_,E,q⟩=>p pos pins s σ H Q I<|h.h E Q q]
theorem Eo.of(p:PO X y t)(h:Po t e o):Eo X y e o:=#[λpins s σ H Q I ⟨_,_,_,E,q⟩=>p pins s σ H Q I<|h.h E Q q]
theorem Ei.of{t:TI}{a:Expr}{xs:List α}(p:PI X a x t)(h:Pi t e xs):Ei X a x e xs:=#[λpins s σ H Q I ⟨_,_,_,E,q⟩=>p pins s σ H Q I<|h.h E Q q]
theorem Gs.of(p:uO X b t)(h:Go t e N c):Gs X b e N c:=#[λpins s σ H D I ⟨_,_,_,E,d,a⟩=>p pins s σ H D I<|h.h E d a]
theorem Ef.ev{xs:List α}(h:Ef X x e<|ol xs):Ev X x e<|is xs:=.of h.p Rt.pe
theorem Ev.el{xs:List α}(h:Ev X x e<|is xs):El X x e xs:=.of h.p aq.pl
theorem Ev.eq{x' y' : α}(h:Ev X x e<|is x')(q:x'=y'):Ev X x e<|is y':=q▸h
theorem Et.eq(h:Et X x e a)(q:a=b):Et X x e b:=q▸h
theorem Ef.eqL{xs ys:List α}(h:Ef X x e<|ol xs)(q:xs=ys):Ef X x e<|ol ys:=q▸h
end
section
variable {α β γ:Type} {iα:Rp α} {iβ:Rp β} {iγ:Rp γ} {e:List Sl} {c d w:Cell} {X:Cx} {a b x y z:Expr} {pos p p2 p3 apos:Pos} {n:Str} {i:Nat}
structure Nm(X:Cx)(n:Str)(i:Nat):Prop where
 at':X.N[i]?=some n
 FO:X6 X.env.scope n
 hd:(n==("__debug__":Str))=false
 hc:(n==("__classdict__":Str))=false
theorem ae(h:M! Nm X n i)(k:L! (e[i]?=some (.sh c))):Ev X (.Name n pos) e c:=.of (pe_var h.at' h.FO h.hd h.hc)<|Qj k
theorem bj{xs:List α}(h:M! Nm X n i)(k:L! (e[i]?=some (.ow<|ol xs))):El X (.Name n pos) e xs:=.of (pe_var h.at' h.FO h.hd h.hc)<|Qd k
theorem au:Ev X (.Constant (.int k) j pos) e<|is k:=.of Rz<|Qw λ_=>rfl
theorem WN:Ev X (.Constant (.bool k) j pos) e<|is k:=.of Vx<|Qw λ_=>rfl
structure Ow(X:Cx)(f:Value->Value->Sem Value)(c d w:Cell):Prop where
 h:∃r,oJ X f r/\∀e,Pe (mK r (GQ e c)<|GQ e d) e w
theorem aL(f:Ev X a e c)(g:Ev X b e d)(o:Ow X (binaryOp op) c d w):Ev X (.BinOp a op b pos) e w:=let ⟨_,o,h⟩:=o.h;.of (OS o f.p g.p) (h e)
theorem wW(l:Ev X a e c)(g:Ev X b e d)(o:Ow X (compareOp op) c d w)(m:J! (behindInMarks op b=false)):Ev X (.Compare a [op] [b] pos) e w:=let ⟨_,o,h⟩:=o.h;.of (by ext pins s σ H Q I h;exact wpAny_Compare1 (Tw l.p g.p I h λv u s2 x y j k r f q=>o pins s2 σ j x y v u Q k r f q) m) (h e)
theorem iD(f:Ev X a e c)(g:Ev X b e d)(o:Ow X (compareOp op) c d<|is k)(m:J! (behindInMarks op b=false)):Et X (.Compare a [op] [b] pos) e k:=let ⟨_,o,h⟩:=o.h;.of (vX o f.p g.p m) (B9<|h e)
section
variable {k l:Int}
theorem ow_add  : Ow X (binaryOp .Add) (is k) (is l)<|is<|k+l:=#[_,VD λ_ _ _ _ _ _ _ q=>add_int q,λ_=>Gq aq aq]
theorem ow_sub  : Ow X (binaryOp .Sub) (is k) (is l)<|is<|k-l:=#[_,VD λ_ _ _ _ _ _ _ q=>sub_int q,λ_=>Gq aq aq]
theorem ow_mul(h:IntMulOk k l):Ow X (binaryOp .Mult) (is k) (is l)<|is<|k*l:=#[_,VE λ_ _ _ _ _ _ _ f q=>mul_int q f,λ_=>pJ aq aq h]
theorem ow_mod(h:0<l):Ow X (binaryOp .Mod) (is k) (is l)<|is<|k%l:=#[_,RH,λ_=>pJ aq aq h]
theorem ow_fdp(h:Xj k l):Ow X (binaryOp .FloorDiv) (is k) (is l)<|is<|k / l:=#[_,RI,λ_=>pJ aq aq h]
theorem ow_fdn(h:KI k l):Ow X (binaryOp .FloorDiv) (is k) (is l)<|is<|k.fdiv l:=#[_,VE λ_ _ _ _ _ _ _ f q=>floordiv_int f.1 q<|.inl f.np,λ_=>pJ aq aq h]
theorem v9(h:Xi k l):Ow X (binaryOp .Pow) (is k) (is l)<|is<|k ^ l.toNat:=#[_,VE λ_ _ _ _ _ _ _ f q=>pow_int_small f.1 f.2.1 f.2.2 q,λ_=>pJ aq aq h]
theorem ow_lt  : Ow X (compareOp .Lt) (is k) (is l)<|is<|decide<|k<l:=#[_,MB λ_ _ _ _ _ _ _ q=>lt_int q,λ_=>uR aq aq]
theorem ow_gt  : Ow X (compareOp .Gt) (is k) (is l)<|is<|decide<|k > l:=#[_,MB λ_ _ _ _ _ _ _ q=>gt_int q,λ_=>uR aq aq]
theorem ow_ge  : Ow X (compareOp .GtE) (is k) (is l)<|is<|decide<|k>=l:=#[_,MB λ_ _ _ _ _ _ _ q=>ge_int q,λ_=>uR aq aq]
theorem ow_eqI  : Ow X (compareOp .Eq) (is k) (is l)<|is<|decide<|k=l:=#[_,OV,λ_=>Qu aq aq]
theorem ow_neI  : Ow X (compareOp .NotEq) (is k) (is l)<|is<|!decide (k=l):=#[_,Vy,λ_=>Qo aq aq]
theorem ow_in{f:cc}:Ow X (compareOp .In) (is k) (is f)<|is<|decide<|k∈f:=#[_,zbg,λ_=>GC aq aq.pl]
theorem ow_notin{f:cc}:Ow X (compareOp .NotIn) (is k) (is f)<|is<|!decide (k∈f):=#[_,wa,λ_=>GC aq aq.pl]
end
theorem qw{u v:α}[dq:Dq α][de:DecidableEq α](B:Dq.n α<=64)(g:U! (X.A.units+64<cLine)):Ow X (compareOp .NotEq) (is u) (is v)<|is<|!decide (u=v):=#[_,by ext pins s σ H x y v u Q I t k h;let#[C,D,o,f,r,l,q]:=h;let#[F,j]:=xU.reads I o t;let#[E,m]:=xU.reads I f k;exact SeqAt.compareNe_shaped j m r l g<|aX I q rfl,λ_=>Qp aq aq dq de B]
theorem ow_cat{xs ys:List α}(h:xs.z+ys.z<=1000):Ow X (binaryOp .Add) (is xs) (is ys)<|is<|xs++ys:=#[_,HX,λ_=>(Gi aq.pl aq.pl h).pe]
theorem dG{xs ys:List α}(f:El X a e xs)(g:El X b e ys)(h:xs.z+ys.z<=1000):Ef X (.BinOp a .Add b pos) e<|ol<|xs++ys:=.of (OS HX f.p g.p)<|Gi gn gn h
theorem wU(h:Ev X a e<|is k):Ev X (.UnaryOp .USub a pos) e<|is<|-k:=.of (Vv QE h.p)<|Qk aq
theorem BB(h:Ev X a e c):Ev X (.BoolOp op [a] pos) e c:=.of (λpins s σ H Q I f=>BoolOp_one<|h.p pins s σ H Q I f) aq
theorem BD(h:Ev X a e<|is k)(g:k=true->Ev X (.BoolOp .And (b::rest) pos) e (is l)):Ev X (.BoolOp .And (a::b::rest) pos) e<|is<|k&&l:=by
 cases k with
 | true=>exact .of (HP h.p (g rfl).p)<|Cf aq λ_=>aq
 | false=>exact .of (HP h.p<|λ_ _ _ _ _ _ (q:False)=>q.elim) (Cf aq λz=>nomatch z)
theorem BE(h:Ev X a e<|is k)(f:R! (∀whole,isTrue a X.env whole=(do let v <-whole;standAt a.pos;holding [v] (truthy v)))):Et X a e k:=.of (Ri h.p f)<|Gb aq
theorem BF(h:Et X a e k):Et X (.UnaryOp .Not a pos) e<|!k:=.of (Rj h.p)<|.mk λE Q q=>qj.h E _ q
theorem Jm(h:Ew X a e k):Et X a e k:=.of h.p.pt qj
theorem wQ(h:Et X a e k):Ew X (.BoolOp .And [a] pos) e k:=.of (pw_and1 h.p) qj
theorem By(h:Et X a e k):Ew X (.BoolOp .Or [a] pos) e k:=.of (pw_or1 h.p) qj
theorem BA(h:Et X a e k)(g:k=true->Ew X (.BoolOp .And (b::rest) pos) e l):Ew X (.BoolOp .And (a::b::rest) pos) e<|k&&l:=by
 cases k with
 | true=>exact .of (pw_and h.p (g rfl).p)<|Gd qj λ_=>qj
 | false=>exact .of (pw_and h.p<|λ_ _ _ _ _ _ _ (q:False)=>q.elim) (Gd qj λz=>nomatch z)
theorem Jf(h:Et X a e k)(g:k=false->Ew X (.BoolOp .Or (b::rest) pos) e l):Ew X (.BoolOp .Or (a::b::rest) pos) e<|k || l:=by
 cases k with
 | false=>exact .of (pw_or h.p (g rfl).p)<|Ol qj λ_=>qj
 | true=>exact .of (pw_or h.p<|λ_ _ _ _ _ _ _ (q:False)=>q.elim) (Ol qj λz=>nomatch z)
theorem DD(h:Ev X a e<|is (none:Option α)):Et X (.Compare a [.Is] [.Constant .none j p] pos) e true:=.of (vY<|HR h.p) (Gb<|.mk λE Q q=>aq.h E _ λv k f g=>q _ _ f<|by rw[show v=.dY from g];rfl)
theorem Nt{j:Nat}{xs:List α}(h:Ev X a e<|is xs):Et X (.Compare a [.Is] [.Constant .none j p] pos) e false:=.of (vY<|HR h.p) (Gb<|.mk λE Q q=>aq.h E _ λv k f ⟨a,vs,g,_⟩=>q _ _ f<|by rw[g];rfl)
theorem zcO(h:Ev X a e<|is (none:Option α)):Et X (.Compare a [.IsNot] [.Constant .none j p] pos) e false:=.of (vY<|zfT h.p) (Gb<|.mk λE Q q=>aq.h E _ λv k f g=>q _ _ f<|by rw[show v=.dY from g];rfl)
theorem av  : Ea X [] e []:=.of aQ<|.mk λE Q q=>q [] _ (ak.refl _) .nil
theorem aa(g:Ev X a e c)(h:Ea X es e cs)(f:R! BU X a es):Ea X (a::es) e<|c::cs:=.of (aw g.p h.p f)<|zer aq yW
theorem Fe{u:α}{v:β}{j:Nat}(h:Ea X es e [is u,is v]):Ev X (.Tuple es j pos) e<|is (u,v):=.of (Ru h.p) (.mk λ{l H m O σ} E Q q=>yW.h E _ λvs k g r=>by
  let#[u,w,z,r1,r2]:=zpr r;subst z;refine#[sl2,λp f=>q _ _ (g.trans<|ak.upd f) ?_];let s2:ak (cut k O)<|cut (upd k p<|.tup [u,w]) O:=aO<|ak.upd f;exact#[p,u,w,rfl,jB (E.grow g).rK f aA,Rp.mono s2 r1,Rp.mono s2 r2])
structure Es{α:Type}[Rp α](X:Cx)(xs:List Expr)(e:List Sl)(vs:List α):Prop where h:Ea X xs e (vs.map is)
theorem kK  : Es X [] e ([]:List α):=#[av]
theorem fK{u:α}(g:Ev X a e<|is u)(j:Es X es e us)(f:R! BU X a es):Es X (a::es) e<|u::us:=#[aa g j.h f]
theorem kL{j:List Expr}{us:List α}(h:Es X j e us)(k:us.z<=1000):Ef X (.List j pos) e<|ol us:=.of (by ext pins s σ H Q I m;refine wpAny_List_spliced<|b9 (h.h.p pos pins s σ H _ I m) λus g ⟨xs,l,f,r,z,q⟩=>#[by erw[<-r.z,z],?_];exact#[.ref g.c,upd l g.c<|.lst xs,f.laid (λb u e=>BN _ e) (Xx _) #[z,us,0,r,EL _ rfl],rfl,q _<|f.bu.fresh<|Xx _])<|Qi yW k
structure Ix(X:Cx)(c d w:Cell):Prop where h:∃r,X9 X r/\∀e,Pe (mK r (GQ e c)<|GQ e d) e w
theorem bG(g:Ev X a e c)(j:Ev X b e d)(o:Ix X c d w)(f:R! xI b):Ev X (.Subscript a b pos) e w:=let ⟨_,o,h⟩:=o.h;.of (OT o g.p j.p f) (h e)
theorem ix_l{xs:List α}{k:Int}(h : -(xs.z:Int)<=k/\k<xs.z):Ix X (is xs) (is k)<|is<|ix xs k:=#[_,wB,λ_=>Om aq.pl aq h]
theorem BC{xs:List α}{k:Int}(f:El X a e xs)(j:Ev X b e<|is k)(h : -(xs.z:Int)<=k/\k<xs.z)(g:R! xI b):Ev X (.Subscript a b pos) e<|is<|ix xs k:=.of (OT wB f.p j.p g)<|Om gn aq h
end
end Pu
namespace Pu
open PySem PySem.Spec PySem.W PySem.Calls PyProof.Rows L2
structure Cfg where
 P:Program
 w:World
 K:bb
 mg:Str->Option Value
 base:Heap
noncomputable def Tv:List Str:=["abs", "len", "isinstance", "int", "bool", "tuple", "enumerate", "range", "min", "max", "list", "reversed", "sorted", "set", "zip", "all", "sum", "dict"]
class B1 (C:outParam Cfg):Prop where
 n:∀b∈Tv,C.mg b=none
class dI (C:Cfg) (x:Str) (k:outParam Nat) (ps:outParam (List Str)) (A:outParam (List Cell->Cell->Prop)):Prop where
 h:Ya C.P C.w C.K C.mg C.base (Ah C.P C.w) x k ps (FT A)
class Yb (C:Cfg) (x:Str) (k:outParam Nat) (ps:outParam (List Str)) (A:outParam (List Cell->Cell->Prop)):Prop where
 d:Xc C.P C.w C.K C.mg C.base (Ah C.P C.w) x k ps (FT A)
instance {C:Cfg} {x:Str} {k:Nat} {ps:List Str} {A:List Cell->Cell->Prop} [h:Yb C x k ps A]:dI C x k ps A:=#[h.d.h]
def ai(st:Stmt):List Str:=(bW st).args.map (·.arg)
def ir(st:Stmt):List Str:=(aD st).names.filterMap λp=>match p.2 with | .local=>some p.1 | .cell=>some p.1|_=>none
section
variable {C:Cfg}
theorem mgN[B1 C]{X:Cx}{b:Str}(h:X.mg=C.mg)(m:b∈Tv):X.mg b=none:=h▸B1.n b m
inductive TgS:Expr->List Str->Prop where
 | one {x p}:TgS (.Name x p) [x]
 | two {x y p q k r}:TgS (.Tuple [.Name x p,.Name y q] k r) [x,y]
inductive FrS(N:List Str):List (Str×NameKind)->List (Str×Nat)->Prop where
 | nil:FrS N [] []
 | loc {x l fr} (h:FrS N l fr):FrS N ((x,.local)::l) fr
 | glo {x l fr} (h:FrS N l fr):FrS N ((x,.globalImplicit)::l) fr
 | fre {x l fr} (i:Nat) (e:N[i]?=some x) (h:FrS N l fr):FrS N ((x,.free)::l) ((x,i)::fr)
structure Xf(X:Cx)(Hb:Hp)(b:List Stmt)(e:List Sl)(N:List Sl->Prop)(c:Cell):Prop where
 p:uO X b λD σ H=>∃O0 O,En Hb O0 H O σ e/\(∀H' O' σ' e',N e'->En Hb O0 H' O' σ' e'->D.nx σ' H')/\∀v H',ak Hb H'->c.p (cut H' O0) v->D.rt v H'
theorem Gs.b{X:Cx}{a:Hp}{b:List Stmt}{e:List Sl}{N:List Sl->Prop}{c:Cell}(h:Gs X b e N c):Xf X a b e N c:=#[λpins s σ H D I ⟨d,O,E,g,f⟩=>h.p pins s σ H D I #[a,d,O,E,g,f]]
abbrev BodyOk(C:Cfg)(x:Str)(st:Stmt)(k:Nat)(A:List Cell->Cell->Prop):Prop:=∀a c,A a c->a.z=(ai st).z/\∀(f:Addr) (b:Value) (d:Around) (outer:List Env) (s:Shared) (H:Hp) (E:XK),Room k (d.deeper<|envOfC x (aD st) s.c f b)->(ir st).Nodup->
   Xf (sP (Ah C.P C.w) C.P C.w C.K C.mg C.base (ir st) x (aD st) f b d outer s H E).Kx H (bE st) (a.map Sl.sh++List.replicate ((ir st).z-(ai st).z) .un) (λ_=>∀H,c.p H .dY) c
section
variable {x:Str} {st:Stmt} {k:Nat}
theorem BodyOk.len(e:BodyOk C x st k A):∀vs H Q E,FT A vs H Q E->vs.z=(ai st).z:=λvs H Q E h=>by let#[a,c,O,_,b,d,_]:=h;erw[show vs.z=a.z from Bm b,(e a c d).1]
theorem BodyOk.run(i:BodyOk C x st k A)(u:(ir st).Nodup)(f:Addr)(b:Value)(d:Around)(outer:List Env)(s:Shared)(H:Hp)(vs:List V)(Q:VK)(E:XK)(o:Room k<|d.deeper<|envOfC x (aD st) s.c f b)(h:FT A vs H Q E):∃t,uO (sP (Ah C.P C.w) C.P C.w C.K C.mg C.base (ir st) x (aD st) f b d outer s H E).Kx (bE st) t/\t { nx:=λ_ a=>Q .dY a,rt:=Q } (L2.start (ir st) vs) H:=by let#[j,c,O,n,e,g,q]:=h;refine#[_,((i j c g).2 f b d outer s H E o u).p,O,O,?_,(λa z m B y l=>q _ _ l.same<|y _),λv a s r=>q v a s r];unfold L2.start;erw[show vs.z=(ai st).z from(Bm e).trans (i j c g).1,zfj n e]
theorem Wz(D:FG C.K C.mg x st<|ai st)(a:BodyOk C x st k A)(S:K! (gF (ir st) (ai st)<|aD st)):Yb C x (k+1) (ai st) A:=#[D.Sv S a.len<|a.run S.nd]
theorem okA(F:P5 C.K x x st fa fd)(c:BodyOk C x st k A)(S:K! (gF (ir st) (ai st)<|aD st)):oK C.P C.w C.K C.mg C.base (Ah C.P C.w) (k+1) fa fd (ai st)<|FT A:=by let#[i,od,kV,f,l,m,a,ct,j,rfl,d,g]:=F.ex;refine Jd d g S c.len λA o s H vs Q E b e=>?_;let#[t,h,q]:=(λa A o s H vs Q E b h=>c.run S.nd fa a A o s H vs Q E b h) a A o s H vs Q E b e;exact#[t,h.Kx,q]
end
end
end Pu
namespace Pu
open PySem PySem.Spec PySem.W PySem.Calls PyProof.Rows L2 Gm
section
variable {α β γ:Type} {iα:Rp α} {iβ:Rp β} {iγ:Rp γ} {e:List Sl} {c d w:Cell} {X:Cx} {a b x y z:Expr} {pos p p2 p3 apos aC cQ:Pos} {n:Str} {i:Nat}
theorem ix_fst{u:α}{v:β}:Ix X (is (u,v)) (is (0:Int))<|is u:=#[_,qT,λ_=>.mk λE Q q=>aq.h E _ λv t f l=>aq.h (E.grow f) _ λk o s2 m=>by cases m;let#[a,u,w,r,g,j,s]:=l;exact#[a,[u,w],0,u,r,rfl,mF.of<|s2 _ _ (aE.mp g).2,rfl,q u o (f.trans s2)<|Rp.mono (aO s2) j]]
theorem ix_snd{u:α}{v:β}:Ix X (is (u,v)) (is (1:Int))<|is v:=#[_,qT,λ_=>.mk λE Q q=>aq.h E _ λv t f l=>aq.h (E.grow f) _ λk o s2 m=>by cases m;let#[a,u,w,r,g,s,j]:=l;exact#[a,[u,w],1,w,r,rfl,mF.of<|s2 _ _ (aE.mp g).2,rfl,q w o (f.trans s2)<|Rp.mono (aO s2) j]]
theorem ix_fz{f:cc}{k:Int}{K:bb}(h : -(f.z:Int)<=k/\k<f.z)(q:R! (X.K=K)):Ix X (fz K f) (is k)<|is<|ix f k:=q▸#[_,wB,λ_=>Qr aq aq h]
structure Ed{κ α:Type}[Rp κ][DecidableEq κ][Kc κ][Rp α](X:Cx)(x:Expr)(e:List Sl)(xs:List<|κ×α):Prop where
 h:∃t,PE X x t/\Pd t e xs
section
variable {κ:Type} {rκ:Rp κ} {dκ:DecidableEq κ} {kκ:Kc κ}
theorem iI{xs:List<|κ×α}(h:M! Nm X n i)(k:L! (e[i]?=some (.ow<|od xs))):Ed X (.Name n pos) e xs:=#[_,pe_var h.at' h.FO h.hd h.hc,QA k]
theorem uB{f:Hp}{xs:List<|af×α}(h:M! Nm X n i)(k:L! (e[i]?=some (.sh<|Ky f xs))):Ed X (.Name n pos) e xs:=#[_,pe_var h.at' h.FO h.hd h.hc,UQ k]
theorem Ev.ed{xs:List<|κ×α}(h:Ev X x e<|is<|sW.mk xs):Ed X x e xs:=#[_,h.p,aq.pd]
theorem jN{k:κ}{v:α}(K:Ed X a e xs)(t:Ev X b e<|is k)(h:cF xs k=some v)(l:U! (X.A.units+1<cLine))(G:R! TJ b):Ev X (.Subscript a b pos) e<|is v:=let ⟨_,p,q⟩:=K.h;.of (by ext pins s σ H Q I h;refine zey PySem.F.slot_dict_getitem.lookup G<|b9 (p pins s σ H _ I h) λu C ⟨x,D,m,J,o⟩=>b9 (t.p pins C σ D _ m o) λN s2 ⟨y,B,f,r,a,v,ex,g,j⟩=>?_;subst ex;obtain rfl:u=Value.ref a:=J;exact#[z6 f g,zbD l f g r λw' M E L=>#[v,B,E,L,j]]) (zfK q aq h)
theorem o7{k:κ}{v:α}(g:Ed X a e xs)(l:Ev X b e<|is k)(j:Ev X x e<|is v)(f:U! (X.A.units+1<cLine))(m:R! M2 X a "get" apos b x aC):Ev X (.Call (.Attribute a "get" apos) [b,x] [] aC) e<|is<|(cF xs k).getD v:=let ⟨_,p,q⟩:=g.h;.of (zdr f p l.p j.p m) (zcK q aq aq)
end
theorem o9  : Eo X none e none:=.of zfu<|.mk λE Q q=>q _<|ak.refl _
theorem o8(h:Ev X a e<|is k):Eo X (some a) e<|some k:=.of (by ext pins s σ H Q I l;rw[evalPart_some];refine b9 (h.p pins s σ H _ I l) λu o ⟨x,m,g,f,j⟩=>?_;let#[i,rfl,q]:=j;let#[t,rfl]:=f;exact#[some i,m,g,.int i t,q])<|zdS aq
theorem eG{xs:List α}{lo f:Option Int}{l h:Option Expr}(g:El X a e xs)(k:Eo X l e lo)(j:Eo X h e f):Ef X (.Subscript a (.Slice l h none p2) pos) e<|ol<|part xs lo f:=.of (zeb zej g.p k.p j.p)<|UM gn Vt Vt
structure Bi(X:Cx)(n:Str)(a:Expr)(p:Pos)(es:List Expr)(aC:Pos):Prop where
 gl:Gl X n
 mg:X.mg n=none
 nn:n≠ "__name__"
 nd:(n==("__debug__":Str))=false
 se:starEach (a::es) X.env=(false,eval a X.env)::starEach es X.env
 pl:(backTo aC<|starEach es X.env).any (·.1)=false
section
variable {ns:cc} {k l:Int}
theorem nO{xs:List α}(h:El X a e xs)(B:I! Bi X "len" a p [] aC):Ev X (.Call (.Name "len" p) [a] [] aC) e<|is (xs.z:Int):=.of (bC gZ B.gl B.mg nP (aw h.p aQ B.se) B.nn B.nd B.se B.pl)<|Gw gn
theorem DC{K:bb}(h:Ev X a e<|fz K ns)(q:R! (X.K=K))(B:I! Bi X "len" a p [] aC):Ev X (.Call (.Name "len" p) [a] [] aC) e<|is (ns.z:Int):=by subst q;exact .of (bC gZ B.gl B.mg nP (aw h.p aQ B.se) B.nn B.nd B.se B.pl)<|Ce aq
theorem DB{f:sW Int α->Prop}{m:Nat}(h:Ev X a e<|aW f)(k:∀D,f D->D.l.z=m)(B:I! Bi X "len" a p [] aC):Ev X (.Call (.Name "len" p) [a] [] aC) e<|is (m:Int):=.of (bC uH B.gl B.mg nP (aw h.p aQ B.se) B.nn B.nd B.se B.pl)<|zfq aq k
theorem Nk(h:El X a e ns)(j:ns.z<=1000)(B:I! (Bi X "len" (.Call (.Name "set" p2) [a] [] q2) p [] aC))(f:I! Bi X "set" a p2 [] q2)(g:R! (X.calm=true)):Ev X (.Call (.Name "len" p) [.Call (.Name "set" p2) [a] [] q2] [] aC) e<|is ((BM ns).z:Int):=.of (bC zbW B.gl B.mg nP (aw (gS (zbh g) f.gl f.mg Tj (aw h.p aQ f.se) f.nn f.nd f.se f.pl) aQ B.se) B.nn B.nd B.se B.pl)<|zfp gn j
theorem SR(h:Ev X a e<|is k)(B:I! Bi X "abs" a p [] aC):Ev X (.Call (.Name "abs" p) [a] [] aC) e (is<|if k<0 then -k else k):=.of (bC zdh B.gl B.mg Tq (aw h.p aQ B.se) B.nn B.nd B.se B.pl)<|Qy aq
theorem SQ(h:El X a e bs)(B:I! Bi X "all" a p [] aC)(f:R! (X.calm=true)):Ev X (.Call (.Name "all" p) [a] [] aC) e<|is<|bs.all id:=.of (bC (zdj f) B.gl B.mg To (aw h.p aQ B.se) B.nn B.nd B.se B.pl)<|Qx gn
theorem Jg(h:El X a e ns)(B:I! Bi X "sum" a p [] aC)(f:R! (X.calm=true)):Ev X (.Call (.Name "sum" p) [a] [] aC) e<|is ns.sum:=.of (bC (zbt f) B.gl B.mg Ti (aw h.p aQ B.se) B.nn B.nd B.se B.pl)<|Ql gn
theorem DA(h:Ev X a e<|is k)(g:Ev X b e<|is l)(B:I! Bi X "max" a p [b] aC)(j:R! BU X b [])(f:R! (X.calm=true)):Ev X (.Call (.Name "max" p) [a,b] [] aC) e (is<|if l > k then l else k):=.of (bC (zbX f) B.gl B.mg JR (aw h.p (aw g.p aQ j) B.se) B.nn B.nd B.se B.pl)<|zfr aq aq
theorem wV(h:Ev X a e<|is k)(g:Ev X b e<|is l)(B:I! Bi X "min" a p [b] aC)(j:R! BU X b [])(f:R! (X.calm=true)):Ev X (.Call (.Name "min" p) [a,b] [] aC) e (is<|if l<k then l else k):=.of (bC (zcB f) B.gl B.mg xD (aw h.p (aw g.p aQ j) B.se) B.nn B.nd B.se B.pl)<|zbI aq aq
theorem Nj(h:El X a e ns)(g:k∈ns)(j:∀x∈ns,k<=x)(B:I! Bi X "min" a p [] aC)(f:R! (X.calm=true)):Ev X (.Call (.Name "min" p) [a] [] aC) e<|is k:=.of (bC (uG f) B.gl B.mg xD (aw h.p aQ B.se) B.nn B.nd B.se B.pl)<|zcM gn g j
theorem Dz(h:El X a e ns)(g:k∈ns)(j:∀x∈ns,x<=k)(B:I! Bi X "max" a p [] aC)(f:R! (X.calm=true)):Ev X (.Call (.Name "max" p) [a] [] aC) e<|is k:=.of (bC (zbx f) B.gl B.mg JR (aw h.p aQ B.se) B.nn B.nd B.se B.pl)<|zfs gn g j
theorem Ni(h:El X a e L)(j:0<L.z)(B:I! Bi X "min" a p [] aC)(f:R! (X.calm=true))(g:U! (X.A.units+64<cLine)):Ev X (.Call (.Name "min" p) [a] [] aC) e (aW λl=>l∈L/\∀m∈L,L2.Le l m):=.of (bC (zcz f g) B.gl B.mg xD (aw h.p aQ B.se) B.nn B.nd B.se B.pl)<|zcQ gn j
theorem zcX(h:El X a e L)(g:L.z<64)(B:I! Bi X "sorted" a p [] aC)(f:U! (X.A.units+64<cLine)):Ev X (.Call (.Name "sorted" p) [a] [] aC) e (aW λR=>∃p,Arr L.z p/\Up (λi=>L.getD i []) p L.z/\R=pick [] L p):=.of (bC (xA f) B.gl B.mg uI (aw h.p aQ B.se) B.nn B.nd B.se B.pl)<|zda gn g
theorem DE{xs:List<|Int×α}(h:Ed X a e xs)(B:I! Bi X "list" a p [] aC)(f:R! (X.calm=true)):Ef X (.Call (.Name "list" p) [a] [] aC) e<|ol<|xs.map (·.1):=let ⟨_,q,r⟩:=h.h;.of (gS (zaj f) B.gl B.mg DU (aw q aQ B.se) B.nn B.nd B.se B.pl) (zdk r)
theorem zV{xs:List<|Int×α}(h:Ed X a e xs)(B:I! Bi X "dict" a p [] aC):Ef X (.Call (.Name "dict" p) [a] [] aC) e<|od xs:=let ⟨_,q,r⟩:=h.h;.of (gS zqa B.gl B.mg B! (aw q aQ B.se) B.nn B.nd B.se B.pl) (.mk λE Q q=>r.h E _ λa vs o g j m=>#[a,_,rfl,j,λp f=>q p _ _ (g.free f) (g.trans<|ak.upd f) aA #[vs,rfl,m.mono<|cN (ak.upd f) f]])
end
end
section
variable {α β γ:Type} {iα:Rp α} {iβ:Rp β} {iγ:Rp γ} {e:List Sl} {c d w:Cell} {X:Cx} {a b x y z:Expr} {pos p p2 p3 apos aC cQ:Pos} {n:Str} {i j:Nat} {C:Cfg} {es:List Expr} {cs:List Cell} {A:List Cell->Cell->Prop} {k:Nat} {ps:List Str}
structure Cl(C:Cfg)(X:Cx)(n:Str)(k:Nat)(a:Expr)(p:Pos)(es:List Expr)(aC:Pos):Prop where
 rm:∃j,Room j X.A/\k<=j
 cf:Cfg.mk X.prog X.w X.K X.mg X.base=C
 gl:Gl X n
 nd:(n==("__debug__":Str))=false
 se:starEach (a::es) X.env=(false,eval a X.env)::starEach es X.env
 pl:(backTo aC<|starEach es X.env).any (·.1)=false
theorem az[B1 C][h:dI C n k ps A](m:Ea X (a::es) e cs)(q:A cs c)(B:C! Cl C X n k a p es aC):Ev X (.Call (.Name n p) (a::es) [] aC) e c:=by let#[#[j,l,g],o,r,s,f,pl]:=B;subst o;exact .of (yV h.h l HS m.p g r s f pl)<|zet yW q
theorem zcW[B1 C][h:dI C n k ps A]{f:α->Prop}{g:β->Prop}(s:Ev X a e<|aW f)(r:Ea X es e cs)(q:∀x,f x->∃g' : β->Prop,A (is x::cs) (aW g')/\∀y,g' y->g y)(B:C! Cl C X n k a p es aC):Ev X (.Call (.Name n p) (a::es) [] aC) e<|aW g:=by let#[#[j,l,o],t,u,v,m,pl]:=B;subst t;exact .of (yV h.h l HS (aw s.p r.p m) o u v m pl)<|zbo aq yW q
theorem zcV[B1 C][h:Yb C n k ps A](v:Ea X (a::es) e cs)(q:A (cs++[is (none:Option α)]) c)(B:C! Cl C X n k a p es aC):Ev X (.Call (.Name n p) (a::es) [] aC) e c:=by let#[#[j,t,l],m,o,D,g,pl]:=B;subst m;exact .of (by let#[f,E,F,r,u,s]:=h.d.d.ex;exact CQ F (t.mono l) o r u s (.cons rfl .nil) HS v.p D g pl)<|zbO yW q
theorem Ev.XY{f:α->Prop}{u:α}(h:Ev X x e<|aW f)(q:∀x,f x->x=u):Ev X x e<|is u:=.of h.p<|aq.XY q
theorem mh{f:Expr}{xs:List α}(h:Ev X a e<|is xs):Ei X f a e xs:=.of (CL h.p)<|Ca aq
theorem SU{f:Expr}{xs:List α}(h:Ev X a e<|is<|Sq.mk xs):Ei X f a e xs:=.of (HI h.p)<|Ge aq
structure Bz(X:Cx)(n:Str):Prop where
 gl:Gl X n
 mg:X.mg n=none
theorem ei_rng{g:Expr}{m:Nat}(h:Ev X a e<|is (m:Int))(l:m<=1000)(B:Z! Bz X "range")(f:R! EM X [a]):Ei X g (.Call (.Name "range" p) [a] [] pos) e<|aP m:=.of (zbk B.gl B.mg (aw h.p aQ f) f)<|zdN aq l
theorem ei_rng2{o:Expr}{k l:Int}(h:Ev X a e<|is k)(m:Ev X b e<|is l)(hn : -(2 ^ 62)<=k/\k<2 ^ 62/\-(2 ^ 62)<=l/\l<2 ^ 62)(B:Z! Bz X "range")(g:R! EM X [a,b])(f:R! EM X [b]):Ei X o (.Call (.Name "range" p) [a,b] [] pos) e<|xZ k (l-k).toNat:=.of (zaS B.gl B.mg (aw h.p (aw m.p aQ f)<|g.trans<|by rw[f];rfl) g f)<|zdJ aq aq hn
theorem ei_rngD{r:Expr}{k l:Int}(h:Ev X a e<|is k)(o:Ev X b e<|is l)(q:Ev X x e<|is (-1:Int))(hn : -(2 ^ 62)<=k/\k<2 ^ 62/\-(2 ^ 62)<=l/\l<2 ^ 62)(B:Z! Bz X "range")(g:R! EM X [a,b,x])(f:R! EM X [b,x])(m:R! EM X [x]):Ei X r (.Call (.Name "range" p) [a,b,x] [] pos) e<|S4 k (k-l).toNat:=.of (tV B.gl B.mg (aw h.p (aw o.p (aw q.p aQ m)<|f.trans<|by rw[m];rfl)<|g.trans<|by rw[f];rfl) g f)<|zdM aq aq aq hn
theorem ei_enum{elts:List Expr}{g:Nat}{px:Pos}{xs:List α}(h:Ev X a e<|is xs)(B:Z! Bz X "enumerate")(f:R! EM X [a]):Ei X (.Tuple elts g px) (.Call (.Name "enumerate" p) [a] [] pos) e<|enum xs:=.of (zfk B.mg (aw h.p aQ f) B.gl f)<|zfL aq
theorem ei_zip{elts:List Expr}{m:Nat}{px:Pos}{xs:List α}{ys:List β}(h:Ev X a e<|is xs)(g:Ev X b e<|is ys)(B:Z! Bz X "zip")(f:R! BU X a [b])(l:R! EM X [b])(o:R! IB X pos [b]):Ei X (.Tuple elts m px) (.Call (.Name "zip" p) [a,b] [] pos) e<|xs.zip ys:=.of (Rn B.mg (aw h.p (aw g.p aQ l) f) B.gl f o)<|Qe aq aq
theorem ei_rev{f:Expr}{xs:List α}(h:Ev X a e<|is xs)(B:Z! Bz X "reversed")(g:R! BU X a []):Ei X f (.Call (.Name "reversed" p) [a] [] pos) e xs.reverse:=.of (Ro B.mg h.p B.gl g)<|Qf aq
structure Cp{α β:Type}[Rp α][Rp β](X:Cx)(tg it:Expr)(ifs:List Expr)(el:Expr)(sc:Scope)(cl:List<|Str×Addr)(ns:List Str)(fr:List<|Str×Nat)(e:List Sl)(xs:List α)(f:α->β)(q:α->Bool)(ei:α->List Sl):Prop where
 T:TgS tg ns
 F:FrS X.N sc.names fr
 B:cO X sc cl ns fr
 hc:X.calm=true
 hi:Ei X tg it e xs
 hg:∃g,(∀C fp pins s H,PG (X.block sc cl C (ns++fr.map (·.1)) fp pins s H) tg g)/\∀x∈xs,Pg g (is x) (inner ns.z (fr.map (·.2)) e)<|ei x
 hw:∀{H0 H O0 O σ x},x∈xs->En H0 O0 H O σ (ei x)->En H0 O0 H O σ (inner ns.z (fr.map (·.2)) e)
 ht:(ifs=[]/\∀x,q x=true)\/∃t,ifs=[t]/\∀x∈xs,∀C fp pins s H,Et (X.block sc cl C (ns++fr.map (·.1)) fp pins s H) t (ei x)<|q x
 he:∀x∈xs,q x=true->∀C fp pins s H,Ev (X.block sc cl C (ns++fr.map (·.1)) fp pins s H) el (ei x)<|is<|f x
 hl:xs.z<=1000
theorem Cp.on{D it F:Expr}{B:List Expr}{v:Scope}{cl:List<|Str×Addr}{u:List Str}{r:List<|Str×Nat}{xs:List α}{f:α->β}{q:α->Bool}{o:α->List Sl}(h:Cp X D it B F v cl u r e xs f q o) :
  ∃R g P S,PI X D it R/\(∀C l pins s H,PG (X.block v cl C (u++r.map (·.1)) l pins s H) D g)/\(∀C l pins s H,FF (X.block v cl C (u++r.map (·.1)) l pins s H) B P)/\(∀C l pins s H,PE (X.block v cl C (u++r.map (·.1)) l pins s H) F S)/\Pf (nV R g P S u.z<|r.map (·.2)) e (ol<|(xs.filter q).map f):=by
 let#[g,M,O]:=h.hg;let N:∀C l pins s H,PE (X.block v cl C (u++r.map (·.1)) l pins s H) F λσ H Q=>∃x,(x∈xs/\q x=true)/\GQ (o x) (is<|f x) σ H Q:=λC l pins s H K L σ J Q I ⟨x,⟨m,b⟩,z⟩=>(h.he x m b C l pins s H).p K L σ J Q I z;let P2:∀x∈xs,q x=true->Pe (λσ H Q=>∃x,(x∈xs/\q x=true)/\GQ (o x) (is<|f x) σ H Q) (o x) (is<|f x):=λx m b=>.mk λE Q z=>#[x,#[m,b],_,_,_,E,z];ext(⟨G,t2⟩|⟨t,G,t2⟩:h.ht);subst G;exact#[_,g,_,_,h.hi.p,M,λ_ _ _ _ _=>zbL,N,Cb f q o HF O h.hw (λx _=>t2 x▸(.mk λE Q q=>q _<|ak.refl _)) P2 h.hl];subst G;refine#[_,g,λσ H Q=>∃x,x∈xs/\tT (o x) (q x) σ H Q,_,h.hi.p,M,λC l pins s H=>yQ λK L σ J Q I ⟨x,m,z⟩=>(t2 x m C l pins s H).p K L σ J Q I z,N,Cb f q o HF O h.hw (λx m=>.mk λE Q z=>#[x,m,_,_,_,E,z]) P2 h.hl]
theorem wZ{o it r:Expr}{l:List Expr}{m:Scope}{cl:List<|Str×Addr}{F:List Str}{D:List<|Str×Nat}{xs:List α}{f:α->β}{q:α->Bool}{H:α->List Sl}(h:Cp X o it l r m cl F D e xs f q H)(E:R! (∀x,foldedSetIterable it X.env x=pure x)):Ef X (.ListComp r [#[o,it,l,0]] m pos) e<|ol<|(xs.filter q).map f:=by let#[J,g,I,K,G,t,u,v,s]:=h.on;exact .of (CP h.B h.hc G t u v E) s
theorem xq{it r:Expr}{h:List Expr}{l:Scope}{cl:List<|Str×Addr}{g:List<|Str×Nat}{xs:List α}{f:α->β}{q:α->Bool}(v:Ei X (.Name n p) it e xs)(D:(h=[]/\∀x,q x=true)\/∃t,h=[t]/\∀x∈xs,∀C o pins s H,Et (X.block l cl C ([n]++g.map (·.1)) o pins s H) t ((inner 1 (g.map (·.2)) e).set 0<|.sh<|is x)<|q x)(G:∀x∈xs,q x=true->∀C o pins s H,Ev (X.block l cl C ([n]++g.map (·.1)) o pins s H) r ((inner 1 (g.map (·.2)) e).set 0<|.sh<|is x)<|is<|f x)(u:xs.z<=1000)(F:F! FrS X.N l.names g)(B:O! cO X l cl [n] g)(J:R! (X.calm=true))(I:H! (∀C o pins s H,PG (X.block l cl C ([n]++g.map (·.1)) o pins s H) (.Name n p)<|bI 0)):Cp X (.Name n p) it h r l cl [n] g e xs f q λx=>(inner 1 (g.map (·.2)) e).set 0<|.sh<|is x:=
 #[.one,F,B,J,v,#[_,I,λx _=>eO],λm E=>by let:=E.drop 0;rwa[pP<|eJ A?]at this,D,G,u]
theorem JJ{it D:Expr}{m:Str}{v:Nat}{px:Pos}{l:List Expr}{o:Scope}{cl:List<|Str×Addr}{g:List<|Str×Nat}{xs:List<|α×γ}{f:α->γ->β}{q:α->γ->Bool}(M:Ei X (.Tuple [.Name n p,.Name m p2] v px) it e xs)(O:(l=[]/\∀x y,q x y=true)\/∃t,l=[t]/\∀x y,(x,y)∈xs->∀C r pins s H,Et (X.block o cl C ([n,m]++g.map (·.1)) r pins s H) t (((inner 2 (g.map (·.2)) e).set 0<|.sh<|is x).set 1<|.sh<|is y)<|q x y)(P:∀x y,(x,y)∈xs->q x y=true->∀C r pins s H,Ev (X.block o cl C ([n,m]++g.map (·.1)) r pins s H) D (((inner 2 (g.map (·.2)) e).set 0<|.sh<|is x).set 1<|.sh<|is y)<|is<|f x y)(L:xs.z<=1000)(F:F! FrS X.N o.names g)(B:O! cO X o cl [n,m] g)(Q:R! (X.calm=true))(J:H! (∀C r pins s H,PG (X.block o cl C ([n,m]++g.map (·.1)) r pins s H) (.Tuple [.Name n p,.Name m p2] v px)<|oG X.K 2<|dA (bI 0)<|dA (bI 1) oH)):Cp X (.Tuple [.Name n p,.Name m p2] v px) it l D o cl [n,m] g e xs (λu=>f u.1 u.2) (λu=>q u.1 u.2) λu=>((inner 2 (g.map (·.2)) e).set 0<|.sh<|is u.1).set 1<|.sh<|is u.2:=
 #[.two,F,B,Q,M,#[_,J,λx _=>As eO eO],λm E=>by let:=(E.drop 1).drop 0;rw[pP (FJ A?>>eJ A?),pP<|eJ A?]at this;exact this,O.imp (λh=>#[h.1,λu=>h.2 u.1 u.2]) λ⟨t,I,G⟩=>#[t,I,λu m=>G u.1 u.2 m],λu m=>P u.1 u.2 m,L]
end
section
variable {α β γ:Type} {iα:Rp α} {iβ:Rp β} {iγ:Rp γ} {e:List Sl} {c d w:Cell} {X:Cx} {a b v x y z it tg:Expr} {pos p p2 p3 p4 apos aC cQ pt:Pos} {n n2:Str} {i j:Nat} {N M:List Sl->Prop} {rest body Uv:List Stmt}
theorem wY{m:Nat}(h:Ev X a e<|is (m:Int))(k:m<=1000)(g:R! (X.calm=true))(B:Z! Bz X "range")(f:Z! Bz X "list")(o:R! BU X a [])(l:R! (BU X (.Call (.Name "range" p) [a] [] pos) [])):Ef X (.Call (.Name "list" p2) [.Call (.Name "range" p) [a] [] pos] [] cQ) e<|ol<|aP m:=.of (v8 g B.mg f.mg h.p B.gl f.gl o l)<|Qh aq k
theorem zU{lo l:Int}{m:Nat}(h:Ev X a e<|is lo)(q:Ev X b e<|is l)(r:l=lo+m)(u:m<=1000)(l1 : -1000<=lo)(o:lo<=1000)(t:R! (X.calm=true))(B:Z! Bz X "range")(k:Z! Bz X "list")(g:R! EM X [a,b])(f:R! EM X [b])(s:R! (BU X (.Call (.Name "range" p) [a,b] [] pos) [])):Ef X (.Call (.Name "list" p2) [.Call (.Name "range" p) [a,b] [] pos] [] cQ) e<|ol<|xZ lo m:=.of (sJ t B.mg k.mg (aw h.p (aw q.p aQ f)<|g.trans<|by rw[f];rfl) B.gl k.gl g f s)<|zeN aq aq r u l1 o
theorem rD{m:Nat}(h:Ev X a e<|is (m:Int))(r:m<=1000)(q:R! (X.calm=true))(B:Z! Bz X "range")(f:Z! Bz X "reversed")(g:Z! Bz X "list")(o:R! BU X a [])(k:R! (BU X (.Call (.Name "range" p) [a] [] pos) []))(l:R! (BU X (.Call (.Name "reversed" p3) [.Call (.Name "range" p) [a] [] pos] [] p4) [])):Ef X (.Call (.Name "list" p2) [.Call (.Name "reversed" p3) [.Call (.Name "range" p) [a] [] pos] [] p4] [] cQ) e<|ol<|down m:=.of (yU q B.mg f.mg g.mg h.p B.gl f.gl g.gl o k l)<|zdW aq r
theorem ph{xs:List α}{ys:List β}(h:El X a e xs)(k:El X b e ys)(o:xs.z=ys.z)(q:R! (X.calm=true))(B:Z! Bz X "zip")(f:Z! Bz X "list")(g:R! BU X a [b])(l:R! EM X [b])(r:R! IB X pos [b])(m:R! (BU X (.Call (.Name "zip" p) [a,b] [] pos) [])):Ef X (.Call (.Name "list" p2) [.Call (.Name "zip" p) [a,b] [] pos] [] cQ) e<|ol<|xs.zip ys:=.of (zaq q B.mg f.mg (aw h.p (aw k.p aQ l) g) B.gl f.gl g r m)<|Qg gn gn o
theorem mC{ks:cc}{xs:List α}(h:El X a e ks)(k:El X b e xs)(o:ks.z=xs.z)(s:ks.Nodup)(q:ks.z<=1000)(r:R! (X.calm=true))(B:Z! Bz X "zip")(f:Z! Bz X "dict")(g:R! BU X a [b])(l:R! EM X [b])(t:R! IB X pos [b])(m:R! (BU X (.Call (.Name "zip" p) [a,b] [] pos) [])):Ef X (.Call (.Name "dict" p2) [.Call (.Name "zip" p) [a,b] [] pos] [] cQ) e<|od<|ks.zip xs:=.of (zay r B.mg f.mg (aw h.p (aw k.p aQ l) g) B.gl f.gl g t m)<|zdX gn gn o s q
theorem wX{xs:List<|Int×α}(h:Ed X a e xs)(f:R! (X.calm=true))(B:Z! Bz X "list")(l:R! (attributeBase a "values" X.env (eval a X.env)=eval a X.env))(k:R! ((apos.endLine==aC.line)=true))(g:R! (BU X (.Call (.Attribute a "values" apos) [] [] aC) [])):Ef X (.Call (.Name "list" p2) [.Call (.Attribute a "values" apos) [] [] aC] [] cQ) e<|ol<|xs.map (·.2):=let ⟨_,q,r⟩:=h.h;.of (yT f B.mg q B.gl l k g) (zeR r)
theorem zfg  : Ef X (.Dict [] [] pos) e<|od ([]:List<|af×α):=.of zea<|.mk λE Q q p f=>q p _ _ f (ak.upd f) aA #[[],rfl,.nil]
theorem zff{k:Int}{u:α}(g:Ev X a e<|is k)(f:Ev X b e<|is u):Ef X (.Dict [some a] [b] pos) e<|od [(k,u)]:=.of (zfc (zbY g.p f.p zq2) rfl rfl A! A!)<|zbK aq aq
structure Mt(X:Cx)(o:Expr)(m:Str)(apos:Pos)(a:Expr)(aC:Pos):Prop where
 base:attributeBase o m X.env (eval o X.env)=eval o X.env
 Us:((backTo aC<|starEach [a] X.env).all (λx=>!x.1)&&(backToKw aC<|keywordEach [] X.env).all (λx=>x.1.isSome)
  &&decide (([a]:List Expr).z+([]:List Keyword).z+(if([]:List Keyword).isEmpty then 0 else 1)<30))=true
 line:(apos.endLine==aC.line)=true
 st:starEach [a] X.env=(false,eval a X.env)::starEach [] X.env
 pl:IB X aC []
theorem zT{k:Int}(h:El X a e ns)(f:Ev X b e<|is k)(g:k∈ns)(m:T! Mt X a "index" apos b aC):Ev X (.Call (.Attribute a "index" apos) [b] [] aC) e<|is ((ns.idxOf k:Nat):Int):=.of (CS Kn PySem.F.slot_list_index PySem.F.type_list_index zcG h.p (aw f.p aQ m.st) m.base m.Us m.line m.st m.pl)<|zcy gn aq g
def tG(X:Cx)(b:List Stmt)(c:Cell):TS:=λD σ H=>∃e N,Gs X b e N c/\tS e N c D σ H
theorem lZ  : uO X body<|tG X body c:=λpins s σ H D I ⟨_,_,g,t⟩=>g.p pins s σ H D I t
theorem l6(h:Gs X body e N c):Go (tG X body c) e N c:=.mk λE g f=>#[_,_,h,_,_,_,E,g,f]
structure Sn(X:Cx)(n:Str)(i:Nat):Prop where
 nd:X.N.Nodup
 at':X.N[i]?=some n
 lo:Loc X.env.scope n
 fn:X.fn n=true\/X.env.scope.names.lookup n=some .local
theorem aj(h:N e):Gs X [] e N c:=.of zdL<|.mk λE f g=>f _ _ _ e h E
theorem eC(h:Ev X v e d)(l:Gs X rest (e.set i<|.sh d) N c)(S:N! Sn X n i)(f:R! (swapsWith v (some<|.Name n p) pos.line X.env=pure false)):Gs X (.Assign [.Name n p] v pos::rest) e N c:=.of (aR (mZ S.nd S.at' S.lo h.p f S.fn) l.p)<|.mk λE o k=>aq.h E _ λv q g m=>kJ.h ((E.grow g).set m) o k
theorem aN{u u' : α}(h:Ev X v e<|is u)(q:u=u')(f:Gs X rest (e.set i<|.sh<|is u') N c)(S:N! Sn X n i)(g:R! (swapsWith v (some<|.Name n p) pos.line X.env=pure false)):Gs X (.Assign [.Name n p] v pos::rest) e N c:=eC (h.eq q) f S g
theorem c7{f:α->Prop}(h:Ev X v e<|aW f)(q:∀x,f x->Gs X rest (e.set i<|.sh<|is x) N c)(S:N! Sn X n i)(g:R! (swapsWith v (some<|.Name n p) pos.line X.env=pure false)):Gs X (.Assign [.Name n p] v pos::rest) e N c:=.of (aR (mZ S.nd S.at' S.lo h.p g S.fn) lZ)<|.mk λE s o=>aq.h E _ λv t k ⟨x,l,r⟩=>((λx m=>l6<|q x m) x l).h ((E.grow k).set r) s o
theorem bP{w:Own}(h:Ef X v e w)(f:Gs X rest (e.set i<|.ow w) N c)(S:N! Sn X n i)(g:R! (swapsWith v (some<|.Name n p) pos.line X.env=pure false)):Gs X (.Assign [.Name n p] v pos::rest) e N c:=.of (aR (mZ S.nd S.at' S.lo h.p g S.fn) f.p)<|I0 Rt kJ
theorem wK{k:Scope}{f:α->β}{q:α->Bool}{D:α->List Sl}(h:Cp X tg it ifs el k cl ns fr e xs f q D)(u:(xs.filter q).map f=ys)(t:Gs X rest (e.set i<|.ow<|ol ys) N c)(S:N! Sn X n i)(A:R! (∀x,foldedSetIterable it X.env x=pure x))(o:R! (swapsWith (.ListComp el [#[tg,it,ifs,0]] k pos) (some<|.Name n p) cQ.line X.env=pure true)):Gs X (.Assign [.Name n p] (.ListComp el [#[tg,it,ifs,0]] k pos) cQ::rest) e N c:=by let#[F,g,E,G,C,m,r,s,l]:=h.on;subst u;exact .of (aR (zdD S.nd S.at' S.lo h.B h.hc C m r s A o S.fn) t.p)<|I0 l kJ
theorem nG(h:Ev X v e c):Gs X (.Return (some v) pos::rest) e N c:=.of (aR (AS h.p) mY)<|.mk λE k g=>(Bo (N:=λ_=>False) aq).h E (λ_ _ _ _ f=>f.elim) g
theorem iA{u u' : α}(h:Ev X v e<|is u)(q:u=u'):Gs X (.Return (some v) pos::rest) e N<|is u':=nG<|h.eq q
theorem cg{f:α->Prop}{u:α}(h:Ev X v e<|is u)(q:f u):Gs X (.Return (some v) pos::rest) e N<|aW f:=.of (aR (AS h.p) mY)<|.mk λE k g=>(zeX (N:=λ_=>False) aq q).h E (λ_ _ _ _ f=>f.elim) g
theorem oZ(h:Ev X v e d)(l:Gs X rest e N c)(f:R! (swapsWith v none pos.line X.env=pure false)):Gs X (.Expr v pos::rest) e N c:=.of (aR (k6 h.p f) l.p)<|.mk λE m k=>aq.h E _ λv o g q=>kJ.h (E.grow g) m k
theorem cI(M:List Sl->Prop)(q:Et X v e k)(s:k=true->Gs X body e M c)(r:k=false->Gs X Uv e M c)(t:∀f,M f->Gs X rest f N c):Gs X (.If v body Uv pos::rest) e N c:=.of (aR (Vs q.p lZ lZ) lZ)<|.mk λE u g=>(WD qj (λh=>l6<|s h) λh=>l6<|r h).h E (λA B l f m o=>((λf m=>l6<|t f m) f m).h o u g) g
theorem bT(h:Et X v e k)(g:k=true->Gs X body e N c)(f:k=false->Gs X Uv e N c):Gs X [.If v body Uv pos] e N c:=cI N h g f λ_ m=>aj m
theorem c8{xs:List α}(W:Nat->List Sl->Prop)(m:Ei X (.Name n p) it e xs)(o:W 0 e)(r:∀k x f,xs[k]?=some x->W k f->Gs X body (f.set j<|.sh<|is x) (W<|k+1) c)(q:∀f,W xs.z f->Gs X rest f N c)(u:R! (X.calm=true))(s:R! (∀x,foldedSetIterable it X.env x=pure x))(l:S! PassesOwn (model X.prog X.w) X.A X.env X.xe)(S:N! Sn X n j):Gs X (.For (.Name n p) it body [] pos::rest) e N c:=
 .of (aR (AU l u m.p (pg_name S.nd S.at' S.lo S.fn) lZ s) lZ) (Pu.Nb W HF o (λk x f t g=>l6<|r k x f t g) λf h=>l6<|q f h)
theorem dF{m:Nat}(W:Nat->List Sl->Prop)(h:Ev X a e<|is (m:Int))(E:m<=1000)(r:W 0 e)(t:∀k f,k<m->W k f->Gs X body (f.set j<|.sh<|is (k:Int)) (W<|k+1) c)(s:∀f,W m f->Gs X rest f N c)(B:Z! Bz X "range")(C:R! EM X [a])(D:R! (X.calm=true))(u:R! (∀x,foldedSetIterable (.Call (.Name "range" p2) [a] [] p3) X.env x=pure x))(q:S! PassesOwn (model X.prog X.w) X.A X.env X.xe)(S:N! Sn X n j):Gs X (.For (.Name n p) (.Call (.Name "range" p2) [a] [] p3) body [] pos::rest) e N c:=
 c8 W (ei_rng h E B C) r (λk x f g o=>by
  let l:=(AA.mp g).1;rw[bB]at l;let:x=(k:Int):=by unfold aP at g;rw[AY,Fy l]at g;exact(BV g).symm
  erw[this,t k f l o]) (λf h=>s f<|by rwa [bB]at h) D u q S
structure Tt(X:Cx)(es:List Expr):Prop where
 hn:(assignEach es X.env).z=2
 Sd:(assignEach es X.env).findIdx? (·.1)=none
 h1:∃a b,es=[a,b]/\(assignEach es X.env).map (·.2)=assign a X.env::(assignEach [b] X.env).map (·.2)/\(assignEach [b] X.env).map (·.2)=assign b X.env::(assignEach [] X.env).map (·.2)
theorem v7{l:Nat}(B:R! (X.calm=true))(T:Tt X [.Name n p,.Name n2 p2]:=by subst"tt")(S:N! Sn X n i)(f:N! Sn X n2 j):PG X (.Tuple [.Name n p,.Name n2 p2] l pt) (oG X.K 2 (dA (bI i) (dA (bI j) oH))):=by obtain⟨a,b,q,m,h⟩:=T.h1;cases q;intro pins s σ H v u Q I r g;obtain⟨a,xs,e1,A,k,g⟩:=g;subst e1;cases r;obtain⟨D,rv,t,hz⟩:=I.tuple A;refine assign_Tuple_tuple (I.ok.hd B) t (by simp[T.hn,<-k,rv.length]) T.Sd λh' C=>?_;exact (yR (pg_name S.nd S.at' S.lo S.fn) (yR (pg_name f.nd f.at' f.lo f.fn) zfi h) m) pins _ σ H xs _ Q (I.kept λb o e=>C b o (D7 (AL e)) e) (by simpa using rv) g
theorem jy{g:Nat}{xs:List<|α×β}(W:Nat->List Sl->Prop)(q:Ei X (.Tuple [.Name n p,.Name n2 p2] g pt) it e xs)(r:W 0 e)(u:∀k x y f,xs[k]?=some (x,y)->W k f->Gs X body ((f.set i<|.sh<|is x).set j<|.sh<|is y) (W<|k+1) c)(t:∀f,W xs.z f->Gs X rest f N c)(l:R! (X.calm=true))(B:R! (∀x,foldedSetIterable it X.env x=pure x))(o:S! PassesOwn (model X.prog X.w) X.A X.env X.xe)(T:Tt X [.Name n p,.Name n2 p2]:=by subst"tt")(S:N! Sn X n i)(s:N! Sn X n2 j):Gs X (.For (.Tuple [.Name n p,.Name n2 p2] g pt) it body [] pos::rest) e N c:=
 .of (aR (AU o l q.p (v7 l T S s) lZ B) lZ) (Pu.zbU W HF r (λk x y f C m=>l6<|u k x y f C m) λf h=>l6<|t f h)
theorem gX(W:Nat->List Sl->Prop)(r:∃m,W m e)(u:∀m f,W m f->∃k,Et X v f k/\(k=true->Gs X body f (λe2=>∃l,l<m/\W l e2) c)/\(k=false->Gs X rest f N c))(o:S! PassesOwn (model X.prog X.w) X.A X.env X.xe):Gs X (.While v body [] pos::rest) e N c:=
 .of (aR (zck o (tc:=λσ H Q=>∃e k,Et X v e k/\tT e k σ H Q) (λpins s σ H Q I ⟨_,_,g,t⟩=>g.p pins s σ H Q I t) lZ) lZ) (zee W r λm f h=>let ⟨k,t,g1,g2⟩:=u m f h;#[k,.mk λE Q q=>#[_,_,t,_,_,_,E,q],λz=>l6<|g1 z,λz=>l6<|g2 z])
theorem bF{xs:List α}(h:Gs X body (e.set i<|.sh<|is xs) N c)(f:L! (e[i]?=some (.ow<|ol xs))):Gs X body e N c:=.of h.p<|zec f kJ
theorem zeZ(ho:PG X tg g)(h:Ev X v e d)(q:Pg g d e e2)(t:Gs X rest e2 N c)(l:R! (swapsWithSole [tg] v pos.line X.env=pure false))(o:R! (swappedStores [tg] v X.env=pure none))(s:R! ((assignEach [tg] X.env).map (·.2)=[assign tg X.env])):Gs X (.Assign [tg] v pos::rest) e N c:=.of (aR (Hv h.p ho l o s) t.p)<|.mk λE A r=>aq.h E _ λv B m u=>q.h (E.grow m) v u _ λf k=>kJ.h k A r
structure Me(X:Cx)(v:Expr)(pos:Pos):Prop where sw:swapsWith v none pos.line X.env=pure false
section
variable {xs ys:List α} {u:α}
theorem cu(h:Ev X a e<|is u)(g:xs.z<1000)(f:Gs X rest (e.set i<|.ow<|ol<|xs++[u]) N c)(V:M! Nm X n i)(m:T! Mt X (.Name n p) "append" apos a aC)(s:G! (Me X (.Call (.Attribute (.Name n p) "append" apos) [a] [] aC) pos))(k:L! (e[i]?=some (.ow<|ol xs))):Gs X (.Expr (.Call (.Attribute (.Name n p) "append" apos) [a] [] aC) pos::rest) e N c:=.of (aR (k6 (CS Kn PySem.F.slot_list_append PySem.F.type_list_append nh (pe_var V.at' V.FO V.hd V.hc) (aw h.p aQ m.st) m.base m.Us m.line m.st m.pl) s.sw) f.p)<|zaR k aq g kJ
theorem zaO(h:Ev X a e<|aW f)(g:xs.z<1000)(l:∀u,f u->Gs X rest (e.set i<|.ow<|ol<|xs++[u]) N c)(V:M! Nm X n i)(m:T! Mt X (.Name n p) "append" apos a aC)(s:G! (Me X (.Call (.Attribute (.Name n p) "append" apos) [a] [] aC) pos))(k:L! (e[i]?=some (.ow<|ol xs))):Gs X (.Expr (.Call (.Attribute (.Name n p) "append" apos) [a] [] aC) pos::rest) e N c:=.of (aR (k6 (CS Kn PySem.F.slot_list_append PySem.F.type_list_append nh (pe_var V.at' V.FO V.hd V.hc) (aw h.p aQ m.st) m.base m.Us m.line m.st m.pl) s.sw) lZ)<|zaY k aq g λx m=>l6<|l x m
theorem nH(h:El X a e ys)(g:xs.z+ys.z<=10000)(f:Gs X rest (e.set i<|.ow<|ol<|xs++ys) N c)(V:M! Nm X n i)(m:T! Mt X (.Name n p) "extend" apos a aC)(s:G! (Me X (.Call (.Attribute (.Name n p) "extend" apos) [a] [] aC) pos))(k:L! (e[i]?=some (.ow<|ol xs))):Gs X (.Expr (.Call (.Attribute (.Name n p) "extend" apos) [a] [] aC) pos::rest) e N c:=.of (aR (k6 (CS Kn PySem.F.slot_list_extend PySem.F.type_list_extend zqb (pe_var V.at' V.FO V.hd V.hc) (aw h.p aQ m.st) m.base m.Us m.line m.st m.pl) s.sw) f.p)<|zaK k gn g kJ
theorem Sx(f:Gs X rest ((e.set i<|.ow<|ol xs).set j<|.sh<|is u) N c)(V:M! Nm X n i)(S:N! Sn X n2 j)(b1:R! (attributeBase (.Name n p) "pop" X.env (eval (.Name n p) X.env)=eval (.Name n p) X.env))(b2:R! ((apos.endLine==aC.line)=true))(g:R! (swapsWith (.Call (.Attribute (.Name n p) "pop" apos) [] [] aC) (some<|.Name n2 p2) pos.line X.env=pure false))(h:L! (e[i]?=some (.ow<|ol<|xs++[u]))):Gs X (.Assign [.Name n2 p2] (.Call (.Attribute (.Name n p) "pop" apos) [] [] aC) pos::rest) e N c:=.of (aR (mZ S.nd S.at' S.lo (HN Kn PySem.F.slot_list_pop PySem.F.type_list_pop RT (pe_var V.at' V.FO V.hd V.hc) b1 b2) g S.fn) f.p)<|SG h kJ
structure Su(X:Cx)(o v:Expr)(n:Str)(p:Pos)(p2:Pos)(pos:Pos):Prop where
 w1:swapsWithSole [.Subscript (.Name n p) o p2] v pos.line X.env=pure false
 w2:swappedStores [.Subscript (.Name n p) o p2] v X.env=pure none
 w3:(assignEach [.Subscript (.Name n p) o p2] X.env).map (·.2)=[assign (.Subscript (.Name n p) o p2) X.env]
 as:∀r,assign (.Subscript (.Name n p) o p2) X.env r=(do let ov <-holding [r] (eval (.Name n p) X.env);let iv <-holding [r,ov] (eval o X.env);standAt p2;holding [r,ov,iv] (setItem ov iv r);release [r,ov,iv] [])
end
end
section
variable {α β γ κ:Type} {iα:Rp α} {iβ:Rp β} {iγ:Rp γ} {rκ:Rp κ} {dκ:DecidableEq κ} {kκ:Kc κ} {e:List Sl} {c d w:Cell} {X:Cx} {a b v x y z o it tg:Expr} {pos p p2 p3 p4 apos aC cQ pt:Pos} {n n2 n1 nd nm:Str} {i j:Nat} {N M:List Sl->Prop} {rest body Uv:List Stmt} {Hb:Hp}
theorem Bk{k:Int}{xs:List α}{u:α}{m:Nat}(h:Ev X v e<|is u)(f:Ev X o e<|is k)(q:xP xs.z k=some m)(l:Gs X rest (e.set i<|.ow<|ol<|xs.set m u) N c)(V:M! Nm X n i)(s:Su X o v n p p2 pos:=by subst"su")(g:L! (e[i]?=some (.ow<|ol xs))):Gs X (.Assign [.Subscript (.Name n p) o p2] v pos::rest) e N c:=.of (aR (Hv h.p (Rr (pe_var V.at' V.FO V.hd V.hc) f.p set_list s.as) s.w1 s.w2 s.w3) l.p)<|SF g aq aq q kJ
theorem o4{k:κ}{u:α}(h:Ev X v e<|is u)(f:Ev X o e<|is k)(g:xs.z<1000)(q:Gs X rest (e.set i<|.ow<|od<|dput xs k u) N c)(V:M! Nm X n i)(l:U! (X.A.units+1<cLine))(s:R! (swapsWith v (some<|.Subscript (.Name n p) o p2) pos.line X.env=pure false))(m:L! (e[i]?=some (.ow<|od xs))):Gs X (.Assign [.Subscript (.Name n p) o p2] v pos::rest) e N c:=.of (aR (zcU l (pe_var V.at' V.FO V.hd V.hc) f.p h.p s) q.p)<|Nd m aq aq g kJ
theorem nF{xs:List<|κ×α}(h:Gs X body (e.set i<|.sh<|is<|sW.mk xs) N c)(f:L! (e[i]?=some (.ow<|od xs))):Gs X body e N c:=.of h.p<|zbe f kJ
theorem uh{f:sW κ α->Prop}(h:f #[xs])(V:M! Nm X n i)(g:L! (e[i]?=some (.ow<|od xs))):Gs X (.Return (some<|.Name n p) pos::rest) e N<|aW f:=nF (cg (ae V<|by rw[Hq (AA.mp g).1]) h) g
theorem Sy{g k:Nat}{f:Pos}(h:Ea X [a,b] e [c,d])(u:Gs X rest ((e.set i<|.sh c).set j<|.sh d) N w)(t:R! (X.calm=true))(S:N! Sn X n i)(s:N! Sn X n2 j)(A:D! (i≠j))(r:R! (X.env.scope.names.lookup n=some .local))(l:R! (X.env.scope.names.lookup n2=some .local))(q:R! (swappedStores [.Tuple [.Name n p,.Name n2 p2] k pt] (.Tuple [a,b] g f) X.env=pure (some [n,n2])))(m:R! (swapsWithSole [.Tuple [.Name n p,.Name n2 p2] k pt] (.Tuple [a,b] g f) pos.line X.env=pure false)):Gs X (.Assign [.Tuple [.Name n p,.Name n2 p2] k pt] (.Tuple [a,b] g f) pos::rest) e N w:=.of (aR (Rl t S.nd S.at' s.at' A r l h.p q m) u.p)<|SH yW kJ
theorem zN{f:sW af α->Prop}(h:Ev X v e<|aW f)(k:∀xs,f #[xs]->Gs X rest (e.set i<|.sh<|Ky Hb xs) N c)(S:N! Sn X n i)(g:R! (swapsWith v (some<|.Name n p) pos.line X.env=pure false)):Xf X Hb (.Assign [.Name n p] v pos::rest) e N c:=
 #[λpins s σ H D I ⟨r,O,E,q,l⟩=>aR (mZ S.nd S.at' S.lo h.p g S.fn) lZ pins s σ H D I<|(zef aq λxs m=>l6<|k xs m).h E q l]
theorem zO{xs:List<|af×α}{pl m:Int}{D h:Nat}{k:Nat}{l r A:Pos}{f:Scope}{cl:List<|Str×Addr}{t:Expr}(R:(pl,m)∈xs.map (·.1))(q:∀x,(pl,x)∈xs.map (·.1)->m<=x)(P:xs.z<=5000)(Q:Gs X rest (e.set j<|.sh<|is m) N c)(J:R! (X.H₀=Hb))(E:R! (X.calm=true))(S:N! Sn X n j)(O:R! (swapsWith (.Call (.Name "min" p) [.ListComp x [#[.Tuple [.Name n1 p2,.Name n2 p3] k pt,.Name nd p4,[t],0]] f l] [] r) (some<|.Name n A) pos.line X.env=pure false))(B:I! Bi X "min" (.ListComp x [#[.Tuple [.Name n1 p2,.Name n2 p3] k pt,.Name nd p4,[t],0]] f l) p [] r)(V:M! Nm X nd D)(F:F! FrS X.N f.names [(nm,h)])(I:O! cO X f cl [n1,n2] [(nm,h)])(L:H! (∀C g pins s H,PG (X.block f cl C ([n1,n2]++[(nm,h)].map (·.1)) g pins s H) (.Tuple [.Name n1 p2,.Name n2 p3] k pt)<|oG X.K 2<|dA (bI 0)<|dA (bI 1) oH))(T:∀C g pins s H,PT (X.block f cl C ([n1,n2]++[(nm,h)].map (·.1)) g pins s H) t<|tj<|mK Ub (fE 0)<|fE 2:=by subst"ht")(W:∀C g pins s H,PE (X.block f cl C ([n1,n2]++[(nm,h)].map (·.1)) g pins s H) x<|fE 1:=by subst"ht")(U:R! (∀u,foldedSetIterable (.Name nd p4) X.env u=pure u))(Y:L! (e[D]?=some (.sh<|Ky Hb xs)))(G:L! (e[h]?=some (.sh<|is pl))):Gs X (.Assign [.Name n A] (.Call (.Name "min" p) [.ListComp x [#[.Tuple [.Name n1 p2,.Name n2 p3] k pt,.Name nd p4,[t],0]] f l] [] r) pos::rest) e N c:=by subst J;exact .of (aR (zdK<|mZ S.nd S.at' S.lo (bC (uG E) B.gl B.mg xD (aw (CP I E (zaD<|pe_var V.at' V.FO V.hd V.hc) L (λC g pins s H=>yQ<|T C g pins s H) W U) aQ B.se) B.nn B.nd B.se B.pl) O S.fn) Q.p)<|zcS Y G R q P kJ
end
section
variable {α β γ δ ε κ:Type} {iα:Rp α} {iβ:Rp β} {iγ:Rp γ} {iδ:Rp δ} {iε:Rp ε} {rκ:Rp κ} {dκ:DecidableEq κ} {kκ:Kc κ} {e:List Sl} {c d w:Cell} {X:Cx} {a b v x y z o it tg el t:Expr} {ifs:List Expr} {pos p p2 p3 p4 apos aC cQ pt:Pos} {n n2 m:Str} {i j kx:Nat} {N M:List Sl->Prop} {rest body Uv:List Stmt} {sc:Scope} {cl:List (Str×Addr)} {fr:List (Str×Nat)}
theorem ux{xs:List<|κ×α}{k:κ}(E:Ev X a e<|is k)(P:Ed X b e xs)(r:U! (X.A.units+1<cLine))(m:J! (behindInMarks .NotIn b=false)):Et X (.Compare a [.NotIn] [b] pos) e<|!(cF xs k).isSome:=let ⟨_,p,q⟩:=P.h;.of (vY (by ext pins s σ H Q I h;refine b9 (E.p pins s σ H _ I h) λS G ⟨y,L,B,C,D⟩=>b9 (p pins G σ L _ B D) λu s2 ⟨x,F,J,O,a,f,ex,g,l⟩=>?_;subst ex;obtain rfl:u=Value.ref a:=O;exact zq0 r J g C λR K=>#[.bl<|!f.isSome,F,K,rfl,l]) m) (Gb<|zaW aq q)
theorem Jo{xs ys:List α}[dq:Dq α][de:DecidableEq α](h:El X a e xs)(k:El X b e ys)(f:Dq.n α+1<=64)(g:U! (X.A.units+64<cLine))(m:J! (behindInMarks .Eq b=false)):Et X (.Compare a [.Eq] [b] pos) e<|decide<|xs=ys:=.of (vX (HW g) h.p k.p m)<|B9<|Qt gn gn dq de f
theorem iH(f:α->β)(k:Ei X (.Name n p) it e xs)(q:∀x∈xs,∀C g pins s H,Ev (X.block sc cl C ([n]++fr.map (·.1)) g pins s H) el ((inner 1 (fr.map (·.2)) e).set 0<|.sh<|is x)<|is<|f x)(h:xs.z<=1000)(F:F! FrS X.N sc.names fr)(B:O! cO X sc cl [n] fr)(u:R! (X.calm=true))(r:H! (∀C g pins s H,PG (X.block sc cl C ([n]++fr.map (·.1)) g pins s H) (.Name n p)<|bI 0))(l:R! (∀x,foldedSetIterable it X.env x=pure x)):Ef X (.ListComp el [#[.Name n p,it,[],0]] sc pos) e<|ol<|xs.map f:=by let:=wZ (pos:=pos) (xq k (.inl #[rfl,λ_=>rfl]) (λx m _=>q x m) h F B u r) l;rwa [Lr.mpr<|λ_ _=>rfl]at this
theorem mv(f:α->β)(q:α->Bool)(k:Ei X (.Name n p) it e xs)(l:∀x∈xs,∀C g pins s H,Et (X.block sc cl C ([n]++fr.map (·.1)) g pins s H) t ((inner 1 (fr.map (·.2)) e).set 0<|.sh<|is x)<|q x)(u:∀x∈xs,q x=true->∀C g pins s H,Ev (X.block sc cl C ([n]++fr.map (·.1)) g pins s H) el ((inner 1 (fr.map (·.2)) e).set 0<|.sh<|is x)<|is<|f x)(h:xs.z<=1000)(F:F! FrS X.N sc.names fr)(B:O! cO X sc cl [n] fr)(D:R! (X.calm=true))(A:H! (∀C g pins s H,PG (X.block sc cl C ([n]++fr.map (·.1)) g pins s H) (.Name n p)<|bI 0))(r:R! (∀x,foldedSetIterable it X.env x=pure x)):Ef X (.ListComp el [#[.Name n p,it,[t],0]] sc pos) e<|ol<|(xs.filter q).map f:=
 wZ (xq k (.inr #[t,rfl,l]) u h F B D A) r
theorem Nw(f:α->γ->β)(k:Ei X (.Tuple [.Name n p,.Name m p2] kx pt) it e xs)(q:∀x y,(x,y)∈xs->∀C g pins s H,Ev (X.block sc cl C ([n,m]++fr.map (·.1)) g pins s H) el (((inner 2 (fr.map (·.2)) e).set 0<|.sh<|is x).set 1<|.sh<|is y)<|is<|f x y)(h:xs.z<=1000)(F:F! FrS X.N sc.names fr)(B:O! cO X sc cl [n,m] fr)(A:R! (X.calm=true))(r:H! (∀C g pins s H,PG (X.block sc cl C ([n,m]++fr.map (·.1)) g pins s H) (.Tuple [.Name n p,.Name m p2] kx pt)<|oG X.K 2<|dA (bI 0)<|dA (bI 1) oH))(l:R! (∀x,foldedSetIterable it X.env x=pure x)):Ef X (.ListComp el [#[.Tuple [.Name n p,.Name m p2] kx pt,it,[],0]] sc pos) e<|ol<|xs.map λu=>f u.1 u.2:=by let:=wZ (pos:=pos) (JJ k (.inl #[rfl,λ_ _=>rfl]) (λx y m _=>q x y m) h F B A r) l;rwa [Lr.mpr<|λ_ _=>rfl]at this
theorem jx(f:α->β)(l:Ei X (.Name n p) it e xs)(A:∀x∈xs,∀C g pins s H,Ev (X.block sc cl C ([n]++fr.map (·.1)) g pins s H) el ((inner 1 (fr.map (·.2)) e).set 0<|.sh<|is x)<|is<|f x)(k:xs.z<=1000)(r:xs.map f=ys)(q:Gs X rest (e.set i<|.ow<|ol ys) N c)(F:F! FrS X.N sc.names fr)(B:O! cO X sc cl [n] fr)(E:R! (X.calm=true))(D:H! (∀C g pins s H,PG (X.block sc cl C ([n]++fr.map (·.1)) g pins s H) (.Name n p)<|bI 0))(u:R! (∀x,foldedSetIterable it X.env x=pure x))(S:N! Sn X m i)(h:R! (swapsWith (.ListComp el [#[.Name n p,it,[],0]] sc pos) (some<|.Name m p2) cQ.line X.env=pure true)):Gs X (.Assign [.Name m p2] (.ListComp el [#[.Name n p,it,[],0]] sc pos) cQ::rest) e N c:=
 wK (xq l (.inl #[rfl,λ_=>rfl]) (λx m _=>A x m) k F B E D) (by erw[Lr.mpr<|λ_ _=>rfl,r]) q S u h
theorem wN(f:α->β)(q:α->Bool)(l:Ei X (.Name n p) it e xs)(A:∀x∈xs,∀C g pins s H,Et (X.block sc cl C ([n]++fr.map (·.1)) g pins s H) t ((inner 1 (fr.map (·.2)) e).set 0<|.sh<|is x)<|q x)(E:∀x∈xs,q x=true->∀C g pins s H,Ev (X.block sc cl C ([n]++fr.map (·.1)) g pins s H) el ((inner 1 (fr.map (·.2)) e).set 0<|.sh<|is x)<|is<|f x)(k:xs.z<=1000)(u:(xs.filter q).map f=ys)(r:Gs X rest (e.set i<|.ow<|ol ys) N c)(F:F! FrS X.N sc.names fr)(B:O! cO X sc cl [n] fr)(I:R! (X.calm=true))(G:H! (∀C g pins s H,PG (X.block sc cl C ([n]++fr.map (·.1)) g pins s H) (.Name n p)<|bI 0))(D:R! (∀x,foldedSetIterable it X.env x=pure x))(S:N! Sn X m i)(h:R! (swapsWith (.ListComp el [#[.Name n p,it,[t],0]] sc pos) (some<|.Name m p2) cQ.line X.env=pure true)):Gs X (.Assign [.Name m p2] (.ListComp el [#[.Name n p,it,[t],0]] sc pos) cQ::rest) e N c:=
 wK (xq l (.inr #[t,rfl,A]) E k F B I G) u r S D h
theorem wL(f:α->γ->β)(l:Ei X (.Tuple [.Name n p,.Name n2 p3] kx pt) it e xs)(D:∀x y,(x,y)∈xs->∀C g pins s H,Ev (X.block sc cl C ([n,n2]++fr.map (·.1)) g pins s H) el (((inner 2 (fr.map (·.2)) e).set 0<|.sh<|is x).set 1<|.sh<|is y)<|is<|f x y)(k:xs.z<=1000)(r:(xs.map λu=>f u.1 u.2)=ys)(q:Gs X rest (e.set i<|.ow<|ol ys) N c)(F:F! FrS X.N sc.names fr)(B:O! cO X sc cl [n,n2] fr)(G:R! (X.calm=true))(E:H! (∀C g pins s H,PG (X.block sc cl C ([n,n2]++fr.map (·.1)) g pins s H) (.Tuple [.Name n p,.Name n2 p3] kx pt)<|oG X.K 2<|dA (bI 0)<|dA (bI 1) oH))(A:R! (∀x,foldedSetIterable it X.env x=pure x))(S:N! Sn X m i)(h:R! (swapsWith (.ListComp el [#[.Tuple [.Name n p,.Name n2 p3] kx pt,it,[],0]] sc pos) (some<|.Name m p2) cQ.line X.env=pure true)):Gs X (.Assign [.Name m p2] (.ListComp el [#[.Tuple [.Name n p,.Name n2 p3] kx pt,it,[],0]] sc pos) cQ::rest) e N c:=
 wK (JJ l (.inl #[rfl,λ_ _=>rfl]) (λx y m _=>D x y m) k F B G E) (by erw[Lr.mpr<|λ_ _=>rfl,r]) q S A h
theorem gY{f:α->Prop}{F:α->β}{u:α}(h:f u):ur f F [is u]<|is<|F u:=#[u,h,rfl,rfl]
theorem oy{f:α->β->Prop}{F:α->β->γ}{u:α}{u2:β}(h:f u u2):Bt f F [is u,is u2]<|is<|F u u2:=#[_,_,h,rfl,rfl]
theorem Py{g:α->β->γ->Prop}{F:α->β->γ->δ}{u:α}{u2:β}{f:γ}(h:g u u2 f):Pz g F [is u,is u2,is f]<|is<|F u u2 f:=#[_,_,_,h,rfl,rfl]
theorem WI{k:α->β->γ->δ->Prop}{F:α->β->γ->δ->ε}{u:α}{u2:β}{g:γ}{f:δ}(h:k u u2 g f):fn4 k F [is u,is u2,is g,is f]<|is<|F u u2 g f:=#[_,_,_,_,h,rfl,rfl]
end
section
variable {α β:Type} {iα:Rp α} {iβ:Rp β} {e:List Sl} {c d w:Cell} {X:Cx} {a b:Expr} {pos p:Pos}
structure Ln(X:Cx)(c:Cell)(k:Int):Prop where h:∃r,dC X (.builtin "len") r/\∀e,Pe (jT r<|aG (GQ e c) bN) e<|is k
theorem Nn(h:Ev X a e c)(o:Ln X c k)(B:I! Bi X "len" a p [] pos):Ev X (.Call (.Name "len" p) [a] [] pos) e<|is k:=let ⟨_,o,q⟩:=o.h;.of (bC o B.gl B.mg nP (aw h.p aQ B.se) B.nn B.nd B.se B.pl) (q e)
theorem YS{xs:List α}:Ln X (is xs) (xs.z:Int):=#[_,gZ,λ_=>Gw aq.pl]
theorem YT{f:cc}{K:bb}(q:R! (X.K=K)):Ln X (fz K f) (f.z:Int):=q▸#[_,gZ,λ_=>Ce aq]
structure Ik{α:Type}[Rp α](X:Cx)(c:Cell)(xs:List α):Prop where h:∃w:TE->TI,(∀tg a t,PE X a t->PI X tg a (w t))/\∀e,Pi (w<|GQ e c) e xs
theorem ei_k{f:Expr}{xs:List α}(h:Ev X a e c)(o:Ik X c xs):Ei X f a e xs:=let ⟨_,o,q⟩:=o.h;.of (o _ _ _ h.p) (q e)
theorem Y3{xs:List α}:Ik X (is xs) xs:=#[_,λ_ _ _=>CL,λ_=>Ca aq]
theorem Y2{xs:List α}:Ik X (is<|Sq.mk xs) xs:=#[_,λ_ _ _=>HI,λ_=>Ge aq]
theorem Ev.sqL{xs:List α}(h:Ev X a e<|is xs):Ev X a e<|is<|Sq.mk xs:=.of h.p<|.mk λE Q q=>aq.h E Q λv f s ⟨a,vs,j,g,i⟩=>q v f s #[a,vs,j,.inl g,i]
structure Cv(c d:Cell):Prop where h:∀H v,c.p H v->d.p H v
inductive P7:List Cell->List Cell->Prop where
 | nil:P7 [] []
 | cons {c d:Cell} {cs ds:List Cell} (h:Cv c d) (hs:P7 cs ds):P7 (c::cs) (d::ds)
theorem P7.on{H:Hp}:∀{g f:List Cell} {vs:List V},P7 g f->Paired (λv c=>c.p H v) vs g->Paired (λv c=>c.p H v) vs f
 | _,_,_,.nil,.nil=>.nil
 | _,_,_,.cons h hs,.cons r rs=>.cons (h.h _ _ r)<|hs.on rs
theorem Td:Cv c c:=#[λ_ _ r=>r]
theorem Tc{xs:List α}:Cv (is xs)<|is<|Sq.mk xs:=#[λ_ _ ⟨a,vs,h,f,g⟩=>#[a,vs,h,.inl f,g]]
theorem zcP[B1 C][h:dI C n k ps A](g:Ea X (a::es) e cs)(q:A ds c)(v:P7 cs ds)(B:C! Cl C X n k a p es aC):Ev X (.Call (.Name n p) (a::es) [] aC) e c:=az (.of g.p<|.mk λE Q q=>yW.h E Q λvs f s r=>q vs f s<|v.on r) q B
theorem Nv{l x:Expr}{n:Nat}(h:Ev X a e<|is<|(n:Int)-1)(j:Ev X b e<|is (-1:Int))(k:Ev X x e<|is (-1:Int))(m:n<=1000)(B:Z! Bz X "range")(g:R! EM X [a,b,x])(f:R! EM X [b,x])(i:R! EM X [x]):Ei X l (.Call (.Name "range" p) [a,b,x] [] pos) e<|down n:=.of (tV B.gl B.mg (aw h.p (aw j.p (aw k.p aQ i)<|f.trans<|by rw[i];rfl)<|g.trans<|by rw[f];rfl) g f)<|zfJ aq aq aq m
theorem Ev.some{u:α}(h:Ev X a e<|is u):Ev X a e<|is<|Option.some u:=.of h.p<|.mk λE Q q=>aq.h E Q q
theorem Ev.Av{u:α}(h:Ev X a e<|is<|Option.some u):Ev X a e<|is u:=.of h.p<|.mk λE Q q=>aq.h E Q q
theorem RA{k l m n:Int}(f:U! (X.A.units+64<cLine)):Ow X (compareOp .NotEq) (is (k,l)) (is (m,n))<|is<|!decide (k=m/\l=n):=by let h:=qw (u:=(k,l)) (v:=(m,n)) (show Dq.n _<=64 by decide) f;rwa [show decide ((k,l)=(m,n))=decide (k=m/\l=n)by simp]at h
end
end Pu
namespace rY
open PySem L2 Fr Gm
open Dt (sm sq qt fa NS eW kY AG great mf)
theorem some_of{M:Nat}{u:Nat->Int}{c:Nat->Bool}:∀n,(∀j,j<n->(u j).natAbs<=M)->(sm n λj=>if c j=true then u j else 0).natAbs<=((List.range n).filter c).z*M/\((sm n λj=>if c j=true then u j else 0).natAbs=((List.range n).filter c).z*M->∀j,j<n->c j=true->(u j).natAbs=M)
 | 0,_=>#[Bv _,λ_ j h=>()]
 | n+1,h=>by let#[i,d]:=some_of n λj f=>h j ();let k:=h n ();let g:(sm (n+1) λj=>if c j=true then u j else 0)=(sm n λj=>if c j=true then u j else 0)+if c n=true then u n else 0:=rfl;rw[g,GI,Hi,Ac,JE];generalize (sm n λj=>if c j=true then u j else 0)=s at *;ext(a:c n=true);rw[Al a,K6 a];show(s+u n).natAbs<=_+1*M/\((s+u n).natAbs=_+1*M->_);rw[Js];generalize ((List.range n).filter c).z*M=t at *;let y:=Int.natAbs_add_le s (u n);refine#[Ay y<|Nat.add_le_add i k,λe j f b=>?_];ext(z:j=n);rw[z];generalize (s+u n).natAbs=A,s.natAbs=B,(u n).natAbs=C at *;lia;generalize (s+u n).natAbs=A,s.natAbs=B,(u n).natAbs=C at *;exact d () j () b;rw[Ak a,LO a];show(s+0).natAbs<=_+0*M/\((s+0).natAbs=_+0*M->_);rw[Nat.zero_mul,EH,Int.add_zero];refine#[i,λe j f b=>?_];ext(z:j=n);rw[z]at b;exact absurd b a;exact d e j () b
theorem Bw(h:fs[j]?=some f)(a:f.2=1):fa fs j=(f.1:Rat):=by rw[mf h];unfold qt;rw[a,Rat.div_def];show(f.1:Rat)*(1:Rat)⁻¹=_;rw[show((1:Rat)⁻¹)=1 by decide +kernel,Rat.mul_one]
def Ve(L:cq)(a:cc):List<|List<|Int×Int:=a.map λx=>a.map<|cY (br L x) x
theorem zad{L:cq}{a:cc}{s:Int}(F:ah L)(S:sV L)(nd:a.Nodup)(H:∀x∈a,0<=x/\x<L.z)(M:0<=s/\s<L.z)(n0:s∉a):NS a.z<|Ve L a:=by
 ext u hu;refine BS λz=>?_;let hn:0<a.z:=by refine Nat.pos_of_ne_zero λe=>z λj b=>?_;lia
 let#[m,P,R]:=great u hn;let M0:0<(u m).natAbs:=by refine Nat.pos_of_ne_zero λe=>z λj b=>?_;let:=R j b;lia
 let step:∀k (q:k<a.z),(u k).natAbs=(u m).natAbs->∀y∈br L a[k],∃j,∃b:j<a.z,a[j]=y/\(u j).natAbs=(u m).natAbs:=λk q X=>by
  let t:=H a[k]<|ET q;let Q:=ag t.1 t.2;let U:=F.nd _ _ Q;let no:a[k]∉br L a[k]:=λw=>by let:=(F.rg _ _ Q _ w).2.2;lia
  let D:=hu (a.map<|cY (br L a[k]) a[k])<|A3.mpr #[a[k],ET q,rfl];generalize I:a[k]=x at *;generalize hl:br L x=l at *;let e1:sq a.z (λj=>fa (a.map<|cY l x) j*(u j:Rat))=((sm a.z λj=>(cY l x<|a.getD j 0).1*u j:Int):Rat):=by rw[kY];refine eW λj b=>?_;rw[Bw (f:=cY l x<|a.getD j 0) (by rw[AY,su,me b];rfl) (by unfold cY;split;rfl;split<;>rfl),Fj]
  rw[e1]at D;let p:(sm a.z λj=>(cY l x<|a.getD j 0).1*u j)=0:=by
   let:(((sm a.z λj=>(cY l x<|a.getD j 0).1*u j:Int)):Rat)=((0:Int):Rat):=by rw[D];rfl
   exact L9.mp this
  rw[AG q]at p;let K:a.getD k 0=x:=by rw[su,me q,<-I];rfl
  let f1:(cY l x<|a.getD k 0).1=(l.z:Int):=by rw[K];unfold cY;rw[Al rfl]
  rw[f1]at p;let g:∀i,i<a.z->a.getD i 0∈a:=λi o=>bh o;let inj:∀i j,i<a.z->j<a.z->a.getD i 0=a.getD j 0->i=j:=λi j o b e=>by rw[su,me o,su,me b]at e;exact(Ez nd).mp e
  let e2:(sm a.z λi=>if i=k then 0 else(cY l x<|a.getD i 0).1*u i)=sm a.z λi=>if decide (a.getD i 0∈l)=true then -u i else 0:=by refine Dt.aV λi o=>?_;ext(c:i=k);subst c;rw[Al rfl,K,BQ no];rfl;rw[Ak c];unfold cY;rw[Ak<|λe=>c<|inj i k o q<|K>>e];ext(d:a.getD i 0∈l);rw[Al d,BG d,Al rfl];lia;rw[Ak d,BQ d,Ak A?];lia
  rw[e2]at p;let#[b1,b2]:=some_of a.z λj b=>JU>>R j b
  let na:(sm a.z λi=>if decide (a.getD i 0∈l)=true then -u i else 0).natAbs=l.z*(u m).natAbs:=by
   let:(sm a.z λi=>if decide (a.getD i 0∈l)=true then -u i else 0)=-((l.z:Int)*u k):=();rw[this,JU,FL,X];rfl
  let A:(((List.range a.z).filter λi=>decide<|a.getD i 0∈l).map λi=>a.getD i 0).Nodup:=by rw[Ig,K3];refine Jq ?_<|Kk.mp<|List.Nodup.sublist Lo JK;ext i j o b n e;exact n<|inj i j (Ad.mp (ER.mp o).1) (Ad.mp (ER.mp b).1) e
  let O:∀y∈(((List.range a.z).filter λi=>decide<|a.getD i 0∈l).map λi=>a.getD i 0),y∈l:=λy E=>by let#[i,o,rfl]:=A3.mp E;exact Eb (ER.mp o).2
  let N:=k9 A O;rw[ZO]at N;rw[na]at b1 b2;let B:=Lk b1<|HD _ N;let cl:=Nat.eq_of_mul_eq_mul_right M0 B;ext y E;let yt:=BS λw=>by
   let:=k9 (EB.mpr #[w,A]) λv Z=>by ext(e|e:AX.mp Z);rw[e];exact E;exact O v e
   rw[Bq,ZO]at this;lia
  let#[j,b,e]:=A3.mp yt;let#[C,W]:=ER.mp b;let C:=Ad.mp C;let:=(b2 B) j C W;rw[JU]at this;refine#[j,C,?_,this];rw[<-e,su,me C];rfl
 let T:=H a[m]<|ET P;let reach:∀y,Reach L a[m] y->∃j,∃b:j<a.z,a[j]=y/\(u j).natAbs=(u m).natAbs:=λy h=>by
  induction h with
  | here=>exact#[m,P,rfl,rfl]
  | @step i l x r e I ih=>
   let#[j,b,Y,uj]:=ih;let:br L a[j]=l:=(by let t:=H a[j]<|ET b;let G:=ag t.1 t.2;rw[Y]at G ⊢;rw[show((i:Int)).toNat=i from rfl,e]at G;exact(BV G).symm);exact step j b uj x (this>>I)
 let J:Reach L a[m] s:=by exact ((S a[m] T.1 T.2).sym F #[(),()]).trans<|S s M.1 M.2
 let#[j,b,e,_]:=reach s J;exact n0<|e▸ET b
open Dt (sq qt fa NS iQ eW mf Lw dS B8)
theorem Cq{F:Nat->Rat}:∀n,sq n F=((List.range n).map F).sum
 | 0=>rfl
 | n+1=>by rw[GI,EE,sum_append,<-Cq n];show sq n F+F n=sq n F+(F n+0);grind
theorem zeF{α:Type}{F:Int->α}(a:cc):(List.range a.z).map (λj=>F<|a.getD j 0)=a.map F:=by
 refine IX A! λi b d=>?_;let c:i<a.z:= ~~~b
 rw[IS,IS,getElem_range,su,me c];rfl
theorem jb{a:cc}(c:a.Nodup){j:Nat}(b:j<a.z):a.idxOf (a.getD j 0)=j:=by erw[su,me b,(Ez c).mp<|Ex<|Ci<|ET b]
theorem Cm{g:Int->Rat}{w:Int}:∀{a:cc},a.Nodup->(a.map λx=>if x=w then g x else 0).sum=if w∈a then g w else 0
 | [],_=>rfl
 | x::a,nd=>by let#[e,b]:=EB.mp nd;rw[Ap,Ek,Cm b];ext(c:x=w);subst c;rw[Al rfl,Ak e,Al AO];grind;rw[Ak c];let:w∈x::a↔w∈a:=#[λh=>(AX.mp h).resolve_left<|A6 c,λh=>A7 _ h];ext(d:w∈a);rw[Al d,Al<|this.mpr d];grind;rw[Ak d,Ak λz=>d<|this.mp z];grind
theorem sum_add{f g:Int->Rat}:∀a:cc,(a.map λx=>f x+g x).sum=(a.map f).sum+(a.map g).sum
 | []=>by show(0:Rat)=0+0;grind
 | x::a=>by rw[Ap,Ek,Ap,Ek,Ap,Ek,sum_add a];grind
theorem yj{g:Int->Rat}{b:cc}(e:b.Nodup):∀{l:cc},l.Nodup->(l.map λw=>if w∈b then g w else 0).sum=(b.map λx=>if x∈l then g x else 0).sum
 | [],_=>by
  let:∀a:cc,(a.map λx=>if x∈([]:cc)then g x else 0).sum=0:=λa=>by
   induction a with
   | nil=>rfl
   | cons x a i=>rw[Ap,Ek,i,Ak A!];grind
  rw[this];rfl
 | w::l,nd=>by let#[h,f]:=EB.mp nd;rw[Ap,Ek,yj e f,<-Cm e,<-sum_add];refine A4 List.sum<|EU λx _=>?_;ext(c:x=w);subst c;rw[Al rfl,Ak h,Al AO];grind;rw[Ak c];ext(d:x∈l);rw[Al d,Al<|A7 _ d];grind;rw[Ak d,Ak λz=>(AX.mp z).elim c d];grind
theorem Ck{g:Int->Rat}{l:cc}{x:Int}(nx:x∉l):∀{a:cc},a.Nodup->(a.map λy=>((cY l x y).1:Rat)*g y).sum=(if x∈a then(l.z:Rat)*g x else 0)-(a.map λy=>if y∈l then g y else 0).sum
 | [],_=>by show(0:Rat)=0-0;grind
 | y::a,nd=>by let#[e,b]:=EB.mp nd;rw[Ap,Ek,Ck nx b,Ap,Ek];ext(c:y=x);subst c;rw[Ak e,Al AO,Ak nx];unfold cY;rw[Al rfl];show((l.z:Int):Rat)*g y+_=_;rw[Mj];grind;let:x∈y::a↔x∈a:=#[λh=>(AX.mp h).resolve_left<|A6 c,λh=>A7 _ h];rw[show(if x∈y::a then(l.z:Rat)*g x else 0)=if x∈a then(l.z:Rat)*g x else 0 from by ext(d:x∈a);rw[Al d,Al<|this.mpr d];rw[Ak d,Ak λz=>d<|this.mp z]];unfold cY;rw[Ak c];ext(d:y∈l);rw[Al d,Al d];show((-1:Int):Rat)*g y+_=_;rw[Rat.intCast_neg];grind;rw[Ak d,Ak d];show((0:Int):Rat)*g y+_=_;grind
theorem rP{f:Int->Int}:∀l:cc,(((l.map f).sum:Int):Rat)=(l.map λx=>(f x:Rat)).sum
 | []=>rfl
 | x::l=>by rw[Ap,Ek,Ap,Ek,Rat.intCast_add,rP l]
theorem uX{f:Int->Rat}(b:Rat):∀l:cc,(l.map λx=>b*f x).sum=b*(l.map f).sum
 | []=>by show(0:Rat)=b*0;grind
 | x::l=>by rw[Ap,Ek,Ap,Ek,uX b l];grind
def kI(L:cq)(r b a:cc):List<|Int×Int:=a.map λx=>(((br L x).map<|wv r b).sum,1)
theorem zeH{L:cq}{r a d:cc}{ys fs:List<|Int×Int}{b:Int}(m:ah L)(u:∀x,x∈a↔(0<=x/\x<L.z)/\x∉r)(i:a.Nodup)(h:Wh fs b d)(rl:r.z=fs.z)(M:∀f∈fs,0<f.2)(o:iQ a.z (ko L a a) (kI L r d a) ys){q:Int->Rat}(O:∀y∈r,q y=fa fs (r.idxOf y))(E:∀y∈a,q y=fa ys (a.idxOf y) / (b:Rat)){v:Int}(e:v∈a):mH L q v:=by
 let T:=dS (show b≠0 by let:=h.pos;lia);let#[#[J,K],S]:=(u v).mp e;let t:=ag J K;let k:(br L v).Nodup:=m.nd _ _ t;let R:v∉br L v:=λw=>by let:=(m.rg _ _ t _ w).2.2;lia
 let n:=Ci e;let G:a[a.idxOf v]=v:=Ex n;let s:=o (a.idxOf v) (a.map<|cY (br L v) v) (((br L v).map<|wv r d).sum,1) (by unfold ko;rw[AY,me n,G];rfl) (by unfold kI;rw[AY,me n,G];rfl);let D:∀w∈br L v,0<=w/\w<L.z:=λw p=>by let:=m.rg _ _ t w p;lia
 unfold mH;generalize br L v=l at *;let e1:sq a.z (λj=>fa (a.map<|cY l v) j*fa ys j)=(a.map λy=>((cY l v y).1:Rat)*fa ys (a.idxOf y)).sum:=by rw[Cq,<-zeF (F:=λy=>((cY l v y).1:Rat)*fa ys (a.idxOf y)) a];refine A4 List.sum<|EU λj g=>?_;let g:=Ad.mp g;rw[jb i g,Bw (f:=cY l v<|a.getD j 0) (by rw[AY,su,me g];rfl)<|by unfold cY;split;rfl;split<;>rfl]
 rw[e1,Ck R i,Al e,<-yj i k]at s;let e2:qt ((l.map<|wv r d).sum,1)=(((l.map<|wv r d).sum:Int):Rat):=by let:=Bw (fs:=[((l.map<|wv r d).sum,1)]) (j:=0) rfl rfl;exact this
 rw[e2,rP]at s;let P:(l.map λw=>(b:Rat)*q w).sum=(l.map λw=>(wv r d w:Rat)).sum+(l.map λw=>if w∈a then fa ys (a.idxOf w)else 0).sum:=by
  rw[<-sum_add];refine A4 List.sum<|EU λw p=>?_;ext(c:w∈r);let W:=Ci c;let U:=h.len;rw[Ak λz=>((u w).mp z).2 c,O w c];let H:fs[r.idxOf w]?=some fs[r.idxOf w]:=me ();let N:d[r.idxOf w]?=some (wv r d w):=by unfold wv;rw[su,me ()];rfl
  let:=B8 h H N<|M _<|ET _;rw[this,mf H];grind;let I:w∈a:=(u w).mpr #[D w p,c];let:wv r d w=0:=by unfold wv;rw[su,Eu (by let:=idxOf_eq_length c;let:=h.len;lia)];rfl
  rw[Al I,this,E w I];show _=(0:Rat)+_;grind
 rw[uX]at P;let Q:=E v e;generalize (l.map λw=>(wv r d w:Rat)).sum=A at *;generalize (l.map λw=>if w∈a then fa ys (a.idxOf w)else 0).sum=B at *;generalize (l.map q).sum=C at *;generalize fa ys (a.idxOf v)=y at *;rw[Q];grind
theorem HQ:∀{fs:List<|Int×Int},(∀f∈fs,P6 f)->Dt.pd fs<=6 ^ fs.z
 | [],_=>Xx _
 | f::fs,h=>by let a:=h f AO;let d:=a.1.1;let c:=a.2.1;erw[Bq,K4,Gn<|6 ^ fs.z,Fx ()<|HQ λg b=>h g<|A7 _ b]
theorem getD_map{α β:Type}{g:α->β}{a:List α}{d:α}{e:β}{i:Nat}(h:i<a.z):(a.map g).getD i e=g (a.getD i d):=by rw[su,AY,me h,su,me h];rfl
def pI(n:Nat)(xs ys:List<|Int×Int):List<|List<|Int×Int:=(List.range n).map λj=>[xs.getD j (0,1),ys.getD j (0,1)]
theorem F7(h:j<n):(pI n xs ys).getD j []=[xs.getD j (0,1),ys.getD j (0,1)]:=by unfold pI;rw[getD_map (Er>>h),show(List.range n).getD j 0=j by rw[su,Fy h];rfl]
theorem Oh(f:xs.z=n)(b:ys.z=n):(qx (pI n xs ys)=λw=>fa xs w.toNat)/\qy (pI n xs ys)=λw=>fa ys w.toNat:=by
 let key:∀w:Int,cE ((pI n xs ys).getD w.toNat [])=xs.getD w.toNat (0,1)/\cW ((pI n xs ys).getD w.toNat [])=ys.getD w.toNat (0,1):=λw=>by
  ext(c:w.toNat<n);rw[F7 c];exact#[rfl,rfl];let o:∀{α:Type} {a:List α} {d:α},a.z=n->a.getD w.toNat d=d:=λ{α a d} e=>by rw[su,Eu ()];rfl
  erw[o (by unfold pI;rw[ZO,Er]),o f,o b,#[rfl,rfl]]
 exact#[funext λw=>A4 qt (key w).1,funext λw=>A4 qt (key w).2]
theorem S1(h:xs.z=L.z)(o:ys.z=L.z)(m:∀x∈xs,Lw x/\Sz 880 x.1/\Sz 880 x.2)(n:∀x∈ys,Lw x/\Sz 880 x.1/\Sz 880 x.2)(t:∀q∈Y,TL q)(C:r.z=Y.z)(rg:∀x∈r,0<=x/\x<L.z)(p:∀x∈r,fa xs x.toNat=fa (Y.map cE) (r.idxOf x))(u:∀x∈r,fa ys x.toNat=fa (Y.map cW) (r.idxOf x))(mx:∀v:Int,0<=v->v<L.z->v∉r->mH L (λw=>fa xs w.toNat) v)(y:∀v:Int,0<=v->v<L.z->v∉r->mH L (λw=>fa ys w.toNat) v):NQ L r Y<|pI L.z xs ys:=by
 let g:∀z∈pI L.z xs ys,z.z=2/\∀f∈z,Lw f/\Sz 880 f.1/\Sz 880 f.2:=λz hz=>by
  let#[j,l,rfl]:=A3.mp hz;let l:=Ad.mp l;refine#[rfl,λf a=>?_];simp[BX,Bn,Bu]at a;ext(rfl|rfl:a);exact m _<|bh ();exact n _<|bh ()
 refine#[by unfold pI;rw[ZO,Er],λz hz=>#[(g z hz).1,#[λf a=>((g z hz).2 f a).1.1,λf a=>((g z hz).2 f a).2.1.mono A?,λf a=>((g z hz).2 f a).2.2.mono A?],λf a=>((g z hz).2 f a).1],λz hz f a=>((g z hz).2 f a).2,λx b=>?_,λv c e k=>?_];let A:=Ci b;let B:=rg x b;rw[F7 ()];let e1:=p x b;let e2:=u x b;unfold fa at e1 e2;rw[getD_map ()]at e1 e2;let#[s,lo]:=t _<|bh (Y:=Y) (d:=[]) (i:=r.idxOf x) ()
 match Y.getD (r.idxOf x) [],s,lo,e1,e2 with
 | [f,g],_,lo,e1,e2=>
  rw[Dt.vW (m _<|bh ()).1 (lo f A!).1 e1,Dt.vW (n _<|bh ()).1 (lo g A!).1 e2]
 erw[(Oh h o).1,(Oh h o).2,#[mx v c e k,y v c e k]]
end rY
namespace rY
open PySem L2 Fr Gm Pg
open Dt (dO e7 pd dR kD oT)
open iQ (V3 l3 S3 tn wk)
def pt(S:Int)(p:List<|Int×Int):V2:=#[bx S<|cE p,bx S<|cW p]
def KJ(S:Int)(p:List<|Int×Int):Prop:=(cE p).2 ∣ S/\(cW p).2 ∣ S
theorem rR(b:0<f.2)(h:f.2 ∣ S):bx S f*f.2=f.1*S:=by let#[c,a]:=h;unfold bx;rw[a,Jh _ ()];grind
theorem jD(e:0<f.2)(h:f.2 ∣ S)(h':f.2 ∣ s):bx s f*S=s*bx S f:=by let#[c,a]:=h;let#[d,b]:=h';unfold bx;rw[a,b,Jh _ (),Jh _ ()];grind
theorem P2.two(h:P2 p):∃f g,p=[f,g]/\Dt.Lw f/\Dt.Lw g:=by
 let:=h.len
 match p,this with
 | [f,g],_=>exact#[f,g,rfl,h.low f A!,h.low g A!]
theorem Aq(h:P2 p)(j:0<S)(b:KJ S p):0<dO p/\dO p*(pt S p).x=S*wk p 0/\dO p*(pt S p).y=S*wk p 1:=by let#[d,a,_]:=iQ.n6 λf c=>h.fq.pos f c;let#[f,g,rfl,e,i]:=h.two;refine#[d,?_,?_];show dO [f,g]*bx S f=S*bx (dO [f,g]) f;rw[<-(jD e.1 (a f A!) b.1)];exact GD _ _;show dO [f,g]*bx S g=S*bx (dO [f,g]) g;erw[<-(jD i.1 (a g A!) b.2),GD _ _]
theorem UT(j:0<S)(i:0<a.w)(g:0<b.w)(k:0<c.w)(ax:a.w*u.x=S*a.u)(d:a.w*u.y=S*a.v)(bx:b.w*v.x=S*b.u)(e:b.w*v.y=S*b.v)(f:c.w*w.x=S*c.u)(cy:c.w*w.y=S*c.v) :
  S*S*tn a b c=a.w*b.w*c.w*cr (Pg.sub v u) (Pg.sub w u):=by
 let h:S*S*tn a b c=a.w*((S*b.u)*(S*c.v)-(S*b.v)*(S*c.u))+b.w*((S*c.u)*(S*a.v)-(S*c.v)*(S*a.u))+c.w*((S*a.u)*(S*b.v)-(S*a.v)*(S*b.u)):=by unfold tn;grind
 rw[h,<-ax,<-d,<-bx,<-e,<-f,<-cy];unfold cr Pg.sub;grind
theorem LK{A B x y:Int}(a:0<A)(b:0<B)(e:A*x=B*y):0<x↔0<y:=by rw[<-fI a,e,fI b]
theorem eq_iff(j:0<S)(a:Dt.Lw f)(b:Dt.Lw g)(d:f.2 ∣ S)(e:g.2 ∣ S):f=g↔bx S f=bx S g:=by
 refine#[λh=>by rw[h],λh=>?_];let e1:=rR a.1 d;refine iQ.WH a b ?_;rw[h]at e1;refine MQ (show S≠0 by lia) ?_;let i:f.1*g.2*S=(f.1*S)*g.2:=by grind
 let c:g.1*f.2*S=(g.1*S)*f.2:=by grind
 rw[i,c,<-e1,<-(rR b.1 e)];grind
theorem Tu(T:0<S)(B:P2 p)(N:P2 q)(F:P2 r)(t:KJ S p)(A:KJ S q)(k:KJ S r):0<share p q r/\S*S*FC p q r=share p q r*share p q r*cr (Pg.sub (pt S q)<|pt S p) (Pg.sub (pt S r)<|pt S q):=by
 let#[f,g,rfl,w,l]:=B.two;let#[b,a,rfl,v,o]:=N.two;let#[c,d,rfl,y,n]:=F.two;let e:share [f,g] [b,a] [c,d]=1*f.2*g.2*b.2*a.2*c.2*d.2:=rfl;let D:0<share [f,g] [b,a] [c,d]:=e>>Int.one_mul>>E7 (E7 (E7 (E7 (E7 w.1 l.1) v.1) o.1) y.1) n.1
 let C:f.2 ∣ share [f,g] [b,a] [c,d]:=#[g.2*b.2*a.2*c.2*d.2,by rw[e];grind];let M:g.2 ∣ share [f,g] [b,a] [c,d]:=#[f.2*b.2*a.2*c.2*d.2,by rw[e];grind];let G:b.2 ∣ share [f,g] [b,a] [c,d]:=#[f.2*g.2*a.2*c.2*d.2,by rw[e];grind];let H:a.2 ∣ share [f,g] [b,a] [c,d]:=#[f.2*g.2*b.2*c.2*d.2,by rw[e];grind];let E:c.2 ∣ share [f,g] [b,a] [c,d]:=#[f.2*g.2*b.2*a.2*d.2,by rw[e];grind];let L:d.2 ∣ share [f,g] [b,a] [c,d]:=#[f.2*g.2*b.2*a.2*c.2,by rw[e];grind];refine#[D,?_];let K:FC [f,g] [b,a] [c,d]=(bx (share [f,g] [b,a] [c,d]) b-bx (share [f,g] [b,a] [c,d]) f)*(bx (share [f,g] [b,a] [c,d]) d-bx (share [f,g] [b,a] [c,d]) a)-(bx (share [f,g] [b,a] [c,d]) a-bx (share [f,g] [b,a] [c,d]) g)*(bx (share [f,g] [b,a] [c,d]) c-bx (share [f,g] [b,a] [c,d]) b):=rfl;rw[K];let J:=jD (S:=S) w.1 t.1 C;let I:=jD (S:=S) l.1 t.2 M;let Q:=jD (S:=S) v.1 A.1 G;let R:=jD (S:=S) o.1 A.2 H;let O:=jD (S:=S) y.1 k.1 E;let P:=jD (S:=S) n.1 k.2 L;generalize share [f,g] [b,a] [c,d]=s at *;show S*S*_=s*s*cr #[bx S b-bx S f,bx S a-bx S g] #[bx S c-bx S b,bx S d-bx S a];generalize bx s f=m at *;generalize bx s g=z at *;generalize bx s b=i at *;generalize bx s a=j at *;generalize bx s c=x at *;generalize bx s d=u at *;let h:S*S*((i-m)*(u-j)-(j-z)*(x-i))=(i*S-m*S)*(u*S-j*S)-(j*S-z*S)*(x*S-i*S):=by grind
 rw[h,J,I,Q,R,O,P];unfold cr;dsimp only;grind
open Dt (dO e7 pd dR kD oT)
open iQ (V3 l3 S3 tn wk)
theorem xE{Y:List<|List<|Int×Int}(d:∀q∈Y,P2 q):∃S,0<S/\∀q∈Y,KJ S q:=by
 let#[b,i,h]:=oT (Y.flatMap id) λf c=>by let#[q,a,c]:=D8.mp c;exact((d q a).low f c).1
 refine#[b,i,λq a=>?_];let#[f,g,e,_,_]:=(d q a).two;subst e;exact#[h f<|D8.mpr #[_,a,by simp],h g<|D8.mpr #[_,a,by simp]]
section
variable {Y:List (List (Int×Int))} {S:Int} (hY:∀q∈Y,P2 q) (hS:0<S) (hb:∀q∈Y,KJ S q)
include hY hS hb
end
section
variable {Y:List (List (Int×Int))} {S:Int} (hY:∀q∈Y,P2 q) (hS:0<S) (hb:∀q∈Y,KJ S q)
include hY hS hb
end
end rY
namespace Gm
open PySem L2
structure Sn(S:cc)(L:cq):Prop where
 map:ah L
 span:mG L S
 Fn:∃R,Dec L R/\(L.z:Int)+R.z+iso L=(eL L L.z).z+2*(S.z:Int)
theorem bA.sn(s:bA L):Sn [0] L:=#[s.map,s.span,let ⟨R,D,c⟩:=s.Fn;#[R,D,by rw[c];rfl]]
theorem zfH(m:ah L)(h:Dt L (a,b)):(eL L L.z).z=(eL (rem L a b) (rem L a b).z).z+1:=by let e:=(kZ m h).2;let c:=bK m;let d:=bK<|vO m h;lia
theorem Sn.rem(s:Sn S L)(h:Dt L (a,b)):∃H,Sn H<|rem L a b:=by
 let m:=s.map;let#[R,D,ch]:=s.Fn;let#[F,b1,b2,x]:=h.back m;let o:=vO m h;let t:=zfH m h;let k:=vP m h;let l:=fP m h;let j:(br L a).erase b=[]↔nx L (b,a)=(a,b):=fP m #[F,b1,x];ext(⟨A,B,T,i,C,c,e⟩|⟨A,B,T,i,C,K,E,c,e,dd⟩:vR m h D);let#[I,M]:=s.span.more m h;refine#[I::S,o,M,_,i,?_];let q:A=[]↔nx L (a,b)=(b,a):=by
  constructor;ext z;rw[z]at c;exact c.nil_eq;ext z;cases A with
  | nil=>rfl
  | cons p A=>
   let f:=c.hd;let dt:Dt (Gm.rem L a b) p:=(i.mem p).mp<|EG.mpr #[p::A,by simp,AO];rw[f,z]at dt;exact absurd rfl ((bS m h).mp dt).2.2
 let v:B=[]↔nx L (b,a)=(a,b):=by
  constructor;ext z;rw[z]at e;exact e.nil_eq;ext z;cases B with
  | nil=>rfl
  | cons p B=>
   let f:=e.hd;let dt:Dt (Gm.rem L a b) p:=(i.mem p).mp<|EG.mpr #[p::B,by simp,AO];rw[f,z]at dt;exact absurd rfl ((bS m h).mp dt).2.1
 let u:∀A:List af,((if A=[]then []else [A]):List<|List af).z=if A=[]then 0 else 1:=λA=>by ext(z:A=[]);rw[Al z,Al z];rfl;rw[Ak z,Ak z];rfl
 let key:(if A=[]then 0 else 1)+(if(br L b).erase a=[]then 1 else 0)=1:=by ext(z:A=[]);rw[Al z,Al<|l.mpr<|q.mp z];rw[Ak z,Ak<|λy=>z<|q.mpr<|l.mp y]
 let G:(if B=[]then 0 else 1)+(if(br L a).erase b=[]then 1 else 0)=1:=by ext(z:B=[]);rw[Al z,Al<|j.mpr<|v.mp z];rw[Ak z,Ak<|λy=>z<|v.mpr<|j.mp y]
 rw[Ac,Ac,u,u,cX,k,Bq];rw[cX]at t;lia;let r:∀d∈A,Dt (Gm.rem L a b) d:=λd n=>dd d<|E9 _ n;let g:∀d∈B,Dt (Gm.rem L a b) d:=λd n=>dd d<|E8 _ n;refine#[S,o,s.span.U4 m h (e.reach g)<|c.reach r,_,i,?_];let w:¬(br L b).erase a=[]:=λz=>by
  cases A with
  | nil=>exact K rfl
  | cons p A=>
   let f:=c.hd;let dt:=r p AO;rw[f,l.mp z]at dt;exact((bS m h).mp dt).2.2 rfl
 let J:¬(br L a).erase b=[]:=λz=>by
  cases B with
  | nil=>exact E rfl
  | cons p B=>
   let dt:=g p AO;rw[e.hd,j.mp z]at dt;exact((bS m h).mp dt).2.1 rfl
 rw[Ak w,Ak J]at k;rw[Bq,cX,k];rw[cX]at t;lia
theorem zdn(m:ah L)(s:mG L S)(h:Dt L d):iso L+1<=S.z:=by
 let#[u,p,o]:=s d.1 h.lo h.hi;let t:∀x,Reach L u x->(br L u=[]->x=u):=λx r=>by
  induction r with
  | here=>exact λ_=>rfl
  | step r e b w=>
   rename_i i l y;ext z;let q:=Reach.sO e b;let:=w z;rw[<-this]at z;let:=q.mem;rw[z]at this;cases this
 let f:br L u≠[]:=λz=>by let:=t _ o z;let q:=h.mem;rw[this,z]at q;cases q
 let B:iso L=(((List.range L.z).filter λi:Nat=>(br L (i:Int)).isEmpty).map λi:Nat=>(i:Int)).z:=by
  rw[ZO,<-countP_eq_length_filter];unfold iso;let:L=(List.range L.z).map λi:Nat=>br L (i:Int):=by refine Gx λi=>?_;rw[AY];ext(z:i<L.z);let:=ag (L:=L) (a:=(i:Int)) () ();rw[EC]at this;rw[this,Fy z];rfl;rw[Eu (),Eu<|by simp;lia];rfl
  conv=>lhs;rw[this]
  rw[countP_map];rfl
 let C:(u::((List.range L.z).filter λi:Nat=>(br L (i:Int)).isEmpty).map λi:Nat=>(i:Int)).Nodup:=by refine EB.mpr #[λz=>?_,?_];let#[i,c,e]:=A3.mp z;let:=(ER.mp c).2;rw[e]at this;exact f<|List.isEmpty_iff.mp this;refine Gv _ (λx y n z=>n ())<|List.Pairwise.sublist Lo JK
 let:=cp C λx b=>by
  ext(z|z:AX.mp b);rw[z];exact p;let#[i,c,rfl]:=A3.mp z;let#[g,k]:=ER.mp c;let g:=Ad.mp g;let#[v,A,rv]:=s (i:Int) () ();let:(i:Int)=v:=by
   cases rv with
   | here=>rfl
   | step r e b=>
    let#[F,E,D,j]:=(Reach.sO e b).back m;rw[List.isEmpty_iff.mp k]at j;cases j
  erw[this,A]
 rwa[Bq,<-B]at this
def cnt(p:Nat->Bool)(m s:Nat):Nat:=((List.range m).filter λj=>p<|j+s).z
theorem zdy(b7:∀j,p (j+m)=p j)(s:Nat):cnt p m (s+1)=cnt p m s:=by
 let e1:((List.range<|m+1).filter λj=>p<|j+s).z=cnt p m s+(if p (m+s)then 1 else 0):=by rw[GI,Hi,Ac];unfold cnt;congr 1;cases h:p (m+s)<;>simp[h]
 let e2:((List.range<|m+1).filter λj=>p<|j+s).z=(if p s then 1 else 0)+cnt p m (s+1):=by
  rw[Kh,Jr,Jy];let a:((List.range m).filter<|(λj=>p<|j+s) ∘ Nat.succ)=(List.range m).filter λj=>p<|j+(s+1):=by congr 1;funext j;show p (j+1+s)=_;rw[show j+1+s=j+(s+1)by lia]
  rw[a];unfold cnt;cases h:p s<;>simp[h];lia
 let b:p (m+s)=p s:=Hh>>b7 s
 rw[b]at e1;lia
theorem xt{p:Nat->Bool}{m:Nat}(b7:∀j,p (j+m)=p j):∀s,cnt p m s=cnt p m 0
 | 0=>rfl
 | s+1=>by rw[zdy b7,xt b7 s]
theorem BR{p:Nat->Bool}{m:Nat}(b7:∀j,p (j+m)=p j){i:Nat}{l:List Nat}(g:l.Nodup)(h:∀x∈l,i<=x/\x<i+m/\p x=true):l.z<=cnt p m 0:=by
 rw[<-xt b7 i];unfold cnt;let:(l.map λx=>x-i).z<=((List.range m).filter λj=>p<|j+i).z:=by
  refine cp ?_ λy e=>?_;rw[Ig,K3];exact(Kk.mp g).imp_of_mem λ{a b} f d o=>by let:=h a f;let:=h b d;lia
  let#[x,k,rfl]:=A3.mp e;let#[q,n,c]:=h x k;erw[Gp,mem_range,show x-i+i=x by lia,#[(),c]]
 rwa[ZO]at this
def chg(g:Nat->Bool)(j:Nat):Bool:=g j != g (j+1)
def ch(g:Nat->Bool)(m:Nat):Nat:=cnt (chg g) m 0
theorem xx(b7:∀j,g (j+m)=g j)(j:Nat):chg g (j+m)=chg g j:=by unfold chg;rw[b7,show j+m+1=j+1+m by lia,b7]
theorem JN{g:Nat->Bool}{i:Nat}:∀{d:Nat},g i≠g (i+d)->∃x,i<=x/\x<i+d/\chg g x=true
 | 0,h=>absurd rfl h
 | d+1,h=>by ext(e:g i=g (i+d));refine#[i+d,(),(),?_];unfold chg;rw[bne_iff_ne];ext z;exact h<|e.trans z;let#[x,b,c,a]:=JN e;exact#[x,b,(),a]
theorem kQ(d:i<=j)(h:g i≠g j):∃x,i<=x/\x<j/\chg g x=true:=by let#[x,b,c,a]:=JN (by erw[show i+(j-i)=j by lia,h]);exact#[x,b,(),a]
theorem JO(b7:∀j,g (j+m)=g j)(d:i<m)(a:j<m)(h:g i≠g j):2<=ch g m:=by
 let key:∀{i j:Nat},i<j->j<m->g i≠g j->2<=ch g m:=λ{i j} e a h=>by let#[x,n,k,b]:=kQ (FE e) h;let#[y,o,q,f]:=kQ (g:=g) (i:=j) (j:=i+m) () (by erw[b7,λz=>h z.symm]);let:=BR (p:=chg g) (xx b7) (i:=i) (l:=[x,y]) (by simp;lia) (λz hz=>by ext(rfl|hz:AX.mp hz);exact#[(),(),b];erw[Ax.mp hz,#[(),(),f]]);exact this
 ext(c|c|c:HC i j);exact key c a h;rw[c]at h;exact absurd rfl h;exact key c d λz=>h z.symm
theorem xy(b7:∀j,g (j+m)=g j)(e:i<=j)(f:j<=k)(n:k<=l)(q:l<=i+m)(o:g i≠g j)(b:g j≠g k)(c:g k≠g l):3<=ch g m:=by let#[x,u,r,p]:=kQ e o;let#[y,t,v,d]:=kQ f b;let#[z,s,A,h]:=kQ n c;exact BR (xx b7) (i:=i) (l:=[x,y,z]) (by simp;lia) (λw a=>by simp only[BX,Bn,Bu]at a;ext(rfl|rfl|rfl:a);exact#[(),(),p];exact#[(),(),d];exact#[(),(),h])
def FP(κ:Int->Int)(d:af):Bool:=decide<|κ d.1<κ d.2
def Br(κ:Int->Int)(L:cq)(d:af):Bool:=FP κ d != FP κ (nx L d)
def rg(κ:Int->Int)(r:cc)(j:Nat):Bool:=FP κ<|dj r j
def vg(κ:Int->Int)(l:cc)(b:Int)(j:Nat):Bool:=decide<|κ (cy l j)<κ b
theorem kr(j:Nat):rg κ r (j+r.z)=rg κ r j:=by unfold rg;rw[aU<|show(j+r.z)%r.z=j%r.z from Aa _ _]
theorem Au(j:Nat):vg κ l b (j+l.z)=vg κ l b j:=by unfold vg;rw[aH<|show(j+l.z)%l.z=j%l.z from Aa _ _]
theorem zcq(g:Good L r):((sh 0 r).filter<|Br κ L).z=ch (rg κ r) r.z:=by unfold sh ch cnt;rw[Jy,ZO];congr 2;funext j;show Br κ L (dj r<|j+0)=chg (rg κ r) (j+0);unfold Br chg rg;rw[g.st]
theorem SK(l:cc)(p:Int->Bool):(l.filter p).z=cnt (λj=>p<|cy l j) l.z 0:=by
 let e:l=(List.range l.z).map λj=>cy l j:=IX A! λi a b=>by simp[a9 a]
 let:(l.filter p).z=(((List.range l.z).map λj=>cy l j).filter p).z:=by rw[<-e]
 rw[this,Jy,ZO];rfl
theorem UL(d:l.Nodup):(l.filter λa=>decide (κ a<κ b) != decide (κ (pre l a)<κ b)).z=ch (vg κ l b) l.z:=by ext(c|c:Nat.eq_zero_or_pos l.z);rw[List.length_eq_zero_iff.mp c];rfl;rw[SK,<-xt (λj=>by show(decide (κ (cy l<|j+l.z)<κ b) != decide (κ (pre l<|cy l<|j+l.z)<κ b))=_;rw[aH<|show(j+l.z)%l.z=j%l.z from Aa _ _]) 1];unfold ch cnt;congr 2;funext j;show(decide (κ (cy l<|j+1)<κ b) != decide (κ (pre l<|cy l<|j+1)<κ b))=chg (vg κ l b) (j+0);rw[ck d c];unfold chg vg;cases decide (κ (cy l j)<κ b)<;>cases decide (κ (cy l<|j+1)<κ b)<;>rfl
def Parts(L:cq)(κ:Int->Int):Prop:=∀d,Dt L d->κ d.1≠κ d.2
theorem SI(m:ah L)(a:Parts L κ)(h:Dt L d):(!Br κ L d)=(decide (κ d.1<κ d.2) != decide (κ (pre (br L d.2) d.1)<κ d.2)):=by
 unfold Br FP;show(!(decide (κ d.1<κ d.2) != decide (κ d.2<κ (pre (br L d.2) d.1))))=_;let e:κ d.2≠κ (pre (br L d.2) d.1):=a _<|h.nx m;let b:decide (κ (pre (br L d.2) d.1)<κ d.2)=!decide (κ d.2<κ (pre (br L d.2) d.1)):=by ext(c:κ d.2<κ (pre (br L d.2) d.1));rw[BG c,BQ ()];rfl;rw[BQ c,BG ()];rfl
 rw[b];cases decide (κ d.1<κ d.2)<;>cases decide (κ d.2<κ (pre (br L d.2) d.1))<;>rfl
theorem zdp(g:Good L r)(f:Parts L κ):2<=ch (rg κ r) r.z:=by
 let k:=g.two;let a:∀j,rg κ r j=true\/κ (cy r<|j+1)<κ (cy r j):=λj=>by let:=f _<|g.dt j;unfold rg FP;ext(c:κ (dj r j).1<κ (dj r j).2);exact .inl<|BG c;exact .inr (by let e1:(dj r j).1=cy r j:=rfl;let e2:(dj r j).2=cy r (j+1):=rfl;rw[e1,e2]at this c;lia)
 let wrap:∀s,cy r (s+r.z)=cy r s:=λs=>aH<|Aa _ _;let ex:∀b:Bool,∃j,j<r.z/\rg κ r j=b:=λb=>by
  apply BS;ext n;let all:∀j,rg κ r j=!b:=λj=>by
   let e:rg κ r (j%r.z)=rg κ r j:=by unfold rg;rw[aU<|EX _ _]
   rw[<-e];cases h:rg κ r (j%r.z)<;>cases b<;>first|rfl|exact absurd #[_,AK _ (),h] n
  cases b with
  | true=>
   let dn:∀d,κ (cy r<|d+1)<κ (cy r 0):=λd=>by
    induction d with
    | zero=>
     let:=(a 0).resolve_left (by rw[all];decide);exact this
    | succ d o=>
     let:=(a<|d+1).resolve_left (by rw[all];decide);lia
   let:=dn<|r.z-1;rw[show r.z-1+1=0+r.z by lia,wrap]at this;lia
  | false=>
   let up:∀d,κ (cy r 0)<κ (cy r<|d+1):=λd=>by
    let st:∀j,κ (cy r j)<κ (cy r<|j+1):=λj=>by let:=all j;unfold rg FP at this;exact Eb this
    induction d with
    | zero=>exact st 0
    | succ d o=>have:=st<|d+1;lia
   let:=up<|r.z-1;rw[show r.z-1+1=0+r.z by lia,wrap]at this;lia
 let#[i,l,q]:=ex true;let#[j,p,m]:=ex false;exact JO kr l p (by rw[q,m];decide)
theorem rq{p:af->Bool}:∀{R:List<|List af},(∀c∈R,2<=(c.filter p).z)->2*R.z<=(R.flatten.filter p).z
 | [],_=>Bv _
 | c::R,h=>by let d:=h c AO;let b:=rq λe a=>h e<|A7 _ a;rw[Fc,Hi,Ac,Bq];lia
theorem zR{p:af->Bool}:∀{R:List<|List af} {a:List af},(∀c∈R,2<=(c.filter p).z)->a∈R->3<=(a.filter p).z->2*R.z+1<=(R.flatten.filter p).z
 | [],_,_,h,_=>by simp at h
 | c::R,a,h,d,h3=>by let g:=h c AO;rw[Fc,Hi,Ac,Bq];ext(rfl|d:AX.mp d);let f:=rq λe b=>h e<|A7 _ b;lia;let f:=zR (λe b=>h e<|A7 _ b) d h3;lia
def cv(L:cq)(κ:Int->Int)(b:Int):Nat:=ch (vg κ (br L b) b) (br L b).z
theorem Q1(m:ah L)(c:Parts L κ)(e:k<L.z):((br L (k:Int)).filter λa=>!Br κ L (a,(k:Int))).z=cv L κ (k:Int):=by unfold cv;rw[<-UL (m.nd _ _<|ag (a:=(k:Int)) () ())];congr 1;refine filter_congr λa b=>?_;let bk:=Dt.back (d:=((k:Int),a)) #[(),(),b] m;exact SI m c #[bk.1,bk.2.1,bk.2.2.2]
def sm(c:Nat->Nat):Nat->Nat
 | 0=>0
 | k+1=>sm c k+c k
theorem Cr{c:Nat->Nat}{b:Nat}(a:1<=c b):∀k,sm c k=sm (λj=>if j=b then c j-1 else c j) k+(if b<k then 1 else 0)
 | 0=>rfl
 | k+1=>by show sm c k+c k=sm (λj=>if j=b then c j-1 else c j) k+(if k=b then c k-1 else c k)+(if b<k+1 then 1 else 0);rw[Cr a k];ext(e:k=b);subst e;rw[Al rfl,Ak<|EK _,Al<|G7 _];lia;rw[Ak e];ext(q:b<k);rw[Al q,Al ()];lia;rw[Ak q,Ak ()];lia
def i1(e:Int)(k:Nat):Nat:=if 0<=e/\e<(k:Int)then 1 else 0
theorem Pb(e:Int)(k:Nat):i1 e k<=i1 e (k+1):=by unfold i1;ext(h:0<=e/\e<(k:Int));rw[Al h,Al #[h.1,()]];exact Xx _;erw[Ak h,Bv _]
theorem Pc{e:Int}{k:Nat}(h:(k:Int)=e):i1 e (k+1)=i1 e k+1:=by let a:i1 e (k+1)=1:=Al #[(),()];let b:i1 e k=0:=Ak<|λz=>();lia
theorem wI(e:Int)(k:Nat):i1 e k<=1:=by unfold i1;split;exact Xx _;exact Bv _
theorem qc(m:ah L)(a:Parts L κ):∀k,k<=L.z->((cT L k).filter λe=>!Br κ L (e.2,e.1)).z=sm (λj:Nat=>cv L κ (j:Int)) k
 | 0,_=>rfl
 | k+1,hk=>by rw[cT,Hi,Ac,Jy,ZO,qc m a k ()];show _=sm (λj:Nat=>cv L κ (j:Int)) k+cv L κ (k:Int);rw[<-Q1 m a ()];rfl
theorem vI{c:Nat->Nat}{e1 e2:Int}(g:∀j:Nat,j<L.z->br L (j:Int)≠[]->(j:Int)≠e1->(j:Int)≠e2->2<=c j) :
  ∀k,k<=L.z->2*k<=sm c k+2*(L.take k).countP (·.isEmpty)+2*i1 e1 k+2*i1 e2 k
 | 0,_=>Bv _
 | k+1,hk=>by
  let m:=vI g k ();let b:L[k]?=some (br L (k:Int)):=by let:=ag (L:=L) (a:=(k:Int)) () ();rwa [EC]at this
  let d:(L.take<|k+1).countP (·.isEmpty)=(L.take k).countP (·.isEmpty)+(if br L (k:Int)=[]then 1 else 0):=by rw[take_add_one,b,countP_append];congr 1;cases h:br L (k:Int)<;>simp
  let i:sm c (k+1)=sm c k+c k:=rfl;let l:=Pb e1 k;let n:=Pb e2 k;rw[d,i];ext(z:br L (k:Int)=[]);rw[Al z];lia;rw[Ak z];ext(f:(k:Int)=e1);let:=Pc f;lia;ext(e:(k:Int)=e2);let:=Pc e;lia;let:=g k () z f e;lia
theorem zcu(m:ah L):((cT L L.z).map λe=>((e.2,e.1):af)).Perm<|cT L L.z:=by
 let g:=aZ m<|Xx L.z;let i:((cT L L.z).map λe=>((e.2,e.1):af)).Nodup:=by erw[Ig,K3,(Kk.mp g).imp λ{a b} j z=>j<|by rcases a with⟨n,l⟩;rcases b with⟨b1,b2⟩;injection z with c f;dsimp only at c f;rw[c,f]]
 rw[N5 i g];ext d;constructor;ext h;let#[e,k,rfl]:=A3.mp h;let:=(Dt.of k).back m;exact Dt.all #[this.1,this.2.1,this.2.2.2];ext h;let:=(Dt.of h).back m;exact A3.mpr #[(d.2,d.1),Dt.all #[this.1,this.2.1,this.2.2.2],rfl]
theorem CU(s:Sn S L)(J:Dt L d0)(r:Parts L κ)(O:∀b:Int,0<=b->b<L.z->br L b≠[]->b≠e1->b≠e2->(∃x∈br L b,κ x<κ b)/\∃y∈br L b,κ b<κ y) :
  (∀R,Dec L R->∀c∈R,ch (rg κ<|c.map (·.1)) (c.map (·.1)).z<=2)/\(∀b:Int,0<=b->b<L.z->b≠e1->b≠e2->cv L κ b<=2):=by
 let m:=s.map;let#[w,v,W]:=s.Fn;let Q:=zdn m s.span J;let half:=bK m;let K:=rA (cT L L.z)<|Br κ L;let H:((cT L L.z).filter λd=>!Br κ L d).z=((cT L L.z).filter λe=>!Br κ L (e.2,e.1)).z:=by rw[<-((zcu m).filter λd=>!Br κ L d).length_eq,Jy,ZO];rfl
 let fsum:∀R,Dec L R->((cT L L.z).filter<|Br κ L).z=(R.flatten.filter<|Br κ L).z:=λR D=>by
  let:(cT L L.z).Perm R.flatten:=by erw[N5 (aZ m<|Xx L.z) D.nd,λd=>#[λh=>(D.mem d).mpr<|Dt.of h,λh=>((D.mem d).mp h).all]]
  exact(this.filter _).length_eq
 let A:∀R,Dec L R->∀c∈R,(c.filter<|Br κ L).z=ch (rg κ<|c.map (·.1)) (c.map (·.1)).z:=λR D c a=>by let#[g,e,_]:=D.good m a;rw[<-zcq g,e]
 let G:∀R,Dec L R->∀c∈R,2<=(c.filter<|Br κ L).z:=λR D c a=>A R D c a>>zdp (D.good m a).1 r
 let C:∀b:Int,0<=b->b<L.z->br L b≠[]->b≠e1->b≠e2->2<=cv L κ b:=λb t b1 o f n=>by let#[#[x,T,N],y,M,U]:=O b t b1 o f n;let#[i,E,rfl]:=Ib T;let#[j,k,rfl]:=Ib M;refine JO Au E k ?_;unfold vg;rw[a9 E,a9 k,BG N,BQ ()];decide
 let B:(L.take L.z).countP (·.isEmpty)=iso L:=by rw[F6];rfl
 constructor;ext R D c a;apply BS;ext F;let g:=zR (G R D) a (by rw[A R D c a];lia);let q:=vI (λj k o f n=>C (j:Int) () () o f n) L.z<|Xx _;rw[B,<-qc m r _ (Xx _)]at q;let:=fsum R D;let:=D.count v;let:=wI e1 L.z;let:=wI e2 L.z;lia;ext b t b1 f n;apply BS;ext F;let o:br L b≠[]:=λz=>by apply F;unfold cv;erw[z,Bv _]
 let g:=rq<|G w v;let#[p,rfl]:=FH t;let q:=vI (λj k u I P=>by show 2<=if j=p then cv L κ (j:Int)-1 else cv L κ (j:Int);ext(z:j=p);rw[Al z,z];lia;erw[Ak z,C (j:Int) () () u I P]) L.z<|Xx _;let l:=Cr (c:=λj:Nat=>cv L κ (j:Int)) (b:=p) (by show 1<=cv L κ (p:Int);lia) L.z;rw[Al (),<-qc m r _ (Xx _)]at l;rw[B]at q;let:=fsum w v;let:=wI e1 L.z;let:=wI e2 L.z;lia
theorem nM{p:Int->Bool}{z:Int}(hz:p z=false):∀l:cc,(l.erase z).filter p=l.filter p
 | []=>rfl
 | x::l=>by ext(e:x=z);subst e;rw[KN,LO<|by rw[hz];decide];rw[erase_cons_tail (~~~e),Jr,Jr,nM hz l]
theorem zz{keep:Int->Int->Bool}(o:∀x y,keep x y=keep y x):∀(N:Nat) {L:cq} {S:cc},Sn S L->((cT L L.z).filter λd=>!keep d.1 d.2).z<=N->
  ∃M m,Sn m M/\M.z=L.z/\∀x:Int,0<=x->x<L.z->br M x=(br L x).filter (keep x)
 | N,L,S,s,h=>by
  ext(ex:∃d,Dt L d/\keep d.1 d.2=false);let#[#[a,b],k,c]:=ex;let c:=c;let#[m,t]:=s.rem k;let#[p,_]:=kZ s.map k;let e:=(p.filter λd=>!keep d.1 d.2).length_eq;let n:keep b a=false:=o>>c
  rw[K6 (by simp[c]),K6 (by simp[n]),Bq,Bq]at e
  match N,h with
  | 0,h=>lia
  | N+1,h=>
   let#[M,T,r,l,u]:=zz o N t ();refine#[M,T,r,by rw[l,cX],λx f j=>?_];rw[u x f (cX>>j),oP s.map k f];ext(g:x=b);rw[Al g,g,nM n];rw[Ak g];ext(i:x=a);rw[Al i,i,nM c];rw[Ak i]
  refine#[L,S,s,rfl,λx f j=>?_];rw[eq_comm,filter_eq_self];ext y q;cases h:keep x y with
  | true=>rfl
  | false=>exact absurd #[(x,y),#[f,j,q],h] ex
structure Ht(L:cq)(F:Int->Int)(t1 t2 s1 s2:Int):Prop where
 tg:b8 L
 sj:0<=t1/\t1<L.z
 Xr:0<=t2/\t2<L.z
 QU:0<=s1/\s1<L.z
 Yl:0<=s2/\s2<L.z
 te:F t2=F t1
 se:F s2=F s1
 tt:t1=t2\/t2∈br L t1
 ss:s1=s2\/s2∈br L s1
 lt:F s1<F t1
 top:∀v:Int,0<=v->v<L.z->F v<F t1\/v=t1\/v=t2
 bot:∀v:Int,0<=v->v<L.z->F s1<F v\/v=s1\/v=s2
 mid:∀v:Int,0<=v->v<L.z->F s1<F v->F v<F t1->(∀w∈br L v,F w=F v)\/((∃x∈br L v,F x<F v)/\∃y∈br L v,F v<F y)
theorem Ht.neg(H:Ht L F t1 t2 s1 s2):Ht L (λv=>- F v) s1 s2 t1 t2:=by
 refine#[H.tg,H.QU,H.Yl,H.sj,H.Xr,by rw[H.se],by rw[H.te],H.ss,H.tt,by let:=H.lt;lia,λv a b=>(H.bot v a b).imp_left λh=>(),λv a b=>(H.top v a b).imp_left λh=>(),λv a b g f=>?_];ext(h|⟨⟨x,e,ex⟩,y,c,i⟩:H.mid v a b () ());exact .inl λw d=>by rw[h w d]
 exact .inr #[#[y,c,()],x,e,()]
def xT(L:cq)(F:Int->Int)(x:Int):Prop:=0<=x/\x<L.z/\∀w∈br L x,F w=F x
theorem b8.other(t:b8 L){x y:Int}(b:0<=x)(a:x<L.z):∃w∈br L x,w≠y:=by
 let d:=t.An b a;apply BS;ext c;let:∀w∈br L x,w∈[y]:=λw f=>by ext(e:w=y);rw[e];exact Ax.mpr rfl;exact absurd #[w,f,e] c
 let:=cp (t.map.nd _ _<|ag b a) this;simp at this;lia
theorem Ht.cS(H:Ht L F t1 t2 s1 s2)(g:v=t1\/v=t2):∃w∈br L v,F w<F t1:=by
 let a:0<=v/\v<L.z:=by ext(rfl|rfl:g);exact H.sj;exact H.Xr
 let#[w,f,b]:=H.tg.other (y:=if v=t1 then t2 else t1) a.1 a.2;let bk:=Dt.back (d:=(v,w)) #[a.1,a.2,f] H.tg.map;refine#[w,f,?_];let c:w≠v:=bk.2.2.1;ext(h|h|h:H.top w bk.1 bk.2.1);exact h;exfalso;ext(e:v=t1);exact c<|h.trans e.symm;rw[Ak e]at b;exact b h;exfalso;ext(e:v=t1);rw[Al e]at b;exact b h;exact c<|h.trans (g.resolve_left e).symm
theorem Ht.uT(H:Ht L F t1 t2 s1 s2)(a:xT L F u):F s1<F u/\F u<F t1:=by
 constructor;ext(h|h:H.bot u a.1 a.2.1);exact h;exfalso;let#[w,b,e]:=H.neg.cS h;let:=a.2.2 w b;let c:F u=F s1:=by ext(rfl|rfl:h);rfl;exact H.se
 lia;ext(h|h:H.top u a.1 a.2.1);exact h;exfalso;let#[w,b,e]:=H.cS h;let:=a.2.2 w b;let c:F u=F t1:=by ext(rfl|rfl:h);rfl;exact H.te
 lia
inductive Vr(L:cq)(F:Int->Int)(u:Int):Int->Prop where
 | here:Vr L F u u
 | step {x y:Int}:Vr L F u x->y∈br L x->xT L F y->Vr L F u y
theorem Vr.Ai(a:xT L F u)(h:Vr L F u x):xT L F x:=by cases h with|here=>exact a|step _ _ h=>exact h
theorem Vr.EO(b:xT L F u)(h:Vr L F u x):F x=F u:=by
 induction h with
 | here=>rfl
 | step h a _ c=>rw[(h.Ai b).2.2 _ a,c]
theorem Vr.trans(h:Vr L F u x)(k:Vr L F x y):Vr L F u y:=by
 induction k with
 | here=>exact h
 | step _ b a c=>exact .step c b a
theorem Vr.symm(m:ah L)(e:xT L F u)(h:Vr L F u x):Vr L F x u:=by
 induction h with
 | here=>exact .here
 | step h b f c=>
  rename_i x y;let a:=h.Ai e;exact Vr.trans (.step .here (Dt.back (d:=(x,y)) #[a.1,a.2.1,b] m).2.2.2 a) c
theorem CY{α:Type}{l:List α}{x:α}(h:l.Nodup)(d:x∉l):(l++[x]).Nodup:=J1>>#[h,by simp,λa c b e=>by erw[Ax.mp e,λz=>d<|z▸c]]
structure Way(L:cq)(Q:cc):Prop where
 nd:Q.Nodup
 st:∀(k:Nat) (a b:Int),Q[k]?=some a->Q[k+1]?=some b->b∈br L a
theorem Way.snoc(h:Way L Q)(f:Q.getLast?=some x)(g:y∈br L x)(j:y∉Q):Way L<|Q++[y]:=by
 let l:0<Q.z:=by cases Q with|nil=>simp at f|cons _ _=>simp
 refine#[CY h.nd j,λk a b e d=>?_];rw[Mp]at f;ext(c:k+1<Q.z);rw[Eh ()]at e;rw[Eh c]at d;exact h.st k a b e d;let i:k+1=Q.z:=by let:=(AA.mp d).1;rw[Ac]at this;simp at this;lia
 rw[Eh (),show k=Q.z-1 by lia,f]at e;rw[Fg (),i,L8]at d;cases e;cases d;exact g
theorem Vr.path(m:ah L)(o:xT L F u)(h:Vr L F u x):∃Q,Way L Q/\Q.head?=some u/\Q.getLast?=some x/\∀q∈Q,xT L F q:=by
 induction h with
 | here=>exact#[[u],#[by simp,λk a b g d=>by simp at d],rfl,rfl,λq e=>Ax.mp e>>o]
 | step h p r t=>
  rename_i x y;let#[Q,w,f,l,i]:=t;ext(c:y∈Q);let#[A,B,rfl]:=K2 c;let sub:(A++[y]).Sublist<|A++y::B:=List.Sublist.append (List.Sublist.refl _)<|List.Sublist.cons_cons _<|nil_sublist _;let j:∀k,k<(A++[y]).z->(A++[y])[k]?=(A++y::B)[k]?:=λk n=>by rw[show A++y::B=(A++[y])++B by simp,Eh n]
  refine#[A++[y],#[w.nd.sublist sub,λk a b g d=>?_],?_,by simp,λq e=>i q<|sub.subset e];let s:=(AA.mp d).1;rw[j _ ()]at g;rw[j _ s]at d;exact w.st k a b g d;cases A with
  | nil=>simpa using f
  | cons a A=>simpa using f
  refine#[Q++[y],w.snoc l p c,?_,by simp,λq e=>?_];cases Q with
  | nil=>simp at f
  | cons a A=>simpa using f
  ext(z|z:Af.mp e);exact i q z;erw[Ax.mp z,r]
def key(F h:Int->Int)(W:Int)(v:Int):Int:=F v*W+h v
theorem fj(b:0<=h x/\h x<W)(a:0<=h y/\h y<W)(e:F x<F y):key F h W x<key F h W y:=by unfold key;let:(F x+1)*W<=F y*W:=LZ () ();rw[Int.add_mul]at this;lia
theorem eh(e:F x=F y):key F h W x<key F h W y↔h x<h y:=by unfold key;rw[e];lia
theorem key_ne(b:0<=h x/\h x<W)(a:0<=h y/\h y<W)(e:F x≠F y\/h x≠h y):key F h W x≠key F h W y:=by ext(c|c|c:LN (F x)<|F y);let:=fj b a c;lia;let:=e.resolve_left<|λz=>z c;unfold key;rw[c];lia;let:=fj a b c;lia
def n9(F:Int->Int)(b t2 a s2:Int)(P:cc)(x y:Int):Bool:=
 decide (F x≠F y\/((x=b\/x=t2)/\(y=b\/y=t2))\/((x=a\/x=s2)/\(y=a\/y=s2))\/(x∈P/\y∈P/\(P.idxOf x+1=P.idxOf y\/P.idxOf y+1=P.idxOf x)))
theorem zek(x y:Int):n9 F t1 t2 s1 s2 P x y=n9 F t1 t2 s1 s2 P y x:=by unfold n9;rw[KU];constructor;rintro (h|h|h|⟨h1,h2,h3⟩);exact .inl<|A6 h;exact .inr<|.inl h.symm;exact .inr<|.inr<|.inl h.symm;exact .inr<|.inr<|.inr #[h2,h1,h3.symm];rintro (h|h|h|⟨h1,h2,h3⟩);exact .inl<|A6 h;exact .inr<|.inl h.symm;exact .inr<|.inr<|.inl h.symm;exact .inr<|.inr<|.inr #[h2,h1,h3.symm]
def oY(n:Nat)(t2 s2:Int)(P:cc)(a:Bool)(v:Int):Int:=if v∈P then(if a then(P.idxOf v:Int)else(n:Int)-(P.idxOf v:Int))else if v=t2\/v=s2 then 1 else 0
theorem cM{P:cc}(c:P.Nodup){k:Nat}{a:Int}(h:P[k]?=some a):P.idxOf a=k:=by let#[b,e]:=AA.mp h;erw[<-e,Bf c b]
theorem jb{P:cc}{a:Int}(h:a∈P):P[P.idxOf a]?=some a:=by let:=Ci h;rw[me this,Ex this]
structure PZ(L:cq)(F:Int->Int)(t1 s1 c:Int)(P:cc):Prop where
 way:Way L P
 pl:∀q∈P,0<=q/\q<L.z/\F q=c
 lo:F s1<c
 hi:c<F t1
 en:∀(k:Nat) (a:Int),P[k]?=some a->xT L F a->0<k/\k+1<P.z
theorem PZ.len(p:PZ L F t1 s1 c P):P.z<=L.z:=cZ p.way.nd λx a=>#[(p.pl x a).1,(p.pl x a).2.1]
theorem PZ.off(H:Ht L F t1 t2 s1 s2)(p:PZ L F t1 s1 c P)(h:F q=c):q≠t1/\q≠t2/\q≠s1/\q≠s2:=by let:=p.lo;let:=p.hi;let:=H.te;let:=H.se;exact#[λz=>by rw[z]at h;lia,λz=>by rw[z]at h;lia,λz=>by rw[z]at h;lia,λz=>by rw[z]at h;lia]
theorem IT(p:PZ L F t1 s1 c P)(a:Bool)(v:Int):0<=oY L.z t2 s2 P a v/\oY L.z t2 s2 P a v<(L.z:Int)+2:=by let:=p.len;unfold oY;ext(h:v∈P);let:=Ci h;rw[Al h];cases a;rw[Ak A?];lia;rw[Al rfl];lia;rw[Ak h];split<;>lia
theorem nE{c:Int}(p:PZ L F t1 s1 c P)(a:Bool){k:Nat}{v:Int}(h:P[k]?=some v):oY L.z t2 s2 P a v=if a then(k:Int)else(L.z:Int)-k:=by unfold oY;rw[Al<|A5 h,cM p.way.nd h]
theorem Ht.sub(H:Ht L F t1 t2 s1 s2)(p:PZ L F t1 s1 c P)(a:Bool):∃M W,Sn W M/\M.z=L.z/\(∀x:Int,0<=x->x<L.z->br M x=(br L x).filter (n9 F t1 t2 s1 s2 P x))/\
  Parts M (key F (oY L.z t2 s2 P a)<|(L.z:Int)+2)/\
  (∀R,Dec M R->∀e∈R,ch (rg (key F (oY L.z t2 s2 P a)<|(L.z:Int)+2)<|e.map (·.1)) (e.map (·.1)).z<=2)/\
  (∀b:Int,0<=b->b<L.z->b≠t2->b≠s1->cv M (key F (oY L.z t2 s2 P a)<|(L.z:Int)+2) b<=2):=by
 let m:=H.tg.map;let#[M,W,sn,G,rows]:=zz (keep:=n9 F t1 t2 s1 s2 P) zek _ H.tg.bM.sn<|Xx _;let i:=IT (t2:=t2) (s2:=s2) p a;let mem:∀{x y:Int},0<=x->x<L.z->(y∈br M x↔y∈br L x/\n9 F t1 t2 s1 s2 P x y=true):=λ{x y} l g=>by rw[rows x l g,Gp]
 let up:∀{x y:Int},0<=x->x<L.z->y∈br L x->F x≠F y->y∈br M x:=λ{x y} l g n e=>(mem l g).mpr #[n,BG<|.inl e];let ne:∀{x y:Int},0<=x->x<L.z->y∈br M x->F x=F y->((x=t1/\y=t2)\/(x=t2/\y=t1))\/((x=s1/\y=s2)\/(x=s2/\y=s1))\/(x∈P/\y∈P/\(P.idxOf x+1=P.idxOf y\/P.idxOf y+1=P.idxOf x)):=λ{x y} l g n e=>by let#[A,S]:=(mem l g).mp n;let bk:=(Dt.back (d:=(x,y)) #[l,g,A] m).2.2.1;let bk:y≠x:=bk;ext(h|⟨h,k⟩|⟨h,k⟩|h:Eb S);exact absurd e h;left;ext(h|h:h)<;>ext(k|k:k);exact absurd (k.trans h.symm) bk;exact .inl #[h,k];exact .inr #[h,k];exact absurd (k.trans h.symm) bk;right;left;ext(h|h:h)<;>ext(k|k:k);exact absurd (k.trans h.symm) bk;exact .inl #[h,k];exact .inr #[h,k];exact absurd (k.trans h.symm) bk;exact .inr<|.inr h
 let pt:∀{v:Int},F v=F t1\/F v=F s1->v∉P:=λ{v} h z=>by let:=(p.pl v z).2.2;let:=p.lo;let:=p.hi;lia
 let Q:t1≠t2->oY L.z t2 s2 P a t1=0:=λh=>by unfold oY;rw[Ak<|pt<|.inl rfl,Ak];rintro (z|z);exact h z;let:=H.se;let:=H.lt;rw[z]at this;lia
 let X:oY L.z t2 s2 P a t2=1:=by unfold oY;rw[Ak<|pt<|.inl H.te,Al<|.inl rfl]
 let Y:s1≠s2->oY L.z t2 s2 P a s1=0:=λh=>by unfold oY;rw[Ak<|pt<|.inr rfl,Ak];rintro (z|z);let:=H.te;let:=H.lt;rw[z]at this;lia;exact h z
 let T:oY L.z t2 s2 P a s2=1:=by unfold oY;rw[Ak<|pt<|.inr H.se,Al<|.inr rfl]
 let parts:Parts M<|key F (oY L.z t2 s2 P a)<|(L.z:Int)+2:=λd N=>by let l:=N.lo;let g:=N.hi;rw[G]at g;let bk:=(Dt.back (d:=d) #[l,g,((mem l g).mp N.mem).1] m).2.2.1;refine key_ne (i _) (i _) ?_;ext(e:F d.1=F d.2);right;ext((⟨h,k⟩|⟨h,k⟩) | (⟨h,k⟩|⟨h,k⟩) | ⟨A,S,h3⟩:ne l g N.mem e);rw[h,k]at bk ⊢;rw[Q<|A6 bk,X];decide;rw[h,k]at bk ⊢;rw[Q bk,X];decide;rw[h,k]at bk ⊢;rw[Y<|A6 bk,T];decide;rw[h,k]at bk ⊢;rw[Y bk,T];decide;rw[nE p a<|jb A,nE p a<|jb S];cases a;rw[Ak A?,Ak A?];lia;rw[Al rfl,Al rfl];lia;exact .inl e
 let rX:∀b:Int,0<=b->b<M.z->br M b≠[]->b≠t2->b≠s1->(∃x∈br M b,key F (oY L.z t2 s2 P a) ((L.z:Int)+2) x<key F (oY L.z t2 s2 P a) ((L.z:Int)+2) b)/\∃y∈br M b,key F (oY L.z t2 s2 P a) ((L.z:Int)+2) b<key F (oY L.z t2 s2 P a) ((L.z:Int)+2) y:=λb f b1 nb q t=>by
  rw[G]at b1;ext(r|r|r:H.top b f b1);ext(u|u|u:H.bot b f b1);ext(Ai|⟨⟨x,hx,ex⟩,y,n,ey⟩:H.mid b f b1 u r);let#[y,n]:=Mr _ nb;let D:b∈P:=by ext((⟨h,_⟩|⟨h,_⟩) | (⟨h,_⟩|⟨h,_⟩) | ⟨A,_,_⟩:ne f b1 n (Ai y<|((mem f b1).mp n).1).symm);rw[h]at r;lia;exact absurd h q;exact absurd h t;rw[h,H.se]at u;lia;exact A
  let#[k0,k1]:=p.en _ b (jb D) #[f,b1,Ai];let K:=jb D;generalize B:P.idxOf b=k at k0 k1 K;obtain⟨k,rfl⟩:∃j,k=j+1:=#[k-1,()];let C:P[k]?=some P[k]:=me ();let I:P[k+1+1]?=some P[k+1+1]:=me ();let Z:=p.pl _<|A5 C;let pc:=p.pl _<|A5 I;let pb:=p.pl _ D;let U:=(Dt.back (d:=(P[k],b)) #[Z.1,Z.2.1,p.way.st k _ _ C K] m).2.2.2;let ma:P[k]∈br M b:=(mem f b1).mpr #[U,BG<|.inr<|.inr<|.inr #[D,A5 C,by erw[B,cM p.way.nd C,.inr rfl]]];let mc:P[k+1+1]∈br M b:=(mem f b1).mpr #[p.way.st (k+1) _ _ K I,BG<|.inr<|.inr<|.inr #[D,A5 I,by erw[B,cM p.way.nd I,.inl rfl]]];let O:=nE (t2:=t2) (s2:=s2) p a C;let s:=nE (t2:=t2) (s2:=s2) p a K;let J:=nE (t2:=t2) (s2:=s2) p a I;cases a;rw[Ak A?]at O s J;refine#[#[_,mc,(eh ()).mpr<|by rw[s,J];lia],_,ma,(eh ()).mpr<|by rw[O,s];lia];rw[Al rfl]at O s J;refine#[#[_,ma,(eh ()).mpr<|by rw[O,s];lia],_,mc,(eh ()).mpr<|by rw[s,J];lia];exact#[#[x,up f b1 hx (),fj (i _) (i _) ex],y,up f b1 n (),fj (i _) (i _) ey];exact absurd u t
  
  subst u;let#[w,E,o]:=H.neg.cS (v:=b)<|.inr rfl;let o:F s1<F w:=();let sm:b∈br L s1:=H.ss.resolve_left<|A6 t;let se:=H.se;refine#[#[s1,(mem f b1).mpr #[(Dt.back (d:=(s1,b)) #[H.QU.1,H.QU.2,sm] m).2.2.2,BG<|.inr<|.inr<|.inl #[.inr rfl,.inl rfl]],(eh H.se.symm).mpr<|by rw[Y<|A6 t,T];decide],w,up f b1 E (),fj (i _) (i _) ()]
  
  subst r;let#[w,E,o]:=H.cS (v:=b)<|.inl rfl;exact#[#[w,up f b1 E (λz=>by rw[z]at o;exact absurd o<|Int.lt_irrefl _),fj (i _) (i _) o],t2,(mem f b1).mpr #[H.tt.resolve_left q,BG<|.inr<|.inl #[.inl rfl,.inr rfl]],(eh H.te.symm).mpr<|by rw[Q q,X];decide];exact absurd r q
 let#[w,E,o]:=H.cS (v:=t1)<|.inl rfl;let dw:Dt M (t1,w):=#[H.sj.1,G>>H.sj.2,up H.sj.1 H.sj.2 E<|Int.ne_of_gt o];let#[q1,q2]:=CU sn dw parts (e1:=t2) (e2:=s1) rX;exact#[M,W,sn,G,rows,parts,q1,λb f b1 q t=>q2 b f (G>>b1) q t]
theorem vJ(G:l.Nodup)(n:w∈l)(hz:z∈l)(u:z≠w)(D:ch (vg κ l b) l.z<=2)(s:Bool)(p:decide (κ w<κ b)=s)(q:decide (κ (pre l w)<κ b)=!s)(v:decide (κ (cy l<|l.idxOf w+1)<κ b)=!s)(h:decide (κ z<κ b)=s):False:=by
 let B:0<l.z:=Fp n;let A:=Ci n;let y:=Ci hz;let f:∀{x:Int},x∈l->cy l (l.idxOf x)=x:=λ{x} q=>by let:=Ci q;rw[a9 this,Ex this]
 let C:l.idxOf z≠l.idxOf w:=λe=>u (by rw[<-f hz,<-f n,e]);let m:∀{a:Bool},a≠!a:=λ{a}=>by cases a<;>decide
 let t:vg κ l b (l.idxOf w)=s:=by unfold vg;erw[f n,p]
 let o:vg κ l b (l.idxOf w+1)=!s:=v;let r:vg κ l b (l.idxOf w+l.z-1)=!s:=by let e:cy l (l.idxOf w+l.z-1)=pre l w:=rfl;unfold vg;erw[e,q]
 obtain⟨k,E,F,d⟩:∃k,l.idxOf w<k/\k<l.idxOf w+l.z/\vg κ l b k=s:=by ext(c:l.idxOf w<l.idxOf z);exact#[l.idxOf z,c,(),by unfold vg;erw[f hz,h]];exact#[l.idxOf z+l.z,(),(),by unfold vg;erw[λj=>aH<|Aa _ _,f hz,h]]
 let I:k≠l.idxOf w+1:=λe=>by rw[e,o]at d;exact m d.symm
 let H:k≠l.idxOf w+l.z-1:=λe=>by rw[e,r]at d;exact m d.symm
 let:=xy (g:=vg κ l b) Au (i:=l.idxOf w) (j:=l.idxOf w+1) (k:=k) (l:=l.idxOf w+l.z-1) () () () () (t>>o>>m) (by erw[o,d,λz=>m z.symm]) (d>>r>>m);lia
theorem zcc(g:l.Nodup)(c:a∈l)(d:b∈l)(f:a≠b)(h:∀y∈l,y=a\/y=b):pre l a=b:=by ext(e|e:h _<|hJ c);rw[eX g c e]at d;exact absurd (Ax.mp d).symm f;exact e
theorem mD{f:Nat->Int}{s:Nat}:∀{d:Nat},f (s+d)<f s->∃t,s<=t/\t<s+d/\f (t+1)<f t
 | 0,h=>absurd h<|Int.lt_irrefl _
 | d+1,h=>by ext(c:f (s+d)<f s);let#[t,b,e,a]:=mD c;exact#[t,b,(),a];exact#[s+d,(),(),by rw[show s+d+1=s+(d+1)by lia];lia]
def xO(F:Int->Int)(l:cc)(v w:Int):cc:=l.filter λy=>decide<|F y≠F v\/y=w
structure gP(L:cq)(F:Int->Int)(v w:Int):Prop where
 pl:0<=v/\v<L.z
 nv:¬xT L F v
 mem:w∈br L v
 Ai:xT L F w
theorem gP.EO(m:ah L)(e:gP L F v w):F v=F w:=by exact e.Ai.2.2 v<|(Dt.back (d:=(v,w)) #[e.pl.1,e.pl.2,e.mem] m).2.2.2
theorem Ht.both(H:Ht L F t1 t2 s1 s2)(e:gP L F v w):(∃x∈br L v,F x<F v)/\∃y∈br L v,F v<F y:=by let b:=e.EO H.tg.map;let a:=H.uT e.Ai;ext(h|h:H.mid v e.pl.1 e.pl.2 () ());exact absurd #[e.pl.1,e.pl.2,h] e.nv;exact h
theorem gP.rw_mem:y∈xO F (br L v) v w↔y∈br L v/\(F y≠F v\/y=w):=by unfold xO;rw[Gp,Jk]
theorem zdx(H:Ht L F t1 t2 s1 s2)(e:gP L F v w)(h:gP L F v' w')(t:v≠v')(l:Way L Q)(y:Q.head?=some w)(p:Q.getLast?=some w')(i:∀q∈Q,xT L F q/\F q=F v)(A:F v'=F v) :
  PZ L F t1 s1 (F v) (v::(Q++[v'])):=by
 let m:=H.tg.map;let o:Q[0]?=some w:=by erw[<-head?_eq_getElem?,y]
 let s:Q[Q.z-1]?=some w':=by erw[<-Mp,p]
 let u:=H.uT e.Ai;let B:=e.EO m;refine#[#[?_,λk a b f g=>?_],λq j=>?_,(),(),λk a f n=>?_];refine EB.mpr #[λz=>?_,CY l.nd λz=>h.nv (i v' z).1];ext(z|z:Af.mp z);exact (λz=>e.nv (i v z).1) z;exact t<|Ax.mp z;rw[Jl]at g
 match k with
 | 0=>
  cases f;rw[Eh<|(AA.mp o).1,o]at g;cases g;exact e.mem
 | k+1=>
  rw[Jl]at f;ext(c:k+1<Q.z);rw[Eh ()]at f;rw[Eh c]at g;exact l.st k a b f g;let r:k+1=Q.z:=by let:=(AA.mp g).1;rw[Ac]at this;simp at this;lia
  rw[Eh (),show k=Q.z-1 by lia,s]at f;rw[Fg (),r,L8]at g;cases f;cases g;exact(Dt.back (d:=(v',w')) #[h.pl.1,h.pl.2,h.mem] m).2.2.2
 ext(rfl|j:AX.mp j);exact#[e.pl.1,e.pl.2,rfl];ext(z|z:Af.mp j);exact#[(i q z).1.1,(i q z).1.2.1,(i q z).2];erw[Ax.mp z,#[h.pl.1,h.pl.2,A]]
 match k with
 | 0=>cases f;exact absurd n e.nv
 | k+1=>
  refine#[(),?_];rw[Jl]at f;ext(c:k<Q.z);simp;lia;rw[Fg ()]at f;let x:k-Q.z=0:=by let:=(AA.mp f).1;simp at this;lia
  rw[x]at f;cases f;exact absurd n h.nv
theorem Ht.pair(H:Ht L F t1 t2 s1 s2)(e:gP L F v w)(X:gP L F v' w')(ne:v≠v')(hQ:Way L Q)(G:Q.head?=some w)(A:Q.getLast?=some w')(hv:∀q∈Q,xT L F q/\F q=F v)(VX:F v'=F v)(u:F v<F (pre (xO F (br L v) v w) w))(jM:F v'<F (pre (xO F (br L v') v' w') w')):False:=by
 let m0:=H.tg.map;let p:=zdx H e X ne hQ G A hv VX;let q0:Q[0]?=some w:=by erw[<-head?_eq_getElem?,G]
 let ql:Q[Q.z-1]?=some w':=by erw[<-Mp,A]
 let qp:0<Q.z:=(AA.mp q0).1;let J:(v::(Q++[v']))[0]?=some v:=rfl;let E:(v::(Q++[v']))[1]?=some w:=Jl>>Eh qp>>q0
 let Pl:(v::(Q++[v']))[Q.z+1]?=some v':=by rw[Jl,Fg<|Xx _,L8];rfl
 let U:(v::(Q++[v']))[Q.z]?=some w':=by rw[show Q.z=(Q.z-1)+1 by lia,Jl,Eh (),<-ql]
 let Pn:(v::(Q++[v'])).z=Q.z+2:=by simp
 let T:∀(k:Nat) (a:Int),(v::(Q++[v']))[k]?=some a->0<k->k<Q.z+1->a∈Q:=λk a C k0 k1=>by obtain⟨k,rfl⟩:∃j,k=j+1:=#[k-1,()];rw[Jl,Eh ()]at C;exact A5 C
 generalize hP:v::(Q++[v'])=P at p J E Pl U Pn T;let B:=p.way.nd;let#[M,S',sn,ml,rows,parts,rings,BP]:=H.sub p false;let yI:=IT (t2:=t2) (s2:=s2) p false;let hg:=λ{k:Nat} {a:Int} (h:P[k]?=some a)=>(nE (t2:=t2) (s2:=s2) p false h).trans<|Ak A?;let m:=sn.map;generalize N:key F (oY L.z t2 s2 P false) ((L.z:Int)+2)=κ at parts rings BP;let o:∀{x y:Int},F x<F y->κ x<κ y:=λ{x y} h=>by erw[<-N,fj (yI x) (yI y) h]
 let ad:∀{x y:Int},F x=F y->(κ x<κ y↔oY L.z t2 s2 P false x<oY L.z t2 s2 P false y):=λ{x y} h=>by erw[<-N,eh h]
 let fv:∀{k:Nat} {a:Int},P[k]?=some a->F a=F v:=λh=>(p.pl _<|A5 h).2.2;let Z:∀{y:Int} {k:Nat} {a:Int},P[k]?=some a->y∈P->P.idxOf y=k->y=a:=λ{y k a} h n e=>by let:=jb n;rw[e,h]at this;exact(BV this).symm
 let kb:∀{a y:Int},F a=F v->(n9 F t1 t2 s1 s2 P a y=decide (F y≠F a\/(a∈P/\y∈P/\(P.idxOf a+1=P.idxOf y\/P.idxOf y+1=P.idxOf a)))):=λ{a y} C=>by let#[n1,n2,n3,n4]:=p.off H C;unfold n9;rw[KU];constructor;rintro (h|⟨h,_⟩|⟨h,_⟩|h);exact .inl<|A6 h;exact absurd h (by rintro (z|z);exact n1 z;exact n2 z);exact absurd h (by rintro (z|z);exact n3 z;exact n4 z);exact .inr h;rintro (h|h);exact .inl<|A6 h;exact .inr<|.inr<|.inr h
 let K:br M v=xO F (br L v) v w:=by rw[rows v e.pl.1 e.pl.2];unfold xO;refine filter_congr λy n=>?_;rw[kb rfl,KU];let i0:=cM B J;refine or_congr_right #[λ⟨_,A,h3⟩=>Z E A (),λh=>?_];subst h;exact#[A5 J,A5 E,.inl<|by rw[i0,cM B E]]
 let OF:br M v'=xO F (br L v') v' w':=by rw[rows v' X.pl.1 X.pl.2];unfold xO;refine filter_congr λy n=>?_;rw[kb VX,KU];let i0:=cM B Pl;refine or_congr_right #[λ⟨_,A,h3⟩=>Z U A ?_,λh=>?_];let:=Ci A;lia;subst h;exact#[A5 Pl,A5 U,.inr<|by rw[i0,cM B U]]
 rw[<-K]at u;rw[<-OF]at jM;let vM:v<M.z:=ml>>e.pl.2
 let ar:v'<M.z:=ml>>X.pl.2
 let VN:=m.nd _ _<|ag e.pl.1 vM;let ab:F w=F v:=fv E;let Y:w∈br M v:=K>>gP.rw_mem.mpr #[e.mem,.inr rfl]
 let an:w'∈br M v':=OF>>gP.rw_mem.mpr #[X.mem,.inr rfl]
 let#[#[z,hz,ez],_]:=H.both e;let zM:z∈br M v:=K>>gP.rw_mem.mpr #[hz,.inl ()]
 let zw:z≠w:=λq=>by rw[q]at ez;lia
 let l0:0<(br M v).z:=Fp Y;let#[_,_,YD,_]:=p.off H (rfl:F v=F v);let YE:=(p.off H (rfl:F v=F v)).2.1;let al:=BP v e.pl.1 e.pl.2 YE YD;let py:pre (br M v) (cy (br M v)<|(br M v).idxOf w+1)=w:=by rw[ck VN l0];let:=Ci Y;rw[a9 this,Ex this]
 let ym:cy (br M v) ((br M v).idxOf w+1)∈br M v:=a8 l0;let RW:κ w<κ v:=(ad ab).mpr (by rw[hg E,hg J];lia);let fy:F (cy (br M v)<|(br M v).idxOf w+1)<F v:=by
  let am:F (cy (br M v)<|(br M v).idxOf w+1)≠F v:=λq=>by let:=ym;rw[K]at this;ext(h|h:(gP.rw_mem.mp this).2);rw[<-K]at h;exact h q;rw[<-K]at h;rw[h]at py;let:=eX VN Y py;rw[this]at zM;exact zw<|Ax.mp zM
  apply BS;ext no;let hi:F v<F (cy (br M v)<|(br M v).idxOf w+1):=();refine vJ (κ:=κ) VN Y zM zw al true (BG RW) ?_ ?_<|BG<|o ez;let:=o u;exact BQ ();let:=o hi;exact BQ ()
 generalize n:cy (br M v) ((br M v).idxOf w+1)=y at py ym fy;let#[R,D,_]:=sn.Fn;let bk:=Dt.back (d:=(v,y)) #[e.pl.1,vM,ym] m;let dy:Dt M (y,v):=#[bk.1,bk.2.1,bk.2.2.2];let#[c,hc,Uo]:=EG.mp<|(D.mem _).mpr dy;let#[g,hs,_]:=D.good m hc;let rc:=rings R D c hc;generalize hr:c.map (·.1)=r at g hs rc;rw[<-hs]at Uo;let r0:0<r.z:=by let:=g.two;lia
 let#[a,C]:=(aF r0).mp Uo;let d1:dj r (a+1)=(v,w):=by rw[<-g.st,<-C];show(v,pre (br M v) y)=_;rw[py]
 let dk:∀(k:Nat) (x y:Int),k<Q.z+1->P[k]?=some x->P[k+1]?=some y->dj r (a+1+k)=(x,y):=λk=>by
  induction k with
  | zero=>
   ext x y _ u n;rw[J]at u;rw[E]at n;cases u;cases n;exact d1
  | succ k ih=>
   ext x y hk u n;let I:P[k]?=some P[k]:=me ();let:=ih P[k] x () I u;rw[<-Ia,<-g.st,this];show(x,pre (br M x) P[k])=_;let xQ:=T (k+1) x u () ();let O:=(hv x xQ).1;let xM:x<M.z:=ml>>O.2.1
   let YL:=m.nd _ _<|ag O.1 xM;let mem:∀{b:Int},b∈br M x↔b∈br L x/\(b∈P/\(P.idxOf b=k\/P.idxOf b=k+2)):=λ{b}=>by rw[rows x O.1 O.2.1,Gp,kb<|fv u,Jk,cM B u];constructor;rintro⟨G,h|⟨_,A,h3⟩⟩;exact absurd (O.2.2 b G) h;exact#[G,A,()];ext⟨G,A,h3⟩;exact#[G,.inr #[A5 u,A,()]]
   let W:=p.pl _<|A5 I;let ac:=(Dt.back (d:=(P[k],x)) #[W.1,W.2.1,p.way.st k _ _ I u] m0).2.2.2;let m1:P[k]∈br M x:=mem.mpr #[ac,A5 I,.inl<|cM B I];let m2:y∈br M x:=mem.mpr #[p.way.st _ _ _ u n,A5 n,.inr<|cM B n];rw[zcc YL m1 m2 (λz=>by let e1:=cM B I;let e2:=cM B n;rw[z,e2]at e1;lia) λb hb=>?_];let#[_,b2,S]:=mem.mp hb;ext(S|S:S);exact .inl<|Z I b2 S;exact .inr<|Z n b2 S
 let dl:=dk Q.z w' v' () U Pl;let dn:dj r (a+(Q.z+2))=(v',pre (br M v') w'):=by rw[show a+(Q.z+2)=a+1+Q.z+1 by lia,<-g.st,dl];rfl
 let long:Q.z+3<=r.z:=by
  apply BS;ext no;let back:dj r (a+r.z)=(y,v):=by rw[aU<|Aa a r.z,C]
  let rt:=g.two;ext(c2:r.z=Q.z+2);rw[c2,dn]at back;let:v'=y:=A4 Prod.fst back;rw[<-this]at fy;lia;let hk:P[r.z-1]?=some P[r.z-1]:=me ();let KC:P[r.z-1+1]?=some P[r.z-1+1]:=me ();let:=dk (r.z-1) _ _ () hk KC;rw[show a+1+(r.z-1)=a+r.z by lia,back]at this;let e2:v=P[r.z-1+1]:=A4 Prod.snd this;let:=cM B KC;rw[<-e2,cM B J]at this;lia
 let ca:cy r a=y:=(A4 Prod.fst C).symm;let cn:cy r (a+(Q.z+2)+1)=pre (br M v') w':=A4 Prod.snd dn;let#[t,ao,ap,Yj]:=mD (f:=λj=>F<|cy r j) (s:=a+(Q.z+2)+1) (d:=r.z-(Q.z+3)) (by show F (cy r<|a+(Q.z+2)+1+(r.z-(Q.z+3)))<F (cy r<|a+(Q.z+2)+1);rw[show a+(Q.z+2)+1+(r.z-(Q.z+3))=a+r.z by lia,aH<|Aa a r.z,ca,cn];lia);let Yj:F (cy r<|t+1)<F (cy r t):=Yj;let g0:rg κ r a=true:=by unfold rg FP;erw[<-C,BG<|o fy]
 let g1:rg κ r (a+1)=false:=by unfold rg FP;erw[d1,BQ<|by show ¬κ v<κ w;lia]
 let g2:rg κ r (a+(Q.z+2))=true:=by unfold rg FP;erw[dn,BG<|o jM]
 let g3:rg κ r t=false:=by unfold rg FP;let:=o Yj;exact BQ (by show ¬κ (cy r t)<κ (cy r<|t+1);lia)
 let:=xy (g:=rg κ r) kr (i:=a) (j:=a+1) (k:=a+(Q.z+2)) (l:=t) () () () () (by rw[g0,g1];decide) (by rw[g1,g2];decide) (by rw[g2,g3];decide);lia
theorem leave(m:ah L)(g:xT L F u)(h:dH L S u y):(Vr L F u y)\/∃v w,v∉S/\Vr L F u w/\gP L F v w:=by
 induction h with
 | here=>exact .inl .here
 | step h e k n j=>
  rename_i i l x;ext(a|a:j);let b:=a.Ai g;let f:x∈br L (i:Int):=dQ e>>k
  let bk:=Dt.back (d:=((i:Int),x)) #[b.1,b.2.1,f] m;ext(c:xT L F x);exact .inl<|.step a f c;exact .inr #[x,(i:Int),n,a,#[#[bk.1,bk.2.1],c,bk.2.2.2,b]];exact .inr a
theorem Ht.VG(H:Ht L F t1 t2 s1 s2)(c:xT L F u):False:=by
 let m:=H.tg.map;let um:=H.uT c;let O:∀v w,Vr L F u w->gP L F v w->u≠v/\t1≠v:=λv w d e=>by let l1:=d.EO c;let T:=e.EO m;exact#[λz=>e.nv<|z▸c,λz=>by rw[<-z]at T;lia]
 let get:∀a b:Int,u≠a->u≠b->t1≠a->t1≠b->∃v w,v≠a/\v≠b/\Vr L F u w/\gP L F v w:=λa b h1 h2 h3 h4=>by ext(h|⟨v,w,X,d,e⟩:leave m c<|H.tg.QJ a b u t1 c.1 c.2.1 H.sj.1 H.sj.2 h1 h2 h3 h4);let:=h.EO c;lia;exact#[v,w,λz=>X (by rw[z];simp),λz=>X (by rw[z];simp),d,e]
 let#[C,w1,_,_,l,e1]:=get (-1) (-1) (by let:=c.1;lia) (by let:=c.1;lia) (by let:=H.sj.1;lia) (by let:=H.sj.1;lia);let#[M,N]:=O C w1 l e1;let#[v2,w2,B,_,i,e2]:=get C C M M N N;let#[f2,g2]:=O v2 w2 i e2;let#[v3,w3,r,s,D,t]:=get C v2 M f2 N g2;let Z:∀{G:Int->Int} {f g b1 b2:Int},Ht L G f g b1 b2->(∀{x:Int},xT L F x↔xT L G x)->(∀{x y:Int},F x=F y↔G x=G y)->∀{v w v' w':Int},Vr L F u w->Vr L F u w'->gP L F v w->gP L F v' w'->v≠v'->G v<G (pre (xO F (br L v) v w) w)->G v'<G (pre (xO F (br L v') v' w') w')->False:=λ{G f g b1 b2} HG n J {v w v' w'} d U e A ne hx jM=>by
  let#[Q,R,S,q2,Y]:=((d.symm m c).trans U).path m<|d.Ai c;let lv:∀q∈Q,F q=F w:=λq E=>by
   let#[k,hk,e]:=Ib E;let:∀(j:Nat) (a:Int),Q[j]?=some a->F a=F w:=λj=>by
    induction j with
    | zero=>intro a o;rw[<-head?_eq_getElem?,S]at o;cases o;rfl
    | succ j ih=>
     ext a o;let jl:j<Q.z:=by let:=(AA.mp o).1;lia
     let I:Q[j]?=some Q[j]:=me jl;erw[<-ih _ I,(Y _<|A5 I).2.2 a<|R.st j _ _ I o]
   exact this k q (by erw[<-e,me hk])
  let P:∀v w,xO G (br L v) v w=xO F (br L v) v w:=λv w=>by unfold xO;refine filter_congr λy _=>?_;erw[KU,or_congr_left<|not_congr J.symm]
  let l1:=e.EO m;let T:=A.EO m;let l3:=d.EO c;let l4:=U.EO c;refine HG.pair (v:=v) (w:=w) (v':=v') (w':=w') (Q:=Q) #[e.pl,λz=>e.nv<|n.mpr z,e.mem,n.mp e.Ai] #[A.pl,λz=>A.nv<|n.mpr z,A.mem,n.mp A.Ai] ne R S q2 (λq E=>#[n.mp<|Y q E,J.mp<|by rw[lv q E];lia]) (J.mp ()) (P>>hx) (P>>jM)
 let up:=λ{v w v' w':Int}=>Z H (λ{x}=>Iff.rfl) (λ{x y}=>Iff.rfl) (v:=v) (w:=w) (v':=v') (w':=w');let dn:=λ{v w v' w':Int}=>Z H.neg (λ{x}=>#[λh=>#[h.1,h.2.1,λw d=>A4 Int.neg<|h.2.2 w d],λh=>#[h.1,h.2.1,λw d=>by have q :-F w=- F x:=h.2.2 w d;lia]]) (λ{x y}=>#[λh=>A4 Int.neg h,λh=>by have q :-F x=- F y:=h;lia]) (v:=v) (w:=w) (v':=v') (w':=w');let side:∀{v w:Int},gP L F v w->F v<F (pre (xO F (br L v) v w) w)\/F (pre (xO F (br L v) v w) w)<F v:=λ{v w} e=>by let W:w∈xO F (br L v) v w:=gP.rw_mem.mpr #[e.mem,.inr rfl];let#[#[z,hz,ez],_]:=H.both e;let K:z∈xO F (br L v) v w:=gP.rw_mem.mpr #[hz,.inl ()];let nd:(xO F (br L v) v w).Nodup:=(m.nd _ _<|ag e.pl.1 e.pl.2).sublist Lo;ext(h|h:(gP.rw_mem.mp<|hJ W).2);lia;let:=eX nd W h;rw[this]at K;let:=Ax.mp K;let:=e.EO m;rw[Ax.mp K]at ez;lia
 let ng:∀{a b:Int},a<b->- b< -a:=λh=>()
 ext(f|f:side e1)<;>ext(g|g:side e2)<;>ext(p|p:side t);exact up l i e1 e2 (A6 B) f g;exact up l i e1 e2 (A6 B) f g;exact up l D e1 t (A6 r) f p;exact dn i D e2 t (A6 s) (ng g)<|ng p;exact up i D e2 t (A6 s) g p;exact dn l D e1 t (A6 r) (ng f)<|ng p;exact dn l i e1 e2 (A6 B) (ng f)<|ng g;exact dn l i e1 e2 (A6 B) (ng f)<|ng g
section
variable {L:cq} {F:Int->Int} {t1 t2 s1 s2:Int}
theorem Ht.G0(H:Ht L F t1 t2 s1 s2){v:Int}(a:0<=v)(b:v<L.z)(d:F s1<F v)(c:F v<F t1):(∃x∈br L v,F x<F v)/\∃y∈br L v,F v<F y:=by ext(h|h:H.mid v a b d c);exact absurd (H.VG #[a,b,h]) id;exact h
theorem Ht.alt(H:Ht L F t1 t2 s1 s2)(s:∀v:Int,0<=v->v<L.z->0<=h v/\h v<W)(inj:∀x y:Int,0<=x->x<L.z->0<=y->y<L.z->x≠y->h x≠h y) :
  (∀R,Dec L R->∀c∈R,ch (rg (key F h W)<|c.map (·.1)) (c.map (·.1)).z<=2)/\(∀b:Int,0<=b->b<L.z->F s1<F b->F b<F t1->cv L (key F h W) b<=2):=by
 let m:=H.tg.map;let parts:Parts L<|key F h W:=λd o=>by let bk:=o.back m;exact key_ne (s _ o.lo o.hi) (s _ bk.1 bk.2.1)<|.inr<|inj _ _ o.lo o.hi bk.1 bk.2.1<|A6 bk.2.2.1
 let r:∀{x y:Int},0<=x->x<L.z->0<=y->y<L.z->F x<F y->key F h W x<key F h W y:=λa b c d e=>fj (s _ a b) (s _ c d) e;let top:∃e,(e=t1\/e=t2)/\∀b,b=t1\/b=t2->b≠e->(∃y∈br L b,key F h W b<key F h W y):=by ext(z|z:H.tt);exact#[t1,.inl rfl,λb f g=>by ext(q|q:f);exact absurd q g;exact absurd (q.trans z.symm) g];let bk:=Dt.back (d:=(t1,t2)) #[H.sj.1,H.sj.2,z] m;let C:=inj _ _ H.sj.1 H.sj.2 H.Xr.1 H.Xr.2<|A6 bk.2.2.1;ext(c:h t1<h t2);exact#[t2,.inr rfl,λb f g=>by ext(q|q:f);subst q;exact#[t2,z,(eh H.te.symm).mpr c];exact absurd q g];exact#[t1,.inl rfl,λb f g=>by ext(q|q:f);exact absurd q g;subst q;exact#[t1,bk.2.2.2,(eh H.te).mpr ()]]
 let l:∃e,(e=s1\/e=s2)/\∀b,b=s1\/b=s2->b≠e->(∃y∈br L b,key F h W y<key F h W b):=by ext(z|z:H.ss);exact#[s1,.inl rfl,λb f g=>by ext(q|q:f);exact absurd q g;exact absurd (q.trans z.symm) g];let bk:=Dt.back (d:=(s1,s2)) #[H.QU.1,H.QU.2,z] m;let C:=inj _ _ H.QU.1 H.QU.2 H.Yl.1 H.Yl.2<|A6 bk.2.2.1;ext(c:h s2<h s1);exact#[s2,.inr rfl,λb f g=>by ext(q|q:f);subst q;exact#[s2,z,(eh H.se).mpr c];exact absurd q g];exact#[s1,.inl rfl,λb f g=>by ext(q|q:f);exact absurd q g;subst q;exact#[s1,bk.2.2.2,(eh H.se.symm).mpr ()]]
 let#[e1,A,top]:=top;let#[e2,M,l]:=l;let I:∀b:Int,0<=b->b<L.z->br L b≠[]->b≠e1->b≠e2->(∃x∈br L b,key F h W x<key F h W b)/\∃y∈br L b,key F h W b<key F h W y:=λb i b1 _ D J=>by
  let k:∀{x:Int},x∈br L b->0<=x/\x<L.z:=λ{x} p=>by let:=Dt.back (d:=(b,x)) #[i,b1,p] m;exact#[this.1,this.2.1]
  ext(f|f:H.top b i b1);ext(n|n:H.bot b i b1);let#[#[x,p,ex],y,t,E]:=H.G0 i b1 n f;exact#[#[x,p,r (k p).1 (k p).2 i b1 ex],y,t,r i b1 (k t).1 (k t).2 E];let#[w,j,B]:=H.neg.cS n;let u:F b=F s1:=by ext(rfl|rfl:n);rfl;exact H.se
  let B:F b<F w:=();exact#[l b n J,w,j,r i b1 (k j).1 (k j).2 B];let#[w,j,B]:=H.cS f;let u:F b=F t1:=by ext(rfl|rfl:f);rfl;exact H.te
  exact#[#[w,j,r (k j).1 (k j).2 i b1 ()],top b f D]
 let#[w,j,_]:=H.cS (v:=t1)<|.inl rfl;let#[G,K]:=CU H.tg.bM.sn (d0:=(t1,w)) #[H.sj.1,H.sj.2,j] parts (e1:=e1) (e2:=e2) I;refine#[G,λb i b1 O N=>K b i b1 (λz=>?_) λz=>?_];let u:F b=F t1:=by rw[z];ext(rfl|rfl:A);rfl;exact H.te
 lia;let u:F b=F s1:=by rw[z];ext(rfl|rfl:M);rfl;exact H.se
 lia
def gM(n:Nat)(b:Int)(σ:Int->Bool)(v:Int):Int:=if v=b then(n:Int)else if σ v then(n:Int)+1+v else v
theorem kG{n:Nat}{b:Int}(v:Int)(a:0<=v)(c:v<n):0<=gM n b σ v/\gM n b σ v<2*(n:Int)+2:=by unfold gM;split;lia;split<;>lia
theorem Ht.xH(H:Ht L F t1 t2 s1 s2)(b:Int)(σ:Int->Bool) :
  (∀R,Dec L R->∀c∈R,ch (rg (key F (gM L.z b σ)<|2*(L.z:Int)+2)<|c.map (·.1)) (c.map (·.1)).z<=2)/\(∀f:Int,0<=f->f<L.z->F s1<F f->F f<F t1->cv L (key F (gM L.z b σ)<|2*(L.z:Int)+2) f<=2):=
 H.alt (λv g h=>kG v g h) λx y a b c d e=>by unfold gM;split<;>split<;>(try split)<;>(try split)<;>lia
theorem lH{b v:Int}(f:0<=v)(g:v<L.z)(e:0<=b)(b1:b<L.z)(d:v≠b):decide (key F (gM L.z b σ) (2*(L.z:Int)+2) v<key F (gM L.z b σ) (2*(L.z:Int)+2) b)=(decide (F v<F b) || (decide (F v=F b)&&!σ v)):=by
 let rv:=kG (b:=b) (σ:=σ) v f g;let a:=kG (n:=L.z) (b:=b) (σ:=σ) b e b1;ext(c|c|c:LN (F v)<|F b);rw[BG<|fj rv a c,BG c];rfl;rw[BQ (show ¬F v<F b by lia),BG c];let i:gM L.z b σ b=(L.z:Int):=by unfold gM;rw[Al rfl]
 cases hs:σ v with
 | true=>
  let h:gM L.z b σ v=(L.z:Int)+1+v:=by unfold gM;rw[Ak d,Al hs]
  rw[BQ (λz=>by let:=(eh c).mp z;lia)];rfl
 | false=>
  let h:gM L.z b σ v=v:=by unfold gM;rw[Ak d,Ak<|by rw[hs];decide]
  rw[BG<|(eh c).mpr ()];rfl
 let:=fj a rv c;rw[BQ (),BQ (),BQ ()];rfl
theorem Ht.Hg(H:Ht L F t1 t2 s1 s2){b w:Int}(h:0<=b)(b1:b<L.z)(T:F s1<F b)(J:F b<F t1)(hw:w∈br L b)(ew:F w=F b)(ex:F (pre (br L b) w)=F b):False:=by
 let m:=H.tg.map;let nd:=m.nd _ _<|ag h b1;let d3:=H.tg.An h b1;let jw:=Ci hw;let D:0<(br L b).z:=();let#[#[z,hz,ez],z',MU,ZN]:=H.G0 h b1 T J;let nb:∀{x:Int},x∈br L b->0<=x/\x<L.z/\x≠b:=λ{x} I=>by let:=Dt.back (d:=(b,x)) #[h,b1,I] m;exact#[this.1,this.2.1,this.2.2.1]
 generalize hl:br L b=l at *;let M:∀{x:Int},x∈l->cy l (l.idxOf x)=x:=λ{x} I=>by let:=Ci I;rw[a9 this,Ex this]
 let b7:∀j,cy l (j+l.z)=cy l j:=λj=>aH<|Aa _ _;let px:pre l w=cy l (l.idxOf w+l.z-1):=rfl;generalize hi:l.idxOf w=i at *;let r:cy l i=w:=by erw[<-hi,M hw]
 let B:∀j k,i<=j->j<i+l.z->i<=k->k<i+l.z->cy l j=cy l k->j=k:=λj k s A b1 b2 e=>by
  let o:∀t,i<=t->t<i+l.z->t%l.z=if t<l.z then t else t-l.z:=λt X Z=>by ext(q:t<l.z);rw[Al q,AV q];rw[Ak q,Hr (),AV ()]
  let rj:=o j s A;let rk:=o k b1 b2;unfold cy at e;let mj:=AK j D;let mk:=AK k D;let e2:l[j%l.z]=l[k%l.z]:=by rw[su,su,me mj,me mk]at e;exact e
  let:=(Ez nd).mp e2;split at rj<;>split at rk<;>lia
 let pos:∀{q:Int},q∈l->F q≠F b->∃j,i<j/\j<i+l.z-1/\cy l j=q:=λ{q} U Y=>by
  let jq:=Ci U;let K:=M U;obtain⟨j,Q,N,f⟩:∃j,i<=j/\j<i+l.z/\cy l j=q:=by ext(c:i<=l.idxOf q);exact#[_,c,(),K];exact#[l.idxOf q+l.z,(),(),b7>>K]
  let u:j≠i:=λz=>Y (by erw[<-f,z,r,ew]);let O:j≠i+l.z-1:=λz=>Y (by erw[<-f,z,<-px,ex]);exact#[j,(),(),f]
 let#[j,Q,N,f]:=pos hz ();let#[k,k1,k2,R]:=pos MU ();let m4:4<=l.z:=by ext(c:j=k);rw[c,R]at f;rw[f]at ZN;lia;lia
 refine let σ:Int->Bool:=λv=>if v=w then decide (F (cy l<|i+1)<=F b)else if v=cy l (i+l.z-1)then decide (F (cy l<|i+l.z-2)<=F b)else false;?_;let G:=(H.xH b σ).2 b h b1 T J;unfold cv at G;rw[hl]at G;let a:∀t,vg (key F (gM L.z b σ)<|2*(L.z:Int)+2) l b t=(decide (F (cy l t)<F b) || (decide (F (cy l t)=F b)&&!σ (cy l t))):=λt=>by let E:=nb<|a8 (j:=t) D;exact lH E.1 E.2.1 h b1 E.2.2
 let inner:∀t,i<t->t<i+l.z-1->vg (key F (gM L.z b σ)<|2*(L.z:Int)+2) l b t=decide (F (cy l t)<=F b):=λt s A=>by
  let u:cy l t≠w:=λe=>by let:=B t i () () () () (by rw[e,r]);lia
  let O:cy l t≠cy l (i+l.z-1):=λe=>by let:=B t (i+l.z-1) () () () () e;lia
  let n:σ (cy l t)=false:=by show(if _ then _ else if _ then _ else _)=_;rw[Ak u,Ak O]
  rw[a,n];ext(c|c|c:LN (F<|cy l t)<|F b);rw[BG c,BG<|show F (cy l t)<=F b by lia];rfl;rw[BG c,BG (show F (cy l t)<=F b by lia),BQ<|show ¬F (cy l t)<F b by lia];rfl;rw[BQ (show ¬F (cy l t)<F b by lia),BQ (show ¬F (cy l t)=F b by lia),BQ<|show ¬F (cy l t)<=F b by lia];rfl
 let first:vg (key F (gM L.z b σ)<|2*(L.z:Int)+2) l b i=!decide (F (cy l<|i+1)<=F b):=by
  let n:σ (cy l i)=decide (F (cy l<|i+1)<=F b):=by show(if _ then _ else if _ then _ else _)=_;rw[Al r]
  rw[a,n,r,BQ (show ¬F w<F b by lia),BG ew];rfl
 let last:vg (key F (gM L.z b σ)<|2*(L.z:Int)+2) l b (i+l.z-1)=!decide (F (cy l<|i+l.z-2)<=F b):=by
  let u:cy l (i+l.z-1)≠w:=λe=>by let:=B (i+l.z-1) i () () () () (by rw[e,r]);lia
  let n:σ (cy l<|i+l.z-1)=decide (F (cy l<|i+l.z-2)<=F b):=by show(if _ then _ else if _ then _ else _)=_;rw[Ak u,Al rfl]
  rw[a,n,<-px,BQ (show ¬F (pre l w)<F b by lia),BG ex];rfl
 let X:chg (vg (key F (gM L.z b σ)<|2*(L.z:Int)+2) l b) i=true:=by unfold chg;rw[first,inner (i+1) () ()];cases decide (F (cy l<|i+1)<=F b)<;>rfl
 let Z:chg (vg (key F (gM L.z b σ)<|2*(L.z:Int)+2) l b) (i+l.z-2)=true:=by unfold chg;rw[show i+l.z-2+1=i+l.z-1 by lia,last,inner (i+l.z-2) () ()];cases decide (F (cy l<|i+l.z-2)<=F b)<;>rfl
 let P:vg (key F (gM L.z b σ)<|2*(L.z:Int)+2) l b j=true:=inner j Q N>>f>>BG ()
 let W:vg (key F (gM L.z b σ)<|2*(L.z:Int)+2) l b k=false:=inner k k1 k2>>R>>BQ ()
 obtain⟨x,x1,x2,x3⟩:∃x,i<x/\x<i+l.z-2/\chg (vg (key F (gM L.z b σ)<|2*(L.z:Int)+2) l b) x=true:=by ext(c|c:Hk j k);let#[x,s,A,C]:=kQ (g:=vg (key F (gM L.z b σ)<|2*(L.z:Int)+2) l b) (FE c) (by rw[P,W];decide);exact#[x,(),(),C];let#[x,s,A,C]:=kQ (g:=vg (key F (gM L.z b σ)<|2*(L.z:Int)+2) l b) c (by rw[P,W];decide);exact#[x,(),(),C]
 let:=BR (p:=chg<|vg (key F (gM L.z b σ)<|2*(L.z:Int)+2) l b) (xx Au) (i:=i) (l:=[i,x,i+l.z-2]) (by simp;lia) (λy S=>by simp only[BX,Bn,Bu]at S;ext(rfl|rfl|rfl:S);exact#[(),(),X];exact#[(),(),x3];exact#[(),(),Z]);let e3:([i,x,i+l.z-2]:List Nat).z=3:=rfl;unfold ch at G;lia
theorem Ht.Yo(H:Ht L F t1 t2 s1 s2){b w:Int}(a:0<=b)(b1:b<L.z)(n:F s1<F b)(l:F b<F t1)(g:w∈br L b)(v:F w=F b) :
  (F (pre (br L b) w)<F b/\F b<F (cy (br L b)<|(br L b).idxOf w+1))\/(F b<F (pre (br L b) w)/\F (cy (br L b)<|(br L b).idxOf w+1)<F b):=by
 let m:=H.tg.map;let o:=m.nd _ _<|ag a b1;let u:=Fp g;let f:∀{x:Int},x∈br L b->0<=x/\x<L.z/\x≠b:=λ{x} G=>by let:=Dt.back (d:=(b,x)) #[a,b1,G] m;exact#[this.1,this.2.1,this.2.2.1]
 let#[#[z,hz,A],I,t,B]:=H.G0 a b1 n l;let py:pre (br L b) (cy (br L b)<|(br L b).idxOf w+1)=w:=by rw[ck o u];let:=Ci g;rw[a9 this,Ex this]
 let r:cy (br L b) ((br L b).idxOf w+1)∈br L b:=a8 u;let C:F (pre (br L b) w)≠F b:=λe=>H.Hg a b1 n l g v e;let D:F (cy (br L b)<|(br L b).idxOf w+1)≠F b:=λe=>H.Hg a b1 n l r e (py>>v);generalize cy (br L b) ((br L b).idxOf w+1)=y at py r D;let k:=f g;let j:=f<|hJ g;let i:=f r;apply BS;ext J;let p:∀κ:Int->Int,∀s:Bool,decide (κ y<κ b)=s->decide (κ (cy (br L b)<|(br L b).idxOf w+1)<κ b)=s:=λκ s h=>by
  let:cy (br L b) ((br L b).idxOf w+1)=y:=by refine hU o (a8 u) r ?_;rw[ck o u,py];let:=Ci g;rw[a9 this,Ex this]
  erw[this,h]
 ext(c:F b<F (pre (br L b) w));let E:F b<F y:=();refine vJ o g hz (λq=>by rw[q]at A;lia) ((H.xH b λ_=>false).2 b a b1 n l) true ?_ ?_ (p _ _ ?_) ?_;rw[lH k.1 k.2.1 a b1 k.2.2,BG v];simp;rw[lH j.1 j.2.1 a b1 j.2.2,BQ (),BQ ()];rfl;rw[lH i.1 i.2.1 a b1 i.2.2,BQ (),BQ ()];rfl;rw[lH (f hz).1 (f hz).2.1 a b1 (f hz).2.2,BG A];rfl;let E:F y<F b:=();refine vJ o g t (λq=>by rw[q]at B;lia) ((H.xH b λ_=>true).2 b a b1 n l) false ?_ ?_ (p _ _ ?_) ?_;rw[lH k.1 k.2.1 a b1 k.2.2,BQ ()];simp;rw[lH j.1 j.2.1 a b1 j.2.2,BG ()];rfl;rw[lH i.1 i.2.1 a b1 i.2.2,BG ()];rfl;rw[lH (f t).1 (f t).2.1 a b1 (f t).2.2,BQ (),BQ ()];rfl
end
theorem Tz{f:Nat->Int}{s d:Nat}(h:f s<f (s+d)):∃t,s<=t/\t<s+d/\f t<f (t+1):=by let#[t,c,b,a]:=mD (f:=λj=>- f j) (s:=s) (d:=d) (by show-f (s+d)< -f s;lia);exact#[t,c,b,by have a :-f (t+1)< -f t:=a;lia]
theorem iL(j:Nat):cy r (j+r.z)=cy r j:=aH<|Aa _ _
theorem Ht.OH(H:Ht L F t1 t2 s1 s2)(a:dP L R)(c:r∈R)(b:Int)(σ:Int->Bool):ch (rg (key F (gM L.z b σ)<|2*(L.z:Int)+2) r) r.z<=2:=by let:=(H.xH b σ).1 _ a.dec (sh 0 r)<|A3.mpr #[r,c,rfl];rwa[bX]at this
theorem Xu(h:κ (cy r j)<κ (cy r<|j+1)):rg κ r j=true:=by unfold rg FP;exact BG h
theorem L3(h:κ (cy r<|j+1)<κ (cy r j)):rg κ r j=false:=by unfold rg FP;exact BQ (by show ¬κ (cy r j)<κ (cy r<|j+1);lia)
theorem eQ(m:ah L)(b:dP L R)(a:r∈R)(j:Nat):0<=cy r j/\cy r j<L.z:=#[((b.good r a).dt j).lo,((b.good r a).dt j).hi]
theorem Ht.OJ(H:Ht L F t1 t2 s1 s2)(a:dP L R)(b:r∈R)(e:F (cy r<|k+1)=F (cy r<|k+2))(v:F (cy r k)<F (cy r<|k+1))(o:F (cy r<|k+2)<F (cy r<|k+3)):False:=by
 let m:=H.tg.map;let g:=a.good r b;let B:=H.tg.three a b;let pl:=eQ m a b;let n:∀{x y:Nat},F (cy r x)<F (cy r y)->key F (gM L.z (cy r<|k+1) λ_=>false) (2*(L.z:Int)+2) (cy r x)<key F (gM L.z (cy r<|k+1) λ_=>false) (2*(L.z:Int)+2) (cy r y):=λ{x y} h=>fj (kG _ (pl x).1 (pl x).2) (kG _ (pl y).1 (pl y).2) h;let u:cy r (k+2)≠cy r (k+1):=((g.dt<|k+1).back m).2.2.1;let dn:key F (gM L.z (cy r<|k+1) λ_=>false) (2*(L.z:Int)+2) (cy r<|k+2)<key F (gM L.z (cy r<|k+1) λ_=>false) (2*(L.z:Int)+2) (cy r<|k+1):=by refine(eh e.symm).mpr ?_;unfold gM;erw[Al rfl,Ak u,Ak Bj,(pl _).2]
 let c:=H.OH a b (cy r<|k+1) λ_=>false;ext(z:r.z=3);let:=iL (r:=r) k;rw[z]at this;rw[this]at o;lia;let#[t,D,C,A]:=mD (f:=λj=>F<|cy r j) (s:=k+3) (d:=r.z-3) (by show F (cy r<|k+3+(r.z-3))<F (cy r<|k+3);rw[show k+3+(r.z-3)=k+r.z by lia,iL];lia);let q:=L3 (r:=r)<|n A;let p:rg (key F (gM L.z (cy r<|k+1) λ_=>false)<|2*(L.z:Int)+2) r (k+r.z)=true:=by erw[kr,Xu<|n v]
 let w:rg (key F (gM L.z (cy r<|k+1) λ_=>false)<|2*(L.z:Int)+2) r (k+1+r.z)=false:=kr>>L3 dn
 let:=xy (g:=rg (key F (gM L.z (cy r<|k+1) λ_=>false)<|2*(L.z:Int)+2) r) kr (i:=k+2) (j:=t) (k:=k+r.z) (l:=k+1+r.z) () () () () (by rw[Xu (r:=r)<|n o,q];decide) (by rw[q,p];decide) (by rw[p,w];decide);lia
theorem Ht.OI(H:Ht L F t1 t2 s1 s2)(n:dP L R)(b:r∈R)(e:F (cy r<|k+1)=F (cy r<|k+2))(B:F (cy r<|k+1)<F (cy r k))(D:F (cy r<|k+2)<F (cy r<|k+3))(K:w∈r)(E:w≠cy r (k+1))(G:w≠cy r (k+2)):F (cy r<|k+1)<F w:=by
 let m:=H.tg.map;let g:=n.good r b;let O:=H.tg.three n b;let pl:=eQ m n b;apply BS;ext Y;let a:∀{x y:Nat},F (cy r x)<F (cy r y)->key F (gM L.z 0 λ_=>false) (2*(L.z:Int)+2) (cy r x)<key F (gM L.z 0 λ_=>false) (2*(L.z:Int)+2) (cy r y):=λ{x y} h=>fj (kG _ (pl x).1 (pl x).2) (kG _ (pl y).1 (pl y).2) h;let c:=H.OH n b 0 λ_=>false;obtain⟨j,Z,P,p⟩:∃j,k+1<=j/\j<k+1+r.z/\cy r j=w:=by
  let#[i,J,e]:=Ib K;let M:cy r i=w:=a9 J>>e
  let X:=AK (i+r.z*(k+1)-(k+1)) (show 0<r.z by lia);refine#[k+1+(i+r.z*(k+1)-(k+1))%r.z,(),(),?_];rw[<-M];refine aH ?_;let B:k+1<=r.z*(k+1):=JZ _ ();rw[EN,EX,<-EN,show k+1+(i+r.z*(k+1)-(k+1))=i+r.z*(k+1)by lia,Ld]
 let Q:j≠k+1:=λz=>E (by rw[<-p,z]);let W:j≠k+2:=λz=>G (by rw[<-p,z]);let v:F (cy r j)<=F (cy r<|k+1):=by rw[p];lia
 let T:j≠k+3:=λz=>by rw[z]at v;lia
 let q4:j≠k+r.z:=λz=>by rw[z,iL]at v;lia
 let#[t,U,S,q]:=mD (f:=λj=>F<|cy r j) (s:=k+3) (d:=j-(k+3)) (by show F (cy r<|k+3+(j-(k+3)))<F (cy r<|k+3);rw[show k+3+(j-(k+3))=j by lia];lia);let#[u,b1,b2,o]:=Tz (f:=λj=>F<|cy r j) (s:=j) (d:=k+r.z-j) (by show F (cy r j)<F (cy r<|j+(k+r.z-j));rw[show j+(k+r.z-j)=k+r.z by lia,iL];lia);let q:F (cy r<|t+1)<F (cy r t):=q;let o:F (cy r u)<F (cy r<|u+1):=o;let I:=Xu (r:=r)<|a D;let A:=L3 (r:=r)<|a q;let C:=Xu (r:=r)<|a o;let N:rg (key F (gM L.z 0 λ_=>false)<|2*(L.z:Int)+2) r (k+r.z)=false:=by erw[kr,L3<|a B]
 let:=xy (g:=rg (key F (gM L.z 0 λ_=>false)<|2*(L.z:Int)+2) r) kr (i:=k+2) (j:=t) (k:=u) (l:=k+r.z) () () () () (by rw[I,A];decide) (by rw[A,C];decide) (by rw[C,N];decide);lia
theorem Ht.Vg(H:Ht L F t1 t2 s1 s2)(c:dP L R)(d:r∈R)(e:F (cy r<|k+1)=F (cy r<|k+2))(l:F s1<F (cy r<|k+1))(o:F (cy r<|k+1)<F t1) :
  (∀w∈r,w≠cy r (k+1)->w≠cy r (k+2)->F (cy r<|k+1)<F w)\/(∀w∈r,w≠cy r (k+1)->w≠cy r (k+2)->F w<F (cy r<|k+1)):=by
 let m:=H.tg.map;let g:=c.good r d;let pl:=eQ m c d;let f:∀j,cy r j∈br L (cy r<|j+1)/\pre (br L<|cy r<|j+1) (cy r j)=cy r (j+2):=λj=>#[((g.dt j).back m).2.2.2,A4 Prod.snd<|g.st j];let q:F (cy r<|k+3)≠F (cy r<|k+2):=λz=>by let#[a,b]:=f<|k+1;exact H.Hg (pl<|k+2).1 (pl<|k+2).2 () () a e (b>>z)
 let p:F (cy r k)≠F (cy r<|k+1):=λz=>by let#[a,b]:=f k;exact H.Hg (pl<|k+1).1 (pl<|k+1).2 l o a z (b>>e.symm)
 by_cases n:F (cy r k)<F (cy r<|k+1)<;>ext(i:F (cy r<|k+2)<F (cy r<|k+3));exact absurd (H.OJ c d e n i) id;right;ext w h a b;have :-F (cy r<|k+1)< -F w:=H.neg.OI c d (A4 Int.neg e) (by show-F (cy r<|k+1)< -F (cy r k);lia) (by show-F (cy r<|k+2)< -F (cy r<|k+3);lia) h a b;lia;left;ext w h a b;exact H.OI c d e () i h a b;exact absurd (H.neg.OJ c d (A4 Int.neg e) (by show-F (cy r k)< -F (cy r<|k+1);lia)<|by show-F (cy r<|k+2)< -F (cy r<|k+3);lia) id
def aS(X Y:Int->Int)(A B:Int)(v:Int):Int:=A*X v+B*Y v
def e9(X Y:Int->Int)(a b c:Int):Int:=(X b-X a)*(Y c-Y a)-(Y b-Y a)*(X c-X a)
theorem zeB:aS X Y (-A) (-B) v=- aS X Y A B v:=by unfold aS;grind
theorem xp:e9 X Y b c a=e9 X Y a b c:=by unfold e9;grind
theorem rO:e9 X Y b a c=- e9 X Y a b c:=by unfold e9;grind
theorem iM:e9 X Y a b c=aS X Y (-(Y b-Y a)) (X b-X a) c-aS X Y (-(Y b-Y a)) (X b-X a) a:=by unfold e9 aS;grind
theorem Z4:e9 X Y a b c*(aS X Y A B v-aS X Y A B a)=e9 X Y a v c*(aS X Y A B b-aS X Y A B a)+e9 X Y a b v*(aS X Y A B c-aS X Y A B a):=by unfold e9 aS;grind
theorem PB(e:aS X Y A B b=aS X Y A B a)(d:aS X Y A B c=aS X Y A B a)(f:e9 X Y a b c≠0):A=0/\B=0:=by
 let e1:A*e9 X Y a b c=0:=by unfold aS at e d;unfold e9;grind
 let e2:B*e9 X Y a b c=0:=by unfold aS at e d;unfold e9;grind
 exact#[(K7.mp e1).resolve_right f,(K7.mp e2).resolve_right f]
structure fN(L R:cq)(o:cc)(X Y:Int->Int):Prop where
 tg:b8 L
 ld:dP L R
 om:o∈R
 cv:∀k i:Nat,i%o.z≠k%o.z->i%o.z≠(k+1)%o.z->e9 X Y (cy o k) (cy o<|k+1) (cy o i)<0
 ax:∀v:Int,0<=v->v<L.z->v∉o->((br L v).z:Int)*X v=((br L v).map X).sum
 ay:∀v:Int,0<=v->v<L.z->v∉o->((br L v).z:Int)*Y v=((br L v).map Y).sum
theorem xG(f:Nat->Int):∀n,0<n->∃k,k<n/\∀i,i<n->f i<=f k
 | 0,h=>absurd h<|EK _
 | 1,_=>#[0,(),λi b=>by erw[show i=0 by lia,Jt _]]
 | n+2,_=>by let#[k,d,a]:=xG f (n+1) ();ext(c:f (n+1)<=f k);exact#[k,(),λi b=>by ext(e:i=n+1);rw[e];exact c;exact a i ()];exact#[n+1,(),λi b=>by ext(e:i=n+1);rw[e];exact Jt _;let:=a i ();lia]
theorem AD{f:Int->Int}{c:Int}:∀{l:cc},(∀w∈l,c<=f w)->(l.z:Int)*c<=(l.map f).sum/\((l.map f).sum=(l.z:Int)*c->∀w∈l,f w=c)
 | [],_=>by simp
 | x::l,h=>by
  let g:=h x AO;let#[d,b]:=AD λw a=>h w<|A7 _ a;let e:(((x::l).z:Nat):Int)*c=(l.z:Int)*c+c:=by rw[Bq];grind
  rw[Ap,Ek,e];refine#[(),λq w a=>?_];ext(z|z:AX.mp a);rw[z];lia;exact b () w z
theorem tE{f:Int->Int}{c:Int}{l:cc}(h:(l.z:Int)*c=(l.map f).sum):(∀w∈l,f w=c)\/((∃x∈l,f x<c)/\∃y∈l,c<f y):=by
 ext(a:∃x∈l,f x<c);ext(b:∃y∈l,c<f y);exact .inr #[a,b];left;let lo:∀w∈l,- c<=(λv=>- f v) w:=λw d=>by show-c<=- f w;ext(q:c<f w);exact absurd #[w,d,q] b;lia
 let e:(l.map λv=>- f v).sum=- (l.map f).sum:=by
  clear h a b lo;induction l with
  | nil=>rfl
  | cons x l g=>rw[Ap,Ek,Ap,Ek,g];lia
 ext w d;have :-f w=- c:=(AD lo).2 (by rw[e,<-h];grind) w d;lia;left;let lo:∀w∈l,c<=f w:=λw d=>by ext(q:f w<c);exact absurd #[w,d,q] a;lia
 exact(AD lo).2 h.symm
theorem wo{X Y:Int->Int}{A B:Int}:∀l:cc,(l.map<|aS X Y A B).sum=A*(l.map X).sum+B*(l.map Y).sum
 | []=>by simp
 | x::l=>by rw[Ap,Ek,Ap,Ek,Ap,Ek,wo l];unfold aS;grind
theorem fN.three(f:fN L R o X Y):3<=o.z:=f.tg.three f.ld f.om
theorem fN.turn(f:fN L R o X Y)(k:Nat):e9 X Y (cy o<|k+1) (cy o<|k+2) (cy o k)<0:=by
 let:=f.three;let md:∀a b:Nat,a<b->b<a+o.z->a%o.z≠b%o.z:=λa b d c e=>by let:=Nat.sub_mod_eq_zero_of_mod_eq e.symm;rw[AV ()]at this;lia
 exact f.cv (k+1) k (md k (k+1) () ())<|md k (k+2) () ()
theorem fN.Vu(f:fN L R o X Y)(r:¬(A=0/\B=0))(u:aS X Y A B (cy o k)<=aS X Y A B (cy o<|k+1))(l:aS X Y A B (cy o<|k+2)<=aS X Y A B (cy o<|k+1))(i:Nat) :
  aS X Y A B (cy o i)<aS X Y A B (cy o<|k+1)\/cy o i=cy o (k+1)\/(cy o i=cy o k/\aS X Y A B (cy o k)=aS X Y A B (cy o<|k+1))\/(cy o i=cy o (k+2)/\aS X Y A B (cy o<|k+2)=aS X Y A B (cy o<|k+1)):=by
 ext(d:i%o.z=(k+1)%o.z);exact .inr<|.inl<|aH d;ext(h:i%o.z=k%o.z);rw[aH h];ext(z|z:MJ u);exact .inl z;exact .inr<|.inr<|.inl #[rfl,z];ext(j:i%o.z=(k+2)%o.z);rw[aH j];ext(z|z:MJ l);exact .inl z;exact .inr<|.inr<|.inr #[rfl,z];left;let t:=f.turn k;let x:=f.cv (k+1) i d j;let s:=f.cv k i h d;let e:=Z4 (X:=X) (Y:=Y) (A:=A) (B:=B) (a:=cy o<|k+1) (b:=cy o<|k+2) (c:=cy o k) (v:=cy o i);let g:e9 X Y (cy o<|k+1) (cy o i) (cy o k)<0:=xp>>s
 let n:¬(aS X Y A B (cy o<|k+2)=aS X Y A B (cy o<|k+1)/\aS X Y A B (cy o k)=aS X Y A B (cy o<|k+1)):=λ⟨m,w⟩=>r<|PB m w ();generalize e9 X Y (cy o<|k+1) (cy o<|k+2) (cy o k)=D at *;generalize e9 X Y (cy o<|k+1) (cy o i) (cy o k)=p at *;generalize e9 X Y (cy o<|k+1) (cy o<|k+2) (cy o i)=q at *;let C:0<=p*(aS X Y A B (cy o<|k+2)-aS X Y A B (cy o<|k+1)):=NG () ();let u2:0<=q*(aS X Y A B (cy o k)-aS X Y A B (cy o<|k+1)):=NG () ();let pos:0<D*(aS X Y A B (cy o i)-aS X Y A B (cy o<|k+1)):=by
  rw[e];ext(z:aS X Y A B (cy o<|k+2)=aS X Y A B (cy o<|k+1));let:aS X Y A B (cy o k)-aS X Y A B (cy o<|k+1)<0:=by let:=λy=>n #[z,y];lia
  let:=MO x this;lia;let:aS X Y A B (cy o<|k+2)-aS X Y A B (cy o<|k+1)<0:=();let:=MO g this;lia
 apply BS;ext E;let:D*(aS X Y A B (cy o i)-aS X Y A B (cy o<|k+1))<=0:=N9 () ();lia
theorem fN.at(f:fN L R o X Y)(h:v∈o):∃k,v=cy o (k+1):=by let:=f.three;let#[i,a,e]:=Ib h;exact#[i+o.z-1,by rw[show i+o.z-1+1=i+o.z by lia,iL,a9 a,e]]
theorem fN.mem(f:fN L R o X Y)(k:Nat):cy o k∈o:=a8 (by let:=f.three;lia)
theorem fN.top(f:fN L R o X Y)(I:¬(A=0/\B=0)):∃n t2,n∈o/\t2∈o/\aS X Y A B t2=aS X Y A B n/\(n=t2\/((n,t2)∈sh 0 o\/(t2,n)∈sh 0 o))/\(∀v:Int,0<=v->v<L.z->aS X Y A B v<aS X Y A B n\/v=n\/v=t2)/\∀v∈o,aS X Y A B v<aS X Y A B n->∃y∈br L v,aS X Y A B v<aS X Y A B y:=by
 let m:=f.tg.map;let o3:=f.three;let g:=f.ld.good o f.om;let#[u,al,mx]:=xG (λi=>aS X Y A B<|cy o i) o.z ();obtain⟨k,ek⟩:∃k,cy o (k+1)=cy o u:=#[u+o.z-1,by rw[show u+o.z-1+1=u+o.z by lia,iL]];let t:∀i,aS X Y A B (cy o i)<=aS X Y A B (cy o<|k+1):=λi=>by let:=mx (i%o.z)<|AK _ ();let this:aS X Y A B (cy o<|i%o.z)<=aS X Y A B (cy o u):=this;rw[aH<|EX i o.z]at this;erw[ek,this]
 let K:=f.Vu I (k:=k) (t k)<|t<|k+2;obtain⟨t2,h2,e2,s2,C⟩:∃t2,t2∈o/\aS X Y A B t2=aS X Y A B (cy o<|k+1)/\(cy o (k+1)=t2\/((cy o<|k+1,t2)∈sh 0 o\/(t2,cy o<|k+1)∈sh 0 o))/\∀v∈o,aS X Y A B v<aS X Y A B (cy o<|k+1)\/v=cy o (k+1)\/v=t2:=by
  let ng:¬(aS X Y A B (cy o<|k+2)=aS X Y A B (cy o<|k+1)/\aS X Y A B (cy o k)=aS X Y A B (cy o<|k+1)):=λ⟨z1,s⟩=>I<|PB z1 s (by let:=f.turn k;lia);let get:∀v∈o,∃i,v=cy o i:=λv p=>by let#[k,e]:=f.at p;exact#[_,e]
  ext(s:aS X Y A B (cy o<|k+2)=aS X Y A B (cy o<|k+1));refine#[cy o<|k+2,f.mem _,s,.inr<|.inl<|(aF ()).mpr #[k+1,rfl],λv p=>?_];let#[i,rfl]:=get v p;ext(h|h|⟨_,h⟩|⟨h,_⟩:K i);exact .inl h;exact .inr<|.inl h;exact absurd #[s,h] ng;exact .inr<|.inr h;ext(z0:aS X Y A B (cy o k)=aS X Y A B (cy o<|k+1));refine#[cy o k,f.mem _,z0,.inr<|.inr<|(aF ()).mpr #[k,rfl],λv p=>?_];let#[i,rfl]:=get v p;ext(h|h|⟨h,_⟩|⟨_,h⟩:K i);exact .inl h;exact .inr<|.inl h;exact .inr<|.inr h;exact absurd h s;refine#[cy o<|k+1,f.mem _,rfl,.inl rfl,λv p=>?_];let#[i,rfl]:=get v p;ext(h|h|⟨_,h⟩|⟨_,h⟩:K i);exact .inl h;exact .inr<|.inl h;exact absurd h z0;exact absurd h s
 let sj:0<=cy o (k+1)/\cy o (k+1)<L.z:=eQ m f.ld f.om _;generalize W:cy o (k+1)=n at *;let hi:∀v∈o,aS X Y A B v<aS X Y A B n->∃y∈br L v,aS X Y A B v<aS X Y A B y:=λv p G=>by
  let#[j,rfl]:=f.at p;apply BS;ext D;let q1:aS X Y A B (cy o j)<=aS X Y A B (cy o<|j+1):=by ext(z:aS X Y A B (cy o<|j+1)<aS X Y A B (cy o j));exact absurd #[_,((g.dt j).back m).2.2.2,z] D;lia
  let q2:aS X Y A B (cy o<|j+2)<=aS X Y A B (cy o<|j+1):=by ext(z:aS X Y A B (cy o<|j+1)<aS X Y A B (cy o<|j+2));exact absurd #[_,(g.dt<|j+1).mem,z] D;lia
  let:=f.Vu I (k:=j) q1 q2<|k+1;rw[W]at this;ext(h|h|⟨h,h'⟩|⟨h,h'⟩:this);lia;rw[h]at G;lia;rw[h]at G;lia;rw[h]at G;lia
 let J:n∈o:=by erw[<-W,f.mem _]
 refine#[n,t2,J,h2,e2,s2,λv v0 v1=>?_,hi];obtain⟨y,hy,U,Q⟩:∃y∈o,y≠n/\y≠t2:=by
  apply BS;ext D;let:o.z<=[n,t2].z:=cp (f.tg.kR.rings f.ld o f.om) λx N=>by ext(a:x=n);rw[a];simp;ext(b:x=t2);rw[b];simp;exact absurd #[x,N,a,b] D
  simp at this;lia
 let ad:aS X Y A B y<aS X Y A B n:=by ext(h|h|h:C y hy);exact h;exact absurd h U;exact absurd h Q
 let P:0<=y/\y<L.z:=by let#[j,rfl]:=f.at hy;exact eQ m f.ld f.om _
 let#[r,ac,mu]:=xG (λi:Nat=>aS X Y A B (i:Int)) L.z (by let:=f.tg.four;lia);let M:∀x:Int,0<=x->x<L.z->aS X Y A B x<=aS X Y A B (r:Int):=λx F H=>by let:=mu x.toNat ();let this:aS X Y A B ((x.toNat:Nat):Int)<=aS X Y A B (r:Int):=this;rw[Hx F]at this;exact this
 let mt:=M n sj.1 sj.2;let O:∀x:Int,aS X Y A B x=aS X Y A B (r:Int)->0<=x->x<L.z->x≠n->x≠t2->False:=λx ex F H n1 S=>by
  let all:∀z,dH L [n,t2] x z->0<=z/\z<L.z/\z≠n/\z≠t2/\aS X Y A B z=aS X Y A B (r:Int):=λz hz=>by
   induction hz with
   | here=>exact#[F,H,n1,S,ex]
   | step h e N hn ih=>
    rename_i i l z;let#[E,i1,i2,i3,i4]:=ih;let Z:z∈br L (i:Int):=dQ e>>N
    let bk:=Dt.back (d:=((i:Int),z)) #[E,i1,Z] m;refine#[bk.1,bk.2.1,λq=>hn (by rw[q];simp),λq=>hn (by rw[q];simp),?_];let T:(i:Int)∉o:=λq=>by ext(h|h|h:C _ q);lia;exact i2 h;exact i3 h
    let sd:=tE (f:=aS X Y A B) (c:=aS X Y A B (i:Int)) (l:=br L (i:Int)) (by rw[wo,<-f.ax _ E i1 T,<-f.ay _ E i1 T];unfold aS;grind);ext(h|⟨_,y',Sb,am⟩:sd);rw[h z Z,i4];let w:=Dt.back (d:=((i:Int),y')) #[E,i1,Sb] m;let:=M y' w.1 w.2.1;lia
  let:=all y<|f.tg.QJ n t2 x y F H P.1 P.2 n1 S U Q;lia
 ext(c:v=n);exact .inr<|.inl c;ext(c2:v=t2);exact .inr<|.inr c2;left;let h1:=M v v0 v1;let h3:aS X Y A B (r:Int)=aS X Y A B n:=by ext(a:(r:Int)=n);rw[a];ext(b:(r:Int)=t2);erw[b,e2,absurd (O (r:Int) rfl () () a b) id]
 let:aS X Y A B v≠aS X Y A B (r:Int):=λz=>O v z v0 v1 c c2;lia
theorem fN.ht(f:fN L R o X Y)(D:¬(A=0/\B=0)):∃d t2 i s2,Ht L (aS X Y A B) d t2 i s2/\(d∈o/\t2∈o/\i∈o/\s2∈o)/\(d=t2\/((d,t2)∈sh 0 o\/(t2,d)∈sh 0 o))/\(i=s2\/((i,s2)∈sh 0 o\/(s2,i)∈sh 0 o)):=by
 let m:=f.tg.map;let Q:=f.three;let g:=f.ld.good o f.om;let#[d,t2,z,w,M,u,t,N]:=f.top D;let#[i,s2,b1,b2,G,C,r,E]:=f.top (A:=-A) (B:=-B)<|λh=>D ();simp only[zeB]at G r E;let pl:∀{v:Int},v∈o->0<=v/\v<L.z:=λ{v} K=>by let#[j,rfl]:=f.at K;exact eQ m f.ld f.om _
 let l:∀{x y:Int},((x,y)∈sh 0 o\/(y,x)∈sh 0 o)->y∈br L x:=λ{x y} h=>by ext(h|h:h);let#[j,e]:=(aF ()).mp h;let:=g.dt j;rw[<-e]at this;exact this.mem;let#[j,e]:=(aF ()).mp h;let:=(g.dt j).back m;rw[<-e]at this;exact this.2.2.2
 let H:aS X Y A B i<aS X Y A B d:=by
  obtain⟨y,k,O,J⟩:∃y∈o,y≠d/\y≠t2:=by
   apply BS;ext P;let:o.z<=[d,t2].z:=cp (f.tg.kR.rings f.ld o f.om) λx s=>by ext(a:x=d);rw[a];simp;ext(b:x=t2);rw[b];simp;exact absurd #[x,s,a,b] P
   simp at this;lia
  let q:=(t y (pl k).1 (pl k).2).resolve_right (λh=>by ext(h|h:h);exact O h;exact J h);ext(h|h|h:r y (pl k).1 (pl k).2);lia;rw[<-h];exact q;rw[h]at q;lia
 refine#[d,t2,i,s2,#[f.tg,pl z,pl w,pl b1,pl b2,M,(),u.imp_right l,C.imp_right l,H,t,λv n p=>(r v n p).imp_left λh=>(),λv n p q F=>?_],#[z,w,b1,b2],u,C];ext(c:v∈o);right;let#[y,k,I]:=N v c F;let#[x,s,ex]:=E v c ();exact#[#[x,s,()],y,k,I];refine tE ?_;rw[wo,<-f.ax _ n p c,<-f.ay _ n p c];unfold aS;grind
theorem kF{a b n:Nat}(d:a<b)(c:b<a+n):a%n≠b%n:=λe=>by let:=Nat.sub_mod_eq_zero_of_mod_eq e.symm;rw[AV ()]at this;lia
theorem fN.apart(f:fN L R o X Y)(t:a∈o)(r:b∈o)(q:a≠b):¬(X b=X a/\Y b=Y a):=λ⟨n,k⟩=>by
 let v:=f.three;let#[i,g,u]:=Ib t;let#[j,m,s]:=Ib r;let d:cy o i=a:=a9 g>>u
 let e:cy o j=b:=a9 m>>s
 let h:i≠j:=λz=>q (by rw[<-d,<-e,z]);let mi:=AV g;let l:=AV m;ext(c:j%o.z=(i+1)%o.z);let p:i%o.z≠(j+1)%o.z:=λz=>by
  let e1:(j+1)%o.z=(i+2)%o.z:=by rw[EN,c,<-EN]
  rw[e1]at z;exact kF () () z
 let:=f.cv j i (mi>>l>>h) p;rw[d,e]at this;unfold e9 at this;rw[n,k]at this;simp at this;let:=f.cv i j (by erw[mi,l,λz=>h z.symm]) c;rw[d,e]at this;unfold e9 at this;rw[n,k]at this;simp at this
theorem fN.WK(f:fN L R o X Y)(d:Dt L (a,b)):¬(X b=X a/\Y b=Y a):=λ⟨i,g⟩=>by
 let bk:=d.back f.tg.map;obtain⟨A,B,s,ex⟩:∃A B:Int,¬(A=0/\B=0)/\aS X Y A B (pre (br L a) b)=aS X Y A B a:=by ext(c:X (pre (br L a) b)=X a/\Y (pre (br L a) b)=Y a);exact#[1,0,by decide,by unfold aS;rw[c.1,c.2]];refine#[-(Y (pre (br L a) b)-Y a),X (pre (br L a) b)-X a,λz=>c (),by unfold aS;grind]
 let q:aS X Y A B b=aS X Y A B a:=by unfold aS;rw[i,g]
 let#[x,t2,v,s2,H,#[u,l,j,m],_,_]:=f.ht s;let e:∀{t t':Int},t∈o->t'∈o->(a=t\/a=t')->(b=t\/b=t')->False:=λ{t t'} C w y p=>by
  let r:a∈o:=by ext(z|z:y)<;>rw[z]<;>assumption
  let n:b∈o:=by ext(z|z:p)<;>rw[z]<;>assumption
  exact f.apart r n (A6 bk.2.2.1) #[i,g]
 ext(h|h:H.top a d.lo d.hi);ext(k|k:H.bot a d.lo d.hi);exact H.Hg d.lo d.hi k h d.mem q ex;let fa:aS X Y A B a=aS X Y A B v:=by ext(rfl|rfl:k);rfl;exact H.se
 exact e j m k<|(H.bot b bk.1 bk.2.1).resolve_left ();let fa:aS X Y A B a=aS X Y A B x:=by ext(rfl|rfl:h);rfl;exact H.te
 exact e u l h<|(H.top b bk.1 bk.2.1).resolve_left ()
theorem fN.dir(f:fN L R o X Y)(d:Dt L (a,b)):∃e t2 c s2,Ht L (aS X Y (-(Y b-Y a))<|X b-X a) e t2 c s2/\aS X Y (-(Y b-Y a)) (X b-X a) b=aS X Y (-(Y b-Y a)) (X b-X a) a/\
  ((aS X Y (-(Y b-Y a)) (X b-X a) c<aS X Y (-(Y b-Y a)) (X b-X a) a/\aS X Y (-(Y b-Y a)) (X b-X a) a<aS X Y (-(Y b-Y a)) (X b-X a) e)\/((a,b)∈sh 0 o\/(b,a)∈sh 0 o)/\((∀v:Int,0<=v->v<L.z->v≠a->v≠b->e9 X Y a b v<0)\/(∀v:Int,0<=v->v<L.z->v≠a->v≠b->0<e9 X Y a b v))):=by
 let bk:=d.back f.tg.map;let l:=bk.2.2.1;let#[e,t2,c,s2,H,_,s,q]:=f.ht (A:=-(Y b-Y a)) (B:=X b-X a)<|λz=>f.WK d ();let u:aS X Y (-(Y b-Y a)) (X b-X a) b=aS X Y (-(Y b-Y a)) (X b-X a) a:=by unfold aS;grind
 refine#[e,t2,c,s2,H,u,?_];let pair:∀{t t':Int},(t=t'\/((t,t')∈sh 0 o\/(t',t)∈sh 0 o))->(a=t\/a=t')->(b=t\/b=t')->((a,b)∈sh 0 o\/(b,a)∈sh 0 o)/\((a=t/\b=t')\/(a=t'/\b=t)):=λ{t t'} h n m=>by ext(h|h:h);exfalso;apply l;ext(z|z:n)<;>ext(w|w:m)<;>lia;ext(z|z:n)<;>ext(w|w:m);exact absurd (w.trans z.symm) l;rw[z,w];exact#[h,.inl #[rfl,rfl]];rw[z,w];exact#[h.symm,.inr #[rfl,rfl]];exact absurd (w.trans z.symm) l
 ext(h|h:H.top a d.lo d.hi);ext(k|k:H.bot a d.lo d.hi);exact .inl #[k,h];right;let fa:aS X Y (-(Y b-Y a)) (X b-X a) a=aS X Y (-(Y b-Y a)) (X b-X a) c:=by ext(rfl|rfl:k);rfl;exact H.se
 let x:=(H.bot b bk.1 bk.2.1).resolve_left ();let#[j,u2]:=pair q k x;refine#[j,.inr λv g i r p=>?_];rw[iM];let:=(H.bot v g i).resolve_right (λz=>by ext(⟨z1,z2⟩|⟨z1,z2⟩:u2)<;>ext(z|z:z)<;>lia);lia;right;let fa:aS X Y (-(Y b-Y a)) (X b-X a) a=aS X Y (-(Y b-Y a)) (X b-X a) e:=by ext(rfl|rfl:h);rfl;exact H.te
 let#[j,u2]:=pair s h<|(H.top b bk.1 bk.2.1).resolve_left ();refine#[j,.inl λv g i r p=>?_];rw[iM];let:=(H.top v g i).resolve_right (λz=>by ext(⟨z1,z2⟩|⟨z1,z2⟩:u2)<;>ext(z|z:z)<;>lia);lia
theorem fN.side(f:fN L R o X Y)(d:r∈R)(k:Nat):(∀w∈r,w≠cy r (k+1)->w≠cy r (k+2)->0<e9 X Y (cy r (k+1)) (cy r (k+2)) w)\/(∀w∈r,w≠cy r (k+1)->w≠cy r (k+2)->e9 X Y (cy r (k+1)) (cy r (k+2)) w<0):=by
 have pl:∀w∈r,0<=w/\w<L.length:=λw a=>by obtain⟨i,j,e⟩:=Ib a;have:=eQ f.tg.map f.ld d i;rwa[a9 j,e]at this
 obtain⟨p,t2,n,s2,H,l,h⟩:=f.dir ((f.ld.good r d).dt (k+1));rcases h with⟨m,g⟩|⟨_,h|h⟩;rcases H.Vg f.ld d l.symm m g with q|q;left;intro w a c b;have:=q w a c b;rw[iM];lia;right;intro w a c b;have:=q w a c b;rw[iM];lia;right;intro w a c b;exact h w (pl w a).1 (pl w a).2 c b;left;intro w a c b;exact h w (pl w a).1 (pl w a).2 c b
def tf(L:cq)(X Y:Int->Int)(d:af):Int:=e9 X Y d.1 d.2 (nx L d).2
theorem cD(t:b8 L)(a:dP L R)(b:r∈R)(d:i<j)(c:j<i+r.z):cy r i≠cy r j:=λe=>by let f:=t.three a b;unfold cy at e;rw[su,su,me (AK i<|show 0<r.z by lia),me<|AK j<|show 0<r.z by lia]at e;exact kF d c<|(Ez<|t.kR.rings a r b).mp e
theorem fN.along(f:fN L R o X Y)(d:r∈R)(k:Nat):(0<tf L X Y (dj r<|k+1)->0<tf L X Y (dj r<|k+2))/\(tf L X Y (dj r<|k+1)<0->tf L X Y (dj r<|k+2)<0)/\tf L X Y (dj r<|k+1)≠0:=by
 let s:=f.tg.three f.ld d;let e:∀j,tf L X Y (dj r j)=e9 X Y (cy r j) (cy r<|j+1) (cy r<|j+2):=λj=>by unfold tf;rw[(f.ld.good r d).st];rfl
 let g:∀j,cy r j∈r:=λj=>a8 ();let i:cy r (k+3)≠cy r (k+1):=A6<|cD f.tg f.ld d () ();let l:cy r (k+3)≠cy r (k+2):=A6<|cD f.tg f.ld d () ();let m:cy r (k+1)≠cy r (k+2):=cD f.tg f.ld d () ();let p:cy r (k+4)≠cy r (k+2):=A6<|cD f.tg f.ld d () ();let q:cy r (k+4)≠cy r (k+3):=A6<|cD f.tg f.ld d () ();rw[e,e];show(0<e9 X Y (cy r<|k+1) (cy r<|k+2) (cy r<|k+3)->0<e9 X Y (cy r<|k+2) (cy r<|k+3) (cy r<|k+4))/\(e9 X Y (cy r<|k+1) (cy r<|k+2) (cy r<|k+3)<0->e9 X Y (cy r<|k+2) (cy r<|k+3) (cy r<|k+4)<0)/\e9 X Y (cy r<|k+1) (cy r<|k+2) (cy r<|k+3)≠0;let t:=xp (X:=X) (Y:=Y) (a:=cy r<|k+1) (b:=cy r<|k+2) (c:=cy r<|k+3);let n:e9 X Y (cy r<|k+1) (cy r<|k+2) (cy r<|k+3)≠0:=by ext(h|h:f.side d k);let:=h _ (g<|k+3) i l;lia;let:=h _ (g<|k+3) i l;lia
 ext(h|h:f.side d<|k+1);let a:=h _ (g<|k+1) m<|A6 i;let b:=h _ (g<|k+4) p q;let a:0<e9 X Y (cy r<|k+2) (cy r<|k+3) (cy r<|k+1):=a;let b:0<e9 X Y (cy r<|k+2) (cy r<|k+3) (cy r<|k+4):=b;exact#[λ_=>b,λz=>(),n];let a:=h _ (g<|k+1) m<|A6 i;let b:=h _ (g<|k+4) p q;let a:e9 X Y (cy r<|k+2) (cy r<|k+3) (cy r<|k+1)<0:=a;exact#[λz=>(),λ_=>b,n]
theorem fN.J4(f:fN L R o X Y)(d:Dt L (a,y))(n:(a,pre (br L a) y)∉sh 0 o)(k:(pre (br L a) y,a)∉sh 0 o)(h:0<tf L X Y (y,a)):0<tf L X Y (pre (br L a) y,a):=by
 let c:0<=a:=d.lo;let e:a<L.z:=d.hi;let i:y∈br L a:=d.mem;let j:=f.tg.map.nd _ _<|ag c e;let b:=hJ i;let s:Dt L (a,pre (br L a) y):=#[c,e,b];let#[v,t2,u,s2,H,r,q]:=f.dir s;ext(⟨t,l⟩|⟨z|z,_⟩:q);let g:0<(br L a).z:=Fp b;let p:cy (br L a) ((br L a).idxOf (pre (br L a) y)+1)=y:=by refine hU j (a8 g) i ?_;rw[ck j g];let:=Ci b;rw[a9 this,Ex this]
 let m:=H.Yo c e t l b r;rw[p]at m;let e1:tf L X Y (y,a)=e9 X Y a (pre (br L a) y) y:=by show e9 X Y y a (pre (br L a) y)=_;rw[<-xp]
 let e2:tf L X Y (pre (br L a) y,a)=- e9 X Y a (pre (br L a) y) (pre (br L a)<|pre (br L a) y):=by show e9 X Y (pre (br L a) y) a (pre (br L a)<|pre (br L a) y)=_;rw[rO]
 rw[e1,iM]at h;rw[e2,iM];lia;exact absurd z n;exact absurd z k
theorem fN.nd(f:fN L R o X Y):o.Nodup:=f.tg.kR.rings f.ld o f.om
theorem fN.base(f:fN L R o X Y)(h:(a,b)∈sh 0 o):0<tf L X Y (b,a):=by
 let m:=f.tg.map;let S:=f.three;let#[j,e]:=(aF ()).mp h;let d:Dt L (a,b):=e>>(f.ld.good o f.om).dt j
 let bk:=d.back m;let#[G,t2,U,s2,H,F,q]:=f.dir d;let g:a=cy o j:=A4 Prod.fst e;let p:b=cy o (j+1):=A4 Prod.snd e;let Q:=f.cv j (j+2) (A6<|kF () ())<|A6<|kF () ();let n:∀i,cy o i≠a->cy o i≠b->e9 X Y a b (cy o i)<0:=λi E K=>by rw[g,p];refine f.cv j i (λz=>E ?_)<|λz=>K ?_;rw[g];exact aH z;erw[p,aH z]
 let r:cy o (j+2)≠a:=by erw[g,A6<|cD f.tg f.ld f.om () ()]
 let c:cy o (j+2)≠b:=by erw[p,A6<|cD f.tg f.ld f.om () ()]
 let l:0<=a:=d.lo;let k:a<L.z:=d.hi;let u:b∈br L a:=d.mem;let s:=Dt.back (d:=(a,pre (br L a) b)) #[l,k,hJ u] m;let I:pre (br L a) b≠b:=λz=>by let e1:=eX (m.nd _ _<|ag l k) u z;let e2:=f.tg.An l k;rw[e1]at e2;simp at e2
 let N:tf L X Y (b,a)=- e9 X Y a b (pre (br L a) b):=by show e9 X Y b a (pre (br L a) b)=_;rw[rO]
 rw[N];ext(⟨P,t⟩|⟨_,q|q⟩:q)
 
 exfalso;let W:=n (j+2) r c;let top:∀v∈o,aS X Y (-(Y b-Y a)) (X b-X a) v<=aS X Y (-(Y b-Y a)) (X b-X a) a:=λv J=>by let#[i,rfl]:=f.at J;ext(x:cy o (i+1)=a);rw[x];exact Jt _;ext(y:cy o (i+1)=b);rw[y,F];exact Jt _;let:=n (i+1) x y;rw[iM]at this;lia
 let#[D,u2,O,T,w,#[M,_,_,_],_,_]:=f.ht (A:=-(Y b-Y a)) (B:=X b-X a)<|λz=>f.WK d ();let e1:=top D M;ext(z|z|z:w.top G H.sj.1 H.sj.2);lia;rw[z]at t;lia;let:=w.te;rw[z]at t;lia;let:=q _ s.1 s.2.1 s.2.2.1 I;lia;exfalso;let C:=eQ m f.ld f.om<|j+2;let:=q _ C.1 C.2 r c;let:=n (j+2) r c;lia
def NU(L:cq)(o:cc)(X Y:Int->Int)(a:Int):Prop:=∀y∈br L a,(y,a)∉sh 0 o->0<tf L X Y (y,a)
theorem yM(k:l.Nodup){P:Int->Prop}{p:Int}(g:p∈l)(m:P<|pre l p)(st:∀y∈l,y≠p->P y->P (pre l y)):∀y∈l,P y:=by
 let d:0<l.z:=Fp g;let i:=Ci g;let h:∀{x:Int},x∈l->cy l (l.idxOf x)=x:=λ{x} r=>by let:=Ci r;rw[a9 this,Ex this]
 let j:∀t,t<l.z->P (cy l<|l.idxOf p+l.z-1-t):=λt=>by
  induction t with
  | zero=>intro _;exact m
  | succ t q=>
   ext s;let o:cy l (l.idxOf p+l.z-1-t)≠p:=λe=>by
    let mi:=AK (l.idxOf p+l.z-1-t) d;unfold cy at e;rw[su,me mi]at e;let e:l[(l.idxOf p+l.z-1-t)%l.z]=p:=e;let e2:l[(l.idxOf p+l.z-1-t)%l.z]=l[l.idxOf p]:=by rw[e,Ex i]
    exact kF (n:=l.z) (a:=l.idxOf p) (b:=l.idxOf p+l.z-1-t) () () (by rw[(Ez k).mp e2,AV i])
   let:=st _ (a8 d) o<|q ();rw[show l.idxOf p+l.z-1-t=(l.idxOf p+l.z-1-(t+1))+1 by lia,ck k d]at this;exact this
 ext y f;let u:=Ci f;ext(c:l.idxOf p<=l.idxOf y);let:=j (l.idxOf p+l.z-1-l.idxOf y) ();rw[show l.idxOf p+l.z-1-(l.idxOf p+l.z-1-l.idxOf y)=l.idxOf y by lia,h f]at this;exact this;let:=j (l.idxOf p-1-l.idxOf y) ();rw[show l.idxOf p+l.z-1-(l.idxOf p-1-l.idxOf y)=l.idxOf y+l.z by lia,iL,h f]at this;exact this
theorem fN.one(f:fN L R o X Y)(g:(a,x)∈sh 0 o)(e:(a,q)∈sh 0 o):x=q:=by let h:=f.three;let#[i,c]:=(aF ()).mp g;let#[j,d]:=(aF ()).mp e;let b:cy o i=cy o j:=(A4 Prod.fst c).symm.trans<|A4 Prod.fst d;unfold cy at b;rw[su,su,me (AK i<|show 0<o.z by lia),me<|AK j<|show 0<o.z by lia]at b;let:=aU<|(Ez f.nd).mp b;rw[<-c,<-d]at this;exact A4 Prod.snd this
theorem fN.YA(f:fN L R o X Y)(h:d∈sh 0 o):nx L d∈sh 0 o:=by let a:=f.three;let#[i,rfl]:=(aF ()).mp h;erw[(f.ld.good o f.om).st,(aF ()).mpr #[_,rfl]]
theorem fN.Y6(f:fN L R o X Y)(h:d∈sh 0 o):Dt L d:=by let a:=f.three;let#[i,rfl]:=(aF ()).mp h;exact(f.ld.good o f.om).dt i
theorem fN.fst(f:fN L R o X Y)(h:d∈sh 0 o):d.1∈o/\d.2∈o:=by let a:=f.three;let#[i,rfl]:=(aF ()).mp h;exact#[f.mem _,f.mem _]
theorem fN.outer(f:fN L R o X Y)(p:a∈o):NU L o X Y a:=by
 let m:=f.tg.map;let q:=f.three;let#[k,rfl]:=f.at p;let e:(cy o k,cy o<|k+1)∈sh 0 o:=(aF ()).mpr #[k,rfl];let bk:=(f.Y6 e).back m;let i:=m.nd _ _<|ag bk.1 bk.2.1;let g:=bk.2.2.2;let d:=f.YA e;let d:=d;let all:=yM (P:=λy=>y=cy o k\/0<tf L X Y (y,cy o<|k+1)) i g (.inr<|f.base d) λy b j h=>by
  ext(c:pre (br L<|cy o<|k+1) y=cy o k);exact .inl c;right;refine f.J4 #[bk.1,bk.2.1,b] (λz=>?_) (λz=>?_)<|h.resolve_left j;exact j<|hU i b g<|f.one z d
  
  let l:=f.YA z;exact c<|hU i (hJ b) g<|f.one l d
 ext y b n;ext(h|h:all y b);exact absurd (h▸e) n;exact h
theorem fN.aI(f:fN L R o X Y)(h:Dt L d):∃r∈R,∃k,d=dj r (k+1):=by let#[r,a,b]:=D8.mp<|f.ld.all d h;let c:=(f.ld.good r a).two;let#[j,rfl]:=(aF ()).mp b;exact#[r,a,j+r.z-1,by erw[show j+r.z-1+1=j+r.z by lia,(aU<|Aa _ _).symm]]
theorem fN.next(f:fN L R o X Y)(d:Dt L (b,a))(E:NU L o X Y b)(j:a∉o):NU L o X Y a:=by
 let m:=f.tg.map;let u:=d.lo;let b1:=d.hi;let w:=d.mem;let bk:=d.back m;let n:=bk.1;let A:=bk.2.1;let x:=bk.2.2.2;let c:=m.nd _ _<|ag n A;let s:=Fp w;let py:pre (br L b) (cy (br L b)<|(br L b).idxOf a+1)=a:=by rw[ck (m.nd _ _<|ag u b1) s];let:=Ci w;rw[a9 this,Ex this]
 let l:cy (br L b) ((br L b).idxOf a+1)∈br L b:=a8 s;generalize cy (br L b) ((br L b).idxOf a+1)=y at py l;let i:=Dt.back (d:=(b,y)) #[u,b1,l] m;let D:Dt L (y,b):=#[i.1,i.2.1,i.2.2.2];let g:nx L (y,b)=(b,a):=by show(b,pre (br L b) y)=_;rw[py]
 let G:=E y l λz=>by let:=f.YA z;rw[g]at this;exact j (f.fst this).2
 let#[r,v,k,e]:=f.aI D;let C:0<tf L X Y (b,a):=by erw[<-g,e,(f.ld.good r v).st,(f.along v k).1<|by erw[<-e,G]]
 let t:∀z:Int,(a,z)∉sh 0 o/\(z,a)∉sh 0 o:=λz=>#[λq=>j (f.fst q).1,λq=>j (f.fst q).2];let p:=Fp x;let B:pre (br L a) (cy (br L a)<|(br L a).idxOf b+1)=b:=by rw[ck c p];let:=Ci x;rw[a9 this,Ex this]
 ext z hz _;exact yM c (a8 p) (B>>C) (λy F _ h=>f.J4 #[n,A,F] (t _).1 (t _).2 h) z hz
theorem fN.left(f:fN L R o X Y)(h:Dt L d)(g:d∉sh 0 o):0<tf L X Y d:=by
 let m:=f.tg.map;let j:=f.three;let pl:=eQ m f.ld f.om 1;let bk:=h.back m;let all:∀x,dH L [-1,-1] (cy o 1) x->(0<=x/\x<L.z)/\NU L o X Y x:=λx b=>by
  induction b with
  | here=>exact#[pl,f.outer<|f.mem 1]
  | step k e b n a=>
   rename_i i l x;let d:Dt L ((i:Int),x):=#[a.1.1,a.1.2,dQ e>>b];let bk:=d.back m;refine#[#[bk.1,bk.2.1],?_];ext(c:x∈o);exact f.outer c;exact f.next d a.2 c
 exact (all d.2<|f.tg.QJ (-1) (-1) (cy o 1) d.2 pl.1 pl.2 bk.1 bk.2.1 () () () ()).2 d.1 bk.2.2.2 g
theorem fN.UR(f:fN L R o X Y)(a:r∈R)(b:∀j,dj r j∉sh 0 o)(k:Nat):∀w∈r,w≠cy r (k+1)->w≠cy r (k+2)->0<e9 X Y (cy r<|k+1) (cy r<|k+2) w:=by
 let g:=f.ld.good r a;let c:=f.tg.three f.ld a;ext(h|h:f.side a k);exact h;exfalso;let t:=f.left (g.dt<|k+1)<|b _;let e:tf L X Y (dj r<|k+1)=e9 X Y (cy r<|k+1) (cy r<|k+2) (cy r<|k+3):=by unfold tf;rw[g.st];rfl
 let:=h (cy r<|k+3) (a8 ()) (A6<|cD f.tg f.ld a () ())<|A6<|cD f.tg f.ld a () ();lia
end Gm
namespace rY
open PySem L2 Fr Gm Pg
open Dt (qt fa Lw dS CH)
open iQ (V3 l3 S3 tn wk)
def px(S:Int)(Z:List<|List<|Int×Int)(v:Int):Int:=(pt S<|Z.getD v.toNat []).x
def py(S:Int)(Z:List<|List<|Int×Int)(v:Int):Int:=(pt S<|Z.getD v.toNat []).y
theorem C3{S:Int}{v:Int}(g:0<S)(d:∀w:Int,0<=w->w<L.z->(X w:Rat)=q w*(S:Rat))(f:ah L)(b:0<=v)(c:v<L.z)(h:mH L q v):((br L v).z:Int)*X v=((br L v).map X).sum:=by
 refine L9.mp ?_;unfold mH at h;let rg:∀w∈br L v,0<=w/\w<L.z:=λw a=>by let:=f.rg _ _ (ag b c) w a;lia
 let e:((br L v).map λx=>(X x:Rat)).sum=((br L v).map λw=>(S:Rat)*q w).sum:=A4 List.sum (EU λw a=>by rw[d w (rg w a).1 (rg w a).2];grind);rw[rP,e,uX,<-h,Fj,Mj,d v b c];grind
theorem Vq(a:0<f.2)(h:f.2 ∣ S):(bx S f:Rat)=qt f*(S:Rat):=CH a h
def Zr(Z:List<|List<|Int×Int)(r:cc):List<|List<|Int×Int:=r.map λx=>Z.getD x.toNat []
section
variable {land:Nat}
theorem NQ.fits(d:NQ L o F Z)(c:o.Nodup)(of:o.z=F.z):Zr Z o=F:=by
 unfold Zr;refine IX (by rw[ZO,of]) λi e b=>?_;let a:i<o.z:=();let:=d.fix o[i]<|ET a;rw[(Ez c).mp<|Ex<|Ci<|ET a,su (l:=F),me b]at this;rw[IS,this];rfl
end
open Dt (qt fa Lw dS)
open iQ (V3 l3 S3 tn wk)
end rY
namespace Gm
open PySem L2
def zvaf(X Y:Int->Int)(p q m a b:Int):Int:=(X b-X a)*(q-m*Y a)-(Y b-Y a)*(p-m*X a)
def zvag(X Y:Int->Int)(r:List Int):Prop:=3<=r.length/\∀k i:Nat,i%r.length=k%r.length\/i%r.length=(k+1)%r.length\/0<e9 X Y (cy r k) (cy r (k+1)) (cy r i)
def zvah(X Y:Int->Int)(p q m:Int)(r:List Int):Prop:=∀k,0<zvaf X Y p q m (cy r k) (cy r (k+1))
section
variable {X Y:Int->Int} {r:List Int} {p q m:Int}
theorem zvaj{a b:Int}:zvaf X Y p q m b a=- zvaf X Y p q m a b:=by unfold zvaf;grind
theorem zvak{a b v:Int}:zvaf X Y (X v) (Y v) 1 a b=e9 X Y a b v:=by unfold zvaf e9;grind
theorem zvan{A B a b c:Int}:e9 X Y a b c*(A*p+B*q-m*aS X Y A B a)=zvaf X Y p q m c a*(aS X Y A B b-aS X Y A B a)+zvaf X Y p q m a b*(aS X Y A B c-aS X Y A B a):=by unfold e9 aS zvaf;grind
theorem zvag.ge(h:zvag X Y r)(k i:Nat):0<=e9 X Y (cy r k) (cy r (k+1)) (cy r i):=by
 rcases h.2 k i with e|e|e
 ·rw[aH e];unfold e9;grind
 ·rw[aH e];unfold e9;grind
 ·lia
theorem zvag.Vu(h:zvag X Y r)(hi:zvah X Y p q m r){A B:Int}(ab:¬(A=0/\B=0)):∃k,A*p+B*q<m*aS X Y A B (cy r k):=by
 have h3:=h.1;obtain⟨k0,hk0,mx⟩:=xG (λi=>aS X Y A B (cy r i)) r.length (by lia);have mx':∀i,aS X Y A B (cy r i)<=aS X Y A B (cy r (k0+r.length)):=λi=>by
  have:=mx (i%r.length) (AK _ (by lia));have this:aS X Y A B (cy r (i%r.length))<=aS X Y A B (cy r k0):=this;rwa [aH (EX i r.length),<-iL k0]at this
 obtain⟨k,ek⟩:∃k,k0+r.length=k+1:=⟨k0+r.length-1,by lia⟩;rw[ek]at mx';refine⟨k+1,?_⟩;have d:=((h.2 (k+1) k).resolve_left (kF (by lia) (by lia))).resolve_left (kF (by lia) (by lia));have e:=zvan (X:=X) (Y:=Y) (p:=p) (q:=q) (m:=m) (A:=A) (B:=B) (a:=cy r (k+1)) (b:=cy r (k+2)) (c:=cy r k);have a1:=hi k;have a2:=hi (k+1);have m1:=mx' k;have m2:=mx' (k+2);have ne:¬(aS X Y A B (cy r (k+2))=aS X Y A B (cy r (k+1))/\aS X Y A B (cy r k)=aS X Y A B (cy r (k+1))):=λ⟨z1,z2⟩=>ab (PB z1 z2 (Int.ne_of_gt d));have d:0<e9 X Y (cy r (k+1)) (cy r (k+2)) (cy r k):=d;have a2:0<zvaf X Y p q m (cy r (k+1)) (cy r (k+2)):=a2;generalize e9 X Y (cy r (k+1)) (cy r (k+2)) (cy r k)=D at *;generalize zvaf X Y p q m (cy r k) (cy r (k+1))=u at *;generalize zvaf X Y p q m (cy r (k+1)) (cy r (k+2))=w at *;have u1:u*(aS X Y A B (cy r (k+2))-aS X Y A B (cy r (k+1)))<=0:=NH (by lia) (by lia);have u2:w*(aS X Y A B (cy r k)-aS X Y A B (cy r (k+1)))<=0:=NH (by lia) (by lia);have lt:u*(aS X Y A B (cy r (k+2))-aS X Y A B (cy r (k+1)))<0\/w*(aS X Y A B (cy r k)-aS X Y A B (cy r (k+1)))<0:=by
  by_cases z:aS X Y A B (cy r (k+2))=aS X Y A B (cy r (k+1))
  ·exact .inr (Int.mul_neg_of_pos_of_neg a2 (by have:=λy=>ne ⟨z,y⟩;lia))
  ·exact .inl (Int.mul_neg_of_pos_of_neg a1 (by lia))
 apply BS;intro no;have:0<=D*(A*p+B*q-m*aS X Y A B (cy r (k+1))):=LI (by lia) (by lia)
 lia
theorem zvap{a b c d:Int}:(m*X d-p)*e9 X Y a b c+(p-m*X c)*e9 X Y a b d=- ((m*X b-p)*e9 X Y c d a+(p-m*X a)*e9 X Y c d b):=by unfold e9;grind
theorem zvag.right(h:zvag X Y r){i j:Nat}(a1:m*X (cy r i)<=p)(a2:p<m*X (cy r (i+1)))(b1:m*X (cy r j)<=p)(b2:p<m*X (cy r (j+1))):j%r.length=i%r.length:=by
 rcases h.2 i j with e|e|e
 ·exact e
 ·rw[aH e]at b1;lia
 ·have:=zvap (X:=X) (Y:=Y) (m:=m) (p:=p) (a:=cy r i) (b:=cy r (i+1)) (c:=cy r j) (d:=cy r (j+1));have:=E7 (show 0<m*X (cy r (j+1))-p by lia) e;have:=LI (show 0<=p-m*X (cy r j)by lia) (h.ge i (j+1));have:=LI (show 0<=m*X (cy r (i+1))-p by lia) (h.ge j i);have:=LI (show 0<=p-m*X (cy r i)by lia) (h.ge j (i+1))
  lia
theorem zvaq{i j:Nat}(hi:i<r.length)(a:m*X (cy r i)<=p)(b:p<m*X (cy r j)):(∃k,k<r.length/\m*X (cy r k)<=p/\p<m*X (cy r (k+1)))/\∃k,k<r.length/\m*X (cy r (k+1))<=p/\p<m*X (cy r k):=by
 have n0:0<r.length:=by lia
 have red:∀t,cy r (t%r.length)=cy r t/\cy r (t%r.length+1)=cy r (t+1):=λt=>⟨aH (EX _ _),aH (by rw[EN,EX,<-EN])⟩;have ej:cy r (j%r.length+r.length)=cy r j:=by rw[iL,(red j).1]
 have mj:=AK j n0;constructor
 ·obtain⟨t,_,_,h⟩:=Tz (f:=λk=>if m*X (cy r k)<=p then 0 else 1) (s:=i) (d:=j%r.length+r.length-i) (by
   rw[show i+(j%r.length+r.length-i)=j%r.length+r.length by lia,ej,Al a,Ak (by lia)];decide)
  refine⟨t%r.length,AK _ n0,?_⟩;rw[(red t).1,(red t).2];split at h<;>split at h<;>lia
 ·obtain⟨t,_,_,h⟩:=mD (f:=λk=>if m*X (cy r k)<=p then 0 else 1) (s:=j%r.length) (d:=i+r.length-j%r.length) (by
   rw[show j%r.length+(i+r.length-j%r.length)=i+r.length by lia,iL,(red j).1,Al a,Ak (by lia)];decide)
  refine⟨t%r.length,AK _ n0,?_⟩;rw[(red t).1,(red t).2];split at h<;>split at h<;>lia
theorem zvar{a b c d:Int}:(X c-X d)*zvaf X Y p q m a b+(X b-X a)*zvaf X Y p q m c d=(m*X c-p)*e9 X Y a b d+(p-m*X d)*e9 X Y a b c:=by unfold zvaf e9;grind
def zvat(X Y:Int->Int)(p q m:Int)(d:af):Bool:=decide (m*X d.2<=p/\p<m*X d.1/\0<zvaf X Y p q m d.1 d.2)
def zvau(X Y:Int->Int)(p q m:Int)(d:af):Bool:=zvat X Y p q m (d.2,d.1)
theorem zvav{d:af}:zvat X Y p q m d=true↔m*X d.2<=p/\p<m*X d.1/\0<zvaf X Y p q m d.1 d.2:=Ii
theorem zvaw{d:af}:zvau X Y p q m d=true↔m*X d.1<=p/\p<m*X d.2/\zvaf X Y p q m d.1 d.2<0:=by
 unfold zvau;rw[zvav];dsimp only;rw[zvaj]
 lia
def zvax(P:af->Bool)(r:List Int):Nat:=((sh 0 r).filter P).length
theorem zvay{l:List af}(nd:l.Nodup){P:af->Bool}(h:∀x∈l,∀y∈l,P x=true->P y=true->y=x):(l.filter P).length<=1:=by
 cases e:l.filter P with
 | nil=>exact Bv _
 | cons x t=>
  have hx:=Gp.mp (e▸AO:x∈l.filter P);rw[<-e];exact cp (r:=[x]) (nd.sublist Lo) λy hy=>by
   have hy:=Gp.mp hy;rw[h x hx.1 y hy.1 hx.2 hy.2];exact AO
theorem zvag.pos(h:zvag X Y r):0<r.length:=by have:=h.1;lia
theorem zvag.und1(h:zvag X Y r)(nd:(sh 0 r).Nodup){Y':Int->Int}{q':Int}:zvax (zvau X Y' p q' m) r<=1:=zvay nd λx hx y hy ux uy=>by
 obtain⟨i,rfl⟩:=(aF h.pos).mp hx;obtain⟨j,rfl⟩:=(aF h.pos).mp hy;have a:=zvaw.mp ux;have b:=zvaw.mp uy;exact aU (h.right a.1 a.2.1 b.1 b.2.1)
theorem zvaz{P:af->Bool}(h:0<r.length){k:Nat}(e:P (dj r k)=true):1<=zvax P r:=Fp (Gp.mpr ⟨(aF h).mpr ⟨k,rfl⟩,e⟩)
theorem zvaA{P:af->Bool}(h:0<r.length)(e:zvax P r≠0):∃k,k<r.length/\P (dj r k)=true:=by
 obtain⟨d,hd⟩:=List.exists_mem_of_length_pos (Nat.pos_of_ne_zero e);obtain⟨k,hk,rfl⟩:=A3.mp (Gp.mp hd).1;exact⟨k,Ad.mp hk,(Gp.mp hd).2⟩
theorem zvaB(hm:0<m){a b:Int}(h1:m*X a<=p)(h2:p<m*X b):0<X b-X a:=by
 apply BS;intro no;have:=Int.mul_le_mul_of_nonneg_left (show X b<=X a by lia) (Ft hm)
 lia
theorem zvag.le(h:zvag X Y r)(nd:(sh 0 r).Nodup)(hm:0<m):zvax (zvau X Y p q m) r<=zvax (zvat X Y p q m) r:=by
 by_cases c:zvax (zvau X Y p q m) r=0
 ·lia
 ·obtain⟨i,hi,hu⟩:=zvaA h.pos c;obtain⟨u1,u2,u3⟩:=zvaw.mp hu;have u3:zvaf X Y p q m (cy r i) (cy r (i+1))<0:=u3;obtain⟨k,_,k1,k2⟩:=(zvaq hi u1 u2).2;have:=h.und1 (p:=p) (m:=m) nd (Y':=Y) (q':=q);have g:=zvar (X:=X) (Y:=Y) (p:=p) (q:=q) (m:=m) (a:=cy r i) (b:=cy r (i+1)) (c:=cy r k) (d:=cy r (k+1));have:=LI (show 0<=m*X (cy r k)-p by lia) (h.ge i (k+1));have:=LI (show 0<=p-m*X (cy r (k+1))by lia) (h.ge i k);have x1:=zvaB hm u1 u2;have x2:=zvaB hm k1 k2;have:=Int.mul_neg_of_pos_of_neg x2 u3;have x1:0<X (cy r (i+1))-X (cy r i):=x1;have:=zvaz (P:=zvat X Y p q m) h.pos (k:=k) (zvav.mpr ⟨k1,k2,by
   apply BS;intro no;have:=NH (Ft x1) (show zvaf X Y p q m (cy r k) (cy r (k+1))<=0 from Int.not_lt.mp no)
   lia⟩)
  lia
theorem zvag.over(h:zvag X Y r)(hi:zvah X Y p q m r):∃i,i<r.length/\m*X (cy r i)<=p/\∃j,p<m*X (cy r j):=by
 obtain⟨j,hj⟩:=h.Vu hi (A:=1) (B:=0) (by decide);obtain⟨i,hi⟩:=h.Vu hi (A:=-1) (B:=0) (by decide);unfold aS at hi hj;refine⟨i%r.length,AK _ h.pos,?_,j,by grind⟩;rw[aH (EX _ _)];grind
theorem zvag.ins(h:zvag X Y r)(hi:zvah X Y p q m r):zvax (zvau X Y p q m) r=0/\1<=zvax (zvat X Y p q m) r:=by
 obtain⟨i,i0,i1,j,j1⟩:=h.over hi;obtain⟨k,_,k1,k2⟩:=(zvaq i0 i1 j1).2;refine⟨BS λc=>?_,zvaz h.pos (k:=k) (zvav.mpr ⟨k1,k2,hi k⟩)⟩;obtain⟨i,_,hu⟩:=zvaA h.pos c;have a:=hi i;have b:zvaf X Y p q m (cy r i) (cy r (i+1))<0:=(zvaw.mp hu).2.2
 lia
end
section
variable {L R:List (List Int)} {o r r':List Int} {X Y:Int->Int} {p q m:Int}
theorem zvaC(im:ah L)(ld:dP L R)(P:af->Bool):((R.flatMap (sh 0)).filter λd=>P (d.2,d.1)).length=((R.flatMap (sh 0)).filter P).length:=by
 have pm:(cT L L.length).Perm (R.flatMap (sh 0)):=by
  rw[N5 (aZ im (Xx _)) ld.nd];exact λd=>⟨λh=>ld.all d (Dt.of h),λh=>((ld.dec.mem d).mp h).all⟩
 rw[<-(pm.filter P).length_eq,<-(pm.filter λd=>P (d.2,d.1)).length_eq,<-((zcu im).filter P).length_eq,Jy,ZO]
 rfl
def zvaD(P:af->Bool)(R:List (List Int)):Nat:=((R.flatMap (sh 0)).filter P).length
theorem zvaE{P:af->Bool}:zvaD P (r::R)=zvax P r+zvaD P R:=by unfold zvaD zvax;rw[HM,Hi,Ac]
theorem zvaF{P:af->Bool}{S:List (List Int)}(h:R.Perm S):zvaD P R=zvaD P S:=((h.flatMap_right _).filter P).length_eq
theorem zvaG{P Q:af->Bool}:∀{R:List (List Int)},(∀r∈R,zvax P r<=zvax Q r)->zvaD P R<=zvaD Q R
 | [],_=>Xx _
 | r::R,h=>by
  have:=h r AO;have:=zvaG (R:=R) λr hr=>h r (A7 _ hr);rw[zvaE,zvaE]
  lia
theorem dP.offs(ld:dP L R)(h:r∈R)(h':r'∈R)(ne:r≠r')(d:af)(hd:d∈sh 0 r):d∉sh 0 r':=λWu=>by
 obtain⟨S,p⟩:=qu h;have nd:=(p.flatMap_right (sh 0)).nodup_iff.mp ld.nd;rw[HM,J1]at nd;exact nd.2.2 d hd d (D8.mpr ⟨r',((BX.mp (p.mem_iff.mp h')).resolve_left (A6 ne)),Wu⟩) rfl
theorem fN.cvx(f:fN L R o X Y)(hr:r∈R)(ne:r≠o):zvag X Y r:=by
 have r3:=f.tg.three f.ld hr;refine⟨r3,λk i=>?_⟩;by_cases a:i%r.length=k%r.length
 ·exact .inl a
 ·by_cases b:i%r.length=(k+1)%r.length
  ·exact .inr (.inl b)
  ·have t:=f.UR hr (λj=>f.ld.offs hr f.om ne _ ((aF (by lia)).mpr ⟨j,rfl⟩)) (k+r.length-1) (cy r i) (a8 (by lia));rw[show k+r.length-1+1=k+r.length by lia,show k+r.length-1+2=(k+1)+r.length by lia,iL,iL]at t;have ap:∀j,i%r.length≠j%r.length->cy r i≠cy r j:=λj n e=>by
    have l0:0<r.length:=by lia
    have nd:=f.tg.kR.rings f.ld r hr;have mi:=AK i l0;have mj:=AK j l0;unfold cy at e;rw[su,su,me mi,me mj]at e;exact n ((Ez nd).mp e)
   exact .inr (.inr (t (ap _ a) (ap _ b)))
theorem fN.cvo(f:fN L R o X Y):zvag X (λv=>- Y v) o:=by
 refine⟨f.three,λk i=>?_⟩;by_cases a:i%o.length=k%o.length
 ·exact .inl a
 ·by_cases b:i%o.length=(k+1)%o.length
  ·exact .inr (.inl b)
  ·have:=f.cv k i a b;exact .inr (.inr (by rw[show e9 X (λv=>- Y v) (cy o k) (cy o (k+1)) (cy o i)=- e9 X Y (cy o k) (cy o (k+1)) (cy o i)by unfold e9;grind];lia))
theorem fN.only(f:fN L R o X Y)(hm:0<m)(h:r∈R)(h':r'∈R)(n:r≠o)(n':r'≠o)(i:zvah X Y p q m r)(i':zvah X Y p q m r'):r=r':=by
 apply BS;intro ne;obtain⟨S,e⟩:=qu f.om;obtain⟨S1,e1⟩:=qu ((BX.mp (e.mem_iff.mp h)).resolve_left n);obtain⟨S2,e2⟩:=qu ((BX.mp (e1.mem_iff.mp ((BX.mp (e.mem_iff.mp h')).resolve_left n'))).resolve_left (A6 ne));have pm:=e.trans ((e1.trans (e2.cons r)).cons o);have nd:=f.ld.nd;have t:zvaD (zvau X Y p q m) R=zvaD (zvat X Y p q m) R:=zvaC f.tg.map f.ld (zvat X Y p q m);rw[zvaF pm,zvaF pm,zvaE,zvaE,zvaE,zvaE,zvaE,zvaE]at t;have a:=(f.cvx h n).ins i;have b:=(f.cvx h' n').ins i';have c:=f.cvo.und1 (p:=p) (m:=m) (qd f.ld f.om) (Y':=Y) (q':=q);have d:zvaD (zvau X Y p q m) S2<=zvaD (zvat X Y p q m) S2:=zvaG λs hs=>by
  have sm:s∈R:=pm.mem_iff.mpr (by simp[hs]);refine(f.cvx sm λz=>?_).le (qd f.ld sm) hm;have nd:=(pm.flatMap_right (sh 0)).nodup_iff.mp nd;rw[HM,J1]at nd;have d0:dj o 0∈sh 0 o:=(aF f.cvo.pos).mpr ⟨0,rfl⟩;exact nd.2.2 _ d0 _ (D8.mpr ⟨s,by simp[hs],by rw[z];exact d0⟩) rfl
 lia
end
end Gm
namespace rY
open PySem L2 Fr Gm Pg
open Dt (qt fa Lw dS CH)
open iQ (V3 l3 S3 tn wk)
def zvaH(Z:List (List (Int×Int)))(r:List Int)(p:List (Int×Int))(h:Int):Prop:=∀k,k<r.length->0<FC (Z.getD (cy r (k+r.length-1)).toNat []) (Z.getD (cy r k).toNat []) p*h
theorem zvaJ{A B x y:Int}(hA:0<A)(hB:0<B)(e:A*x=B*y):(0<x↔0<y)/\(x<0↔y<0):=by
 have h1:=LK hA hB e;have h2:=LK (x:=-x) (y:=-y) hA hB (by rw[Int.mul_neg,e,Int.mul_neg])
 lia
theorem zvaK{S:Int}(hS:0<S){a b p:List (Int×Int)}(ha:P2 a)(hb:P2 b)(hp:P2 p)(ba:KJ S a)(bb:KJ S b)(bp:KJ S p):(0<FC a b p↔0<cr (Pg.sub (pt S b) (pt S a)) (Pg.sub (pt S p) (pt S a)))/\(FC a b p<0↔cr (Pg.sub (pt S b) (pt S a)) (Pg.sub (pt S p) (pt S a))<0):=by
 obtain⟨s0,e⟩:=Tu hS ha hb hp ba bb bp;rw[show cr (Pg.sub (pt S b) (pt S a)) (Pg.sub (pt S p) (pt S b))=cr (Pg.sub (pt S b) (pt S a)) (Pg.sub (pt S p) (pt S a))by unfold cr Pg.sub;grind]at e;exact zvaJ (E7 hS hS) (E7 s0 s0) e
theorem zvaL{a b p:List (Int×Int)}(ha:P2 a)(hb:P2 b)(hp:P2 p):0<tn (t3 (wr a)) (t3 (wr b)) (t3 (wr p))↔0<FC a b p:=by
 obtain⟨S,hS,h⟩:=xE (Y:=[a,b,p]) (by simp[ha,hb,hp]);have ba:=h a (by simp);have bb:=h b (by simp);have bp:=h p (by simp);obtain⟨a0,a1,a2⟩:=Aq ha hS ba;obtain⟨b0,b1,b2⟩:=Aq hb hS bb;obtain⟨c0,c1,c2⟩:=Aq hp hS bp;rw[(zvaK hS ha hb hp ba bb bp).1];exact LK (E7 hS hS) (E7 (E7 a0 b0) c0) (UT (a:=t3 (wr a)) (b:=t3 (wr b)) (c:=t3 (wr p)) hS a0 b0 c0 a1 a2 b1 b2 c1 c2)
section
variable {L R:List (List Int)} {Z:List (List (Int×Int))} {o r r':List Int} {S:Int} {p:List (Int×Int)}
theorem zvaN{Q:Int->Int->Prop}(h0:0<r.length):(∀k,k<r.length->Q (cy r (k+r.length-1)) (cy r k))↔∀k,Q (cy r k) (cy r (k+1)):=by
 constructor
 ·intro h k;have:=h ((k+1)%r.length) (AK _ h0);rw[aH (EX _ _),aH (i:=(k+1)%r.length+r.length-1) (j:=k) (by
   rw[show(k+1)%r.length+r.length-1=(k+1)%r.length+(r.length-1)by lia,EN,EX,<-EN,show k+1+(r.length-1)=k+r.length by lia,Aa])]at this
  exact this
 ·intro h k hk;have:=h (k+r.length-1);rw[show k+r.length-1+1=k+r.length by lia,iL]at this;exact this
structure zvaO(L R:List (List Int))(o:List Int)(Z:List (List (Int×Int)))(S:Int):Prop where
 f:fN L R o (px S Z) (py S Z)
 zl:Z.length=L.length
 zp:∀q∈Z,P2 q
 hS:0<S
 hb:∀q∈Z,KJ S q
theorem zvaO.at(h:zvaO L R o Z S)(hr:r∈R)(k:Nat):P2 (Z.getD (cy r k).toNat [])/\KJ S (Z.getD (cy r k).toNat []):=by
 have:=eQ h.f.tg.map h.f.ld hr k;have m:=bh (Y:=Z) (d:=[]) (i:=(cy r k).toNat) (by rw[h.zl];lia);exact⟨h.zp _ m,h.hb _ m⟩
theorem zvaO.FC(h:zvaO L R o Z S)(hr:r∈R)(hp:P2 p)(bp:KJ S p)(i j:Nat):(0<FC (Z.getD (cy r i).toNat []) (Z.getD (cy r j).toNat []) p↔0<zvaf (px S Z) (py S Z) (pt S p).x (pt S p).y 1 (cy r i) (cy r j))/\(rY.FC (Z.getD (cy r i).toNat []) (Z.getD (cy r j).toNat []) p<0↔zvaf (px S Z) (py S Z) (pt S p).x (pt S p).y 1 (cy r i) (cy r j)<0):=by
 have e:zvaf (px S Z) (py S Z) (pt S p).x (pt S p).y 1 (cy r i) (cy r j)=cr (Pg.sub (pt S (Z.getD (cy r j).toNat [])) (pt S (Z.getD (cy r i).toNat []))) (Pg.sub (pt S p) (pt S (Z.getD (cy r i).toNat []))):=by
  unfold zvaf cr Pg.sub px py;rw[Int.one_mul,Int.one_mul]
 rw[e];exact zvaK h.hS (h.at hr i).1 (h.at hr j).1 hp (h.at hr i).2 (h.at hr j).2 bp
theorem zvaO.lf(h:zvaO L R o Z S)(hr:r∈R)(hp:P2 p)(bp:KJ S p):zvaH Z r p 1↔zvah (px S Z) (py S Z) (pt S p).x (pt S p).y 1 r:=by
 have r3:=h.f.tg.three h.f.ld hr;refine Iff.trans ?_ (zvaN (Q:=λa b=>0<zvaf (px S Z) (py S Z) (pt S p).x (pt S p).y 1 a b) (by lia));unfold zvaH;refine forall_congr' λk=>forall_congr' λ_=>?_;rw[Int.mul_one];exact(h.FC hr hp bp _ _).1
theorem zvaO.one(h:zvaO L R o Z S)(hp:P2 p)(bp:KJ S p)(hr:r∈R)(xR:r'∈R)(n:r≠o)(n':r'≠o)(i:zvaH Z r p 1)(i':zvaH Z r' p 1):r=r':=h.f.only (by decide) hr xR n n' ((h.lf hr hp bp).mp i) ((h.lf xR hp bp).mp i')
theorem zvaO.of(tg:b8 L)(ld:dP L R)(om:o∈R)(dr:NQ L o ((List.range o.length).map (gD o.length)) Z)(hS:0<S)(hb:∀q∈Z,KJ S q):zvaO L R o Z S:=by
 have im:=tg.map;have o3:=tg.three ld om;have nd:=tg.kR.rings ld o om;have hq:∀(w:Int),0<=w->w<L.length->(px S Z w:Rat)=qx Z w*(S:Rat)/\(py S Z w:Rat)=qy Z w*(S:Rat):=λw w0 w1=>by
  have m:=bh (Y:=Z) (d:=[]) (i:=w.toNat) (by rw[dr.len];lia);obtain⟨f,g,e,lf,lg⟩:=(dr.p2 _ m).two;have b:=hb _ m;unfold px py qx qy;rw[e]at b ⊢;exact⟨Vq lf.1 b.1,Vq lg.1 b.2⟩
 have co:∀i,i<o.length->px S Z (cy o i)=((o.length-1-i:Nat):Int)*S/\py S Z (cy o i)=((o.length-1-i:Nat):Int)*((o.length-1-i:Nat):Int)*S:=λi hi=>by
  have e:=dr.fix (cy o i) (a8 (by lia));have ix:o.idxOf (cy o i)=i:=by
   rw[a9 hi];exact(Ez nd).mp (Ex (Ci (ET hi)))
  rw[ix,su (l:=List.map _ _),AY,Fy hi]at e;unfold px py;rw[e];show((o.length-1-i:Nat):Int)*(S / 1)=_/\((o.length-1-i:Nat):Int)*((o.length-1-i:Nat):Int)*(S / 1)=_;rw[Int.ediv_one];exact⟨rfl,rfl⟩
 refine⟨⟨tg,ld,om,λk i n1 n2=>?_,λv v0 v1 vn=>C3 hS (λw w0 w1=>(hq w w0 w1).1) im v0 v1 (dr.mid v v0 v1 vn).1,λv v0 v1 vn=>C3 hS (λw w0 w1=>(hq w w0 w1).2) im v0 v1 (dr.mid v v0 v1 vn).2⟩,dr.len,dr.p2,hS,hb⟩;have mk:=AK k (show 0<o.length by lia);have mi:=AK i (show 0<o.length by lia);have m1:=AK (k+1) (show 0<o.length by lia);have Fo:(k+1)%o.length=if k%o.length+1=o.length then 0 else k%o.length+1:=by
  rw[EN,AV (show 1<o.length by lia)];split
  ·rename_i c;rw[c,Gk]
  ·rw[AV (by lia)]
 rw[<-aH (EX k o.length),<-aH (EX (k+1) o.length),<-aH (EX i o.length)];obtain⟨a1,a2⟩:=co _ mk;obtain⟨b1,b2⟩:=co _ m1;obtain⟨c1,c2⟩:=co _ mi;generalize ha:((o.length-1-k%o.length:Nat):Int)=a at *;generalize Wy:((o.length-1-(k+1)%o.length:Nat):Int)=b at *;generalize hc:((o.length-1-i%o.length:Nat):Int)=c at *;have e:e9 (px S Z) (py S Z) (cy o (k%o.length)) (cy o ((k+1)%o.length)) (cy o (i%o.length))=S*S*((b-a)*((c-a)*(c-b))):=by unfold e9;rw[a1,a2,b1,b2,c1,c2];grind
 rw[e];refine Int.mul_neg_of_pos_of_neg (E7 hS hS) ?_;split at Fo
 ·exact Int.mul_neg_of_pos_of_neg (by lia) (Int.mul_neg_of_pos_of_neg (by lia) (by lia))
 ·rcases Hk (i%o.length) (k%o.length)with z|z
  ·exact Int.mul_neg_of_neg_of_pos (by lia) (E7 (by lia) (by lia))
  ·exact Int.mul_neg_of_neg_of_pos (by lia) (MO (by lia) (by lia))
end
end rY
namespace rY
open PySem L2 Fr Gm Pg
open Dt (qt fa Lw dS CH)
open iQ (V3 l3 S3 tn wk)
theorem zvaV{L:List (List Int)}{o:List Int}{D:Int->Int}(im:ah L)(gu:sV L){x:Int}(hx:x∈o)(x0:0<=x/\x<L.length)(z:∀y∈o,D y=0)(mid:∀v:Int,0<=v->v<L.length->v∉o->((br L v).length:Int)*D v=((br L v).map D).sum){v:Int}(v0:0<=v)(v1:v<L.length):D v<=0:=by
 obtain⟨k,hk,mx⟩:=xG (λi=>D (i:Int)) L.length (by lia);have top:∀w:Int,0<=w->w<L.length->D w<=D (k:Int):=λw w0 w1=>by
  have:=mx w.toNat (by lia);rw[show((w.toNat:Nat):Int)=w by lia]at this;exact this
 refine Int.le_trans (top v v0 v1) (Int.not_lt.mp λpos=>?_);have k0:(0:Int)<=(k:Int)/\(k:Int)<L.length:=by lia
 have z0:(0:Int)<=0/\(0:Int)<L.length:=by lia
 have go:∀w,Reach L (k:Int) w->D w=D (k:Int):=λw h=>by
  induction h with
  | here=>rfl
  | step h1 e hy ih=>
   rename_i i l y;have hi:=(AA.mp e).1;have r1:(0:Int)<=(i:Int)/\(i:Int)<L.length:=by lia
   have no:(i:Int)∉o:=λc=>by have:=z _ c;lia
   have ES:=ag r1.1 r1.2;rw[EC,e]at ES;have er:=BV ES;have ry:=im.rg _ _ e _ hy;rcases tE (mid _ r1.1 r1.2 no)with h|⟨_,w,hw,lt⟩
   ·rw[h y (er▸hy),ih]
   ·have AM:=im.rg _ _ e w (er▸hw);have:=top w AM.1 AM.2.1
    lia
 have:=go x (((gu _ k0.1 k0.2).sym im z0).trans (gu x x0.1 x0.2));have:=z x hx
 lia
theorem zvaW{L:List (List Int)}{o:List Int}{Z1 Z2:List (List (Int×Int))}(im:ah L)(gu:sV L){x:Int}(hx:x∈o)(x0:0<=x/\x<L.length)(l1:Z1.length=L.length)(l2:Z2.length=L.length)(p1:∀q∈Z1,P2 q)(p2:∀q∈Z2,P2 q)(fx:∀y∈o,Z1.getD y.toNat []=Z2.getD y.toNat [])(m1:∀v:Int,0<=v->v<L.length->v∉o->mH L (qx Z1) v/\mH L (qy Z1) v)(m2:∀v:Int,0<=v->v<L.length->v∉o->mH L (qx Z2) v/\mH L (qy Z2) v):Z1=Z2:=by
 obtain⟨S,hS,hb⟩:=xE (Y:=Z1++Z2) λq hq=>(J3.mp hq).elim (p1 q) (p2 q);have hq:∀{Z:List (List (Int×Int))},Z.length=L.length->(∀q∈Z,P2 q)->(∀q∈Z,KJ S q)->∀(w:Int),0<=w->w<L.length->(px S Z w:Rat)=qx Z w*(S:Rat)/\(py S Z w:Rat)=qy Z w*(S:Rat):=λ{Z} l p b w w0 w1=>by
  have m:=bh (Y:=Z) (d:=[]) (i:=w.toNat) (by rw[l];lia);obtain⟨f,g,e,lf,lg⟩:=(p _ m).two;have b:=b _ m;unfold px py qx qy;rw[e]at b ⊢;exact⟨Vq lf.1 b.1,Vq lg.1 b.2⟩
 have b1:∀q∈Z1,KJ S q:=λq h=>hb q (E9 _ h);have b2:∀q∈Z2,KJ S q:=λq h=>hb q (E8 _ h);have q1:=hq l1 p1 b1;have q2:=hq l2 p2 b2;have key:∀{A B:Int->Int},(∀y∈o,A y=B y)->(∀v:Int,0<=v->v<L.length->v∉o->((br L v).length:Int)*A v=((br L v).map A).sum)->(∀v:Int,0<=v->v<L.length->v∉o->((br L v).length:Int)*B v=((br L v).map B).sum)->∀v:Int,0<=v->v<L.length->A v<=B v:=λ{A B} e ha hb v v0 v1=>by
  have sub:∀l:List Int,(l.map λw=>A w-B w).sum=(l.map A).sum-(l.map B).sum:=λl=>by
   induction l with
   | nil=>rfl
   | cons y l ih=>rw[Ap,Ek,Ap,Ek,Ap,Ek,ih];lia
  have:=zvaV (D:=λw=>A w-B w) im gu hx x0 (λy hy=>by have:=e y hy;lia) (λv v0 v1 vn=>by rw[sub,<-ha v v0 v1 vn,<-hb v v0 v1 vn,Int.mul_sub]) v0 v1
  lia
 have ex:∀y∈o,px S Z1 y=px S Z2 y:=λy hy=>by unfold px;rw[fx y hy]
 have ey:∀y∈o,py S Z1 y=py S Z2 y:=λy hy=>by unfold py;rw[fx y hy]
 have x1:=λv v0 v1 vn=>C3 hS (λw w0 w1=>(q1 w w0 w1).1) im v0 v1 (m1 v v0 v1 vn).1;have y1:=λv v0 v1 vn=>C3 hS (λw w0 w1=>(q1 w w0 w1).2) im v0 v1 (m1 v v0 v1 vn).2;have x2:=λv v0 v1 vn=>C3 hS (λw w0 w1=>(q2 w w0 w1).1) im v0 v1 (m2 v v0 v1 vn).1;have y2:=λv v0 v1 vn=>C3 hS (λw w0 w1=>(q2 w w0 w1).2) im v0 v1 (m2 v v0 v1 vn).2;refine IX (by lia) λi h1 h2=>?_;have v0:(0:Int)<=(i:Int):=by lia
 have v1:(i:Int)<L.length:=by lia
 have ea:=Int.le_antisymm (key ex x1 x2 _ v0 v1) (key (λy hy=>(ex y hy).symm) x2 x1 _ v0 v1);have eb:=Int.le_antisymm (key ey y1 y2 _ v0 v1) (key (λy hy=>(ey y hy).symm) y2 y1 _ v0 v1);have g1:Z1.getD (i:Int).toNat []=Z1[i]:=by rw[EC,su,me h1];rfl
 have g2:Z2.getD (i:Int).toNat []=Z2[i]:=by rw[EC,su,me h2];rfl
 unfold px at ea;unfold py at eb;rw[g1,g2]at ea eb;have c1:=b1 _ (ET h1);have c2:=b2 _ (ET h2);obtain⟨f,g,e,lf,lg⟩:=(p1 _ (ET h1)).two;obtain⟨f',g',e',VW,XE⟩:=(p2 _ (ET h2)).two;rw[e]at ea eb c1 ⊢;rw[e']at ea eb c2 ⊢;rw[(eq_iff hS lf VW c1.1 c2.1).mpr ea,(eq_iff hS lg XE c1.2 c2.2).mpr eb]
theorem zvaX{X Y:Int->Int}{a b:Int}:∀l:List Int,zvaf X Y ((l.map X).sum) ((l.map Y).sum) l.length a b=(l.map (e9 X Y a b)).sum
 | []=>by unfold zvaf;simp
 | v::l=>by
  rw[Ap,Ek,Ap,Ek,Ap,Ek,<-zvaX l,Bq];unfold zvaf e9
  push_cast
  grind
theorem zvag.mid{X Y:Int->Int}{r:List Int}(h:zvag X Y r):zvah X Y ((r.map X).sum) ((r.map Y).sum) r.length r:=λk=>by
 have h3:=h.1;rw[zvaX];have ge:∀w∈r,0<=e9 X Y (cy r k) (cy r (k+1)) w:=λw hw=>by
  obtain⟨i,hi,e⟩:=Eg.mp hw;rw[<-e,<-a9 hi];exact h.ge k i
 obtain⟨lo,no⟩:=AD ge;have d:=((h.2 k (k+2)).resolve_left (A6 (kF (by lia) (by lia)))).resolve_left (A6 (kF (by lia) (by lia)));have m:=a8 (r:=r) (j:=k+2) (by lia);rw[Iz]at lo no;refine Int.not_le.mp λz=>?_;have:=no (by lia) _ m
 lia
theorem zvaY{n:Nat}{C:List (List Int)}{G:Nat->List (Int×Int)}(hn:C.length=n)(n3:3<=n)(e:∀k,k<n->C.getD k []=wr (G k))(p:∀k,k<n->P2 (G k))(h:∀a c,a<n->c<n->c≠a->c≠(a+1)%n->0<FC (G a) (G ((a+1)%n)) (G c)):P4 C:=by
 refine⟨by lia,λk hk i i2 hi=>?_⟩;rw[hn]at hk hi ⊢;have m1:=AK (k+1) (show 0<n by lia);have m2:=AK (k+i) (show 0<n by lia);rw[e k hk,e _ m1,e _ m2,zvaL (p k hk) (p _ m1) (p _ m2)];refine h k _ hk m2 (λz=>?_) λz=>?_
 ·exact kF (a:=k) (b:=k+i) (n:=n) (by lia) (by lia) ((AV hk).trans z.symm)
 ·exact kF (a:=k+1) (b:=k+i) (n:=n) (by lia) (by lia) z.symm
end rY
namespace L2
open PySem PySem.Spec PySem.W PySem.Calls PyProof.Rows
theorem zvbo(n:Nat):sliceRange ((n:Int)-1) (-1) (-1)=(List.range n).reverse:=by
 unfold sliceRange;rw[Ak (by lia)];have hc:(if(n:Int)-1 > -1 then((n:Int)-1 - -1 - -1-1) / (- -1)else 0).toNat=n:=by
  by_cases h:(n:Int)-1 > -1
  ·rw[Al h];have:((n:Int)-1 - -1 - -1-1) / (- -1)=n:=by
    rw[show(n:Int)-1 - -1 - -1-1=n by lia,show(- -1:Int)=1 by decide,Int.ediv_one]
   rw[this];lia
  ·rw[Ak h];lia
 dsimp only;rw[hc];refine IX (by simp) λi h1 h2=>?_;simp only[ZO,Er]at h1;rw[IS,List.getElem_reverse,List.getElem_range,List.getElem_range,Er]
 lia
theorem zvbp:∀(aJ:List Value),slicePick aJ.toArray none none (some (-1))=aJ.reverse.toArray:=by
 intro aJ;unfold slicePick;have hb:sliceBounds none none (some (-1)) aJ.toArray.size=((aJ.toArray.size:Int)-1,-1,-1):=rfl;rw[hb];dsimp only;rw[zvbo,List.filterMap_reverse]
 congr 2
 rw[Cj];have:∀(l:List Value),(List.range l.length).filterMap (λx=>l.toArray[x]?)=l:=by
  intro l;have h:∀k,k<=l.length->(List.range k).filterMap (λx=>l.toArray[x]?)=l.take k:=by
   intro k
   induction k with
   | zero=>intro _;rfl
   | succ k ih=>
    intro hk;rw[GI,List.filterMap_append,ih (by lia),Ir,me (by lia)];simp[show k<l.length by lia]
  rw[h _ (Xx _),F6]
 exact this aJ
section
variable {X:Cx} {e st:Expr} {te tst:TE} {p2 pos:Pos}
def zvbq(K:Frag)(te tst:TE):TE:=λσ H Q=>te σ H λx H1=>tst σ H1 λy H2=>y=.int (-1)/\∃a xs,x=.ref a/\bH K H2 a xs/\∀p,H2 p=none->Q (.ref p) (upd H2 p (.lst xs.reverse))
theorem zvbr{K:Frag}(hK:X.K=K)(he:PE X e te)(Sd:PE X st tst):PE X (.Subscript e (.Slice none none (some st) p2) pos) (zvbq K te tst):=by
 subst hK;intro pins s σ H Q I h;refine Subscript_ (b9 (he pins s σ H _ I h) λv s1 ⟨x,H1,I1,r1,q1⟩=>?_);refine wpAny_Slice ?_;rw[evalPart_none];refine wpAny_pure ?_;refine wpAny_pure ?_;rw[evalPart_some];refine b9 (Sd pins s1 σ H1 _ I1 q1) λvs s3 ⟨y,H3,I3,r3,q3⟩=>?_;obtain⟨rfl,a,xs,rfl,hx,q⟩:=q3;obtain⟨t,rfl⟩:=r3;cases r1
 have I4:Inv X pins σ H3 { s3 with heap:=s3.heap.push { cls:=.type "slice",data:=.fields #[.none,.none,.int (-1) t,] } }:=I3.kept (t':=s3.toks) λb ob q=>Heap.get?_push_of_some _ q;obtain⟨aJ,r,ht,hz⟩:=I4.list hx;have hlen:=r.length;show wpAny (model X.prog X.w) X.A (subscriptTail e (.Slice none none (some st) p2) (.ref a) (.ref s3.heap.objs.size)) (EP X pins σ Q) X.xe { s3 with heap:=s3.heap.push { cls:=.type "slice",data:=.fields #[.none,.none,.int (-1) t,] } };refine tail_any (ops:=[.ref a,.ref s3.heap.objs.size]) ht.isList.typeIs PySem.F.slot_list_getitem.lookup ?_ (by with_unfolding_all rfl);refine wpAny_getItem_list_slice ht.isList (Heap.IsSliceOf.new ..) .none .none (.int (-1) t) (by simp) ?_ (by rw[Cj]<;>lia);rw[zvbp];refine⟨.ref _,_,I4.laid (t':=s3.toks) (o:=.lst xs.reverse) (λb ob q=>Heap.get?_push_of_some _ q) (Xx _) ?_,rfl,q _ (I4.bu.fresh (Xx _))⟩;exact⟨by rw[Gz];exact hz,_,0,r.reverse,Heap.get?_push_size _ rfl⟩
end
end L2
namespace Pu
open PySem PySem.Spec PySem.W PySem.Calls L2 Gm
section
variable {X:Cx} {a b v it el t:Expr} {pos p p2:Pos} {e:List Sl} {c d w:Cell} {ns:List Int}
theorem zvbc{α:Type}[Rp α]{j:Nat}:Ev X (.Constant .none j pos) e (is (none:Option α)):=.of Rx (Qw λ_=>rfl)
end
end Pu
namespace L2
open PySem PySem.Spec PySem.W PySem.Calls PyProof.Rows
section
variable {X:Cx} {pos:Pos}
theorem zvbn{es:List Expr}{k:Nat}{t:NM}{n:Nat}(hc:X.calm=true)(h:X8 X es t)(hn:(assignEach es X.env).length=n:=by rfl)(Sd:(assignEach es X.env).findIdx? (·.1)=none:=by rfl):PG X (.Tuple es k pos) (oG X.K n t):=by
 intro pins s σ H v u Q I r hw;obtain⟨a,xs,e1,hq,hl,hw⟩:=hw;subst e1;cases r
 obtain⟨aJ,rv,ht,hz⟩:=I.tuple hq;refine assign_Tuple_tuple (I.ok.hd hc) ht (by simp[hn,<-hl,rv.length]) Sd λh' hx=>?_;have I1:Inv X pins σ H { s with heap:=h' }:=I.kept (t':=s.toks) λb o e=>hx b o (D7 (Heap.lt_size e)) e;exact h pins _ σ H xs _ Q I1 (by simpa using rv) hw
end
end L2
namespace Pu
open PySem PySem.Spec PySem.W PySem.Calls L2 Gm
section
variable {α:Type} {iα:Rp α} {X:Cx} {a b v it el t:Expr} {pos p p2 pt:Pos} {e e2 N':List Sl} {c d w:Cell} {n:Str} {es:List Expr} {rest:List Stmt} {N:List Sl->Prop}
theorem zvbe{us:List α}{j:Nat}(h:Es X es e us)(l:us.length<=1000:=by decide):Ev X (.Tuple es j pos) e (is (Tp.mk us)):=.of (Ru h.h.p) (.mk λ{H0 H O0 O σ} E Q q=>yW.h E _ λvs H1 s1 r=>by
 have r:=OE r;have:=Paired.length r;refine⟨FE (Gm.eI (by lia)),λp hp=>q _ _ (s1.trans (ak.upd hp)) ?_⟩;exact⟨p,vs,rfl,jB (E.grow s1).rK hp aA,r.mono (aO (ak.upd hp))⟩)
def zvbf{α:Type}[Rp α]:List Sl->List Nat->List α->List Sl
 | e,i::js,u::us=>zvbf (e.set i (.sh (is u))) js us
 | e,_,_=>e
def zvbg:List Nat->NM
 | []=>oH
 | i::js=>dA (bI i) (zvbg js)
theorem zvbh:X8 X [] (zvbg []):=zfi
theorem zvbi{i:Nat}{js:List Nat}(h:X8 X es (zvbg js))(S:Sn X n i:=by subst "sn")(hs:(assignEach (.Name n p::es) X.env).map (·.2)=assign (.Name n p) X.env::(assignEach es X.env).map (·.2):=by subst "rf"):X8 X (.Name n p::es) (zvbg (i::js)):=yR (pg_name S.nd S.at' S.lo S.fn) h hs
theorem zvbj{H0 H:Hp}{O0 O:List Addr}:∀{js:List Nat} {us:List α} {vs:List V} {e:List Sl} {σ:St},js.length=us.length->Rs (cut H O) vs us->En H0 O0 H O σ e->∀Q:St->Hp->Prop,(∀σ',En H0 O0 H O σ' (zvbf e js us)->Q σ' H)->zvbg js vs σ H Q
 | [],[],[],_,_,_,_,E,Q,q=>⟨rfl,q _ E⟩
 | i::js,u::us,v::vs,e,σ,l,.cons r rs,E,Q,q=>⟨v,vs,rfl,zvbj (js:=js) (by simpa using l) rs (E.set r) Q q⟩
theorem zvbk{us:List α}{js:List Nat}{kx:Nat}(h:Ev X v e (is (Tp.mk us)))(P:X8 X es (zvbg js))(l:us.length=js.length)(hu:Gs X rest (zvbf e js us) N c)(hn:(assignEach es X.env).length=js.length:=by subst "rf")(Sd:(assignEach es X.env).findIdx? (·.1)=none:=by subst "rf")(hc:X.calm=true:=by subst "rf")(w1:swapsWithSole [.Tuple es kx pt] v pos.line X.env=pure false:=by subst "rf")(w2:swappedStores [.Tuple es kx pt] v X.env=pure none:=by subst "rf")(w3:(assignEach [.Tuple es kx pt] X.env).map (·.2)=[assign (.Tuple es kx pt) X.env]:=by subst "rf"):Gs X (.Assign [.Tuple es kx pt] v pos::rest) e N c:=
 zeZ (zvbn hc P hn Sd) h (.mk λE v ⟨a,vs,h3,h4,h5⟩ Q q=>⟨a,vs,h3,mF.of (aE.mp h4).2,(Paired.length h5).trans l,zvbj l.symm h5 E Q q⟩) hu w1 w2 w3
theorem zvbl{K:Frag}{ta tb:TE}{xs:List α}(ha:Pl ta e xs)(hb:Pe tb e (is (-1:Int))):Pf (zvbq K ta tb) e (ol xs.reverse):=.mk λE Q q=>
 ha.h E _ λa vs H1 s1 h1 r1=>hb.h (E.grow s1) _ λy H2 s2 ry=>by
  refine⟨ry,a,vs,rfl,bH.of (s2 _ _ h1),λp hp=>q p _ _ ((s1.trans s2).free hp) (s1.trans (s2.trans (ak.upd hp))) aA ⟨_,rfl,?_⟩⟩;exact Hz (Rs.mono (cN (s2.trans (ak.upd hp)) (s2.free hp)) r1)
theorem zvbm{xs:List α}{st:Expr}(ha:El X a e xs)(hb:Ev X st e (is (-1:Int))):Ef X (.Subscript a (.Slice none none (some st) p2) pos) e (ol xs.reverse):=.of (zvbr rfl ha.p hb.p) (zvbl gn aq)
end
end Pu
namespace rY
open PySem L2 Fr Gm Fw Pu
open Dt (dO e7 pd dR kD)
open iQ (V3 l3 S3 tn)
def zvbs(Cs:List (List Int))(s:List Int):Prop:=∀k,k<Cs.length->0<tn (t3 (Cs.getD (bk Cs.length k 1) [])) (t3 (Cs.getD k [])) (t3 s)
noncomputable abbrev zvbt:=Bt (λ(L:List (List Int)) (s:List Int)=>(∀l∈L,l.length=3/\∀x∈l,Sz 30000 x)/\(s.length=3/\∀x∈s,Sz 30000 x)/\L.length<=200) λL s=>FQ (zvbs L s)
def zvbu(Z:List (List (Int×Int)))(r:List Int):List (List Int):=r.map λx=>wr (Z.getD x.toNat [])
noncomputable def zvbv (R:List (List Int)) (land:Int) (Z:List (List (Int×Int))) (p:List (Int×Int)):Option Int:=((List.range R.length).find? λi:Nat=>!decide ((i:Int)=land)&&FQ (zvbs (zvbu Z (R.getD i [])) (wr p))).map λi:Nat=>(i:Int)
noncomputable abbrev zvbw:=fn4 (λ(L:List (List Int)) (_:Int) (Z:List Spot) (p:Spot)=>(ah L/\L.length<=60/\(cT L L.length).length<128)/\(Z.length=L.length/\(∀q∈Z,P2 q)/\P2 p)/\(∀r∈fT L,r.length<=128/\∀x∈r,0<=x/\x<L.length)/\(fT L).length<=200) λL land Z p=>zvbv (fT L) land Z p
def zvby(f g:Int×Int):Int×Int:=gJ (f.1*g.1) (f.2*g.2)
def zvbz(f g:Int×Int):Int×Int:=gJ (f.1*g.2+g.1*f.2) (f.2*g.2)
structure zva7 where
 p:Int
 q:Int
 r:Int
 s:Int
 a:Int
 u:Int
def zva7.l(w:zva7):List Int:=[w.p,w.q,w.r,w.s,w.a,w.u]
structure zva7.Ok(w:zva7):Prop where
 sm:∀x∈[w.p,w.q,w.r,w.s],-20<=x/\x<=20
 WK:∀x∈[w.a,w.u],-10 ^ 18<=x/\x<=10 ^ 18
 det:0<w.p*w.s-w.q*w.r
def zvbA(a b u:Int)(s:List (Int×Int)):Int×Int:=zvbz (zvbz (zvby (a,1) (cE s)) (zvby (b,1) (cW s))) (u,1)
def zva7.led(w:zva7)(s:List (Int×Int)):List (Int×Int):=[zvbA w.p w.q w.a s,zvbA w.r w.s w.u s]
def zvbB(s:List (Int×Int)):Prop:=P2 s/\∀f∈s,Sz 880 f.1/\Sz 880 f.2
def zvbC(cs:List Cell)(c:Cell):Prop:=∃hd:List Int,hd.length=6/\(∀x∈hd,0<=x/\x<10 ^ 61)/\cs=[is hd]/\c=aW λx:Tp Int=>∃w:zva7,w.Ok/\x=Tp.mk w.l
def zvbD(cs:List Cell)(c:Cell):Prop:=∃(w:zva7) (s:Spot),w.Ok/\zvbB s/\cs=[is (Tp.mk w.l),is s]/\c=is (α:=Spot) (w.led s)
def zvbE(cs:List Cell)(c:Cell):Prop:=∃(Z:List Spot) (r:List Int),(∀q∈Z,zvbB q)/\(0<r.length/\r.length<=8)/\(∀x∈r,0<=x/\x<Z.length)/\cs=[is Z,is r]/\c=aW (α:=Spot) λp=>P2 p/\(r.length:Rat)*Dt.qt (cE p)=(r.map (qx Z)).sum/\(r.length:Rat)*Dt.qt (cW p)=(r.map (qy Z)).sum
def zvbF(Z:List (List (Int×Int)))(land:Int)(i:Nat)(r:List Int):List (List Int):=if(i:Int)=land then(zvbu Z r).reverse else zvbu Z r
def zvbG(R:List (List Int))(land:Int)(Z:List (List (Int×Int))):Prop:=∀i r,R[i]?=some r->P4 (zvbF Z land i r)
noncomputable abbrev zvbH:=Pz (λ(L:List (List Int)) (_:Int) (Z:List Spot)=>(ah L/\L.length<=60/\(cT L L.length).length<128)/\(Z.length=L.length/\(∀q∈Z,P2 q))/\(∀r∈fT L,r.length<=128/\∀x∈r,0<=x/\x<L.length)/\(fT L).length<=200) λL land Z=>FQ (zvbG (fT L) land Z)
end rY
namespace rY
open PySem L2 Gm
open Dt (dO)
theorem zvaT{L R:List (List Int)}(ld:dP L R){i j:Nat}{r:List Int}(h:R[i]?=some r)(h':R[j]?=some r):i=j:=by
 obtain⟨a,e⟩:=AA.mp h;obtain⟨b,e'⟩:=AA.mp h';exact(Ez (zbl ld.nd λr hr=>(ld.good r hr).two)).mp (e.trans e'.symm)
section
variable {L R:List (List Int)} {Z:List (List (Int×Int))} {o:List Int} {land:Nat} {p:List (Int×Int)} {S:Int}
theorem zvaU(ld:dP L R)(ho:R[land]?=some o){i:Nat}(hi:i<R.length)(ne:i≠land):R.getD i []≠o:=λz=>by
 have hr:R[i]?=some (R.getD i []):=by rw[su,me hi];rfl
 exact ne (zvaT ld hr (z▸ho))
theorem zvaO.ins(h:zvaO L R o Z S){r:List Int}(hr:r∈R)(hp:P2 p):zvbs (zvbu Z r) (wr p)↔zvaH Z r p 1:=by
 unfold zvbs zvbu zvaH;rw[ZO];refine forall_congr' λk=>forall_congr' λhk=>?_;have g:∀j,j<r.length->(r.map λx=>wr (Z.getD x.toNat ([]:List (Int×Int)))).getD j []=wr (Z.getD (cy r j).toNat []):=λj hj=>by
  rw[a9 hj,su,AY,me hj];rfl
 have hb:bk r.length k 1<r.length:=AK _ (by lia);have e:cy r (bk r.length k 1)=cy r (k+r.length-1):=aH (EX _ _);rw[g _ hb,g k hk,e,Int.mul_one];exact zvaL (h.at hr _).1 (h.at hr _).1 hp
end
end rY
namespace rY
open PySem L2 Gm Fr Pg
open Dt (qt fa Lw dO)
open iQ (V3 l3 S3 tn wk)
section
variable {L R:List (List Int)} {Z:List (List (Int×Int))} {o r:List Int} {land:Nat} {p:List (Int×Int)} {S:Int}
theorem zvaZ{i:Nat}(hi:i<R.length):R[i]?=some (R.getD i []):=by rw[su,me hi];rfl
theorem zvaO.hit(h:zvaO L R o Z S)(ho:R[land]?=some o)(hp:P2 p)(bp:KJ S p){i:Nat}(hi:i<R.length)(ne:i≠land)(l:zvaH Z (R.getD i []) p 1):zvbv R (land:Int) Z p=some (i:Int):=by
 have rm:∀{i:Nat},i<R.length->R.getD i []∈R:=λhi=>bh hi;have ld:=h.f.ld;have good:∀{j:Nat},j<R.length->((!decide ((j:Int)=land)&&FQ (zvbs (zvbu Z (R.getD j [])) (wr p)))=true↔j≠land/\zvaH Z (R.getD j []) p 1):=λ{j} hj=>by
  rw[KZ,Bool.not_eq_true',N8,jF,h.ins (rm hj) hp];exact and_congr_left λ_=>by lia
 unfold zvbv;rw[List.find?_range_eq_some.mpr ⟨(good hi).mpr ⟨ne,l⟩,Ad.mpr hi,λj hj=>?_⟩]
 ·rfl
 ·rw[Bool.not_eq_true',<-Bool.not_eq_true];intro z;obtain⟨n,z⟩:=(good (by lia)).mp z;have e:=h.one hp bp (rm (show j<R.length by lia)) (rm hi) (zvaU ld ho (by lia) n) (zvaU ld ho hi ne) z l;exact absurd (zvaT ld (zvaZ (show j<R.length by lia)) (e▸zvaZ hi)) (by lia)
theorem zvaO.q(h:zvaO L R o Z S){w:Int}(w0:0<=w)(w1:w<L.length):(px S Z w:Rat)=qx Z w*(S:Rat)/\(py S Z w:Rat)=qy Z w*(S:Rat):=by
 have m:=bh (Y:=Z) (d:=[]) (i:=w.toNat) (by rw[h.zl];lia);obtain⟨f,g,e,lf,lg⟩:=(h.zp _ m).two;have b:=h.hb _ m;unfold px py qx qy;rw[e]at b ⊢;exact⟨Vq lf.1 b.1,Vq lg.1 b.2⟩
theorem zva0{X:Int->Int}{q:Int->Rat}{f:Int×Int}{b:Int}(e:∀w∈r,(X w:Rat)=q w*(S:Rat))(hb:(b:Rat)=qt f*(S:Rat))(m:(r.length:Rat)*qt f=(r.map q).sum):(r.length:Int)*b=(r.map X).sum:=by
 refine L9.mp ?_;have e:((r.map λx=>(X x:Rat)).sum)=(r.map λw=>(S:Rat)*q w).sum:=A4 List.sum (EU λw hw=>by rw[e w hw];grind);rw[rP,e,uX,<-m,Fj,Mj,hb];grind
theorem zvaO.mids(h:zvaO L R o Z S)(hr:r∈R)(n:r≠o)(hp:P2 p)(bp:KJ S p)(mx:(r.length:Rat)*qt (cE p)=(r.map (qx Z)).sum)(my:(r.length:Rat)*qt (cW p)=(r.map (qy Z)).sum):zvaH Z r p 1:=by
 refine(h.lf hr hp bp).mpr λk=>?_;have cx:=h.f.cvx hr n;have c:=rY.zvag.mid cx k;have rg:=vL h.f.ld hr;obtain⟨f,g,e,lf,lg⟩:=hp.two;rw[e]at bp mx my ⊢;rw[<-zva0 (λw hw=>(h.q (rg w hw).1 (rg w hw).2).1) (Vq lf.1 bp.1) mx,<-zva0 (λw hw=>(h.q (rg w hw).1 (rg w hw).2).2) (Vq lg.1 bp.2) my]at c;have n0:(0:Int)<r.length:=by have:=cx.1;lia
 refine(fI n0).mp ?_;show 0<(r.length:Int)*zvaf (px S Z) (py S Z) (bx S f) (bx S g) 1 (cy r k) (cy r (k+1));have e2:(r.length:Int)*zvaf (px S Z) (py S Z) (bx S f) (bx S g) 1 (cy r k) (cy r (k+1))=zvaf (px S Z) (py S Z) ((r.length:Int)*bx S f) ((r.length:Int)*bx S g) r.length (cy r k) (cy r (k+1)):=by unfold zvaf;grind
 rw[e2];exact c
theorem zva1{k:Nat}(hk:k<r.length):(zvbu Z r).getD k []=wr (Z.getD (cy r k).toNat []):=by
 unfold zvbu;rw[a9 hk,su,AY,me hk];rfl
theorem zvaO.rgt(h:zvaO L R o Z S)(ho:R[land]?=some o):zvbG R (land:Int) Z:=λi r hr=>by
 have rm:=A5 hr;have r3:=h.f.tg.three h.f.ld rm;have wl:(zvbu Z r).length=r.length:=ZO _;have key:∀a b c,0<rY.FC (Z.getD (cy r a).toNat []) (Z.getD (cy r b).toNat []) (Z.getD (cy r c).toNat [])↔0<e9 (px S Z) (py S Z) (cy r a) (cy r b) (cy r c):=λa b c=>by
  rw[(h.FC rm (h.at rm c).1 (h.at rm c).2 a b).1,<-zvak (a:=cy r a) (b:=cy r b) (v:=cy r c)]
  rfl
 unfold zvbF;split
 ·rename_i e;have ro:r=o:=by
   have:i=land:=by lia
   rw[this,ho]at hr;exact(BV hr).symm
  refine zvaY (n:=r.length) (G:=λk=>Z.getD (cy r (r.length-1-k)).toNat []) (by rw[Gz,wl]) r3 (λk hk=>?_) (λk hk=>(h.at rm _).1) λa c ha hc n1 n2=>?_
  ·rw[su,List.getElem?_reverse (by lia),wl,<-su];exact zva1 (by lia)
  ·have m1:=AK (a+1) (show 0<r.length by lia);have Fo:(a+1)%r.length=if a+1=r.length then 0 else a+1:=by
    split
    ·rename_i c;rw[c,Gk]
    ·exact AV (by lia)
   show 0<rY.FC (Z.getD (cy r (r.length-1-a)).toNat []) (Z.getD (cy r (r.length-1-(a+1)%r.length)).toNat []) (Z.getD (cy r (r.length-1-c)).toNat []);rw[key,rO];have ea:cy r (r.length-1-a)=cy r (r.length-1-(a+1)%r.length+1):=aH (by
    rw[Fo];split
    ·rw[show r.length-1-0+1=r.length by lia,Gk,show r.length-1-a=0 by lia,Kq]
    ·rw[show r.length-1-(a+1)+1=r.length-1-a by lia])
   have e1:(r.length-1-(a+1)%r.length+1)%r.length=r.length-1-a:=by
    rw[Fo];split
    ·rw[show r.length-1-0+1=r.length by lia,Gk];lia
    ·rw[show r.length-1-(a+1)+1=r.length-1-a by lia];exact AV (by lia)
   subst ro;have:=h.f.cv (r.length-1-(a+1)%r.length) (r.length-1-c) (by rw[AV (show r.length-1-c<r.length by lia),AV (by lia)];lia) (by rw[e1,AV (show r.length-1-c<r.length by lia)];lia);rw[ea]
   lia
 ·rename_i e;have ne:r≠o:=λz=>e (by
   have:=zvaT h.f.ld hr (z▸ho)
   lia)
  refine zvaY (n:=r.length) (G:=λk=>Z.getD (cy r k).toNat []) wl r3 (λk hk=>zva1 hk) (λk hk=>(h.at rm _).1) λa c ha hc n1 n2=>?_;have m1:=AK (a+1) (show 0<r.length by lia);show 0<rY.FC (Z.getD (cy r a).toNat []) (Z.getD (cy r ((a+1)%r.length)).toNat []) (Z.getD (cy r c).toNat []);rw[key,aH (EX (a+1) r.length)];exact(((h.f.cvx rm ne).2 a c).resolve_left (by rw[AV ha,AV hc];exact n1)).resolve_left (by rw[AV hc];exact n2)
end
theorem zva2{f g:Int×Int}{a b:Nat}(f0:0<f.2)(g0:0<g.2)(h1:Sz a f.1)(h2:Sz a f.2)(h3:Sz b g.1)(h4:Sz b g.2):(Lw (zvby f g)/\Sz (a+b) (zvby f g).1/\Sz (a+b) (zvby f g).2)/\qt (zvby f g)=qt f*qt g:=by
 have low:Ao (f.1*g.1) (f.2*g.2) _ _:=nj (by have:=E7 f0 g0;lia) rfl;exact⟨⟨⟨low.pos,low.co⟩,Sz.le (Sz.mul h1 h3) low.ta,Sz.le (Sz.mul h2 h4) low.ub⟩,Dt.zcl (f:=f) (g:=g) (by lia) (by lia) low⟩
theorem zva3{f g:Int×Int}{a b:Nat}(f0:0<f.2)(g0:0<g.2)(h1:Sz a f.1)(h2:Sz a f.2)(h3:Sz b g.1)(h4:Sz b g.2):(Lw (zvbz f g)/\Sz (a+b+1) (zvbz f g).1/\Sz (a+b+1) (zvbz f g).2)/\qt (zvbz f g)=qt f+qt g:=by
 have low:Ao (f.1*g.2+g.1*f.2) (f.2*g.2) _ _:=nj (by have:=E7 f0 g0;lia) rfl;exact⟨⟨⟨low.pos,low.co⟩,Sz.le (Sz.add (Sz.mul h1 h4) ((Sz.mul h3 h2).mono (by lia))) low.ta,Sz.mono (Sz.le (Sz.mul h2 h4) low.ub) (by lia)⟩,Dt.zfA (f:=f) (g:=g) (by lia) (by lia) low⟩
end rY
namespace rY
open PySem L2 Gm Fr Pg
open Dt (qt fa Lw dO)
open iQ (V3 l3 S3 tn wk)
theorem zva4(z:Int):gJ z 1=(z,1):=by
 unfold gJ;simp
theorem zva5(a b u x y:Int):zvbA a b u [(x,1),(y,1)]=(a*x+b*y+u,1):=by
 show gJ ((gJ ((gJ (a*x) 1).1*(gJ (b*y) 1).2+(gJ (b*y) 1).1*(gJ (a*x) 1).2) ((gJ (a*x) 1).2*(gJ (b*y) 1).2)).1*1+u*(gJ ((gJ (a*x) 1).1*(gJ (b*y) 1).2+(gJ (b*y) 1).1*(gJ (a*x) 1).2) ((gJ (a*x) 1).2*(gJ (b*y) 1).2)).2) ((gJ ((gJ (a*x) 1).1*(gJ (b*y) 1).2+(gJ (b*y) 1).1*(gJ (a*x) 1).2) ((gJ (a*x) 1).2*(gJ (b*y) 1).2)).2*1)=_;simp only[zva4,Int.mul_one]
theorem zva6{a b u:Int}{s:List (Int×Int)}(sa:Sz 5 a)(sb:Sz 5 b)(su:Sz 60 u)(h:zvbB s):(Lw (zvby (a,1) (cE s))/\Sz 885 (zvby (a,1) (cE s)).1/\Sz 885 (zvby (a,1) (cE s)).2)/\(Lw (zvby (b,1) (cW s))/\Sz 885 (zvby (b,1) (cW s)).1/\Sz 885 (zvby (b,1) (cW s)).2)/\
  (Lw (zvbz (zvby (a,1) (cE s)) (zvby (b,1) (cW s)))/\Sz 1771 (zvbz (zvby (a,1) (cE s)) (zvby (b,1) (cW s))).1/\Sz 1771 (zvbz (zvby (a,1) (cE s)) (zvby (b,1) (cW s))).2)/\(Lw (zvbA a b u s)/\Sz 1832 (zvbA a b u s).1/\Sz 1832 (zvbA a b u s).2)/\qt (zvbA a b u s)=(a:Rat)*qt (cE s)+(b:Rat)*qt (cW s)+(u:Rat):=by
 have one:∀{z:Int},qt (z,1)=(z:Rat):=λ{z}=>by
  show(z:Rat) / ((1:Int):Rat)=_;grind
 have m0:cE s∈s:=bh (by rw[h.1.len];decide);have m1:cW s∈s:=bh (by rw[h.1.len];decide);have o1:∀{n:Nat},0<n->Sz n (1:Int):=λh=>Nat.one_lt_two_pow (by lia);have x:=zva2 (f:=(a,1)) (show(0:Int)<1 by decide) (h.1.low _ m0).1 sa (o1 (by decide)) (h.2 _ m0).1 (h.2 _ m0).2;have y:=zva2 (f:=(b,1)) (show(0:Int)<1 by decide) (h.1.low _ m1).1 sb (o1 (by decide)) (h.2 _ m1).1 (h.2 _ m1).2;have z:=zva3 x.1.1.1 y.1.1.1 x.1.2.1 x.1.2.2 y.1.2.1 y.1.2.2;have t:=zva3 (g:=(u,1)) z.1.1.1 (show(0:Int)<1 by decide) z.1.2.1 z.1.2.2 su (o1 (by decide));refine⟨x.1,y.1,z.1,t.1,?_⟩;have e:=t.2;rw[z.2,x.2,y.2,one,one,one]at e;exact e
theorem zva7.Ok.sz{w:zva7}(h:w.Ok):Sz 5 w.p/\Sz 5 w.q/\Sz 5 w.r/\Sz 5 w.s/\Sz 60 w.a/\Sz 60 w.u:=by
 have s:∀x∈[w.p,w.q,w.r,w.s],Sz 5 x:=λx hx=>by
  have:=h.sm x hx;unfold Sz
  lia
 have f:∀x∈[w.a,w.u],Sz 60 x:=λx hx=>by
  have:=h.WK x hx;unfold Sz
  lia
 exact⟨s _ (by simp),s _ (by simp),s _ (by simp),s _ (by simp),f _ (by simp),f _ (by simp)⟩
theorem zva7.Ok.led{w:zva7}(h:w.Ok){s:List (Int×Int)}(hs:zvbB s):P2 (w.led s)/\qt (cE (w.led s))=(w.p:Rat)*qt (cE s)+(w.q:Rat)*qt (cW s)+(w.a:Rat)/\qt (cW (w.led s))=(w.r:Rat)*qt (cE s)+(w.s:Rat)*qt (cW s)+(w.u:Rat):=by
 obtain⟨p,q,r,s',a,u⟩:=h.sz;obtain⟨_,_,_,x,ex⟩:=zva6 p q a hs;obtain⟨_,_,_,y,ey⟩:=zva6 r s' u hs;have all:∀f∈w.led s,Lw f/\Sz 9000 f.1/\Sz 9000 f.2:=λf hf=>by
  rcases BX.mp hf with rfl|hf
  ·exact⟨x.1,x.2.1.mono (by decide),x.2.2.mono (by decide)⟩
  ·rw[Ax.mp hf];exact⟨y.1,y.2.1.mono (by decide),y.2.2.mono (by decide)⟩
 exact⟨⟨rfl,⟨λf hf=>(all f hf).1.1,λf hf=>(all f hf).2.1,λf hf=>(all f hf).2.2⟩,λf hf=>(all f hf).1⟩,ex,ey⟩
theorem zva7.Ok.frame{w:zva7}(h:w.Ok){n:Nat}(n3:3<=n)(n8:n<=8):mI ((List.range n).map λi=>w.led (gD n i)):=by
 have at':∀i,w.led (gD n i)=[(w.p*((n-1-i:Nat):Int)+w.q*(((n-1-i:Nat):Int)*((n-1-i:Nat):Int))+w.a,1),(w.r*((n-1-i:Nat):Int)+w.s*(((n-1-i:Nat):Int)*((n-1-i:Nat):Int))+w.u,1)]:=λi=>by
  show [zvbA _ _ _ _,zvbA _ _ _ _]=_;unfold gD;rw[zva5,zva5]
 have F0:∀i,TL (w.led (gD n i)):=λi=>by
  rw[at'];have k8:(n-1-i:Nat)<=7:=by lia
  generalize n-1-i=k at k8;have kk:(k:Int)*(k:Int)<=49/\0<=(k:Int)*(k:Int):=⟨(show(k:Int)*(k:Int)<=7*7 from Int.mul_le_mul (by lia) (by lia) (by lia) (by decide)),LI (by lia) (by lia)⟩;generalize (k:Int)*(k:Int)=m at kk;have bd:∀{a b u:Int},(-20<=a/\a<=20)->(-20<=b/\b<=20)->(-10 ^ 18<=u/\u<=10 ^ 18)->(a*(k:Int)+b*m+u).natAbs<=2 ^ 61:=λ{a b u} ha hb hu=>by
   have p1:∀{x y c:Int},(-20<=x/\x<=20)->0<=y->y<=c->-(20*c)<=x*y/\x*y<=20*c:=λ{x y c} hx h0 hc=>by
    have:=LZ hx.2 h0;have:=LZ hx.1 h0
    lia
   have:=p1 ha (y:=(k:Int)) (c:=7) (by lia) (by lia);have:=p1 hb (y:=m) (c:=49) kk.2 kk.1
   lia
  have f1:∀{z:Int},z.natAbs<=2 ^ 61->P6 (z,1):=λh=>⟨⟨(show(0:Int)<1 by decide),by simp⟩,(show(1:Int)<=6 by decide),h⟩;refine⟨rfl,λf hf=>?_⟩;rcases BX.mp hf with rfl|hf
  ·exact f1 (bd (h.sm _ (by simp)) (h.sm _ (by simp)) (h.WK _ (by simp)))
  ·rw[Ax.mp hf];exact f1 (bd (h.sm _ (by simp)) (h.sm _ (by simp)) (h.WK _ (by simp)))
 refine⟨λq hq=>?_,?_⟩
 ·obtain⟨i,_,rfl⟩:=A3.mp hq;exact F0 i
 ·refine zvaY (n:=n) (G:=λk=>w.led (gD n (n-1-k))) (by rw[Gz,ZO,ZO,Er]) n3 (λk hk=>?_) (λk hk=>(F0 _).p2) λa c ha hc n1 n2=>?_
  ·rw[su,List.getElem?_reverse (by rw[ZO,ZO,Er];exact hk),ZO,ZO,Er,AY,AY,Fy (by lia)]
   rfl
  ·have m1:=AK (a+1) (show 0<n by lia);have Fo:(a+1)%n=if a+1=n then 0 else a+1:=by
    split
    ·rename_i c;rw[c,Gk]
    ·exact AV (by lia)
   generalize (a+1)%n=b at *;have bo:∀i,KJ 1 (w.led (gD n i)):=λi=>by rw[at'];exact⟨Int.one_dvd _,Int.one_dvd _⟩
   refine(zvaK (S:=1) (by decide) (F0 _).p2 (F0 _).p2 (F0 _).p2 (bo _) (bo _) (bo _)).1.mpr ?_;have pe:∀k,k<n->pt 1 (w.led (gD n (n-1-k)))=⟨w.p*(k:Int)+w.q*((k:Int)*(k:Int))+w.a,w.r*(k:Int)+w.s*((k:Int)*(k:Int))+w.u⟩:=λk hk=>by
    rw[at',show n-1-(n-1-k)=k by lia];show V2.mk ((w.p*(k:Int)+w.q*((k:Int)*(k:Int))+w.a)*(1 / 1)) ((w.r*(k:Int)+w.s*((k:Int)*(k:Int))+w.u)*(1 / 1))=_;rw[show(1:Int) / 1=1 from rfl,Int.mul_one,Int.mul_one]
   rw[pe a ha,pe b m1,pe c hc];have e:cr (Pg.sub ⟨w.p*(b:Int)+w.q*((b:Int)*(b:Int))+w.a,w.r*(b:Int)+w.s*((b:Int)*(b:Int))+w.u⟩ ⟨w.p*(a:Int)+w.q*((a:Int)*(a:Int))+w.a,w.r*(a:Int)+w.s*((a:Int)*(a:Int))+w.u⟩) (Pg.sub ⟨w.p*(c:Int)+w.q*((c:Int)*(c:Int))+w.a,w.r*(c:Int)+w.s*((c:Int)*(c:Int))+w.u⟩ ⟨w.p*(a:Int)+w.q*((a:Int)*(a:Int))+w.a,w.r*(a:Int)+w.s*((a:Int)*(a:Int))+w.u⟩)=(w.p*w.s-w.q*w.r)*(((b:Int)-a)*(((c:Int)-a)*((c:Int)-b))):=by
    unfold cr Pg.sub;dsimp only;grind
   rw[e];refine E7 h.det ?_;split at Fo
   ·exact MO (by lia) (Int.mul_neg_of_neg_of_pos (by lia) (by lia))
   ·rcases Hk c a with z|z
    ·exact E7 (by lia) (MO (by lia) (by lia))
    ·exact E7 (by lia) (E7 (by lia) (by lia))
theorem zva8{f g:Int->Rat}{p q a:Rat}:∀l:List Int,(l.map λw=>p*f w+q*g w+a).sum=p*(l.map f).sum+q*(l.map g).sum+(l.length:Rat)*a
 | []=>by show(0:Rat)=p*0+q*0+((0:Nat):Rat)*a;grind
 | x::l=>by
  rw[Ap,Ek,Ap,Ek,Ap,Ek,zva8 l,Bq]
  push_cast
  grind
theorem zva7.Ok.uniq{w:zva7}(h:w.Ok){L:List (List Int)}{o:List Int}{F Z Z':List (List (Int×Int))}(im:ah L)(gu:sV L)(nd:o.Nodup)(ne:o≠[])(rg:∀x∈o,0<=x/\x<L.length)(dr:NQ L o F Z)(dr':NQ L o (o.map λv=>w.led (Z.getD v.toNat [])) Z'):Z'=Z.map w.led:=by
 obtain⟨x,hx⟩:=Mr _ ne;have s8:∀q∈Z,zvbB q:=λq hq=>⟨dr.p2 q hq,dr.s8 q hq⟩;have gm:∀{v:Int},0<=v->v<L.length->(Z.map w.led).getD v.toNat []=w.led (Z.getD v.toNat []):=λv0 v1=>getD_map (by rw[dr.len];lia);have gs:∀{v:Int},0<=v->v<L.length->zvbB (Z.getD v.toNat []):=λv0 v1=>s8 _ (bh (by rw[dr.len];lia));have qe:∀{v:Int},0<=v->v<L.length->qx (Z.map w.led) v=(w.p:Rat)*qx Z v+(w.q:Rat)*qy Z v+(w.a:Rat)/\qy (Z.map w.led) v=(w.r:Rat)*qx Z v+(w.s:Rat)*qy Z v+(w.u:Rat):=λv0 v1=>by
  unfold qx qy;rw[gm v0 v1];exact(h.led (gs v0 v1)).2
 refine zvaW im gu hx (rg x hx) dr'.len ((ZO _).trans dr.len) dr'.p2 (λq hq=>?_) (λy hy=>?_) dr'.mid λv v0 v1 vn=>?_
 ·obtain⟨s,hs,rfl⟩:=A3.mp hq;exact(h.led (s8 s hs)).1
 ·have hi:=Ci hy;rw[dr'.fix y hy,gm (rg y hy).1 (rg y hy).2,getD_map (d:=0) hi,show o.getD (o.idxOf y) 0=y by rw[su,me hi];exact Ex hi]
 ·obtain⟨mx,my⟩:=dr.mid v v0 v1 vn;have rl:∀w∈br L v,0<=w/\w<L.length:=λw hw=>by have:=im.rg _ _ (ag v0 v1) w hw;lia
  unfold mH at mx my ⊢;rw[(qe v0 v1).1,(qe v0 v1).2,EU λw hw=>(qe (rl w hw).1 (rl w hw).2).1,EU λw hw=>(qe (rl w hw).1 (rl w hw).2).2,zva8,zva8,<-mx,<-my];constructor<;>grind
theorem zva9{n:Nat}(n3:3<=n)(n8:n<=8):mI (KG n):=by
 have h:=(show zva7.Ok ⟨1,0,0,1,0,0⟩from⟨λx hx=>by simp at hx;lia,λx hx=>by simp at hx;lia,by decide⟩).frame n3 n8;have e:((List.range n).map λi=>zva7.led ⟨1,0,0,1,0,0⟩ (gD n i))=KG n:=EU λi _=>by
  show [zvbA _ _ _ _,zvbA _ _ _ _]=_;unfold gD;rw[zva5,zva5];simp
 exact e▸h
end rY
namespace rY
open PySem PySem.Spec PySem.W PySem.Calls L2 Fr Gm Fw Pu
open Dt (dO e7 pd dR kD)
open iQ (V3 l3 S3 tn)
local macro_rules | `(tactic| walk_at "")=>`(tactic| repeat' (first|subst"v1" | fail))
local macro_rules | `(tactic| walk_at "blk_vis")=>`(tactic| first|exact Or.inl rfl|exact Or.inr (Or.inl rfl) | exact Or.inr (Or.inr rfl))
local macro_rules | `(tactic| walk_at "blk_ok")=>`(tactic| exact⟨rfl,by decide +kernel,by decide +kernel,rfl,by repeat' first|exact trivial|refine'⟨rfl,?_⟩,rfl,by repeat' first|exact cL|refine' aM ⟨rfl,by walk_at "blk_vis",rfl,rfl⟩ ?_,by repeat' first|exact cL|refine' aM rfl ?_⟩)
theorem ix_s0{p:Spot}(h:List.length p=2):Ix X (is p) (is (0:Int))<|is<|cE p:=#[_,qT,λ_=>uS (.mk λE Q q=>(aq).h E Q q) aq<|by rw[vb h];rfl]
theorem ix_s1{p:Spot}(h:List.length p=2):Ix X (is p) (is (1:Int))<|is<|cW p:=#[_,qT,λ_=>uS (.mk λE Q q=>(aq).h E Q q) aq<|by rw[vb h];rfl]
theorem wR(h:Ea X es e [is u,is v]):Ev X (.Tuple es j pos) e<|is (α:=Spot) [u,v]:=.of (Fe h).p<|.mk λE Q q=>aq.h E Q λv b s ⟨a,u,w,g,c,f,d⟩=>q v b s #[a,[u,w],g,c,.cons f<|.cons d .nil]
theorem Tb{p:Spot}:Cv (is p)<|is<|Sq.mk (α:=Int×Int) p:=#[λ_ _ ⟨a,vs,d,b,c⟩=>#[a,vs,d,.inr b,c]]
theorem Ev.sqS{X:Cx}{a:Expr}{e:List Sl}{p:Spot}(h:Ev X a e (is p)):Ev X a e (is (Sq.mk (α:=Int×Int) p)):=.of h.p (.mk λE Q q=>aq.h E Q λv u s r=>q v u s (Tb.h _ _ r))
def nameOf(st:Stmt):Str:=match st with | .FunctionDef n _ _ _ _ _ _ _ _ _=>n|_=> ""
noncomputable abbrev J0q:List Nat:=[10,11,12,13,14,15,16,17,18,19,20,22,23,25,26,27,28,29,30,31,33,34,35,37,38,39,40,41,42,43,44,45,46,47,49,50,52,53,54,55,56,57,58,59,60,61,62,63,64,65,66,67,68,69]
class Env (C:outParam Cfg):Prop extends B1 C where
 d:∀i∈J0q,Def C.K C.mg (nameOf (top i)) (top i) (ai (top i))
 dd:FG C.K C.mg "drawn" (top 48) (ai (top 48))
theorem No{C:Cfg}{x:Str}{st:Stmt}{k:Nat}{A:List Cell->Cell->Prop}[Env C](i:Nat)(a:BodyOk C x st k A)(S:K! (gF (ir st) (ai st)<|aD st))(h:D! (i∈J0q))(c:E! (nameOf (top i)=x))(b:E! (top i=st)):dI C x (k+1) (ai st) A:=by subst c;subst b;exact #[(Env.d i h).Sv S a.len<|a.run S.nd]
theorem Ef.evd{X:Cx}{e:List Sl}{a:Expr}{κ α:Type}{b:Rp κ}{d:DecidableEq κ}{c:Kc κ}{f:Rp α}{xs:List<|κ×α}(h:Ef X a e<|od xs):Ev X a e<|is<|sW.mk xs:=.of h.p Rt.ped
theorem zca(h:El X a e ns)(c:ns.z<64)(b:ns.Nodup)(B:I! Bi X "sorted" a p [] pos):Ev X (.Call (.Name "sorted" p) [a] [] pos) e<|is<|T8 ns:=.of (bC zaz B.gl B.mg uI (aw h.p aQ B.se) B.nn B.nd B.se B.pl)<|zdb gn c b
def qS:Nat->List String->Lean.MacroM (List Lean.Term×List String)
 | n+1,"("::r=>do
  let (a,r)<-qS n r
  let (b,r)<-qS n r
  return (Lean.Syntax.mkApp a.head! a.tail.toArray::b,r)
 | _,")"::r=>return ([],r)
 | n+1,w::r=>do
  let d:=w.toList.tail.asString
  let t<-match w.front with
   | '_'=>`(_)
   | '?'=>`(?_)
   | '!'=>`((show Dq.n _<=64 by decide))
   | '&'=>`((by decide))
   | '+'=>`((by decide +kernel))
   | '='=>`((by assumption))
   | '#'=>pure (.mk (Lean.mkCIdent d.toName))
   | '.'=>`(.$(Lean.mkIdent d.toName))
   | '\''=>pure (.mk (Lean.Syntax.mkStrLit d))
   | '~'=>(List.range d.toNat!).foldlM (λt _=>`(λ_=>$t)) (<-`(rfl))
   | '%'=>(List.range d.toNat!).foldlM (λt _=>`(λ_=>$t)) (<-`(?_))
   | '^'=>pure (.mk (Lean.mkCIdent (`rY++d.toName)))
   | _=>if w=="rfl" then `(rfl) else pure (.mk (Lean.mkCIdent (`Pu++w.toName)))
  let (b,r)<-qS n r
  return (t::b,r)
 | _,_=>return ([],[])
def qT(s:String):Lean.MacroM (Lean.TSyntax `tactic):=do
 let l:=s.splitOn "|"
 let q(w:String):Lean.MacroM Lean.Term:=do
  let (a,_)<-qS 99 ((((w.replace "(" " ( ").replace ")" " ) ").splitOn " ").filter (·!=""))
  return Lean.Syntax.mkApp a.head! a.tail.toArray
 let o(w:String):Lean.MacroM (Lean.TSyntax `tactic):=do
  if w.front=='@' then `(tactic| subst $(Lean.Syntax.mkStrLit w.toList.tail.asString)) else
  let t<-q w
  if l.head! =="U" then `(tactic| with_unfolding_all exact $t) else if w.any (·=='?') then `(tactic| with_reducible refine' $t) else `(tactic| with_reducible exact $t)
 let f(l:List String)(g:String->Lean.MacroM (Lean.TSyntax `tactic)):Lean.MacroM (Lean.TSyntax `tactic):=do
  let mut u<-`(tactic| fail)
  for w in l.reverse do u<-`(tactic| first|$(<-g w):tactic|$u:tactic)
  return u
 f l.tail λw=>match w.splitOn ";" with
  | [p,y]=>do
   let y<-f (y.splitOn "/") o
   let p:=if p.front=='\'' then s!".Call (.Name {p} _) _ _ _" else p
   let p<-if p=="P" then `((_:Prop)) else q (if p.front=='.' then l.head!.replace "$" s!"({p})" else p)
   if l.head! =="" then `(tactic| (change $p;$y:tactic)) else `(tactic| (with_reducible change $p;$y:tactic))
  | _=>o w
def qUq(t:Lean.TSyntax `tactic)(g:Lean.Term->Lean.MacroM (Lean.TSyntax `tactic)):Lean.MacroM (Lean.TSyntax `tactic):=(List.range 11).foldlM (λt i=>do `(tactic| first|$t:tactic|$(<-g (Lean.quote i)):tactic)) t
local macro_rules | `(tactic| subst $s:term)=>match s.raw.isStrLit?.getD "" with
 | "rf"=>qT "U|rfl|~1|~2|#L2.M2.mk rfl rfl rfl rfl"
 | "sl"=>qT "U|rfl"
 | "L"=>qT "U|#Or.inl rfl|#Or.inr rfl"
 | "V"=>qT "U|#Or.inl rfl|#Or.inr (#Or.inl rfl)|#Or.inr (#Or.inr rfl)"
 | "nm"=>do `(tactic| with_unfolding_all $(<-qUq (<-`(tactic| fail)) λi=>`(tactic| exact Nm.mk (i:=$i) rfl (by subst"V") (by decide) (by decide))):tactic)
 | "nd"=>`(tactic| first|assumption | (change List.Nodup (_++List.map _ _);decide +kernel) | decide +kernel)
 | "sn"=>do `(tactic| with_unfolding_all $(<-qUq (<-`(tactic| fail)) λi=>`(tactic| exact Sn.mk (i:=$i) (by subst"nd") rfl (by subst"L") (by subst"L"))):tactic)
 | "mg"=>qT "U|mgN rfl +"
 | "bz"=>qT "U|Bz.mk rfl (mgN rfl +)"
 | "bi"=>qT "U|Bi.mk rfl (mgN rfl +) & & rfl rfl"
 | "cl"=>qT "U|Cl.mk (#Exists.intro _ (#And.intro = &)) rfl rfl & rfl rfl"
 | "hu"=>qT "U|#L2.Room.units =|#L2.V9 ="
 | "mk"=>qT "U|#L2.nomark _|rfl"
 | "mt"=>qT "U|Mt.mk rfl rfl rfl rfl rfl"
 | "me"=>qT "U|Me.mk rfl"
 | "su"=>qT "U|Su.mk rfl rfl rfl ~1"
 | "tt"=>qT "U|Tt.mk rfl rfl (#Exists.intro _ (#Exists.intro _ (#And.intro rfl (#And.intro rfl rfl))))"
 | "kit"=>qT "|#L2.kit_int|#L2.kit_ib"
 | "tF"=>do `(tactic| with_unfolding_all repeat' $(<-qUq (<-`(tactic| first|exact FrS.nil|refine' FrS.loc ?_|refine' FrS.glo ?_)) λi=>`(tactic| refine' FrS.fre $i rfl ?_)):tactic)
 | "hg"=>`(tactic| with_unfolding_all (intro _ _ _ _ _;first|exact pg_name (i:=0) (show List.Nodup (_++List.map _ _)by decide +kernel) rfl (by subst"L") (by subst"L") | exact v7 (i:=0) (j:=1) rfl))
 | "at"=>`(tactic| (refine⟨rfl,λ_ _ _ _ _ _ _ _ _=>Gs.b ?_⟩;(conv=>arg 2;whnf);try (conv=>arg 5;dsimp only)))
 | "i1"=>qT "|ix_fst|ix_snd|^ix_s0 ?|^ix_s1 ?|ix_l ?|ix_fz ?"
 | "o1"=>qT "|ow_add|ow_sub|ow_lt|ow_gt|ow_ge|ow_eqI|ow_neI|ow_mul ?|ow_mod ?|ow_fdp ?|ow_fdn ?|ow_in|ow_notin|ow_cat ?|RA|qw !|v9 ?"
 | "e1"=>qT "Ev _ $ _ _|.Name _ _;ae|au|WN|zai|.Subscript _ _ _;Ef.ev (eG bj ? ?)/Ef.ev (eG ? ? ?)/BC bj ? ?/jN iI ? ?/jN uB ? ?/bG ? ? ?|.BinOp _ _ _ _;Ef.ev (dG bj ? ?)/Ef.ev (dG ? bj ?)/aL ? ? ?|.Compare _ _ _ _;wW ? ? ?|.UnaryOp _ _ _;wU ?|.BoolOp _ (.cons _ .nil) _;BB ?|.BoolOp _ _ _;BD ? %1|.Tuple _ _ _;Fe ?|'len;nO bj/Nk ? ?/Nn ? ?|'abs;SR ?|'all;SQ ?|'sum;Jg ?|'max;DA ? ?|'min;wV ? ?|.Call (.Attribute _ 'index _) _ _ _;zT bj ? ?/zT ? ? ?|.Call (.Attribute _ 'get _) _ _ _;o7 iI ? ?/o7 uB ? ?/o7 ? ? ?|.Call (.Name _ _) _ _ _;zcP ? ? ?|Ef.ev ?"
 | "f1"=>qT "Ef _ $ _ _|.List _ _;kL ? ?|.BinOp _ _ _ _;dG bj ? ?/dG ? bj ?/dG ? ? ?|.Subscript _ _ _;eG bj ? ?/eG ? ? ?|.ListComp _ (.cons (.mk _ _ .nil _) .nil) _ _;iH _ ? %7 ?/Nw _ ? %8 ?|.ListComp _ _ _ _;mv _ _ ? %7 %8 ?|.Call (.Name 'list _) (.cons (.Call (.Name 'range _) (.cons _ .nil) _ _) .nil) _ _;wY ? ?|.Call (.Name 'list _) (.cons (.Call (.Name 'range _) _ _ _) .nil) _ _;zU ? ? ? ? ? ?|.Call (.Name 'list _) (.cons (.Call (.Name 'zip _) _ _ _) .nil) _ _;ph bj bj ?/ph bj ? ?/ph ? ? ?|.Call (.Name 'list _) (.cons (.Call (.Name 'reversed _) _ _ _) .nil) _ _;rD ? ?|.Call (.Name 'dict _) (.cons (.Call _ _ _ _) .nil) _ _;mC bj bj ? ? ?/mC ? ? ? ? ?|'dict;zV iI/zV ?|'list;wX iI/DE iI|zfg|zff ? ?"
 | "t1"=>qT "Et _ $ _ _|.Compare _ _ _ _;ux ? iI/Jo bj bj ?/iD ? ? ?|.UnaryOp _ _ _;BF ?|.BoolOp _ _ _;Jm ?|BE ?"
 | "w1"=>qT "Ew _ $ _ _|.BoolOp _ (.cons _ .nil) _;wQ ?/By ?|BA ? %1|Jf ? %1"
 | "n1"=>qT "|ei_rng ? ?|ei_rng2 ? ? ?|ei_rngD ? ? ? ?|ei_enum ?|ei_zip ? ?|ei_rev ?|ei_k ? ?"
 | "g1"=>qT "Gs _ $ _ _ _|.cons (.Return _ _) _;iA ? ?|.cons (.Assign (.cons (.Name _ _) .nil) (.List _ _) _) _;bP ? ?|.cons (.Assign (.cons (.Name _ _) .nil) (.ListComp _ _ _ _) _) _;jx _ ? %7 ? rfl ?/wL _ ? %8 ? rfl ?/wN _ _ ? %7 %8 ? rfl ?|.cons (.Assign (.cons (.Name _ _) .nil) _ _) _;eC ? ?|.cons (.Expr _ _) _;oZ ? ?|.nil;aj ?"
 | "v1"=>qT "|Ev _ _ _ _;@e1|Ow _ _ _ _ _;@o1|Ea _ _ _ _;av/aa ? ?|Et _ _ _ _;@t1|Gs _ _ _ _ _;@g1|Ef _ _ _ _;@f1|Ix _ _ _ _;@i1|Ew _ _ _ _;@w1|Eo _ _ _ _;o9/o8 ?|Ln _ _ _;YS/YT|P;P7.cons ? ?/P7.nil/Td/Tc/^Tb/Y3/Y2/kK/fK ? ?/gY ?/oy ?/Py ?/WI ?/bj/Ev.el ?/iI/uB/Ev.ed ?/@n1"
 | "s"=>`(tactic| first|assumption|exact⟨by simp,by simp⟩|exact⟨by lia,by lia⟩|lia | (simp;done))
 | "ht"=>`(tactic| with_unfolding_all (intro _ _ _ _ _;first|exact pe_var rfl (by subst"V") (by decide) (by decide) | exact vX OV (pe_var rfl (by subst"V") (by decide) (by decide)) (pe_var rfl (by subst"V") (by decide) (by decide)) (by subst"mk")))
 | _=>Lean.Macro.throwUnsupported
section
variable {C:Cfg} [Env C]
instance:dI C "common_divisor" 1 (ai mU) P9:=by
 refine No 22 ?_;rintro _ _ ⟨a,b,-,rfl,rfl⟩;subst"at";walk_at ""
 refine' gX (λm e=>∃(x:Int) (s:Sl),e=[.sh (is a),.sh (is b),.sh (is x),.sh (is (m:Int)),s]/\0<=x/\Int.gcd x m=Int.gcd a b) ?a ?b
 case a=>exact⟨b.natAbs,_,_,by rw[show(if b<0 then -b else b)=(b.natAbs:Int)by split<;>lia];rfl,by split<;>lia,by rw[<-Dx a b,show(if b<0 then -b else b)=(b.natAbs:Int)by split<;>lia]⟩
 rintro m _ ⟨x,s,rfl,d,c⟩
 refine' ⟨!decide ((m:Int)=0),by walk_at "",λh=>?_,λh=>?_⟩
 have f:0<m:=by lia
 walk_at "";show(0:Int)<m;lia;have e:x%(m:Int)=((x%m).toNat:Int):=(Hx (FI _ (by lia))).symm;have:=FK x (show(0:Int)<m by lia);exact⟨(x%m).toNat,by lia,_,_,by rw[e];rfl,by lia,by rw[<-e,zP x m d (by lia),c]⟩;walk_at "";obtain rfl:m=0:=by lia
 rw[<-c];exact(Dw x d).symm
section
local macro_rules | `(tactic| subst"o1")=>`(tactic| with_reducible refine' ow_fdn ?_)
instance:dI C "ratio" 2 (ai zdo) zep:=by
 refine No 23 ?_;ext _ _ ⟨a,b,⟨f,hz⟩,rfl,rfl⟩;subst"at"
 refine' cI (λe=>e=[.sh<|is a,.sh<|is b,.un]) (by ext) (λh=>absurd (Eb h) f) (λ_=>aj rfl) ?_
 ext _ rfl;let d:∀x,KI x _:=λx=>PR (a:=a) f hz;ext;trivial
 refine' cI (λe=>e=[.sh<|is a,.sh<|is b,.sh<|is<|if b<0 then -((Int.gcd a b:Nat):Int)else((Int.gcd a b:Nat):Int)]) (by ext) (λh=>?a) (λh=>?b) ?c
 case a=>ext;rw[Al<|Eb h];rfl
 case b=>ext;rw[Ak<|Hu h];rfl
 ext _ rfl;ext;all_goals first|rfl | (split<;>first|exact d _|exact WX<|d _)
end
instance:dI C "common_bottom" 2 (ai oD) zfx:=by
 refine No 25 ?_;ext _ _ ⟨⟨fs⟩,⟨⟨z,c,hz⟩,g⟩,rfl,rfl⟩;subst"at";let g:=g;let c:=c;ext
 refine' c8 (λi e=>∃s:Sl,e=[.sh<|is<|Sq.mk fs,.sh<|is<|dO<|fs.take i,s]) (SU ae) #[_,rfl] ?_ ?_
 ext i d _ l ⟨s,rfl⟩;let j:=A5 l;let o:=c.pos d j;let k:=(c.bot d j).mono hz;let m:Fq z<|fs.take i:=#[λf h=>c.pos f<|Fz h,λf h=>c.top f<|Fz h,λf h=>c.bot f<|Fz h];let p:=(iQ.n6 m.pos).1;let n:=o6 (dO<|fs.take i) (show d.2≠0 by lia)
 refine' aN ?a ?b (aj #[_,rfl])
 case a=>
  ext;trivial;exact#[(),Sz.le k<|~~~(Int.gcd_le_natAbs_right (dO<|fs.take i)<|show d.2≠0 by lia)];exact Sz.fB (Sz.le (IE m hz<|by rw[Fb];lia)<|Kj _ _) k
 case b=>rw[take_snoc l,e7]
 ext _ ⟨s,rfl⟩;ext;rw[F6]
instance:dI C "made_whole" 3 (ai vt) TY:=by
 refine No 26 ?_;ext _ _ ⟨⟨fs⟩,c,rfl,rfl⟩;let#[#[z,a,hz],b]:=id c;let b:=b;let a:=a;subst"at";ext;all_goals first|exact c|exact b|rfl|skip
 exact#[a.pos _ ‹_›,(a.bot _ ‹_›).mono hz];exact Sz.fB ((a.top _ ‹_›).mono hz)<|Sz.le (IE a hz b)<|Kj _ _
instance:dI C "whole_spot" 4 (ai vm) NV:=by
 refine No 39 ?_;ext _ _ ⟨⟨fs⟩,⟨b,a⟩,rfl,rfl⟩;subst"at";ext;all_goals first|exact#[b,Ay a A?]|rfl|simp
 unfold FV;simp;lia
instance:dI C "turn" 1 (ai QS) TQ:=by refine No 40 ?_;ext _ _ ⟨_,_,_,⟨p,q,r,rfl,rfl,rfl,⟨i,h,k⟩,⟨b1,b2,e⟩,⟨f,g,j⟩⟩,rfl,rfl⟩;subst"at";ext;all_goals first | (show _/\_;simp[l3];done) | exact Sz.fB ‹_› ‹_› | exact Sz.fB ‹_› ((λd a b c=>Sz.sub (Sz.mul d a)<|Sz.mul b c) ‹_› ‹_› ‹_› ‹_›) | rfl
instance:dI C "goes_left" 2 (ai yv) T2:=by
 refine No 41 ?_;ext _ _ ⟨L,⟨H,Q⟩,rfl,rfl⟩;subst"at";show Gs _ _ [.sh _,.un,.un] _ _
 refine' cI (λe=>e=[.sh<|is L,.un,.un]/\3<=L.z) (by ext) (λh=>?_) (λh=>?_) ?_
 ·ext;exact(uV λz=>by let:=z.1;lia).symm
 ·exact aj #[rfl,()]
 ext _ ⟨rfl,F⟩
 refine' dF (λk e=>(∀f,f<k->xJ L f)/\∃s t,e=[.sh<|is L,s,t]) (by ext) () #[λf h=>(),_,_,rfl] ?_ ?_
 ·ext k _ p ⟨r,s,t,rfl⟩;let j:∀i,i<L.z->(L.drop k++L.take k)[i]?=some (L.getD ((k+i)%L.z) []):=λi d=>by
   let A:(k+i)%L.z<L.z:=AK _ ();rw[su,me A,M8,<-me A,getElem?_append,Ey];ext(c:k+i<L.z)
   ·rw[Al (),Hj,AV c]
   ·rw[Ak (),getElem?_take_of_lt (),Hr (),AV ()]
    congr 1
    lia
  let u:∀i,i<L.z->∃a:V3,L.getD i []=l3 a/\S3 30000 a:=λi d=>by
   let#[q,g]:=H _<|bh d
   match L.getD i [],q,g with
   | [x,y,z],_,g=>exact#[#[x,y,z],rfl,g _ A!,g _ A!,g _ A!]
  refine' aN ?a ?b ?c
  case a=>
   ext;rw[aT,bR,Ey,Fb];lia
  case b=>rw[aT,bR]
  generalize N:L.drop k++L.take k=B at j ⊢;let P:B.z=L.z:=by rw[<-N,Ac,Ey,Fb];lia
  let o:∀i:Nat,i<L.z->ix B (i:Int)=L.getD ((k+i)%L.z) []:=λi d=>by
   rw[cH (),su,j i d];rfl
  let b2:∀{i:Nat} {x:cc},(part B (some 2) none)[i]?=some x->x=L.getD ((k+(2+i))%L.z) []/\2+i<L.z:=λ{i x} h=>by
   rw[show(2:Int)=((2:Nat):Int)from rfl,aT,Hj]at h;let D:=(AA.mp h).1;rw[j _ ()]at h;exact#[(BV h).symm,()]
  refine' bT (k:=FQ<|¬xJ L k) (Et.eq ?t1 ?t2) ?i1 ?m
  case t1=>
   ext
   all_goals first | (constructor<;>lia) | skip
   ·let#[i,d]:=Ej.mp ‹_∈part B (some 2) none›;let#[e2,m]:=b2 d;let#[a,M,E]:=u ((k+0)%L.z)<|AK _ ();let#[b,I,J]:=u ((k+1)%L.z)<|AK _ ();let#[c,O,G]:=u ((k+(2+i))%L.z)<|AK _ ();exact#[a,b,c,(o 0 ()).trans M,(o 1 ()).trans I,e2>>O,E,J,G]
   ·rw[show(2:Int)=((2:Nat):Int)from rfl,aT,Ey];lia
  case t2=>
   rw[Az];refine Iff.trans (by rw[Bool.not_eq_true',Bool.eq_false_iff])<|not_congr ?_;rw[all_eq_true];let w:=o 0 ();let v:=o 1 ();refine#[λh i R d=>?_,λh x K=>?_]
   ·let:=h _<|mem_map_of_mem<|Ej.mpr #[i-2,by erw[show(2:Int)=((2:Nat):Int)from rfl,aT,Hj,j (2+(i-2)) ()]];rw[show 2+(i-2)=i by lia]at this;let:=Eb this;rwa[show ix B 0=_ from w,show ix B 1=_ from v,EH,AV p]at this
   ·let#[l,D,rfl]:=A3.mp K;let#[i,d]:=Ej.mp D;let#[e2,m]:=b2 d;let:=h (2+i) () m;rw[<-e2]at this;refine BG ?_;erw[show ix B 0=_ from w,show ix B 1=_ from v,EH,AV p,this]
  case i1=>
   ext h;ext;exact(uV λz=>(jF.mp h)<|z.2 k p).symm
  case m=>
   ext h;exact aj #[λf h'=>by
    ext(z:f=k)
    ·rw[z];exact BS λn=>by rw[kW n]at h;cases h
    ·exact r f (),_,_,rfl]
 ·ext _ ⟨r,s,t,rfl⟩;ext;exact(kW #[F,r]).symm
instance:dI C "onward" 1 (ai zes) zcr:=by
 refine No 15 ?_;ext _ _ ⟨L,a,b,⟨d,g⟩,rfl,rfl⟩;let#[e,b1,b2,c]:=g.back d;let f:ix L b=br L b:=by rw[show b=((b.toNat:Nat):Int)by lia,cH (),su,show((b.toNat:Nat):Int)=b by lia,ag e b1];rfl
 let h:=Ci c;subst"at";ext;all_goals try rw[f]
 all_goals first|exact c|exact#[(),()]|skip
 exact wC<|zcT c
instance:dI C "ring_from" 2 (ai yq) TV:=by
 refine No 16 ?_;ext _ _ ⟨L,d,b,c,q,rfl,rfl⟩;subst"at"
 refine' bP (w:=ol [d.1]) ?a1 ?_
 case a1=>ext;simp
 ext;exact#[b,c]
 refine' gX (λm e=>∃(j:Nat) (s:Sl),e=[.sh<|is L,.sh<|is d.1,.sh<|is d.2,.ow<|ol<|aI L d<|j+1,.sh<|is (it L d<|j+1).1,.sh<|is (it L d<|j+1).2,s]/\jE L d (j+1)/\m+j=(cT L L.z).z) ?a2 ?b2
 case a2=>exact#[_,0,_,rfl,λi g k=>(),rfl]
 ext m _ ⟨j,s,rfl,f,p⟩
 refine' #[!decide ((it L d<|j+1).1=d.1/\(it L d<|j+1).2=d.2),by ext,λh=>?c1,λh=>?c2]
 case c1=>
  let a:jE L d<|j+1+1:=λi g k=>by
   ext(z:i=j+1);erw[z,λy=>by simp[y]at h]
   exact f i g ()
  let o:=qB b c a
  refine' cu (xs:=aI L d<|j+1) ?d1 ?d2 ?_
  case d1=>ext
  case d2=>unfold aI;simp;lia
  ext;exact#[b,qU b c _];refine#[m-1,(),j+1,.sh<|is (it L d<|j+1+1).2,?_,a,()];let l:aI L d (j+1)++[(it L d<|j+1).1]=aI L d (j+1+1):=by unfold aI;rw[GI (n:=j+1),EE];rfl
  rw[<-l];rfl
 case c2=>
  refine bF (i:=3) ?_
  refine' cg ?d1 #[j+1,rfl,(),?d2,f]
  case d1=>ext
  case d2=>
   let:(it L d<|j+1).1=d.1/\(it L d<|j+1).2=d.2:= ~~~h
   exact EF this.1 this.2
instance:dI C "steps" 1 (ai zeA) NY:=by refine No 18 ?_;ext _ _ ⟨r,⟨d,c⟩,rfl,rfl⟩;let a:part r (some 1) none++part r none (some 1)=dX r 1:=congr (A4 _<|aT r 1)<|bR r 1;let rl:(dX r 1).z=r.z:=bQ ();subst"at";ext;rw[<-Ac,a];lia;rw[a,rl];rw[a];apply Gx;ext j;ext(b:j<r.z);rw[tJ b];exact Ki.mpr #[W4 b,zdA b];rw[Eu (by rw[G9];lia),Eu<|by rw[cG];lia]
instance:dI C "least_begun" 1 (ai sD) zeK:=by
 refine No 17 ?_;ext _ _ ⟨r,g,i,rfl,rfl⟩;let#[m,s,d]:=Bx (l:=r) (λz=>by rw[z]at g;cases g);let q:∀k:Nat,k<r.z->ix r (k:Int)=cy r k:=λk b=>by rw[cH b,a9 b,su,me b];rfl
 subst"at"
 refine' eC (Nj ?a1 s d) ?_
 case a1=>ext
 refine let C:=(aP r.z).filter λk=>decide<|ix r k=m;?_;let e:∀{k},k∈C↔∃j:Nat,k=j/\j<r.z/\cy r j=m:=λ{k}=>by rw[Gp,Ii];unfold aP;rw[mem_map];constructor;ext⟨⟨j,a,rfl⟩,h⟩;rw[mem_range]at a;exact#[j,rfl,a,by erw[<-q j a,h]];ext⟨j,rfl,a,h⟩;exact#[#[j,Ad.mpr a,rfl],q j a>>h]
 let pr:∀j:Nat,part r (some (j:Int)) none++part r none (some (j:Int))=dX r j:=λj=>congr (A4 _<|aT r j)<|bR r j;let#[k,b,v]:=Eg.mp s;let u:=e.mpr #[k,rfl,b,a9 b>>v]
 refine' (.of (aR (AS (Ni ?a2 ?b2).p) mY)<|.mk λE D A=>(zeY (N:=λ_=>False) aq ?t).h E (λ_ _ _ _ f=>f.elim) A)
 case a2=>
  refine' Ev.el (Ef.ev<|mv (λk=>part r (some k) none++part r none (some k)) (λk=>decide<|ix r k=m) ?i1 (λx n _ _ _ _ _=>?i2) (λx n _ _ _ _ _ _=>?i3) ?i4)
  case i1=>ext;exact i
  case i2=>
   ext;let#[j,a,rfl]:=A3.mp n;rw[mem_range]at a;exact#[(),()]
  case i3=>
   ext;let#[j,a,rfl]:=A3.mp n;rw[mem_range]at a;erw[<-Ac,pr,bQ (),i]
  case i4=>unfold aP;simp;exact i
 case b2=>rw[ZO];exact Fp u
 case t=>
  ext l ⟨w,le⟩;let#[c,B,rfl]:=A3.mp w;let#[c,rfl,y,t]:=e.mp B;rw[pr]at le ⊢;refine#[c,rfl,y,λj a=>?_];ext(z:cy r j=m);let:=le _<|A3.mpr #[j,e.mpr #[j,rfl,a,z],rfl];rwa [pr]at this;let o:=le _<|A3.mpr #[k,u,rfl];rw[pr]at o;refine Le.trans o<|Le.of_lt<|Q2 b a ?_;let:=d (cy r j)<|a8 g;rw[a9 b,v];lia
instance:dI C "lands" 3 (ai zdQ) Oa:=by
 refine No 19 ?_;ext _ _ ⟨L,⟨G,ac,dl⟩,rfl,rfl⟩;subst"at"
 refine' bP (w:=od ([]:List<|af×Bool)) ?a1 ?_
 case a1=>ext
 refine' bP (w:=ol ([]:cq)) ?a2 ?_
 case a2=>ext;simp
 let key:∀(ks:List af),(ks.map λd=>(d,true)).map (·.1)=ks:=λks=>ED>>map_id' ks
 refine' jy (xs:=enum L) (λi e=>∃(ks:List af) (R:cq) (D E o m c:Sl),e=[.sh<|is L,.ow<|od<|ks.map λd=>(d,true),.ow<|ol R,D,E,o,m,c]/\Lp L R ks/\∀d,Dt L d->d.1<i->d∈ks) ?a3 #[[],[],_,_,_,_,_,rfl,Lp.start,λd g b=>by let:=g.lo;lia] ?b3 ?c3
 case a3=>ext
 case b3=>
  ext i x l _ t ⟨ks,R,D,E,o,m,c,rfl,s,A⟩;let#[l',O,e]:=iF.mp t;cases e;let hi:=(AA.mp O).1;let M:br L (i:Int)=l:=by let:=ag (L:=L) (a:=(i:Int)) () ();rw[EC,O]at this;exact(BV this).symm
  refine' c8 (xs:=l) (λk e=>∃(ks:List af) (R:cq) (o m c:Sl),e=[.sh<|is L,.ow<|od<|ks.map λd=>(d,true),.ow<|ol R,.sh<|is (i:Int),.sh<|is l,o,m,c]/\Lp L R ks/\∀d,Dt L d->(d.1<i\/d.1=i/\d.2∈l.take k)->d∈ks) ?a4 #[ks,R,_,_,_,rfl,s,λd g b=>A d g<|b.elim id λz=>by simp at z] ?b4 ?c4
  case a4=>ext
  case b4=>
   clear ks R D E o m c s A t;ext k y _ H ⟨ks,R,o,m,c,rfl,q,r⟩;let dt:Dt L ((i:Int),y):=#[by simp,~~~hi,M>>A5 H]
   refine' bT (k:=decide<|((i:Int),y)∉ks) (Et.eq ?t1 ?t2) (λh=>?i1) λh=>?i2
   case t1=>ext
   case t2=>
    cases z:cF (ks.map λd=>(d,true)) ((i:Int),y)with
    | none=>rw[eK,key]at z;simp[z]
    | some v=>
     let:((i:Int),y)∈ks:=BS λn=>by rw[eK.mpr<|key>>n]at z;cases z
     simp[this]
   case i2=>
    let J:((i:Int),y)∈ks:= ~~~h
    refine aj #[ks,R,_,_,_,rfl,q,λd g b=>?_];rw[take_snoc H]at b;ext(b|⟨b,f⟩:b);exact r d g<|.inl b;ext(f|f:Af.mp f);exact r d g<|.inr #[b,f];erw[show d=((i:Int),y)from EF b<|Ax.mp f,J]
   case i1=>
    let XN:((i:Int),y)∉ks:= ~~~h
    refine' c7 (az (aa ?r1<|aa ?r2<|aa ?r3 av) #[L,((i:Int),y),G,dt,dl,rfl,rfl]) ?_
    case r1=>ext
    case r2=>ext
    case r3=>ext
    ext _ ⟨n,rfl,W,K,S⟩;let I:(aI L ((i:Int),y) n).z=n:=by unfold aI;simp
    let ab:=qB G dt S;let al:=q.len;let ad:=q.two
    refine' zaO (xs:=R) (az (aa ?r4 av) #[aI L ((i:Int),y) n,by rw[I];lia,by rw[I];lia,rfl,rfl]) () ?_
    case r4=>ext
    ext _ ⟨Z,rfl,Q,P⟩;rw[I]at Q P;let B:=q.add G dt W K S XN Q P;let F:=B.perm<|(perm_append_left_iff ks).mpr (gx (aI L ((i:Int),y) n)<|n-1).symm;let U:=F.len;rw[Ac,cG]at U;generalize R++[dX (aI L ((i:Int),y) n) Z]=N at B F ⊢
    refine' c8 (xs:=sh 0<|aI L ((i:Int),y) n) (λj e=>∃c:Sl,e=[.sh<|is L,.ow<|od<|(ks++(sh 0<|aI L ((i:Int),y) n).take j).map λd=>(d,true),.ow<|ol N,.sh<|is (i:Int),.sh<|is l,.sh<|is y,.sh<|is<|aI L ((i:Int),y) n,c]) ?a5 #[_,by rw[take_zero,GA];rfl] ?b5 ?c5
    case a5=>ext;exact#[(),()]
    case b5=>
     ext j x _ t ⟨c,rfl⟩;let hj:=(AA.mp t).1;rw[cG]at hj
     refine' o4 (xs:=(ks++(sh 0<|aI L ((i:Int),y) n).take j).map λd=>(d,true)) (k:=x) (u:=true) ?r5 ?r6 ?r7 (aj #[_,?r8])
     case r5=>ext
     case r6=>ext
     case r7=>rw[ZO,Ac,Fb,cG];lia
     case r8=>
      rw[rJ (key>>hV F.nd t),take_snoc t,<-Ga,EE (l₁:=ks++_)];rfl
    case c5=>
     ext _ ⟨c,rfl⟩;rw[F6];refine aj #[_,N,_,_,_,rfl,F,λd g b=>?_];rw[take_snoc H]at b;ext(z:d=((i:Int),y));rw[z];refine E8 _<|(aF ()).mpr #[0,?_];rw[iJ W K];rfl;refine E9 _<|r d g ?_;ext(b|⟨b,f⟩:b);exact .inl b;ext(f|f:Af.mp f);exact .inr #[b,f];exact absurd (EF b<|Ax.mp f) z
  case c4=>
   ext _ ⟨ks,R,o,m,c,rfl,q,r⟩;rw[F6]at r;refine aj #[ks,R,_,_,_,_,_,rfl,q,λd g b=>r d g ?_];ext(z:d.1=i);refine .inr #[z,?_];let:=g.mem;rw[z,M]at this;exact this;exact .inl ()
 case c3=>
  ext _ ⟨ks,R,D,E,o,m,c,rfl,s,A⟩;rw[fY]at A;let U:=s.len;let l2:=s.two
  refine' nG (Ev.XY (zcX (L:=R) ?r1 ()) ?r2)
  case r1=>ext
  case r2=>
   ext _ ⟨p,X,Y,rfl⟩;exact(jL<|s.lands X Y λd T=>A d T T.hi).symm
section
open Dt
theorem Tg(r:g7 L n m)(p:c<n)(b:L[c]?=some l):Clr L ((L.map λr=>Q8 r l c d).set c l) n m c d:=by
 let e:=r.row l<|A5 b;let hlen:c<(L.map λr=>Q8 r l c d).z:=ZO>>r.len>>p
 refine#[#[Ec>>ZO>>r.len,λk g=>?_],λj q=>?_,λi j h s q=>?_];ext(z|rfl:Mq g);let#[x,a,rfl]:=A3.mp z;unfold Q8;rw[length_zipWith,e,r.row x a];lia;exact e;rw[A2 hlen,gA,fR b];let#[x,a,t]:=r.at h;rw[A2 hlen,iZ _ _ s,fR (by rw[AY,a];rfl),fR b,fR a,fR a,fR b];unfold Q8;rw[su,getElem?_zipWith];let o:x[j]?=some (x.getD j 0):=by rw[su];simp[show j<x.z by lia]
 let f:l[j]?=some (l.getD j 0):=by rw[su];simp[show j<l.z by lia]
 rw[o,f];rfl
section
local macro_rules | `(tactic| subst"o1")=>`(tactic| with_reducible refine' ow_fdn ?_)
instance:dI C "row_cleared" 1 (ai sA) zfQ:=by
 refine No 28 ?_;ext _ _ ⟨r,l,_,d,⟨k,m,rfl,rl,f,j,n,d0,g,c,a⟩,rfl,rfl⟩;let b:∀{x:cc},x.z=m->ix x (k:Int)=x.getD k 0/\ix x (k:Int)∈x:=λh=>cH ()>>#[rfl,bh ()]
 let#[e1,e]:=b f;let#[e2,i]:=b rl;subst"at";ext;all_goals first|exact#[(),()]|exact#[d0,g]|skip
 exact(a _ e).fB<|c _ (HL ‹_›).1;exact(c _ i).fB<|a _ (HL ‹_›).2;rw[G9];lia;erw[e1,e2,EC,pH (λx y=>(l.getD k 0*x-r.getD k 0*y).fdiv d) r l]
end
instance:dI C "column_cleared" 2 (ai mV) Og:=by
 refine No 29 ?_;ext _ _ ⟨L,_,d,⟨n,m,k,rfl,b,o,c,p,j,d0,i,e⟩,rfl,rfl⟩;let rl:=b.len;let f:ix L (k:Int)=L.getD k []:=cH ();let g:ix L (k:Int)∈L:=f>>bh ()
 let each:∀{x},x∈L->∃a m,(k:Int)=(a:Nat)/\x.z=m/\(ix L (k:Int)).z=m/\a<m/\m<=1000/\d≠0/\Sz 9000 d/\(∀y∈x,Sz 9000 y)/\∀y∈ix L (k:Int),Sz 9000 y:=λh=>#[k,m,rfl,b.row _ h,b.row _ g,c,j,d0,i,e _ h,e _ g];let l:(k:Int)+1=((k+1:Nat):Int):=rfl;subst"at";ext;all_goals first|exact#[(),()]|skip
 exact each (Fz<|by rwa[<-bR]);rw[bR,Fb];lia;exact each (GK<|by rwa[<-aT]);all_goals simp only[l,aT,bR,Ac,ZO,Fb,Ey,HA]
 all_goals first|lia|skip
 rw[f,EC,map_take,map_drop,tK<|by rw[ZO];lia];rfl
theorem xw(o:NR L n m M)(c:k<n)(j:g7 (gj L k).1 n m)(p:Cd n m M k k (mx L) (mx (gj L k).1) (gj L k).2 B) :
  ∃i,(∃r,k<=r/\r<n/\mx (gj L k).1 r k≠0)/\g7 (qM (gj L k).1 k) n m/\Sz 9000 (gj L k).2/\(∀l∈qM (gj L k).1 k,∀x∈l,Sz 9000 x)/\g7 (gj L<|k+1).1 n m/\Cd n m M (k+1) (k+1) (mx L) (mx (gj L<|k+1).1) (gj L<|k+1).2 i:=by
 let q:=p.lead c o.nm o.inj;let#[f,s,i,h]:=p.YV j c<|RX j c q;let nm:=o.nm;let g:(qM (gj L k).1 k)[k]?=some ((qM (gj L k).1 k).getD k []):=by rw[su,me<|f.len>>c];rfl
 let cl:=Tg (d:=(gj L k).2) f c g;let e:=h.next f c s cl;rw[<-cl.own k ()]at e;refine#[i,q,f,FA (h.S7 o.hM ()) o.hz,λl g x v=>?_,cl.Q7,e];let#[a,u]:=Ej.mp g;let#[b,t]:=Ej.mp v;erw[<-C1 u t,FA (h.FC o.hM () a b) o.hz]
instance:dI C "led" 1 (ai U9) Xl:=by
 refine No 27 ?_;ext _ _ ⟨L,_,⟨n,m,k,rfl,f,w,t,E,A,u⟩,rfl,rfl⟩;let rl:=f.len;let e1:ix L (k:Int)=L.getD k []:=cH ();let y:=f.row _ (bh (d:=([]:cc))<|show k<L.z by lia);subst"at"
 refine' aN (u':=L.getD k []) ?a1 e1 ?_
 case a1=>ext;exact#[(),()]
 refine' cI (k:=!decide (mx L k k=0)) (λe=>e=[.sh<|is L,.sh<|is (k:Int),.sh<|is<|L.getD k [],.un,.un]/\mx L k k=0) ?a2 (λh=>?b2) (λh=>?c2) ?_
 case a2=>
  rw[<-(OZ (L:=L) (i:=k) (j:=k) () ()),e1];ext;exact#[(),()]
 case b2=>
  ext;unfold qM;rw[Al<|~~~h]
 case c2=>exact aj #[rfl,~~~h]
 ext _ ⟨rfl,z⟩;let l:(k:Int)+1=((k+1:Nat):Int):=rfl
 refine' c8 (xs:=L.drop<|k+1) (λi e=>(∀r∈(L.drop<|k+1).take i,r.getD k 0=0)/\∃s,e=[.sh<|is L,.sh<|is (k:Int),.sh<|is<|L.getD k [],s,.un]) ?a3 #[by simp,_,rfl] ?b3 ?c3
 case a3=>
  rw[<-aT,<-l];ext
 case b3=>
  ext i r _ a ⟨b,s,rfl⟩;let B:=f.row r<|GK<|A5 a;let o:ix r (k:Int)=r.getD k 0:=cH ();let p:=(AA.mp a).1;rw[Ey]at p
  refine' bT (k:=!decide (r.getD k 0=0)) ?a4 (λh=>?b4) λh=>?c4
  case a4=>
   rw[<-o];ext;exact#[(),()]
  case b4=>
   refine' wL (ys:=List.zipWith (·+·) (L.getD k []) r) _ ?a5 (λ_ _ _ _ _ _ _ _=>?d5) ?e5 ?b5 ?_
   case a5|d5|e5=>ext;all_goals (rw[G9];lia)
   case b5=>exact pH (·+·) _ _
   refine bF (i:=4) ?_;ext;all_goals try simp only[l,aT,bR,Ac,Fb,Ey,HA]
   all_goals first|lia|skip
   rw[tK ()];unfold qM;rw[EC,Ak<|λn=>n z];let:(L.drop<|k+1).find? (λr=>decide<|r.getD k 0≠0)=some r:=(by rw[<-JS i (L.drop<|k+1),find?_append,Ij.mpr (λx c=>~~~b x c),I9 (by rw[Ey];lia),Ff,(AA.mp a).2,show decide (r.getD k 0≠0)=true by simpa using h];rfl);rw[this]
  case c4=>
   refine aj #[λx c=>?_,_,rfl];rw[take_snoc a]at c;ext(q|q:Af.mp c);exact b x q;rw[Ax.mp q];simpa using h
 case c3=>
  ext _ ⟨b,s,rfl⟩;exfalso;let#[r,D,v,g]:=u;let a:r≠k:=λq=>g<|q▸z;exact g (b (L.getD r [])<|F6>>Ej.mpr #[r-(k+1),by rw[Hj,show k+1+(r-(k+1))=r by lia,su,me ()];rfl])
instance:dI C "cleared" 3 (ai zbS) zdc:=by
 refine No 30 ?_;ext _ _ ⟨L,⟨n,m,M,o⟩,rfl,rfl⟩;let rl:=o.rc.len;let key:∀k,k<=n->∃B,g7 (gj L k).1 n m/\Cd n m M k k (mx L) (mx (gj L k).1) (gj L k).2 B:=λk=>by
  induction k with
  | zero=>intro _;exact#[mx L,o.rc,Cd.start o.hb]
  | succ k x=>
   ext f;let#[B,h]:=x ();let#[l,_,_,_,_,p,q]:=xw o f h.1 h.2;exact#[l,p,q]
 subst"at";ext
 refine' dF (m:=n) (λk e=>∃s,e=[.sh<|is L,.sh<|is (gj L k).2,.sh<|is (gj L k).1,s]) ?a o.hn #[_,rfl] ?b ?c
 case a=>rw[<-rl];ext
 case b=>
  ext k _ f ⟨s,rfl⟩;let#[B,i,j]:=key k ();let#[l,w,u,r,t,g,_]:=xw o f i j;let l3:=g.len;let nm:=o.nm;let y:ix (gj L<|k+1).1 (k:Int)=(gj L<|k+1).1.getD k []:=cH ();let v:=g.row _ (bh (d:=([]:cc))<|show k<(gj L<|k+1).1.z by lia);ext;exact#[n,m,k,rfl,i,f,(),o.hn,o.hm,w];exact#[n,m,k,rfl,u,f,(),o.hn,o.hm,j.ba.ne,r,t];change -(((gj L<|k+1).1.z:Nat):Int)<=_/\_<(((gj L<|k+1).1.z:Nat):Int);lia;change -(((ix (gj L<|k+1).1 (k:Int)).z:Nat):Int)<=_/\_<(((ix (gj L<|k+1).1 (k:Int)).z:Nat):Int);rw[y,v];lia;refine#[.sh<|is (k:Int),?_];change _=[Sl.sh<|is L,Sl.sh<|is<|mx (gj L<|k+1).1 k k,_,_];rw[<-OZ () ()];rfl
 case c=>
  ext _ ⟨s,rfl⟩;rw[rl];ext;rfl
end
instance:dI C "_law_divisor" 1 (ai pZ) P9:=by
 refine No 53 ?_;rintro _ _ ⟨a,b,-,rfl,rfl⟩;subst"at";walk_at ""
 refine' gX (λm e=>∃x:Int,e=[.sh (is x),.sh (is (m:Int))]/\0<=x/\Int.gcd x m=Int.gcd a b) ?a ?b
 case a=>exact⟨b.natAbs,_,by rw[show(if b<0 then -b else b)=(b.natAbs:Int)by split<;>lia];rfl,by split<;>lia,by rw[<-Dx a b,show(if b<0 then -b else b)=(b.natAbs:Int)by split<;>lia]⟩
 rintro m _ ⟨x,rfl,f,d⟩
 refine' ⟨decide ((0:Int)<(m:Int)),by walk_at "",λh=>?_,λh=>?_⟩
 have c:=Eb h;have e:x%(m:Int)=((x%m).toNat:Int):=(Hx (FI _ (by lia))).symm;have:=FK x c
 refine' Sy (aa ?c1 (aa ?c2 av)) ?c3
 case c1=>walk_at ""
 case c2=>walk_at "";exact c
 case c3=>exact aj ⟨(x%m).toNat,by lia,(m:Int),by rw[<-e];rfl,by lia,by rw[<-e,zP x m f c,d]⟩
 walk_at "";obtain rfl:m=0:=by have:=Hu h;lia
 rw[<-d];exact(Dw x f).symm
section
local macro_rules | `(tactic| subst"o1")=>`(tactic| with_reducible refine' ow_fdn ?_)
instance:dI C "_law_fraction" 2 (ai oE) zeL:=by
 refine No 54 ?_;ext _ _ ⟨a,b,⟨d,hz⟩,rfl,rfl⟩;let c:∀x,KI x _:=λx=>PR (a:=a) () hz;subst"at";ext;all_goals first|trivial|exact c _|skip
 unfold gJ;rw[Ak ()]
end
instance:dI C "_law_digit" 1 (ai vH) Oe:=by
 refine No 55 ?_;ext _ _ ⟨n,b,p,⟨⟨h,g⟩,⟨d,b1⟩,a,c⟩,rfl,rfl⟩;let#[p,rfl]:=FH a;subst"at";show Gs _ _ [.sh _,.sh _,.sh _,.un] _ _
 refine' dF (m:=p) (λk e=>∃s:Sl,e=[.sh<|is<|n / b ^ k,.sh<|is b,.sh<|is (p:Int),s]) ?a1 () #[_,by rw[Int.pow_zero,Int.ediv_one]] ?b1 ?c1
 case a1=>ext
 case b1=>
  ext k _ f ⟨s,rfl⟩
  refine' aN ?d1 ?d2 (aj #[_,rfl])
  case d1=>ext;exact fL () ()
  case d2=>rw[Int.pow_succ,Int.ediv_ediv_of_nonneg<|Int.pow_nonneg ()]
 case c1=>
  ext _ ⟨s,rfl⟩;ext;show(0:Int)<b;lia;rfl
instance:dI C "_law_plus" 3 (ai yA) zeT:=by refine No 65 ?_;ext _ _ ⟨⟨a,b⟩,⟨c,d⟩,⟨⟨h,f⟩,i,g,j,e⟩,rfl,rfl⟩;subst"at";ext;all_goals first|rfl|exact Sz.fB ‹_› ‹_› | exact#[E7 h f,(g.mul e).mono A?]
instance:dI C "_law_times" 3 (ai vB) zcm:=by refine No 66 ?_;ext _ _ ⟨⟨a,b⟩,⟨c,d⟩,⟨⟨h,f⟩,i,g,j,e⟩,rfl,rfl⟩;subst"at";ext;all_goals first|rfl|exact Sz.fB ‹_› ‹_› | exact#[E7 h f,(g.mul e).mono A?]
instance:dI C "ties" 1 (ai QT) TU:=by
 refine No 12 ?_;ext _ _ ⟨L,⟨k,b⟩,rfl,rfl⟩;subst"at"
 refine' bP (w:=ol ([]:List<|Int×Int)) ?a1 ?_
 case a1=>ext;simp
 refine' jy (xs:=enum L) (λi e=>∃s t:Sl,e=[.sh<|is L,.ow<|ol<|eL L i,s,t]) ?a2 #[_,_,rfl] ?b2 ?c2
 case a2=>ext
 case b2=>
  ext i x l _ j ⟨s,t,rfl⟩;let#[n,a,e]:=iF.mp j;cases e;let g:=(AA.mp a).1;let h:L.getD i []=l:=by rw[su,a];rfl
  let o:l.z<=L.z:=cZ (b.nd _ _ a) λy c=>#[(b.rg _ _ a y c).1,(b.rg _ _ a y c).2.1];let#[d,f]:=uZ l;let sl:=d.length_eq;let m:i*L.z<=60*60:=Fx () k
  refine' nH (xs:=eL L i) (ys:=((T8 l).filter λx=>decide<|(i:Int)<x).map λx=>((i:Int),x)) ?d1 ?d2 (aj #[_,_,?d3])
  case d1=>
   refine' Ev.el (Ef.ev<|mv (λx=>((i:Int),x)) (λx=>decide<|(i:Int)<x) (mh<|zca ?i1 ()<|b.nd _ _ a) (λx _ _ _ _ _ _=>?i2) (λx _ _ _ _ _ _ _=>?i3) ())
   case i1=>ext
   case i2=>ext
   case i3=>ext
  case d2=>
   let:=LF (λx=>decide<|(i:Int)<x)<|T8 l;let:=zr (L:=L) i;rw[ZO];lia
  case d3=>
   rw[Q0 d f (b.nd _ _ a) (λy c=>(b.rg _ _ a y c).2.1) g,<-h];rfl
 case c2=>
  ext _ ⟨s,t,rfl⟩;rw[fY];refine bF (i:=1) ?_;ext;rfl
instance:dI C "come_to" 1 (ai zbT) T4:=by
 refine No 13 ?_;ext _ _ ⟨L,st,S,J,q,⟨o,B⟩,rfl,rfl⟩;let key:∀(ks:cc),(ks.map λx=>(x,true)).map (·.1)=ks:=λks=>ED>>map_id' ks
 subst"at"
 refine' bP (w:=od [(st,true)]) ?a1 ?_
 case a1=>ext
 refine' bP (w:=ol [st]) ?a2 ?_
 case a2=>ext;simp
 refine' gX (λm e=>∃(ks g:cc) (s t:Sl),e=[.sh<|is L,.sh<|is st,.sh<|is S,.ow<|od<|ks.map λx=>(x,true),.ow<|ol g,s,t]/\F2 L S st ks g/\m=2*(L.z-ks.z)+g.z) #[_,[st],[st],_,_,rfl,F2.start,rfl] ?_
 ext m _ ⟨ks,g,s,t,rfl,fl,rfl⟩
 refine' #[decide<|(0:Int)<g.z,by ext,λh=>?c1,λh=>?c2]
 case c2=>
  let A:g=[]:=by
   cases g with
   | nil=>rfl
   | cons a b=>simp at h
  subst A;exact uh (f:=Ke L S st) (xs:=ks.map λx=>(x,true)) #[ks,rfl,fl.nd,fl.all]
 case c1=>
  obtain⟨j,pl,rfl⟩:∃j pl,g=j++[pl]:=#[g.dropLast,g.getLast (λz=>by rw[z]at h;simp at h),(dropLast_concat_getLast _).symm];let p:=(fl.re pl<|fl.sub pl A!).rg q #[o,B];let#[pn,rfl]:=FH p.1;let E:L[pn]?=some (L.getD pn []):=by rw[su,me ()];rfl
  refine' Sx (xs:=j) (u:=(pn:Int)) ?_
  refine' c8 (xs:=L.getD pn []) (λk e=>∃(c d:cc) (t:Sl),e=[.sh<|is L,.sh<|is st,.sh<|is S,.ow<|od<|c.map λx=>(x,true),.ow<|ol d,.sh<|is (pn:Int),t]/\KH L S st c d pn (L.getD pn []) k/\2*(L.z-c.z)+d.z<2*(L.z-ks.z)+(j++[(pn:Int)]).z) ?a3 #[ks,j,_,rfl,fl.pop,by simp] ?b3 ?c3
  case a3=>
   rw[<-iw (show pn<L.z by lia)];ext;exact#[(),()]
  case b3=>
   ext k y _ D ⟨c,d,t,rfl,i,r⟩;let H:=F2.len q #[o,B] i.nd i.re;let I:d.z<=c.z:=cp i.nw i.sub;let dn:(cF (c.map λx=>(x,true)) y).isSome=decide (y∈c):=by
    cases z:cF (c.map λx=>(x,true)) y with
    | none=>rw[eK,key]at z;simp[z]
    | some v=>
     let:y∈c:=BS λn=>by rw[eK.mpr<|key>>n]at z;cases z
     simp[this]
   refine' bT (k:=!decide (y∈c)&&!decide (y∈S)) (Et.eq ?t1 ?t2) (λh=>?i1) λh=>?i2
   case t1=>ext
   case t2=>rw[dn]
   case i2=>
    refine aj #[c,d,_,rfl,i.skip D ?_,r];ext(z:y∈c);exact .inl z;exact .inr (by simpa[z]using h)
   case i1=>
    obtain⟨F,G⟩:y∉c/\y∉S:= ~~~h
    let fa:=i.add D F G E;let l:=F2.len q #[o,B] fa.nd fa.re;rw[Ac,HA]at l
    refine' o4 (xs:=c.map λx=>(x,true)) (k:=y) (u:=true) ?d1 ?d2 (by rw[ZO];lia) ?_
    case d1=>ext
    case d2=>ext
    refine' cu (xs:=d) (u:=y) ?d3 () (aj #[c++[y],d++[y],_,?d4,fa,?d5])
    case d3=>ext
    case d4=>rw[rJ (key>>F),EE];rfl
    case d5=>
     rw[Ac,Ac,HA];lia
  case c3=>
   ext _ ⟨c,d,t,rfl,i,r⟩;exact aj #[_,r,c,d,_,_,rfl,i.done E,rfl]
instance:dI C "hangs" 2 (ai zdG) Ob:=by
 refine No 14 ?_;ext _ _ ⟨L,⟨k,l,e⟩,rfl,rfl⟩;subst"at"
 refine' iA (wW (DB (az (aa ?a<|aa ?b<|aa ?c av) #[L,0,[],k,e,#[by decide,()],rfl,rfl]) ?d) ?f ow_eqI) ?g
 case a=>ext
 case b=>ext
 case c=>ext;simp
 case d=>rintro D ⟨ks,h,j,i⟩;erw[h,ZO,OG e #[(),()] j i]
 case f=>ext
 case g=>rfl
instance:dI C "count" 4 (ai zdE) Of:=by
 refine No 20 ?_;ext _ _ ⟨L,⟨a,b,c⟩,rfl,rfl⟩;subst"at"
 refine' aN (u':=(iso L:Int)) (nO (xs:=(L.filter λl=>decide<|(l.z:Int)=0).map id) ?a1) ?b1 ?_
 case a1=>
  refine' Ev.el (Ef.ev<|mv id (λl:cc=>decide<|(l.z:Int)=0) ?i1 (λx _ _ _ _ _ _=>?i2) (λx _ _ _ _ _ _ _=>?i3) ())
  case i1=>ext
  case i2=>ext
  case i3=>ext
 case b1=>
  rw[map_id,<-countP_eq_length_filter];unfold iso;congr 2;funext l;cases l<;>simp;lia
 ext;all_goals first|exact#[a,b,c]|exact#[b,a]|rfl
instance:dI C "is_wrong" 1 (ai zav) NW:=by
 refine No 10 ?_;ext _ _ ⟨L,k,⟨c,⟨j,q⟩,o⟩,rfl,rfl⟩;subst"at";let#[k,rfl]:=FH j;let a:L[k]?=some (L.getD k []):=by rw[su,me ()];rfl
 let f:=c.nd _ _ a;let g:(L.getD k []).z<=L.z:=cZ f λy b=>#[(c.rg _ _ a y b).1,(c.rg _ _ a y b).2.1]
 refine' aN (u':=L.getD k []) ?a1 (cH ()) ?_
 case a1=>ext;exact#[(),()]
 generalize L.getD k []=l at a f g ⊢
 refine' cI (k:=false) (λe=>e=[.sh<|is L,.sh<|is (k:Int),.sh<|is l,.un]) (Et.eq ?t1 ?t2) (λh=>by cases h) (λ_=>aj rfl) ?_
 case t1=>ext;lia
 case t2=>rw[(zeJ l).mpr f];simp
 ext _ rfl
 refine' c8 (xs:=l) (λ_ e=>∃s:Sl,e=[.sh<|is L,.sh<|is (k:Int),.sh<|is l,s]) ?a2 #[_,rfl] ?b2 ?c2
 case a2=>ext
 case b2=>
  ext i y _ b ⟨s,rfl⟩;let rg:=c.rg _ _ a y<|A5 b;let#[d,rfl]:=FH rg.1;let m:L[d]?=some (L.getD d []):=by rw[su,me ()];rfl
  let bk:=c.sy _ _ a _ (A5 b) d rfl _ m
  refine' cI (k:=false) (λe=>e=[.sh<|is L,.sh<|is (k:Int),.sh<|is l,.sh<|is (d:Int)]) (Et.eq ?t3 ?t4) (λh=>by cases h) (λ_=>aj rfl) ?_
  case t3=>ext
  case t4=>
   let p:=rg.2.2;let n:=rg.2.1;simp only[Mo,N8];lia
  ext _ rfl
  refine' bT (k:=false) (Et.eq ?t5 ?t6) (λh=>by cases h) λ_=>aj #[_,rfl]
  case t5=>ext;exact#[(),()]
  case t6=>rw[iw ()];simpa using bk
 case c2=>
  ext _ ⟨s,rfl⟩;ext;rfl
instance:dI C "looked" 2 (ai zdl) zcF:=by
 refine No 11 ?_;ext _ _ ⟨L,⟨a,b⟩,rfl,rfl⟩;subst"at"
 refine' dF (m:=L.z) (λ_ e=>∃s:Sl,e=[.sh<|is L,s]) ?a1 () #[_,rfl] ?b1 ?c1
 case a1=>ext
 case b1=>
  ext k _ c ⟨s,rfl⟩
  refine' bT (k:=false) ?t1 (λh=>by cases h) λ_=>aj #[_,rfl]
  case t1=>ext;exact#[a,#[(),()],b]
 case c1=>exact λe h=>aj λ_=>rfl
instance:dI C "parts" 2 (ai zdZ) zeV:=by
 refine No 33 ?_;ext _ _ ⟨L,S,⟨c,o⟩,rfl,rfl⟩;subst"at"
 refine' wN (ys:=left L.z S) (xs:=aP L.z) id (λx=>!decide (x∈S)) ?i1 (λx _ _ _ _ _ _=>?i2) (λx _ _ _ _ _ _ _=>?i3) ?i4 ?b1 ?_
 case i1=>ext;lia
 case i2=>ext
 case i3=>ext
 case i4=>unfold aP;simp;lia
 case b1=>exact map_id _
 refine bF (i:=2) ?_;let rg:∀{s r},left L.z S=s::r->0<=s/\s<L.z:=λ{s r} h=>by let#[a,d,_]:=lG (n:=L.z) (S:=S) (s:=s) (h>>AO);exact#[a,d]
 refine' iA (BD (k:=decide<|(1:Int)<(left L.z S).z) (l:=decide<|((rn L S (ix (left L.z S) 0):Nat):Int)<(left L.z S).z) ?a2 λh=>BB ?b2) ?c2
 case a2=>ext
 case b2=>
  let h:(1:Int)<(left L.z S).z:=Eb h;let b:0<=ix (left L.z S) 0/\ix (left L.z S) 0<L.z:=by
   cases hl:left L.z S with
   | nil=>rw[hl]at h;simp at h
   | cons s r=>rw[C8];exact rg hl
  refine' wW (DB (m:=rn L S<|ix (left L.z S) 0) (az (aa ?r1<|aa ?r2<|aa ?r3 av) #[L,_,S,o,c,b,rfl,rfl]) ?r4) ?r5 ow_lt
  case r1=>ext
  case r2=>ext;exact#[(),()]
  case r3=>ext
  case r4=>rintro D ⟨ks,a,j,e⟩;erw[a,ZO,OG c b j e]
  case r5=>ext
 case c2=>
  cases hl:left L.z S with
  | nil=>rw[CI hl];rfl
  | cons f r=>
   cases r with
   | nil=>rw[zdO hl];rfl
   | cons g r=>
    rw[qi hl,show decide ((1:Int)<((f::g::r).z:Nat))=true by simp;lia,Bool.true_and];rw[C8,KR,Ii,Ii];lia
instance:dI C "short_lists" 1 (ai sv) NZ:=by
 refine No 34 ?_;ext _ _ ⟨n,⟨a,d⟩,rfl,rfl⟩;let#[n,rfl]:=FH a;subst"at";rw[EC];let sl:∀k,(dE n k).z<=1+n+k*n:=λk=>by
  induction k with
  | zero=>unfold dE aP;simp;lia
  | succ k c=>unfold dE;rw[Ac,twos_len,Ks];lia
 refine' bP (w:=ol ([[]]:cq)) ?a1 ?_
 case a1=>ext<;>simp
 refine' nH (xs:=([[]]:cq)) (ys:=(aP n).map λi=>[i]) ?a2 ?b2 ?_
 case a2=>ext<;>first | (unfold aP;simp;lia) | simp|lia
 case b2=>unfold aP;simp;lia
 refine' dF (m:=n) (λk e=>∃s:Sl,e=[.sh<|is (n:Int),.ow<|ol<|dE n k,s]) ?a3 () #[_,rfl] ?b3 ?c3
 case a3=>ext
 case b3=>
  ext k _ b ⟨s,rfl⟩
  refine' nH (xs:=dE n k) (ys:=twos n k) ?d1 ?d2 (aj #[_,rfl])
  case d1=>
   let e:twos n k=(xZ ((k:Int)+1) ((n:Int)-((k:Int)+1)).toNat).map λj=>[(k:Int),j]:=(by unfold twos xZ;rw[ED,show((n:Int)-((k:Int)+1)).toNat=n-(k+1)by lia];rfl);rw[e];ext<;>first | (rw[kT];lia) | (constructor<;>lia) | simp
  case d2=>
   let:=sl k;let:k*n<=60*60:=Fx () ();rw[twos_len];lia
 case c3=>
  ext _ ⟨s,rfl⟩;refine bF (i:=1) ?_;ext;rfl
instance:dI C "parting" 3 (ai zbb) zby:=by
 refine No 35 ?_;ext _ _ ⟨L,⟨d,f⟩,rfl,rfl⟩;subst"at"
 refine' c8 (xs:=dE L.z L.z) (λi e=>(∀S∈(dE L.z L.z).take i,Aj L S=false)/\∃s:Sl,e=[.sh<|is L,s]) ?a1 #[by simp,_,rfl] ?b1 ?c1
 case a1=>
  refine' mh (Ev.eq (az ?i1<|gY (u:=(L.z:Int)) #[(),()]) rfl)
  case i1=>ext
 case b1=>
  ext i S _ c ⟨b,s,rfl⟩
  refine' bT (k:=Aj L S) ?t1 (λh=>?i1) λh=>?i2
  case t1=>ext;exact#[d,f]
  case i1=>
   let:(dE L.z L.z).find? (Aj L)=some S:=(by rw[<-JS i (dE L.z L.z),find?_append,Ij.mpr (λx a=>b x a>>Bj),I9 (AA.mp c).1,Ff,(AA.mp c).2,h];rfl);erw[this,nG<|Ev.some ae]
  case i2=>
   refine aj #[λx a=>?_,_,rfl];rw[take_snoc c]at a;ext(q|q:Af.mp a);exact b x q;erw[Ax.mp q,h]
 case c1=>
  ext _ ⟨b,s,rfl⟩;rw[F6]at b;erw[Ij.mpr λx a=>b x a>>Bj,nG<|.of Rx<|Qw λ_=>rfl]
instance:dI C "looked_tight" 5 (ai pQ) zcg:=by
 refine No 37 ?_;ext _ _ ⟨L,⟨a,c,r⟩,rfl,rfl⟩;let b:=a.map;let four:=a.four;subst"at"
 refine' oZ (az (aa ae av)<|gY #[b,c]) ?_
 let q:(rn L [] 0:Int)=L.z:=by let f:=k9 (l:=(List.range L.z).map λ(i:Nat)=>(i:Int)) (m:=(aP L.z).filter λx=>@decide (dH L [] 0 x)<|Classical.propDecidable _) (by erw[Ig,K3,My (λh e=>h<|Int.ofNat.inj e)<|Kk.mp JK]) λx j=>ER.mpr #[j,by let#[i,o,rfl]:=A3.mp j;exact @BG _ (Classical.propDecidable _)<|Reach.rex<|a.bM.gu i () (by let:=Ad.mp o;lia)];let d:=LF (λx=>@decide (dH L [] 0 x)<|Classical.propDecidable _)<|aP L.z;unfold aP at d;rw[ZO,Er]at f d;let:rn L [] 0=((aP L.z).filter λx=>@decide (dH L [] 0 x)<|Classical.propDecidable _).z:=rfl;unfold aP at this f;lia
 refine' cI (k:=false) (λe=>e=[.sh<|is L,.un,.un]) (Et.eq ?t1 ?t2) (λh=>by cases h) (λ_=>aj rfl) ?_
 case t1=>ext;exact#[c,(),b]
 case t2=>rw[BG q];rfl
 ext _ rfl;let#[R,g]:=iC b;let cnt:(L.z:Int)+(fT L).z-(eL L L.z).z+iso L=2:=by rw[jL g];let h:=(a.bM.lands four g.L1).2;let:=a.bM.II;lia
 refine' aN (u':=(2:Int)) (az (aa ae av)<|gY #[b,c,r]) cnt ?_
 refine' cI (k:=false) (λe=>e=[.sh<|is L,.sh<|is (2:Int),.un]) (Et.eq ?t3 ?t4) (λh=>by cases h) (λ_=>aj rfl) ?_
 case t3=>ext
 case t4=>rfl
 ext _ rfl;let p:(dE L.z L.z).find? (Aj L)=none:=by rw[find?_eq_none];ext S n z;rw[a.QJ.Aj b<|pO L.z S n]at z;cases z
 refine' aN (u':=(none:Option cc)) (az (aa ae av)<|gY #[b,c]) p ?_
 refine' cI (k:=false) (λe=>e=[.sh<|is L,.sh<|is (2:Int),.sh<|is (none:Option cc)]) (Et.eq (Jm<|BA (DD (α:=cc) ae) λ_=>wQ ?t5) ?t6) (λh=>by cases h) (λ_=>aj rfl) ?_
 case t5=>ext
 case t6=>simp;lia
 ext _ rfl;exact bT (zcO (α:=cc) ae) (λh=>by cases h) λ_=>aj λ_=>rfl
instance:dI C "outer_ring" 6 (ai vo) zeU:=by
 refine No 38 ?_;ext _ _ ⟨L,k,⟨b,c,a,d,f⟩,rfl,rfl⟩;let#[k,rfl]:=FH d;subst"at"
 refine' oZ (az (aa ae av)<|gY #[b,c,a]) (eC (az (aa ae av)<|gY #[b.map,c,a]) ?_)
 refine' cI (k:=false) (λe=>e=[.sh<|is L,.sh<|is (k:Int),.sh<|is<|fT L]) (Et.eq ?t1 ?t2) (λh=>by cases h) (λ_=>aj rfl) ?_
 case t1=>ext
 case t2=>simp[Mo,N8];lia
 ext _ rfl;ext;exact#[(),()];exact iw ()
section
open Dt
theorem JM(o:NR L n m M):∃B,g7 (gj L n).1 n m/\Cd n m M n n (mx L) (mx (gj L n).1) (gj L n).2 B:=by
 let key:∀k,k<=n->∃B,g7 (gj L k).1 n m/\Cd n m M k k (mx L) (mx (gj L k).1) (gj L k).2 B:=λk=>by
  induction k with
  | zero=>intro _;exact#[mx L,o.rc,Cd.start o.hb]
  | succ k e=>
   ext a;let#[B,h]:=e ();let#[b,_,_,_,_,c,d]:=xw o a h.1 h.2;exact#[b,c,d]
 exact key n<|Xx _
theorem BW(h:n<=8):((n+1)*(2*2 ^ 90)) ^ (n+1)<2 ^ 856:=by
 let a:(n+1)*(2*2 ^ 90)<=2 ^ 4*(2*2 ^ 90):=HD _ ();let b:2 ^ 4*(2*2 ^ 90)=2 ^ 95:=by decide
 rw[b]at a;refine FA (LP a _) ?_;erw[<-Nat.pow_mul,Lv A? ()]
theorem DV(h:n<=8):((n+1)*(2*2 ^ 90)) ^ (n+1)<2 ^ 9000:=IH (BW h)<|Lv A? A?
theorem O1(o:NN n R gs):(∀fs∈R,∀g∈gs,Xg 1000 (Sq.mk<|fs++[g])/\fs.z=n)/\oB n R gs (sM R gs)/\NR (sM R gs) n (n+1) (2 ^ 90):=by
 let rl:=o.fn.rl;let D:=o.fn.gl;let F:=o.hn;let d:∀{fs:List<|Int×Int} {g:Int×Int},fs∈R->g∈gs->∀f∈fs++[g],0<f.2/\f.2=1/\f.1.natAbs<=2 ^ 90:=λ{fs g} a b f c=>by ext(z|z:Af.mp c);exact#[(o.fn.row fs a).2 f z,o.sz.rt fs a f z];erw[Ax.mp z,#[o.fn.goal g b,o.sz.gt g b]]
 let r:∀{fs:List<|Int×Int} {g:Int×Int},fs∈R->g∈gs->Fq 400 (fs++[g]):=λa b=>#[λf c=>(d a b f c).1,λf c=>FA (d a b f c).2.2<|Lv A? A?,λf c=>(d a b f c).2.1>>Nat.one_lt_two_pow A?];let jl:(sM R gs).z=n:=by unfold sM;rw[ZO,G9];lia
 let k:∀{i:Nat} {l:cc},(sM R gs)[i]?=some l->∃fs g,R[i]?=some fs/\gs[i]?=some g/\l=FV (fs++[g]):=λ{i l} h=>by unfold sM at h;rw[AY]at h;let#[#[fs,g],a,b]:=GF.mp h;let#[v,s]:=Ki.mp a;exact#[fs,g,v,s,b.symm]
 let each:∀(i:Nat) (l:cc),(sM R gs)[i]?=some l->l.z=n+1/\∀x∈l,x.natAbs<=2 ^ 90:=λi l e=>by let#[fs,g,a,b,rfl]:=k e;let q:=A5 a;let t:=A5 b;let E:=C4<|r q t;let p:=E.len;rw[Ac,(o.fn.row fs q).1,HA]at p;refine#[p,λx u=>?_];let#[f,c,rfl]:=A3.mp u;let b1:=(iQ.n6 (r q t).pos).2.2;rw[CT λf c=>(d q t f c).2.1]at b1;erw[FL,Ay (Fx (d q t f c).2.2<|Ay (Kj _ _) b1) ()]
 let m:oB n R gs<|sM R gs:=#[(),λi fs g l a b v=>by let#[A,G,s,y,rfl]:=k v;rw[a]at s;rw[b]at y;cases s;cases y;exact#[_,C4<|r (A5 a)<|A5 b]];let w:g7 (sM R gs) n<|n+1:=#[jl,λl e=>by let#[i,B]:=Ej.mp e;exact(each i l B).1];refine#[λfs a g b=>#[#[#[400,r a b,by decide],?_],(o.fn.row fs a).1],m,w,(),(),(),MI,λi j=>?_,DV F,m.inj o.fn o.ns];show(fs++[g]).z<=1000;rw[Ac,(o.fn.row fs a).1,HA];lia;ext(z:i<n/\j<n+1);let#[l,e,H]:=w.at z.1;obtain⟨x,u⟩:∃x,l[j]?=some x:=#[l[j]'(),by simp[show j<l.z by lia]];rw[C1 e u];exact(each i l e).2 x<|A5 u;erw[w.out (),Bv _]
instance:dI C "solved" 4 (ai zbC) zdB:=by
 refine No 31 ?_;ext _ _ ⟨R,b,⟨n,o⟩,rfl,rfl⟩;let#[q,w,f]:=O1 o;let jl:=f.rc.len;let#[B,m,j]:=JM f;let u:=o.hn;let a:∀{k:Int} {l:cc},(k,l)∈enum (gj (sM R b) (sM R b).z).1->∃i:Nat,k=i/\i<n/\l.z=n+1/\ix l (i:Int)=(gj (sM R b) n).2:=λ{k l} h=>by let#[i,s]:=Ej.mp h;let#[v,c,e]:=iF.mp s;cases e;rw[jl]at c;let d:=(AA.mp c).1;rw[m.len]at d;let t:=m.row l<|A5 c;refine#[i,rfl,d,t,?_];rw[<-show mx (gj (sM R b) n).1 i i=_ from j.ba.done d d |>.trans (Al rfl),fR c,cH ()];rfl
 subst"at"
 refine' wL (ys:=sM R b) _ ?a1 (λ_ _ _ _ _ _ _ _=>?d1) ?e1 ?b1 ?_
 case a1=>ext
 case d1=>
  ext;all_goals first | (simp;done) | exact(q _ (HL ‹_›).1 _ (HL ‹_›).2).1|skip
  rw[(q _ (HL ‹_›).1 _ (HL ‹_›).2).2];simp;lia
 case e1=>rw[G9,o.fn.rl,o.fn.gl];lia
 case b1=>rfl
 refine bF (i:=2) ?_;ext;exact#[_,_,_,f];let#[i,rfl,r,p,g]:=a ‹_›;exact#[(),()];let#[i,rfl,r,p,g]:=a ‹_›;exact#[(),()];let#[i,rfl,r,p,g]:=a ‹_›;rw[g];exact#[j.ba.ne,FA (j.S7 MI<|Xx _)<|DV u];rw[fY,jl,m.len];lia;rfl
theorem U7(o:NN n R gs):(Ku R gs).z=n/\(∀x∈Ku R gs,Lw x/\Sz 856 x.1/\Sz 856 x.2)/\iQ n R gs (Ku R gs):=by
 let#[A,w,p]:=O1 o;let#[B,m,a]:=JM p;let jl:=p.rc.len;let r:=o.hn;let b:∀{i:Nat} {x:Int×Int},(Ku R gs)[i]?=some x->i<n/\Ao (mx (gj (sM R gs) n).1 i n) (gj (sM R gs) n).2 x.1 x.2:=λ{i x} h=>by
  unfold Ku at h;rw[AY,jl]at h;let#[#[k,l],q,s]:=GF.mp h;let#[z,c,e]:=iF.mp q;cases e;let f:=(AA.mp c).1;rw[m.len]at f;let v:=m.row l<|A5 c;let e1:ix l (-1)=mx (gj (sM R gs) n).1 i n:=by rw[fR c];unfold ix oI xP;rw[Ak (),Al (),v,KW,su,show(-1+((n+1:Nat):Int)).toNat=n by lia];rfl
  let e2:ix l (i:Int)=(gj (sM R gs) n).2:=by rw[<-show mx (gj (sM R gs) n).1 i i=_ from a.ba.done f f |>.trans (Al rfl),fR c,cH ()];rfl
  subst s;erw[e1,e2,#[f,nj a.ba.ne rfl]]
 let u:(Ku R gs).z=n:=by unfold Ku;rw[ZO,fY,jl,m.len]
 refine#[u,λx y=>?_,w.sol o.fn a λj D=>?_];let#[i,t]:=Ej.mp y;let#[q,d]:=b t;exact#[#[d.pos,d.co],Sz.le (FA (a.FC MI (Xx _) i n)<|BW r) d.ta,Sz.le (FA (a.S7 MI<|Xx _)<|BW r) d.ub];let g:j<(Ku R gs).z:=();let h:=me g;rw[mf h,vV a.ba.ne (b h).2]
end
theorem U3{q:Int->Rat}{l:cc}{j:Nat}{y:Int}(a:l[j]?=some y):((l.take<|j+1).map q).sum=((l.take j).map q).sum+q y:=by rw[take_snoc a,EE,sum_append];grind
section
open Dt
instance:dI C "plain_frame" 1 (ai sC) Oc:=by
 refine No 43 ?_;ext _ _ ⟨n,⟨o,p⟩,rfl,rfl⟩;let#[n,rfl]:=FH o;subst"at";rw[EC];let m:∀{k},k∈down n->0<=k/\k<n:=λ{k} h=>by let#[i,j,rfl]:=A3.mp h;let:=Ad.mp j;lia
 refine' iA (Ef.ev<|iH (β:=Spot) (λk=>[(k,1),(k*k,1)]) (Nv (n:=n) ?a ?b ?c ()) (λk l _ _ _ _ _=>wR<|aa (Fe<|aa ?d<|aa ?e av)<|aa (Fe<|aa ?f<|aa ?g av) av) ?h) ?i
 all_goals first | (ext;done) | skip
 case f=>
  ext;let:=m l;exact mulL () ()
 case h=>unfold down;simp;lia
 case i=>
  unfold down KG;refine(ED ..).trans<|EU λi j=>?_;let:=Ad.mp j;show [((n:Int)-1-(i:Int),(1:Int)),(((n:Int)-1-(i:Int))*((n:Int)-1-(i:Int)),1)]=gD n i;unfold gD;rw[show((n-1-i:Nat):Int)=(n:Int)-1-(i:Int)by lia]
instance:dI C "middle_row" 1 (ai vq) TX:=by
 refine No 45 ?_;ext _ _ ⟨l,x,a,⟨g,d⟩,rfl,rfl⟩;subst"at"
 refine' bP (w:=ol ([]:List<|Int×Int)) ?a1 ?_
 case a1=>ext;simp
 refine' c8 (xs:=a) (λi e=>∃s:Sl,e=[.sh<|is l,.sh<|is x,.sh<|is a,.ow<|ol<|(a.take i).map<|cY l x,s]) ?a2 #[_,rfl] ?b2 ?c2
 case a2=>ext
 case b2=>
  ext i y _ c ⟨s,rfl⟩;let j:=(AA.mp c).1;let b:∀f:Int×Int,cY l x y=f->[Sl.sh<|is l,.sh<|is x,.sh<|is a,.ow<|ol<|(a.take i).map (cY l x)++[f],.sh<|is y]=[.sh<|is l,.sh<|is x,.sh<|is a,.ow<|ol<|(a.take<|i+1).map<|cY l x,.sh<|is y]:=λf e=>by rw[take_snoc c,EE,<-e];rfl
  refine' bT (k:=decide<|y=x) ?t1 (λh=>cu (u:=((l.z:Int),(1:Int))) ?i1 ?l1 ?n1) λh=>bT (k:=decide<|y∈l) ?t2 (λk=>cu (u:=((-1:Int),(1:Int))) ?i3 ?l2 ?n2) λk=>cu (u:=((0:Int),(1:Int))) ?i5 ?l3 ?n3
  case l1|l2|l3=>rw[ZO,Fb];lia
  case t1|t2|i1|i3|i5=>ext
  case n1=>exact aj #[.sh<|is y,b _<|by unfold cY;rw[Al<|Eb h]]
  case n2=>exact aj #[.sh<|is y,b _<|by unfold cY;rw[Ak<|Hu h,Al<|Eb k]]
  case n3=>exact aj #[.sh<|is y,b _<|by unfold cY;rw[Ak<|Hu h,Ak<|Hu k]]
 case c2=>
  ext _ ⟨s,rfl⟩;refine bF (i:=3) ?_;ext;rw[F6]
end
abbrev TRs(n:Nat):Cell:=aW λR:cq=>TR R n
def W6(R:cq):Prop:=∃n,n<=8/\TR R n
def Hd(n:Nat)(fs:cc):Prop:=fs.z=n/\∀x∈fs,0<=x/\x<10 ^ 60+7
def zbv(K:bb)(b:List Cell)(c:Cell):Prop:=∃(a:cc) (m:Nat),a.z<=63/\0<m/\m<=30/\b=[fz K a,is (m:Int)]/\c=aW (Hd m)
def T6(a:List Cell)(c:Cell):Prop:=∃n:Int,(0<=n/\n<10 ^ 61)/\a=[is n]/\c=aW W6
def rW(a:List Cell)(c:Cell):Prop:=∃(R:cq) (n:Nat),TR R n/\n<=60/\a=[is R]/\c=is (n:Int)
def zaV(a:List Cell)(c:Cell):Prop:=∃(R:cq) (n:Nat) (k:Int),TR R n/\n<=60/\(0<=k/\k<10 ^ 61)/\a=[is R,is k,is (n:Int)]/\c=TRs (n+1)
def Kg(a:List Cell)(c:Cell):Prop:=∃(R:cq) (n:Nat) (k:Int),TR R n/\n<=60/\(0<=k/\k<10 ^ 61)/\a=[is R,is k]/\c=TRs n
structure CZ(L R:cq)(D:sW af<|Int×Int):Prop where
 nd:(D.l.map (·.1)).Nodup
 mem:∀d,d∈D.l.map (·.1)↔Dt L d
 val:∀p∈D.l,Dt L (p.2.1,p.1.1)/\nx L (p.2.1,p.1.1)=p.1/\p.2.2=lo R p.1
def zbE(a:List Cell)(c:Cell):Prop:=∃L R:cq,b8 L/\dP L R/\L.z<=60/\a=[is R]/\c=aW (CZ L R)
def zdC(a:List Cell)(c:Cell):Prop:=∃(R:cq) (n:Nat),TR R n/\n<=60/\a=[is R]/\c=TRs R.z
def zeu(a:List Cell)(c:Cell):Prop:=∃(fs:cc) (m:Nat),Hd m fs/\6<=m/\a=[is fs]/\c=aW W6
def zcs(a:List Cell)(c:Cell):Prop:=∃(R:cq) (n:Nat) (k:Int),TR R n/\n<=60/\(0<=k/\k<10 ^ 61)/\a=[is R,is k]/\c=aW λL:cq=>b8 L/\L.z=n
theorem oe{i:Int}{j:Nat}(h1 : -(r.z:Int)<=i)(a:i<r.z)(e:(j:Int)=i\/(j:Int)=i+r.z):ix r i=cy r j:=wC<|JV h1 a e
theorem C7{fs:cc}{i:Nat}(h:i<fs.z)(q:∀x∈fs,0<=x/\x<10 ^ 60+7):0<=ix fs (i:Int)/\ix fs (i:Int)<10 ^ 60+7:=by erw[wA h,q _<|bh h]
theorem fH{n:Int}{m:Nat}(h:0<m):∃k:Nat,n%(m:Int)=(k:Int)/\k<m:=by let b:=FI n (show(m:Int)≠0 by lia);let a:=FK n (show(0:Int)<m by lia);exact#[(n%(m:Int)).toNat,(),()]
theorem Hs(xs:List α)(t:Nat):part xs (some (t:Int)) none++part xs none (some (t:Int))=xs.drop t++xs.take t:=congr (A4 _<|aT xs t)<|bR xs t
theorem AR(xs:List α)(t:Nat):(part xs (some (t:Int)) none).z+(part xs none<|some (t:Int)).z=xs.z:=by rw[aT,bR];simp;lia
instance:dI C "_law_numbers" 1 (ai pW)<|zbv C.K:=by
 refine No 52 ?_;ext _ _ ⟨a,m,y,D,w,rfl,rfl⟩;subst"at"
 refine' jx (ys:=(aP m).map λ_=>(0:Int)) _ ?b (λ_ _ _ _ _ _ _=>?a3) ?a4 rfl ?_
 case b=>ext;lia
 case a3=>ext
 case a4=>rw[bB];lia
 obtain⟨cnt,n,p⟩:∃c:Nat,(if(if(63:Int)<(a.z:Int)then(63:Int)else(a.z:Int)) > (m:Int)then(if(63:Int)<(a.z:Int)then(63:Int)else(a.z:Int))else(m:Int))=(c:Int)/\c<=63:=by refine#[(if(if(63:Int)<(a.z:Int)then(63:Int)else(a.z:Int)) > (m:Int)then(if(63:Int)<(a.z:Int)then(63:Int)else(a.z:Int))else(m:Int)).toNat,?_,?_]<;>split<;>split<;>lia
 refine' dF (m:=cnt) (λk e=>∃(fs:cc) (s t u:Sl),e=[.sh<|fz C.K a,.sh<|is (m:Int),s,.ow<|ol fs,t,u]/\Hd m fs) (Ev.eq (DA ae<|wV (DC ae) au) n) () #[_,_,_,_,rfl,(ZO _).trans<|bB _,λx f=>?a2] ?b2 ?c2
 case a2=>obtain⟨_,_,rfl⟩:=A3.mp f;decide
 case c2=>
  ext _ ⟨fs,s,t,u,rfl,q⟩;exact bF (i:=3)<|cg ae q
 ext k _ E ⟨fs,s,t,u,rfl,o,j⟩
 refine' eC au ?_
 refine' cI (λe=>∃c:Int,e=[.sh<|fz C.K a,.sh<|is (m:Int),.sh<|is (k:Int),.ow<|ol fs,.sh<|is c,u]/\0<=c/\c<10 ^ 60+7) ?t0 (λh=>?i1) (λh=>aj #[_,rfl,by decide,by decide]) ?b3
 case t0=>ext
 case i1=>
  let h:=Eb h;let d:(0:Int)<(if(63:Int)<(a.z:Int)then(63:Int)else(a.z:Int)):=by split<;>lia
  let A:=FI (k:Int)<|Int.ne_of_gt d;let b1:=FK (k:Int) d
  refine' eC (aL (bG ae (aL ae (wV (DC ae) au)<|ow_mod d)<|ix_fz #[(),by split at b1<;>split<;>lia]) (Ev.eq (y':=10 ^ 60+7) ?g2 ?g3)<|ow_mod A?) ?g1
  case g2=>ext;exact#[by decide,by decide,by decide]
  case g3=>rfl
  case g1=>exact aj #[_,rfl,FI _ A?,FK _ A?]
 ext _ ⟨c,rfl,F,G⟩;let g:(0:Int)<(m:Int):=();let b:=FK (k:Int) g;let#[i,l]:=FH (FI (k:Int)<|show(m:Int)≠0 by lia);rw[l]at b;let r:i<fs.z:=();let B:=C7 r j
 refine' aN (u':=((i:Nat):Int)) (aL ae ae<|ow_mod g) l ?_
 refine' Bk (xs:=fs) (u:=(ix fs (i:Int)*48271+c+(k:Int)*(k:Int))%1000000000000000000000000000000000000000000000000000000000007) (k:=(i:Int)) (m:=i) ?d1 ae ?d2 ?d4
 case' d4=>refine' aj #[_,_,_,_,rfl,Ec>>o,λx f=>?d3]
 case d1=>
  let v:IntMulOk (k:Int) (k:Int):=mulL () ()
  refine' Ev.eq ?w1 ?w2
  case w1=>ext;all_goals first|exact (mulR A? A?)|exact v|exact#[(),()]|exact#[by decide,by decide,by decide]|decide
  case w2=>rfl
 case d2=>rw[Bb () (),EC]
 case d4=>
  ext(z|z:Mq f);exact j x z;erw[z,#[FI _ A?,FK _ A?]]
def RS(r:cc):Int:=r.max?.getD 0
theorem RQ(h:r≠[]):RS r∈r/\∀x∈r,x<=RS r:=by
 unfold RS;cases q:r.max? with
 | none=>exact absurd (List.max?_eq_none_iff.mp q) h
 | some a=>exact List.max?_eq_some_iff.mp q
instance:dI C "_law_places" 1 (ai sE) rW:=by
 refine No 59 ?_;ext _ _ ⟨R,n,tr,c,rfl,rfl⟩;let many:=tr.many;let four:=tr.four;let mk:∀r∈R,RS r∈r/\∀x∈r,x<=RS r:=λr a=>RQ λz=>by let:=(tr.ring a).1;rw[z]at this;simp at this
 subst"at"
 refine' iA (aL au (Dz (k:=(n:Int)-1) ?a1 ?a2 ?a3) ow_add) ()
 case a1=>
  refine' Ev.el (Ef.ev<|iH RS (mh ae) (λr a _ _ _ _ _=>Dz ?b1 (mk r a).1 (mk r a).2) ())
  case b1=>ext
 case a2=>
  let#[r,a,b]:=tr.on (x:=(n:Int)-1) () ();refine A3.mpr #[r,a,?_];let:=(mk r a).2 _ b;let:=((tr.ring a).2.2.2 _ (mk r a).1).2;lia
 case a3=>
  ext _ b;let#[r,a,rfl]:=A3.mp b;let:=((tr.ring a).2.2.2 _ (mk r a).1).2;lia
instance:dI C "_law_base" 1 (ai yD) T6:=by
 refine No 56 ?_;ext _ _ ⟨n,⟨l,j⟩,rfl,rfl⟩;let f:=FI n (show(3:Int)≠0 by decide);let g:=FK n (show(0:Int)<3 by decide);obtain⟨a,d,c⟩:∃a:Nat,3+n%3=(a:Int)/\(a=3\/a=4\/a=5):=#[(3+n%3).toNat,(),()];let b:(0:Int)<(a:Int):=();subst"at"
 refine' aN ?a1 d ?_
 case a1=>ext;decide
 refine' cI (λe=>e=[.sh<|is n,.sh<|is (a:Int),.un]) ?t1 (λh=>?i1) (λh=>aj rfl) ?_
 case t1=>ext;all_goals first|decide|exact fL A? A?
 case i1=>
  let k:(a:Int)<5:=();refine' jx _ ?b1 (λ_ _ _ _ _ _ _=>?b2) ?b4 rfl ?_
  case b1|b2|b4=>ext;all_goals first|exact b|lia | (rw[bB];lia) | simp
  refine' cg (Ef.ev<|dG bj (Ev.el<|Ef.ev<|kL (us:=[xZ (a:Int) a,down a]) (fK (Ef.ev<|zU (m:=a) ?c1 ?c2 ?c3 () () ())<|fK (Ef.ev<|rD ?c4 ()) kK) A!) ?c5) ?c6
  case c1=>ext
  case c2=>exact aL au ae<|ow_mul<|mulL A? A?
  case c3=>lia
  case c4=>ext
  case c5=>simp[bB];lia
  case c6=>
   refine#[2*a,(),?_];ext(rfl|rfl|rfl:c);let:=Yy.x9;exact#[_,this.1,this.2,rfl];let:=Yx.x9;exact#[_,this.1,this.2,rfl];lia
 ext _ rfl
 refine' cg (Ef.ev<|dG (Ev.el<|Ef.ev<|iH (λi=>[i,(i+1)%(a:Int),(a:Int)]) ?d1 (λx _ _ _ _ _ _=>?d2) ?d3) (Ev.el<|Ef.ev<|kL (fK (Ef.ev<|rD (m:=a) ?d4 ()) kK) A!) ?d5) ?d6
 case d1=>ext;lia
 case d2=>ext;all_goals first|exact b|simp
 case d3=>rw[bB];lia
 case d4=>ext
 case d5=>simp[bB];lia
 case d6=>
  refine#[a+1,(),?_];ext(rfl|rfl|rfl:c);let:=Yw.x9;exact#[_,this.1,this.2,rfl];let:=Yv.x9;exact#[_,this.1,this.2,rfl];let:=Yu.x9;exact#[_,this.1,this.2,rfl]
theorem PL(h:j<cs.z):cy (nI cs) j=((cs.getD j 0:Nat):Int):=by refine uE ?_;unfold nI;rw[AY,me h,su,me h];rfl
theorem gI(a:List Nat):(nI a).z=a.z:=by unfold nI;rw[ZO]
theorem zei{h m:Nat}(a:0<r.z):(xZ (h:Int) m).map (λj=>ix r<|j%(r.z:Int))=bw r h m:=by unfold xZ bw;rw[ED];refine EU λt _=>?_;show ix r (((h:Int)+(t:Int))%(r.z:Int))=_;let b:(h+t)%r.z<r.z:=AK _ a;erw[show((h:Int)+(t:Int))%(r.z:Int)=(((h+t)%r.z:Nat):Int)by rw[Int.natCast_emod,Int.natCast_add],oe () ()<|.inl rfl,aH<|EX _ _]
instance:dI C "_law_stacked" 2 (ai pV) zaV:=by
 refine No 57 ?_;ext _ _ ⟨R,n,f,tr,hn,⟨F,W⟩,rfl,rfl⟩;let many:=tr.many;let T:(0:Int)<(R.z:Int):=();let#[at',U,p]:=fH (n:=f) (show 0<R.z by lia);let x:R[at']?=some (R.getD at' []):=by rw[su,me p];rfl
 let#[X,Z,AN,Y]:=tr.ring<|A5 x;let H:ix R (at':Int)=R.getD at' []:=iw p;generalize R.getD at' []=r at *;subst"at"
 refine' aN (u':=(at':Int)) ?p U (aN (u':=r) ?a2 H ?_)
 case p=>ext;exact T
 case a2=>ext;exact#[(),()]
 refine let v:=(List.range r.z).filter λk:Nat=>decide<|f / 97 / 2 ^ k%2=0;?_
 refine' wN (ys:=nI v) (xs:=aP r.z) id (λk=>decide<|f / 97 / 2 ^ k.toNat%2=0) ?b1 (λk i _ _ _ _ _=>?b2) (λk i _ _ _ _ _ _=>?b3) ?b4 ?b5 ?_
 case b1=>ext;lia
 case b2=>
  let#[j,D,rfl]:=A3.mp i;rw[mem_range]at D;ext;exact fL A? A?;exact#[#[Int.ediv_nonneg F A?,Int.lt_of_le_of_lt (Int.ediv_le_self _ F) W],by decide,(),()]
 case b3=>ext
 case b4=>rw[bB];lia
 case b5=>rw[map_id];unfold aP;rw[Jy];rfl
 refine' cI (k:=decide<|(v.z:Int)<3) (λe=>∃d:List Nat,e=[.sh<|is R,.sh<|is f,.sh<|is (n:Int),.sh<|is (at':Int),.sh<|is r,.un,.ow<|ol<|nI d,.un,.un,.un]/\d.Pairwise (·<·)/\(∀c∈d,c<r.z)/\3<=d.z) (Et.eq ?t1 ?t2) (λh=>?i1) (λh=>aj #[v,rfl,List.pairwise_lt_range.filter _,λc o=>Ad.mp (ER.mp o).1,by simp at h;lia]) ?_
 case t1=>ext
 case t2=>rw[gI]
 case i1=>
  refine' bP (w:=ol<|nI<|List.range r.z) (wY (m:=r.z) ?E ()) ?c9
  case c9=>exact aj #[_,rfl,pairwise_lt_range,λc o=>Ad.mp o,by rw[Er];lia]
  case E=>ext
 ext _ ⟨d,rfl,g,q,Q⟩;let cl:d.z<=r.z:=by
  let:=cZ (l:=nI d) (n:=r.z) (by unfold nI;exact Gv _ (λa b h=>()) g) λy N=>by let#[c,o,rfl]:=A3.mp N;let:=q c o;lia
  rwa [gI]at this
 refine' bP (w:=ol ([]:cq)) ?d1 ?_
 case d1=>ext;simp
 refine' dF (m:=d.z) (λk e=>∃s t u:Sl,e=[.sh<|is R,.sh<|is f,.sh<|is (n:Int),.sh<|is (at':Int),.sh<|is r,s,.ow<|ol<|nI d,.ow<|ol<|(List.range k).map<|cP r d n,t,u]) (Ev.eq ?e1 ?e1') () #[_,_,_,rfl] ?e2 ?e3
 case e1=>ext
 case e1'=>rw[gI]
 case e2=>
  ext k _ i ⟨s,t,u,rfl⟩;let A:=JX g q (r:=r) () i;let G:(k+(d.z-1))%d.z<d.z:=AK _ ()
  refine' aN (u':=(dD d k:Int)) ?f1 ?f2 (aN (u':=((d.getD k 0:Nat):Int)) ?f3 ?f4 ?_)
  case f1=>ext;erw[gI,#[(),()]]
  case f2=>
   refine(oe (j:=(k+(d.z-1))%d.z) (by rw[gI];lia) (by rw[gI];lia) ?_).trans<|PL G;rw[gI];ext(z:k=0);subst z;rw[Fu,AV ()];right;lia;rw[show k+(d.z-1)=k-1+d.z by lia,Aa,AV ()];left;lia
  case f3=>ext;erw[gI,#[(),()]]
  case f4=>exact(oe (j:=k) (by rw[gI];lia) (by rw[gI];lia)<|.inl rfl).trans<|PL i
  refine' cI (k:=decide<|((d.getD k 0:Nat):Int)<(dD d k:Int)) (λe=>e=[.sh<|is R,.sh<|is f,.sh<|is (n:Int),.sh<|is (at':Int),.sh<|is r,.sh<|is (k:Int),.ow<|ol<|nI d,.ow<|ol<|(List.range k).map<|cP r d n,.sh<|is (dD d k:Int),.sh<|is (fg r d k:Int)]) ?g1 (λh=>?g2) (λh=>aj ?g3) ?_
  case g1=>ext
  case g2=>
   refine' aN (u':=(fg r d k:Int)) ?h1 ?h2 (aj rfl)
   case h1=>ext
   case h2=>unfold fg;rw[Al (~~~h),Int.natCast_add]
  case g3=>
   let:fg r d k=d.getD k 0:=by unfold fg;rw[Ak<|~~~h]
   rw[this];rfl
  ext _ rfl;let O:=A.lt;let le:=A.le;let top:=A.top
  refine' cu (xs:=(List.range k).map<|cP r d n) (u:=cP r d n k) (Ev.eq (Ef.ev<|dG (Ev.el<|Ef.ev<|iH (λj=>ix r<|j%(r.z:Int)) ?j1 (λj D _ _ _ _ _=>?j2) ?j3) (Ev.el<|Ef.ev<|kL (us:=[(n:Int)]) (fK ae kK) A!) ?j4) ?j5) (by simp;lia) ?j7
  case j1=>ext;exact#[(),(),(),()]
  case j2=>
   let B:(0:Int)<(r.z:Int):=();let c0:=FI j (show(r.z:Int)≠0 by lia);let E:=FK j B;ext;exact B;exact#[(),()]
  case j3=>rw[kT];lia
  case j4=>rw[ZO,kT];simp;lia
  case j5=>
   rw[show((fg r d k:Int)+1-(dD d k:Int)).toNat=fg r d k-dD d k+1 by lia,zei ()];rfl
  case j7=>
   refine aj #[.sh<|is (k:Int),.sh<|is (dD d k:Int),.sh<|is (fg r d k:Int),?_];rw[GI,EE];rfl
 case e3=>
  ext _ ⟨s,t,u,rfl⟩
  refine' cg (Ef.ev<|dG (Ev.el<|Ef.ev<|dG (Ev.el<|Ef.ev<|eG ?m1 ?m2 ?m3) bj ?m4) (Ev.el<|Ef.ev<|eG ?m5 ?m6 ?m7) ?m8) ?m9
  case m1=>ext
  case m2=>ext
  case m3=>ext
  case m5=>ext
  case m6=>ext
  case m7=>ext
  case m4=>rw[bR];simp;lia
  case m8=>rw[bR,show(at':Int)+1=((at'+1:Nat):Int)by lia,aT];simp;lia
  case m9=>
   rw[bR,show(at':Int)+1=((at'+1:Nat):Int)by lia,aT];let#[L,J,S,rfl]:=tr;let#[M,P,K,I]:=J.stack S x g q Q;exact#[M,P,I,K]
theorem xi{k d:Nat}(a:k<r.z)(b:d<=r.z):ix r ((k:Int)-(d:Int))=cy r (k+(r.z-d)):=by rw[oe (j:=(k+(r.z-d))%r.z) () () ?_];exact aH<|EX _ _;ext(z:k<d);rw[AV ()];right;lia;rw[show k+(r.z-d)=k-d+r.z by lia,Aa,AV ()];left;lia
instance:dI C "_law_tied" 1 (ai yw) Kg:=by
 refine No 58 ?_;ext _ _ ⟨R,n,c,tr,hn,⟨k0,k1⟩,rfl,rfl⟩;let many:=tr.many;let T:(0:Int)<(R.z:Int):=();let#[at',W,l]:=fH (n:=c) (show 0<R.z by lia);let A:R[at']?=some (R.getD at' []):=by rw[su,me l];rfl
 let#[r3,rn,AN,Hc]:=tr.ring<|A5 A;let I:ix R (at':Int)=R.getD at' []:=iw l;generalize R.getD at' []=r at *;let Q:(0:Int)<(r.z:Int):=();subst"at"
 refine' aN (u':=(at':Int)) ?l W (aN (u':=r) ?a2 I ?_)
 case l=>ext;exact T
 case a2=>ext;exact#[(),()]
 refine' cI (k:=decide<|(r.z:Int)<4) (λe=>e=[.sh<|is R,.sh<|is c,.sh<|is (at':Int),.sh<|is r,.un,.un,.un,.un,.un]/\4<=r.z) ?a3 (λh=>?a4) (λh=>aj #[rfl,by simp at h;lia]) ?_
 case a3=>ext
 case a4=>exact cg ae tr
 ext _ ⟨rfl,r4⟩;let#[a,Y,b1]:=fH (n:=c / 97) (show 0<r.z by lia);let D:(0:Int)<(r.z:Int)-3:=();let c0:=FI (c / 997) (show(r.z:Int)-3≠0 by lia);let c1:=FK (c / 997) D;obtain⟨b,u,O,j3⟩:∃b:Nat,2+c / 997%((r.z:Int)-3)=(b:Int)/\2<=b/\b+2<=r.z:=#[(2+c / 997%((r.z:Int)-3)).toNat,(),(),()];let wl:=aK r a r.z;let pr:part r (some (a:Int)) none++part r none (some (a:Int))=bw r a r.z:=(Hs r a).trans<|uQ ()
 refine' aN (u':=(a:Int)) ?d1 Y (bP (w:=ol<|bw r a r.z) (Ef.eqL (dG (Ev.el<|Ef.ev<|eG ?d2 ?d3 ?d4) (Ev.el<|Ef.ev<|eG ?d5 ?d6 ?d7) ?d8) pr)<|aN (u':=(b:Int)) ?d9 u ?_)
 case d1=>ext;all_goals first|exact Q|decide|exact fL A? A?
 case d2=>ext
 case d3=>ext
 case d4=>ext
 case d5=>ext
 case d6=>ext
 case d7=>ext
 case d8=>rw[AR];lia
 case d9=>ext;all_goals first|exact D|decide|exact fL A? A?
 refine' c8 (xs:=R) (λm e=>∃s t:Sl,e=[.sh<|is R,.sh<|is c,.sh<|is (at':Int),.sh<|is r,.sh<|is (a:Int),.ow<|ol<|bw r a r.z,.sh<|is (b:Int),s,t]/\∀(f:Nat) (o:cc),f<m->R[f]?=some o->∀i,dj o i≠(cy r a,cy r<|a+b)) ?e1 #[_,_,rfl,λf o h=>()] ?e2 ?e3
 case e1=>ext
 case e2=>
  ext m o _ G ⟨s,t,rfl,v⟩;let#[o3,on,J,ab]:=tr.ring<|A5 G
  refine' dF (m:=o.z) (λi e=>∃t:Sl,e=[.sh<|is R,.sh<|is c,.sh<|is (at':Int),.sh<|is r,.sh<|is (a:Int),.ow<|ol<|bw r a r.z,.sh<|is (b:Int),.sh<|is o,t]/\∀g,g<i->dj o (g+(o.z-1))≠(cy r a,cy r<|a+b)) ?f1 () #[_,rfl,λg h=>()] ?f2 ?f3
  case f1=>ext
  case f2=>
   ext i _ hi ⟨t,rfl,x⟩;let P:ix (bw r a r.z) 0=cy r a:=(oe (j:=0) () ()<|.inl rfl).trans<|jQ ();let q2:ix (bw r a r.z) (b:Int)=cy r (a+b):=(oe (j:=b) () ()<|.inl rfl).trans<|jQ ();let q3:ix o ((i:Int)-1)=cy o (i+(o.z-1)):=xi (d:=1) hi ();let X:ix o (i:Int)=cy o (i+(o.z-1)+1):=(oe (j:=i) () ()<|.inl rfl).trans (aH<|by rw[show i+(o.z-1)+1=i+o.z by lia,Aa])
   refine' bT (k:=decide<|dj o (i+(o.z-1))=(cy r a,cy r<|a+b)) (Et.eq ?g1 ?g3) (λh=>cg ae tr) λh=>aj #[_,rfl,λg h'=>?g4]
   case g1=>ext;all_goals exact#[(),()]
   case g3=>
    rw[P,q2,q3,X,<-Bool.decide_and];unfold dj;exact KU.mpr #[λh=>EF h.1.symm h.2.symm,λh=>#[(A4 Prod.fst h).symm,(A4 Prod.snd h).symm]]
   case g4=>
    ext(y:g=i);subst y;exact Hu h;exact x g ()
  case f3=>
   ext _ ⟨t,rfl,x⟩;refine aj #[_,_,rfl,λf Z h q i=>?_];ext(y:f=m);subst y;rw[G]at q;cases q;let:=x ((i+1)%o.z)<|AK _ ();rwa [show dj o ((i+1)%o.z+(o.z-1))=dj o i from aU<|by rw[KO,show i+1+(o.z-1)=i+o.z by lia,Aa]]at this;exact v f Z () q i
 case e3=>
  ext _ ⟨s,t,rfl,v⟩;let U:part (bw r a r.z) none (some<|(b:Int)+1)=bw r a (b+1):=by rw[show(b:Int)+1=((b+1:Nat):Int)by lia,bR,xW ()]
  let E:part (bw r a r.z) (some (b:Int)) none++part (bw r a r.z) none (some 1)=bw r (a+b) (r.z-b+1):=by rw[aT,show part (bw r a r.z) none (some (1:Int))=(bw r a r.z).take 1 from bR _ 1,zbn (),xW (),show bw r (a+b) (r.z-b+1)=bw r (a+b) (r.z-b)++[cy r<|a+b+(r.z-b)]from xX];congr 1;show [cy r<|a+0]=_;rw[aH<|show(a+b+(r.z-b))%r.z=a%r.z by rw[show a+b+(r.z-b)=a+r.z by lia,Aa]];rfl
  let F:=A4 List.length E;rw[Ac,aK]at F
  refine' cg (Ef.ev<|dG (Ev.el<|Ef.ev<|dG (Ev.el<|Ef.ev<|eG ?m1 ?m2 ?m3) (Ev.el<|Ef.ev<|kL (us:=[bw r a<|b+1,bw r (a+b)<|r.z-b+1]) (fK (Ev.eq (Ef.ev<|eG ?u1 ?u2 ?u3) U)<|fK (Ev.eq (Ef.ev<|dG (Ev.el<|Ef.ev<|eG ?u4 ?u5 ?u6) (Ev.el<|Ef.ev<|eG ?u7 ?u8 ?u9) ?v1) E) kK) A!) ?m4) (Ev.el<|Ef.ev<|eG ?m5 ?m6 ?m7) ?m8) ?m9
  case m1=>ext
  case m2=>ext
  case m3=>ext
  case m5=>ext
  case m6=>ext
  case m7=>ext
  case u1=>ext
  case u2=>ext
  case u3=>ext
  case u4=>ext
  case u5=>ext
  case u6=>ext
  case u7=>ext
  case u8=>ext
  case u9=>ext
  case v1=>rw[F];lia
  case m4=>rw[bR];simp;lia
  case m8=>rw[bR,show(at':Int)+1=((at'+1:Nat):Int)by lia,aT];simp;lia
  case m9=>
   rw[bR,show(at':Int)+1=((at'+1:Nat):Int)by lia,aT];let#[L,tg,p,rfl]:=tr;let YK:cy r (a+b)∉br L (cy r a):=λz=>by let B:=(p.good r<|A5 A).dt a;let:Dt L (cy r a,cy r<|a+b):=#[B.lo,B.hi,z];let#[o,ho,K]:=D8.mp<|p.all _ this;let#[f,H]:=Ej.mp ho;let#[i,S]:=(aF (by let:=(p.good o ho).two;lia)).mp K;exact v f o (AA.mp H).1 H i S.symm
   let#[M,tM,lM,N]:=tg.UW p A O j3 YK;exact#[M,tM,N,lM]
def Ta(R:cq)(i:Nat)(r:cc)(k:Nat):af×(Int×Int):=(dj r<|k+(r.z-1),(cy r<|k+(r.z-2),(i:Int)))
def BP(R:cq)(i:Nat)(r:cc):List<|af×(Int×Int):=(List.range r.z).map<|Ta R i r
def JG(R:cq):Nat->List (af×(Int×Int))
 | 0=>[]
 | i+1=>JG R i++BP R i (R.getD i [])
theorem zeS(R:cq)(i:Nat)(r:cc):(BP R i r).map (·.1)=sh (r.z-1) r:=by refine Gx λk=>?_;unfold BP;rw[ED];ext(a:k<r.z);rw[tJ a,AY,Fy a];rfl;rw[Eu (by simp;lia),Eu<|by rw[cG];lia]
theorem xo(R:cq):∀i,i<=R.z->(JG R i).map (·.1)=(R.take i).flatMap λr=>sh (r.z-1) r
 | 0,_=>rfl
 | i+1,h=>by
  let:R[i]?=some (R.getD i []):=by rw[su,me ()];rfl
  rw[JG,EE,xo R i (),zeS,take_snoc this,I8,flatMap_singleton]
theorem DS{R:cq}{p:af×(Int×Int)}:∀i,i<=R.z->p∈JG R i->∃j r k,R[j]?=some r/\k<r.z/\p=Ta R j r k
 | 0,_,h=>by cases h
 | i+1,hi,h=>by ext(h|h:Af.mp h);exact DS i () h;let#[k,a,e]:=A3.mp h;exact#[i,_,k,by rw[su,me ()];rfl,Ad.mp a,e.symm]
instance:dI C "_law_corners" 1 (ai p8) zbE:=by
 refine No 60 ?_;ext _ _ ⟨L,R,b,a,P,rfl,rfl⟩;let z:=b.map;let B:(R.flatMap λr=>sh (r.z-1) r).Nodup:=(fW R).nodup_iff.mpr a.nd;let M:(R.flatMap λr=>sh (r.z-1) r).z<1000:=by let d:=a.dec.len z;rw[show((R.map<|sh 0).flatten)=R.flatMap (sh 0)from rfl]at d;let:=(b.bM.lands b.four a);let:=bK z;rw[(fW (s:=λr=>r.z-1) R).length_eq,d];lia
 let many:=b.many a;subst"at"
 refine' bP (w:=od ([]:List<|af×(Int×Int))) ?a1 ?_
 case a1=>ext
 refine' jy (xs:=enum R) (λi e=>∃s t u:Sl,e=[.sh<|is R,.ow<|od<|JG R i,s,t,u]) ?a2 #[_,_,_,rfl] ?b2 ?c2
 case a2=>ext
 case b2=>
  ext i x r _ K ⟨s,t,u,rfl⟩;let#[N,n,e]:=iF.mp K;cases e;let v:R.getD i []=r:=by rw[su,n];rfl
  let F:=b.three a<|A5 n;let O:=b.small a<|A5 n;let A:(JG R i++BP R i r).map (·.1)=(R.take<|i+1).flatMap λr=>sh (r.z-1) r:=by erw[<-v,xo R (i+1)<|(AA.mp n).1]
  let y:((JG R i++BP R i r).map (·.1)).Nodup:=A>>(uu _ _ _).nodup B
  let o:(JG R i++BP R i r).z<1000:=by let:=(uu (λr=>sh (r.z-1) r) R<|i+1).length_le;rw[<-A,ZO]at this;lia
  refine' dF (m:=r.z) (λk e=>∃u:Sl,e=[.sh<|is R,.ow<|od<|JG R i++(BP R i r).take k,.sh<|is (i:Int),.sh<|is r,u]) ?a3 () #[_,by rw[take_zero,GA];rfl] ?b3 ?c3
  case a3=>ext
  case b3=>
   ext k _ l ⟨u,rfl⟩;let D:(BP R i r)[k]?=some (Ta R i r k):=by unfold BP;rw[AY,Fy l];rfl
   let G:ix r ((k:Int)-1)=cy r (k+(r.z-1)):=xi (d:=1) l ();let I:ix r ((k:Int)-2)=cy r (k+(r.z-2)):=xi (d:=2) l ();let H:ix r (k:Int)=cy r (k+(r.z-1)+1):=(oe (j:=k) () ()<|.inl rfl).trans (aH<|by rw[show k+(r.z-1)+1=k+r.z by lia,Aa])
   refine' o4 (xs:=JG R i++(BP R i r).take k) (k:=dj r<|k+(r.z-1)) (u:=(cy r<|k+(r.z-2),(i:Int))) (Ev.eq (Fe<|aa ?d1<|aa ?d2 av) ?d3) (Ev.eq (Fe<|aa ?d4<|aa ?d5 av) ?d6) ?d7 ?d8
   case d1=>ext;exact#[(),()]
   case d2=>ext
   case d3=>rw[I]
   case d4=>ext;exact#[(),()]
   case d5=>ext;exact#[(),()]
   case d6=>rw[G,H];rfl
   case d7=>
    rw[Ac]at o ⊢;let:=length_take_le k<|BP R i r;rw[Fb];lia
   case d8=>
    refine aj #[.sh<|is (k:Int),?_];rw[rJ,Ga,take_snoc D];rfl;rw[EE,map_take];rw[EE]at y;exact hV (x:=dj r<|k+(r.z-1)) y (by rw[AY,D];rfl)
  case c3=>
   ext _ ⟨u,rfl⟩;erw[Jj (by unfold BP;simp),<-v,aj #[_,_,_,rfl]]
 case c2=>
  ext _ ⟨s,t,u,rfl⟩;rw[fY];let q:=xo R R.z<|Xx _;rw[F6]at q;refine uh (f:=CZ L R) (xs:=JG R R.z) #[q>>B,λd=>?_,λp E=>?_];rw[q];constructor;ext h;let#[r,c,J]:=D8.mp<|(fW R).mem_iff.mp h;let#[j,rfl]:=(aF (by let:=(a.good r c).two;lia)).mp J;exact(a.good r c).dt j;exact λh=>(fW R).mem_iff.mpr<|a.all d h;let#[j,r,k,c,l,rfl]:=DS _ (Xx _) E;let g:=a.good r<|A5 c;let F:=b.three a<|A5 c;let e1:cy r (k+(r.z-2)+1)=cy r (k+(r.z-1)):=by rw[show k+(r.z-2)+1=k+(r.z-1)by lia]
  let e2:(cy r<|k+(r.z-2),(dj r<|k+(r.z-1)).1)=dj r (k+(r.z-2)):=by unfold dj;rw[e1]
  refine#[?_,?_,?_];show Dt L (cy r<|k+(r.z-2),(dj r<|k+(r.z-1)).1);rw[e2];exact g.dt _;show nx L (cy r<|k+(r.z-2),(dj r<|k+(r.z-1)).1)=dj r (k+(r.z-1));erw[e2,g.st<|k+(r.z-2),show k+(r.z-2)+1=k+(r.z-1)by lia,(lC a c _).symm]
theorem zfe[DecidableEq κ]:∀{l:List<|κ×α} {k:κ},k∈l.map (·.1)->∃p∈l,p.1=k/\cF l k=some p.2:=λ{l k} h=>by
 unfold cF;cases q:l.find? (λp=>decide<|p.1=k)with
 | none=>
  let#[p,a,e]:=A3.mp h;exact absurd (BG e)<|Ij.mp q p a
 | some p=>exact#[p,Lx q,Eb<|find?_some (p:=λp:κ×α=>decide<|p.1=k) q,rfl]
theorem CZ.get(z:CZ L R D)(g:ah L){p:Int}(f:0<=p)(b:p<L.z)(j:Nat)(h:0<(br L p).z):cF D.l (p,cy (br L p) j)=some (cy (br L p)<|j+1,lo R (p,cy (br L p) j)):=by let#[q,k,e,i]:=zfe<|(z.mem (p,cy (br L p) j)).mpr #[f,b,a8 h];let#[c,d,a]:=z.val q k;rw[e]at c d a;rw[i,<-behind g f b c d,<-a]
theorem CZ.small(z:CZ L R D)(a:ah L)(b:L.z<=60):D.l.z<=5000:=by let e:=len_eq z.nd (aZ a<|Xx _) λd=>(z.mem d).trans #[λh=>h.all,λh=>Dt.of h];rw[ZO]at e;let:=BK a<|Xx L.z;let:L.z*(L.z-1)<=60*60:=Fx b ();lia
theorem zv(h:b8 L)(r:k<L.z):∃b,b<(br L k).z/\(∀x,x∈br L k->cy (br L k) b<=x)/\0<(br L k).z/\(br L k).Nodup/\(br L k).z<=L.z:=by
 let f:=h.map;let g:=h.An (x:=(k:Int)) () ();let d:L[k]?=some (br L (k:Int)):=by let:=ag (L:=L) (a:=(k:Int)) () ();rwa [EC]at this
 let j:=f.nd _ _ d;let#[m,o,c]:=Bx (l:=br L k) (λz=>by rw[z]at g;simp at g);let#[b,p,e]:=dh o;exact#[b,p,λx q=>e>>c x q,(),j,cZ j (n:=L.z) λy i=>#[(f.rg _ _ d y i).1,(f.rg _ _ d y i).2.1]]
theorem vd{α:Type}{M:List α}{x q:α}{b:Nat}(h:(M++[x])[b]?=some q):M[b]?=some q\/(b=M.z/\q=x):=by
 ext(⟨_,h⟩|⟨a,h⟩:eN h);exact .inl h;let:=(AA.mp h).1;let e:b=M.z:=by simp at this;lia
 subst e;simp at h;exact .inr #[rfl,h.symm]
instance:dI C "_law_turned_inside" 2 (ai iY) zdC:=by
 refine No 61 ?_;ext _ _ ⟨R,n,tr,F,rfl,rfl⟩;let#[L,f,E,rfl]:=id tr;let v:=f.map;refine#[rfl,λ_ _ _ _ _ H _ _ _=>?_]
 conv=>arg 3;whnf
 try (conv=>arg 6;dsimp only)
 show Xf _ _ _ [.sh _,.un,.un,.un,.un,.un,.un,.un] _ _
 refine' zN (az (aa ae av) #[L,R,f,E,F,rfl,rfl]) λxs g=>?_
 refine' bP (w:=ol ([]:cq)) ?a1 ?_
 case a1=>ext;simp
 refine' dF (m:=L.z) (λk e=>∃(M:cq) (o r A p c:Sl),e=[.sh<|is R,.sh<|Ky H xs,.ow<|ol M,o,r,A,p,c]/\M.z=k/\∀(b:Nat) (q:cc),M[b]?=some q->cK q (rd L R (b:Int))) (az (aa ae av) #[R,L.z,tr,F,rfl,rfl]) () #[[],_,_,_,_,_,rfl,rfl,λb q h=>by simp at h] ?b1 ?c1
 case c1=>
  ext _ ⟨M,o,r,A,p,c,rfl,l,B⟩;exact bF (i:=2)<|cg ae<|f.turned E l B
 case b1=>
  ext k _ N ⟨M,o,r,A,p,c,rfl,l,B⟩;let#[a,I,D,G,J,rl]:=zv f N;let y:∀t,(gw L R (k:Int) a t).z=t:=λt=>by unfold gw;simp
  refine' zO (pl:=(k:Int)) (m:=cy (br L k) a) ((g.mem _).mpr #[by show(0:Int)<=k;lia,by show(k:Int)<L.z;lia,a8 G]) (λx K=>D x ((g.mem _).mp K).mem) (g.small v F) ?_
  refine' eC ae ?_
  refine' bP (w:=ol ([]:cc)) ?d1 ?_
  case d1=>ext;simp
  refine' gX (λm e=>∃(t:Nat) (c:Sl),e=[.sh<|is R,.sh<|Ky H xs,.ow<|ol M,.sh<|is (k:Int),.sh<|is<|cy (br L k)<|a+t,.sh<|is<|cy (br L k) a,.ow<|ol<|gw L R (k:Int) a t,c]/\m+t=(br L k).z) #[_,0,_,rfl,rfl] ?_
  ext m _ ⟨t,c,rfl,T⟩
  refine' #[decide (gw L R (k:Int) a t=[]) || !decide (cy (br L k) (a+t)=cy (br L k) a),Jm<|Jf (Jo (xs:=gw L R (k:Int) a t) bj ?d2 A?) λ_=>By ?d3,λh=>?d4,λh=>?d5]
  case d2=>exact Ev.el<|Ef.ev<|kL kK A!
  case d3=>ext
  case d4=>
   let Q:t<(br L k).z:=BS λz=>by
    let e:t=(br L k).z:=();let e2:cy (br L k) (a+t)=cy (br L k) a:=aH (by rw[e,Aa]);rw[Bool.or_eq_true,Ii]at h;ext(h|h:h);let:=y t;rw[h]at this;simp at this;lia;rw[e2]at h;simp at h
   refine' zeZ (d:=is (cy (br L k)<|a+t+1,lo R ((k:Int),cy (br L k)<|a+t))) v7 (jN uB (Fe<|aa ae<|aa ae av)<|g.get v () () (a+t) G) (As eO eO) ?_
   refine' (cu (xs:=gw L R (k:Int) a t) (u:=lo R ((k:Int),cy (br L k)<|a+t)) ae (by rw[y];lia)<|aj #[m-1,(),t+1,_,?d6,()])
   case d6=>
    let:gw L R (k:Int) a (t+1)=gw L R (k:Int) a t++[lo R ((k:Int),cy (br L k)<|a+t)]:=by unfold gw;rw[GI,EE];rfl
    rw[this];rfl
  case d5=>
   rw[Mo,N8]at h;let P:cy (br L k) (a+t)=cy (br L k) a:= ~~~h.2
   let O:t=(br L k).z:=BS λw=>by let S:t≠0:=λz=>h.1 (List.length_eq_zero_iff.mp<|by rw[y,z]);exact cA J (i:=a) (j:=a+t) () () P.symm
   subst O;refine bF (i:=6) ?_
   refine' cu (xs:=M) (u:=gw L R (k:Int) a (br L k).z) ae () (aj #[M++[gw L R (k:Int) a (br L k).z],_,_,_,_,_,rfl,by rw[Ac,l];rfl,λb q s=>?_])
   ext(s|⟨rfl,rfl⟩:vd s);exact B b q s;erw[l,zdd E v (b:=(k:Int)) () () I]
instance:dI C "_law_rings" 3 (ai vD) zeu:=by
 refine No 62 ?_;ext _ _ ⟨fs,m,⟨fl,g⟩,o,rfl,rfl⟩;let rg:∀i:Nat,i<6->0<=ix fs (i:Int)/\ix fs (i:Int)<10 ^ 61:=λi l=>by let:=C7 (i:=i) () g;lia
 let f:∀{x:Int},0<=x/\x<10 ^ 61->0<=x / 3/\x / 3<10 ^ 61:=λh=>#[Int.ediv_nonneg h.1 A?,Int.lt_of_le_of_lt (Int.ediv_le_self _ h.1) h.2];let at':∀{i:Nat},i<6->-(fs.z:Int)<=(i:Int)/\(i:Int)<fs.z:=λh=>#[(),()];subst"at"
 refine' c7 (az (aa (bG ae au<|ix_l<|at' A?) av) #[_,rg 0 A?,rfl,rfl]) λR tr=>?_
 let#[z,hz,p]:=fH (m:=4) A?
 refine' dF (λ_ e=>∃(R:cq) (s:Sl),e=[.sh<|is fs,.sh<|is R,s]/\W6 R) (Ev.eq (aL (bG ae au<|ix_l<|at' A?) au<|ow_mod A?) hz) () #[R,_,rfl,tr] ?b1 ?c1
 case b1=>
  ext k _ j ⟨R,s,rfl,n,c,tr⟩;let d:=rg (2+k) ()
  refine' bT (iD (aL (bG ae (Ev.eq (aL au ae ow_add)<|show(2:Int)+(k:Int)=((2+k:Nat):Int)by lia)<|ix_l<|at' ()) au<|ow_mod A?) au ow_eqI) (λh=>?d1) λh=>?d2
  case d1=>exact c7 (az (aa ae<|aa (aL (bG ae (Ev.eq (aL au ae ow_add)<|show(2:Int)+(k:Int)=((2+k:Nat):Int)by lia)<|ix_l<|at' ()) au<|ow_fdp<|fL A? A?) av) #[R,n,_,tr,(),f d,rfl,rfl]) λb a=>aj #[b,_,rfl,n,c,a]
  case d2=>
   refine' bT (iD (az (aa ae av)<|show rW [is R] (is (n:Int))from#[R,n,tr,(),rfl,rfl]) au ow_lt) (λh=>(c7 (az (aa ae<|aa (aL (bG ae (Ev.eq (aL au ae ow_add)<|show(2:Int)+(k:Int)=((2+k:Nat):Int)by lia)<|ix_l<|at' ()) au<|ow_fdp<|fL A? A?)<|aa (az (aa ae av)<|show rW [is R] (is (n:Int))from#[R,n,tr,(),rfl,rfl]) av) #[R,n,_,tr,(),f d,rfl,rfl]) λb a=>aj #[b,_,rfl,n+1,by let:=Eb h;lia,a])) λh=>aj #[R,_,rfl,n,c,tr]
 case c1=>
  ext _ ⟨R,s,rfl,n,c,tr⟩
  refine' cI (λe=>∃(R:cq) (s:Sl),e=[.sh<|is fs,.sh<|is R,s]/\W6 R) (Jm<|BA (iD (aL (bG ae au<|ix_l<|at' A?) au<|ow_mod A?) au ow_eqI) λ_=>wQ ?d1) (λh=>?d2) (λh=>aj #[R,_,rfl,n,c,tr]) ?_
  case d1=>ext
  case d2=>exact c7 (az (aa ae av) #[R,n,tr,(),rfl,rfl]) λb a=>aj #[b,_,rfl,R.z,(),a]
  ext _ ⟨R,s,rfl,tr⟩;exact cg ae tr
instance:dI C "_law_named" 2 (ai vF) Kg:=by
 refine No 64 ?_;ext _ _ ⟨R,n,a,tr,z,⟨v,y⟩,rfl,rfl⟩;let four:=tr.four;let many:=tr.many;subst"at"
 refine' bP (w:=ol<|aP n) (wY (az (aa ae av) #[R,n,tr,z,rfl,rfl]) ()) ?_
 refine' c8 (xs:=S4 ((n:Int)-1) ((n:Int)-1-0).toNat) (λ_ e=>∃(l:cc) (s t u:Sl),e=[.sh<|is R,.sh<|is a,.ow<|ol l,s,t,u]/\rZ n l) (ei_rngD ?a1 ?a2 ?a3 ()) #[_,_,_,_,rfl,bB n,g9 n,λx b=>cR.mp b] ?b1 ?c1
 case a1=>exact aL (Ev.eq (nO (xs:=aP n) bj)<|by rw[bB]) au ow_sub
 case a2=>ext
 case a3=>exact wU au
 case b1=>
  ext i x _ b ⟨l,s,t,u,rfl,nm⟩;let#[E,rfl]:=Jz.mp b;obtain⟨k,p,A⟩:∃k:Nat,(n:Int)-1-(i:Int)=(k:Int)/\k<n:=#[((n:Int)-1-(i:Int)).toNat,(),()];rw[p];let q:=nm.len;let#[j,h,G]:=fH (n:=a / 11 ^ (k:Int).toNat%11) (show 0<k+1 by lia);let jl:j<l.z:=();let d:k<l.z:=();refine' aN (u':=(j:Int)) ?d1 h (aN (u':=l[k]) ?d2 ?d3 ?_)
  case d1=>
   refine' aL ?z1 ?z2 (ow_mod ?z3)
   case z1=>ext;exact#[#[v,y],by decide,(),()]
   case z2=>exact Ev.eq (aL ae au ow_add) ()
   case z3=>show(0:Int)<_;lia
  case d2=>ext;exact#[(),()]
  case d3=>rw[wA d,su,me d];rfl
  refine' Bk (xs:=l) (u:=l[j]) (k:=(k:Int)) (m:=k) (Ev.eq ?d4 ?d5) ?d6 ?d7 ?_
  case d4=>ext;exact#[(),()]
  case d5=>rw[wA jl,su,me jl];rfl
  case d6=>ext
  case d7=>rw[Bb () (),EC]
  refine' Bk (xs:=l.set k l[j]) (u:=l[k]) (k:=(j:Int)) (m:=j) ?e1 ?e2 ?e3 ?_
  case e1=>ext
  case e2=>ext
  case e3=>rw[Ec,Bb () (),EC]
  exact aj #[_,_,_,_,rfl,zce nm jl d]
 case c1=>
  ext _ ⟨l,s,t,u,rfl,nm⟩;let q:=nm.len;refine bF (i:=2) ?_
  refine' cg (u:=R.map<|List.map<|gp l) (Ev.eq (Ef.ev<|iH (λr:cc=>r.map λx=>ix l x) (mh ae) (λr f _ _ _ _ _=>?d1) ()) ?d2) (by let#[L,t,g,rfl]:=tr;let#[B,c]:=Q6 nm;exact#[B,t.Ua g c nm,g.Ua c nm t.map,c.len])
  case d1=>
   let#[D,c,F,o]:=tr.ring f;ext;let:=o _ ‹_›;exact#[(),()];lia
  case d2=>
   refine EU λr f=>EU λx b=>?_;let rg:=(tr.ring f).2.2.2 x b;let:=wA (l:=l) (k:=x.toNat) ();rw[show((x.toNat:Nat):Int)=x by lia]at this;rw[this];rfl
section
open Dt
instance:dI C "middles" 5 (ai zbu) zbm:=by
 refine No 46 ?_;ext _ _ ⟨L,r,fs,⟨A,gu,l8,rl,AN,Vf,Hc,s⟩,rfl,rfl⟩;let key:(r.zip fs).map (·.1)=r:=map_fst_zip ();let vals:(r.zip fs).map (·.2)=fs:=map_snd_zip ();let ad:r.z<=8:=Ay (k9 (m:=aP L.z) AN λx b=>by let:=Hc x b;exact A3.mpr #[x.toNat,Ad.mpr (),()]) (by unfold aP;erw[ZO,Er,l8]);let WR:∀x,(cF (r.zip fs) x).isSome=decide (x∈r):=λx=>by
  cases z:cF (r.zip fs) x with
  | none=>rw[eK,key]at z;simp[z]
  | some v=>
   let:x∈r:=BS λn=>by rw[eK.mpr<|key>>n]at z;cases z
   simp[this]
 subst"at"
 refine' bP (w:=ol<|left L.z r) (Ef.eqL ?f0<|map_id _) ?_
 case' f0=>refine' mv (xs:=aP L.z) id (λx=>!decide (x∈r)) ?i1 (λx _ _ _ _ _ _=>?i2) (λx _ _ _ _ _ _ _=>?i3) ?i4
 case i1=>ext;lia
 case i2=>exact Et.eq (ux (xs:=r.zip fs) ae<|Ev.ed ae) (by rw[WR])
 case i3=>ext
 case i4=>unfold aP;simp;lia
 refine bF (i:=3) ?_;let j:∀x,x∈left L.z r↔(0<=x/\x<L.z)/\x∉r:=λx=>by unfold left aP;rw[Gp,mem_map];refine and_congr #[λ⟨i,h,e⟩=>?_,λh=>#[x.toNat,Ad.mpr (),()]] A!;let:=Ad.mp h;lia
 let P:(left L.z r).Nodup:=by unfold left aP;rw[Ig];refine List.Pairwise.filter _ ?_;erw[K3,My (λh z=>h ())<|Kk.mp JK]
 let inl:=zeo L.z r;generalize left L.z r=a at j P inl ⊢;let fz:Fq 62 fs:=#[λf m=>(s f m).1.1,λf m=>(s f m).sz.1,λf m=>(s f m).sz.2.mono A?];let fd:Xg 1000<|Sq.mk fs:=#[#[62,fz,by decide],by show fs.z<=1000;lia];let#[l0,l1,W]:=iQ.n6 fz.pos;let O:(dO fs).natAbs<=2 ^ 21:=Ay W<|Ay (HQ s)<|Ay (LX A?<|show fs.z<=8 by lia) A?;let U:=C4 fz;let tl:=U.len;let K:∀x:Int,0<=x/\x<L.z->ix L x=br L x/\(br L x).z<=8:=λx b=>by
  let h:=ag b.1 b.2;refine#[?_,Ay (k9 (m:=aP L.z) (A.nd _ _ h) λy c=>?_)<|by unfold aP;erw[ZO,Er,l8]];let e:x=((x.toNat:Nat):Int):=();rw[e,iw (),su,<-e,h];rfl;let:=A.rg _ _ h y c;exact A3.mpr #[y.toNat,Ad.mpr (),()]
 refine' eC (az (aa (Ev.sqL<|Ev.eq (Ef.ev<|wX<|Ev.ed ae) vals) av)<|gY (u:=Sq.mk fs) fd) ?_
 refine' bP (mC (ks:=r) (xs:=FV fs) ?k1 ?k2 () AN ()) ?_
 case k1=>exact Ev.el<|Ev.eq (Ef.ev<|DE<|Ev.ed ae) key
 case k2=>exact Ev.el<|az (aa (Ev.sqL<|Ev.eq (Ef.ev<|wX<|Ev.ed ae) vals) av)<|gY (u:=Sq.mk fs) fd
 refine nF (i:=5) ?_;generalize al:FV fs=o at U tl ⊢;let tz:∀x∈o,x.natAbs<=2 ^ 82:=λx b=>by let#[i,E,ei]:=Eg.mp b;let J:fs[i]?=some fs[i]:=me ();exact Ay (zcR U fz.pos J<|by rw[me E,ei])<|Ay (Fx (s _<|A5 J).2.2 O) A?
 let wz:∀y:Int,(wv r o y).natAbs<=2 ^ 82:=λy=>by
  unfold wv;rw[su];cases e:o[r.idxOf y]? with
  | none=>exact Bv _
  | some x=>exact tz x<|A5 e
 let wd:∀y,(cF (r.zip o) y).getD 0=wv r o y:=λy=>by rw[rG y r o ()];unfold wv;rw[su]
 refine' jx (xs:=a) (ys:=ko L a a) (λx=>a.map<|cY (br L x) x) ?r1 (λx b _ _ _ _ _=>?r2) () rfl ?_
 case r1=>ext
 case r2=>
  let#[e1,e2]:=K x ((j x).mp b).1;rw[<-e1];ext;exact#[by let:=((j x).mp b).1;lia,((j x).mp b).1.2];exact#[(),by rw[e1];lia]
 refine bF (i:=6) ?_
 refine' jx (xs:=a) (ys:=kI L r o a) (λx=>(((br L x).map<|wv r o).sum,1)) ?g1 (λx b _ _ _ _ _=>?g0) () rfl ?_
 case g1=>ext
 case' g0=>refine' Fe<|aa (Jg<|Ev.el<|Ef.ev ?h1)<|aa ?g5 av
 case' h1=>refine' iH (xs:=br L x) (wv r o) ?g2 (λy c _ _ _ _ _=>?g3) ?g4
 case g2=>
  rw[<-(K x ((j x).mp b).1).1];ext;exact#[by let:=((j x).mp b).1;lia,((j x).mp b).1.2]
 case g3=>
  erw[<-wd,o7 (Ev.ed ae) ae au]
 case g4=>have:=(K x ((j x).mp b).1).2;lia
 case g5=>ext
 refine bF (i:=7) ?_
 refine' bP (w:=od<|r.zip fs) ?f1 ?_
 case f1=>ext
 let gz:∀g∈kI L r o a,g.2=1/\g.1.natAbs<=2 ^ 90:=λg Y=>by let#[x,b,rfl]:=A3.mp Y;refine#[rfl,Ay (Cn (M:=2 ^ 82) λn hn=>?_) ?_];let#[y,_,rfl]:=A3.mp hn;exact wz y;erw[ZO,Ay (HD _ (K x ((j x).mp b).1).2) A?]
 let ab:∀(l:cc) (x y:Int),l.z<=8->(cY l x y).2=1/\(cY l x y).1.natAbs<=2 ^ 90:=λl x y hl=>by unfold cY;split;exact#[rfl,by show((l.z:Int)).natAbs<=2 ^ 90;lia];split;exact#[rfl,by decide];exact#[rfl,by decide]
 let QZ:∀fs∈ko L a a,fs.z=a.z/\∀f∈fs,f.2=1/\f.1.natAbs<=2 ^ 90:=λfs B=>by let#[x,b,rfl]:=A3.mp B;refine#[ZO _,λf s=>?_];let#[y,c,rfl]:=A3.mp s;exact ab _ _ _ (K x ((j x).mp b).1).2
 let#[r0,I]:=Mr r Vf;let so:NN a.z (ko L a a)<|kI L r o a:=#[#[ZO _,ZO _,λfs B=>#[(QZ fs B).1,λf s=>by rw[((QZ fs B).2 f s).1];decide],λg Y=>by rw[(gz g Y).1];decide],(),#[λfs B=>(QZ fs B).2,gz],zad A gu P (λx b=>((j x).mp b).1) (Hc r0 I)<|λz=>((j r0).mp z).2 I];let#[xl,xz,H]:=U7 so;generalize ac:Ku (ko L a a) (kI L r o a)=ys at xl xz H;obtain⟨D,N⟩:∃D:Int->Rat,∀y,D y=if y∈r then fa fs (r.idxOf y)else fa ys (a.idxOf y) / (dO fs:Rat):=#[_,λ_=>rfl]
 refine' jy (xs:=a.zip ys) (λi e=>∃(kv:List<|Int×(Int×Int)) (Z s9:Sl),e=[.sh<|is L,.sh<|is<|sW.mk<|r.zip fs,Z,.sh<|is a,.sh<|is<|dO fs,.sh<|is<|sW.mk<|r.zip o,.sh<|is<|ko L a a,.sh<|is<|kI L r o a,.ow<|od kv,s9]/\kv.z<=8+i/\∀y,y∈r\/y∈a.take i->∃f,cF kv y=some f/\Lw f/\Sz 880 f.1/\Sz 880 f.2/\qt f=D y) ?l1 #[r.zip fs,_,_,rfl,?W,?l3] ?l4 ?l5
 case l1=>
  rw[<-ac];ext;exact#[_,so]
 case W=>rw[G9];lia
 case l3=>
  ext y c;let c:y∈r:=c.elim id λz=>by simp at z
  let E:=Ci c;let F:fs[r.idxOf y]?=some fs[r.idxOf y]:=me ();let X:=s _<|A5 F;exact#[_,(rG y r fs rl).trans F,X.1,X.sz.1.mono A?,X.sz.2.mono A?,by rw[N,Al c,mf F]]
 case l4=>
  ext m x d _ b ⟨kv,Z,s9,rfl,kl,S⟩;let#[T,F]:=Ki.mp b;let zH:=(AA.mp T).1;let G:=xz d<|A5 F;let lz:Sz 22<|dO fs:=FA O A?;let bz:=Sz.mul G.2.2 lz;let bp:=E7 G.1.1 l0;let p:Ao d.1 (d.2*dO fs) (gJ d.1<|d.2*dO fs).1 (gJ d.1<|d.2*dO fs).2:=nj () rfl
  refine' o4 (xs:=kv) (k:=x) (u:=gJ d.1<|d.2*dO fs) ?t ?d2 () (aj #[_,_,_,rfl,?d3,λy c=>?d4])
  case t=>
   ext;exact Sz.fB (m:=856) (n:=22) G.2.2 lz;exact#[(),bz.mono A?]
  case d2=>ext
  case d3=>have:=zfO kv x<|gJ d.1<|d.2*dO fs;lia
  case d4=>
   rw[zcI];ext(z:y=x);subst z;rw[Al rfl];refine#[_,rfl,#[p.pos,p.co],Sz.le (G.2.1.mono A?) p.ta,Sz.le (bz.mono A?) p.ub,?_];let ix:a.idxOf y=m:=(by let:=jb P zH;rwa [su,T]at this);rw[N,Ak ((j y).mp<|A5 T).2,ix,mf F,show gJ d.1 (d.2*dO fs)=((gJ d.1<|d.2*dO fs).1,(gJ d.1<|d.2*dO fs).2)from rfl,vV () p];let u1:=dS (show d.2≠0 by let:=G.1.1;lia);let u2:=dS (show dO fs≠0 by lia);unfold qt;rw[Fj];grind;rw[Ak z];refine S y<|c.imp id λw=>?_;rw[take_snoc T]at w;exact(Af.mp w).resolve_right λw=>z<|Ax.mp w
 case l5=>
  ext _ ⟨kv,Z,s9,rfl,kl,S⟩;rw[G9,xl,Nat.min_self,F6]at S;let ZM:∀y:Int,0<=y/\y<L.z->∃f,cF kv y=some f/\Lw f/\Sz 880 f.1/\Sz 880 f.2/\qt f=D y:=λy c=>S y<|(Classical.em<|y∈r).imp id λz=>(j y).mpr #[c,z];refine nF (i:=8) ?_
  refine' cg (u:=(aP L.z).map λy=>(cF kv y).getD (0,1)) (Ef.ev<|iH (xs:=aP L.z) (λy=>(cF kv y).getD (0,1)) ?e1 (λy c _ _ _ _ _=>jN (xs:=kv) ?e2 ?e3 ?e4) ?e5) ?e6
  case e1=>ext;lia
  case e2=>ext
  case e3=>ext
  case e4=>
   let#[i,E,rfl]:=A3.mp c;let#[f,t,_]:=ZM i (by let:=Ad.mp E;lia);rw[t];rfl
  case e5=>unfold aP;simp;lia
  case e6=>
   let fx:∀y:Int,0<=y->y<L.z->fa ((aP L.z).map λy=>(cF kv y).getD (0,1)) y.toNat=D y:=λy y0 y1=>by let#[f,t,_,_,_,d5]:=ZM y #[y0,y1];rw[<-d5];refine mf ?_;unfold aP;rw[ED,AY,Fy ()];show some ((cF kv ((y.toNat:Nat):Int)).getD (0,1))=_;rw[Hx y0,t];rfl
   refine#[by unfold aP;simp,λx b=>?_,λx b=>?_,λv Q R vr=>?_];let#[y,c,rfl]:=A3.mp b;let#[i,E,rfl]:=A3.mp c;let#[f,t,d2,d3,d4,_]:=ZM i (by let:=Ad.mp E;lia);rw[t];exact#[d2,d3,d4];let#[x0,x1]:=Hc x b;rw[fx x x0 x1,N,Al b];let:=zeH A j P U rl fz.pos H (q:=D) (λy c=>by rw[N,Al c]) (λy c=>by rw[N,Ak ((j y).mp c).2])<|(j v).mpr #[#[Q,R],vr];unfold mH at this ⊢;dsimp only;rw[fx v Q R,this];congr 1;refine EU λy c=>(fx y ?_ ?_).symm;exact(A.rg _ _ (ag Q R) y c).1;exact(A.rg _ _ (ag Q R) y c).2.1
end
instance:dI C "_law_orders" 2 (ai sF) zcs:=by
 refine No 63 ?_;ext _ _ ⟨R,n,f,tr,I,⟨W,Y⟩,rfl,rfl⟩;let#[L,d,T,rfl]:=id tr;let q:=d.map;refine#[rfl,λ_ _ _ _ _ H _ _ _=>?_]
 conv=>arg 3;whnf
 try (conv=>arg 6;dsimp only)
 show Xf _ _ _ [.sh _,.sh _,.un,.un,.un,.un,.un,.un] _ _
 refine' zN (az (aa ae av) #[L,R,d,T,I,rfl,rfl]) λxs r=>?_
 refine' bP (w:=ol ([]:cq)) ?a1 ?_
 case a1=>ext;simp
 refine' dF (m:=L.z) (λk e=>∃(M:cq) (v y s p:Sl),e=[.sh<|is R,.sh<|is f,.sh<|Ky H xs,.ow<|ol M,v,y,s,p]/\M.z=k/\∀(i:Nat) (l m:cc),M[i]?=some l->L[i]?=some m->cK l m) (az (aa ae av) #[R,L.z,tr,I,rfl,rfl]) () #[[],_,_,_,_,rfl,rfl,λi l m h=>by simp at h] ?b1 ?c1
 case c1=>
  ext _ ⟨M,v,y,s,p,rfl,g,E⟩;refine bF (i:=3) ?_;let G:bZ M L:=#[g,E];exact cg ae #[#[G.bM d.bM,G.kR q d.kR,g>>d.four,let ⟨_,D,mp⟩:=d.mt;#[_,G.dec q D,mp]],g]
 case b1=>
  ext k _ S ⟨M,v,y,s,p,rfl,g,E⟩;let#[c,P,F,J,Q,rl]:=zv d S;let O:L[k]?=some (br L (k:Int)):=by let:=ag (L:=L) (a:=(k:Int)) () ();rwa [EC]at this
  let get:∀t,cF xs ((k:Int),cy (br L k)<|c+t)=some (cy (br L k)<|c+t+1,lo R ((k:Int),cy (br L k)<|c+t)):=λt=>r.get q () () (c+t) J
  refine' zO (pl:=(k:Int)) (m:=cy (br L k) c) ((r.mem _).mpr #[by show(0:Int)<=k;lia,by show(k:Int)<L.z;lia,a8 J]) (λx Z=>F x ((r.mem _).mp Z).mem) (r.small q I) ?_
  refine' bP (w:=ol [cy (br L k) c]) ?d1 ?_
  case d1=>ext;simp
  generalize br L k=b at *;let last:∀t,ix (bw b c<|t+1) (-1)=cy b (c+t):=λt=>wC<|Tx (n:=t) (aK _ _ _)<|kg ()
  refine' gX (λm e=>∃t:Nat,e=[.sh<|is R,.sh<|is f,.sh<|Ky H xs,.ow<|ol M,.sh<|is (k:Int),.sh<|is<|cy b c,.ow<|ol<|bw b c<|t+1,p]/\m+t+1=b.z) #[b.z-1,0,rfl,()] ?_
  ext m _ ⟨t,rfl,ht⟩
  refine' #[!decide (cy b (c+t+1)=cy b c),iD (bG (jN uB (Fe<|aa ae<|aa (Ev.eq (BC (xs:=bw b c<|t+1) bj (wU au) #[by rw[aK];lia,by rw[aK];lia])<|last t) av)<|get t) au ix_fst) ae ow_neI,λh=>?d4,λh=>?d5]
  case d4=>
   let lt:t+1<b.z:=BS λz=>by let e2:cy b (c+t+1)=cy b c:=aH (by rw[show c+t+1=c+b.z by lia,Aa]);rw[e2]at h;simp at h
   refine' cu (xs:=bw b c<|t+1) (u:=cy b<|c+t+1) (bG (jN uB (Fe<|aa ae<|aa (Ev.eq (BC (xs:=bw b c<|t+1) bj (wU au) #[by rw[aK];lia,by rw[aK];lia])<|last t) av)<|get t) au ix_fst) (by rw[aK];lia) (aj #[m-1,(),t+1,?_,()])
   rw[xX (m:=t+1)];rfl
  case d5=>
   let X:cy b (c+t+1)=cy b c:= ~~~h
   let U:t+1=b.z:=BS λw=>cA Q (i:=c) (j:=c+t+1) () () X.symm;rw[U,<-uQ ()];let N:(dX b c).z=b.z:=bQ ();let#[tn,B,tl]:=fH (n:=f / 7 ^ (k:Int).toNat%7) (show 0<(dX b c).z by lia)
   refine' aN (u':=(tn:Int)) ?f1 B ?_
   case f1=>
    ext;exact#[#[W,Y],by decide,(),()];show(0:Int)<_;lia
   refine' cu (xs:=M) (u:=dX (dX b c) tn) (Ev.eq (Ef.ev<|dG (Ev.el<|Ef.ev<|eG ?f2 ?f3 ?f4) (Ev.el<|Ef.ev<|eG ?f5 ?f6 ?f7) ?f8)<|Hs _ tn) () (aj #[M++[dX (dX b c) tn],_,_,_,_,rfl,by rw[Ac,g];rfl,λi l K A o=>?f9])
   case f2=>ext
   case f3=>ext
   case f4=>ext
   case f5=>ext
   case f6=>ext
   case f7=>ext
   case f8=>rw[AR];lia
   case f9=>
    ext(A|⟨rfl,rfl⟩:vd A);exact E i l K A o;rw[g]at o;rw[O]at o;cases o;exact cK.trans (.inr #[tn,(),rfl])<|.inr #[c,P,rfl]
instance:dI C "by_middles" 6 (ai vv) D5:=by
 refine No 47 ?_;ext _ _ ⟨L,r,Y,D,O,o,k,l,y,n,c,rfl,rfl⟩;let F:r.z<=8:=Ay (k9 (m:=aP L.z) l λx R=>by let:=n x R;exact A3.mpr #[x.toNat,Ad.mpr (),()]) (by unfold aP;erw[ZO,Er,o]);let t:∀{g:Spot->Int×Int},(∀q:Spot,q∈Y->P6 (g q))->PY L r (Y.map g):=λh=>#[D,O,o,ZO>>k,l,y,n,λf N=>by let#[q,d,rfl]:=A3.mp N;exact h q d];subst"at"
 refine' c7 (az (aa ae<|aa (Ef.evd<|mC (ks:=r) (xs:=Y.map λq:Spot=>cE q) ?a1 ?a2 (ZO>>k) l ()) av) #[L,r,_,t λq d=>(c q d).2 _ (bh<|by rw[(c q d).1];decide),rfl,rfl]) ?_
 case a1=>ext
 case a2=>
  ext;exact(c _ ‹_›).1;lia
 ext xs mx
 refine' c7 (az (aa ae<|aa (Ef.evd<|mC (ks:=r) (xs:=Y.map λq:Spot=>cW q) ?b1 ?b2 (ZO>>k) l ()) av) #[L,r,_,t λq d=>(c q d).2 _ (bh<|by rw[(c q d).1];decide),rfl,rfl]) ?_
 case b1=>ext
 case b2=>
  ext;exact(c _ ‹_›).1;lia
 ext ys i;let M:=mx.len;let S:=i.len
 refine' cg (u:=(xs.zip ys).map λp=>[p.1,p.2]) (.of (Ef.ev<|ph (Ev.el ae) (Ev.el ae) ()).p<|.mk λE Q q=>aq.h E Q λv K s ⟨a,vs,G,z,A⟩=>q v K s #[a,vs,G,z,Rm A λv x _ ⟨b,u,w,B,J,P,H⟩=>#[b,[u,w],B,J,.cons P<|.cons H .nil]]) ?c2
 case c2=>
  let e:((xs.zip ys).map λp=>[p.1,p.2])=pI L.z xs ys:=by unfold pI;apply Gx;ext j;rw[AY,AY];ext(I:j<L.z);let hz:(xs.zip ys)[j]?=some (xs[j]'(),ys[j]'()):=Ki.mpr #[me _,me _];rw[Fy I,hz,Option.map_some,Option.map_some,su,su,me,me];rfl;rw[Eu (by rw[G9];lia),Eu<|by rw[Er];lia];rfl
  exact e▸S1 M S mx.sz i.sz c k n mx.fix i.fix mx.mid i.mid
instance:dI C "looked_frame" 5 (ai pR) zbw:=by
 refine No 44 ?_;ext _ _ ⟨F,_,⟨rfl,c,f⟩,rfl,rfl⟩;let a:∀{q:Spot},q∈F->P2 q:=λh=>(c.F0 _ h).p2;let e:(F.reverse.map λq:Spot=>FV q++[dO q])=(F.map λq:Spot=>wr q).reverse:=by erw[<-map_reverse,EU λq b=>(λh=>UK (a h) (C4 (a h).fq) (iQ.n6 (a h).fq.pos).2.1)<|GV.mp b]
 subst"at"
 refine' bT (k:=false) (Et.eq (Jm<|Jf ?t1 λ_=>By<|BF<|BE<|az (aa (Ev.eq ?t2 e) av)<|gY (u:=(F.map λq:Spot=>wr q).reverse) ?t3) ?t4) (λh=>by cases h) λ_=>aj λ_=>rfl
 case t1=>ext
 case t2=>
  ext;exact#[#[9000,(a<|GV.mp ‹_›).fq,by decide],by rw[show List.length _=2 from(a<|GV.mp ‹_›).len];decide];rw[Gz];lia
 case t3=>
  refine#[λl d=>?_,by rw[Gz,ZO];lia];let#[q,b,rfl]:=A3.mp<|GV.mp d;exact UJ<|a b
 case t4=>
  rw[show FQ (P4 (F.map λq:Spot=>wr q).reverse)=true from kW c.gl];simp
theorem vN(b:b8 L)(a:fe L R)(h:r∈R):r.Nodup:=by refine b.kR.ring (a.good r h) ?_;let:=a.nd;rw[Ig]at this ⊢;exact(LM.mp this).1 r h
instance:Yb C "drawn" 7 (ai zdF) Od:=by
 refine Wz Env.dd ?_;ext _ _ ⟨L,k,o,F,b,r,D,v,g,ho,q,rfl,rfl⟩;let#[R,l]:=iC b.map;let i:=jL l;rw[i]at v g ⊢;let w:=bh (d:=([]:cc)) v;let t:=vN b l w;let rg:=l.good _ w;let c:∀x∈R.getD k [],0<=x/\x<L.z:=λx p=>by
  let#[j,E,e]:=Eg.mp p;let d:=rg.dt j;let s:cy (R.getD k []) j=x:=by rw[a9 E,e]
  exact#[by erw[<-s,d.lo],by erw[<-s,d.hi]]
 let B:=Ay (k9 (m:=aP L.z) t λx p=>by let:=c x p;exact A3.mpr #[x.toNat,Ad.mpr (),()]) (by unfold aP;erw[ZO,Er,r]);let y:R.getD k []≠[]:=λz=>by let:=rg.two;rw[z]at this;simp at this
 subst"at"
 refine' aN (u':=R.getD k []) (az (aa ae<|aa ae av)<|oy #[b,(),D,(),by rw[i];lia]) (by rw[i];rfl) ?_
 let f:D5 [is L,is<|R.getD k [],is F]<|aW (α:=List Spot) λZ=>NQ L (R.getD k []) F Z:=#[L,_,F,b.map,b.bM.gu,r,g,t,y,c,q.F0,rfl,rfl];ext(rfl|⟨rfl,A⟩:ho)
 refine' cI (k:=false) (λe=>e=[.sh<|is L,.sh<|is (k:Int),.sh<|is<|some F,.sh<|is<|R.getD k []]) (Nt (xs:=F)<|Ev.Av ae) (λh=>by cases h) (λ_=>aj rfl) ?_
 ext _ rfl
 refine' oZ (az (aa (Ev.Av ae)<|aa ?a av)<|oy (u:=F) (u2:=((R.getD k []).z:Int)) #[by rw[g],q,()]) (nG<|az (aa ae<|aa ae<|aa (Ev.Av ae) av) f)
 ext
 refine' cI (k:=true) (λ_=>False) (DD ae) (λ_=>nG<|az (aa ae<|aa ae<|aa (Ev.eq (az (aa ?z1 av)<|gY (F:=λn:Int=>KG n.toNat) (u:=((R.getD k []).z:Int)) ?z2) ?z3) av) f) (λh=>by cases h) λ_ h=>h.elim
 case z1=>ext
 case z2=>exact#[(),()]
 case z3=>rw[EC,g];exact A.symm
instance:dI C "is_inside" 2 (ai zvaa) zvbt:=by
 refine No 42 ?_;rintro _ _ ⟨L,s,⟨w3,⟨s3,sz⟩,ln⟩,rfl,rfl⟩;have v3:∀{l:List Int},l.length=3->(∀x∈l,Sz 30000 x)->∃a:V3,l=l3 a/\S3 30000 a:=λ{l} l3' sz=>by
  match l,l3',sz with
  | [x,y,z],_,sz=>exact⟨⟨x,y,z⟩,rfl,sz _ (by simp),sz _ (by simp),sz _ (by simp)⟩
 have at':∀(k d:Nat),k<L.length->d<=1->(-(L.length:Int)<=(k:Int)-d/\(k:Int)-d<L.length)/\ix L ((k:Int)-d)=L.getD (bk L.length k d) []/\∃a:V3,ix L ((k:Int)-d)=l3 a/\S3 30000 a:=λk d hk hd=>by
  have hb:bk L.length k d<L.length:=AK _ (by lia);have e:ix L ((k:Int)-d)=L.getD (bk L.length k d) []:=by
   unfold ix;rw[zbG hk (by lia) (me hb),su,me hb];rfl
  have m:=w3 _ (bh (d:=[]) hb);exact⟨by lia,e,by rw[e];exact v3 m.1 m.2⟩
 obtain⟨c,ec,sc⟩:=v3 s3 sz;subst "at";show Gs _ _ [.sh _,.sh _] _ _
 refine' iA (SQ (Ev.el (Ef.ev (iH (xs:=aP L.length) (λk=>decide (tn (t3 (ix L (k-1))) (t3 (ix L k)) (t3 s) > 0)) ?a (λk hk _ _ _ _ _=>?d) ?h)))) ?v
 case a=>ext;lia
 case h=>unfold aP;simp;lia
 case d=>
  obtain⟨i,hi,rfl⟩:=A3.mp hk;have hi:=Ad.mp hi;obtain⟨r1,_,a,ea,sa⟩:=at' i 1 hi (by decide);obtain⟨r0,_,b,eb,sb⟩:=at' i 0 hi (by decide);rw[show(i:Int)-(0:Nat)=i by lia]at r0 eb;ext
  ·exact r1
  ·exact r0
  ·exact⟨a,b,c,ea,eb,ec,sa,sb,sc⟩
 case v=>
  rw[Az,List.all_map,List.all_eq_true];unfold aP zvbs;have key:∀k,k<L.length->(tn (t3 (ix L ((k:Int)-1))) (t3 (ix L (k:Int))) (t3 s) > 0↔0<tn (t3 (L.getD (bk L.length k 1) [])) (t3 (L.getD k [])) (t3 s)):=λk hk=>by
   have e1:=(at' k 1 hk (by decide)).2.1;rw[show((1:Nat):Int)=1 from rfl]at e1;rw[e1,iw hk]
  exact⟨λh k hk=>(key k hk).mp (Eb (h (k:Int) (A3.mpr ⟨k,Ad.mpr hk,rfl⟩))),λh x hx=>by
   obtain⟨k,hk,rfl⟩:=A3.mp hx;have hk:=Ad.mp hk;exact BG ((key k hk).mpr (h k hk))⟩
instance:dI C "land_at" 5 (ai zvac) zvbw:=by
 refine No 50 ?_;rintro _ _ ⟨L,land,Y,p,⟨⟨im,l60,dl⟩,⟨yl,py,hp⟩,L1,acU⟩,rfl,rfl⟩;obtain⟨R,la⟩:=iC im;have eR:=jL la;rw[eR]at L1 acU;have wq:∀{q:Spot},P2 q->FV q++[dO q]=wr q:=λh=>UK h (C4 h.fq) (iQ.n6 h.fq.pos).2.1;have fd:∀{q:Spot},P2 q->Xg 900 (Sq.mk (α:=Int×Int) q):=λh=>⟨⟨9000,h.fq,by decide⟩,by rw[show List.length _=2 from h.len];decide⟩;subst "at";show Gs _ _ [.sh _,.sh _,.sh _,.sh _,.un,.un,.un] _ _
 refine' aN (u':=Y.map λq:Spot=>wr q) (Ef.ev (iH (α:=Spot) (λq:Spot=>FV q++[dO q]) (mh ae) (λq hq _ _ _ _ _=>?d1) ?e1)) (EU λq hq=>wq (py q hq)) ?_
 case d1=>ext;exact fd (py _ hq)
 case e1=>lia
 refine' jy (xs:=enum R) (λj e=>(∀i,i<j->(!decide ((i:Int)=land)&&FQ (zvbs (zvbu Y (R.getD i [])) (wr p)))=false)/\∃s t:Sl,e=[.sh (is L),.sh (is land),.sh (is Y),.sh (is p),.sh (is (Y.map λq:Spot=>wr q)),s,t]) (ei_enum (Ev.eq (az (aa ae av) (gY ⟨im,l60,dl⟩)) eR)) ⟨λi h=>absurd h (Nat.not_lt_zero _),_,_,rfl⟩ ?b1 ?c1
 case c1=>
  rintro _ ⟨no,s,t,rfl⟩
  refine' iA zvbc ?w
  show(none:Option Int)=zvbv (fT L) land Y p;rw[eR];unfold zvbv;rw[List.find?_range_eq_none.mpr λi hi=>by rw[no i (by unfold enum;simpa using hi)];rfl]
  rfl
 case b1=>
  rintro i x r _ hx ⟨no,s,t,rfl⟩;obtain⟨r',hr,e⟩:=iF.mp hx;cases e
  have il:=(AA.mp hr).1;have rm:=A5 hr;have eg:R.getD i []=r:=by rw[su,hr];rfl
  have yw:∀y∈r,ix (Y.map λq:Spot=>wr q) y=wr (Y.getD y.toNat ([]:List (Int×Int))):=λy hy=>by
   have:=(L1 r rm).2 y hy;have e:y=((y.toNat:Nat):Int):=by lia
   have:ix (Y.map λq:Spot=>wr q) ((y.toNat:Nat):Int)=(Y.map λq:Spot=>wr q).getD y.toNat Rp.dflt:=cH (by rw[ZO];lia);rw[<-e]at this;have gy:∀z:Spot,Y.getD y.toNat z=Y[y.toNat]'(by lia):=λz=>by rw[su,me (by lia)];rfl
   rw[this,su,AY,me (by lia)];exact A4 (λq:Spot=>wr q) (gy []).symm
  refine' bT (k:=!decide ((i:Int)=land)&&FQ (zvbs (zvbu Y r) (wr p))) (Jm (BA (iD ae ae ow_neI) λ_=>wQ (BE (az (aa (Ev.eq (Ef.ev (iH (λy=>ix (Y.map λq:Spot=>wr q) y) (mh ae) (λy hy _ _ _ _ _=>?u1) ?u2)) (EU yw)) (aa (Ev.eq (az (aa (Ev.sqS ae) av) (gY (fd hp))) (wq hp)) av)) (oy (u:=zvbu Y r) (u2:=wr p) ?u5))))) (λh=>iA (Ev.some ae) ?v) λh=>aj ⟨λj hj=>?w2,_,_,rfl⟩
  case u1=>ext;have:=(L1 r rm).2 _ hy;rw[ZO];exact⟨by lia,by lia⟩
  case u2=>have:=(L1 r rm).1;lia
  case u5=>
   refine⟨λl hl=>?_,UJ hp,by unfold zvbu;rw[ZO];have:=(L1 r rm).1;lia⟩;obtain⟨y,hy,rfl⟩:=A3.mp hl;exact UJ (py _ (bh (by have:=(L1 r rm).2 y hy;lia)))
  case v=>
   show some (i:Int)=zvbv (fT L) land Y p;rw[eR];unfold zvbv;rw[List.find?_range_eq_some.mpr ⟨by rw[eg];exact h,Ad.mpr il,λj hj=>by rw[no j hj];rfl⟩]
   rfl
  case w2=>
   by_cases z:j=i
   ·rw[z,eg];exact h
   ·exact no j (by lia)
instance:dI C "_law_slant" 1 (ai zvad) zvbC:=by
 refine No 67 ?_;rintro _ _ ⟨hd,h6,hr,rfl,rfl⟩;have at':∀k:Nat,k<6->(-(hd.length:Int)<=(k:Int)/\(k:Int)<hd.length)/\0<=ix hd (k:Int)/\ix hd (k:Int)<10 ^ 61:=λk hk=>⟨by lia,by rw[show ix hd (k:Int)=hd.getD k 0 from wA (by lia)];exact hr _ (bh (by lia))⟩;obtain⟨p,hp⟩:∃p,p=1+ix hd 0%4:=⟨_,rfl⟩;obtain⟨q,hq⟩:∃q,q=ix hd 1%9-4:=⟨_,rfl⟩;obtain⟨r,xR⟩:∃r,r=ix hd 2%9-4:=⟨_,rfl⟩;obtain⟨s,hs⟩:∃s,s=q*r / p+1+ix hd 3%3:=⟨_,rfl⟩;obtain⟨f,hf⟩:∃f,f=ix [(9:Int),1000000000000000000] (ix hd 0 / 4%2):=⟨_,rfl⟩;have p4:1<=p/\p<=4:=by lia
 have q4 : -4<=q/\q<=4:=by lia
 have r4 : -4<=r/\r<=4:=by lia
 have f0:f=9\/f=1000000000000000000:=by
  rcases(show ix hd 0 / 4%2=0\/ix hd 0 / 4%2=1 by lia)with e|e
  ·left;rw[hf,e];rfl
  ·right;rw[hf,e];rfl
 have qr : -16<=q*r/\q*r<=16:=by
  rcases(show q=-4\/q=-3\/q=-2\/q=-1\/q=0\/q=1\/q=2\/q=3\/q=4 by lia)with e|e|e|e|e|e|e|e|e<;>rw[e]<;>lia
 have dv:=Int.lt_mul_ediv_self_add (x:=q*r) (show 0<p by lia);have dl:=Int.mul_ediv_self_le (x:=q*r) (show p≠0 by lia);have sb : -16<=q*r / p/\q*r / p<=16:=by
  generalize q*r / p=t at *;constructor
  ·refine Int.not_lt.mp λz=>?_;have:=Int.mul_le_mul_of_nonneg_left (show t+1<=-16 by lia) (show 0<=p by lia);rw[Int.mul_add,Int.mul_one]at this
   lia
  ·refine Int.not_lt.mp λz=>?_;have:=Int.mul_le_mul_of_nonneg_left (show 17<=t by lia) (show 0<=p by lia)
   lia
 have det:0<p*s-q*r:=by
  rw[hs];have:=LI (show 0<=p by lia) (show 0<=ix hd 3%3 by lia);rw[Int.mul_add,Int.mul_add,Int.mul_one]
  lia
 subst "at";show Gs _ _ [.sh _,.un,.un,.un,.un,.un,.un] _ _
 refine' aN (u':=p) ?a1 hp.symm ?_
 case a1=>ext;all_goals first|lia|exact⟨by lia,by lia⟩
 refine' aN (u':=q) ?a2 hq.symm ?_
 case a2=>ext;all_goals first|lia|exact⟨by lia,by lia⟩
 refine' aN (u':=r) ?a3 xR.symm ?_
 case a3=>ext;all_goals first|lia|exact⟨by lia,by lia⟩
 refine' aN (u':=s) ?a4 hs.symm ?_
 case a4=>
  ext
  ·exact mulL (by lia) (by lia)
  ·exact fL (by lia) (by lia)
  ·exact⟨by lia,by lia⟩
  ·lia
 refine' aN (u':=f) (bG (Ef.ev (kL (fK au (fK (Ev.eq (aL au au (v9 ⟨by decide,by decide,by decide⟩)) (by decide)) kK)) (show 2<=1000 by decide))) ?a6 (ix_l ?a7)) hf.symm ?_
 case a6=>
  ext
  ·exact⟨by lia,by lia⟩
  ·exact fL (by decide) (by decide)
  ·decide
 case a7=>exact⟨by simp;lia,by simp;lia⟩
 refine' aN (u':=ix hd 4%(2*f+1)-f) ?a8 rfl ?_
 case a8=>ext;all_goals first|lia|exact⟨by lia,by lia⟩|exact mulL (by decide) (by decide)
 refine' cg (u:=Tp.mk [p,q,r,s,ix hd 4%(2*f+1)-f,ix hd 5%(2*f+1)-f]) (zvbe (fK ae (fK ae (fK ae (fK ae (fK ae (fK ?b1 kK)))))) (show 6<=1000 by decide)) ⟨⟨p,q,r,s,ix hd 4%(2*f+1)-f,ix hd 5%(2*f+1)-f⟩,⟨?b2,?b3,det⟩,rfl⟩
 case b1=>ext;all_goals first|lia|exact⟨by lia,by lia⟩|exact mulL (by decide) (by decide)
 case b2=>intro x hx;simp only[BX,Bn,Bu]at hx;rcases hx with rfl|rfl|rfl|rfl<;>lia
 case b3=>
  have g:∀z:Int,-10 ^ 18<=z%(2*f+1)-f/\z%(2*f+1)-f<=10 ^ 18:=λz=>by
   have:=FI z (show 2*f+1≠0 by lia);have:=FK z (show 0<2*f+1 by lia)
   lia
  intro x hx;rcases BX.mp hx with rfl|hx
  ·exact g _
  ·rw[Ax.mp hx];exact g _
instance:dI C "_law_led" 4 (ai zvae) zvbD:=by
 refine No 68 ?_;rintro _ _ ⟨w,s,ok,hs,rfl,rfl⟩;obtain⟨zp,zq,zr,zs,za,zu⟩:=ok.sz;have o1:∀{n:Nat},0<n->Sz n (1:Int):=λh=>Nat.one_lt_two_pow (by lia);have l2:=hs.1.len;have m0:cE s∈(show List (Int×Int)from s):=bh (by rw[show List.length (α:=Int×Int) s=2 from l2];decide);have m1:cW s∈(show List (Int×Int)from s):=bh (by rw[show List.length (α:=Int×Int) s=2 from l2];decide);have t:∀{a:Int} {f:Int×Int},Sz 5 a->f∈(show List (Int×Int)from s)->(0<((a,1):Int×Int).2/\0<f.2)/\Sz 8100 ((a,1):Int×Int).1/\Sz 8100 ((a,1):Int×Int).2/\Sz 900 f.1/\Sz 900 f.2:=λza m=>⟨⟨(show(0:Int)<1 by decide),(hs.1.low _ m).1⟩,za.mono (by decide),o1 (by decide),(hs.2 _ m).1.mono (by decide),(hs.2 _ m).2.mono (by decide)⟩;obtain⟨x1,x2,x3,x4,_⟩:=zva6 zp zq za hs;obtain⟨y1,y2,y3,y4,_⟩:=zva6 zr zs zu hs;subst "at";show Gs _ _ [.sh _,.sh _,.un,.un,.un,.un,.un,.un,.un,.un] _ _
 refine' zvbk (us:=w.l) ae (zvbi (zvbi (zvbi (zvbi (zvbi (zvbi zvbh)))))) rfl ?_
 show Gs _ _ [.sh (is (Tp.mk w.l)),.sh (is s),.sh (is w.p),.sh (is w.q),.sh (is w.r),.sh (is w.s),.sh (is w.a),.sh (is w.u),.un,.un] _ _
 refine' eC (az (aa (Fe (aa ae (aa au av))) (aa (bG ae au (ix_s0 l2)) av)) (oy (u:=(w.p,(1:Int))) (u2:=cE s) (t zp m0))) ?_
 refine' eC (az (aa ae (aa (az (aa (Fe (aa ae (aa au av))) (aa (bG ae au (ix_s1 l2)) av)) (oy (u:=(w.q,(1:Int))) (u2:=cW s) (t zq m1))) av)) (oy (u:=zvby (w.p,1) (cE s)) (u2:=zvby (w.q,1) (cW s)) ⟨⟨x1.1.1,x2.1.1⟩,x1.2.1.mono (by decide),x1.2.2.mono (by decide),x2.2.1.mono (by decide),x2.2.2.mono (by decide)⟩)) ?_
 refine' eC (az (aa (Fe (aa ae (aa au av))) (aa (bG ae au (ix_s0 l2)) av)) (oy (u:=(w.r,(1:Int))) (u2:=cE s) (t zr m0))) ?_
 refine' eC (az (aa ae (aa (az (aa (Fe (aa ae (aa au av))) (aa (bG ae au (ix_s1 l2)) av)) (oy (u:=(w.s,(1:Int))) (u2:=cW s) (t zs m1))) av)) (oy (u:=zvby (w.r,1) (cE s)) (u2:=zvby (w.s,1) (cW s)) ⟨⟨y1.1.1,y2.1.1⟩,y1.2.1.mono (by decide),y1.2.2.mono (by decide),y2.2.1.mono (by decide),y2.2.2.mono (by decide)⟩)) ?_
 refine' nG (wR (aa (az (aa ae (aa (Fe (aa ae (aa au av))) av)) (oy (u:=zvbz (zvby (w.p,1) (cE s)) (zvby (w.q,1) (cW s))) (u2:=(w.a,(1:Int))) ⟨⟨x3.1.1,(show(0:Int)<1 by decide)⟩,x3.2.1.mono (by decide),x3.2.2.mono (by decide),za.mono (by decide),o1 (by decide)⟩)) (aa (az (aa ae (aa (Fe (aa ae (aa au av))) av)) (oy (u:=zvbz (zvby (w.r,1) (cE s)) (zvby (w.s,1) (cW s))) (u2:=(w.u,(1:Int))) ⟨⟨y3.1.1,(show(0:Int)<1 by decide)⟩,y3.2.1.mono (by decide),y3.2.2.mono (by decide),zu.mono (by decide),o1 (by decide)⟩)) av)))
instance:dI C "_law_middle" 4 (ai sG) zvbE:=by
 refine No 69 ?_;rintro _ _ ⟨Z,r,hz,⟨r0,r8⟩,rg,rfl,rfl⟩;have yat:∀y:Int,0<=y->y<Z.length->ix (α:=Spot) Z y=Z.getD y.toNat ([]:List (Int×Int))/\zvbB (ix (α:=Spot) Z y):=λy a b=>by
  have e:y=((y.toNat:Nat):Int):=by lia
  have:ix (α:=Spot) Z ((y.toNat:Nat):Int)=Z.getD y.toNat Rp.dflt:=cH (by lia);rw[<-e]at this;exact⟨this,by rw[this];exact hz _ (bh (by lia))⟩
 have o1:∀{n:Nat},0<n->Sz n (1:Int):=λh=>Nat.one_lt_two_pow (by lia);subst "at";show Gs _ _ [.sh _,.sh _,.un,.un,.un] _ _
 refine' eC (Fe (aa au (aa au av))) ?_
 refine' eC (Fe (aa au (aa au av))) ?_
 refine' c8 (xs:=r) (λj e=>∃(x y:Int×Int) (s:Sl),e=[.sh (is Z),.sh (is r),.sh (is x),.sh (is y),s]/\((Dt.Lw x/\Sz (881*j+2) x.1/\Sz (881*j+2) x.2)/\Dt.qt x=((r.take j).map (qx Z)).sum)/\(Dt.Lw y/\Sz (881*j+2) y.1/\Sz (881*j+2) y.2)/\Dt.qt y=((r.take j).map (qy Z)).sum) (mh ae) ⟨(0,1),(0,1),_,rfl,⟨⟨⟨by decide,by decide⟩,(by unfold Sz;decide),(by unfold Sz;decide)⟩,(by show(0:Rat) / 1=0;decide +kernel)⟩,⟨⟨by decide,by decide⟩,(by unfold Sz;decide),(by unfold Sz;decide)⟩,(by show(0:Rat) / 1=0;decide +kernel)⟩ ?d1 ?d2
 case d1=>
  rintro j v _ hj ⟨x,y,s,rfl,⟨⟨lx,x1,x2⟩,ex⟩,⟨ly,y1,y2⟩,ey⟩;have vm:=rg v (A5 hj);obtain⟨e,pq,sq⟩:=yat v vm.1 vm.2;have m0:cE (ix (α:=Spot) Z v)∈(show List (Int×Int)from ix (α:=Spot) Z v):=bh (by rw[show List.length (α:=Int×Int) (ix (α:=Spot) Z v)=2 from pq.len];decide);have m1:cW (ix (α:=Spot) Z v)∈(show List (Int×Int)from ix (α:=Spot) Z v):=bh (by rw[show List.length (α:=Int×Int) (ix (α:=Spot) Z v)=2 from pq.len];decide);have a:=zva3 lx.1 (pq.low _ m0).1 x1 x2 (sq _ m0).1 (sq _ m0).2;have b:=zva3 ly.1 (pq.low _ m1).1 y1 y2 (sq _ m1).1 (sq _ m1).2;have jr:=(AA.mp hj).1
  refine' eC (az (aa ae (aa (bG (bG ae ae (ix_l ?e1)) au (ix_s0 pq.len)) av)) (oy (u:=x) (u2:=cE (ix (α:=Spot) Z v)) ⟨⟨lx.1,(pq.low _ m0).1⟩,x1.mono (by lia),x2.mono (by lia),(sq _ m0).1.mono (by decide),(sq _ m0).2.mono (by decide)⟩)) ?_
  case e1=>exact⟨by lia,vm.2⟩
  refine' eC (az (aa ae (aa (bG (bG ae ae (ix_l ?e2)) au (ix_s1 pq.len)) av)) (oy (u:=y) (u2:=cW (ix (α:=Spot) Z v)) ⟨⟨ly.1,(pq.low _ m1).1⟩,y1.mono (by lia),y2.mono (by lia),(sq _ m1).1.mono (by decide),(sq _ m1).2.mono (by decide)⟩)) ?_
  case e2=>exact⟨by lia,vm.2⟩
  refine aj ⟨_,_,_,rfl,⟨⟨a.1.1,a.1.2.1.mono (by lia),a.1.2.2.mono (by lia)⟩,?_⟩,⟨b.1.1,b.1.2.1.mono (by lia),b.1.2.2.mono (by lia)⟩,?_⟩
  ·rw[U3 hj,<-ex];refine Eq.trans a.2 ?_;rw[e];rfl
  ·rw[U3 hj,<-ey];refine Eq.trans b.2 ?_;rw[e];rfl
 case d2=>
  rintro _ ⟨x,y,s,rfl,⟨⟨lx,x1,x2⟩,ex⟩,⟨ly,y1,y2⟩,ey⟩;rw[F6]at ex ey;have n0:(0:Int)<r.length:=by lia
  have sn:Sz 4 (r.length:Int):=by unfold Sz;lia
  have a:=zva2 (g:=(1,(r.length:Int))) lx.1 n0 x1 x2 (o1 (show 0<4 by decide)) sn;have b:=zva2 (g:=(1,(r.length:Int))) ly.1 n0 y1 y2 (o1 (show 0<4 by decide)) sn
  refine' cg (u:=([zvby x (1,(r.length:Int)),zvby y (1,(r.length:Int))]:List (Int×Int))) (wR (aa (az (aa ae (aa (Fe (aa au (aa (nO (Ev.el ae)) av))) av)) (oy (u:=x) (u2:=(1,(r.length:Int))) ⟨⟨lx.1,n0⟩,?f1⟩)) (aa (az (aa ae (aa (Fe (aa au (aa (nO (Ev.el ae)) av))) av)) (oy (u:=y) (u2:=(1,(r.length:Int))) ⟨⟨ly.1,n0⟩,?f2⟩)) av))) ?f3
  case f1=>exact⟨x1.mono (by lia),x2.mono (by lia),o1 (by decide),sn.mono (by decide)⟩
  case f2=>exact⟨y1.mono (by lia),y2.mono (by lia),o1 (by decide),sn.mono (by decide)⟩
  case f3=>
   have all:∀f∈[zvby x (1,(r.length:Int)),zvby y (1,(r.length:Int))],Dt.Lw f/\Sz 9000 f.1/\Sz 9000 f.2:=λf hf=>by
    rcases BX.mp hf with rfl|hf
    ·exact⟨a.1.1,a.1.2.1.mono (by lia),a.1.2.2.mono (by lia)⟩
    ·rw[Ax.mp hf];exact⟨b.1.1,b.1.2.1.mono (by lia),b.1.2.2.mono (by lia)⟩
   have nz:(r.length:Rat)≠0:=λz=>by
    have:=Rat.natCast_inj.mp (z.trans (show(0:Rat)=((0:Nat):Rat)from rfl))
    lia
   have inv:Dt.qt ((1:Int),(r.length:Int))=1 / (r.length:Rat):=by
    show((1:Int):Rat) / (((r.length:Nat):Int):Rat)=_;rw[Mj];rfl
   have cal:∀{s t:Rat},t=s*(1 / (r.length:Rat))->(r.length:Rat)*t=s:=λ{s t} e=>by rw[e];grind
   refine⟨⟨rfl,⟨λf hf=>(all f hf).1.1,λf hf=>(all f hf).2.1,λf hf=>(all f hf).2.2⟩,λf hf=>(all f hf).1⟩,cal ?_,cal ?_⟩
   ·rw[<-ex,<-inv];exact a.2
   ·rw[<-ey,<-inv];exact b.2
instance:dI C "right" 5 (ai zvab) zvbH:=by
 refine No 49 ?_;rintro _ _ ⟨L,land,Y,⟨⟨im,l60,dl⟩,⟨yl,py⟩,L1,acU⟩,rfl,rfl⟩;obtain⟨R,la⟩:=iC im;have eR:=jL la;rw[eR]at L1 acU;have wq:∀{q:Spot},P2 q->FV q++[dO q]=wr q:=λh=>UK h (C4 h.fq) (iQ.n6 h.fq.pos).2.1;have fd:∀{q:Spot},P2 q->Xg 900 (Sq.mk (α:=Int×Int) q):=λh=>⟨⟨9000,h.fq,by decide⟩,by rw[show List.length _=2 from h.len];decide⟩;subst "at";show Gs _ _ [.sh _,.sh _,.sh _,.un,.un,.un,.un] _ _
 refine' aN (u':=Y.map λq:Spot=>wr q) (Ef.ev (iH (α:=Spot) (λq:Spot=>FV q++[dO q]) (mh ae) (λq hq _ _ _ _ _=>?d1) ?e1)) (EU λq hq=>wq (py q hq)) ?_
 case d1=>ext;exact fd (py _ hq)
 case e1=>lia
 refine' jy (xs:=enum R) (λj e=>(∀i r,i<j->R[i]?=some r->P4 (zvbF Y land i r))/\∃s t u:Sl,e=[.sh (is L),.sh (is land),.sh (is Y),.sh (is (Y.map λq:Spot=>wr q)),s,t,u]) (ei_enum (Ev.eq (az (aa ae av) (gY ⟨im,l60,dl⟩)) eR)) ⟨λi r h=>absurd h (Nat.not_lt_zero _),_,_,_,rfl⟩ ?b1 ?c1
 case c1=>
  rintro _ ⟨no,s,t,u,rfl⟩
  refine' iA WN (kW ?w).symm
  rw[eR];intro i r hr;exact no i r (by unfold enum;simpa using (AA.mp hr).1) hr
 case b1=>
  rintro i x r _ hx ⟨no,s,t,u,rfl⟩;obtain⟨r',hr,e⟩:=iF.mp hx;cases e
  have il:=(AA.mp hr).1;have rm:=A5 hr;have yw:∀y∈r,ix (Y.map λq:Spot=>wr q) y=wr (Y.getD y.toNat ([]:List (Int×Int))):=λy hy=>by
   have:=(L1 r rm).2 y hy;have e:y=((y.toNat:Nat):Int):=by lia
   have:ix (Y.map λq:Spot=>wr q) ((y.toNat:Nat):Int)=(Y.map λq:Spot=>wr q).getD y.toNat Rp.dflt:=cH (by rw[ZO];lia);rw[<-e]at this;have gy:∀z:Spot,Y.getD y.toNat z=Y[y.toNat]'(by lia):=λz=>by rw[su,me (by lia)];rfl
   rw[this,su,AY,me (by lia)];exact A4 (λq:Spot=>wr q) (gy []).symm
  have w3:∀l∈zvbu Y r,l.length=3/\∀x∈l,Sz 30000 x:=λl hl=>by
   obtain⟨y,hy,rfl⟩:=A3.mp hl;exact UJ (py _ (bh (by have:=(L1 r rm).2 y hy;lia)))
  have wl:(zvbu Y r).length<=128:=by unfold zvbu;rw[ZO];exact(L1 r rm).1
  refine' jx (xs:=r) (ys:=zvbu Y r) (λy=>ix (Y.map λq:Spot=>wr q) y) (mh ae) (λy hy _ _ _ _ _=>?u1) ?u2 (EU yw) ?_
  case u1=>ext;have:=(L1 r rm).2 _ hy;rw[ZO];exact⟨by lia,by lia⟩
  case u2=>have:=(L1 r rm).1;lia
  refine bF (i:=6) ?_
  refine' cI (k:=decide ((i:Int)=land)) (λe=>e=[.sh (is L),.sh (is land),.sh (is Y),.sh (is (Y.map λq:Spot=>wr q)),.sh (is (i:Int)),.sh (is r),.sh (is (zvbF Y land i r))]) (by ext) (λz=>?v1) (λz=>?v2) ?_
  case v1=>
   refine' bP (Ef.eqL (ys:=zvbF Y land i r) (zvbm (Ev.el ae) (wU au)) ?v3) ?v4
   case v3=>unfold zvbF;rw[Al (Eb z)]
   case v4=>
    refine bF (i:=6) ?_;exact aj rfl
  case v2=>exact aj (by unfold zvbF;rw[Ak (Hu z)];rfl)
  rintro _ rfl
  refine' bT (k:=!FQ (P4 (zvbF Y land i r))) (BF (BE (az (aa ae av) (gY (u:=zvbF Y land i r) (F:=λL=>FQ (P4 L)) ⟨?g1,?g2⟩)))) (λh=>iA WN ?g3) λh=>aj ⟨λj r' hj hq=>?g4,_,_,_,rfl⟩
  case g1=>unfold zvbF;split<;>intro l hl<;>first|exact w3 l hl|exact w3 l (GV.mp hl)
  case g2=>unfold zvbF;split<;>(try rw[Gz])<;>lia
  case g3=>
   refine(uV λz=>?_).symm;rw[eR]at z;rw[kW (z i r hr)]at h;cases h
  case g4=>
   by_cases z:j=i
   ·subst z;rw[hr]at hq;cases hq
    rw[Bool.not_eq_false']at h;exact jF.mp h
   ·exact no j r' (by lia) hq
def D4(K:PySem.W.Frag)(cs:List Cell)(c:Cell):Prop:=∃ns:List Int,ns.length<=63/\cs=[fz K ns]/\c=is true
theorem RM{fa:Addr}{fd:FuncData}(F:P5 C.K "law" "law" pU fa fd):oK C.P C.w C.K C.mg C.base (Ah C.P C.w) 12 fa fd (ai pU) (FT (D4 C.K)):=by
 refine okA (k:=11) F ?_;rintro _ _ ⟨ns,ug,rfl,rfl⟩;subst "at";show Gs _ _ [.sh _,.un,.un,.un,.un,.un,.un,.un,.un,.un,.un] _ _
 refine' c7 (az (aa ae (aa au av)) ⟨ns,15,ug,by decide,by decide,rfl,rfl⟩) ?_
 rintro fs ⟨fl,fr⟩;have at':∀{i:Nat},i<15->-(fs.length:Int)<=(i:Int)/\(i:Int)<fs.length:=λh=>⟨by lia,by lia⟩;have rg:∀i:Nat,i<15->0<=ix fs (i:Int)/\ix fs (i:Int)<10 ^ 61:=λi hi=>by have:=C7 (i:=i) (by lia) fr;lia
 refine' c7 (f:=λL:List (List Int)=>b8 L/\L.length<=8) (zcW (zcW (f:=W6) (g:=W6) (az (aa ae av) ⟨fs,15,⟨fl,fr⟩,by decide,rfl,rfl⟩) (aa (bG ae au (ix_l (at' (i:=6) (by decide)))) av) λR ⟨n,n8,tr⟩=>⟨λR'=>TR R' n,⟨R,n,_,tr,by lia,rg 6 (by decide),rfl,rfl⟩,λR' QL=>⟨n,n8,QL⟩⟩) (aa (bG ae au (ix_l (at' (i:=7) (by decide)))) av) λR ⟨n,n8,tr⟩=>⟨λL=>b8 L/\L.length=n,⟨R,n,_,tr,by lia,rg 7 (by decide),rfl,rfl⟩,λL ⟨a,b⟩=>⟨a,by lia⟩⟩) ?_
 rintro L ⟨tg,l8⟩;have im:=tg.map;have dl:(cT L L.length).length<128:=zbj im (by lia);obtain⟨R,la⟩:=iC im;have eR:=jL la;have ld:=la.L1
 refine' aN (u':=R) (az (aa ae av) (gY ⟨im,by lia,dl⟩)) eR ?_
 have l4:=tg.A9 ld;have rl:=tg.many ld;obtain⟨land,IP,w1⟩:=fH (n:=ix fs ((8:Nat):Int)) (show 0<R.length by lia);have ho:R[land]?=some (R.getD land []):=zvaZ w1;have om:=A5 ho;have o3:=tg.three ld om;have os:=tg.small ld om;have L1:∀r∈R,r.length<=128/\∀x∈r,0<=x/\x<L.length:=λr rm=>⟨by have:=tg.small ld rm;lia,vL ld rm⟩
 refine' aN (u':=(land:Int)) (aL (bG ae au (ix_l (at' (i:=8) (by decide)))) (nO (Ev.el ae)) (ow_mod (show(0:Int)<R.length by lia))) IP ?_
 have Xv:(KG (R.getD land []).length).length=(R.getD land []).length:=(ZO (gD (R.getD land []).length)).trans Er
 refine' c7 (zcV (aa ae (aa ae av)) ⟨L,land,none,KG (R.getD land []).length,tg,l8,dl,by rw[eR];exact w1,by rw[eR];exact Xv.symm,.inr ⟨rfl,by rw[Xv]⟩,zva9 o3 (by lia),rfl,rfl⟩) ?_
 rintro Y dr;rw[eR]at dr;have nd:=vN tg la om;have ion:ix R (land:Int)=R.getD land []:=iw w1;generalize Si:R.getD land []=o at *;have yl:List.length (α:=Spot) Y=L.length:=dr.len;have s8:∀q∈Y,zvbB q:=λq hq=>⟨dr.p2 q hq,dr.s8 q hq⟩;have rgo:=(L1 o om).2;have yat:∀y:Int,0<=y->y<L.length->ix (α:=Spot) Y y=Y.getD y.toNat ([]:List (Int×Int))/\zvbB (ix (α:=Spot) Y y):=λy a b=>by
  have e:y=((y.toNat:Nat):Int):=by lia
  have:ix (α:=Spot) Y ((y.toNat:Nat):Int)=Y.getD y.toNat Rp.dflt:=cH (by lia);rw[<-e]at this;exact⟨this,by rw[this];exact s8 _ (bh (by lia))⟩
 have fx:∀p:List (Int×Int),P2 p->∃S,zvaO L R o Y S/\KJ S p:=λp hp=>by
  obtain⟨S,hS,hb⟩:=xE (Y:=p::Y) λq hq=>by
   rcases BX.mp hq with rfl|hq
   ·exact hp
   ·exact dr.p2 q hq
  exact⟨S,zvaO.of tg ld om dr hS λq hq=>hb q (A7 _ hq),hb p AO⟩
 refine' c7 (az (aa (Ef.ev (eG (Ev.el ae) (o8 au) o9)) av) ⟨part fs (some 9) none,?h6,?hr,rfl,rfl⟩) ?_
 case h6=>rw[show part fs (some (9:Int)) none=fs.drop 9 from aT fs 9,Ey,fl]
 case hr=>
  rw[show part fs (some (9:Int)) none=fs.drop 9 from aT fs 9];exact λx hx=>by have:=fr x (GK hx);lia
 rintro _ ⟨w,ok,rfl⟩;obtain⟨F,hF⟩:∃F:List Spot,F=o.map λv=>w.led (Y.getD v.toNat []):=⟨_,rfl⟩
 refine' jx (xs:=o) (ys:=F) (λy=>(w.led (ix (α:=Spot) Y y):Spot)) (mh (Ev.eq (bG ae ae (ix_l ⟨by lia,by lia⟩)) ion)) (λy hy _ _ _ _ _=>?f0) (by lia) ?f3 ?_
 case f0=>exact az (aa ae (aa (bG ae ae (ix_l ⟨by have:=rgo y hy;lia,by have:=rgo y hy;lia⟩)) av)) ⟨w,ix (α:=Spot) Y y,ok,(yat y (rgo y hy).1 (rgo y hy).2).2,rfl,rfl⟩
 case f3=>rw[hF];exact EU λy hy=>by rw[(yat y (rgo y hy).1 (rgo y hy).2).1]
 refine bF (i:=7) ?_;have fok:mI F:=by
  have e:F=(List.range o.length).map λi=>w.led (gD o.length i):=by
   rw[hF];have:F=(Zr Y o).map w.led:=by rw[hF];unfold Zr;rw[ED];rfl
   rw[<-hF,this,dr.fits nd Xv.symm];exact ED ..
  rw[e];exact ok.frame o3 (by lia)
 have fl':o.length=F.length:=by rw[hF];exact(ZO ..).symm
 refine' cI (k:=false) (λe=>e=[.sh (fz C.K ns),.sh (is fs),.sh (is L),.sh (is R),.sh (is (land:Int)),.sh (is (α:=List Spot) Y),.sh (is (Tp.mk w.l)),.sh (is (α:=List Spot) F),.un,.un,.un]) (Et.eq (iD (Ev.XY (α:=List Spot) (f:=λZ=>NQ L ((fT L).getD land []) F Z) (u:=Y.map w.led) (az (aa ae (aa ae (aa (Ev.some ae) av))) ⟨L,land,some F,F,tg,l8,dl,by rw[eR];exact w1,by rw[eR,Si];exact fl',.inl rfl,fok,rfl,rfl⟩) ?g1) (Ef.ev (iH (α:=Spot) (β:=Spot) (xs:=Y) (λq:Spot=>w.led q) (mh ae) (λq hq _ _ _ _ _=>?g0) ?g2)) (qw (show Dq.n _<=64 by decide))) (by simp;rfl)) (λh=>by cases h) (λ_=>aj rfl) ?_
 case g0=>exact az (aa ae (aa ae av)) ⟨w,q,ok,s8 q hq,rfl,rfl⟩
 case g1=>
  intro Z' dr';rw[eR,Si,hF]at dr';exact ok.uniq im tg.bM.gu nd (λz=>by rw[z]at o3;simp at o3) rgo dr dr'
 case g2=>lia
 rintro _ rfl
 refine' jy (xs:=enum R) (λ_ e=>∃s t u:Sl,e=[.sh (fz C.K ns),.sh (is fs),.sh (is L),.sh (is R),.sh (is (land:Int)),.sh (is (α:=List Spot) Y),.sh (is (Tp.mk w.l)),.sh (is (α:=List Spot) F),s,t,u]) (ei_enum ae) ⟨_,_,_,rfl⟩ ?b1 ?c1
 case c1=>
  rintro _ ⟨s,t,u,rfl⟩;obtain⟨S,hS,hb⟩:=xE (Y:=Y) dr.p2;have h:=zvaO.of tg ld om dr hS hb;exact iA (az (aa ae (aa ae (aa ae av))) (Py (u:=L) (u2:=(land:Int)) (f:=Y) ⟨⟨im,by lia,dl⟩,⟨yl,dr.p2⟩,by rw[eR];exact L1,by rw[eR];lia⟩)) (kW (by rw[eR];exact h.rgt ho))
 case b1=>
  rintro i x r _ hx ⟨s,t,u,rfl⟩;obtain⟨r',hr,e⟩:=iF.mp hx;cases e
  have il:=(AA.mp hr).1;have rm:=A5 hr;have eg:R.getD i []=r:=by rw[su,hr];rfl
  refine' bT (k:=!decide ((i:Int)=land)) (iD ae ae ow_neI) (λz=>?v1) λz=>aj ⟨_,_,_,rfl⟩
  rw[Bool.not_eq_true',N8]at z;have r3:=tg.three ld rm;have rs:=tg.small ld rm
  refine' c7 (az (aa ae (aa ae av)) ⟨Y,r,s8,⟨by lia,by lia⟩,λx hx=>by rw[yl];exact(L1 r rm).2 x hx,rfl,rfl⟩) ?_
  rintro p ⟨hp,mx,my⟩;obtain⟨S,h,bp⟩:=fx p hp;have ne:r≠o:=λq=>z (by have:=zvaT ld hr (q▸ho);lia);have hit:=h.hit ho hp bp il (by lia) (eg▸h.mids rm ne hp bp mx my)
  refine' bT (k:=false) (Et.eq (iD (Ev.Av (α:=Int) (Ev.eq (az (aa ae (aa ae (aa ae (aa ae av)))) (WI (f:=p) ⟨⟨im,by lia,dl⟩,⟨yl,dr.p2,hp⟩,by rw[eR];exact L1,by rw[eR];lia⟩)) (by rw[eR];exact hit))) ae ow_neI) (by simp)) (λh=>by cases h) λ_=>aj ⟨_,_,_,rfl⟩
end
end rY
namespace rY
open PySem L2 Fr Gm Fw Pu
open Dt (dO e7 pd dR kD)
open iQ (V3 l3 S3 tn)
theorem yb1{α:Type}{u:List α}(h:u.z=1):∃a:α,u=[a]:=by
 match u,h with
 | [a],_=>exact#[a,rfl]
theorem yb2{α:Type}{u:List α}(h:u.z=2):∃a b:α,u=[a,b]:=by
 match u,h with
 | [a,b],_=>exact#[a,b,rfl]
theorem yb3{α:Type}{u:List α}(h:u.z=3):∃a b c:α,u=[a,b,c]:=by
 match u,h with
 | [a,b,c],_=>exact#[a,b,c,rfl]
theorem yb4{α:Type}{u:List α}(h:u.z=4):∃a b c d:α,u=[a,b,c,d]:=by
 match u,h with
 | [a,b,c,d],_=>exact#[a,b,c,d,rfl]
def zP(i:Nat):Prop:=∀(kV o L:Value) (x:Option Addr) (A ct:Value) (us:bc),us.z=(ai<|top i).z->bindArgs (PySem.W.fnOf (nameOf<|top i) (nameOf<|top i) (bW<|top i) (bE<|top i) (aD<|top i) .none kV o L x A ct) #[us,[]]=pure ((ai<|top i).zip us)
theorem all_mk{l:PySem.W.OpenLaw}{h:Heap}{mg:bg}(X:K.In h)(G:h.Ns mainGlobals mg)(r:mg "law"=fa.j)(d:∀i∈J0q,DefIn K (nameOf<|top i)<|top i)(dd:DefDIn K "drawn"<|top 48)(dl:DefIn K "law" pU)(z:∀b∈Tv,PySem.W.nsIn K mainGlobals b=some none) :
  ∃y:FuncData,(∀(s:Shared) (v:Value),BindsTo s y #[[v],[]] [("_law_script",v)])/\∀base:Heap,K.In base->base.Ns mainGlobals mg->oK l.prog w K mg base (Ah l.prog w) 12 fa y ["_law_script"] (FT<|D4 K):=by
 let#[fn,E,t,F,J,p,g,j,q,k,x,I,B,C]:=dl.ex;let e:=r.symm.trans<|PySem.W.mg_of X G x;cases e;refine#[PySem.W.fnOf "law" "law" (bW pU) (bE pU) (aD pU) .none p g j t q k,λs v=>.of_eq rfl,λbase M N=>?_];let H:∀i∈J0q,zP i:=by
  repeat' (first|exact forall_mem_nil _|refine Ly.mpr #[?_,?_])
  all_goals
   ext _ _ _ _ _ _ us f;first
    | (obtain⟨a,rfl⟩:=yb1 f;rfl)
    | (obtain⟨a,b,rfl⟩:=yb2 f;rfl)
    | (obtain⟨a,b,c,rfl⟩:=yb3 f;rfl)
    | (obtain⟨a,b,c,d,rfl⟩:=yb4 f;rfl)
 let D:FG K mg "drawn" (top 48)<|ai<|top 48:=dd.dff X G
  (λ_ _ _ _ _ _ _ us f=>by let#[a,b,rfl]:=yb2 (u:=us)<|Nat.succ.inj f;exact#[_,rfl,rfl])
  (λ_ _ _ _ _ _ _ us f=>by let#[a,b,c,rfl]:=yb3 f;exact#[_,rfl,rfl])
 haveI:Env #[l.prog,w,K,mg,base]:={ n:=λb m=>PySem.W.mg_none_of X G<|z b m,d:=λi m=>(d i m).dfn X G<|H i m,dd:=D }
 exact RM<|Bs I B C
theorem walk{l:PySem.W.OpenLaw}{j:(Str->Option Value)->Heap->Prop}{d:DefRec}{K:Params->bb}(m:l.most=some 63)(k:d.params.defaults=[])(i:∀(w:World) (h:Heap),YP w h->(K w.params).In h)(F:∀(w:World) (mg:bg) (fa:Addr) (h:Heap),(K w.params).In h->h.Ns mainGlobals mg->mg d.name=fa.j->
   ∃c:FuncData,(∀(s:Shared) (u:Value),BindsTo s c #[[u],[]] [("_law_script",u)])/\∀base:Heap,(K w.params).In base->base.Ns mainGlobals mg->oK l.prog w (K w.params) mg base (Ah l.prog w) 12 fa c ["_law_script"] (FT<|D4<|K w.params)) :
  PySem.W.WalkO q loose j YP l.row.toRowW d [] (λf vs=>PySem.call f vs):=
 L2.zdT m A? k #[rfl,by decide,by decide] i F (λw H a b g _ e=>#[[fz (K w.params) b],is true,[],(λ_ h=>nomatch h),.cons #[a,rfl,zeG>>e] .nil,#[b,g,rfl,rfl],λv n _ h=>h]) λ_ _ _ _ _ z=>by let#[_,_,_,_,_,_,z]:=z;exact z
end rY
end
local macro_rules | `(universe $x*)=>do
 let t<-x.mapM λi=>`(theorem $(Lean.mkIdent (`PySem.W.Fast++.mkSimple ("tw"++(toString i.getId).toList.tail.asString))):ident:True:=trivial)
 return Lean.mkNullNode (t.map (·.raw))
universe a8434481365297779319 a11718388159834703435 a10338330821863454934 a2601201900464522637 a4282165070459103494 a7221708422589392149 a6750715217736611185 a6978182313240104667 a3179433034585030473 a6417994096614834253 a12490919241842747395 a8329574474304890931 a10691644614292943761 a9981979630898352943 a9183738680406156275 a2617580328224673753 a6880911636185751150 a2884541494581530649 a12815816272437371115 a15874258454371125622 a3771620189434363926 a10347319527867844633 a16392162867136353143 a13787702270278689456 a3297053739879086239 a9190039941809600471 a4613254969030305113 a8061694002512221730 a3413330701696209323 a8927521997303389727 a9185957883489609515 a17593210221593751137 a18054232229733724333 a10831146055084456112 a17420426603889309907 a14556823767737821597 a10480725853885466057 a2903763073805028518 a200309128284882131 a7737484953067079590 a9077418644648067957 a10441408299781625711 a12537887170629081278 a962887961773430417 a4864973086108523839 a7528783206931503550 a2039465872920369369 a17064756376950880258 a10476544665919555919 a7873586497297844286 a15374742958837511388 a7085295362059328624 a11450091278301915936 a8233692539750070698 a11604112380717832534 a4903164228104109983 a8172137927860529001 a14226133693720177547 a7006403043544494147 a7594005913526509703 a15560722933434492107 a2316897357722043837 a11550258773587264166 a8046071510859009130 a2949917481366232170 a549359375754068590 a4839678194652502705 a15899518724836712898 a1264322290016891170 a17995363069615091369 a13762164721696772533 a8917329194161433011 a10217913103230489352 a9771330326535582689 a9511976946714272566 a317440017016392324 a17012619482040301224 a10186011705280228352 a7560365923048801993 a6745876646852410298 a11104582218841783030 a5135814659733342860 a2750047464385031536 a1494499239831027712 a8107774808422387735 a6845562074822766285 a14938978073448272300 a12649450488450814495 a9798020455698356139 a4248552749523556453 a16000744222940871640 a17844509404801411699 a3172385192907913283 a14388105981607345252 a18156806949264378886 a9207918820992618293 a2983664057765071271 a13710151386305393152 a1954242206349484116 a6829808911554956896 a555879601243328958 a800989362952728351 a3460276245493714923 a503712909426499981 a510081394860456013 a739793099221096084 a4927569586660324164 a17017693549606727015 a2451285090784285366 a3589381823667510158 a6697932685206697023 a1926420074360521684 a594323087364859560 a6091035542051559202 a13784606057860490231 a18264940678514950783 a8362478221744080876 a15015263229856734441 a13097806278948064296 a15759105647031114131 a7061759401022394612 a12547871407619161211 a16499461820858549510 a967887590721162724 a17507709953144144762 a16348305124727707880 a8954010230908398119 a3327573277982679245 a17228257866046527604 a3627738942743613229 a16509680127984030398 a8628229290911691490 a2005329235086812906 a3005521056104786414 a16759357555218579672 a11794325498988482421 a11293993208919767460 a15884209485362967984 a17017407338398590700 a15302495112215128548 a13281869663959868449 a1424608580145556347 a9307820276332070687 a976485894173268662 a11295018700119555515 a7522999083245987305 a3558794023407903939 a4660260211377713481 a15682918784923511255 a11893517260314011253 a15558600211111641749 a3969737459427745038 a12512089361268824641 a13484296659770074862 a7517931873024650678 a14096028509450901210 a17544749955375514886 a11529379259836103181 a12259965619954265804 a9546788811384072512 a10643073534735115612 a9457939552475496526 a2183010739315516791 a17092325099666853217 a10566667322441119907 a3433714800250453831 a8615844713750693723 a3793820294695748858 a11104878424326765205 a3348344570801581027 a1235303185296916493 a16421851649701375848 a5381757585512266703 a12971151793416301711 a13304005774501707176 a7273137718254402384 a2507317180474572011 a16766454029569193417 a12856262936917771263 a17852537485099073704 a7758829495411785861 a11379003924074486765 a6902137255838318650 a6776887909206452778 a8510644094035017746 a13911014570062477654 a12643039601664444307 a12115622938787378022 a5098700396975874006 a2704258729560756849 a16000664699562508411 a13950037430285772834 a10591274936580446607 a6952116003681779740 a16610112139868158607 a6837434573180637432 a619042364235564466 a4745011567600923609 a18122077742844360546 a4781388890796126409 a5342780604517240401 a16112255209886795366 a12593493257608978379 a4843012413708318623 a3574827019595468050 a5162965234145564826 a14929912187246629949 a1491514094062133852 a10385482944265625060 a16904401912287996578 a12214517131628136098 a7760342653745187784 a11285827101422053347 a5366073744344587950 a5973318052530207549 a1846082687838712446 a9687469969134527272 a570665947625391751 a17497903842445278374 a14572791680933899026 a4239765523676695527 a15929659459343109575 a12638831630381202333 a351838393900502228 a6434964950430072674 a13580607238057024578 a16482041651735087429 a12291508729487006965 a8101523826850049799 a18112720726743574328 a17174120769000094193 a6938517169395607505 a10488672049427598039 a15150002573522806268 a6838576527305479695 a15360082824035916523 a6333093141473088027 a3453625477888274040 a2900802990088536268 a8315520742796081375 a15732326486389667784 a3830868458968996207 a4064221201869070769 a3887540261721236350 a11230640059791115504 a10173529362889924248 a9738513038488386315 a16935387366681774388 a5425386922804964267 a16024276699227364002 a2648828901667708042 a3597958457693496210 a9881426566837423926 a6427117620961464790 a16508006598628618871 a13188448672231202541 a1886068496712647129 a12977270949431531456 a13534551068252103960 a3494263447504030900 a11483350479037260484 a7204660882727257349 a17919610933417911353 a12027175739191582900 a2626887821946032239 a14330272374976391902 a16971613253890207442 a17989135853987525627 a17392195313448744973 a4995768883623563726 a18157480466000449272 a1597086122888608892 a12049036048595414577 a8974237961897921337 a5418199796278347786 a5160897647983618430 a14166865493112785633 a12455164824949745115 a9416151224250929427 a12525228689245842384 a8893478831760865000 a2535798814140039752 a18068879353609701546 a17117837998396816391 a785871555345007019 a3949427062622545654 a12573631727068387136 a14162998527598765054 a16490752284439730981 a14221943728900034105 a2784019307011138403 a8225652715547829878 a5496476609469197339 a4178743607434056781 a12152504865558625467 a1673262864976990723 a11412674853627493629 a16259986647094192905 a2319059896546100363 a9116068590437527830 a2815215525233884235 a9376730048267857665 a14177506925746827807 a11234667774846733983 a8541553570025547604 a10349759070415188796 a2015366607267770301 a13339783253958413608 a14274645300925455407 a10312468048804647365 a3796885423782952153 a6373294593515190877 a1984162179479973350 a16678122953160188197 a2448319322046428663 a6362172606973453989 a14638011448412663895 a9383959443386513430 a9178916713616071768 a15522701480345611537 a11602001907845804112 a3506733746476010392 a18122972076629682891 a8109376208694201883 a5223230578292663254 a78376647507160919 a10337996848570893891 a11414668155090105040 a15732519146350672846 a2919558415123487959 a8912184926662819032 a14197450222935067283 a8710156629878610360 a1307510441922956158 a4728976767992877343 a12624849405728367965 a9985856873335796697 a4253827227480285086 a11309515345127449332 a15098076026462632943 a4508082899370427309 a7008831457995899718 a12666416327477342617 a9687618833661899729 a848842973908635934 a1303684126332518167 a2438147928437878624 a2769406776732452766 a1198841052276818574 a9243210710863317833 a5309024165035365351 a11079337606601119356 a5809109295058930498 a6428958575368738963 a12212766636480882872 a15950237398926241033 a5409684314606989408 a11037913495562577858 a7383272684553123668 a10784648610874830997 a1341920453950546270 a8330379234243058753 a6494770588752580432 a10405770728346053352 a16262294885761082136 a62628259435732289 a8508838534351262495 a7617465899907962135 a17299878391227894001 a2961812404468459747 a13345162790509885883 a5329614484544023025 a11083309799300667351 a17358157990287000409 a5570378498779757099 a742580562268534795 a3737344817363511744 a3462245891893734470 a8218343286884757627 a7864223003040472974 a3711847992378320971 a13607053946055478487 a1449547369903105622 a13611154591490654760 a5964185372102542926 a14441336344532552092 a15318910665438596554 a5618610821325151238 a525052070617657773 a5134928770485970036 a11952087848809763874 a2081232459818598456 a1774407213972111510 a900462544944504734 a3041364972085363936 a2749129441452838509 a8108542642993899270 a11592262636854448841 a710090767113905948 a6825843205176988079
local macro_rules | `(tactic| walk_at "d")=>`(tactic| (refine' L2.DefIn.mk0 ?a ?l ?c ?k;(case' a=>k_is);(case' l=>k_is);(case' c=>k_is);(case' k=>k_is)))
local macro_rules | `(tactic| walk_at "dd")=>`(tactic| (refine' L2.DefDIn.mk0 ?a ?l ?c ?k ?lt ?hd;(case' a=>k_is);(case' l=>k_is);(case' c=>k_is);(case' k=>k_is);(case' lt=>k_is);(case' hd=>rfl)))
open PySem PySem.W PyProof.Rows
set_option maxRecDepth 100000 in
set_option maxHeartbeats 0 in
theorem PySem.Challenge.cw_standup_k65_whole_frames_led_holds : PySem.Challenge.rw_standup_k65_whole_frames_led.Holds := by
 w_on;o_law;k_head;(case hw=>w_witness2)
 k_fill
 refine rY.walk (l:=PySem.Challenge.rw_standup_k65_whole_frames_led) rfl rfl (λw h Y=>PySem.W.kIn_of Y) ?F
 case F=>
  intro w mg fa h KX G Wj
  refine' rY.all_mk KX G Wj ?d ?dd ?dl ?z
  case dd=>walk_at "dd"
  case dl=>walk_at "d"
  case d=>
   repeat' (first|exact forall_mem_nil _|refine Ly.mpr ⟨?_,?_⟩)
   all_goals ((conv=>arg 2;whnf);walk_at "d")
  case z=>
   repeat' (first|exact forall_mem_nil _|refine Ly.mpr ⟨?_,?_⟩)
   all_goals k_is
