import PyProof.Rows.All
import PyProof.TupleKey
import PyProof.P3Eq
import PyProof.DictKinds
import Wide.All
import OpenK.AllK
import Wide.FinOn
import Lean
import PyProof.EqAt
import PyProof.EqKinds
import PyProof.TupleCall
import PyProof.StrBlockL
import PyProof.ListMulRoad
import PyProof.FactsAll.tuple
import KE.KTryMore
import OpenK.KOwn
import PyProof.ZipIter
import PyProof.ListNew
import KE.KRevIter
import KE.KIntText
import PyProof.StrLawsIn
import KE.LcSums
import PyProof.EnumStmt
import PyProof.AttrMissHeap
import KE.KDictOf
import PySem.Challenge.RW_evenkinds_k42_what_is_no_step
set_option Elab.async false
set_option maxHeartbeats 4000000
set_option compiler.extract_closed false
set_option genSizeOf false
set_option bootstrap.genMatcherCode false
set_option linter.all false
local macro_rules(kind:=Lean.Parser.Command.declaration)|s=>if s.getPos?.isSome then return s.rewriteBottomUp (·.setInfo .none) else Lean.Macro.throwUnsupported
local macro_rules|`(command|abbrev $i:declId $s:optDeclSig $v:declVal)=>Lean.MonadRef.withRef .missing `(command|noncomputable def $i:declId $s:optDeclSig $v:declVal)
local macro_rules|`(command|def $i:declId $b* :$t $v:declVal)=>Lean.MonadRef.withRef .missing `(command|noncomputable def $i:declId $b* :$t $v:declVal)
local macro_rules|`({$a:term,$b:term,*})=>`(⟨$a,$b,*⟩)
local macro_rules|`(tactic|let $p:term:=$e:term)=>do
 let g:Lean.Syntax->Lean.Syntax:=λs=>if s.getKind==Lean.choiceKind then (s.getArgs.find? (·.getKind != ``Lean.Parser.Term.structInst)).getD s else s
 let rec f:Nat->Lean.Syntax->Lean.MacroM (Lean.TSyntax ``Lean.Parser.Tactic.rcasesPatLo)
  |0,_=>Lean.Macro.throwUnsupported
  |n+1,s=>do
   let s:=g s
   if s.isIdent then let i:Lean.Ident:=⟨s⟩;`(Lean.Parser.Tactic.rcasesPatLo|$i:ident)
   else if s.getKind==``Lean.Parser.Term.hole then `(Lean.Parser.Tactic.rcasesPatLo|_)
   else if s.getKind==`«term{_}» then let l<-s[1].getSepArgs.mapM (f n);`(Lean.Parser.Tactic.rcasesPatLo|⟨$l,*⟩)
   else Lean.Macro.throwUnsupported
 let p:=g p
 if p.getKind != `«term{_}» then Lean.Macro.throwUnsupported
 let l<-p[1].getSepArgs.mapM (f 9)
 `(tactic|obtain⟨$l,*⟩:=$e:term)
local macro_rules|`(⋯)=>`(by lia)
local macro_rules|`(∅)=>`(by decide)
local macro_rules|`(∎)=>`(by simp)
open List (mem_cons mem_filter mem_range length_cons append_assoc length_nil map_map)
open Nat (add_mul)
open Bool (false_eq_true not_eq_true')
open Option renaming some->AA,none->AF,isSome_iff_exists->BH,casesOn->EC,isSome_map->Fv,getD_none->GO,map_some->Gg,isSome_some->IU,getD_some->Iu,isSome->Jn,getD->KO
open Decidable renaming decide->AB
open PySem renaming wpAny_bind->AC,Value->AG,Addr->AI,Shared->AK,wpAny_pure->AL,mainGlobals->AN,wpAny->AR,Expr->AT,Program->Ag,PyData->Ak,starEach->Ao,wpAny_field->As,World->Aw,Heap->BA,Scope->BE,Stmt->BG,bootBuiltins->BK,wpAny_call_entry->BN,wpAny_callSpecial?_slot->BP,Around->BR,FuncData->BS,wpAny_seqItems->BW,wpAny_newObj_type->BZ,wpAny_mono->Be,wpAny_holding->Bg,wpAny_specialOf->Bt,backTo->Bx,rawInt->By,wpAny_Call_Name_kw->Bz,IsPair->CA,compareOp->CD,assignEach->CG,cLine->CO,wpAny_setField_rec->CP,builtinLookup_eq_fast->CQ,wpAny_truthy_bool->CU,sysModules->CZ,builtinsNs->Cb,behindInMarks->Cc,swapsWith->Cj,wpAny_setField->Cm,Builtin->Cr,wpAny_passesOwn->Cv,attributeBase->Cy,binaryOp->DF,Arguments->DM,typeLookup_type->DX,wpAny_rule->DZ,call_meets->Db,wpAny_pyIter_tuple->Dc,keywordEach->De,foldedSetIterable->Dl,FuncBody->Dp,DictEntry->Dv,wpAny_execs_cons->Dw,codeAny->Dy,getItem->Dz,sliceBounds->EF,wpAny_execs_nil->EL,wpAny_updateSeq->EM,CmpOp->EO,codeAny_mono->ES,TriplesOk->EY,pyNext->Ee,bindArgs->Ef,methodCallForm->Eh,isSubtype_type->Ei,ZipApart->Ej,eqIsQuiet_byValue->Et,swapsWithSole->FA,wpAny_attempt->FE,wpAny_pyHash_str->FK,wpAny_isInstance->FL,Operator->FM,backToKw->FN,BindsTo->FW,wpAny_typeOf->FZ,letOwnedTupleGo->Fk,wpAny_loadPart'->Fl,NameKind->GI,IsPart->GJ,firstArgMember->GK,wpAny_updateSeq_pair->GL,PassesOwn->GN,noteFrame->GP,codeAmong->GR,wpAny_onRaise->Gh,ExceptHandler->Gj,typeLookup->Gn,wpAny_sequenceKey->HB,valueAt->HD,wpAny_pyIter_enum->HE,wpAny_pyIter_list->HH,wpAny_pyHash_int->HN,pyIter->HQ,noFill_tuple_add->HS,sizeLine_eq->Hb,wpAny_of_eq->Hi,loadIfAlive->Hk,wpAny_letGo->Hl,standAt->Hv,Keyword->Hy,callerA->IA,isTrue->IH,Result->IK,recursionLimit->IL,atKey->IN,closureFor->IP,wpAny_standAt->IZ,swappedStores->Ia,seq_tuple_add->Ib,wpAny_comprehension_free->Ic,Comprehension->Ig,bindL->Ik,bindC->Il,seqIndex?->Im,updateSeq->Iq,concat_meets->JB,seqIndex_neg->JC,callType_new->JH,wpAny_isTrue_Compare1->JM,getitemInPython_of_ne->JO,seqIndex_of->JZ,wpAny_letTemporaryGo->Jb,wpAny_newFunctionEnv->Jc,Meets->Jd,wpAny_pyIter_revIter->Je,wpAny_Name->Jz,wpAny_call->KD,typeIs_int->KJ,newEnv->KN,setItem->KR,wpAny_assign_Name->KS,slot_list_getitem->KW,wpAny_Call_method->KZ,dictGet->Ke,slot_dict_getitem->Kf,wpAny_pyIter_slot->Kg,beq_builtin_none->Kk,wpAny_forIn_list->Kl,getMethod->Ko,cellsFrom->Ks,wpAny_Dict_empty->Ky,setFlight->LA,wpAny_Try_except->LC,wpAny_operating->LL,codeAny_builtin->LO,Model->LV,wpAny_Compare1->LW,IntMulOk->LX,typeOf->La,wpAny_notIn_of->Lc,letTemporaryGo->Ld,cellOf->Lf,compEnvC->Lg,newFunctionEnv->Li,newExc->Lj,IsEnum->Lk,argsOk->Ll,setField->Lm,isSubtype_stop->Ln,wpAny_newTuple->Lo,BoolOp->Lp
open Bool renaming true->AD,false->AE,false_ne_true->AH,false_eq_true->BD,and_eq_true->BJ,and_self->Bw,not_true->EX,eq_iff_iff->FD,and_eq_true_iff->FR,not_eq_true'->Fa,or_eq_false_iff->Fm,or_false->Hf,false_or->Hg,or_eq_true->Jl,and_false->Jp
open List renaming getElem?_eq_getElem->AJ,mem_cons->AQ,length_map->AV,length_cons->AW,not_mem_nil->AX,getElem?_eq_some_iff->AY,getElem?_append_left->Ab,size_toArray->Ac,length_append->Ad,getElem?_append_right->Af,getElem?_map->Ah,map_append->Aj,replicate->Al,length_nil->Ap,mem_cons_of_mem->Ar,map_cons->Au,mem_append_right->BI,append_nil->BL,mem_append->BO,nodup_cons->BU,mem_of_getElem?->BX,getElem?_eq_none->BY,eq_nil_of_length_eq_zero->Bj,mem_singleton->Br,length_take->Bu,length_drop->Bv,mem_cons_self->CB,find?_cons->CH,cons_append->CT,drop_eq_getElem_cons->CV,mem_flatten->CY,length->Cf,filterMap_cons->Ci,mem_iff_getElem?->Cn,append_assoc->Cq,map_map->Cs,replicate_succ->DG,sum_append->DH,prefix_refl->DI,length_replicate->DL,mem_map->DN,lookup->DQ,sum_cons->DV,mem_append_left->DW,take_of_length_le->DY,getElem?_replicate->Da,nil_append->Dd,range->Dk,reverse_cons->Dn,flatten_cons->Do,flatten_append->Ds,take_append_of_le_length->Dt,casesOn->EA,lookup_cons->EG,all_eq_true->EI,ext_getElem?->ET,nodup_append->EU,mapIdx->EV,length_eq_zero_iff->Em,map_nil->Eu,take_length->Ew,isEmpty_iff->Ex,drop_of_length_le->Ey,getElem_mem->Ez,zip_cons_cons->FF,getElem?_reverse->FH,take_append_drop->FQ,mem_iff_getElem->FT,map->FU,of_mem_zip->FX,foldl->Fu,getElem?_set->GQ,flatten_replicate_singleton->GT,eraseIdxIfInBounds_toArray->GW,length_mapIdx->Gk,forIn_cons->Go,any_eq_false->HA,any_cons->HC,sum_nil->HI,mem_or_eq_of_mem_set->HY,getElem?_take_of_lt->He,any_eq_true->Hn,getElem?_cons_succ->Hs,getElem?_set_self->Hu,forall_mem_append->IE,length_singleton->IM,set_append_right->IQ,getElem?_set_ne->IS,reverse_reverse->IW,length_reverse->Ie,map_congr_left->Ih,reverse_append->Ii,mem_filterMap->Ij,forIn_nil->Io,forIn_toArray->Ip,mapIdx_append->Ir,take_sublist->JA,zipIdx_cons->JQ,drop_length->JT,map_reverse->JU,take_left'->Jh,zipIdx_nil->Ji,length_zip->Jk,mapIdx_cons->Jm,take_succ->Jx,map_set->Kj,nodup_nil->Kx,drop_zero->LF,drop->Lq,map_take->Lu,map_drop->Lv
open PySem.Heap renaming get?_push_of_some->AM,get?_push_size->Ae,lt_size->Az,get?_update_other->Ba,SameBut->Bf,get?_update_self->Bn,size_push->Ck,ExtBut->Gp
open PySem.W renaming Frag->AO,nsIn->Av,findIn->Bc,keepIn->Bm,codeHdIn->CW,kia_one->Ct,fnOf->Cw,emptyDict->Cz,codeIn->DD,callWith_K->Dj,kitOne->Dx,instObj->EN,mg_of->Fw,plainGet->GV,hasDictIn->HL,methodCall_KW->HV,excIn->Hj,tabObj->Hr,plainGet_of->IJ,makesIn->IT,methodObj->Iw,lookIn->Ix,plainOver->Iy,exmOne->JK,noTabs->JL,isFn->JX,takerIn->KC,cellsFrom_some->KF,callWith_K0->LJ,codeHd_of_K->LS,kitx_tuple->LY
open Nat renaming le_refl->AS,lt_of_lt_of_le->Ai,le_trans->BB,zero_le->BM,ne_of_lt->Bd,le_succ_of_le->CC,lt_irrefl->CS,le_add_right->DP,add_lt_add_left->EB,add_assoc->EW,min->FB,min_le_right->FY,pow_le_pow_right->Fh,add_le_add->Fi,ne_of_gt->GH,lt_succ_self->Gm,min_eq_right->Gq,le_of_lt->Gy,succ_ne_self->HG,strongRecOn->HJ,min_le_left->HZ,min_eq_left->Hm,add_sub_cancel_left->ID,le_succ->Iz,lt_of_le_of_lt->JG,add_sub_cancel->JJ,lt_succ_of_lt->JP,mul_comm->Jf,le_add_left->Jy,mul_le_mul->KP,le_of_eq->Kq,sub_zero->LD,pow_succ->LG,zero_add->LH,sub_self->LI,add_comm->Lb,not_lt->Lh,max_zero->Ls
open False renaming elim->AU
open PySem.Builtin.SmallTypes renaming ownedTupleIsFree->AZ,nextOf->Am,ownedTupleHandOut->EJ
open PySem.Str renaming ofString->Aa
open List.cons renaming injEq->An,inj->Iv
open PySem.Value renaming ref->Aq,none->BQ,type->Cu,int->Ec,str->Ed,bool->Fn,isInt_shape->GF,isInt->Ge,isStrOf->HP,float->IF,isStrOf_shape->IR,bytes->KQ
open Option.some renaming inj->At,injEq->CJ
open Ne renaming symm->Ax
open PySem.PyData renaming eqv->Ay,depthAll->Cg,eqvAll->DE,canLayAll0->DR,canLay0->FG,depth->Fs,strOk->Jw
open PySem.NameKind renaming free->BC
open PyProof.Rows renaming callWith_type1->BF,slot_tuple_getitem->BV,Good->Dq,AllBare->ER,slot_tuple_getitem->Eg,subscriptTail->Gf,envOfC->HR,IsTup->IG,Constant_none->IY,subscriptTail_builtinR->JD,IntsAre->JF,Call_->JW,entry_tuple_getitem->Jo,args_tuple_getitem->KG,Subscript_->KH,callWith_builtin1->LK,slicePart_none->LZ
open PySem.Heap.SameBut renaming update->Bb
open PySem.Obj renaming data_mapFields->Bi,mapSeq->CM,isFreed_of_fields->CN,cls_mapFields->GX,mapFields->Ho
open Int renaming eq_ofNat_of_zero_le->Bk,toNat_natCast->Bp,emod_lt_of_pos->GM,emod_nonneg->HK,toNat->Jj,natCast_mul->Jr,le_refl->LU
open PySem.Builtin.Tuple renaming tupleHashOf->Bl,tupleExact->Cp,tupleItemsOf->Di,tupleTooMany->Fq,tupleIsExact->LB
open Array renaming getElem?_eq_some_iff->Bo,getElem?_eq_getElem->Bq,length_toList->FV,toList_append->Fb,getElem?_eq_none->Hq,getElem?_toList->Hz,getElem?_push->IV,forIn_toList->IX,size_push->JS,toList->KB
open PyProof.Rows.KTD renaming datumAt->CI
open PySem.Builtin.List renaming listTooLong->CK,listExtendWith->Cd,listSameRef->GS,listItems->Gi,listLengthHint->LP,listTouch->LQ,listUpdate->LR
open ForInStep renaming yield->CL
open True renaming intro->Ch
open PySem.Builtin.Slice renaming slicePlaces->Co,sliceAdjust->Dm,sliceApplied->Fp,slicePartIndex->Kt,sliceFields->Ku
open PySem.F renaming slot_tuple_iterator_next->DC,slot_zip_next->EH,plain_extend_loop->EK,slot_tuple_hash->El,slot_tuple_mul->FC,args_tuple_iterator_next_1->HU,entry_tuple_iterator_next->Hh,args_list_extend_2->JE,args_object_init_2->JI,entry_list_extend->JN,entry_extend_loop->JR,slot_list_extend->Ja,args_tuple_mul_2->Jg,slot_tuple_rmul->Jq,entry_tuple_mul->Jt,args_zip_next_1->Ju,entry_list_pop->KL,entry_zip_next->KM,slot_list_pop->KY,slot_int_rmul->Kb,slot_zip_iter->Kh
open PySem.Calls renaming spliced_cons->DJ,callWith_builtin->DU,spliced_nil->EQ,evalArgs_plain->FP,Name_function_global->Gz
open PySem.Builtin.Int renaming intBits->Dh,intTooBig->Gu
open List.mapIdx renaming go->Dr
open PySem.BindsTo renaming of_defaults->Du
open PySem.Stmt.FunctionDef renaming elim->ED
open PySem.Expr.Attribute renaming elim->EZ
open PySem.Expr.Subscript renaming elim->Ea
open PySem.Arg renaming arg->Eb
open PySem.Expr.ListComp renaming elim->Eo
open PySem.Expr.Constant renaming elim->Ep
open PySem.Stmt.Continue renaming elim->Er
open PySem.Expr.UnaryOp renaming elim->FI
open PySem.Expr.Compare renaming elim->FJ
open PySem.Expr.BoolOp renaming elim->Fc
open PySem.Stmt.Assign renaming elim->Fe
open PySem.Stmt.Return renaming elim->Fg
open Sum renaming inl->Fj,inr->GU
open PySem.Expr.BinOp renaming elim->Fx
open PySem.Expr.IfExp renaming elim->Fy
open PySem.Expr.Tuple renaming elim->GA
open PySem.Expr.Slice renaming elim->GB
open PySem.Stmt.While renaming elim->GC
open PySem.Stmt.Raise renaming elim->GD
open Char renaming toNat->GE
open PySem.Expr.Dict renaming elim->GY
open PySem.Expr.Call renaming elim->GZ
open PySem.Expr.Name renaming elim->Ga
open PySem.Expr.List renaming elim->Gb
open PySem.Stmt.Expr renaming elim->Gc
open PySem.Stmt.Pass renaming elim->Gd
open PySem.AutoSeq1 renaming wpAny_loadPart'->Gv
open PySem.Stmt.For renaming elim->Gw
open PySem.Stmt.Try renaming elim->Gx
open Nat.succ renaming inj->HM
open PySem.EntryCells renaming newEntry->HW
open PySem.Stmt.If renaming elim->HX
open PySem.Around renaming under->Hd,frames_deeper->Hx,under_plainId->IC
open PySem.Code renaming isFrame->Hw,frames->Kr
open PySem.Shared renaming heap->IB
open PySem.CmpOp renaming NotIn->II
open Prod.mk renaming injEq->JV
open PySem.W.Looks renaming here->JY
open PySem.Heap.IsSliceOf renaming new->KU
open PySem.W.WShape renaming has->Ka
open Eq renaming trans->Ki
open PySem.Builtin.Range renaming rangeSize->Km
open LawfulBEq renaming eq_of_beq->Kv
open List.Pairwise renaming nil->Kz
open PySem.W.WData renaming int->LM
open PySem.Builtin.Dict renaming missed->LN
open PySem.Heap.DictOf renaming new->Le
theorem oz1{α:Type u}{a:α}{C:Prop}(h:some a=none):C:=nomatch h
theorem oz2{α:Type u}{a:α}{C:Prop}(h:none=some a):C:=nomatch h
theorem oz3{C:Prop}(h:true=false):C:=nomatch h
theorem oz4{C:Prop}(h:false=true):C:=nomatch h
theorem oy{α:Type u}{o:Option α}{d:α}(h:o=some d):o.isSome=true:=h▸rfl
local macro_rules|`(tactic|cases $h:ident)=>`(tactic|first|subst $h|exact oz1 $h|exact oz2 $h|exact oz3 $h|exact oz4 $h|(replace $h:ident:=Option.some.inj $h;subst $h)|cases ($h))
local macro_rules|`(tactic|erw[$rs,*]$[$l]?)=>do
 let ts:Array Lean.Term:=rs.getElems.map λr=>⟨r.raw[1]⟩
 `(tactic|simp only[$[$ts:term],*]$[$l]?)
local macro_rules|`(#v[$xs,*])=>do
 let mut z<-`(.nil)
 for x in xs.getElems.reverse do z<-`(.cons $x $z)
 return z
theorem oe1{α:Sort u}{p:α->Prop}{G:Prop}(h:∃a,p a)(k:∀a,p a->G):G:=h.elim k
theorem oe2{α:Sort u}{β:Sort v}{p:α->β->Prop}{G:Prop}(h:∃a b,p a b)(k:∀a b,p a b->G):G:=oe1 h λa h=>oe1 h (k a)
theorem oe3{α:Sort u}{β:Sort v}{γ:Sort w}{p:α->β->γ->Prop}{G:Prop}(h:∃a b c,p a b c)(k:∀a b c,p a b c->G):G:=oe1 h λa h=>oe2 h (k a)
theorem oe4{α:Sort u}{β:Sort v}{γ:Sort w}{δ:Sort x}{p:α->β->γ->δ->Prop}{G:Prop}(h:∃a b c d,p a b c d)(k:∀a b c d,p a b c d->G):G:=oe1 h λa h=>oe3 h (k a)
theorem oe5{α:Sort u}{β:Sort v}{γ:Sort w}{δ:Sort x}{ε:Sort y}{p:α->β->γ->δ->ε->Prop}{G:Prop}(h:∃a b c d e,p a b c d e)(k:∀a b c d e,p a b c d e->G):G:=oe1 h λa h=>oe4 h (k a)
theorem oe6{α:Sort u}{β:Sort v}{γ:Sort w}{δ:Sort x}{ε:Sort y}{ζ:Sort z}{p:α->β->γ->δ->ε->ζ->Prop}{G:Prop}(h:∃a b c d e f,p a b c d e f)(k:∀a b c d e f,p a b c d e f->G):G:=oe1 h λa h=>oe5 h (k a)
theorem oa2{A B G:Prop}(h:A∧B)(k:A->B->G):G:=k h.1 h.2
theorem oa3{A B C G:Prop}(h:A∧B∧C)(k:A->B->C->G):G:=oa2 h.2 (k h.1)
theorem oa4{A B C D G:Prop}(h:A∧B∧C∧D)(k:A->B->C->D->G):G:=oa3 h.2 (k h.1)
theorem oa5{A B C D E G:Prop}(h:A∧B∧C∧D∧E)(k:A->B->C->D->E->G):G:=oa4 h.2 (k h.1)
theorem oa6{A B C D E F G:Prop}(h:A∧B∧C∧D∧E∧F)(k:A->B->C->D->E->F->G):G:=oa5 h.2 (k h.1)
theorem oa7{A B C D E F H G:Prop}(h:A∧B∧C∧D∧E∧F∧H)(k:A->B->C->D->E->F->H->G):G:=oa6 h.2 (k h.1)
theorem oa8{A B C D E F H I G:Prop}(h:A∧B∧C∧D∧E∧F∧H∧I)(k:A->B->C->D->E->F->H->I->G):G:=oa7 h.2 (k h.1)
open Lean in
local macro_rules|`(tactic|obtain⟨$ps,*⟩:=$e:term)=>do
 let ps:=ps.getElems
 let n:=ps.size
 let rec br(f:Nat)(s:Syntax):Bool:=match f with
  |0=>false
  |f+1=>s.getKind==``Lean.Parser.Tactic.rcasesPatMed&&s[0].getArgs.size>1||s.getArgs.any (br f)
 if n<2||ps.any (br 20 ·) then
  Macro.throwUnsupported
 let rec pl(f:Nat)(s:Syntax):Syntax:=match f with
  |0=>s
  |f+1=>if s.isIdent then s else if s.getArgs.size==1&&s.getKind != ``Lean.Parser.Tactic.rcasesPat.ignore||s.getArgs.size==2&&s[1].getArgs.size==0 then pl f s[0] else s
 let mut ts:Array (Array (TSyntax `tactic)):=#[]
 for p in ps do
  let q:=pl 8 p.raw
  let j ← withFreshMacroScope `(z)
  let j:Ident:=⟨j.raw⟩
  if q.isIdent&&q.getId != `rfl then
   ts:=ts.push #[← `(tactic|intro $(⟨q⟩):ident)]
  else
   ts:=ts.push #[← `(tactic|intro $j:ident),← if q.isIdent then `(tactic|subst $j:ident) else if q.getKind==``Lean.Parser.Tactic.rcasesPat.ignore then `(tactic|skip) else if p.raw[1].getArgs.size==0 then `(tactic|obtain $(⟨p.raw[0]⟩):rcasesPatMed:=$j:ident) else `(tactic|rcases $j:ident with $p:rcasesPatLo)]
 let cl ← if e.raw.isIdent then `(tactic|try clear $(⟨e.raw⟩):ident) else `(tactic|skip)
 let mut al:Array (TSyntax ``Lean.Parser.Tactic.tacticSeq):=#[]
 for (c,b,t) in [("oe",1,6),("oa",2,8)] do
  for k' in [0:t] do
   let k:=t-k'
   let u:=if c=="oe" then k+1 else k
   if b<=k&&u<=n then
    let x:=mkIdent (.str .anonymous s!"{c}{k}")
    let mut pp:=(ts.extract 0 (if u==n then n else u-1)).foldl (·++·) #[]
    if u<n then
     let rs:=ps.extract (u-1) n
     pp:=pp ++ #[← `(tactic|intro h),← `(tactic|obtain⟨$rs,*⟩:=h)]
    al:=al.push (← `(Lean.Parser.Tactic.tacticSeq|refine $x $e ?_;$cl;$[$pp]*))
 `(tactic|first $[|$al]*|rcases $e:term with⟨$(ps),*⟩)
local macro_rules|`(tactic|apply $e:term)=>`(tactic|refine $e)
local macro_rules|`(tactic|show $e:term)=>`(tactic|exact $e)
namespace PySem
noncomputable instance decPyData:DecidableEq Ak:=λa b=>Classical.propDecidable (a=b)
namespace NK
mutual
noncomputable def lit:Ak->Bool
 |.int _=>AD
 |.str x=>FG (.str x)
 |.tuple ds=>lits ds
 |_=>AE
noncomputable def lits:List Ak->Bool
 |[]=>AD
 |d::r=>lit d&&lits r
end
mutual
theorem as1:∀d:Ak,lit d=AD->d.canLay0=AD
 |.int _,_=>rfl
 |.str _,h=>h
 |.tuple ds,h=>by rw[FG];show bb5 ds h
 |.none,h=>nomatch h
 |.bool _,h=>nomatch h
 |.list _,h=>nomatch h
 |.dict _,h=>nomatch h
theorem bb5:∀ds:List Ak,lits ds=AD->DR ds=AD
 |[],_=>rfl
 |d::r,h=>by
  have h':lit d=AD/\lits r=AD:=by simpa[lits]using h
  change(d.canLay0&&DR r)=AD;rw[as1 d h'.1,bb5 r h'.2];rfl
end
mutual
theorem eqv_lit:∀x y:Ak,lit x=AD->lit y=AD->(Ay x y=AD↔x=y)
 |.int i,.int j,_,_=>by rw[Ay];simp
 |.int i,.str y,_,_=>by simp[Ay]
 |.int i,.tuple ys,_,_=>by simp[Ay]
 |.str x,.int j,_,_=>by simp[Ay]
 |.str x,.str y,_,_=>by rw[Ay];simp
 |.str x,.tuple ys,_,_=>by simp[Ay]
 |.tuple xs,.int j,_,_=>by simp[Ay]
 |.tuple xs,.str y,_,_=>by simp[Ay]
 |.tuple xs,.tuple ys,hx,hy=>by rw[Ay,bd8 xs ys hx hy];simp
 |.none,_,h,_=>nomatch h
 |.bool _,_,h,_=>nomatch h
 |.list _,_,h,_=>nomatch h
 |.dict _,_,h,_=>nomatch h
 |_,.none,_,h=>nomatch h
 |_,.bool _,_,h=>nomatch h
 |_,.list _,_,h=>nomatch h
 |_,.dict _,_,h=>nomatch h
theorem bd8:∀xs ys:List Ak,lits xs=AD->lits ys=AD->(DE xs ys=AD↔xs=ys)
 |[],[],_,_=>by simp[DE]
 |[],y::ys,_,_=>by simp[DE]
 |x::xs,[],_,_=>by simp[DE]
 |x::xs,y::ys,hx,hy=>by
  have hx':lit x=AD/\lits xs=AD:=by simpa[lits]using hx
  have hy':lit y=AD/\lits ys=AD:=by simpa[lits]using hy
  rw[DE,BJ,eqv_lit x y hx'.1 hy'.1,bd8 xs ys hx'.2 hy'.2];simp
end
theorem ap6:∀{a},lits a=AD->∀d∈a,lit d=AD
 |[],_,d,h=>by cases h
 |e::r,b,d,h=>by
  have h':=by simpa[lits]using b
  rcases AQ.mp h with rfl|h
  ·show h'.1
  ·show ap6 h'.2 d h
theorem ap2:∀{a}{d},d∈a->d.depth<=Cg a
 |e::r,d,h=>by
  change d.depth<=max e.depth (Cg r)
  rcases AQ.mp h with rfl|h
  ·lia
  ·have:=ap2 h;lia
def depth_tup{ds}:(PyData.tuple ds).depth=Cg ds+1:=by rw[Fs]
mutual
theorem bm0{h:BA}:∀(x y:Ak){v:AG}{as bs:List AI},lit x=AD->lit y=AD->Reads h v x as->Reads h v y bs->x=y
 |.int i,y,v,as,bs,_,hy,rx,ry=>by
  cases rx;cases ry;rfl
 |.str x,y,v,as,bs,_,hy,rx,ry=>by
  cases rx;cases ry;rfl
 |.tuple xs,y,v,as,bs,hx,hy,rx,ry=>by
  cases rx with
  |tuple e1 e2 e3 e4=>
   cases ry with
   |tuple f1 f2 f3 f4=>
    rw[e1]at f1;cases f1;rw[e3]at f3;cases f3;rw[bf1 xs _ hx hy e4 f4]
   |list=>cases hy
   |dict=>cases hy
 |.none,_,_,_,_,h,_,_,_=>nomatch h
 |.bool _,_,_,_,_,h,_,_,_=>nomatch h
 |.list _,_,_,_,_,h,_,_,_=>nomatch h
 |.dict _,_,_,_,_,h,_,_,_=>nomatch h
theorem bf1{h:BA}:∀(xs ys:List Ak){vs:List AG}{as bs:List AI},lits xs=AD->lits ys=AD->ReadsAll h vs xs as->ReadsAll h vs ys bs->xs=ys
 |[],ys,vs,as,bs,_,_,rx,ry=>by cases rx;cases ry;rfl
 |x::xs,ys,vs,as,bs,hx,hy,rx,ry=>by
  cases rx with
  |cons r1 r2=>cases ry with
   |@cons _ _ y ys _ _ q1 q2=>
    have hx':lit x=AD/\lits xs=AD:=by simpa[lits]using hx
    have hy':lit y=AD/\lits ys=AD:=by simpa[lits]using hy
    rw[bm0 x y hx'.1 hy'.1 r1 q1,bf1 xs ys hx'.2 hy'.2 r2 q2]
end
mutual
theorem bj2{h h':BA}{d:AI}{o:Obj}{es:Array Dv}{ep:Nat}(ho:h.get? d=AA o)(hd:o.data=.dict es ep)(hs:Bf d h h'):∀(x:Ak){v:AG}{as:List AI},lit x=AD->Reads h v x as->∃bs,Reads h' v x bs
 |.int i,v,as,_,r=>by cases r;show{_,.int _ _}
 |.str x,v,as,_,r=>by cases r;show{_,.str _ _}
 |.tuple xs,v,as,hx,r=>by
  cases r with
  |@tuple a o' _ _ _ _ e1 e2 e3 e4=>
   have hne:a≠d:=by
    rintro rfl;rw[e1]at ho;cases ho;rw[hd]at e3;show nomatch e3
   let{bs,r'}:=bb4 ho hd hs xs hx e4;show{_,.tuple ((hs.2 a hne).trans e1) e2 e3 r'}
 |.none,_,_,h,_=>nomatch h
 |.bool _,_,_,h,_=>nomatch h
 |.list _,_,_,h,_=>nomatch h
 |.dict _,_,_,h,_=>nomatch h
theorem bb4{h h':BA}{d:AI}{o:Obj}{es:Array Dv}{ep:Nat}(ho:h.get? d=AA o)(hd:o.data=.dict es ep)(hs:Bf d h h'):∀(xs:List Ak){vs:List AG}{as:List AI},lits xs=AD->ReadsAll h vs xs as->∃bs,ReadsAll h' vs xs bs
 |[],vs,as,_,r=>by cases r;show{_,.nil}
 |x::xs,vs,as,hx,r=>by
  cases r with
  |cons r1 r2=>
   have hx':lit x=AD/\lits xs=AD:=by simpa[lits]using hx
   let{b1,q1}:=bj2 ho hd hs x hx'.1 r1;let{b2,q2}:=bb4 ho hd hs xs hx'.2 r2;show{_,.cons q1 q2}
end
mutual
noncomputable def hK(w:Aw):Ak->Int
 |.int i=>hashInt i
 |.str x=>hashStr w x
 |.tuple ds=>reduceHash (Bl (hKs w ds))
 |_=>0
noncomputable def hKs(w:Aw):List Ak->List Int
 |[]=>[]
 |d::r=>hK w d::hKs w r
end
mutual
noncomputable def dw:Ak->Nat
 |.tuple ds=>dws ds+1
 |_=>1
noncomputable def dws:List Ak->Nat
 |[]=>0
 |d::r=>dw d+dws r
end
theorem ar4 w:∀a b,hKs w (a++b)=hKs w a++hKs w b
 |[],b=>rfl
 |x::a,b=>by rw[CT,hKs,ar4 w a b];rfl
theorem ar5:∀a b,dws (a++b)=dws a+dws b
 |[],b=>by simp[dws]
 |x::a,b=>by rw[CT,dws,ar5 a b,dws,EW]
variable {prog:Ag} {w:Aw}
def ch0:∀(n:Nat)(d:Ak),d.depth<=n->lit d=AD->∀{A:BR}{E:AG->AK->Prop}{s:AK}{v:AG}{y:List AI}{Q:Int->AK->Prop},A.units+n<CO->Reads s.heap v d y->Q (hK w d) {s with toks:=s.toks+dw d}->AR (model prog w) A (pyHash v) Q E s:=by
 intro n
 induction n with
 |zero=>
  intro d hd c A E s v y Q hu r h;cases r with
  |int i t=>show HN (by simpa[hK,dw]using h)
  |str x t=>show FK (by simpa[hK,dw]using h)
  |tuple=>rw[depth_tup]at hd;lia
  |none=>cases c
  |bool=>cases c
  |list=>cases c
  |dict=>cases c
 |succ n ih=>
  intro d hd c A E s v y Q hu r h;cases r with
  |int i t=>show HN (by simpa[hK,dw]using h)
  |str x t=>show FK (by simpa[hK,dw]using h)
  |none=>cases c
  |bool=>cases c
  |list=>cases c
  |dict=>cases c
  |@tuple a o items m z y ho hc hda hi=>
   rw[depth_tup]at hd;have hl':lits z=AD:=c;have u:s.TypeIs (.ref a) "tuple":=⟨o,ho,hc⟩;unfold pyHash
   first|unfold pyHashByItsType|skip
   first|apply AC (wpAny_cRoomFor_or (.inr ⋯) ?_)|skip
   apply AC (Bt u El.lookup ?_);change AR _ _ (if(AA (Value.builtin "tuple.__hash__")==AA BQ)=AD then _ else _) Q E s;rw[if_neg (by rw[Kk];show AH)];apply AC (Bt u El.lookup ?_);change AR _ _ (callSpecialIfBoundUnlessNone? (.ref a) "__hash__" _>>=_) Q E s;apply AC (wpAny_callSpecialIfBoundUnlessNone?_slot u El (BN El u F.entry_tuple_hash ?_ (F.args_tuple_hash_1 _)));change AR _ _ (Di (.ref a)>>=_) _ _ s;apply AC (wpAny_tupleItemsOf ho hda ?_);apply AC ?_;rw[<-IX];apply Kl _
    (λj8(b:Array Int)s'=>∃done left bs,z=done++left/\ReadsAll s.heap j8 left bs/\b.toList=hKs w done/\s'={s with toks:=s.toks+dws done})
    _ ?_ ?_ _ _ {[],z,_,rfl,hi,rfl,rfl}
   ·rintro x j8 b s' ⟨done,left,bs,rfl,hl2,hb,rfl⟩;cases hl2 with
    |@cons _ _ k f _ _ h1 j=>
     have hk:k∈done++k::f:=by simp
     apply AC (ih k (by have:=ap2 hk;lia) (ap6 hl' k hk) ?_ h1 ?_)
     ·change A.units+1+n<CO;lia
     first
      |show AL {done++[k],f,_,∎,j,by rw[ar4];simp[hb,hKs],by simp[ar5,dws,EW]}
      |show AC (AL (AL {done++[k],f,_,∎,j,by rw[ar4];simp[hb,hKs],by simp[ar5,dws,EW]}))
   ·rintro b s' ⟨done,left,bs,rfl,hl2,hb,rfl⟩;cases hl2;rw[BL]at h;erw[hK,dw]at h;change AR _ _ (retInt (Bl b.toList)) _ _ _;rw[hb];apply wpAny_ret_mkInt ?_;change AR _ _ (if(AB (-(2:Int)^63<=Bl (hKs w done))&&AB (Bl (hKs w done)<2^63))=AD then _ else _) Q E _;unfold reduceHash at h
    by_cases q:(AB (-(2:Int)^63<=Bl (hKs w done))&&AB (Bl (hKs w done)<2^63))=AD
    ·rw[if_pos q];rw[if_pos q]at h;show AL (by simpa[EW]using h)
    ·rw[if_neg q];rw[if_neg q]at h;show AC (DZ (AL (by simpa[EW]using h)))
def cb0:∀n(d),d.depth<=n->lit d=AD->∀{A}{E}{s}{v}{j}{Q},Reads s.heap v d j->Q AD s->AR (model prog w) A (eqIsQuiet n v) Q E s:=by
 intro n
 induction n with
 |zero=>
  intro d hd b A E s v j Q r h;cases r with
  |int i t=>show AL h
  |str x t=>show AL h
  |tuple=>rw[depth_tup]at hd;lia
  |none=>cases b
  |bool=>cases b
  |list=>cases b
  |dict=>cases b
 |succ n ih=>
  intro d hd b A E s v j Q r h;cases r with
  |int i t=>show AL h
  |str x t=>show AL h
  |none=>cases b
  |bool=>cases b
  |list=>cases b
  |dict=>cases b
  |@tuple a o q m xs j ho hc C hi=>
   rw[depth_tup]at hd;have B:=b;have hT:s.TypeIs (.ref a) "tuple":=⟨o,ho,hc⟩;unfold eqIsQuiet;apply AC (Bt hT F.slot_tuple_eq.lookup ?_);apply AC (FL hT isSubtype_tuple_tuple ?_);apply AC (BW ho C ?_);apply AC ?_;rw[<-IX];apply Kl _ (λj8 r s'=>r.1=AF/\s'=s/\∃left bs,(∀k∈left,lit k=AD/\k.depth<=n)/\ReadsAll s.heap j8 left bs) _ ?_ ?_ _ _ {rfl,rfl,xs,_,λk hk=>⟨ap6 B k hk,by have:=ap2 hk;lia⟩,hi}
   ·rintro v j8 r s' ⟨hr,rfl,left,bs,hall,hl2⟩;cases hl2 with
    |@cons _ _ k p _ _ h1 z=>
     let{k1,k2}:=hall k ∎;apply AC (ih k k2 k1 h1 ?_);show AL {rfl,rfl,p,_,λu hu'=>hall u (by simp[hu']),z}
   ·rintro⟨r1,r2⟩ s' ⟨hr,rfl,_⟩;subst hr;show AL h
abbrev isK(h:BA)(k:Ak)(a:AI):Prop:=lit k=AD/\k.depth<=7/\∃as,Reads h (.ref a) k as
abbrev dataKind(prog:Ag)(w:Aw):HeapKind prog w Ak where
 is:=isK
 hash:=hK w
 draws:=dw
 room:=λA=>A.units+8<CO
 inj:=λ⟨l1,_,_,r1⟩⟨l2,_,_,r2⟩=>bm0 _ _ l1 l2 r1 r2
 keeps:=λ⟨l1,d1,_,r1⟩ho hd hs=>{l1,d1,bj2 ho hd hs _ l1 r1}
 pyHash:=λhu⟨l1,d1,_,r1⟩h=>ch0 7 _ d1 l1 ⋯ r1 h
 eqBool:=λ{A E s x y a b Q}hu⟨l1,d1,_,r1⟩⟨l2,d2,_,r2⟩h=>by
  have e:Ay x y=AB (x=y):=by
   by_cases z:x=y
   ·rw[decide_eq_true z];show(eqv_lit x y l1 l2).mpr z
   ·rw[decide_eq_false z];cases q:Ay x y with
    |false=>rfl
    |true=>show absurd ((eqv_lit x y l1 l2).mp q) z
  have:=SeqAt.eqAt_reads x y A s _ _ _ _ r1 r2 (as1 x l1) (as1 y l2) (by have:min x.depth y.depth<=x.depth:=HZ _ _;lia);rw[e]at this;show this prog w E Q h
 quiet:=λ⟨l1,d1,_,r1⟩h=>cb0 8 _ ⋯ l1 r1 h
def dataKind_room_in1{prog}{w}{A:BR}(h:A.units+20<CO):(dataKind prog w).room A.in1:=by
 change A.units+1+8<CO;lia
end NK
end PySem
set_option maxRecDepth 100000
namespace L2
open PySem PySem.Spec PyProof.Rows
section
@[reducible]noncomputable def Key:=Sum Int Str
abbrev Y0:Key->AG->Bool
 |.inl k,v=>Ge k v
 |.inr x,v=>HP x v
abbrev df6(w:Aw):Key->Int
 |.inl k=>hashInt k
 |.inr x=>hashStr w x
def M5:∀{k}{v},Y0 k v=AD->(∃i t,k=Fj i/\v=Ec i t)\/∃x t,k=GU x/\v=Ed x t
 |.inl i,v,h=>by
  let{t,e}:=GF h;show .inl ⟨i,t,rfl,e⟩
 |.inr x,v,h=>by
  let{t,e}:=IR h;show .inr ⟨x,t,rfl,e⟩
def b30(i)t:Y0 (.inl i) (.int i t)=AD:=by simp[Y0,Ge]
def b27(x)t:Y0 (.inr x) (.str x t)=AD:=by simp[Y0,HP]
def c36 a b:AB ((Fj a:Key)=Fj b)=(a==b):=by
 by_cases e:a=b
 ·subst e;simp
 ·simp_all
def co9(a b:Str):AB ((GU a:Key)=GU b)=AB (a=b):=by
 by_cases e:a=b
 ·subst e;simp
 ·have h:¬(GU a:Key)=GU b:=λq=>e (Sum.inr.inj q);rw[decide_eq_false h,decide_eq_false e]
def cu2(a:Int)(b:Str):AB (Fj a=GU b)=AE:=decide_eq_false λq=>nomatch q
def cw0(a:Str)(b:Int):AB (GU a=Fj b)=AE:=decide_eq_false λq=>nomatch q
abbrev P7(prog:Ag)(w:Aw):PySem.KeyKind prog w Key where
 is:=Y0
 hash:=df6 w
 inj:=λv a b ha hb=>by
  rcases M5 ha with⟨i,t,rfl,rfl⟩|⟨x,t,rfl,rfl⟩
  ·rcases M5 hb with⟨j,u,rfl,e⟩|⟨y,u,rfl,e⟩
   ·injection e with e1 _;rw[e1]
   ·show nomatch e
  ·rcases M5 hb with⟨j,u,rfl,e⟩|⟨y,u,rfl,e⟩
   ·show nomatch e
   ·injection e with e1 _;rw[e1]
 byValue:=λk v h=>by
  rcases M5 h with⟨i,t,rfl,rfl⟩|⟨x,t,rfl,rfl⟩<;>rfl
 pyHash:=λhv h=>by
  rcases M5 hv with⟨i,t,rfl,rfl⟩|⟨x,t,rfl,rfl⟩
  ·show HN h
  ·show FK h
 eqBool:=λhu hv h=>by
  rcases M5 hu with⟨i,t,rfl,rfl⟩|⟨x,t,rfl,rfl⟩
  ·rcases M5 hv with⟨j,u,rfl,rfl⟩|⟨y,u,rfl,rfl⟩
   ·rw[c36]at h;show wpAny_eqBool_int h
   ·rw[cu2]at h;show SeqAt.EqAt.int_str i t y u _ _ _ _ h
  ·rcases M5 hv with⟨j,u,rfl,rfl⟩|⟨y,u,rfl,rfl⟩
   ·rw[cw0]at h;show SeqAt.EqAt.str_int x t j u _ _ _ _ h
   ·rw[co9]at h;show wpAny_eqBool_str h
 «strs»:=λk x t v h=>by
  rcases M5 h with⟨i,u,rfl,e⟩|⟨y,u,rfl,e⟩
  ·show nomatch e
  ·injection e with e1 _
   subst e1;cases v<;>rfl
def bv6 prog(w)(i)t:(P7 prog w).is (.inl i) (.int i t)=AD:=b30 i t
def bv4 prog(w)(x)t:(P7 prog w).is (.inr x) (.str x t)=AD:=b27 x t
variable{a b:AI}{h h':BA}{P:Ag}
inductive V where
 |non|bl (b:Bool)|int (i:Int)|str (x:Str)|byt (b:Array UInt8)|flt (b:UInt64)|ref (a:AI)|ty (n:String)
 deriving DecidableEq
abbrev i7:V->AG->Prop
 |.non,u=>u=BQ
 |.bl b,u=>u=Fn b
 |.int i,u=>∃t,u=Ec i t
 |.str x,u=>∃t,u=Ed x t
 |.byt b,u=>∃t,u=KQ b t
 |.flt b,u=>∃t,u=IF b t
 |.ref a,u=>u=Aq a
 |.ty n,u=>u=Cu n
@[reducible]noncomputable def i5:List V->List AG->Prop:=Paired i7
theorem i5.length{xs}{us}(r:i5 xs us):xs.length=us.length:=Paired.length r
theorem i5.get:∀{a}{us}{i:Nat}{x},i5 a us->a[i]?=AA x->∃u,us[i]?=AA u/\i7 x u
 |_,_,_,_,.nil,e=>by simp at e
 |_,_,0,_,.cons r _,e=>by simp_all
 |_,_,i+1,x,.cons _ t,e=>by
  let{u,c,b}:=i5.get t (by simpa using e);simp_all
theorem i5.set{x}{u}(r:i7 x u):∀{a}{us}i,i5 a us->i5 (a.set i x) (us.set i u)
 |_,_,_,.nil=>.nil
 |_,_,0,.cons _ t=>.cons r t
 |_,_,i+1,.cons q t=>.cons q (i5.set r i t)
theorem i5.append:∀{b a}{us c},i5 b us->i5 a c->i5 (b++a) (us++c)
 |_,_,_,_,.nil,s=>s
 |_,_,_,_,.cons r t,s=>.cons r (i5.append t s)
theorem i5.take:∀{a}{us}n,i5 a us->i5 (a.take n) (us.take n)
 |_,_,0,_=>.nil
 |_,_,_+1,.nil=>.nil
 |_,_,n+1,.cons r t=>.cons r (i5.take n t)
theorem i5.drop:∀{a}{us}n,i5 a us->i5 (a.drop n) (us.drop n)
 |_,_,0,r=>r
 |_,_,_+1,.nil=>.nil
 |_,_,n+1,.cons _ t=>i5.drop n t
abbrev B3:Option V->Option AG->Prop
 |some v,AA u=>i7 v u
 |none,AF=>True
 |_,_=>False
abbrev KV{κ:Type}:List (κ×V)->List (κ×AG)->Prop:=Paired λ(p:κ×V)(q:κ×AG)=>p.1=q.1/\i7 p.2 q.2
abbrev kV:Key->V
 |.inl i=>.int i
 |.inr x=>.str x
inductive HO where
 |lst (xs:List V)
 |tup (xs:List V)
 |dK (kvs:List (Key×V))|dT (kvs:List (Ak×V))
 |set (S:Int->Bool) (n:Nat)
 |ins (C dx:AI) (fs:List (Str×V))
 |own (x:AI)
 |xd (fs:List (Str×V))
 |met (f x:AI)
 |rng (lo hi:Int)
 |frz (o:Obj) (u:HO)
 |tbl (ps:Array AG)
 |ext (φ:BA->Prop)
variable{o:HO}
@[reducible]noncomputable def Hp:=AI->Option HO
variable{H:Hp}
abbrev upd(H:Hp)(a:AI)(o:HO):Hp:=λb=>if b=a then AA o else H b
def t4:upd H a o a=AA o:=by unfold upd;rw[if_pos rfl]
def j6(h:b≠a):upd H a o b=H b:=by unfold upd;rw[if_neg h]
def c65{u}(h:H a=AA o)(h':H b=AA u)(d:o≠u):a≠b:=by
 intro e;simp_all
def z6(h:H a=AA o)(h':H b=AF):a≠b:=by
 grind
mutual
noncomputable def HRd(H:Hp):Ak->V->Prop
 |.int i,v=>v=.int i
 |.str x,v=>v=.str x
 |.tuple ds,v=>∃a vs,v=.ref a/\H a=AA (.tup vs)/\O5 H ds vs
 |_,_=>False
noncomputable def O5(H:Hp):List Ak->List V->Prop
 |[],vs=>vs=[]
 |d::ds,vs=>∃v r,vs=v::r/\HRd H d v/\O5 H ds r
end
mutual
theorem HRd.keeps{H H':Hp}(ht:∀b ys,H b=AA (.tup ys)->H' b=AA (.tup ys)):∀(d:Ak){v:V},HRd H d v->HRd H' d v
 |.int i,v,h=>h
 |.str x,v,h=>h
 |.tuple ds,v,h=>let⟨a,vs,e,h1,h2⟩:=h;{a,vs,e,ht a vs h1,O5.keeps ht ds h2}
 |.none,_,h=>h.elim
 |.bool _,_,h=>h.elim
 |.list _,_,h=>h.elim
 |.dict _,_,h=>h.elim
theorem O5.keeps{H H':Hp}(ht:∀b ys,H b=AA (.tup ys)->H' b=AA (.tup ys)):∀(ds:List Ak){vs:List V},O5 H ds vs->O5 H' ds vs
 |[],vs,h=>h
 |d::ds,vs,h=>let⟨v,r,e,h1,h2⟩:=h;{v,r,e,HRd.keeps ht d h1,O5.keeps ht ds h2}
end
abbrev F6(H:Hp)(d:Ak)(b:AI):Prop:=NK.lit d=AD/\d.depth<=7/\HRd H d (.ref b)
theorem F6.keeps{H'}{d}(h:F6 H d b)(c:∀b a,H b=AA (.tup a)->H' b=AA (.tup a)):F6 H' d b:={h.1,h.2.1,HRd.keeps c d h.2.2}
abbrev E8(h:BA)(a:AI)(items:Array AG):Prop:=∃o,h.get? a=AA o/\o.cls=.type "tuple"/\o.dict=AF/\∃n,o.data=.seq items n
def E8.tup{items}(x:E8 h a items):IG h a items:=let⟨o,e,c,_,d⟩:=x;⟨o,e,c,d⟩
def E8.lt{items}(x:E8 h a items):=let⟨_,e,_⟩:=x;Az e
def E8.new(h:BA)items:E8 (h.push {cls:=.type "tuple",data:=.seq items}) h.objs.size items:={_,Ae _ rfl,rfl,rfl,_,rfl}
section
variable (P:Ag) (w:Aw)
abbrev o5(H:Hp)(h:BA)(a:AI):HO->Prop
 |.lst xs=>xs.length<=sizeLine/\∃(its:List AG)(n:Nat),i5 xs its/\h.get? a=AA {cls:=.type "list",data:=.seq its.toArray n}
 |.tup xs=>xs.length<=sizeLine/\∃its:List AG,i5 xs its/\E8 h a its.toArray
 |.dK kvs=>kvs.length<=sizeLine/\(a==CZ)=AE/\∃vs,KV kvs vs/\h.DictOf (P7 P w) a vs
 |.dT kvs=>kvs.length<=sizeLine/\(a==CZ)=AE/\∃xs:List (Ak×AI×AG),
   Paired (λ(p:Ak×V)(q:Ak×AI×AG)=>p.1=q.1/\F6 H p.1 q.2.1/\i7 p.2 q.2.2) kvs xs /\
   ∃o es ep,h.get? a=AA o/\o.ExactDict/\o.data=.dict es ep/\es.toList=xs.map (entryOfKey (NK.dataKind P w))/\(xs.map (·.1)).Nodup
 |.set S n=>h.SetOf (intKind P w) a S n
 |.ins C dx fs=>H dx=AA (.own a)/\fs.length<=1000/\dx≠a/\h.get? a=AA (EN C dx) /\
   ∃mA,h.Ns1 dx mA/\(∀f,B3 (fs.lookup f) (mA f))/\PySem.Within mA (fs.map (·.1))
 |.own _=>∃o,h.get? a=AA o
 |.xd fs=>∃mA,h.Ns1 a mA/\∀f,B3 (fs.lookup f) (mA f)
 |.rng lo hi=>∃t u v,h.get? a=AA {cls:=.type "range",data:=.fields #[.int lo t,.int hi u,.int 1 v]}
 |.frz o u=>h.get? a=AA o/\o5 H h a u
 |.tbl ps=>h.get? a=AA {cls:=.none,data:=.fields ps}
 |.met f x=>h.get? a=AA (Iw (.ref f) (.ref x))
 |.ext φ=>φ h/\(∃o,h.get? a=AA o)/\∀h1 h2:BA,φ h1->(∀o,h1.get? a=AA o->h2.get? a=AA o)->φ h2
abbrev HOk(H:Hp)(h:BA):Prop:=∀a o,H a=AA o->o5 P w H h a o
end
section
variable {w:Aw} {H':Hp} 
theorem o5.lt(x:o5 P w H h a o):a<h.objs.size:=by
 cases o with
 |lst c=>let{_,_,_,_,e}:=x;show Az e
 |tup c=>let{_,_,_,p}:=x;show p.lt
 |dK b=>let{_,_,_,_,o,_,_,e,_}:=x;show Az e
 |dT b=>let{_,_,_,_,o,_,_,e,_}:=x;show Az e
 |set S n=>let{o,_,_,_,e,_}:=x;show Az e
 |ins C dx r=>let{_,_,_,e,_}:=x;show Az e
 |own y=>let{_,e}:=x;show Az e
 |xd r=>let{_,{_,_,_,e,_},_}:=x;show Az e
 |rng lo hi=>let{_,_,_,e}:=x;show Az e
 |frz ob u=>let{e,_}:=x;show Az e
 |tbl ps=>show Az ((x))
 |met f y=>show Az ((x))
 |ext t=>let{_,{_,e},_}:=x;show Az e
theorem Paired.mapP{α β}{F G}:∀{d:List α}{c:List β},Paired F d c->(∀a b,F a b->G a b)->Paired G d c
 |_,_,.nil,_=>.nil
 |_,_,.cons r t,f=>.cons (f _ _ r) (Paired.mapP t f)
def o5.stay(x:o5 P w H h a o)(k:∀b u,b=a\/H b=AA (.own a)->h.get? b=AA u->h'.get? b=AA u)
  (O:∀b,H b=AA (.own a)->H' b=AA (.own a)) (N:∀b l,H b=AA (.tup l)->H' b=AA (.tup l)):o5 P w H' h' a o:=by
 induction o with
 |lst l=>let{z,j,n,r,e}:=x;show{z,j,n,r,k _ _ (.inl rfl) e}
 |tup l=>let{z,j,r,ob,e,c}:=x;show{z,j,r,ob,k _ _ (.inl rfl) e,c}
 |dK A=>let{z,y,vs,r,ob,g,i,e,c}:=x;show{z,y,vs,r,ob,g,i,k _ _ (.inl rfl) e,c}
 |dT A=>
  let{z,y,l,r,ob,g,i,e,c}:=x;show{z,y,l,Paired.mapP r λp q z=>{z.1,z.2.1.keeps N,z.2.2},ob,g,i,k _ _ (.inl rfl) e,c}
 |set S n=>let{ob,g,i,t,e,c}:=x;show{ob,g,i,t,k _ _ (.inl rfl) e,c}
 |ins C dx fs=>
  let{d,z,I,e,s,{m,g,i,e2,c},r}:=x;show{O _ d,z,I,k _ _ (.inl rfl) e,s,{m,g,i,k _ _ (.inr d) e2,c},r}
 |own y=>let{ob,e}:=x;show{ob,k _ _ (.inl rfl) e}
 |xd fs=>let{s,{m,g,i,e,c},r}:=x;show{s,{m,g,i,k _ _ (.inl rfl) e,c},r}
 |rng lo hi=>let{t,u,v,e}:=x;show{t,u,v,k _ _ (.inl rfl) e}
 |frz ob u M=>let{e,q}:=x;show{k _ _ (.inl rfl) e,M q}
 |tbl ps=>
  have e:=x;show k a _ (.inl rfl) e
 |met f y=>
  have e:=x;show k a _ (.inl rfl) e
 |ext φ=>let{p,{o,e},st}:=x;show{st _ _ p λo=>k _ _ (.inl rfl),{o,k _ _ (.inl rfl) e},st}
theorem HOk.lt(x:HOk P w H h)(e:H a=AA o):a<h.objs.size:=(x a o e).lt
def HOk.fresh(x:HOk P w H h)(e:h.objs.size<=a):H a=AF:=by
 cases q:H a with
 |none=>rfl
 |some u=>show absurd (Ai (x.lt q) e) (CS _)
def HOk.kept(x:HOk P w H h)(k:∀b u,h.get? b=AA u->h'.get? b=AA u):HOk P w H h':=λa o e=>
 (x a o e).stay (λb u _=>k b u) (λ_ q=>q) λ_ _ q=>q
def HOk.laid(x:HOk P w H h)(k:∀b u,h.get? b=AA u->h'.get? b=AA u)(i:h.objs.size<=a)(d:o5 P w (upd H a o) h' a o):HOk P w (upd H a o) h':=λb u e=>by
 have f:=x.fresh i
 by_cases g:b=a
 ·subst g;rw[t4]at e;cases e;show d
 ·rw[j6 g]at e;show(x b u e).stay (λc v _=>k c v) (λc q=>(j6 (z6 q f)▸q)) λc xs q=>j6 (z6 q f)▸q
end
abbrev Rd(H:Hp)(a:AI)(u:HO):Prop:=H a=AA u\/∃o,H a=AA (.frz o u)
def Rd.ok{w:Aw}{u:HO}(r:Rd H a u)(x:HOk P w H h):o5 P w H h a u:=by
 rcases r with r|⟨o,r⟩
 ·show x a u r
 ·let{_,q}:=x a _ r;show q
abbrev Mut:Option HO->Prop
 |some (.lst _)=>True
 |some (.dK _)=>True
 |some (.dT _)=>True
 |some (.set _ _)=>True
 |some (.ins _ _ _)=>True
 |some (.ext _)=>True
 |_=>False
section
variable {w:Aw} {x e:AI} {o':HO}
def HOk.write(p:HOk P w H h)(m:Mut (H x))(t:e=x\/H e=AA (.own x))(k:∀b u,b≠e->h.get? b=AA u->h'.get? b=AA u)(i:∃u,h'.get? e=AA u)
  (g:o5 P w (upd H x o') h' x o'):HOk P w (upd H x o') h':=λb u q=>by
 have d:∀c y,H c=AA (.own y)->c≠x:=λc y r z=>by subst z;rwa[r]at m
 have a:∀c f,H c=AA (.tup f)->c≠x:=λc f r z=>by subst z;rwa[r]at m
 by_cases o:b=x
 ·subst o;rw[t4]at q;cases q;show g
 ·rw[j6 o]at q
  by_cases j:b=e
  ·have l:H b=AA (.own x):=by
    lia
   rw[q]at l;cases l;let{v,s}:=i;show{v,by simp_all}
  ·apply(p b u q).stay (λc v n=>k c v ?_) (λc r=>(j6 (d c b r)▸r)) λc f r=>(j6 (a c f r)▸r)
   rcases n with rfl|n
   ·show j
   ·grind
end
structure Un(fs ex:List AI)(H H':Hp)(h h':BA):Prop where
 keep:∀b o,h.get? b=AA o->H b=AF->b∉fs->b∉ex->h'.get? b=AA o
 slot:∀b o,h.get? b=AA o->H b=AF->b∈fs->b∉ex->∃sl,h'.get? b=AA {o with slots:=sl}
 free:∀b o,h.get? b=AA o->H b=AF->b∉ex->H' b=AF
 there:∀b o,h.get? b=AA o->b∉ex->∃o',h'.get? b=AA o'
 tups:∀b xs,H b=AA (.tup xs)->H' b=AA (.tup xs)
 frzs:∀b o u,H b=AA (.frz o u)->H' b=AA (.frz o u)
 tbls:∀b ps,H b=AA (.tbl ps)->∃more,H' b=AA (.tbl (ps++more))
section
variable {fs fs' ex ex':List AI} {H1 H2:Hp} {h1 h2:BA} {x e:AI} 
def Un.any(u:Un fs ex H H1 h h1){ob}q(n)hx:=by
 by_cases a:b∈fs
 ·show u.slot b ob q n a hx
 ·show{ob.slots,u.keep b ob q n a hx}
def Un.kept(k:∀b u,h.get? b=AA u->h'.get? b=AA u):Un fs ex H H h h':=
 {λb ob q _ _ _=>k b ob q,λb ob q _ _ _=>{ob.slots,k b ob q},λ_ _ _ n _=>n,λb ob q _=>{ob,k b ob q},λ_ _ q=>q,λ_ _ _ q=>q,λ_ ps q=>{#[],by rw[q];simp}}
def Un.refl:Un fs ex H H h h:=Un.kept λ_ _ q=>q
def Un.laid(k:∀b u,h.get? b=AA u->h'.get? b=AA u)(d:h.objs.size<=a)(c:H a=AF):Un fs ex H (upd H a o) h h' where
 keep:=λb u q _ _ _=>k b u q
 slot:=λb u q _ _ _=>{u.slots,k b u q}
 free:=λb u q n _=>j6 (Bd (Ai (Az q) d))▸n
 there:=λb u q _=>{u,k b u q}
 tups:=λb xs q=>j6 (z6 q c)▸q
 frzs:=λb u xs q=>j6 (z6 q c)▸q
 tbls:=λb ps q=>{#[],by rw[j6 (z6 q c),q];simp}
def Un.write(a:Mut (H x))(j:e=x\/H e=AA (.own x))(k:∀b u,b≠e->h.get? b=AA u->h'.get? b=AA u)(i:∃u,h'.get? e=AA u):Un fs ex H (upd H x o) h h':=by
 have g:∀b,H b=AF->b≠x:=λb n z=>by subst z;rw[n]at a;show a
 have f:∀b,H b=AF->b≠e:=λb n z=>by
  simp_all
 have c:∀b u,H b=AA u->¬Mut (AA u)->b≠x:=λb u q nm z=>by subst z;rw[q]at a;show nm a
 apply{λb u q n _ _=>k b u (f b n) q,λb u q n _ _=>{u.slots,k b u (f b n) q},λb u q n _=>by rw[j6 (g b n)];show n,λb u q _=>?_,
  λb xs q=>by rw[j6 (c b _ q λz=>z)];show q,λb u xs q=>by rw[j6 (c b _ q λz=>z)];show q,λb ps q=>{#[],by rw[j6 (c b _ q λz=>z),q];simp}}
 by_cases d:b=e
 ·simp_all
 ·show{u,k b u d q}
end
abbrev trk(h:BA)(H:Hp):List AI:=(Dk h.objs.size).filter λa=>(H a).isSome
abbrev J3(h:BA)(H:Hp):BA:=W.hideAll h (trk h H)
def b26(h)H:(J3 h H).objs.size=h.objs.size:=W.hideAll_size _ _
def bb8{o}(e:h.get? b=AA o)(n:H b=AF):(J3 h H).get? b=AA o:=
 W.hideAll_get _ e λhm=>by
  have q:=(mem_filter.mp hm).2;rw[n]at q;simp at q
def bh8{o}(e:(J3 h H).get? b=AA o):h.get? b=AA o/\H b=AF:=by
 have a:=W.of_hideAll (trk h H) e;apply{a,?_};cases q:H b with
 |none=>rfl
 |some x=>
  have c:b∈trk h H:=mem_filter.mpr {mem_range.mpr (Az a),by simp[q]};have z:(J3 h H).get? b=AF:=W.hideAll_none (trk h H) c;rw[z]at e;cases e
abbrev ch2(g h:BA)(L:AI):List (AI×Obj):=(Dk h.objs.size).filterMap λa=>if a=L\/(g.get? a).isSome=AD then AF else(h.get? a).map λo=>(a,o)
abbrev j8(g h:BA)(L d:AI):List (AI×Obj):=(ch2 g h L).filter λp=>AB (p.1≠d)
end
section
variable{x:Str}{i:Nat}
structure Mod(K:AO)(mg:Str->Option AG)(base:BA):Prop where
 kin:K.In base
 glob:base.Ns AN mg
 blt:∃mb,base.Ns Cb mb/\∀x:Str,x≠"__name__"->mb x=BK x
 nolimit:base.NoLimit
structure Cx where
 prog:Ag
 w:Aw
 K:AO
 mg:Str->Option AG
 base:BA
 A:BR
 N:List Str
 s₀:AK
 H₀:Hp
 env:Env
 outer:List Env
 stack:List Env
 ex:List AI
 fn:Str->Bool
 calm:Bool
 pn:List (AI×Obj)
 xe:AG->AK->Prop
 ow:Str->Bool:=λ_=>AE
abbrev frs(l:List Env):List AI:=l.filterMap (·.frame)
@[reducible]noncomputable def Cx.fs(X:Cx):List AI:=frs X.outer
abbrev Vis(sc:BE)(x:Str):Prop:=sc.names.lookup x=AA .local\/sc.names.lookup x=AA .cell\/sc.names.lookup x=AA .free
abbrev Loc(sc:BE)(x:Str):Prop:=sc.names.lookup x=AA .local\/sc.names.lookup x=AA .cell
abbrev dk7(env:Env)(h:BA)(m:Str->Option AG)(x:Str)(u:AG):Prop:=
 (env.kindOf x=AA .local/\m x=AA u)\/((env.kindOf x=AA .cell\/env.kindOf x=AA .free)/\∃c,env.cells.lookup x=AA c/\h.IsCell c (AA u))
structure Cx.Ok(X:Cx):Prop where
 mod:Mod X.K X.mg X.base
 kind:X.env.scope.kind=.function
 glob:X.env.globals=AN
 blt:X.env.builtins=Cb
 above:X.s₀.heap.objs.size<=X.env.locals
 inj:∀x y c,X.env.cells.lookup x=AA c->X.env.cells.lookup y=AA c->x=y
 has:∀x,(X.env.kindOf x=AA .cell\/X.env.kindOf x=AA .free)->∃c,X.env.cells.lookup x=AA c
 cab:∀x c,X.fn x=AD\/X.ow x=AD->X.env.cells.lookup x=AA c->X.s₀.heap.objs.size<=c
 hd:X.calm=AD->X.A.handled=AF
 frames:X.A.frames=AA X.stack
 stk:X.stack=X.outer\/(X.stack=X.env::X.outer/\X.env.frame=AA X.env.locals)
 exf:∀b∈X.ex,b≠X.env.locals/\∀x c,X.env.cells.lookup x=AA c->c≠b
 bs:∀b o,X.base.get? b=AA o->X.s₀.heap.get? b=AA o/\X.H₀ b=AF
 bsz:X.base.objs.size<=X.s₀.heap.objs.size
 noex:∀b o,X.base.get? b=AA o->b∉X.ex
 exfs:∀b∈X.ex,b∉X.fs
 funs:X.s₀.heap.FunFrames X.base X.outer
 frf:∀b∈X.fs,X.H₀ b=AF
structure Inv(X:Cx)(pins:List (AI×Obj))(σ:List (Option V))(H:Hp)(s:AK):Prop where
 ok:X.Ok
 os:s.os=X.s₀.os
 bare:ER s.gens
 base:Un X.fs X.ex X.H₀ H X.s₀.heap s.heap
 loc:∃m,s.heap.Ns X.env.locals m/\∀(i:Nat)(x:Str)(v:V),X.N[i]?=AA x->σ[i]?=AA (AA v)->Vis X.env.scope x->∃u,i7 v u/\dk7 X.env s.heap m x u
 cell:∀x c,X.env.cells.lookup x=AA c->∃v,s.heap.IsCell c v
 free:H X.env.locals=AF
 freeC:∀x c,X.env.cells.lookup x=AA c->H c=AF\/(X.fn x=AE/\∃o u,H c=AA (.frz o u))
 pin:∀p∈X.pn++pins,s.heap.get? p.1=AA p.2/\H p.1=AF/\p.1≠X.env.locals/\p.1∉X.fs/\∀v,p.2.data≠.cell v
 hok:HOk X.prog X.w H s.heap
 len:σ.length=X.N.length
section
variable {X:Cx} {pins:List (AI×Obj)} {σ:List (Option V)} {H H':Hp} {s:AK} {h':BA}
def Cx.Ok.nofr(a:X.Ok){b}{o}(e:X.base.get? b=AA o):b∉X.fs:=λhb=>by
 have:=(a.funs.mem hb).1;rw[e]at this;cases this
theorem Inv.bs(I:Inv X pins σ H s):∀b o,X.base.get? b=AA o->s.heap.get? b=AA o/\H b=AF:=λb o e=>
 {I.base.keep b o (I.ok.bs b o e).1 (I.ok.bs b o e).2 (I.ok.nofr e) (I.ok.noex b o e),I.base.free b o (I.ok.bs b o e).1 (I.ok.bs b o e).2 (I.ok.noex b o e)}
def Inv.bk(I:Inv X pins σ H s):∀b o,X.base.get? b=AA o->s.heap.get? b=AA o:=λb o e=>(I.bs b o e).1
theorem Inv.mod(I:Inv X pins σ H s):Mod X.K X.mg X.base:=I.ok.mod
def Inv.kIn(I:Inv X pins σ H s):=I.ok.mod.kin.keeps I.bk
theorem Inv.lt(I:Inv X pins σ H s):X.env.locals<s.heap.objs.size:=let⟨_,a,_⟩:=I.loc;a.lt
def Inv.sz(I:Inv X pins σ H s):=BB I.ok.above (Gy I.lt)
def Inv.nofs(I:Inv X pins σ H s){a:AI}(h:s.heap.objs.size<=a):a∉X.fs:=λhb=>by
 let{_,o,b,_}:=I.ok.funs.mem hb;show absurd (Ai (Az b) (BB I.sz h)) (CS _)
def Inv.cne(I:Inv X pins σ H s):∀x c,X.env.cells.lookup x=AA c->c≠X.env.locals:=λx c e z=>by
 let{v,o,f,g}:=I.cell x c e;let{m,{d,h,i,a,b,_},_}:=I.loc;grind
theorem Inv.funs(I:Inv X pins σ H s):s.heap.FunFrames X.base X.outer:=by
 have d:∀l,(∀b∈frs l,b∈X.fs)->X.s₀.heap.FunFrames X.base l->s.heap.FunFrames X.base l:=by
  intro l
  induction l with
  |nil=>intro _ _;trivial
  |cons env r i=>
   intro f n;let{p,{L,o,a,m,k,q},j}:=n;have c:=f L (by unfold frs;rw[Ci,a];show CB);let{t,e}:=I.base.slot L o k (I.ok.frf L c) c λz=>I.ok.exfs L z c;show{p,⟨L,_,a,m,e,q⟩,i (λb hb=>f b (by unfold frs;rw[Ci,a];show Ar _ hb)) j}
 show d X.outer (λ_ hb=>hb) I.ok.funs
theorem Inv.stack(I:Inv X pins σ H s):s.heap.FunFrames X.base X.stack:=by
 rcases I.ok.stk with e|⟨e,b⟩
 ·rw[e];show I.funs
 ·rw[e];let{m,a,_}:=I.loc;apply .cons (by rw[I.ok.kind];decide) b a ?_ I.funs;show Heap.get?_none_of_le (BB I.ok.bsz I.ok.above)
def Inv.stkSub(I:Inv X pins σ H s):∀b∈frs X.stack,b∈X.env.locals::X.fs:=λb hb=>by
 rcases I.ok.stk with e|⟨e,a⟩
 ·rw[e]at hb;show Ar _ hb
 ·rw[e]at hb;unfold frs at hb;rwa[Ci,a]at hb
def Inv.stkFree(I:Inv X pins σ H s):∀b∈frs X.stack,H b=AF:=λb a=>by
 rcases AQ.mp (I.stkSub b a)with e|a
 ·rw[e];show I.free
 ·let{_,o,c,_}:=I.ok.funs.mem a;show I.base.free b o c (I.ok.frf b a) λz=>I.ok.exfs b z a
def Inv.step{g':Array GenState}{t':Nat}{d':Drawn}{ch:List AI}(I:Inv X pins σ H s)
  (h:∀b∈ch,(b∈X.ex\/X.s₀.heap.objs.size<=b)/\b≠X.env.locals/\(∀x c,X.env.cells.lookup x=AA c->c≠b)/\∀p∈X.pn++pins,p.1≠b)
  (g:∀b o,b≠X.env.locals->b∉X.fs->b∉ch->s.heap.get? b=AA o->H b=AF->h'.get? b=AA o)
  (D:∀b o,b≠X.env.locals->b∈X.fs->b∉ch->s.heap.get? b=AA o->H b=AF->∃U,h'.get? b=AA {o with slots:=U}) (a:∀b o,b∉ch->s.heap.get? b=AA o->H b=AF->H' b=AF)
  (F:∀b o,b∉ch->s.heap.get? b=AA o->∃K,h'.get? b=AA K)
  (G:∀b C,H b=AA (.tup C)->H' b=AA (.tup C)) (j:∀b o u,H b=AA (.frz o u)->H' b=AA (.frz o u)) (J:∀b Q,H b=AA (.tbl Q)->∃M,H' b=AA (.tbl (Q++M)))
  (ns:∀m,s.heap.Ns X.env.locals m->h'.Ns X.env.locals m) (N:HOk X.prog X.w H' h') (hg:ER g') :
  Inv X pins σ H' {s with heap:=h',gens:=g',drawn:=d',toks:=t'}:=by
 have L:∀b o,X.s₀.heap.get? b=AA o->b≠X.env.locals:=λb o e=>Bd (Ai (Az e) I.ok.above);have y:∀b o,X.s₀.heap.get? b=AA o->b∉X.ex->b∉ch:=λb o e hx hb=>by
  rcases(h b hb).1 with z|z
  ·show hx z
  ·show absurd (Ai (Az e) z) (CS _)
 have t:∀x c,X.env.cells.lookup x=AA c->∀v,s.heap.IsCell c v->h'.IsCell c v:=λx c e v⟨o,E,S⟩=>by
  have f:c∉ch:=λz=>(h c z).2.2.1 x c e rfl
  rcases I.freeC x c e with A|⟨_,R,P,hz⟩
  ·by_cases Z:c∈X.fs
   ·let{U,q}:=D c o (I.cne x c e) Z f E A;show⟨_,q,S⟩
   ·show{o,g c o (I.cne x c e) Z f E A,S}
  ·let{h1,_}:=I.hok c _ hz;let{h2,_}:=N c _ (j c R P hz);rw[h1]at E;cases E;show⟨_,h2,S⟩
 apply{I.ok,I.os,hg,{λb o e n hb hx=>?_,λb o e n hb hx=>?_,λb o e n hx=>?_,λb o e hx=>?_,λb C e=>G b C (I.base.tups b C e),λb o C e=>j b o C (I.base.frzs b o C e),λb Q e=>?_},?_,λx c e=>?_,?_,λx c e=>?_,λp hp=>?_,N,I.len}
 ·show g b o (L b o e) hb (y b o e hx) (I.base.keep b o e n hb hx) (I.base.free b o e n hx)
 ·let{U,B}:=I.base.slot b o e n hb hx;let{T,O}:=D b _ (L b o e) hb (y b o e hx) B (I.base.free b o e n hx);show⟨T,O⟩
 ·let{K,B}:=I.base.there b o e hx;show a b K (y b o e hx) B (I.base.free b o e n hx)
 ·let{K,B}:=I.base.there b o e hx;show F b K (y b o e hx) B
 ·let{m1,B}:=I.base.tbls b Q e;let{m2,O}:=J b _ B;show{m1++m2,by rw[O,Array.append_assoc]}
 ·let{m,hn,hl}:=I.loc;apply{m,ns m hn,λi x v B O e3=>?_};let{u,r,l}:=hl i x v B O e3;apply{u,r,?_}
  rcases l with l|⟨k,c,e,z⟩
  ·show .inl l
  ·show .inr {k,c,e,t x c e _ z}
 ·let{v,z}:=I.cell x c e;show{v,t x c e v z}
 ·let{m,{o,_,_,E,_},_}:=I.loc;show a _ o (λz=>(h _ z).2.1 rfl) E I.free
 ·let{v,o,E,S}:=I.cell x c e
  rcases I.freeC x c e with A|⟨V,R,P,hz⟩
  ·show .inl (a c o (λz=>(h c z).2.2.1 x c e rfl) E A)
  ·show .inr {V,R,P,j c R P hz}
 ·let{e,n,Y,W,d}:=I.pin p hp;have f:p.1∉ch:=λz=>(h p.1 z).2.2.2 p hp rfl;show{g p.1 p.2 Y W f e n,a p.1 p.2 f e n,Y,W,d}
def Inv.un{t'}(I:Inv X pins σ H s)(u:Un X.fs [] H H' s.heap h')(c:HOk X.prog X.w H' h'):Inv X pins σ H' {s with heap:=h',toks:=t'}:=by
 let{m,{o,l,p,g,r},_}:=id I.loc;let{j,i}:=u.any g I.free ∎;show I.step (ch:=[]) (λ_ z=>nomatch z) (λb o _ hb _ e n=>u.keep b o e n hb ∎) (λb o _ hb _ e n=>u.slot b o e n hb ∎) (λb o _ e n=>u.free b o e n ∎) (λb o _ e=>u.there b o e ∎) u.tups u.frzs u.tbls (λm' hm=>by
  let{k,d,f,a,h}:=hm;rw[g]at a;cases a;show⟨_,d,f,i,h⟩) c I.bare
def Inv.call{g'}{t'}{d'}{ch}(I:Inv X pins σ H s)(u:Un (frs X.stack) ch H H' s.heap h')(f:HOk X.prog X.w H' h')(l:ER g')
  (d:∀b∈ch,(b∈X.ex\/X.s₀.heap.objs.size<=b)/\b≠X.env.locals/\(∀x c,X.env.cells.lookup x=AA c->c≠b)/\∀p∈X.pn++pins,p.1≠b) :
  Inv X pins σ H' {s with heap:=h',gens:=g',drawn:=d',toks:=t'}:=by
 let{m,{o,v,y,j,r},_}:=id I.loc;let{q,g}:=u.any j I.free λz=>(d _ z).2.1 rfl;show I.step d (λb o g hb hc e n=>u.keep b o e n (λz=>(AQ.mp (I.stkSub b z)).elim g hb) hc) (λb o _ _ hc e n=>u.any e n hc) (λb o hc e n=>u.free b o e n hc) (λb o hc e=>u.there b o e hc) u.tups u.frzs u.tbls (λm' hm=>by
  let{t,h,i,a,k}:=hm;rw[j]at a;cases a;show⟨_,h,i,g,k⟩) f l
def Inv.turned{t'}{it}(I:Inv X pins σ H s)(k:∀b o,b≠it->s.heap.get? b=AA o->h'.get? b=AA o)(m:H it=AF)(d:it≠X.env.locals)
  (i:it∈X.ex\/X.s₀.heap.objs.size<=it) (h:∀x c,X.env.cells.lookup x=AA c->c≠it) (g:∀p∈X.pn++pins,p.1≠it):Inv X pins σ H {s with heap:=h',toks:=t'}:=by
 have a:∀b u,H b=AA u->b≠it:=λb u e z=>by grind
 apply I.step (ch:=[it]) (λb hb=>?_) (λb o _ _ hc e _=>k b o (λz=>hc (by simp[z])) e) (λb o _ _ hc e _=>{o.slots,k b o (λz=>hc (by simp[z])) e}) (λ_ _ _ _ n=>n)
  (λb o hc e=>{o,k b o (λz=>hc (by simp[z])) e}) (λ_ _ e=>e) (λ_ _ _ e=>e) (λb ps e=>{#[],by rw[e];simp}) (λm hm=>?_) (λb u e=>?_) I.bare
 ·have e:=by simpa using hb
  subst e;show⟨i,d,h,g⟩
 ·let{o,j,l,f,r}:=hm;show{o,j,l,k _ o (Ax d) f,r}
 ·apply(I.hok b u e).stay (λc v hc=>k c v ?_) (λ_ q=>q) λ_ _ q=>q
  rcases hc with z|z
  ·rw[z];show a b u e
  ·show a c _ z
def Inv.tok(I:Inv X pins σ H s)t:=I.un (t':=t) Un.refl I.hok
theorem Inv.kept{t'}(I:Inv X pins σ H s)(k:∀b u,s.heap.get? b=AA u->h'.get? b=AA u):Inv X pins σ H {s with heap:=h',toks:=t'}:=I.un (Un.kept k) (I.hok.kept k)
theorem Inv.laid{a:AI}{o}{t'}(I:Inv X pins σ H s)(k:∀b u,s.heap.get? b=AA u->h'.get? b=AA u)(d:s.heap.objs.size<=a)(c:o5 X.prog X.w (upd H a o) h' a o):
  Inv X pins σ (upd H a o) {s with heap:=h',toks:=t'}:=I.un (Un.laid k d (I.hok.fresh d)) (I.hok.laid k d c)
theorem Inv.write{x e}{o}{t'}(I:Inv X pins σ H s)(d:Mut (H x))(f:e=x\/H e=AA (.own x))(k:∀b u,b≠e->s.heap.get? b=AA u->h'.get? b=AA u)(a:∃u,h'.get? e=AA u)
  (c:o5 X.prog X.w (upd H x o) h' x o):Inv X pins σ (upd H x o) {s with heap:=h',toks:=t'}:=I.un (Un.write d f k a) (I.hok.write d f k a c)
def Inv.pins_of{pins'}(I:Inv X pins σ H s)(h:∀p∈pins',s.heap.get? p.1=AA p.2/\H p.1=AF/\p.1≠X.env.locals/\p.1∉X.fs/\∀v,p.2.data≠.cell v):Inv X pins' σ H s:=
 {I.ok,I.os,I.bare,I.base,I.loc,I.cell,I.free,I.freeC,λp hp=>(BO.mp hp).elim (λz=>I.pin p (DW _ z)) (h p),I.hok,I.len}
def bb6{N:List Str}(c:N.Nodup){j}(a:N[i]?=AA x)(b:N[j]?=AA x):i=j:=by
 let{g,e}:=AY.mp a;let{f,d}:=AY.mp b;show(List.getElem_inj c).mp (e.trans d.symm)
def bz5{M:LV}{A:BR}{E:AG->AK->Prop}{v:V}{u:AG}{Q:Unit->AK->Prop}(I:Inv X pins σ H s)(hN:X.N.Nodup)(hi:X.N[i]?=AA x)(C:Loc X.env.scope x)(r:i7 v u)
  (h:∀s',Inv X pins (σ.set i (AA v)) H s'->(∃a,Bf a s.heap s'.heap/\(a=X.env.locals\/X.env.cells.lookup x=AA a))->Q () s') (hf:X.fn x=AD\/X.env.scope.names.lookup x=AA .local:=by first|show .inl rfl|show .inr rfl|assumption):AR M A (storeName X.env x u) Q E s:=by
 let{m,hn,hl}:=id I.loc;have P:(X.env.scope.kind==.class||(X.env.scope.kind==.module&&X.env.locals != X.env.globals))=AE:=by rw[I.ok.kind];rfl
 have G:i<σ.length:=by rw[I.len];show(AY.mp hi).1
 have K:=I.cne;have l:∀{a:AI}{h':BA},(∃o,s.heap.get? a=AA o/\H a=AF)->Bf a s.heap h'->HOk X.prog X.w H h':=λ{a h'}ha f b ob e=>by
  let{_,_,g}:=ha;apply(I.hok b ob e).stay (λc S B q=>(f.2 c ?_).trans q) (λ_ q=>q) λ_ _ q=>q;rintro rfl
  rcases B with rfl|B
  ·rw[g]at e;cases e
  ·rw[g]at B;cases B
 rcases C with F|F
 ·apply wpAny_storeName_local F hn (λh' hn' f=>?_) P;let{oL,_,_,hoL,_}:=id hn;apply h _ {I.ok,I.os,I.bare,{λb o e n hb C=>?_,λb o e n hb C=>?_,I.base.free,λb o e C=>?_,I.base.tups,I.base.frzs,I.base.tbls},{_,hn',λj y v' t e2 e3=>?_},λy c e=>?_,I.free,I.freeC,λp hp=>?_,l ⟨oL,hoL,I.free⟩ f,by simpa using I.len} {_,f,.inl rfl}
  ·show(f.2 b (Bd (Ai (Az e) I.ok.above))).trans (I.base.keep b o e n hb C)
  ·let{Y,t}:=I.base.slot b o e n hb C;show{Y,(f.2 b (Bd (Ai (Az e) I.ok.above))).trans t}
  ·let{o',t}:=I.base.there b o e C;show{o',(f.2 b (Bd (Ai (Az e) I.ok.above))).trans t}
  ·by_cases J:j=i
   ·subst J;rw[hi]at t;cases t;rw[Hu G]at e2;cases e2;show{u,r,.inl {F,∎}}
   ·rw[IS (Ax J)]at e2;let{W,Z,q}:=hl j y v' t e2 e3;apply{W,Z,?_}
    rcases q with⟨k,e⟩|⟨k,c,e,z⟩
    ·apply .inl {k,?_};have:y≠x:=λe=>J (bb6 hN t (e▸hi));simp[this,e]
    ·show .inr {k,c,e,z.sameBut f (K y c e)}
  ·let{S,z}:=I.cell y c e;show{S,z.sameBut f (K y c e)}
  ·let{e,n,T,nf,d}:=I.pin p hp;show{(f.2 p.1 T).trans e,n,T,nf,d}
 ·have D:X.fn x=AD:=by
   rcases hf with z|z
   ·show z
   ·rw[z]at F;cases F
  let{c,B}:=I.ok.has x (.inl F);let{S,z}:=I.cell x c B;have g:H c=AF:=(I.freeC x c B).resolve_right λz=>by rw[D]at z;show absurd z.1 ∅
  apply wpAny_storeName_cell I.ok.kind F B z (λh' hc' f=>?_);let{oc,O,L}:=id z;apply h {s with heap:=h'} {I.ok,I.os,I.bare,{λb o e n hb C=>?_,λb o e n hb C=>?_,I.base.free,λb o e C=>?_,I.base.tups,I.base.frzs,I.base.tbls},{m,hn.sameBut f (Ax (K x c B)),λj y v' t e2 e3=>?_},λy U e=>?_,I.free,I.freeC,λp hp=>?_,l ⟨oc,O,g⟩ f,by simpa using I.len} {c,f,.inr B}
  ·show(f.2 b (Bd (Ai (Az e) (I.ok.cab x c (.inl D) B)))).trans (I.base.keep b o e n hb C)
  ·let{Y,t}:=I.base.slot b o e n hb C;show{Y,(f.2 b (Bd (Ai (Az e) (I.ok.cab x c (.inl D) B)))).trans t}
  ·let{o',t}:=I.base.there b o e C;show{o',(f.2 b (Bd (Ai (Az e) (I.ok.cab x c (.inl D) B)))).trans t}
  ·by_cases J:j=i
   ·subst J;rw[hi]at t;cases t;rw[Hu G]at e2;cases e2;show{u,r,.inr {.inl F,c,B,hc'}}
   ·rw[IS (Ax J)]at e2;let{W,Z,q}:=hl j y v' t e2 e3;apply{W,Z,?_}
    rcases q with q|⟨k,U,e,z'⟩
    ·show .inl q
    ·apply .inr {k,U,e,z'.sameBut f ?_};rintro rfl;show J (bb6 hN t (I.ok.inj _ _ _ e B▸hi))
  ·by_cases R:U=c
   ·subst R;show⟨_,hc'⟩
   ·let{w2,z2}:=I.cell y U e;show{w2,z2.sameBut f R}
  ·let{e,n,T,nf,d}:=I.pin p hp;apply{(f.2 p.1 ?_).trans e,n,T,nf,d};intro q;rw[q,O]at e;have q':oc=p.2:=At e;show d S (by rw[<-q'];show L)
def ae9{M:LV}{A:BR}{E:AG->AK->Prop}{v:V}{u:AG}{Q:Unit->AK->Prop}(I:Inv X pins σ H s)(c:X.N.Nodup)(hi:X.N[i]?=AA x)(a:Loc X.env.scope x)(r:i7 v u)
  (h:∀s',Inv X pins (σ.set i (AA v)) H s'->Q () s') (b:X.fn x=AD\/X.env.scope.names.lookup x=AA .local:=by first|show .inl rfl|show .inr rfl|assumption):AR M A (storeName X.env x u) Q E s:=
 bz5 I c hi a r (λs' I' _=>h s' I') b
def Inv.call'{s'}{ch}(I:Inv X pins σ H s)(f:s'.os=s.os)(u:Un (frs X.stack) ch H H' s.heap s'.heap)(a:HOk X.prog X.w H' s'.heap)(g:ER s'.gens)
  (d:∀b∈ch,(b∈X.ex\/X.s₀.heap.objs.size<=b)/\b≠X.env.locals/\(∀x c,X.env.cells.lookup x=AA c->c≠b)/\∀p∈X.pn++pins,p.1≠b):Inv X pins σ H' s':=by
 let{h',g',d',t',h}:=s';have e:=f;subst e;show I.call u a g d
end
@[reducible]noncomputable def XK:=AG->Option AI->Hp->Prop
@[reducible]noncomputable def St:=List (Option V)
@[reducible]noncomputable def VK:=V->Hp->Prop
@[reducible]noncomputable def TE:=St->Hp->VK->Prop
@[reducible]noncomputable def TT:=St->Hp->(Bool->Hp->Prop)->Prop
@[reducible]noncomputable def TA:=St->Hp->(List V->Hp->Prop)->Prop
structure Ends where
 nx:St->Hp->Prop
 rt:VK
 bk:St->Hp->Prop:=λ_ _=>False
 ct:St->Hp->Prop:=λ_ _=>False
@[reducible]noncomputable def TS:=Ends->St->Hp->Prop
abbrev EP(X:Cx)(pins:List (AI×Obj))(σ:St)(Q:VK)(u:AG)(s':AK):Prop:=∃v H',Inv X pins σ H' s'/\i7 v u/\Q v H'
abbrev TP(X:Cx)(pins:List (AI×Obj))(σ:St)(Q:Bool->Hp->Prop)(b:Bool)(s':AK):Prop:=∃H',Inv X pins σ H' s'/\Q b H'
abbrev AP(X:Cx)(pins:List (AI×Obj))(σ:St)(Q:List V->Hp->Prop)(us:List AG)(s':AK):Prop:=∃vs H',Inv X pins σ H' s'/\i5 vs us/\Q vs H'
abbrev SP(X:Cx)(pins:List (AI×Obj))(D:Ends)(f:Flow)(s':AK):Prop:=
 match f with
 |.next=>∃σ' H',Inv X pins σ' H' s'/\D.nx σ' H'
 |.brk=>∃σ' H',Inv X pins σ' H' s'/\D.bk σ' H'
 |.cont=>∃σ' H',Inv X pins σ' H' s'/\D.ct σ' H'
 |.ret u=>∃v σ' H',Inv X pins σ' H' s'/\i7 v u/\D.rt v H'
abbrev PE(X:Cx)(e:AT)(t:TE):Prop:=
 ∀(pins:List (AI×Obj))(s:AK)(σ:St)(H:Hp)(Q:VK),Inv X pins σ H s->t σ H Q->AR (model X.prog X.w) X.A (eval e X.env) (EP X pins σ Q) X.xe s
abbrev PT(X:Cx)(e:AT)(t:TT):Prop:=
 ∀(pins:List (AI×Obj))(s:AK)(σ:St)(H:Hp)(Q:Bool->Hp->Prop),Inv X pins σ H s->t σ H Q->AR (model X.prog X.w) X.A (IH e X.env (eval e X.env)) (TP X pins σ Q) X.xe s
abbrev PW(X:Cx)(e:AT)(t:TT):Prop:=
 ∀(whole:Sem AG)(pins:List (AI×Obj))(s:AK)(σ:St)(H:Hp)(Q:Bool->Hp->Prop),Inv X pins σ H s->t σ H Q->AR (model X.prog X.w) X.A (IH e X.env whole) (TP X pins σ Q) X.xe s
def PW.pt{X:Cx}{e:AT}{t:TT}(h:PW X e t):PT X e t:=h _
abbrev PA(X:Cx)(es:List AT)(t:TA):Prop:=
 ∀(pos:Pos)(pins:List (AI×Obj))(s:AK)(σ:St)(H:Hp)(Q:List V->Hp->Prop),Inv X pins σ H s->t σ H Q->AR (model X.prog X.w) X.A (spliced (Bx pos (Ao es X.env))) (AP X pins σ Q) X.xe s
abbrev PS(X:Cx)(st:BG)(t:TS):Prop:=
 ∀(pins:List (AI×Obj))(s:AK)(σ:St)(H:Hp)(D:Ends),Inv X pins σ H s->t D σ H->AR (model X.prog X.w) X.A (exec st X.env) (SP X pins D) X.xe s
abbrev PSs(X:Cx)(st:List BG)(t:TS):Prop:=
 ∀(pins:List (AI×Obj))(s:AK)(σ:St)(H:Hp)(D:Ends),Inv X pins σ H s->t D σ H->AR (model X.prog X.w) X.A (execs st X.env) (SP X pins D) X.xe s
def thn{α}{t:Sem α}{Q Q'}{M}{A}{E}{s}(h:AR M A t Q E s)(b:∀a s,Q a s->Q' a s):AR M A t Q' E s:=Be h b λ_ _ x=>x
end
section
variable{pins:List (AI×Obj)}{s:AK}{σ:St}{H:Hp}{x:Str}{pos:Pos}{u:AG}{op:EO}
section
variable {X:Cx}
def bin{a b}{ta tb}(n:PE X a ta)(m:PE X b tb){R:V->V->Hp->Prop}(I:Inv X pins σ H s)(h:ta σ H λx e=>tb σ e λy c=>R x y c)
  {α} {Q} {f:AG->AG->Sem α}
  (l:∀v u d x y c,Inv X pins σ c d->i7 x v->i7 y u->R x y c->AR (model X.prog X.w) X.A (f v u) Q X.xe d) :
  AR (model X.prog X.w) X.A (eval a X.env) (λv s₁=>AR (model X.prog X.w) X.A (eval b X.env) (λu s₂=>AR (model X.prog X.w) X.A (f v u) Q X.xe s₂) X.xe s₁) X.xe s:=by
 apply thn (n pins s σ H _ I h) λv s1 z0=>?_;let{x,e,p,i,k}:=z0;apply thn (m pins s1 σ e _ p k) λu d z1=>?_;let{y,c,o,g,j}:=z1;show l v u d x y c o i g j
abbrev dg1(i:Nat):TE:=λσ H Q=>∃v,σ[i]?=AA (AA v)/\Q v H
abbrev tC(v:V):TE:=λ_ H Q=>Q v H
def at3{i:Nat}(t:X.N[i]?=AA x)(n:Vis X.env.scope x)(f:(x==("__debug__":Str))=AE:=by decide)(g:(x==("__classdict__":Str))=AE:=by decide):PE X (.Name x pos) (dg1 i):=by
 intro d s k H Q I h;let{v,e,h}:=h;let{m,o,q}:=I.loc;let{u,r,l}:=q i x v t e n;have fin:EP X d k Q u s:=⟨v,H,I,r,h⟩
 rcases l with⟨b,p⟩|⟨b,c,j,a⟩
 ·show Jz (wpAny_loadName_local I.ok.kind b o p fin) f
 ·rcases b with b|b
  ·show Jz (wpAny_loadName_cell I.ok.kind b j a fin) f
  ·show Jz (wpAny_loadName_free I.ok.kind b j a fin g) f
def c35{i j pos}:PE X (.Constant (.int i) j pos) (tC (.int i)):=λ_ _ _ H _ I h=>wpAny_Constant_int {.int i,H,I.tok _,⟨_,rfl⟩,h}
def ah2{b j pos}:PE X (.Constant (.bool b) j pos) (tC (.bl b)):=λ_ _ _ H _ I h=>Constant_bool {.bl b,H,I,rfl,h}
def c25{j pos}:PE X (.Constant .none j pos) (tC .non):=λ_ _ _ H _ I h=>IY {.non,H,I,rfl,h}
def c26{x j pos}:PE X (.Constant (.str x) j pos) (tC (.str x)):=λ_ _ _ H _ I h=>Calls.Constant_str {.str x,H,I.tok _,⟨_,rfl⟩,h}
abbrev Gl(X:Cx)(x:Str):Prop:=X.env.kindOf x=AA .globalImplicit
def M9{E:AG->AK->Prop}{a:Pos}{Q:AG->AK->Prop}(I:Inv X pins σ H s)(c:Gl X x)(b:X.mg x=AA u)(h:Q u s)
  (d:(x==("__debug__":Str))=AE:=by decide):AR (model X.prog X.w) X.A (eval (.Name x a) X.env) Q E s:=
 Gz I.ok.kind c (Calls.loadGlobal_global (by rw[I.ok.glob];show I.mod.glob.keeps I.bk) b h) d
def L6{E:AG->AK->Prop}{a:Pos}{Q:AG->AK->Prop}(I:Inv X pins σ H s)(e:Gl X x)(d:X.mg x=AF)(b:BK x=AA u)(h:Q u s)
  (c:x≠"__name__":=by decide) (f:(x==("__debug__":Str))=AE:=by decide):AR (model X.prog X.w) X.A (eval (.Name x a) X.env) Q E s:=by
 let{j,i,g}:=I.mod.blt;show Gz I.ok.kind e (Calls.loadGlobal_builtin (by rw[I.ok.glob];show I.mod.glob.keeps I.bk) d (by rw[I.ok.blt];show i.keeps I.bk) ((g x c).trans b) h) f
def bh1{v:V}(b:Gl X x)(a:X.mg x=AA u)(r:i7 v u)(c:(x==("__debug__":Str))=AE:=by decide):PE X (.Name x pos) (tC v):=
 λ_ _ _ H _ I h=>M9 I b a ⟨v,H,I,r,h⟩ c
def cd2{v:V}(d:Gl X x)(c:X.mg x=AF)(a:BK x=AA u)(r:i7 v u)(b:x≠"__name__":=by decide)(e:(x==("__debug__":Str))=AE:=by decide):PE X (.Name x pos) (tC v):=
 λ_ _ _ H _ I h=>L6 I d c a ⟨v,H,I,r,h⟩ b e
variable {a b:AT} {ta tb:TE} 
abbrev PC(X:Cx)(op:EO)(a b:AT)(t:TE):Prop:=
 ∀(pins:List (AI×Obj))(s:AK)(σ:St)(H:Hp)(Q:VK),Inv X pins σ H s->t σ H Q ->
  AR (model X.prog X.w) X.A (eval a X.env) (λv s₁=>AR (model X.prog X.w) X.A (eval b X.env) (λu s₂=>AR (model X.prog X.w) X.A (CD op v u) (EP X pins σ Q) X.xe s₂) X.xe s₁) X.xe s
def bb2 b(h:op≠.In)(d:op≠.NotIn):Cc op b=AE:=by
 have c:(op==CmpOp.In)=AE:=by lia
 have a:(op==II)=AE:=by lia
 cases b<;>simp[Cc,c,a]
abbrev dl8(ta:TE):TE:=λσ H Q=>ta σ H λx H1=>Q (.bl (AB (x=.non))) H1
abbrev de1(ta:TE):TE:=λσ H Q=>ta σ H λx H1=>Q (.bl (!decide (x=.non))) H1
def i7.none_iff{x}{v}(r:i7 x v):(v==BQ)=AB (x=.non):=by
 cases x with
 |non=>cases r;rfl
 |bl _=>cases r;rfl
 |int _=>let{t,rfl}:=r;rfl
 |str _=>let{t,rfl}:=r;rfl
 |byt _=>let{t,rfl}:=r;rfl
 |flt _=>let{t,rfl}:=r;rfl
 |ref _=>cases r;rfl
 |ty _=>cases r;rfl
def bk0{j pos'}(f:PE X a ta):PC X .Is a (.Constant .none j pos') (dl8 ta):=by
 intro b s c H Q I h;apply thn (f b s c H _ I h) λv s1 z2=>?_;let{x,i,g,d,e}:=z2;show IY (is_none_gen {.bl _,i,g,by rw[d.none_iff];rfl,e})
def bi4{j pos'}(f:PE X a ta):PC X .IsNot a (.Constant .none j pos') (de1 ta):=by
 intro b s c H Q I h;apply thn (f b s c H _ I h) λv s1 z3=>?_;let{x,i,g,d,e}:=z3;show IY (isnot_none_gen {.bl _,i,g,by rw[d.none_iff];rfl,e})
abbrev tB(t:TE):TT:=λσ H Q=>t σ H λx H1=>∃c,x=.bl c/\Q c H1
def bk2{t:TE}(h:PC X op a b t)(c:Cc op b=AE:=by first|show bb2 _ ∅ ∅|rfl):PE X (.Compare a [op] [b] pos) t:=λpins s σ H Q I hw=>LW (h pins s σ H Q I hw) c
def bk1{t:TE}(h:PC X op a b t)(e:Cc op b=AE:=by first|show bb2 _ ∅ ∅|rfl):PT X (.Compare a [op] [b] pos) (tB t):=by
 intro c s f H Q I j;apply JM (thn (h c s f H _ I j) λv s1 e=>thn e λu s2 h2=>thn h2 λc s3 z4=>?_) e;let{x,l,k,g,i}:=z4;let{d,rfl,q}:=i;cases g;show CU ⟨l,k,q⟩
def cp4{e:AT}{t:TE}(h:PE X e t)(j:∀a,IH e X.env a=(do let v <-a;Hv e.pos;holding [v] (truthy v)):=by intro _;rfl):PT X e (tB t):=by
 intro b s c H Q I i;apply isTrue_plain (thn (h b s c H _ I i) λv s1 z5=>?_) (j _);let{x,l,k,f,g}:=z5;let{d,rfl,q}:=g;cases f;show CU ⟨l,k,q⟩
variable {tA tB':TT} {j8:List AT}
abbrev dm4(t u:TT):TT:=λσ H Q=>t σ H λc H1=>if c=AD then u σ H1 Q else Q AE H1
abbrev tOr(t u:TT):TT:=λσ H Q=>t σ H λc H1=>if c=AD then Q AD H1 else u σ H1 Q
abbrev dk0(t:TT):TT:=λσ H Q=>t σ H λc H1=>Q (!c) H1
def cl7(f:PT X a tA):PW X (.BoolOp .And [a] pos) tA:=by
 intro g b s d H Q I h;apply isTrue_and (thn (f b s d H Q I h) λc s1 e=>?_);cases c with
 |true=>show isTrue_and_nil e
 |false=>show e
def c07(f:PT X a tA):PW X (.BoolOp .Or [a] pos) tA:=by
 intro g b s d H Q I h;apply isTrue_or (thn (f b s d H Q I h) λc s1 e=>?_);cases c with
 |false=>show isTrue_or_nil e
 |true=>show e
def cv0(i:PT X a tA)(g:PW X (.BoolOp .And (b::j8) pos) tB'):PW X (.BoolOp .And (a::b::j8) pos) (dm4 tA tB'):=by
 intro f d s e H Q I h;apply isTrue_and (thn (i d s e H _ I h) λc s1⟨H1,I1,q1⟩=>?_);cases c with
 |true=>show g f d s1 e H1 Q I1 q1
 |false=>show⟨H1,I1,q1⟩
def c92(i:PT X a tA)(g:PW X (.BoolOp .Or (b::j8) pos) tB'):PW X (.BoolOp .Or (a::b::j8) pos) (tOr tA tB'):=by
 intro f d s e H Q I h;apply isTrue_or (thn (i d s e H _ I h) λc s1⟨H1,I1,q1⟩=>?_);cases c with
 |true=>show⟨H1,I1,q1⟩
 |false=>show g f d s1 e H1 Q I1 q1
def cw6(b:PT X a tA):PT X (.UnaryOp .Not a pos) (dk0 tA):=(λpins s σ H Q I h=>isTrue_not (b pins s σ H (λc=>Q (!c)) I h))
abbrev c88(ta tb:TE):TE:=λσ H Q=>ta σ H λx H1=>∃c,x=.bl c/\if c=AD then tb σ H1 Q else Q (.bl AE) H1
abbrev df7(ta tb:TE):TE:=λσ H Q=>ta σ H λx H1=>∃c,x=.bl c/\if c=AD then Q (.bl AD) H1 else tb σ H1 Q
abbrev dd4(ta:TE):TE:=λσ H Q=>ta σ H λx H1=>∃c,x=.bl c/\Q (.bl (!c)) H1
def bl6{op}{t}(h:PE X a t):PE X (.BoolOp op [a] pos) t:=λpins s σ H Q I hw=>BoolOp_one (h pins s σ H Q I hw)
def cw7(l:PE X a ta)(k:PE X (.BoolOp .And (b::j8) pos) tb):PE X (.BoolOp .And (a::b::j8) pos) (c88 ta tb):=by
 intro d s f H Q I h;apply BoolOp_and (thn (l d s f H _ I h) λv s1 z6=>?_);let{x,i,g,j,e}:=z6;let{c,rfl,e}:=e;cases j;apply CU ?_;cases c with
 |true=>show k d s1 f i Q g e
 |false=>show{.bl AE,i,g,rfl,e}
def db0(l:PE X a ta)(k:PE X (.BoolOp .Or (b::j8) pos) tb):PE X (.BoolOp .Or (a::b::j8) pos) (df7 ta tb):=by
 intro d s f H Q I h;apply BoolOp_or (thn (l d s f H _ I h) λv s1 z7=>?_);let{x,i,g,j,e}:=z7;let{c,rfl,e}:=e;cases j;apply CU ?_;cases c with
 |false=>show k d s1 f i Q g e
 |true=>show{.bl AD,i,g,rfl,e}
def cs8(g:PE X a ta):PE X (.UnaryOp .Not a pos) (dd4 ta):=by
 intro b s e H Q I h;apply UnaryOp_ (thn (g b s e H _ I h) λv s1 z8=>?_);let{x,j,i,f,d}:=z8;let{c,rfl,d}:=d;cases f;show not_of (CU {.bl !c,j,i,rfl,d})
abbrev tIf(t:TT)(ta tb:TE):TE:=λσ H Q=>t σ H λc H1=>if c=AD then ta σ H1 Q else tb σ H1 Q
def b99{c}(g:PT X c tA)(j:PE X a ta)(i:PE X b tb):PE X (.IfExp c a b pos) (tIf tA ta tb):=by
 intro e s f H Q I h;apply wpAny_IfExp (thn (g e s f H _ I h) λd s1⟨H1,I1,q1⟩=>?_);cases d with
 |true=>show j e s1 f H1 Q I1 q1
 |false=>show i e s1 f H1 Q I1 q1
end
end
section
variable{u:AG}{X:Cx}{pins:List (AI×Obj)}{σ:St}{H:Hp}{s:AK}{e tg:AT}{te:TE}{pos:Pos}{P:Ag}
abbrev SqL(K:AO)(H:Hp)(a:AI)(xs:List V):Prop:=
 Rd H a (.lst xs)\/
  ∃(o:Obj)(its:Array AG)(n:Nat),K.lookup a=AA o/\o.cls=.type "list"/\o.dict=AF/\o.data=.seq its n/\its.size<=sizeLine/\i5 xs its.toList
abbrev SqT(K:AO)(H:Hp)(a:AI)(xs:List V):Prop:=
 Rd H a (.tup xs)\/
  ∃(o:Obj)(its:Array AG)(n:Nat),K.lookup a=AA o/\o.cls=.type "tuple"/\o.dict=AF/\o.data=.seq its n/\its.size<=sizeLine/\i5 xs its.toList
abbrev dl0:AG->Option V
 |.none=>AA .non
 |.bool b=>AA (.bl b)
 |.int i _=>AA (.int i)
 |.str x _=>AA (.str x)
 |.bytes b _=>AA (.byt b)
 |.float b _=>AA (.flt b)
 |.ref a=>AA (.ref a)
 |.type n=>AA (.ty n)
 |_=>AF
def i7.abs{x}(r:i7 x u):dl0 u=AA x:=by
 cases x with
 |non=>cases r;rfl
 |bl _=>cases r;rfl
 |int _=>let{t,rfl}:=r;rfl
 |str _=>let{t,rfl}:=r;rfl
 |byt _=>let{t,rfl}:=r;rfl
 |flt _=>let{t,rfl}:=r;rfl
 |ref _=>cases r;rfl
 |ty _=>cases r;rfl
theorem i7.inj{x y}(r:i7 x u)(q:i7 y u):x=y:=At (r.abs.symm.trans q.abs)
theorem i5.inj:∀{b a}{us},i5 b us->i5 a us->b=a
 |_,_,_,.nil,.nil=>rfl
 |_,_,_,.cons r t,.cons c t'=>by rw[r.inj c,i5.inj t t']
section
variable {a:AI} {xs ys:List V}
def Inv.list(I:Inv X pins σ H s)(h:SqL X.K H a xs):∃b:List AG,i5 xs b/\PlainL s.heap a b.toArray/\xs.length<=sizeLine:=by
 rcases h with h|⟨o,b,n,d,g,f,c,hz,r⟩
 ·let{z,b,n,r,e}:=h.ok I.hok;show{b,r,⟨_,n,e,rfl,rfl,rfl⟩,z}
 ·apply{b.toList,r,{o,n,I.kIn a o d,g,f,by simpa using c},?_};have e:=r.length;simp at e;lia
def Inv.tupleD(I:Inv X pins σ H s)(h:SqT X.K H a xs):∃b:List AG,i5 xs b/\E8 s.heap a b.toArray/\xs.length<=sizeLine:=by
 rcases h with h|⟨o,b,n,f,g,c,d,hz,r⟩
 ·let{z,b,r,p}:=h.ok I.hok;show⟨b,r,p,z⟩
 ·apply{b.toList,r,{o,I.kIn a o f,g,c,n,by simpa using d},?_};have e:=r.length;simp at e;lia
def Inv.tuple(I:Inv X pins σ H s)(h:SqT X.K H a xs):∃b:List AG,i5 xs b/\IG s.heap a b.toArray/\xs.length<=sizeLine:=by
 let{b,r,p,z}:=I.tupleD h;show⟨b,r,p.tup,z⟩
def Inv.list_inj(I:Inv X pins σ H s)(h:SqL X.K H a xs)(h':SqL X.K H a ys):xs=ys:=by
 let{b,r,{o,n,e,_,_,d},_}:=I.list h;let{its',c,{f,g,i,_,_,d'},_}:=I.list h';have:b=its':=by simp_all
 subst this;show r.inj c
def Inv.tuple_inj(I:Inv X pins σ H s)(h:SqT X.K H a xs)(h':SqT X.K H a ys):xs=ys:=by
 let{b,r,{o,e,_,n,d},_}:=I.tuple h;let{its',c,{f,i,_,g,d'},_}:=I.tuple h';have:b=its':=by simp_all
 subst this;show r.inj c
end
@[reducible]noncomputable def Cx.wish(X:Cx)(E:AG->AK->Prop):Cx:={X with xe:=E}
theorem Cx.Ok.wish(a:X.Ok)E:(X.wish E).Ok:=
 ⟨a.mod,a.kind,a.glob,a.blt,a.above,a.inj,a.has,a.cab,a.hd,a.frames,a.stk,a.exf,a.bs,a.bsz,a.noex,a.exfs,a.funs,a.frf⟩
def Cx.Ok.unwish{E}(a:(X.wish E).Ok):X.Ok:=
 ⟨a.mod,a.kind,a.glob,a.blt,a.above,a.inj,a.has,a.cab,a.hd,a.frames,a.stk,a.exf,a.bs,a.bsz,a.noex,a.exfs,a.funs,a.frf⟩
section
variable {E:AG->AK->Prop}
theorem Inv.wish(I:Inv X pins σ H s)E:Inv (X.wish E) pins σ H s:={I.ok.wish E,I.os,I.bare,I.base,I.loc,I.cell,I.free,I.freeC,I.pin,I.hok,I.len}
theorem Inv.unwish(I:Inv (X.wish E) pins σ H s):Inv X pins σ H s:=⟨I.ok.unwish,I.os,I.bare,I.base,I.loc,I.cell,I.free,I.freeC,I.pin,I.hok,I.len⟩
theorem SP.unwish{D}{f}{s'}(h:SP (X.wish E) pins D f s'):SP X pins D f s':=by
 cases f with
 |next=>let{a,H',I,q}:=h;show⟨a,H',I.unwish,q⟩
 |brk=>let{a,H',I,q}:=h;show⟨a,H',I.unwish,q⟩
 |cont=>let{a,H',I,q}:=h;show⟨a,H',I.unwish,q⟩
 |ret u=>let{v,a,H',I,r,q}:=h;show⟨v,a,H',I.unwish,r,q⟩
end
section
variable {st:BG} {j8:List BG} {t u:TS} 
abbrev bo5:TS:=λD σ H=>D.nx σ H
abbrev dh5(t u:TS):TS:=λD σ H=>t {D with nx:=u D} σ H
def cn0:PSs X [] bo5:=λ_ _ σ H _ I h=>EL ⟨σ,H,I,h⟩
def b87(i:PS X st t)(g:PSs X j8 u):PSs X (st::j8) (dh5 t u):=by
 intro a s d H D I h;apply Dw (thn (i a s d H {D with nx:=u D} I h) λf s1 q=>?_);cases f with
 |next=>
  let{b,H',k,q}:=q;show g a s1 b H' D k q
 |ret v=>show q
 |brk=>show q
 |cont=>show q
def aa7(e:PS X st t):PSs X [st] t:=by
 intro a s c H D I h;apply Dw (thn (e a s c H D I h) λf s1 q=>?_);cases f with
 |next=>show EL q
 |ret v=>show q
 |brk=>show q
 |cont=>show q
abbrev df3:TS:=λD σ H=>D.ct σ H
def cn4:PS X (.Pass pos) bo5:=λ_ _ σ H _ I h=>wpAny_Pass ⟨σ,H,I,h⟩
def bv7:PS X (.Continue pos) df3:=λ_ _ σ H _ I h=>wpAny_Continue ⟨σ,H,I,h⟩
def Inv.quiet(I:Inv X pins σ H s):interactive X.env=AE:=by simp[interactive,I.ok.kind]
abbrev c62(te:TE):TS:=λD σ H=>te σ H λ_ H1=>D.nx σ H1
def cj6(d:PE X e te)(c:Cj e AF pos.line X.env=pure AE:=by rfl):PS X (.Expr e pos) (c62 te):=by
 intro a s b H D I h;show wpAny_Expr_any (thn (d a s b H _ I h) λv s1⟨x,H1,I1,r1,q1⟩=>⟨b,H1,I1,q1⟩) I.quiet c
abbrev dm5(te:TE):TS:=λD σ H=>te σ H D.rt
def ag0(a:PE X e te):PS X (.Return (AA e) pos) (dm5 te):=λpins s σ H D I h=>wpAny_Return_some (thn (a pins s σ H _ I h) λv s1⟨x,H1,I1,r1,q1⟩=>⟨x,σ,H1,I1,r1,q1⟩)
abbrev df1:TS:=λD _ H=>D.rt .non H
def cg9:PS X (.Return AF pos) df1:=λ_ _ σ H _ I h=>wpAny_Return_none {.non,σ,H,I,rfl,h}
abbrev dk8(c:TT)(t u:TS):TS:=λD σ H=>c σ H λb H1=>if b=AD then t D σ H1 else u D σ H1
def bq3{c}{a b}{tc}(g:PT X c tc)(j:PSs X a t)(i:PSs X b u):PS X (.If c a b pos) (dk8 tc t u):=by
 intro e s f H D I h;apply wpAny_If (thn (g e s f H _ I h) λd s1⟨H1,I1,q1⟩=>?_);cases d with
 |true=>show j e s1 f H1 D I1 q1
 |false=>show i e s1 f H1 D I1 q1
abbrev cr3:TS:=λ_ _ _=>False
def bz8{a:List BG}:PSs X a cr3:=λ_ _ _ _ _ _ h=>h.elim
end
@[reducible]noncomputable def TG:=V->St->Hp->(St->Hp->Prop)->Prop
@[reducible]noncomputable def TGs:=List V->St->Hp->(St->Hp->Prop)->Prop
abbrev PG(X:Cx)(target:AT)(t:TG):Prop:=
 ∀(pins:List (AI×Obj))(s:AK)(σ:St)(H:Hp)(v:V)(u:AG)(Q:St->Hp->Prop),Inv X pins σ H s->i7 v u->t v σ H Q ->
  AR (model X.prog X.w) X.A (assign target X.env u) (λ_ s'=>∃σ' H',Inv X pins σ' H' s'/\Q σ' H') X.xe s
abbrev PGs(X:Cx)(ts:List AT)(t:TGs):Prop:=
 ∀(pins:List (AI×Obj))(s:AK)(σ:St)(H:Hp)(vs:List V)(us:List AG)(Q:St->Hp->Prop),Inv X pins σ H s->i5 vs us->t vs σ H Q ->
  AR (model X.prog X.w) X.A (assignInOrder ((CG ts X.env).map (·.2)) us) (λ_ s'=>∃σ' H',Inv X pins σ' H' s'/\Q σ' H') X.xe s
@[reducible]noncomputable def aw5:=V->V->V->Hp->(Hp->Prop)->Prop
abbrev br1(X:Cx)(t:aw5):Prop:=
 ∀(pins:List (AI×Obj))(s:AK)(σ:St)(H:Hp)(o i v:V)(ov iv u:AG)(Q:Hp->Prop),Inv X pins σ H s->i7 o ov->i7 i iv->i7 v u->t o i v H Q ->
  AR (model X.prog X.w) X.A (KR ov iv u) (λ_ s'=>∃H',Inv X pins σ H' s'/\Q H') X.xe s
section
abbrev av1(i:Nat):TG:=λv σ H Q=>Q (σ.set i (AA v)) H
def bf9{i:Nat}{x:Str}(d:X.N.Nodup)(hi:X.N[i]?=AA x)(b:Loc X.env.scope x)(c:X.fn x=AD\/X.env.scope.names.lookup x=AA .local:=by first|show .inl rfl|show .inr rfl|assumption):PG X (.Name x pos) (av1 i):=by
 intro a s e H v u Q I r h;show KS (ae9 I d hi b r (λs' I'=>⟨_,H,I',h⟩) c)
abbrev br5:TGs:=λvs σ H Q=>vs=[]/\Q σ H
abbrev bp6(t:TG)(u:TGs):TGs:=λvs σ H Q=>∃v r,vs=v::r/\t v σ H λσ' H'=>u r σ' H' Q
def cn3:PGs X [] br5:=by
 intro a s b H vs us Q I r h;let{e,h}:=h;show assignInOrder_nil ⟨b,H,I,h⟩
def cc1{b:List AT}{t:TG}{u:TGs}(l:PG X e t)(k:PGs X b u)
  (j:(CG (e::b) X.env).map (·.2)=assign e X.env::(CG b X.env).map (·.2):=by rfl):PGs X (e::b) (bp6 t u):=by
 intro a s f H vs us Q I r h;let{v,p,m,h}:=h;subst m;cases r with
 |cons r g=>
  rw[j];apply assignInOrder_cons (thn (l a s f H _ _ _ I r h) λ_ s1 z9=>?_);let{c,o,n,i}:=z9;show k a s1 c o _ _ Q n g i
abbrev dk9(K:AO)(n:Nat)(t:TGs):TG:=λv σ H Q=>∃a xs,v=.ref a/\SqT K H a xs/\xs.length=n/\t xs σ H Q
def cx7{d:List AT}{k:Nat}{t:TGs}{n:Nat}(y:X.calm=AD)(h:PGs X d t)
  (w:(CG d X.env).length=n:=by rfl) (g:(CG d X.env).findIdx? (·.1)=AF:=by rfl):PG X (.Tuple d k pos) (dk9 X.K n t):=by
 intro c s i H v u Q I r f;let{a,l,z,q,x,f}:=f;subst z;cases r;let{m,j,p,hz}:=I.tuple q;apply assign_Tuple_tuple (I.ok.hd y) p (by simp[w,<-x,j.length]) g λh' hx=>?_;have A:Inv X c i H {s with heap:=h'}:=I.kept (t':=s.toks) λb o e=>hx b o (Bd (Az e)) e;show h c _ i H l _ Q A (by simpa using j) f
abbrev df9(to ti:TE)(t:aw5):TG:=λv σ H Q=>to σ H λo H1=>ti σ H1 λi H2=>t o i v H2 λH3=>Q σ H3
def cx5{o i:AT}{e f:TE}{t:aw5}(n:PE X o e)(hi:PE X i f)(m:br1 X t)
  (p:∀v,assign (.Subscript o i pos) X.env v=(do
   let ov <-holding [v] (eval o X.env)
   let iv <-holding [v,ov] (eval i X.env)
   Hv pos
   holding [v,ov,iv] (KR ov iv v)
   release [v,ov,iv] []):=by intro _;rfl):PG X (.Subscript o i pos) (df9 e f t):=by
 intro a s c H v u Q I r h;rw[p];apply AC (Bg (thn (n a s c H _ I h) λov s1 z10=>?_));let{x,A,w,j,l}:=z10;apply AC (Bg (thn (hi a s1 c A _ w l) λiv s2 z11=>?_));let{y,z,q,g,k}:=z11;apply AC (IZ (AC (Bg (thn (m a s2 c z x y v ov iv u _ q j g r k) λ_ s3⟨H3,I3,q3⟩=>?_))));show wpAny_release ⟨c,H3,I3,q3⟩
abbrev br2(te:TE)(g:TG):TS:=λD σ H=>te σ H λx H1=>g x σ H1 D.nx
def bm7{g:TG}(k:PE X e te)(j:PG X tg g)(i:FA [tg] e pos.line X.env=pure AE:=by rfl)(f:Ia [tg] e X.env=pure AF:=by rfl)
  (l:(CG [tg] X.env).map (·.2)=[assign tg X.env]:=by rfl):PS X (.Assign [tg] e pos) (br2 te g):=by
 intro a s b H D I h;apply wpAny_Assign_stores (thn (k a s b H _ I h) λv s1 z12=>?_) i f;let{x,n,m,c,d}:=z12;rw[l];show thn (j a s1 b n x v _ m c d) λ_ s2 q=>q
def cr6{i:Nat}{x:Str}{a:Pos}(m:X.N.Nodup)(hi:X.N[i]?=AA x)(g:Loc X.env.scope x)(l:PE X e te)(j:Cj e (AA (.Name x a)) pos.line X.env=pure AE:=by rfl)(k:X.fn x=AD\/X.env.scope.names.lookup x=AA .local:=by first|show .inl rfl|show .inr rfl|assumption):
  PS X (.Assign [.Name x a] e pos) (br2 te (av1 i)):=by
 intro b s c H D I h;apply wpAny_Assign_Name (thn (l b s c H _ I h) λv s1 z13=>?_) j;let{y,o,n,d,f}:=z13;show ae9 n m hi g d (λs2 I2=>⟨_,o,I2,f⟩) k
end
section
abbrev c15(c:TT)(tb:TS):TS:=λD σ H=>∃W:Nat->St->Hp->Prop,(∃m,W m σ H)/\∀m σ H,W m σ H ->
 c σ H λb H1=>if b=AD then ∃N:St->Hp->Prop,(∀σ' H',N σ' H'->∃m',m'<m/\W m' σ' H')/\tb {D with nx:=N,ct:=N,bk:=D.nx} σ H1 else D.nx σ H1
def cc9{c}{body}{tc}{tb}(q:GN (model X.prog X.w) X.A X.env X.xe)(z:PT X c tc)(B:PSs X body tb):PS X (.While c body [] pos) (c15 tc tb):=by
 intro d s u H D I h;let{W,{m0,x},g}:=h;apply wpAny_While (codeAny_whileLoop (λn s'=>∃e H',Inv X d e H' s'/\W n e H') ?_ m0 ⟨u,H,I,x⟩);rintro n s1 ⟨σ1,H1,I1,w1⟩;apply Cv q (thn (z d s1 σ1 H1 _ I1 (g n σ1 H1 w1)) λb s2⟨H2,I2,j⟩=>?_);cases b with
 |true=>
  let{N,r,j}:=j;apply Cv q (thn (B d s2 σ1 H2 _ I2 j) λf s3 q3=>?_);cases f with
  |next=>
   let{a,i,p,l}:=q3;let{m,o,k}:=r a i l;show⟨m,o,a,i,p,k⟩
  |cont=>
   let{a,i,p,l}:=q3;let{m,o,k}:=r a i l;show⟨m,o,a,i,p,k⟩
  |brk=>show q3
  |ret v=>show q3
 |false=>
  show EL ⟨σ1,H2,I2,j⟩
end
structure It where
 go:Nat->Hp->Prop
 yld:Nat->Hp->V->Hp->Prop
 stop:Nat->Hp->Prop
abbrev z9(X:Cx)(pins:List (AI×Obj))(H:Hp)(b:AI):Prop:=
 H b=AF/\b≠X.env.locals/\b∉X.fs/\(b∈X.ex\/X.s₀.heap.objs.size<=b)/\(∀x c,X.env.cells.lookup x=AA c->c≠b)/\∀p∈X.pn++pins,p.1≠b
def Inv.fpOk{H'}{b:AI}(I:Inv X pins σ H s)(a:s.heap.objs.size<=b)(d:H' b=AF):z9 X pins H' b:=by
 apply{d,GH (Ai I.lt a),I.nofs a,.inr (BB I.sz a),λx c e z=>?_,λp hp z=>?_}
 ·let{v,q}:=I.cell x c e;show absurd (Ai q.lt (by simp_all)) (CS _)
 ·show absurd (Ai (Az (I.pin p hp).1) (by simp_all)) (CS _)
structure Turn(P:Ag)(w:Aw)(K:AO)(tg:AT)(J:It)(fp:List AI)(it:AI)(tn:Nat->BA->Prop):Prop where
 mem:it∈fp
 obj:∀i h,tn i h->∀b∈fp,∃o,h.get? b=AA o/\∀v,o.data≠.cell v
 keep:∀i h h',tn i h->(∀b∈fp,∀o,h.get? b=AA o->h'.get? b=AA o)->tn i h'
 item:∀(X:Cx),X.prog=P->X.w=w->X.K=K->X.calm=AD->∀(i:Nat)(pins:List (AI×Obj))(s:AK)(σ:St)(H:Hp)(E:AG->AK->Prop),Inv X pins σ H s->(∀b∈fp,z9 X pins H b)->tn i s.heap->J.go i H ->
  AR (model P w) X.A (Ee (.ref it)) (λr s1=>∃u,r=AA u /\
   AR (model P w) X.A (Fk tg (.ref it) u) (λ_ s2=>∃x H',Inv X pins σ H' s2/\i7 x u/\J.yld i H x H'/\tn (i+1) s2.heap/\∀b∈fp,H' b=AF) E s1) E s
 done:∀(X:Cx),X.prog=P->X.w=w->X.K=K->X.calm=AD->∀(i:Nat)(pins:List (AI×Obj))(s:AK)(σ:St)(H:Hp)(E:AG->AK->Prop),Inv X pins σ H s->(∀b∈fp,z9 X pins H b)->tn i s.heap->J.stop i H ->
  AR (model P w) X.A (Ee (.ref it)) (λr s1=>r=AF/\Inv X pins σ H s1) E s
 self:∀(A:BR)(i:Nat)(s:AK)(Q:AG->AK->Prop)(E:AG->AK->Prop),tn i s.heap->Q (.ref it) s->AR (model P w) A (HQ (.ref it)) Q E s
@[reducible]noncomputable def TI:=St->Hp->(It->Hp->Prop)->Prop
abbrev PIE(X:Cx)(pins:List (AI×Obj))(σ:St)(tg:AT)(R:It->Hp->Prop)(itv:AG)(s2:AK):Prop:=
 ∃(it:AI)(fp:List AI)(tn:Nat->BA->Prop)(J:It)(H':Hp),itv=.ref it/\Inv X pins σ H' s2/\Turn X.prog X.w X.K tg J fp it tn/\tn 0 s2.heap/\(∀b∈fp,z9 X pins H' b)/\R J H'
abbrev PI(X:Cx)(tg iter:AT)(wi:TI):Prop:=
 ∀(pins:List (AI×Obj))(s:AK)(σ:St)(H:Hp)(R:It->Hp->Prop),Inv X pins σ H s->wi σ H R ->
  AR (model X.prog X.w) X.A (eval iter X.env) (λv s1=>AR (model X.prog X.w) X.A (HQ v) (PIE X pins σ tg R) X.xe s1) X.xe s
def ac4{M}{A}{E}{it}{o}{n}{vs}{Q}(b:s.heap.get? it=AA o)(e:o.cls=.type n)(d:o.data=.fields vs)
  (c:["enumerate","zip","dict_itemiterator","dict_reverseitemiterator","odict_iterator","itertools.zip_longest","itertools.pairwise"].contains n=AE) (a:Q () s):AR M A (Fk tg (.ref it) u) Q E s:=by
 cases tg<;>first
  |show AL a
  | (cases u <;> first
    |show AL a
    | (apply AC (wpAny_load b ?_)
       rw[e,d];change AR M A (if(["enumerate","zip","dict_itemiterator","dict_reverseitemiterator","odict_iterator","itertools.zip_longest","itertools.pairwise"].contains n&&vs[0]?==AA (By _))=AD then _ else _) Q E s;rw[if_neg (by intro h;rw[c]at h;cases h)];show AL a))
abbrev Itl(K:AO)(a:AI):It:=
 {λi H=>∃xs x,SqL K H a xs/\xs[i]?=AA x,λi H x H'=>H'=H/\∀xs,SqL K H a xs->xs[i]?=AA x,λi H=>∃xs,SqL K H a xs/\xs.length<=i}
abbrev Itt(K:AO)(a:AI):It:=
 {λi H=>∃xs x,SqT K H a xs/\xs[i]?=AA x,λi H x H'=>H'=H/\∀xs,SqT K H a xs->xs[i]?=AA x,λi H=>∃xs,SqT K H a xs/\xs.length<=i}
abbrev Itr(lo:Int)(n:Nat):It:={λi _=>i<n,λi H x H'=>H'=H/\x=.int (lo+i),λi _=>n<=i}
def b22{w:Aw}{K:AO}(a g:AI):Turn P w K tg (Itl K a) [g] g (λi h=>h.IsListIter g a i) where
 mem:=by simp
 obj:=λi h st b hb=>by
  have e:b=g:=by simpa using hb
  subst e;let{o,e,c,d}:=st;show{o,e,λv z=>by rw[d]at z;cases z}
 keep:=λi h h' st k=>st.at λo e=>k g ∎ o e
 item:=by
  intro X v r y J i f s G H E I l st t;subst v r y;let{L,x,j,q}:=t;let{n,m,p,hz}:=I.list j;let{u,N,M}:=m.get q;let{F,D,O,C,B,A}:=l g ∎;apply wpAny_pyNext_list_item st p.isList (x:=u) (by simpa using N) λh' st' sb=>?_;have Q:Inv X f G H {s with heap:=h'}:=I.turned (t':=s.toks) (λb o hb e=>(sb.2 b hb).trans e) F D C B A;let{o,e,c,d}:=id st';show{u,rfl,ac4 (s:={s with heap:=h'}) e c d ∅ {x,H,Q,M,{rfl,λys hy=>by rw[I.list_inj hy j];show q},st',λb hb=>(l b hb).1}}
 done:=by
  intro X v r y J i f s G H E I l st t;subst v r y;let{L,j,q}:=t;let{n,m,p,hz}:=I.list j;let{F,D,O,C,B,A}:=l g ∎;have R:=m.length;show wpAny_pyNext_list_end (I.ok.hd J) st p.isList (by simp;lia) λh' eb=>{rfl,I.turned (t':=s.toks) (λb o hb e=>eb b o hb e) F D C B A}
 self:=λ_ _ _ _ _ st h=>wpAny_pyIter_listiter st h
def by3{w:Aw}{K:AO}(a j:AI):Turn P w K tg (Itt K a) [j] j (λi h=>h.IsTupleIter j a i) where
 mem:=by simp
 obj:=λi h st b hb=>by
  have e:b=j:=by simpa using hb
  subst e;let{o,e,c,d}:=st;show{o,e,λv z=>by rw[d]at z;cases z}
 keep:=λi h h' st k=>st.at λo e=>k j ∎ o e
 item:=by
  intro X v r y J i f s G H E I m st t;subst v r y;let{L,x,l,q}:=t;let{g,n,p,hz}:=I.tuple l;let{u,N,M}:=n.get q;let{F,D,O,C,B,A}:=m j ∎;apply wpAny_pyNext_tuple_item st (show s.heap.IsTuple a g.toArray from p) (x:=u) (by simpa using N) λh' st' sb=>?_;have Q:Inv X f G H {s with heap:=h'}:=I.turned (t':=s.toks) (λb o hb e=>(sb.2 b hb).trans e) F D C B A;let{o,e,c,d}:=id st';show{u,rfl,ac4 (s:={s with heap:=h'}) e c d ∅ {x,H,Q,M,{rfl,λys hy=>by rw[I.tuple_inj hy l];show q},st',λb hb=>(m b hb).1}}
 done:=by
  intro X v r y J i f s G H E I m st t;subst v r y;let{L,l,q}:=t;let{g,n,p,hz}:=I.tuple l;let{F,D,O,C,B,A}:=m j ∎;have R:=n.length;show wpAny_pyNext_tuple_end (I.ok.hd J) st (show s.heap.IsTuple a g.toArray from p) (by simp;lia) λh' eb=>{rfl,I.turned (t':=s.toks) (λb o hb e=>eb b o hb e) F D C B A}
 self:=λ_ _ _ _ _ st h=>wpAny_pyIter_tupleiter st h
def bw9{w:Aw}{K:AO}(c:AI)(lo:Int)(n:Nat):Turn P w K tg (Itr lo n) [c] c (λi h=>IsRangeIter h c (lo+(i:Nat)*1) ((n:Int)-(i:Nat)) 1) where
 mem:=by simp
 obj:=λi h st b hb=>by
  simp_all
 keep:=λi h h' st k=>k c ∎ _ st
 item:=by
  intro X v u x g i a s r H E I d st f;subst v u x;let{q,p,y,m,l,j}:=d c ∎;have W:=Walks.range (prog:=X.prog) (w:=X.w) (I.ok.hd g) c lo 1 n;apply W.item i s _ _ f st λv h' tk hv st' kk=>?_;let{t,rfl}:=hv;have z:Inv X a r H {s with heap:=h',toks:=tk}:=I.turned (λb o hb e=>kk b o (by simpa using hb) e) q p m l j;apply{_,rfl,ac4 (s:={s with heap:=h',toks:=tk}) (n:="range_iterator") st' rfl rfl ∅ {.int (lo+i),H,z,{t,?_},⟨rfl,rfl⟩,st',λb hb=>(d b hb).1}};rw[Int.mul_one]
 done:=by
  intro X v u x g i a s r H E I d st f;let{q,p,y,m,l,j}:=d c ∎;show wpAny_pyNext_range_end (I.ok.hd g) st (by have:n<=i:=f;lia) λh' eb=>{rfl,I.turned (t':=s.toks) (λb o hb e=>eb b o hb e) q p m l j}
 self:=λ_ _ _ _ _ st h=>wpAny_pyIter_rangeiter st h
end
section
variable{pins:List (AI×Obj)}{σ:St}{H:Hp}{s:AK}{fp:List AI}
section
variable {X:Cx} {tg:AT}
def ba1{R}{E}{lo hi}{t u v}{tk}(I:Inv X pins σ H s)(g:-(2^62)<=lo)(f:lo<2^62)(d:-(2^62)<=hi)(c:hi<2^62)
  (q:R (Itr lo (hi-lo).toNat) H):AR (model X.prog X.w) X.A (HQ (.ref s.heap.objs.size)) (PIE X pins σ tg R) E {s with heap:=s.heap.push {cls:=.type "range",data:=.fields #[.int lo t,.int hi u,.int 1 v]},toks:=tk}:=by
 apply wpAny_pyIter_range (IsRange.new ..) (small_one g f d c) ?_;have a:Inv X pins σ H {s with heap:=s.heap.push {cls:=.type "range",data:=.fields #[.int lo t,.int hi u,.int 1 v]},toks:=tk}:=I.kept λb o=>AM _;apply{(s.heap.push {cls:=.type "range",data:=.fields #[.int lo t,.int hi u,.int 1 v]}).objs.size,[(s.heap.push {cls:=.type "range",data:=.fields #[.int lo t,.int hi u,.int 1 v]}).objs.size],_,_,H,rfl,
  a.kept λb o=>AM _,bw9 _ lo (hi-lo).toNat,?_,λb hb=>?_,q}
 ·have i:lo+((0:Nat))*1=lo:=by simp
  have h:((hi-lo).toNat:Nat)-((0:Nat))=Km lo hi 1:=by rw[rangeSize_one];split<;>lia
  rw[i,h];show Ae _ rfl
 ·have e:b=(s.heap.push {cls:=.type "range",data:=.fields #[.int lo t,.int hi u,.int 1 v]}).objs.size:=by simpa using hb
  subst e;show a.fpOk (AS _) (a.hok.fresh (AS _))
abbrev dc6(ta:TA):TI:=λσ H R=>ta σ H λvs H1=>∃j:Int,vs=[.int j]/\-(2^62)<=j/\j<2^62/\R (Itr 0 j.toNat) H1
abbrev de9(ta:TA):TI:=λσ H R=>ta σ H λvs H1=>∃i j:Int,vs=[.int i,.int j]/\(-(2^62)<=i/\i<2^62/\-(2^62)<=j/\j<2^62)/\R (Itr i (j-i).toNat) H1
def b11{a:AT}{f:TA}{p b:Pos}(u:Gl X "range")(o:X.mg "range"=AF)(v:PA X [a] f)(n:Ao [a] X.env=[(AE,eval a X.env)]:=by rfl):PI X tg (.Call (.Name "range" p) [a] [] b) (dc6 f):=by
 intro c s i H R I h;apply JW (L6 I u o boot_range (BF (thn (v b c s i H _ I h) λus s1 z14=>?_) n rfl));let{vs,x,w,l,d}:=z14;let{j,e,d,m,q}:=d;subst e;cases l with
 |cons r k=>
  cases k;let{t,rfl}:=r;show call_range_1 (ba1 w ⋯ ⋯ d m (by simpa using q))
def bz6{a b:AT}{m:TA}{p c:Pos}(A:Gl X "range")(z:X.mg "range"=AF)(B:PA X [a,b] m)(y:Ao [a,b] X.env=[(AE,eval a X.env),(AE,eval b X.env)]:=by rfl)(f:Ao [b] X.env=[(AE,eval b X.env)]:=by rfl):
  PI X tg (.Call (.Name "range" p) [a,b] [] c) (de9 m):=by
 intro d s n H R I h;apply JW (L6 I A z boot_range (BF (thn (B c d s n H _ I h) λus s1 z15=>?_) (by rw[y,f]) (by rw[f];rfl)));let{vs,D,C,o,l}:=z15;let{i,j,e,{l,x,w,v},q}:=l;subst e;cases o with
 |cons r k=>
  cases k with
  |cons u k=>
   cases k;let{t,rfl}:=r;let{t',rfl}:=u;show call_range_2 (ba1 C l x w v q)
abbrev dm1(wi:TI)(g:TG)(tb:TS):TS:=λD σ H=>wi σ H λJ H1=>∃W:Nat->Nat->St->Hp->Prop,(∃m,W 0 m σ H1)/\∀i m σ H,W i m σ H ->
 (J.stop i H/\D.nx σ H)\/(J.go i H/\∃N:St->Hp->Prop,(∀σ' H',N σ' H'->∃m',m'<m/\W (i+1) m' σ' H')/\∀x H',J.yld i H x H'->g x σ H' λσ2 H2=>tb {D with nx:=N,ct:=N,bk:=D.nx} σ2 H2)
abbrev aa8(fp:List AI)(h:BA):List (AI×Obj):=fp.filterMap λb=>(h.get? b).map λo=>(b,o)
def ae5{h}{b}{o}(a:b∈fp)(e:h.get? b=AA o):(b,o)∈aa8 fp h:=Ij.mpr {b,a,by rw[e];rfl}
def b14{h}{p}(a:p∈aa8 fp h):p.1∈fp/\h.get? p.1=AA p.2:=by
 let{b,c,e}:=Ij.mp a;cases q:h.get? b with
 |none=>simp_all
 |some o=>
  rw[q]at e;have d:=At e;subst d;show⟨c,q⟩
def Inv.pinned(I:Inv X pins σ H s)(f:∀b∈fp,z9 X pins H b)(c:∀b∈fp,∃o,s.heap.get? b=AA o/\∀v,o.data≠.cell v):=
 I.pins_of λp hp=>(BO.mp hp).elim (λz=>I.pin p (BI _ z)) λz=>by
  let{a,e}:=b14 z;let{j,i,h,_}:=f p.1 a;let{o,g,d}:=c p.1 a;rw[e]at g;simp_all
def Inv.unpinned{pl}(I:Inv X (pins++pl) σ H s):=I.pins_of λp hp=>I.pin p (BI _ (DW _ hp))
def ct7{l:AT}{z:List BG}{U:TI}{g:TG}{Y:TS}{P:Pos}(K:GN (model X.prog X.w) X.A X.env X.xe)(Z:X.calm=AD)(hi:PI X tg l U)(hg:PG X tg g)(p:PSs X z Y)
  (hs:∀x,Dl l X.env x=pure x:=by intro _;rfl):PS X (.For tg l z [] P) (dm1 U g Y):=by
 intro c s S H D I h;apply wpAny_For (thn (hi c s S H _ I h) λv s1 h1=>thn h1 λitv s2 h2=>?_) hs;let{it,L,V,J,H2,e,I2,T,O,f2,W,{m0,w0},C}:=h2;subst e;have k:∀{H':Hp},(∀b∈L,H' b=AF)->∀b∈L,z9 X c H' b:=λhn b p=>{hn b p,(f2 b p).2};apply codeAny_forLoop_any (λn s'=>∃i j H',Inv X c j H' s'/\V i s'.heap/\(∀b∈L,H' b=AF)/\W i n j H') ?_ m0 {0,S,H2,I2,O,λb p=>(f2 b p).1,w0};rintro n s3 ⟨i,σ3,H3,I3,st3,fr3,w3⟩
 rcases C i n σ3 H3 w3 with⟨E,qn⟩|⟨go,N,hN,F⟩
 ·apply Cv K (thn (T.done X rfl rfl rfl Z i c s3 σ3 H3 X.xe I3 (k fr3) st3 E) λr s4⟨hr,I4⟩=>?_);subst hr;show EL ⟨σ3,H3,I4,qn⟩
 ·apply Cv K (thn (T.item X rfl rfl rfl Z i c s3 σ3 H3 X.xe I3 (k fr3) st3 go) λr s4⟨u,hr,h4⟩=>?_);subst hr;apply Cv K (thn h4 λ_ s5 z16=>?_);let{x,H5,I5,r5,y5,B,Q}:=z16;have R:=I5.pinned (k Q) (T.obj _ _ B);apply Cv K (thn (hg _ s5 σ3 H5 x u _ R r5 (F x H5 y5)) λ_ s6 z17=>?_);let{M,H6,I6,q6}:=z17;apply Cv K (thn (p _ s6 M H6 _ I6 q6) λf s7 y=>?_);have q:∀{a:St}{t:Hp},Inv X (c++aa8 L s5.heap) a t s7->N a t->∃m,m<n/\∃i j H',Inv X c j H' s7/\V i s7.heap/\(∀b∈L,H' b=AF)/\W i m j H':=λ{a t}r G=>by
   let{m',hm,w7}:=hN a t G;apply{m',hm,i+1,a,t,r.unpinned,T.keep _ _ _ B λb p o e=>(r.pin (b,o) (BI _ (BI _ (ae5 p e)))).1,λb p=>?_,w7};let{o,e,d}:=T.obj _ _ B b p;show(r.pin (b,o) (BI _ (BI _ (ae5 p e)))).2.1
  cases f with
  |next=>let{a,t,r,G}:=y;show q r G
  |cont=>let{a,t,r,G}:=y;show q r G
  |brk=>let{a,t,r,y}:=y;show⟨a,t,r.unpinned,y⟩
  |ret v=>let{x7,a,t,r,r7,y}:=y;show⟨x7,a,t,r.unpinned,r7,y⟩
end
end
section
variable{op:EO}
@[reducible]noncomputable def R2:=V->V->Hp->VK->Prop
variable{r:R2}
abbrev OpR(X:Cx)(f:AG->AG->Sem AG)(r:R2):Prop:=
 ∀(pins:List (AI×Obj))(s:AK)(σ:St)(H:Hp)(x y:V)(v u:AG)(Q:VK),Inv X pins σ H s->i7 x v->i7 y u->r x y H Q ->
  AR (model X.prog X.w) X.A (f v u) (EP X pins σ Q) X.xe s
abbrev UnR(X:Cx)(f:AG->Sem AG)(r:V->Hp->VK->Prop):Prop:=
 ∀(pins:List (AI×Obj))(s:AK)(σ:St)(H:Hp)(x:V)(v:AG)(Q:VK),Inv X pins σ H s->i7 x v->r x H Q ->
  AR (model X.prog X.w) X.A (f v) (EP X pins σ Q) X.xe s
abbrev G8(X:Cx)(f:AG)(r:List V->Hp->VK->Prop):Prop:=
 ∀(pins:List (AI×Obj))(s:AK)(σ:St)(H:Hp)(xs:List V)(us:List AG)(Q:VK),Inv X pins σ H s->i5 xs us->r xs H Q ->
  AR (model X.prog X.w) X.A (call f us) (EP X pins σ Q) X.xe s
abbrev tOp(r:R2)(ta tb:TE):TE:=λσ H Q=>ta σ H λx H1=>tb σ H1 λy H2=>r x y H2 Q
abbrev tUn(r:V->Hp->VK->Prop)(ta:TE):TE:=λσ H Q=>ta σ H λx H1=>r x H1 Q
abbrev rI(C:Int->Int->Prop)(g:Int->Int->V):R2:=λx y H Q=>∃i j,x=.int i/\y=.int j/\C i j/\Q (g i j) H
abbrev rI0(g:Int->Int->V):R2:=λx y H Q=>∃i j,x=.int i/\y=.int j/\Q (g i j) H
abbrev rU(g:Int->V):V->Hp->VK->Prop:=λx H Q=>∃i,x=.int i/\Q (g i) H
section
variable {X:Cx} {a b c:AT} {ta tb tc:TE} {pos:Pos}
def ax2(o:PE X a ta)(n:PE X b tb){pins}{s}{c:St}{H}{R:V->V->Hp->Prop}(I:Inv X pins c H s)
  (h:ta c H λx g=>tb c g λy d=>R x y d) {Q} {f:AG->AG->Sem AG}
  (m:∀v u e x y d,Inv X pins c d e->i7 x v->i7 y u->R x y d->AR (model X.prog X.w) X.A (f v u) Q X.xe e) :
  AR (model X.prog X.w) X.A (eval a X.env) (λv s₁=>AR (model X.prog X.w) X.A (eval b X.env) (λu s₂=>AR (model X.prog X.w) X.A (f v u) Q X.xe s₂) X.xe s₁) X.xe s:=by
 apply thn (o pins s c H _ I h) λv s1 z18=>?_;let{x,g,q,j,l}:=z18;apply thn (n pins s1 c g _ q l) λu e z19=>?_;let{y,d,p,i,k}:=z19;show m v u e x y d p j i k
def T6{op}(c:OpR X (DF op) r)(e:PE X a ta)(d:PE X b tb):PE X (.BinOp a op b pos) (tOp r ta tb):=(λpins s σ H Q I h=>wpAny_BinOp (ax2 e d I h λv u s2 x y H2 I2=>c pins s2 σ H2 x y v u Q I2))
def c53{op}{r}(b:UnR X (unaryOp op) r)(c:PE X a ta):PE X (.UnaryOp op a pos) (tUn r ta):=λpins s σ H Q I h=>UnaryOp_ (thn (c pins s σ H _ I h) λv s1⟨x,H1,I1,r1,q1⟩=>b pins s1 σ H1 x v Q I1 r1 q1)
def opI{f}{C}{g:Int->Int->Int}
  (a:∀i j(t u)s(Q)E,C i j->Q (.int (g i j) s.toks) {s with toks:=s.toks+1}->AR (model X.prog X.w) X.A (f (.int i t) (.int j u)) Q E s) :
  OpR X f (rI C λi j=>.int (g i j)):=by
 intro b s k H x y v u Q I d c h;let{i,j,rfl,rfl,e,q}:=h;let{t,rfl}:=d;let{t',rfl}:=c;show a i j t t' s _ _ e {.int (g i j),H,I.tok _,⟨_,rfl⟩,q}
def bs1{f}{g:Int->Int->Int}
  (a:∀i j(t u)s(Q)E,Q (.int (g i j) s.toks) {s with toks:=s.toks+1}->AR (model X.prog X.w) X.A (f (.int i t) (.int j u)) Q E s) :
  OpR X f (rI0 λi j=>.int (g i j)):=by
 intro b s e H x y v u Q I d c h;let{i,j,rfl,rfl,q}:=h;let{t,rfl}:=d;let{t',rfl}:=c;show a i j t t' s _ _ {.int (g i j),H,I.tok _,⟨_,rfl⟩,q}
def ah8{f}{g:Int->Int->Bool}
  (a:∀i j(t u)s(Q)E,Q (.bool (g i j)) s->AR (model X.prog X.w) X.A (f (.int i t) (.int j u)) Q E s) :
  OpR X f (rI0 λi j=>.bl (g i j)):=by
 intro b s e H x y v u Q I d c h;let{i,j,rfl,rfl,q}:=h;let{t,rfl}:=d;let{t',rfl}:=c;show a i j t t' s _ _ {.bl (g i j),H,I,rfl,q}
abbrev aw7(i j:Int):Prop:=0<=j/\j<=1000000/\i.natAbs<2^64
abbrev aw6(i j:Int):Prop:=(-(2^64)<i/\i<2^64)\/(-(2^64)<j/\j<2^64)
def aw6.ok{i j}(h:aw6 i j):LX i j:=by
 rcases h with⟨b,a⟩|⟨b,a⟩
 ·show .of_left (intBits_le_64 b a)
 ·show .of_right (intBits_le_64 b a)
def cq6:OpR X (DF .Add) (rI0 λi j=>.int (i+j)):=bs1 λ_ _ _ _ _ _ _=>add_int
def c31:OpR X (DF .Sub) (rI0 λi j=>.int (i-j)):=bs1 λ_ _ _ _ _ _ _=>sub_int
def cw1:OpR X (DF .Mod) (rI (λ_ j=>0<j) λi j=>.int (i % j)):=opI λi j _ _ _ _ _ hc q=>by
 show mod_int' ⋯ (by rw[Int.fmod_eq_emod_of_nonneg i ⋯];show q)
def cy6:OpR X (DF .Pow) (rI aw7 λi j=>.int (i^j.toNat)):=opI λ_ _ _ _ _ _ _ hc=>pow_int_small hc.1 hc.2.1 hc.2.2
def unI{f}{g:Int->Int}
  (a:∀i(t)s(Q)E,Q (.int (g i) s.toks) {s with toks:=s.toks+1}->AR (model X.prog X.w) X.A (f (.int i t)) Q E s) :
  UnR X f (rU λi=>.int (g i)):=by
 intro b s d H x v Q I c h;let{i,rfl,q}:=h;let{t,rfl}:=c;show a i t s _ _ {.int (g i),H,I.tok _,⟨_,rfl⟩,q}
def cy9:UnR X (unaryOp .USub) (rU λi=>.int (-i)):=unI λ_ _ _ _ _=>neg_int
end
section
variable {X:Cx} {a b c:AT} {ta tb tc:TE} {pos:Pos}
def de3:OpR X (CD .Lt) (rI0 λi j=>.bl (AB (i<j))):=ah8 λ_ _ _ _ _ _ _=>lt_int
def c63:OpR X (CD .LtE) (rI0 λi j=>.bl (AB (i<=j))):=ah8 λ_ _ _ _ _ _ _=>le_int
def de8:OpR X (CD .Gt) (rI0 λi j=>.bl (AB (j<i))):=ah8 λ_ _ _ _ _ _ _=>gt_int
def dc1:OpR X (CD .GtE) (rI0 λi j=>.bl (AB (j<=i))):=ah8 λ_ _ _ _ _ _ _=>ge_int
def OpR.or{f}{r'}(h:OpR X f r)(h':OpR X f r'):OpR X f λx y H Q=>r x y H Q\/r' x y H Q:=by
 intro a s b H x y v u Q I d c q
 rcases q with q|q
 ·show h a s b H x y v u Q I d c q
 ·show h' a s b H x y v u Q I d c q
def dm7(b:AT)(h:op≠.In:=by decide)(a:op≠.NotIn:=by decide):Cc op b=AE:=by
 have d:(op==CmpOp.In)=AE:=by cases op<;>first|rfl|show absurd rfl h
 have c:(op==II)=AE:=by cases op<;>first|rfl|show absurd rfl a
 cases b<;>simp[Cc,d,c]
def bj1(c:OpR X (CD op) r)(f:PE X a ta)(e:PE X b tb)(d:Cc op b=AE):PE X (.Compare a [op] [b] pos) (tOp r ta tb):=(λpins s σ H Q I h=>LW (ax2 f e I h λv u s2 x y H2 I2=>c pins s2 σ H2 x y v u Q I2) d)
abbrev c71(t:TE):TT:=λσ H Q=>t σ H λx H'=>∃k,x=.bl k/\Q k H'
def bf2(f:OpR X (CD op) r)(j:PE X a ta)(i:PE X b tb)(g:Cc op b=AE):PT X (.Compare a [op] [b] pos) (c71 (tOp r ta tb)):=by
 intro c s d H Q I h;apply JM (thn (j c s d H _ I h) λv s1⟨x,H1,I1,r1,q1⟩=>thn (i c s1 d H1 _ I1 q1) λu s2⟨y,H2,I2,r2,q2⟩=>
  thn (f c s2 d H2 x y v u _ I2 r1 r2 q2) λc s3⟨z,H3,I3,r3,k,e,q3⟩=>?_) g
 subst e;cases r3;show CU ⟨H3,I3,q3⟩
def ab3:(sizeLine:Nat)<2^63:=by rw[Hb];decide
def ac5{x}{us}(r:i5 [x] us):∃u,us=[u]/\i7 x u:=by
 cases r with
 |cons c b=>cases b;show⟨_,rfl,c⟩
def bp4{x y}{us}(r:i5 [x,y] us):∃u b,us=[u,b]/\i7 x u/\i7 y b:=by
 cases r with
 |cons f e=>
  cases e with
  |cons d c=>cases c;show⟨_,_,rfl,f,d⟩
def b17(d:X.calm=AD):G8 X (.builtin "max") λxs H Q=>∃i j,xs=[.int i,.int j]/\Q (.int (if j>i then j else i)) H:=by
 intro b s e H xs us Q I r h;let{i,j,rfl,q}:=h;let{u,f,rfl,{t,rfl},{t',rfl}}:=bp4 r;apply max_two_ints (I.ok.hd d) λh' tk k=>{_,H,I.kept k,?_,q}
 by_cases a:j>i
 ·rw[if_pos a,if_pos a];show⟨_,rfl⟩
 ·rw[if_neg a,if_neg a];show⟨_,rfl⟩
def b28(d:X.calm=AD):G8 X (.builtin "min") λxs H Q=>∃i j,xs=[.int i,.int j]/\Q (.int (if j<i then j else i)) H:=by
 intro b s e H xs us Q I r h;let{i,j,rfl,q}:=h;let{u,f,rfl,{t,rfl},{t',rfl}}:=bp4 r;apply min_two_ints (I.ok.hd d) λh' tk k=>{_,H,I.kept k,?_,q}
 by_cases a:j<i
 ·rw[if_pos a,if_pos a];show⟨_,rfl⟩
 ·rw[if_neg a,if_neg a];show⟨_,rfl⟩
def b32:G8 X (.type "int") λxs H Q=>(∃i,xs=[.int i]/\Q (.int i) H)\/∃k,xs=[.bl k]/\Q (.int (if k then 1 else 0)) H:=by
 intro b s d H xs us Q I r h
 rcases h with⟨i,rfl,q⟩|⟨k,rfl,q⟩
 ·let{u,rfl,t,rfl}:=ac5 r;show call_int_int {.int i,H,I,⟨_,rfl⟩,q}
 ·let{u,rfl,c}:=ac5 r;cases c;show call_int_bool {.int (if k then 1 else 0),H,I.tok _,⟨_,rfl⟩,q}
end
end
section
variable{h:BA}{dx C:AI}{mA:Str->Option AG}{A:BR}{s:AK}{f:Str}{v:V}{Q:AG->AK->Prop}{u:AG}{H:Hp}{X:Cx}
structure ObjM(h:BA)(x dx C:AI)(mA:Str->Option AG):Prop where
 obj:h.get? x=AA (EN C dx)
 ns:h.Ns1 dx mA
 ne:dx≠x
def b37(n:h.Ns1 dx mA):∃c,h.get? dx=AA c/\∀name,Ix name c=AA (mA name):=by
 let{o,k,m,f,j,i,_,g}:=n;apply{o,f,λname=>?_};have e:=g name;unfold nsFind findBy at e;rw[<-Array.find?_toList]at e;unfold Ix;rw[j];dsimp only
 split
 ·simp_all
 ·rename_i q;rw[q]at e;have a:k.toList.any (·.refKey)=AE:=by
   rw[HA];intro y d;let{z,t,b}:=i y (Array.mem_toList_iff.mp d);simp[DictEntry.refKey,b]
  have l:=a▸AH
  rw[if_neg l];show congrArg AA e
def ObjM.look{x:AI}(I:ObjM h x dx C mA):∃a,W.InstAt h x (EN C dx) C (AA a)/\∀name,Ix name a=AA (mA name):=
 let⟨a,b,c⟩:=b37 I.ns
 {a,⟨I.obj,rfl,rfl,b⟩,c}
section
variable {prog:Ag} {w:Aw} {E:AG->AK->Prop} {K:AO} {x f:AI} {name:Str} {v:AG}
def co1{expr}(X:K.In s.heap)(I:ObjM s.heap x dx C mA)(e:GV K C name=AD)(d:HL K C=AD)
  (f:Bc K (.ref C) name=AA AF) (b:mA name=AA v) (a:W.handedIn v=AD) (h:Q v {s with toks:=s.toks+1}) :
  AR (model prog w) A (getAttr (.ref x) name expr) Q E s:=by
 let{g,J,c}:=I.look;show W.get_value X J (IJ e).1 (W.findObj_own d f rfl (by rw[c,b])) a h
def cc7{pl}{Q}(X:K.In s.heap)(I:ObjM s.heap x dx C mA)(a:GV K C name=AD)
  (g:Bc K (.ref C) name=AA (AA (.ref f))) (d:JX K (.ref f)=AD) (c:mA name=AF) (h:Q (.ref f,[.ref x]) s) :
  AR (model prog w) A (Ko (.ref x) name pl) Q E s:=by
 let{b,J,e}:=I.look;show W.method_fn X J (IJ a).1 (IJ a).2 g (beq_iff_eq.mp d) (by change(Ix name b).map (·.isSome)=AA AE;rw[e,c];rfl) h
def cn1{ns}{Q}(X:K.In s.heap)(I:ObjM s.heap x dx C mA)
  (i:Bc K (.ref C) "__setattr__"=AA (AA (.builtin "object.__setattr__"))) (j:Iy K C=AD) (g:KC K C name=AA AF) (k:HL K C=AD)
  (f:PySem.Within mA ns) (hsz:ns.length<=sizeLine)
  (h:∀h',ObjM h' x dx C (λy=>if y=name then AA v else mA y)->Bf dx s.heap h'->Q () {s with heap:=h',toks:=s.toks+2}) :
  AR (model prog w) A (setAttr (.ref x) name v) Q E s:=by
 let{o,J,q}:=I.look;apply W.set_plain X J i (W.osa_open X J j g λb=>?_);let{r,l,c}:=W.any_some k;have e:=I.obj;apply AC (AL (AC (AC (wpAny_loadPart e (AC (JY (W.looks_clsIn X l) ?_))))));rw[c];apply AL (AC (AL (AC ?_)));apply wpAny_nsSet1 I.ns λh' hn2 hs2=>?_;let{p,m,n,a,b,d}:=hn2.count (PySem.Within.cons name v f);show AC (wpAny_lookBehind a (by rw[b];show pastItsLine_dict (BB d (by rw[AW];lia))) (AL (h _ {(hs2.2 _ (Ax I.ne)).trans I.obj,hn2,I.ne} hs2)))
def b60{R}{vs}{kw}(X:K.In s.heap)(a:IT K C=AD)
  (hi:Bc K (.ref C) "__init__"=AA (AA (.ref f))) (b:W.typeIn K (.ref f)=AA (.type "function"))
  (h:Dy (model prog w) (A.under (.builtin "type.__call__" {.ref C::vs,kw})) (.call (.ref f) {.ref (s.heap.objs.size+1)::vs,kw}) (W.InitBack (s.heap.objs.size+1) R)
   {s with heap:=(s.heap.push Cz).push (EN C s.heap.objs.size)}) :
  Dy (model prog w) A (.call (.ref C) ⟨vs,kw⟩) R s:=by
 show W.make_core (W.makes_of X a) (W.looks_findIn X hi) (λself=>W.bind_fn X self b) (.inl rfl) h
end
abbrev A5(f:Str)(v:V):List (Str×V)->List (Str×V)
 |[]=>[(f,v)]
 |(g,x)::r=>if g=f then(g,v)::r else(g,x)::A5 f v r
theorem az5 f g(v):∀c,(A5 f v c).lookup g=if g=f then AA v else c.lookup g
 |[]=>by
  change DQ g [(f,v)]=_
  by_cases h:g=f
  ·simp_all
  ·simp_all
 |(k,x)::r=>by
  have d:=az5 f g v r;rw[show A5 f v ((k,x)::r)=if k=f then(k,v)::r else(k,x)::A5 f v r from rfl]
  by_cases a:k=f
  ·rw[if_pos a]
   by_cases h:g=k
   ·simp_all
   ·have b:=beq_eq_false_iff_ne.mpr h;erw[DQ,b,if_neg λe:g=f=>h (e.trans a.symm)]
  ·rw[if_neg a]
   by_cases h:g=k
   ·simp_all
   ·have b:=beq_eq_false_iff_ne.mpr h;erw[DQ,b];show d
theorem ap0 f(v):∀a:List (Str×V),f∈(A5 f v a).map (·.1)/\∀g,g∈a.map (·.1)->g∈(A5 f v a).map (·.1)
 |[]=>{by simp[A5],λg h=>by simp at h}
 |(k,x)::r=>by
  let{c,b}:=ap0 f v r;rw[show A5 f v ((k,x)::r)=if k=f then(k,v)::r else(k,x)::A5 f v r from rfl]
  by_cases d:k=f
  ·simp_all
  ·rw[if_neg d];apply{?_,λg h=>?_}
   ·show Ar _ c
   ·rcases AQ.mp h with e|e
    ·show mem_cons.mpr (.inl e)
    ·show Ar _ (b g e)
theorem az3 f(v):∀a,(A5 f v a).length<=a.length+1
 |[]=>by simp[A5]
 |(k,x)::r=>by
  have b:=az3 f v r;rw[show A5 f v ((k,x)::r)=if k=f then(k,v)::r else(k,x)::A5 f v r from rfl]
  by_cases c:k=f
  ·simp_all
  ·simp_all
def B3.some_of{o}(r:B3 (AA v) o):∃u,o=AA u/\i7 v u:=by
 cases o with
 |none=>show(r).elim
 |some u=>show⟨u,rfl,r⟩
def B3.none_of{o}(r:B3 AF o):o=AF:=by
 cases o with
 |none=>rfl
 |some u=>show(r).elim
def b34(r:i7 v u):W.handedIn u=AD:=by
 cases v with
 |non=>cases r;rfl
 |bl b=>cases r;rfl
 |int i=>let{t,e}:=r;cases e;rfl
 |str x=>let{t,e}:=r;cases e;rfl
 |byt b=>let{t,e}:=r;cases e;rfl
 |flt b=>let{t,e}:=r;cases e;rfl
 |ref a=>cases r;rfl
 |ty n=>cases r;rfl
section
variable {P:Ag} {w:Aw} {H':Hp} {h':BA} {a:AI} {fs fs':List (Str×V)}
def af9(c:HOk P w H h)(e:H a=AA (.ins C dx fs)):∃b,ObjM h a dx C b/\(∀f,B3 (fs.lookup f) (b f))/\PySem.Within b (fs.map (·.1))/\fs.length<=1000/\H dx=AA (.own a):=by
 let{d,z,g,ob,b,n,r,q}:=(c a _ e);show{b,⟨ob,n,g⟩,r,q,z,d}
end
structure Cls(K:AO)(C:AI):Prop where
 pg:GV K C Str.empty=AD
 hd:HL K C=AD
 po:Iy K C=AD
 sa:Bc K (.ref C) "__setattr__"=AA (AA (.builtin "object.__setattr__"))
def Cls.get{K:AO}(c:Cls K C)(f:Str):GV K C f=AD:=c.pg
abbrev L0(K:AO)(C:AI)(f:Str):Prop:=Bc K (.ref C) f=AA AF
def L0.taker{K}(n:L0 K C f):KC K C f=AA AF:=by
 unfold KC;rw[n];rfl
structure Meth(K:AO)(C:AI)(m:Str)(f:AI):Prop where
 at_:Bc K (.ref C) m=AA (AA (.ref f))
 fn:JX K (.ref f)=AD
 kp:Bm K (.ref f)=AD
section
variable {pins:List (AI×Obj)} {σ:St} {a:AI} {fs:List (Str×V)} {E:AG->AK->Prop}
def bx4{b}(I:Inv X pins σ H s)(e:H a=AA (.ins C dx fs))(c:Cls X.K C)(n:L0 X.K C f)(l:fs.lookup f=AA v)
  (h:∀u s',Inv X pins σ H s'->i7 v u->Q u s'):AR (model X.prog X.w) A (getAttr (.ref a) f b) Q E s:=by
 let{i,O,r,_,_,_}:=af9 I.hok e;let{u,g,d}:=B3.some_of (l▸r f);show co1 I.kIn O (c.get f) c.hd n g (b34 d) (h u _ (I.tok _) d)
def ao8{m}{g}{pl}{Q}(I:Inv X pins σ H s)(e:H a=AA (.ins C dx fs))(c:Cls X.K C)(k:Meth X.K C m g)(l:fs.lookup m=AF)
  (h:Q (.ref g,[.ref a]) s):AR (model X.prog X.w) A (Ko (.ref a) m pl) Q E s:=by
 let{d,O,r,_,_,_}:=af9 I.hok e;have b:=B3.none_of (l▸r m);show cc7 I.kIn O (c.get m) k.at_ k.fn b h
def bx2{y:V}{Q:Unit->AK->Prop}(I:Inv X pins σ H s)(e:H a=AA (.ins C dx fs))(c:Cls X.K C)(n:L0 X.K C f)(p:fs.length<1000)(j:i7 y u)
  (h:∀s',Inv X pins σ (upd H a (.ins C dx (A5 f y fs))) s'->Q () s'):AR (model X.prog X.w) A (setAttr (.ref a) f u) Q E s:=by
 let{k,O,r,d,_,i}:=af9 I.hok e;have hz:(fs.map (·.1)).length<=sizeLine:=by rw[AV,Hb];lia
 apply cn1 I.kIn O c.sa c.po n.taker c.hd d hz λh' O' sb=>h _ ?_;have l:∃o,h'.get? dx=AA o:=let⟨o,_,_,m,_⟩:=O'.ns;⟨o,m⟩;apply I.write (x:=a) (e:=dx) (by rw[e];show Ch) (.inr i) (λb q hb z=>(sb.2 b hb).trans z) l ?_;apply{by rw[j6 O.ne];show i,?_,O.ne,O'.obj,_,O'.ns,λg=>?_,λg hg=>?_}
 ·have:=az3 f y fs;lia
 ·rw[az5]
  by_cases q:g=f
  ·rw[if_pos q,if_pos q];show j
  ·rw[if_neg q,if_neg q];show r g
 ·by_cases q:g=f
  ·rw[q];show(ap0 f y fs).1
  ·apply(ap0 f y fs).2 g (d g λz=>hg ?_);change(if g=f then AA u else k g)=AF;rw[if_neg q];show z
def Inv.made(I:Inv X pins σ H s):Inv X pins σ (upd (upd H s.heap.objs.size (.own (s.heap.objs.size+1))) (s.heap.objs.size+1) (.ins C s.heap.objs.size []))
  {s with heap:=(s.heap.push Cz).push (EN C s.heap.objs.size)}:=by
 have c:(s.heap.push Cz).get? s.heap.objs.size=AA Cz:=Ae s.heap rfl;have e:((s.heap.push Cz).push (EN C s.heap.objs.size)).get? (s.heap.objs.size+1)=AA (EN C s.heap.objs.size):=by
  have:=Ae (s.heap.push Cz) (o:=EN C s.heap.objs.size) rfl
  rwa [Ck]at this
 have d:(s.heap.push Cz).Ns s.heap.objs.size (λ_=>AF):={Cz,#[],_,c,rfl,(λe he=>absurd he ∎),λ_=>rfl};have f:=I.laid (a:=s.heap.objs.size) (o:=.own (s.heap.objs.size+1)) (h':=s.heap.push Cz) (t':=s.toks) (λb u q=>AM _ q) (AS _) ⟨_,c⟩;apply f.laid (a:=s.heap.objs.size+1) (o:=.ins C s.heap.objs.size []) (t':=s.toks) (λb u q=>AM _ q) (Kq (Ck _ _)) ?_;have b:s.heap.objs.size≠s.heap.objs.size+1:=Bd (Gm _);apply{by rw[j6 b,t4],BM _,b,e,λ_=>AF,(Heap.Ns1.of_empty d).at λo q=>AM _ q,λ_=>Ch,λy hy=>absurd rfl hy}
def cn7{prog:Ag}{w:Aw}{env:Env}{e:AT}{a:Pos}(b:Cy e f env (eval e env)=eval e env)
  (h:AR (model prog w) A (eval e env) (λo s₁=>AR (model prog w) A (getAttr o f AD) Q E s₁) E s):AR (model prog w) A (eval (.Attribute e f a) env) Q E s:=
 Attribute_any_ h (by rw[arm_eval_Attribute,b])
end
abbrev dl2(K:AO)(ta:TE)(f:Str):TE:=λσ H Q=>ta σ H λx H1=>∃a C dx fs v,x=.ref a/\H1 a=AA (.ins C dx fs)/\Cls K C/\L0 K C f/\fs.lookup f=AA v/\Q v H1
abbrev dh1(K:AO)(ta tv:TE)(f:Str):TS:=λD σ H=>tv σ H λy H1=>ta σ H1 λx H2=>∃a C dx fs,x=.ref a/\H2 a=AA (.ins C dx fs)/\Cls K C/\L0 K C f/\fs.length<1000 /\
 D.nx σ (upd H2 a (.ins C dx (A5 f y fs)))
section
variable {o e value:AT} {pos pos' tpos:Pos} {ta tv:TE}
def c03(i:PE X e ta)(j:Cy e f X.env (eval e X.env)=eval e X.env):PE X (.Attribute e f pos) (dl2 X.K ta f):=by
 intro b s d H Q I h;apply cn7 j (thn (i b s d H _ I h) λu s1 z20=>?_);let{x,p,o,g,a,C,t,r,v,k,m,c,n,l,q}:=z20;subst k;obtain rfl:u=Aq a:=g;show bx4 o m c n l λu' s2 I2 ru=>⟨v,p,I2,ru,q⟩
def ct8(k:PE X o ta)(i:PE X value tv)(j:Cj value (AA (.Attribute o f pos')) pos.line X.env=pure AE):PS X (.Assign [.Attribute o f pos'] value pos) (dh1 X.K ta tv f):=by
 intro b s d H D I h;apply plainObj_wpAny_Assign_Attribute (thn (i b s d H _ I h) λu s1⟨y,H1,I1,ry,q⟩=>thn (k b s1 d H1 _ I1 q) λov s2 z21=>?_) j;let{x,v,r,e,a,C,u,t,m,p,c,n,l,g}:=z21;subst m;obtain rfl:ov=Aq a:=e;show bx2 r p c n l ry λs3 I3=>⟨d,_,I3,g⟩
end
section
variable {pins:List (AI×Obj)} {σ:St} {E:AG->AK->Prop} {c:AG} {b:Bool}
inductive TyOf(K:AO)(H:Hp):V->AG->Prop where
 |non:TyOf K H .non (.type "NoneType")
 |bl (x:Bool):TyOf K H (.bl x) (.type "bool")
 |int (i:Int):TyOf K H (.int i) (.type "int")
 |str (x:Str):TyOf K H (.str x) (.type "str")
 |flt (x:UInt64):TyOf K H (.flt x) (.type "float")
 |lst {a:AI} {xs:List V} (e:H a=AA (.lst xs)):TyOf K H (.ref a) (.type "list")
 |frz {a:AI} {o:Obj} {xs:List V} (e:H a=AA (.frz o (.lst xs))):TyOf K H (.ref a) (.type "list")
 |tup {a:AI} {xs:List V} (e:H a=AA (.tup xs)):TyOf K H (.ref a) (.type "tuple")
 |dK {a:AI} {kvs:List (Key×V)} (e:H a=AA (.dK kvs)):TyOf K H (.ref a) (.type "dict")
 |dT {a:AI} {kvs:List (Ak×V)} (e:H a=AA (.dT kvs)):TyOf K H (.ref a) (.type "dict")
 |ins {a C dx:AI} {fs:List (Str×V)} (e:H a=AA (.ins C dx fs)) (cl:Cls K C) (ha:Bc K (.ref C) "__class__"=AA (AA (.builtin "object.__class__")))
   (hn:W.specialIn K (.builtin "object.__class__") "__get__"=AA (AA (.builtin "getset_descriptor.__get__"))) (htk:W.takesIn K (.builtin "object.__class__")=AA AD)
   (hm:W.mroIn K C (.type "object")=AA AD):TyOf K H (.ref a) (.ref C)
def b21{x}{t}(I:Inv X pins σ H s)(d:i7 x u)(r:TyOf X.K H x t)(e:Dx X.K t c=AA b)(h:∀tk,Q (.bool b) {s with toks:=tk}):
  AR (model X.prog X.w) A (call (.builtin "isinstance") [u,c]) Q E s:=by
 cases r with
 |non=>cases(show u=BQ from d);show Ct W.kitx_none I.kIn Ch e (λz=>nomatch z) h
 |bl y=>cases(show u=Fn y from d);show Ct W.kitx_bool I.kIn Ch e (λz=>nomatch z) h
 |int i=>let{t,q}:=(show ∃t,u=Ec i t from d);cases q;show Ct W.kitx_int I.kIn Ch e (λz=>nomatch z) h
 |str y=>let{t,q}:=(show ∃t,u=Ed y t from d);cases q;show Ct W.kitx_str I.kIn Ch e (λz=>nomatch z) h
 |flt y=>let{t,q}:=(show ∃t,u=IF y t from d);cases q;show Ct W.kitx_float I.kIn Ch e (λz=>nomatch z) h
 |@lst a k f=>
  cases(show u=Aq a from d);let{_,_,n,_,g}:=(show o5 X.prog X.w H s.heap a (.lst k) from I.hok a _ f);show Ct W.kitx_list I.kIn ⟨_,g,rfl⟩ e (λz=>nomatch z) h
 |@frz a ob k f=>
  cases(show u=Aq a from d);let{_,_,_,n,_,g}:=(show o5 X.prog X.w H s.heap a (.frz ob (.lst k)) from I.hok a _ f);show Ct W.kitx_list I.kIn ⟨_,g,rfl⟩ e (λz=>nomatch z) h
 |@tup a k f=>
  cases(show u=Aq a from d);let{_,_,_,p}:=(show o5 X.prog X.w H s.heap a (.tup k) from I.hok a _ f);let{o,g,l,_}:=p;show Ct LY I.kIn ⟨o,g,l⟩ e (λz=>nomatch z) h
 |@dK a j f=>
  cases(show u=Aq a from d);let{_,_,vs,_,p}:=(show o5 X.prog X.w H s.heap a (.dK j) from I.hok a _ f);let{o,N,P,g,l,_}:=p;show Ct W.kitx_dict I.kIn ⟨o,g,l.1⟩ e (λz=>nomatch z) h
 |@dT a j f=>
  cases(show u=Aq a from d);let{_,_,k,_,o,N,P,g,l,_}:=(show o5 X.prog X.w H s.heap a (.dT j) from I.hok a _ f);show Ct W.kitx_dict I.kIn ⟨o,g,l.1⟩ e (λz=>nomatch z) h
 |@ins a C U T f cl L F m G=>
  cases(show u=Aq a from d);let{S,O,_}:=af9 I.hok f;let{R,J,_}:=O.look;show Ct (W.kitx_own (cl.get _) cl.hd L F m G) I.kIn J e (λz=>nomatch z) h
end
end
section
variable{A:BR}{C f:AI}{us:List AG}{X:Cx}{mg:Str->Option AG}{base:BA}{fd:BS}{ps:List Str}{s:AK}{H:Hp}{pins:List (AI×Obj)}{σ:St}{Q:VK}{x:Str}{vs:List V}{kindOf:Str->Option GI}
structure Room(k:Nat)(A:BR):Prop where
 hd:A.handled=AF
 dp:A.depth+3*k+5<IL
 un:A.units+16*k+200<CO
theorem Room.deeper{k}(r:Room (k+1) A)env:Room k (A.deeper env):=
 ⟨r.hd,by have:=r.dp;change A.depth+1+3*k+5<_;lia,by have:=r.un;change A.units+3+16*k+200<_;lia⟩
def by1{kw}:(A.under (.builtin "type.__call__" {.ref C::us,kw})).depth=A.depth+1:=rfl
def by4{kw}:(A.under (.builtin "type.__call__" {.ref C::us,kw})).units=A.units+1:=rfl
def Room.make{k:Nat}(r:Room (k+1) A)(C:AI)(us:List AG)(a:List (Str×AG)):Room k (A.under (.builtin "type.__call__" {.ref C::us,a})):=
 ⟨r.hd,by have:=r.dp;rw[by1];lia,by have:=r.un;rw[by4];lia⟩
theorem Room.depth{k}(r:Room k A):A.depth<IL:=by have:=r.dp;lia
abbrev ay1:TA:=λ_ H Q=>Q [] H
abbrev av9(ta:TE)(tr:TA):TA:=λσ H Q=>ta σ H λx H1=>tr σ H1 λxs H2=>Q (x::xs) H2
section
variable {e:AT} {es:List AT} {te:TE} {t:TA} {pos:Pos}
def bl9:PA X [] ay1:=λ_ _ _ _ H Q I h=>EQ {[],H,I,.nil,h}
def as3(j:PE X e te)(i:PA X es t)(g:Ao (e::es) X.env=(AE,eval e X.env)::Ao es X.env:=by rfl):PA X (e::es) (av9 te t):=by
 intro b a s c H Q I h;rw[g];change AR _ _ (spliced ((AE,eval e X.env)::Bx b (Ao es X.env))) _ _ s;apply DJ (thn (j a s c H _ I h) λu s1 z22=>?_);let{x,l,k,d,f}:=z22;show thn (i b a s1 c l _ k f) λus s2⟨xs,H2,I2,r2,q2⟩=>{x::xs,H2,I2,.cons d r2,q2}
abbrev dg3(t:TA):TE:=λσ H Q=>t σ H λxs H1=>xs.length<=sizeLine/\∀p,H1 p=AF->Q (.ref p) (upd H1 p (.tup xs))
abbrev dl1(t:TA):TE:=λσ H Q=>t σ H λxs H1=>xs.length<=sizeLine/\∀p,H1 p=AF->Q (.ref p) (upd H1 p (.lst xs))
def ct4{x1}(h:PA X es t):PE X (.Tuple es x1 pos) (dg3 t):=by
 intro a s b H Q I c;apply wpAny_Tuple_spliced (thn (h pos a s b H _ I c) λus s1⟨xs,H1,I1,r,z,q⟩=>{r.length▸z,?_});have d:=I1.hok.fresh (AS _);show {.ref s1.heap.objs.size,upd H1 s1.heap.objs.size (.tup xs),I1.laid (λb u=>AM _) (AS _) {z,us,r,E8.new _ _},rfl,q _ d}
def cx1(h:PA X es t):PE X (.List es pos) (dl1 t):=by
 intro a s b H Q I c;apply wpAny_List_spliced (thn (h pos a s b H _ I c) λus s1⟨xs,H1,I1,r,z,q⟩=>{r.length▸z,?_});have d:=I1.hok.fresh (AS _);apply{.ref s1.heap.objs.size,upd H1 s1.heap.objs.size (.lst xs),I1.laid (λb u=>AM _) (AS _) ?_,rfl,q _ d};show{z,us,0,r,Ae _ rfl}
end
@[reducible]noncomputable def Sp:=List V->Hp->VK->XK->Prop
@[reducible]noncomputable def CXT:=List Env->Hp->AK->XK->AG->AK->Prop
variable{CX:CXT}
structure Env0(P:Ag)(w:Aw)(K:AO)(mg:Str->Option AG)(base:BA)(A:BR)(outer:List Env)(s:AK)(H:Hp):Prop where
 frames:A.frames=AA outer
 mod:Mod K mg base
 bs:∀b o,base.get? b=AA o->s.heap.get? b=AA o/\H b=AF
 bsz:base.objs.size<=s.heap.objs.size
 funs:s.heap.FunFrames base outer
 frf:∀b∈frs outer,H b=AF
 hok:HOk P w H s.heap
 bare:ER s.gens
abbrev CE(outer:List Env)(P:Ag)(w:Aw)(H:Hp)(s:AK)(Q:VK)(u:AG)(s':AK):Prop:=
 ∃v H',s'.os=s.os/\ER s'.gens/\Un (frs outer) [] H H' s.heap s'.heap/\HOk P w H' s'.heap/\i7 v u/\Q v H'
abbrev CR(CX:CXT)(outer:List Env)(P:Ag)(w:Aw)(H:Hp)(s:AK)(Q:VK)(E:XK)(r:IK)(s':AK):Prop:=
 match r with
 |.ok (.ret u)=>CE outer P w H s Q u s'
 |.ok _=>False
 |.error e=>CX outer H s E e s'
structure FnOk(P:Ag)(w:Aw)(K:AO)(mg:Str->Option AG)(base:BA)(CX:CXT)(k:Nat)(f:AI)(fd:BS)(ps:List Str)(sp:Sp):Prop where
 len:∀vs H Q E,sp vs H Q E->vs.length=ps.length
 run:∀(A:BR)(outer:List Env)(s:AK)(H:Hp)(args:Args)(us:List AG)(vs:List V)(Q:VK)(E:XK),Room k A->Env0 P w K mg base A outer s H->FW s fd args (ps.zip us)->i5 vs us->sp vs H Q E ->
  Dy (model P w) A (.call (.ref f) args) (CR CX outer P w H s Q E) s
def FnOk.imp{P:Ag}{w:Aw}{K:AO}{k:Nat}{sp sp':Sp}(F:FnOk P w K mg base CX k f fd ps sp)
  (h:∀vs H Q E,sp' vs H Q E->sp vs H Q E):FnOk P w K mg base CX k f fd ps sp':=
 {λvs H Q E q=>F.len vs H Q E (h _ _ _ _ q),λA outer s H args us vs Q E hr he hb hv hs=>F.run A outer s H args us vs Q E hr he hb hv (h _ _ _ _ hs)}
def Env0.make{P:Ag}{w:Aw}{K:AO}{outer:List Env}(e:Env0 P w K mg base A outer s H)(C:AI)(us:List AG)(a:List (Str×AG)):
  Env0 P w K mg base (A.under (.builtin "type.__call__" {.ref C::us,a})) outer s H:={by first|show e.frames|(simpa[Hd,Code.envs,Hw,pushEnvs]using e.frames),e.mod,e.bs,e.bsz,e.funs,e.frf,e.hok,e.bare}
section
variable {s':AK}
def Inv.env0(I:Inv X pins σ H s):Env0 X.prog X.w X.K X.mg X.base X.A X.stack s H:=
 {I.ok.frames,I.ok.mod,I.bs,BB I.ok.bsz I.sz,I.stack,I.stkFree,I.hok,I.bare}
def Inv.after{u}(I:Inv X pins σ H s)(h:CE X.stack X.prog X.w H s Q u s'):EP X pins σ Q u s':=by
 let{v,H',f,a,e,c,r,q}:=h;let{i,g,d,t,b}:=s';obtain rfl:b=s.os:=f;show{v,H',I.call e c a λb z=>absurd z ∎,r,q}
end
abbrev c84(sp:Sp)(dvs:List V)(E:XK)(t:TA):TE:=λσ H Q=>t σ H λvs H1=>sp (vs++dvs) H1 Q E
abbrev bp7(C:AI)(sp:Sp)(dvs:List V)(E:XK)(t:TA):TE:=λσ H Q=>t σ H λvs H1=>∀x dx,H1 x=AF->H1 dx=AF->dx≠x ->
 sp (.ref x::(vs++dvs)) (upd (upd H1 dx (.own x)) x (.ins C dx [])) (λv H2=>v=.non/\Q (.ref x) H2) E
abbrev r6(K:AO)(fd:BS)(ps:List Str)(ds:List AG):Prop:=
 ∀(s:AK)(us:List AG),K.In s.heap->(us++ds).length=ps.length->FW s fd {us,[]} (ps.zip (us++ds))
def r6.all{K}(h:∀us,us.length=ps.length->Ef fd {us,[]}=pure (ps.zip us)):r6 K fd ps []:=λs us _ hl=>by
 rw[BL]at hl ⊢;show .of_eq (h us hl)
abbrev y6(CX:CXT)(X:Cx)(E:XK):Prop:=∀(pins:List (AI×Obj))(σ:St)(H:Hp)(s:AK)(e:AG)(s':AK),Inv X pins σ H s->CX X.stack H s E e s'->X.xe e s'
section
variable {k:Nat} {sp:Sp} {dvs:List V} {ds:List AG} {E:XK} {m:Str} {p pos apos:Pos} {e o:AT} {es:List AT} {ta:TE} {t:TA}
def S7(F:FnOk X.prog X.w X.K X.mg X.base CX k f fd ps sp)(i:Room k X.A)(m:r6 X.K fd ps ds)(l:i5 dvs ds)(g:y6 CX X E)
  (I:Inv X pins σ H s) (r:i5 vs us) (h:sp (vs++dvs) H Q E):AR (model X.prog X.w) X.A (call (.ref f) us) (EP X pins σ Q) X.xe s:=by
 have b:=r.append l;have j:(us++ds).length=ps.length:=(b.length▸F.len _ _ _ _ h)
 apply KD (ES (F.run X.A X.stack s H {us,[]} (us++ds) (vs++dvs) Q E i I.env0 (m s us I.kIn j) b h) λr s' hq=>?_);cases r with
 |error e=>show g pins σ H s e s' I hq
 |ok n=>
  cases n with
  |ret u=>show I.after hq
  |next=>show AU hq
  |brk=>show AU hq
  |cont=>show AU hq
def bi7(F:FnOk X.prog X.w X.K X.mg X.base CX k f fd ps sp)(i:Room k X.A)(m:Gl X x)(j:X.mg x=AA (.ref f))(l:Bm X.K (.ref f)=AD)(u:r6 X.K fd ps ds)(o:i5 dvs ds)(g:y6 CX X E)
  (v:PA X (e::es) t) (c:(x==("__debug__":Str))=AE:=by decide) (n:Ao (e::es) X.env=(AE,eval e X.env)::Ao es X.env:=by rfl) (b:(Bx pos (Ao es X.env)).any (·.1)=AE:=by rfl) :
  PE X (.Call (.Name x p) (e::es) [] pos) (c84 sp dvs E t):=by
 intro a s d H Q I h;apply Bz (M9 I m j ?_ c);apply Dj (h₀:=X.base) I.ok.mod.kin l (thn (v pos a s d H _ I h) λus s1⟨vs,H1,I1,r,q⟩=>{I1.kIn,?_}) n b;show S7 F i u o g I1 r q
structure Mk(K:AO)(C f:AI):Prop where
 makes:IT K C=AD
 init:Bc K (.ref C) "__init__"=AA (AA (.ref f))
 fn:JX K (.ref f)=AD
 kp:Bm K (.ref C)=AD
def bc2(M:Mk X.K C f)(F:FnOk X.prog X.w X.K X.mg X.base CX k f fd ps sp)(o:Room (k+1) X.A)(t:r6 X.K fd ps ds)(q:i5 dvs ds)
  (n:y6 CX X E) (I:Inv X pins σ H s) (r:i5 vs us)
  (h:∀x a,H x=AF->H a=AF->a≠x->sp (.ref x::(vs++dvs)) (upd (upd H a (.own x)) x (.ins C a [])) (λv H2=>v=.non/\Q (.ref x) H2) E) :
  AR (model X.prog X.w) X.A (call (.ref C) us) (EP X pins σ Q) X.xe s:=by
 have g:=h (s.heap.objs.size+1) s.heap.objs.size (I.hok.fresh (Iz _)) (I.hok.fresh (AS _)) (Bd (Gm _));have b:=Inv.made (C:=C) I;have d:i5 (V.ref (s.heap.objs.size+1)::(vs++dvs)) (Aq (s.heap.objs.size+1)::(us++ds)):=.cons rfl (r.append q);have p:=by
  have e:=d.length;rw[F.len _ _ _ _ g]at e;show e.symm
 apply KD (b60 I.kIn M.makes M.init (beq_iff_eq.mp M.fn) (ES (F.run _ X.stack _ _ {Aq (s.heap.objs.size+1)::us,[]} (Aq (s.heap.objs.size+1)::(us++ds)) _ _ E (o.make C us [])
  (b.env0.make C us []) (t _ (Aq (s.heap.objs.size+1)::us) b.kIn p) d g) λr s' hq'=>?_))
 cases r with
 |error e=>show n pins σ _ _ e s' b hq'
 |ok y=>
  cases y with
  |ret u=>
   let{v,H',D,j,z,m}:=b.after hq';subst z;show{j,{V.ref (s.heap.objs.size+1),H',D,rfl,m}}
  |next=>show AU hq'
  |brk=>show AU hq'
  |cont=>show AU hq'
def ce4(M:Mk X.K C f)(F:FnOk X.prog X.w X.K X.mg X.base CX k f fd ps sp)(i:Room (k+1) X.A)(l:Gl X x)(j:X.mg x=AA (.ref C))(o:r6 X.K fd ps ds)(n:i5 dvs ds)(g:y6 CX X E)
  (u:PA X (e::es) t) (c:(x==("__debug__":Str))=AE:=by decide) (m:Ao (e::es) X.env=(AE,eval e X.env)::Ao es X.env:=by rfl) (b:(Bx pos (Ao es X.env)).any (·.1)=AE:=by rfl) :
  PE X (.Call (.Name x p) (e::es) [] pos) (bp7 C sp dvs E t):=by
 intro a s d H Q I h;apply Bz (M9 I l j ?_ c);apply Dj (h₀:=X.base) I.ok.mod.kin M.kp (thn (u pos a s d H _ I h) λus s1⟨vs,H1,I1,r,q⟩=>{I1.kIn,?_}) m b;show bc2 M F i o n g I1 r q
def b72(M:Mk X.K C f)(F:FnOk X.prog X.w X.K X.mg X.base CX k f fd ps sp)(d:Room (k+1) X.A)(g:Gl X x)(e:X.mg x=AA (.ref C))(j:r6 X.K fd ps ds)(i:i5 dvs ds)(c:y6 CX X E)
  (a:(x==("__debug__":Str))=AE:=by decide):PE X (.Call (.Name x p) [] [] pos) (bp7 C sp dvs E ay1):=by
 intro b s l H Q I h;apply Bz (M9 I g e ?_ a);show LJ I.kIn M.kp (bc2 (us:=[]) M F d j i c I .nil h)
end
structure FnScope(N P:List Str)(sc:BE):Prop where
 kind:sc.kind=.function
 co:sc.isCoroutine=AE
 gen:sc.isGenerator=AE
 nd:N.Nodup
 pre:N.take P.length=P
 par:∀x∈P,sc.names.lookup x=AA .local\/sc.names.lookup x=AA .cell
 nofree:∀y∈sc.names,y.2≠.free
theorem a90:∀{a}{m},(∀v,(x,v)∉a)->Ik kindOf a m x=m x
 |[],_,_=>rfl
 |(n,v)::r,m,h=>by
  unfold Ik;rw[a90 λw hw=>h w (Ar _ hw)]
  split
  ·have:x≠n:=by rintro rfl;show h v CB
   simp[this]
  ·rfl
theorem a77:∀{a}{m},(∀v,(x,v)∉a)->Il kindOf a m x=m x
 |[],_,_=>rfl
 |(n,v)::r,m,h=>by
  unfold Il;rw[a77 λw hw=>h w (Ar _ hw)]
  split
  ·rfl
  ·have:x≠n:=by rintro rfl;show h v CB
   simp[this]
theorem a96{v}:∀{P:List Str}{vs}{i:Nat}{m},P.Nodup->P[i]?=AA x->vs[i]?=AA v->kindOf x=AA .local ->
  Ik kindOf (P.zip vs) m x=AA v
 |[],_,_,_,_,h,_,_=>by simp at h
 |_::_,[],_,_,_,_,h,_=>by simp at h
 |p::P,w::vs,0,m,c,b,a,d=>by
  simp at b a;subst b;subst a;change Ik kindOf ((p,w)::P.zip vs) m p=_;unfold Ik;rw[a90 λv hv=>(BU.mp c).1 (FX hv).1,if_pos d];simp
 |p::P,w::vs,i+1,m,c,b,a,d=>by
  unfold Ik;show a96 (BU.mp c).2 (by simpa using b) (by simpa using a) d
theorem a85{v}:∀{P:List Str}{vs}{i:Nat}{m},P.Nodup->P[i]?=AA x->vs[i]?=AA v->kindOf x≠AA .local ->
  Il kindOf (P.zip vs) m x=AA v
 |[],_,_,_,_,h,_,_=>by simp at h
 |_::_,[],_,_,_,_,h,_=>by simp at h
 |p::P,w::vs,0,m,c,b,a,d=>by
  simp at b a;subst b;subst a;change Il kindOf ((p,w)::P.zip vs) m p=_;unfold Il;rw[a77 λv hv=>(BU.mp c).1 (FX hv).1,if_neg d];simp
 |p::P,w::vs,i+1,m,c,b,a,d=>by
  unfold Il;show a85 (BU.mp c).2 (by simpa using b) (by simpa using a) d
abbrev B2(N:List Str)(vs:List V):St:=vs.map AA++Al (N.length-vs.length) AF
abbrev aj0(CX:CXT)(P:Ag)(w:Aw)(K:AO)(mg:Str->Option AG)(base:BA)(N:List Str)(qual:Str)(scope:BE)(f:AI)(cd:AG)(A:BR)(outer:List Env)(s:AK)(H:Hp)(E:XK):Cx where
 prog:=P
 w:=w
 K:=K
 mg:=mg
 base:=base
 A:=A.deeper (HR qual scope s.heap.objs.size f cd)
 N:=N
 s₀:=s
 H₀:=H
 env:=HR qual scope s.heap.objs.size f cd
 outer:=outer
 stack:=HR qual scope s.heap.objs.size f cd::outer
 ex:=[]
 calm:=AD
 fn:=λ_=>AD
 pn:=[]
 xe:=λe s'=>AR (model P w) (A.deeper (HR qual scope s.heap.objs.size f cd)) (leaving (HR qual scope s.heap.objs.size f cd) e) (λ_ s''=>CX outer H s E e s'') (λe' s''=>CX outer H s E e' s'') s'
def ba6{a:BE}{n}(h:a.names.lookup x=AA .cell):∃c,(Ks n a.names []).lookup x=AA c:=(have q:=KF a.names n [] (.inl h);BH.mp q)
def bz7{P:Ag}{w:Aw}{K:AO}{N:List Str}{d:Str}{scope:BE}{B:AG}{outer:List Env}{C:AK}{E:XK}
  (S:FnScope N ps scope) (J:A.handled=AF) (g:Env0 P w K mg base A outer s H) (M:vs.length=ps.length) (r:i5 vs us)
  (x:InCallC s s.heap.objs.size (Ik (HR d scope s.heap.objs.size f B).kindOf (ps.zip us) λ_=>AF) (Ks (s.heap.objs.size+1) scope.names []) (Il (HR d scope s.heap.objs.size f B).kindOf (ps.zip us) λ_=>AF) C) :
  Inv (aj0 CX P w K mg base N d scope f B A outer s H E) [] (B2 N vs) H C:=by
 have I:ps.length<=N.length:=by have:=congrArg Cf S.pre;rw[Bu]at this;lia
 let{t,tk,rfl,F}:=x.done;have j:∀ b:AI,b ∉ (aj0 CX P w K mg base N d scope f B A outer s H E).ex:=λb z=>absurd (show b ∈ ([]:List AI) from z) ∎;apply {{g.mod,S.kind,rfl,rfl,AS _,λy z c t h2=>?_,λy l=>?_,λy c _ h=>?_,λ_=>J,Hx g.frames,.inr ⟨rfl,rfl⟩,λb z=>absurd z (j b),g.bs,g.bsz,λb _ _=>j b,λb z=>absurd z (j b),g.funs,g.frf},
  rfl,g.bare,Un.kept F,{_,x.toInCall.ns,λi y v t h2 h3=>?_},λy c h=>{_,x.cell y c h},g.hok.fresh (AS _),λy c h=>?_,λp o=>absurd (show p ∈ ([]:List (AI × Obj)) from o) ∎,g.hok.kept F,?_}
 ·show name_of_addr x.apart (PySem.mem_of_lookup t) (PySem.mem_of_lookup h2)
 ·have l:scope.names.lookup y=AA .cell\/scope.names.lookup y=AA .free:=l
  rcases l with l|l
  ·show ba6 l
  ·show absurd rfl (S.nofree _ (PySem.mem_of_lookup l))
 ·show Gy (x.above y c (PySem.mem_of_lookup h))
 ·have hi:i<vs.length:=by
   unfold B2 at h2
   by_cases hi:i<vs.length
   ·show hi
   ·rw[Af (by simpa using hi)]at h2;rw[Da]at h2
    split at h2<;>cases h2
  have L:vs[i]?=AA v:=by
   unfold B2 at h2;rw[Ab (by simpa using hi),Ah]at h2;cases e:vs[i]? with
   |none=>rw[e]at h2;cases h2
   |some a=>rw[e]at h2;cases h2;rfl
  let{u,D,G}:=r.get L;have o:ps[i]?=AA y:=by
   rw[<-S.pre,He ⋯];show t
  have m:ps.Nodup:=by rw[<-S.pre];show S.nd.sublist (JA _ _)
  apply{u,G,?_}
  rcases S.par y (BX o)with k|k
  ·show .inl {k,a96 m o D k}
  ·let{c,e}:=ba6 (n:=s.heap.objs.size+1) k;apply .inr {.inl k,c,e,?_};have q:=x.cell y c e;rw[a85 m o D (by change scope.names.lookup y≠_;rw[k];decide)]at q;show q
 ·show .inl (g.hok.fresh (Gy (x.above y c (PySem.mem_of_lookup h))))
 ·unfold B2;change _=N.length;rw[Ad,AV,DL];lia
end
section
variable {X:Cx} {x:Str} {p pos:Pos} {e:AT} {es:List AT} {t:TA} {id T:String} {r:List V->Hp->VK->Prop}
abbrev tCB(r:List V->Hp->VK->Prop)(t:TA):TE:=λσ H Q=>t σ H λvs H1=>r vs H1 Q
def af2(l:G8 X (.builtin id) r)(j:Gl X x)(i:X.mg x=AF)(f:BK x=AA (.builtin id))(m:PA X (e::es) t)(g:x≠"__name__":=by decide)(c:(x==("__debug__":Str))=AE:=by decide)
  (k:Ao (e::es) X.env=(AE,eval e X.env)::Ao es X.env:=by rfl) (b:(Bx pos (Ao es X.env)).any (·.1)=AE:=by rfl):PE X (.Call (.Name x p) (e::es) [] pos) (tCB r t):=by
 intro a s d H Q I h;apply Bz (L6 I j i f ?_ g c);show LK (thn (m pos a s d H _ I h) λus s1⟨vs,H1,I1,r1,q1⟩=>l a s1 d H1 vs us Q I1 r1 q1) k b
def b42(l:G8 X (.type T) r)(j:Gl X x)(i:X.mg x=AF)(f:BK x=AA (.type T))(m:PA X (e::es) t)(g:x≠"__name__":=by decide)(c:(x==("__debug__":Str))=AE:=by decide)
  (k:Ao (e::es) X.env=(AE,eval e X.env)::Ao es X.env:=by rfl) (b:(Bx pos (Ao es X.env)).any (·.1)=AE:=by rfl):PE X (.Call (.Name x p) (e::es) [] pos) (tCB r t):=by
 intro a s d H Q I h;apply Bz (L6 I j i f ?_ g c);show BF (thn (m pos a s d H _ I h) λus s1⟨vs,H1,I1,r1,q1⟩=>l a s1 d H1 vs us Q I1 r1 q1) k b
end
end L2
namespace HT
open PySem PyProof.Rows
section
open PySem.SeqAt
open PySem.AutoSeq1 (wpAny_loadPart')
open PySem.MeetsSeq PySem.MeetsSeq2 PySem.MeetsSeq3
end
section
variable {prog:Ag} {w:Aw} {A:BR} {E:AG->AK->Prop} {s:AK}
def cat_tup{t b}{vs ws}{Q}(q:IG s.heap t vs.toArray)(v:IG s.heap b ws.toArray)(m:vs≠[])
  (y:ws=[]->Q (.ref t) s) (x:ws≠[]->Q (.ref s.heap.objs.size) {s with heap:=s.heap.push {cls:=.type "tuple",data:=.seq (vs++ws).toArray}})
  (hsz:vs.length+ws.length<=sizeLine):AR (model prog w) A (DF .Add (.ref t) (.ref b)) Q E s:=by
 let{{cls,dd,o,k},f,u,n,r}:=id q;let{{p,d,j,c},a,i,l,h}:=id v;subst u r i h;have e:vs.toArray++ws.toArray=(vs++ws).toArray:=by simp
 by_cases g:ws=[]
 ·show JB ⟨_,f,rfl⟩ ⟨_,a,rfl⟩ HS Ib PySem.F.slot_tuple_add PySem.F.entry_tuple_add (PySem.F.args_tuple_add_2 _ _)
   (tuple_addW1 t b vs.toArray ws.toArray n l dd d k c (by simpa using m) (by simp[g])) {f,a,y g}
 ·apply JB ⟨_,f,rfl⟩ ⟨_,a,rfl⟩ HS Ib PySem.F.slot_tuple_add PySem.F.entry_tuple_add (PySem.F.args_tuple_add_2 _ _)
   (tuple_addW2 t b vs.toArray ws.toArray n l dd d k c (by simpa using m) (by simp_all) (by show hsz)) {f,a,?_}
  rw[e];show x g
abbrev sIx(n d:Nat):Option Int->Nat
 |none=>d
 |some v=>if v<0 then(v+(n:Int)).toNat else min v.toNat n
def bn1 n d(b:d<=n)o:sIx n d o<=n:=by
 cases o with
 |none=>show b
 |some v=>
  change(if v<0 then(v+n).toNat else min v.toNat n)<=n
  by_cases a:v<0
  ·rw[if_pos a];lia
  ·rw[if_neg a];show FY _ _
def bg3(v:Int)(n d:Nat):(if v<0 then max (v+n) 0 else min v n)=sIx n d (AA v):=by
 change(if v<0 then max (v+n) 0 else min v n)=if v<0 then(v+n).toNat else min v.toNat n
 ·grind
def bx3 lo hi(n:Nat):Dm lo hi 1 n=((sIx n 0 lo:Int),(sIx n n hi:Int)):=by
 apply Prod.ext ?_ ?_
 ·cases lo with
  |none=>rfl
  |some v=>show bg3 v n 0
 ·cases hi with
  |none=>rfl
  |some v=>show bg3 v n n
def bw5(i j:Nat):Co i j 1=j-i:=by
 unfold Co;simp
 split<;>lia
def a09{v}{o}{Q}(p:GJ v o)(h:Q o s):AR (model prog w) A (Kt v) Q E s:=by
 cases p with
 |none=>show LZ h
 |int i t=>show slicePart_int h
def ay7{sl}{vl vu}{lo hi}{n:Nat}{Q}(g:s.heap.IsSliceOf sl vl vu .none)(f:GJ vl lo)(e:GJ vu hi)
  (h:Q ((sIx n 0 lo),1,sIx n n hi-sIx n 0 lo) s):AR (model prog w) A (Fp (.ref sl) (pure n)) Q E s:=by
 let{k,b,i,c}:=id g;apply AC (AC (As b c (x:=vl) rfl (AC (As b c (x:=vu) rfl (AC (As b c rfl (AL ?_)))))));apply AC (LZ ?_);apply AC (a09 f (AC (a09 e (AC (AL ?_)))));change AR _ _ (match Dm lo hi 1 n with|(lo,hi)=>pure (lo,(1:Int),Co lo hi 1)) _ _ s;rw[bx3 lo hi n];change AR _ _ (pure ((sIx n 0 lo:Int),1,Co (sIx n 0 lo) (sIx n n hi) 1)) _ _ s;rw[bw5];show AL h
def b78(a:Array AG)(i k:Nat):((Dk k).filterMap λ(m:Nat)=>a[((i:Int)+m*1).toNat]?).toArray=((a.toList.drop i).take k).toArray:=by
 have e:(λ(m:Nat)=>a[(i+(m:Int)*1).toNat]?)=λm=>a[i+m]?:=by
  funext m
  have:((i:Int)+m*1).toNat=i+m:=by lia
  rw[this]
 rw[e];have:=pick_run a i k;rw[List.filterMap_map]at this;have b:((λx=>a[x]?)∘λx=>i+x)=λm=>a[i+m]?:=rfl;rw[b]at this;rw[this]
def getItem_tuple_cut{t sl}{items}{vl vu}{lo hi}{Q}(b:IG s.heap t items)(g:s.heap.IsSliceOf sl vl vu .none)(j:GJ vl lo)(i:GJ vu hi)
  (l:¬(sIx items.size 0 lo=0/\sIx items.size items.size hi=items.size))
  (h:Q (.ref s.heap.objs.size) {s with heap:=s.heap.push {cls:=.type "tuple",data:=.seq ((items.toList.drop (sIx items.size 0 lo)).take (sIx items.size items.size hi-sIx items.size 0 lo)).toArray}})
  (hsz:items.size<=sizeLine):AR (model prog w) A (Dz (.ref t) (.ref sl)) Q E s:=by
 have a:=by
  change((items.toList.drop (sIx items.size 0 lo)).take (sIx items.size items.size hi-sIx items.size 0 lo)).toArray.size<=sizeLine;rw[Ac,Bu,Bv,FV];lia
 let{k,c,e,m}:=id g;have f:s.TypeIs (.ref sl) "slice":=⟨k,c,e⟩;unfold Dz
 try with_reducible apply Bg ?_
 apply AC (HB b.typeIs ∅ ?_);apply AC (BP b.typeIs BV
  (BN BV b.typeIs Jo ?_ (KG _ _)))
 change AR _ _ (Di (.ref t)>>=_) _ _ s;apply AC (tupleItemsOf_ b ?_);apply AC (FZ f ?_);apply AC (ay7 g j i ?_);have d:¬((((sIx items.size 0 lo):Int)==0&&(1:Int)==1&&(sIx items.size items.size hi-sIx items.size 0 lo)==items.size)=AD):=by
  intro q;show l {⋯,⋯}
 change AR _ _ (if((sIx items.size 0 lo:Int)==0&&1==1&&(sIx items.size items.size hi-sIx items.size 0 lo)==items.size)=AD then _ else _) _ _ s;rw[if_neg d,b78]
 first
  |show AC (BZ (AL {_,rfl,AL h}) a)
  |simp_all
  |nofun
  |grind
end
end HT
namespace L2
open PySem PySem.Spec PyProof.Rows
section
@[reducible]noncomputable def TO:=St->Hp->(Option Int->Hp->Prop)->Prop
abbrev PO(X:Cx)(e:Option AT)(t:TO):Prop:=
 ∀(pins:List (AI×Obj))(s:AK)(σ:St)(H:Hp)(Q:Option Int->Hp->Prop),Inv X pins σ H s->t σ H Q ->
  AR (model X.prog X.w) X.A (evalPart e X.env) (λu s'=>∃o H',Inv X pins σ H' s'/\GJ u o/\Q o H') X.xe s
abbrev ch3:TO:=λ_ H Q=>Q AF H
abbrev dd0(t:TE):TO:=λσ H Q=>t σ H λx H1=>∃i,x=.int i/\Q (AA i) H1
section
variable {X:Cx} {e:AT} {te:TE} {lo hi:Option AT} {tl th:TO} {pos p2:Pos}
def cf6:PO X AF ch3:=by
 intro a s b H Q I h;show AL {AF,H,I,.none,h}
def cj7(h:PE X e te):PO X (AA e) (dd0 te):=by
 intro a s b H Q I f;apply thn (h a s b H _ I f) λu s1 z23=>?_;let{x,j,g,c,d}:=z23;let{i,rfl,q}:=d;let{t,rfl}:=c;show{AA i,j,g,.int i t,q}
abbrev SlR(X:Cx)(r:V->Option Int->Option Int->Hp->VK->Prop):Prop:=
 ∀(pins:List (AI×Obj))(s:AK)(σ:St)(H:Hp)(x:V)(v vl vu:AG)(lo hi:Option Int)(sl:AI)(Q:VK),Inv X pins σ H s->i7 x v->s.heap.IsSliceOf sl vl vu .none->GJ vl lo->GJ vu hi->r x lo hi H Q ->
  ∃T id,Gn (.type T) "__getitem__"=pure (AA (.builtin id))/\s.TypeIs v T/\AR (model X.prog X.w) X.A (Dz v (.ref sl)) (EP X pins σ Q) X.xe s
def SlR.or{r r'}(h:SlR X r)(h':SlR X r'):SlR X λx lo hi H Q=>r x lo hi H Q\/r' x lo hi H Q:=by
 intro a s b H x v d c lo hi e Q I f j i g q
 rcases q with q|q
 ·show h a s b H x v d c lo hi e Q I f j i g q
 ·show h' a s b H x v d c lo hi e Q I f j i g q
abbrev tSl(r:V->Option Int->Option Int->Hp->VK->Prop)(te:TE)(tl th:TO):TE:=λσ H Q=>te σ H λx H1=>tl σ H1 λl H2=>th σ H2 λu H3=>r x l u H3 Q
def bd2{r}(m:SlR X r)(p:PE X e te)(n:PO X lo tl)(j:PO X hi th):PE X (.Subscript e (.Slice lo hi AF p2) pos) (tSl r te tl th):=by
 intro a s b H Q I h;apply KH (thn (p a s b H _ I h) λv s1 z24=>?_);let{x,z,y,d,g}:=z24;apply wpAny_Slice (thn (n a s1 b z _ y g) λvl s2⟨l,H2,I2,pl,q2⟩=>thn (j a s2 b H2 _ I2 q2) λvu s3 z25=>?_);let{u,c,w,i,f}:=z25;apply AL ?_;have t:Inv X a b c {s3 with heap:=s3.heap.push {cls:=.type "slice",data:=.fields #[vl,vu,.none]}}:=w.kept λb ob=>AM _;let{T,A,q,k,o}:=m a {s3 with heap:=s3.heap.push {cls:=.type "slice",data:=.fields #[vl,vu,.none]}} b c x v vl vu l u s3.heap.objs.size Q t d (KU ..) pl i f;show tail_any k q o rfl
abbrev R4(xs:List V)(lo hi:Option Int):List V:=(xs.drop (HT.sIx xs.length 0 lo)).take (HT.sIx xs.length xs.length hi-HT.sIx xs.length 0 lo)
def az7(xs)lo hi:(R4 xs lo hi).length<=xs.length:=by
 unfold R4;rw[Bu,Bv];lia
abbrev dg5(K:AO):V->Option Int->Option Int->Hp->VK->Prop:=λx lo hi H Q=>∃a xs,x=.ref a/\SqT K H a xs /\
 ¬(HT.sIx xs.length 0 lo=0/\HT.sIx xs.length xs.length hi=xs.length)/\∀p,H p=AF->Q (.ref p) (upd H p (.tup (R4 xs lo hi)))
def bl0:SlR X (dg5 X.K):=by
 intro e s n H x v p o lo hi t Q I g m j i h;let{a,c,rfl,k,l,q}:=h;cases g;let{d,r,f,hz}:=I.tuple k;have b:d.toArray.size=c.length:=(r.length.symm)
 apply{"tuple",_,BV.lookup,f.typeIs,?_};apply HT.getItem_tuple_cut f m j i (b▸l) ?_ (b▸hz);rw[b];apply{.ref s.heap.objs.size,_,I.laid (λb ob=>AM _) (AS _) ?_,rfl,q _ (I.hok.fresh (AS _))};show{BB (az7 c lo hi) hz,_,(r.drop (HT.sIx c.length 0 lo)).take (HT.sIx c.length c.length hi-HT.sIx c.length 0 lo),E8.new _ _}
abbrev c69(K:AO):R2:=λx y H Q=>∃a b xs ys,x=.ref a/\y=.ref b/\SqT K H a xs/\SqT K H b ys/\xs≠[]/\xs.length+ys.length<=sizeLine /\
 (ys=[]->Q (.ref a) H)/\(ys≠[]->∀p,H p=AF->Q (.ref p) (upd H p (.tup (xs++ys))))
def i5.nil_iff{xs}{us}(r:i5 xs us):us=[]↔xs=[]:=by
 cases r with
 |nil=>simp
 |cons _ _=>simp
def ce1:OpR X (DF .Add) (c69 X.K):=by
 intro e s r H x y v u Q I i g h;let{a,b,A,t,rfl,rfl,q,p,o,hz,k,j}:=h;cases i;cases g;let{n,d,m,_}:=I.tuple q;let{f,c,l,_}:=I.tuple p;apply HT.cat_tup m l (λz=>o (d.nil_iff.mp z)) (λz=>{.ref a,H,I,rfl,k (c.nil_iff.mp z)}) (λz=>?_) (by rwa[<-d.length,<-c.length]);apply{.ref s.heap.objs.size,_,I.laid (λb ob=>AM _) (AS _) ?_,rfl,j (λw=>z (c.nil_iff.mpr w)) _ (I.hok.fresh (AS _))};show{by simp_all,_,d.append c,E8.new _ _}
end
variable{pins:List (AI×Obj)}{σ:St}{H:Hp}{s:AK}
abbrev ixN(n:Nat)(i:Int):Option Nat:=if 0<=i then(if i<n then AA i.toNat else AF)else if -(n:Int)<=i then AA (i+n).toNat else AF
abbrev atI{α:Type}(xs:List α)(i:Int):Option α:=(ixN xs.length i).bind λj=>xs[j]?
def as5{n}{i}{j}(h:ixN n i=AA j):Im i n=AA j/\j<n/\-(n:Int)<=i/\i<n:=by
 unfold ixN at h
 by_cases b:0<=i
 ·rw[if_pos b]at h
  by_cases a:i<n
  ·rw[if_pos a]at h;have e:i.toNat=j:=At h;show{by rw[JZ b a,e],⋯,⋯,a}
  ·simp_all
 ·rw[if_neg b]at h
  by_cases a:-(n:Int)<=i
  ·rw[if_pos a]at h;have e:(i+n).toNat=j:=At h;show{by rw[JC ⋯ a,e],⋯,a,⋯}
  ·simp_all
def as7{α}{xs}{i}{v:α}(h:atI xs i=AA v):∃j,Im i xs.length=AA j/\xs[j]?=AA v/\j<xs.length/\-xs.length<=i/\i<xs.length:=by
 unfold atI at h;cases e:ixN xs.length i with
 |none=>simp_all
 |some j=>
  rw[e]at h;let{d,c,b,a}:=as5 e;show⟨j,d,h,c,b,a⟩
abbrev bg7(b:AT):Prop:=∀o i,subscripted b AE o i=operate [o,i] (Dz o i)
abbrev IxR(X:Cx)(r:R2):Prop:=
 ∀(value slice:AT)(pins:List (AI×Obj))(s:AK)(σ:St)(H:Hp)(x y:V)(v u:AG)(Q:VK),Inv X pins σ H s->i7 x v->i7 y u->r x y H Q ->
  subscripted slice AE v u=operate [v,u] (Dz v u)->AR (model X.prog X.w) X.A (Gf value slice v u) (EP X pins σ Q) X.xe s
abbrev MtR(X:Cx)(id:String)(r:V->List V->Hp->VK->Prop):Prop:=
 ∀(pins:List (AI×Obj))(s:AK)(σ:St)(H:Hp)(x:V)(xs:List V)(v:AG)(us:List AG)(Q:VK),Inv X pins σ H s->i7 x v->i5 xs us->r x xs H Q ->
  AR (model X.prog X.w) X.A (call (.builtin id) (v::us)) (EP X pins σ Q) X.xe s
section
variable {X:Cx} {a b:AT} {ta tb:TE} {pos:Pos}
def IxR.or{r r'}(h:IxR X r)(h':IxR X r'):IxR X λx y H Q=>r x y H Q\/r' x y H Q:=by
 intro a b c s d H x y v u Q I f e q g
 rcases q with q|q
 ·show h a b c s d H x y v u Q I f e q g
 ·show h' a b c s d H x y v u Q I f e q g
def c60{r}(d:IxR X r)(f:PE X a ta)(e:PE X b tb)(c:bg7 b):PE X (.Subscript a b pos) (tOp r ta tb):=λpins s σ H Q I h=>KH (ax2 f e I h λv u s2 x y H2 I2 rx ry q=>d a b pins s2 σ H2 x y v u Q I2 rx ry q (c _ _))
abbrev dm2(K:AO):R2:=λx y H Q=>∃p xs i v,x=.ref p/\y=.int i/\SqL K H p xs/\atI xs i=AA v/\Q v H
abbrev di7(K:AO):R2:=λx y H Q=>∃p xs i v,x=.ref p/\y=.int i/\SqT K H p xs/\atI xs i=AA v/\Q v H
abbrev di1:R2:=λx y H Q=>∃z i c,x=.str z/\y=.int i/\z.length<=sizeLine/\atI z.cps.toList i=AA c/\Q (.str ⟨#[c]⟩) H
def cn2:IxR X (dm2 X.K):=by
 intro c d a s l H x y v u Q I B A h m;let{p,L,i,z,rfl,rfl,C,E,q}:=h;cases B;let{t,rfl}:=A;let{g,r,f,hz}:=I.list C;let{j,b,J,N,G,F}:=as7 E;let{w,o,e}:=r.get J;have D:=r.length;have M:=ab3;have fin:EP X a l Q w s:=⟨z,H,I,e,q⟩
 by_cases n:0<=i
 ·have k:i.toNat=j:=by
   rw[JZ n F]at b;show At b
  show item_listR f.isList n ⋯ (by rw[k];simpa using o) fin m
 ·have k:(i+(g.toArray.size:Int)).toNat=j:=by
   rw[JC ⋯ G]at b;rw[Ac,<-D];show At b
  show JD (x:=w) f.isList.typeIs KW.lookup
   (wpAny_getItem_list_neg (Q:=λr s'=>r=w/\EP X a l Q r s') f.isList ⋯ (by rw[Ac]<;>lia) ⋯ (by rw[k];simpa using o) ⟨rfl,fin⟩) m
def c23:IxR X (di7 X.K):=by
 intro b c a s e H x y v u Q I k g h m;let{p,E,i,z,rfl,rfl,n,A,q}:=h;cases k;let{t,rfl}:=g;let{l,r,f,hz}:=I.tuple n;let{j,C,B,L,J,G}:=as7 A;let{w,D,d}:=r.get B;have o:=r.length;have F:=ab3;have fin:EP X a e Q w s:=⟨z,H,I,d,q⟩;show JD (x:=w) f.typeIs Eg.lookup
  (getItem_tuple (j:=j) (Q:=λr s'=>r=w/\EP X a e Q r s') f ⋯ ⋯ (by rw[Ac,<-o];show C) (by simpa using D) ⟨rfl,fin⟩) m
def cx0:IxR X di1:=by
 intro a b d s A H x y v u Q I g f h k;let{z,i,c,rfl,rfl,hz,m,q}:=h;let{t,rfl}:=g;let{t',rfl}:=f;let{j,e,p,C,o,n}:=as7 m;have l:z.cps.toList.length=z.length:=by simp[Str.length]
 rw[l]at e o n;have B:=ab3;show tail_any (typeIs_str s z t) slot_str_getitem.lookup (getItem_str (c:=c) (by
  have w:AB (i < -(2^63:Int))=AE:=decide_eq_false ⋯;have r:AB (i>=2^63)=AE:=decide_eq_false ⋯;rw[w,r,Hf]) (by rw[e];simpa using p) {.str ⟨#[c]⟩,H,I.tok _,⟨_,rfl⟩,q}) k
def by7(a:List AG)n j(u):CM (·.setIfInBounds j u) {cls:=.type "list",data:=.seq a.toArray n}={cls:=.type "list",data:=.seq (a.set j u).toArray n}:=by
 simp[CM]
theorem Inv.lst{p}{xs}(I:Inv X pins σ H s)(h:H p=AA (.lst xs)):
  ∃(a:List AG)(n:Nat),i5 xs a/\s.heap.get? p=AA {cls:=.type "list",data:=.seq a.toArray n}/\xs.length<=sizeLine:=by
 let{z,a,n,r,e}:=I.hok p _ h;show⟨a,n,r,e,z⟩
def Inv.lstUpd{p}{xs ys}{a its':List AG}{n n'}{f}(I:Inv X pins σ H s)(h:H p=AA (.lst xs))
  (c:s.heap.get? p=AA {cls:=.type "list",data:=.seq a.toArray n}) (b:f {cls:=.type "list",data:=.seq a.toArray n}={cls:=.type "list",data:=.seq its'.toArray n'}) (r:i5 ys its') (hz:ys.length<=sizeLine) t :
  Inv X pins σ (upd H p (.lst ys)) {s with heap:=s.heap.update p f,toks:=t}:=by
 have e:(s.heap.update p f).get? p=AA {cls:=.type "list",data:=.seq its'.toArray n'}:=by
  rw[Bn f c (by rw[b]<;>rfl),b]
 show I.write (by rw[h];trivial) (.inl rfl) (λb u hb=>(Ba _ _ (Ax hb)).trans) ⟨_,e⟩ ⟨hz,its',n',r,e⟩
abbrev db4:V->V->V->Hp->(Hp->Prop)->Prop:=λo i v H Q=>∃p xs k j,o=.ref p/\i=.int k/\H p=AA (.lst xs)/\ixN xs.length k=AA j/\Q (upd H p (.lst (xs.set j v)))
def ca4:br1 X db4:=by
 intro a s y H o i v E F u Q I B C A h;let{p,z,k,j,rfl,rfl,g,D,q}:=h;cases B;let{t,rfl}:=C;let{b,n,r,d,hz}:=I.lst g;let{c,J,m,l}:=as5 D;have e:=r.length;have G:=ab3;have x:Inv X a y (upd H p (.lst (z.set j v))) {s with heap:=s.heap.update p (CM (·.setIfInBounds j u))}:=
  I.lstUpd g d (by7 b n j u) (r.set A j) (by rw[List.length_set];show hz) s.toks
 by_cases w:0<=k
 ·have f:k.toNat=j:=by
   rw[JZ w l]at c;show At c
  show W.ki_setAt d w ⋯ (by rw[Ac,<-e];show l) (by rw[f];show⟨_,x,q⟩)
 ·have f:(k+(b.toArray.size:Int)).toNat=j:=by
   rw[JC ⋯ m]at c;rw[Ac,<-e];show At c
  show W.ki_setBack d ⋯ (by rw[Ac,<-e];show m) ⋯ (by rw[f];show⟨_,x,q⟩)
def bu3(lo hi:Option Int)(n:Nat):(EF lo hi AF n).1=((HT.sIx n 0 lo:Nat):Int)/\(EF lo hi AF n).2.1=((HT.sIx n n hi:Nat):Int)/\(EF lo hi AF n).2.2=1:=by
 apply{?_,?_,rfl}
 ·cases lo with
  |none=>rfl
  |some i=>
   erw[EF,HT.sIx,GO,show(1:Int)>0 by decide,if_true]
   by_cases h:i<0
   ·erw[h,if_true]<;>lia
   ·erw[h,if_false]<;>lia
 ·cases hi with
  |none=>rfl
  |some i=>
   erw[EF,HT.sIx,GO,show(1:Int)>0 by decide,if_true]
   by_cases h:i<0
   ·erw[h,if_true]<;>lia
   ·erw[h,if_false]<;>lia
def bt9(a:List AG)lo hi:slicePick a.toArray lo hi AF=((a.drop (HT.sIx a.length 0 lo)).take (HT.sIx a.length a.length hi-HT.sIx a.length 0 lo)).toArray:=by
 let{d,c,b}:=bu3 lo hi a.toArray.size;unfold slicePick;rw[d,c,b];erw[sliceRange_one,pick_run,Ac]
abbrev df4(K:AO):V->Option Int->Option Int->Hp->VK->Prop:=λx lo hi H Q=>∃a xs,x=.ref a/\SqL K H a xs/\∀p,H p=AF->Q (.ref p) (upd H p (.lst (R4 xs lo hi)))
def ci4:SlR X (df4 X.K):=by
 intro d s m H x v o n lo hi p Q I f l i g h;let{a,b,rfl,k,q}:=h;cases f;let{j,r,e,hz}:=I.list k;have c:=r.length;apply{"list",_,KW.lookup,e.isList.typeIs,?_};apply wpAny_getItem_list_slice e.isList l i g .none ∎ ?_ (by rw[Ac]<;>lia);rw[bt9,<-c];apply{.ref s.heap.objs.size,_,I.laid (λb ob=>AM _) (AS _) ?_,rfl,q _ (I.hok.fresh (AS _))};show{BB (az7 b lo hi) hz,_,0,(r.drop (HT.sIx b.length 0 lo)).take (HT.sIx b.length b.length hi-HT.sIx b.length 0 lo),Ae _ rfl}
def bu5:G8 X (.builtin "len") λxs H Q=>∃p b,xs=[.ref p]/\(SqL X.K H p b\/SqT X.K H p b)/\Q (.int b.length) H:=by
 intro g s k H xs us Q I r h;let{p,b,rfl,c,q}:=h;let{u,rfl,j}:=ac5 r;cases j;have l:=ab3
 rcases c with c|c
 ·let{f,d,e,hz}:=I.list c;have a:=d.length;show Calls.call_len_list e.isList (by grind) {.int b.length,H,I.tok _,{s.toks+1,by rw[Ac,a]},q}
 ·let{f,d,e,hz}:=I.tuple c;have a:=d.length;show len_tuple e (by grind) {.int b.length,H,I.tok _,{s.toks+1,by rw[Ac,a]},q}
def bu4:G8 X (.type "list") λxs H Q=>∃p c,xs=[.ref p]/\(SqL X.K H p c\/SqT X.K H p c)/\∀l,H l=AF->Q (.ref l) (upd H l (.lst c)):=by
 intro g s y H xs us Q I r h;let{p,c,rfl,i,q}:=h;let{u,rfl,A}:=ac5 r;cases A;have fin:∀its,i5 c its->c.length<=sizeLine->∀(h')f,(∀b x,s.heap.get? b=AA x->h'.get? b=AA x) ->
   h'.get? s.heap.objs.size=AA {cls:=.type "list",dict:=AF,data:=.seq its.toArray f,slots:=#[]}->EP X g y Q (.ref s.heap.objs.size) {s with heap:=h'}:=λits d hz h' f kp e=>
  {.ref s.heap.objs.size,_,I.laid kp (AS _) (show o5 X.prog X.w _ h' _ (.lst c) from⟨hz,its,f,d,e⟩),rfl,q _ (I.hok.fresh (AS _))}
 rcases i with i|i
 ·let{its,d,k,hz}:=I.list i;have j:=d.length;let{o,m,v,n,t}:=k.isList;show call_list_seq p (.inl rfl) m v t (λh' f kp=>fin its d hz h' f kp) (by simp_all)
 ·let{its,d,k,hz}:=I.tuple i;have j:=d.length;let{o,m,v,n,t}:=k;show call_list_seq p (.inr rfl) m v t (λh' f kp=>fin its d hz h' f kp) (by simp_all)
def bu0:G8 X (.type "tuple") λxs H Q=>∃p a,xs=[.ref p]/\((SqL X.K H p a/\∀l,H l=AF->Q (.ref l) (upd H l (.tup a)))\/(SqT X.K H p a/\Q (.ref p) H)):=by
 intro f s n H xs us Q I r h;let{p,a,rfl,h}:=h;let{u,rfl,k}:=ac5 r;cases k
 rcases h with⟨e,q⟩|⟨e,q⟩
 ·let{b,c,d,hz}:=I.list e;have g:=c.length;apply call_tuple_list d.isList (λh' kp=>?_) (by simp_all);have i:=I.kept (t':=s.toks) kp;have m:=
   i.laid (t':=s.toks) (λb o=>AM _) (AS _) (show o5 X.prog X.w _ _ _ (.tup a) from{hz,b,c,E8.new _ _})
  show{.ref h'.objs.size,_,m,rfl,q _ (i.hok.fresh (AS _))}
 ·let{b,c,d,hz}:=I.tuple e;show call_tuple_same d {.ref p,H,I,rfl,q}
abbrev tyV(K:AO)(T:String)(x:V)(H:Hp):Prop:=match x with
 |.str _=>T="str"
 |.int _=>T="int"
 |.ref p=>(T="list"/\∃xs,SqL K H p xs)\/(T="tuple"/\∃o,K.lookup p=AA o/\o.cls=.type "tuple"/\o.dict=AF)\/
   (T="dict"/\((∃kvs,H p=AA (.dK kvs))\/∃kvs,H p=AA (.dT kvs)))\/(T="set"/\∃S n,H p=AA (.set S n))
 |_=>False
def bl8{T}{x}{v}(I:Inv X pins σ H s)(r:i7 x v)(f:tyV X.K T x H):
  s.TypeIs v T/\∀a,v=.ref a->∃ob,s.heap.get? a=AA ob/\ob.dict=AF:=by
 cases x with
 |str z=>
  let{t,rfl}:=r;cases(f);show{typeIs_str s z t,λ_ e=>nomatch e}
 |int i=>
  let{t,rfl}:=r;cases(f);show{KJ s i t,λ_ e=>nomatch e}
 |ref p=>
  cases r
  rcases f with⟨rfl,y,u⟩|⟨rfl,o,b,w,h⟩|⟨rfl,b⟩|⟨rfl,S,n,b⟩
  ·let{m,_,j,_}:=I.list u;apply{j.isList.typeIs,λa e=>?_};cases e;let{o,n,e,c,h,_}:=j;show⟨o,e,h⟩
  ·apply{{o,I.kIn p o b,w},λa e=>?_};cases e;show{o,I.kIn _ o b,h}
  ·have z:∃o,s.heap.get? p=AA o/\o.ExactDict:=by
    rcases b with⟨g,b⟩|⟨g,b⟩
    ·let{_,_,_,_,o,_,_,e,d,_}:=I.hok p _ b;show⟨o,e,d⟩
    ·let{_,_,_,_,o,_,_,e,d,_}:=I.hok p _ b;show⟨o,e,d⟩
   let{o,e,d}:=z;apply{⟨o,e,d.1⟩,λa e2=>?_};cases e2;show⟨o,e,d.2.1⟩
  ·let{o,_,_,_,e,d,_}:=I.hok p _ b;apply{⟨o,e,d.1⟩,λa e2=>?_};cases e2;show⟨o,e,d.2.1⟩
 |_=>show AU f
abbrev dg9(K:AO)(T:String)(r:V->List V->Hp->VK->Prop)(to:TE):TE:=λσ H Q=>to σ H λx H1=>tyV K T x H1/\r x [] H1 Q
abbrev tBM(K:AO)(T:String)(r:V->List V->Hp->VK->Prop)(to:TE)(t:TA):TE:=λσ H Q=>to σ H λx H1=>tyV K T x H1/\t σ H1 λxs H2=>r x xs H2 Q
variable {o e:AT} {es:List AT} {to:TE} {t:TA} {name:Str} {apos cpos:Pos} {T id:String} {r:V->List V->Hp->VK->Prop}
def bj4(l:PlainAttrs T)(d:Slot T name id)(e:La (.builtin id)=pure (.type "method_descriptor"))(n:MtR X id r)(m:PE X o to)
  (c:Cy o name X.env (eval o X.env)=eval o X.env:=by rfl) (b:(apos.endLine==cpos.line)=AD:=by rfl):PE X (.Call (.Attribute o name apos) [] [] cpos) (dg9 X.K T r to):=by
 intro a s f H Q I h;apply wpAny_Call_method0_late c b (thn (m a s f H _ I h) λv s1 z26=>?_);let{x,t,i,g,j,k}:=z26;let{q,p}:=bl8 i g j;show{T,id,l,d,e,q,p,DU rfl (PySem.evalArgs_none (n a s1 f t x [] v [] Q i g .nil k))}
def dc5(q:PlainAttrs T)(f:Slot T name id)(j:La (.builtin id)=pure (.type "method_descriptor"))(y:MtR X id r)(w:PE X o to)(z:PA X (e::es) t)
  (d:Cy o name X.env (eval o X.env)=eval o X.env:=by rfl)
  (g:((Bx cpos (Ao (e::es) X.env)).all (λx=>!x.1)&&(FN cpos (De [] X.env)).all (λx=>x.1.isSome)
   &&AB ((e::es).length+([]:List Hy).length+(if([]:List Hy).isEmpty then 0 else 1)<30))=AD:=by rfl)
  (c:(apos.endLine==cpos.line)=AD:=by rfl) (u:Ao (e::es) X.env=(AE,eval e X.env)::Ao es X.env:=by rfl) (b:(Bx cpos (Ao es X.env)).any (·.1)=AE:=by rfl) :
  PE X (.Call (.Attribute o name apos) (e::es) [] cpos) (tBM X.K T r to t):=by
 intro a s i H Q I h;apply wpAny_Call_method_late d g c rfl (thn (w a s i H _ I h) λv s1 z27=>?_);let{x,C,m,k,n,p}:=z27;let{B,A}:=bl8 m k n;apply{T,id,q,f,j,B,A,?_};have l:=z cpos a s1 i C _ m p;rw[u]at l ⊢;apply DU (by change(AE||(Bx cpos (Ao es X.env)).any (·.1))=AE;rw[b]<;>rfl) (FP ?_);show thn l λus s2⟨vs,H2,I2,r2,q2⟩=>y a s2 i H2 x vs v us Q I2 k r2 q2
end
end
section
variable{us:List AG}{xs:List V}
abbrev MtM(X:Cx)(id:String)(r:V->List V->Hp->VK->Prop):Prop:=
 ∀(pins:List (AI×Obj))(s:AK)(σ:St)(H:Hp)(x:V)(xs:List V)(v:AG)(us:List AG)(Q:VK),Inv X pins σ H s->i7 x v->i5 xs us->r x xs H Q ->
  AR (model X.prog X.w) X.A (call (.builtin id) (v::us)) (EP X pins σ Q) X.xe s
def i5.one:∀{x}{us},i5 [x] us->∃u,us=[u]/\i7 x u
 |_,_,.cons r .nil=>⟨_,rfl,r⟩
def i5.two{x y}(h:i5 [x,y] us):∃u v,us=[u,v]/\i7 x u/\i7 y v:=by
 cases h with|cons r t=>cases t with|cons q t=>cases t;show⟨_,_,rfl,r,q⟩
def i5.zero:∀{us:List AG},i5 [] us->us=[]
 |_,.nil=>rfl
theorem i5.dropLast(h:i5 xs us):i5 xs.dropLast us.dropLast:=by
 induction h with
 |nil=>show .nil
 |cons r t c=>
  cases t with
  |nil=>show .nil
  |cons q t'=>show .cons r c
theorem i5.eraseIdx:∀{a}{us}i,i5 a us->i5 (a.eraseIdx i) (us.eraseIdx i)
 |_,_,_,.nil=>.nil
 |_,_,0,.cons _ t=>t
 |_,_,i+1,.cons r t=>.cons r (i5.eraseIdx i t)
theorem i5.reverse(h:i5 xs us):i5 xs.reverse us.reverse:=by
 induction h with
 |nil=>show .nil
 |cons r t c=>rw[Dn,Dn];show i5.append c (.cons r .nil)
theorem i5.rep(h:i5 xs us):∀k,i5 (Al k xs).flatten (Al k us).flatten
 |0=>.nil
 |k+1=>i5.append h (i5.rep h k)
def bw2{a:Type}(l:List a):l.eraseIdx (l.length-1)=l.dropLast:=by
 simp_all
theorem a71{a:Type}:∀(l:List a)i,(l.eraseIdx i).length<=l.length
 |[],_=>AS _
 |_::_,0=>Iz _
 |_::r,i+1=>Nat.succ_le_succ (a71 r i)
theorem ap4 its:∀k(a:List AG),
  Fu (λx1 x2=>x1++x2) a.toArray (Al k its.toArray)=(a++(Al k its).flatten).toArray
 |0,a=>by simp
 |k+1,a=>by
  have e:a.toArray++its.toArray=(a++its).toArray:=by simp
  have b:a++its++(Al k its).flatten=a++(Al (k+1) its).flatten:=by
   rw[DG,Do,Cq]
  rw[<-b,<-ap4 its k (a++its),<-e,DG,List.foldl_cons]
section
variable {X:Cx} {pins:List (AI×Obj)} {σ:St} {H:Hp} {s:AK} {l b:AI} {ys zs:List V}
def Inv.lset{a its':List AG}{n}{f}{t'}(I:Inv X pins σ H s)(d:H l=AA (.lst xs))
  (e:s.heap.get? l=AA {cls:=.type "list",data:=.seq a.toArray n}) (c:f a.toArray=its'.toArray) (b:i5 ys its') (hz:ys.length<=sizeLine) :
  Inv X pins σ (upd H l (.lst ys)) {s with heap:=s.heap.update l (CM f),toks:=t'}:=by
 have q:=PySem.IsL.update e f;rw[c]at q;show I.write (d▸trivial) (.inl rfl) (λb' u hb=>(Ba s.heap (CM f) (Ax hb)).trans) ⟨_,q⟩ ⟨hz,its',_,b,q⟩
def Inv.lnew{its}{t'}(I:Inv X pins σ H s)(a:i5 ys its)(hz:ys.length<=sizeLine):
  Inv X pins σ (upd H s.heap.objs.size (.lst ys)) {s with heap:=s.heap.push {cls:=.type "list",data:=.seq its.toArray},toks:=t'}:=
 I.laid (λ_ _=>AM _) (AS _) {hz,its,0,a,Ae _ rfl}
theorem Inv.fresh(I:Inv X pins σ H s):H s.heap.objs.size=AF:=I.hok.fresh (AS _)
def Inv.lstM(I:Inv X pins σ H s)(b:H l=AA (.lst xs)):xs.length<=sizeLine/\∃(a:List AG)(n:Nat),i5 xs a/\xs.length=a.length/\s.heap.get? l=AA {cls:=.type "list",data:=.seq a.toArray n}:=by
 let{z,a,n,r,e}:=I.hok l _ b;show⟨z,a,n,r,r.length,e⟩
def bb9{n}(h:n<=sizeLine):CK n=AE:=decide_eq_false ⋯
end
section
variable {X:Cx}
abbrev ck1:V->List V->Hp->VK->Prop:=λx vs H Q=>∃l xs y,x=.ref l/\vs=[y]/\H l=AA (.lst xs)/\xs.length<sizeLine/\Q .non (upd H l (.lst (xs++[y])))
def a97:MtM X "list.append" ck1:=by
 intro b s i H x vs v us Q I d f h;let{l,j,y,rfl,rfl,c,hz,q}:=h;cases d;let{u,rfl,g}:=f.one;let{z,a,n,r,k,e}:=I.lstM c;apply Db F.slot_list_append ⟨_,e,rfl⟩ F.entry_list_append (F.args_list_append_2 _ _) (PySem.list_append l a.toArray n u (by rw[Ac];lia)) {e,?_};apply{.non,_,I.lset c e ∎ (r.append (.cons g .nil)) ?_,rfl,q};rw[Ad,IM];lia
abbrev bh7:V->List V->Hp->VK->Prop:=λx vs H Q=>∃l b xs zs,x=.ref l/\vs=[.ref b]/\H l=AA (.lst xs)/\H b=AA (.lst zs)/\xs.length+zs.length<=sizeLine/\Q .non (upd H l (.lst (xs++zs)))
def b38:MtM X "list.extend" bh7:=by
 intro f s y H x vs v us Q I i j h;let{l,b,C,A,rfl,rfl,g,t,hz,q}:=h;cases i;let{u,rfl,k}:=j.one;cases k;let{z,c,n,r,D,e}:=I.lstM g;let{B,a,o,m,p,w}:=I.lstM t;have hsz:c.toArray.size+a.toArray.size<=sizeLine:=by simp_all
 have d:¬(!c.toArray.isEmpty&&CK (c.toArray.size+a.toArray.size))=AD:=by
  rw[bb9 hsz,Jp];show AH
 apply Db Ja ⟨_,e,rfl⟩ JN (JE _ _)
  (AutoSeq1.list_extend_list_list_0 l c.toArray n b a.toArray o d ⋯ ⋯) {e,w,?_}
 apply{.non,_,I.lset g e ∎ (r.append m) ?_,rfl,q};rw[Ad];lia
abbrev di8:V->List V->Hp->VK->Prop:=λx vs H Q=>∃l xs y,x=.ref l/\vs=[]/\H l=AA (.lst xs)/\xs[xs.length-1]?=AA y/\Q y (upd H l (.lst xs.dropLast))
def cs0:MtM X "list.pop" di8:=by
 intro d s m H x vs v us Q I g i h;let{l,o,y,rfl,rfl,f,k,q}:=h;cases g;have c:=i.zero;subst c;let{z,a,n,r,t,e}:=I.lstM f;let{u,p,j}:=r.get k;have b:a.toArray[a.toArray.size-1]?=AA u:=by
  simp_all
 apply Db KY ⟨_,e,rfl⟩ KL (F.args_list_pop_1 _) (MeetsSeq.list_pop_last l a.toArray n u b (by rw[Ac];lia)) {e,?_};apply{y,_,I.lset f e ?_ r.dropLast ?_,j,q}
 ·rw[Ac,GW,bw2]
 ·rw[List.length_dropLast];lia
abbrev cw8:V->List V->Hp->VK->Prop:=λx vs H Q=>∃l xs i k y,x=.ref l/\vs=[.int i]/\H l=AA (.lst xs)/\-(2^63)<=i/\i<2^63/\Im i xs.length=AA k/\xs[k]?=AA y/\Q y (upd H l (.lst (xs.eraseIdx k)))
def cc5:MtM X "list.pop" cw8:=by
 intro c s B H x vs v us Q I g j h;let{l,f,i,k,y,rfl,rfl,d,A,p,E,o,q}:=h;cases g;let{u,rfl,m}:=j.one;let{t,rfl}:=m;let{z,b,n,r,D,e}:=I.lstM d;let{w,C,a}:=r.get o;apply Db KY ⟨_,e,rfl⟩ KL (F.args_list_pop_2 _ _)
  (MeetsSeq.list_pop_at l b.toArray n i t k w (fitsIndex_both A p) (by simp_all) (by simp_all) (by rw[Ac];lia)) {e,?_}
 apply{y,_,I.lset d e ?_ (r.eraseIdx k) ?_,a,q}
 ·rw[GW]
 ·have:=a71 f k;lia
abbrev di3:R2:=λx y H Q=>∃l b xs zs,x=.ref l/\y=.ref b/\H l=AA (.lst xs)/\H b=AA (.lst zs)/\xs.length+zs.length<=sizeLine/\∀p,H p=AF->Q (.ref p) (upd H p (.lst (xs++zs)))
def cr1:OpR X (DF .Add) di3:=by
 intro d s t H x y v u Q I g f h;let{l,b,B,w,rfl,rfl,k,m,hz,q}:=h;cases g;cases f;let{z,c,n,r,D,e}:=I.lstM k;let{A,a,C,i,j,p}:=I.lstM m;apply PySem.P.add_list e p ?_ (by rw[Ac,Ac];lia);have o:c.toArray++a.toArray=(c++a).toArray:=by simp
 rw[o];show{.ref _,_,I.lnew (r.append i) (by rw[Ad];lia),rfl,q _ I.fresh}
def bg4{b:Type}(a:List b)k:(Al k a).flatten.length=k*a.length:=by
 simp_all
end
end
section
variable{kvs:List (Ak×V)}{o:Option V}{u:AG}{y v:V}{P:Ag}{H H':Hp}{xs:List (Ak×AI×AG)}{b a:AI}{X:Cx}{pins:List (AI×Obj)}{σ:St}{s:AK}{A:BR}{Q:AG->AK->Prop}{pos:Pos}
section
variable {κ:Type} [DecidableEq κ]
abbrev v4(kvs:List (κ×V))(k:κ):Option V:=(kvs.find? λkv=>AB (kv.1=k)).map (·.2)
abbrev C6(kvs:List (κ×V))(k:κ)(v:V):List (κ×V):=
 if(kvs.any λkv=>AB (kv.1=k))=AD then kvs.map (λkv=>if kv.1=k then(kv.1,v)else kv)else kvs++[(k,v)]
def aq5{p}{r}{k:κ}(e:p.1=k):v4 (p::r) k=AA p.2:=by simp[v4,e]
def aq1{p}{r}{k:κ}(e:¬p.1=k):v4 (p::r) k=v4 r k:=by simp[v4,e]
theorem aq0(k:κ):∀a:List (κ×V),(a.any λkv=>AB (kv.1=k))=(v4 a k).isSome
 |[]=>rfl
 |p::r=>by
  rw[HC]
  by_cases e:p.1=k
  ·erw[aq5 e,decide_eq_true e,Bool.true_or,IU]
  ·rw[aq1 e,decide_eq_false e,Hg];show aq0 k r
def az2 kvs(k:κ)v:(C6 kvs k v).length<=kvs.length+1:=by
 unfold C6
 split
 ·rw[AV];lia
 ·simp_all
def ca3{kvs}{k:κ}v(h:v4 kvs k=AF):C6 kvs k v=kvs++[(k,v)]:=by
 unfold C6;rw[aq0,h];show if_neg ∅
def B3.isSome_eq{u}(r:B3 o u):o.isSome=u.isSome:=by
 cases o with
 |none=>cases u with
  |none=>rfl
  |some _=>show(r).elim
 |some _=>cases u with
  |none=>show(r).elim
  |some _=>rfl
theorem B3.getD{u}{d}{d'}(r:B3 o u)(a:i7 d d'):i7 (o.getD d) (u.getD d'):=by
 cases o with
 |none=>cases u with
  |none=>show a
  |some _=>show(r).elim
 |some _=>cases u with
  |none=>show(r).elim
  |some _=>show r
def KV.val{kvs}{vs}(r:KV kvs vs)(k:κ):B3 (v4 kvs k) (HD vs k):=by
 induction r with
 |nil=>show Ch
 |@cons p q g a h t i=>
  let{d,j}:=h
  by_cases e:p.1=k
  ·have c:=d.symm.trans e;have b:HD (q::a) k=AA q.2:=by simp[HD,c]
   rwa[aq5 e,b]
  ·have c:¬q.1=k:=λz=>e (d.trans z);have b:HD (q::a) k=HD a k:=by simp[HD,c]
   rwa[aq1 e,b]
theorem KV.any{kvs}{vs}(r:KV kvs vs)(k:κ):(kvs.any λkv=>AB (kv.1=k))=vs.any λkv=>AB (kv.1=k):=by
 induction r with
 |nil=>rfl
 |cons h t c=>simp_all
def KV.repl{kvs}{vs}(r:KV kvs vs)(k:κ)(c:i7 y u):
  KV (kvs.map λkv=>if kv.1=k then(kv.1,y)else kv) (vs.map λkv=>if kv.1=k then(kv.1,u)else kv):=by
 induction r with
 |nil=>show .nil
 |@cons p q f d h t b=>
  apply .cons ?_ b;by_cases e:p.1=k
  ·simp_all
  ·simp_all
def KV.put{kvs}{vs}(r:KV kvs vs)(k:κ)(a:i7 y u):KV (C6 kvs k y) (stored vs k u):=by
 unfold C6 stored;rw[r.any k]
 by_cases e:(vs.any λkv=>AB (kv.1=k))=AD
 ·rw[if_pos e,if_pos e];show r.repl k a
 ·rw[if_neg e,if_neg e];show Paired.snoc r ⟨rfl,a⟩
theorem KV.length{a:List (κ×V)}{vs}(r:KV a vs):a.length=vs.length:=Paired.length r
end
def ab8{w:Aw}{k:Key}(r:i7 (kV k) u):(P7 P w).is k u=AD:=by
 cases k with
 |inl i=>let{t,e}:=(show ∃t,u=Ec i t from r);subst e;show bv6 P w i t
 |inr x=>let{t,e}:=(show ∃t,u=Ed x t from r);subst e;show bv4 P w x t
@[reducible]noncomputable def KT(H:Hp):List (Ak×V)->List (Ak×AI×AG)->Prop:=Paired λp q=>p.1=q.1/\F6 H p.1 q.2.1/\i7 p.2 q.2.2
def KT.val(r:KT H kvs xs)k:B3 (v4 kvs k) ((IN xs k).map (·.2)):=by
 induction r with
 |nil=>show Ch
 |@cons p q g a h t i=>
  let{d,_,j}:=h
  by_cases e:p.1=k
  ·have c:=d.symm.trans e;have b:IN (q::a) k=AA q.2:=by simp[IN,c]
   rwa[aq5 e,b]
  ·have c:¬q.1=k:=λz=>e (d.trans z);have b:IN (q::a) k=IN a k:=by simp[IN,c]
   rwa[aq1 e,b]
def KT.repl(r:KT H kvs xs)k(c:i7 y u):
  KT H (kvs.map λkv=>if kv.1=k then(kv.1,y)else kv) (xs.map (putAt k u)):=by
 induction r with
 |nil=>show .nil
 |@cons p q f d h t b=>
  apply .cons ?_ b;let{j,i,g}:=h;unfold putAt
  by_cases e:p.1=k
  ·simp_all
  ·simp_all
def KT.put(r:KT H kvs xs)k(c:F6 H k b)(a:i7 y u):
  KT H (C6 kvs k y) (storedH xs k b u):=by
 have e:(kvs.any λkv=>AB (kv.1=k))=(IN xs k).isSome:=by
  rw[aq0,(r.val k).isSome_eq,Fv]
 unfold C6 storedH;rw[e]
 by_cases q:(IN xs k).isSome=AD
 ·rw[if_pos q,if_pos q];show r.repl k a
 ·rw[if_neg q,if_neg q];show Paired.snoc r ⟨rfl,c,a⟩
theorem KT.keeps(r:KT H kvs xs)(c:∀b a,H b=AA (.tup a)->H' b=AA (.tup a)):KT H' kvs xs:=
 Paired.mapP r λ_ _ z=>{z.1,z.2.1.keeps c,z.2.2}
section
variable {w:Aw} {h:BA} 
def bo6{u}(b:HOk P w H h)(e:Rd H a u):=e.ok b
def U5{kvs}(b:HOk P w H h)(e:Rd H a (.dK kvs)):kvs.length<=sizeLine/\(a==CZ)=AE/\∃vs,KV kvs vs/\h.DictOf (P7 P w) a vs:=
 bo6 b e
def c39{kvs}(b:HOk P w H h)(e:H a=AA (.dK kvs)):=U5 b (.inl e)
def b29(ok:HOk P w H h):∀(n:Nat)(d:Ak),d.depth<=n->∀{v:V}{u:AG},HRd H d v->i7 v u->∃e,Reads h u d e:=by
 have all:∀n,(∀d:Ak,d.depth<=n->∀{v:V}{u:AG},HRd H d v->i7 v u->∃e,Reads h u d e)->∀(a:List Ak),Cg a<=n->∀{vs:List V}{us:List AG},O5 H a vs->i5 vs us->∃e,ReadsAll h us a e:=λn ih a=>by
  induction a with
  |nil=>
   intro _ vs us q r;obtain rfl:vs=[]:=q;cases r;show{_,.nil}
  |cons d a ihd=>
   intro g vs us q r;let{v,vr,rfl,y,s}:=q;have hd':max d.depth (Cg a)<=n:=g;cases r with
   |cons r1 r2=>
    let{a1,x1}:=ih d ⋯ y r1;let{a2,x2}:=ihd ⋯ s r2;show{_,.cons x1 x2}
 intro n
 induction n with
 |zero=>
  intro d g v u q r;cases d with
  |int i=>obtain rfl:v=.int i:=q;let{t,rfl}:=(show ∃t,u=Ec i t from r);show{_,.int _ _}
  |str x=>obtain rfl:v=.str x:=q;let{t,rfl}:=(show ∃t,u=Ed x t from r);show{_,.str _ _}
  |tuple a=>rw[NK.depth_tup]at g;lia
  |none=>show q.elim
  |bool _=>show q.elim
  |list _=>show q.elim
  |dict _=>show q.elim
 |succ n ih=>
  intro d g v u q r;cases d with
  |int i=>obtain rfl:v=.int i:=q;let{t,rfl}:=(show ∃t,u=Ec i t from r);show{_,.int _ _}
  |str x=>obtain rfl:v=.str x:=q;let{t,rfl}:=(show ∃t,u=Ed x t from r);show{_,.str _ _}
  |none=>show q.elim
  |bool _=>show q.elim
  |list _=>show q.elim
  |dict _=>show q.elim
  |tuple a=>
   rw[NK.depth_tup]at g;let{b,vs,rfl,y,s}:=q;cases(show u=Aq b from r);let{_,its,rv,o,h1,h2,_,m,h3}:=(show o5 P w H h b (.tup vs) from ok b _ y);let{e,x}:=all n ih a ⋯ s rv;show{_,.tuple h1 h2 h3 (by simpa using x)}
def N6{k}(b:HOk P w H h)(e:F6 H k a):(NK.dataKind P w).is h k a:={e.1,e.2.1,b29 b 7 k e.2.1 e.2.2 rfl}
def Q6(f:HOk P w H h)(e:Rd H a (.dT kvs)):kvs.length<=sizeLine/\(a==CZ)=AE /\
  ∃c,KT H kvs c/\h.DictOfH (NK.dataKind P w) a c:=by
 let{z,y,c,r,o,A,B,v,u,s,n,k}:=(bo6 f e);apply{z,y,c,r,o,A,B,v,u,s,n,λx b=>?_,k};have d:∀{l}{m},KT H l m->∀x∈m,(NK.dataKind P w).is h x.1 x.2.1:=by
  intro l m q
  induction q with
  |nil=>simp_all
  |@cons p q D C g t j=>
   intro x b
   rcases AQ.mp b with e|b
   ·subst e;show N6 f (g.1▸g.2.1)
   ·show j x b
 show d r x b
def c87(b:HOk P w H h)(e:H a=AA (.dT kvs)):=Q6 b (.inl e)
end
abbrev B4(H:Hp)(a:AI)(y:V)(r:Option V):Prop:=
 (∃kvs k,Rd H a (.dK kvs)/\y=kV k/\r=v4 kvs k)\/∃kvs k b,Rd H a (.dT kvs)/\y=.ref b/\F6 H k b/\r=v4 kvs k
abbrev O1(H:Hp)(a:AI)(y v:V)(H':Hp):Prop:=
 (∃kvs k,H a=AA (.dK kvs)/\y=kV k/\kvs.length<sizeLine/\H'=upd H a (.dK (C6 kvs k v)))\/
 ∃kvs k b,H a=AA (.dT kvs)/\y=.ref b/\F6 H k b/\kvs.length<sizeLine/\H'=upd H a (.dT (C6 kvs k v))
theorem B4.k{kvs}{k}(e:H a=AA (.dK kvs)):B4 H a (kV k) (v4 kvs k):=.inl {kvs,k,.inl e,rfl,rfl}
def B4.t{k}(e:H a=AA (.dT kvs))(c:F6 H k b):B4 H a (.ref b) (v4 kvs k):=.inr {kvs,k,b,.inl e,rfl,c,rfl}
theorem O1.k{kvs}{k}(e:H a=AA (.dK kvs))(b:kvs.length<sizeLine):O1 H a (kV k) v (upd H a (.dK (C6 kvs k v))):=.inl ⟨kvs,k,e,rfl,b,rfl⟩
def O1.t{k:Ak}(e:H a=AA (.dT kvs))(d:F6 H k b)(c:kvs.length<sizeLine):
  O1 H a (.ref b) v (upd H a (.dT (C6 kvs k v))):=.inr ⟨kvs,k,b,e,rfl,d,c,rfl⟩
section
variable {r:AG} {E:AG->AK->Prop}
def Inv.big(I:Inv X pins σ H s):CZ<s.heap.objs.size:=(have h:=(I.mod.glob.keeps I.bk).lt;Nat.lt_trans ∅ h)
def b35(q:A.units+20<CO)(I:Inv X pins σ H s)(g:B4 H a y (AA v))(o:i7 y u)(h:∀f s',Inv X pins σ H s'->i7 v f->Q f s'):
  AR (model X.prog X.w) A (Dz (.ref a) u) Q E s:=by
 rcases g with⟨i,k,e,n,l⟩|⟨i,k,b,e,n,x,l⟩
 ·subst n;let{z,t,vs,d,dd}:=U5 I.hok e;let{f,j,c}:=B3.some_of (l▸d.val k);show wpAny_getItem_of (ab8 o) dd.mapOf j (h f _ (I.tok _) c)
 ·subst n;cases(o);let{z,t,B,d,dd}:=Q6 I.hok e;let{f,j,c}:=B3.some_of ((l▸d.val k));let{p,r,m}:=Option.map_eq_some_iff.mp j;apply wpAny_getItem_heap (NK.dataKind_room_in1 q) (N6 I.hok x) dd r ?_;rw[m];show h f _ (I.tok _) c
def bs2(m:A.units+20<CO)(I:Inv X pins σ H s)(g:B4 H a y o)(j:i7 y u)(h:∀s',Inv X pins σ H s'->Q (.bool o.isSome) s'):
  AR (model X.prog X.w) A (CD .In u (.ref a)) Q E s:=by
 rcases g with⟨d,k,e,i,l⟩|⟨d,k,b,e,i,n,l⟩
 ·subst i;let{z,f,vs,c,dd}:=U5 I.hok e;apply wpAny_in_of (ab8 j) f dd.mapOf ?_;rw[<-(c.val k).isSome_eq,<-l];show h _ (I.tok _)
 ·subst i;cases(j);let{z,f,p,c,dd}:=Q6 I.hok e;apply wpAny_in_heap (NK.dataKind_room_in1 m) (N6 I.hok n) f dd ?_;have q:=(c.val k).isSome_eq;rw[Fv]at q;rw[<-q,<-l];show h _ (I.tok _)
def bh3(m:A.units+20<CO)(I:Inv X pins σ H s)(g:B4 H a y o)(j:i7 y u)(h:∀s',Inv X pins σ H s'->Q (.bool (!o.isSome)) s'):
  AR (model X.prog X.w) A (CD .NotIn u (.ref a)) Q E s:=by
 rcases g with⟨d,k,e,i,l⟩|⟨d,k,b,e,i,n,l⟩
 ·subst i;let{z,f,vs,c,dd}:=U5 I.hok e;apply Lc (ab8 j) f dd.mapOf ?_;rw[<-(c.val k).isSome_eq,<-l];show h _ (I.tok _)
 ·subst i;cases(j);let{z,f,p,c,dd}:=Q6 I.hok e;apply wpAny_notIn_heap (NK.dataKind_room_in1 m) (N6 I.hok n) f dd ?_;have q:=(c.val k).isSome_eq;rw[Fv]at q;rw[<-q,<-l];show h _ (I.tok _)
def bi9{h'}{t'}{ob}(I:Inv X pins σ H s)(d:Mut (H a))(e:Bf a s.heap h')(f:∃q,h'.get? a=AA q)(c:o5 X.prog X.w (upd H a ob) h' a ob):
  Inv X pins σ (upd H a ob) {s with heap:=h',toks:=t'}:=
 I.write d (.inl rfl) (λb q hb=>(e.2 b hb).trans) f c
def cw4{w:Aw}{h':BA}{b:List (Key×V)}{vs:List (Key×AG)}(z:b.length<=sizeLine)(d:(a==CZ)=AE)(c:KV b vs)(dd:h'.DictOf (P7 P w) a vs):
  o5 P w H' h' a (.dK b):=⟨z,d,vs,c,dd⟩
def b00{Q:Unit->AK->Prop}(B:A.units+20<CO)(I:Inv X pins σ H s)(g:O1 H a y v H')(o:i7 y u)(p:i7 v r)(h:∀s',Inv X pins σ H' s'->Q () s'):
  AR (model X.prog X.w) A (KR (.ref a) u r) Q E s:=by
 rcases g with⟨d,k,e,m,l,n⟩|⟨d,k,b,e,m,t,l,n⟩
 ·subst m n;let{z,j,vs,c,dd}:=c39 I.hok e;have hz:vs.length<=sizeLine:=by rw[<-c.length];show z
  have i:(C6 d k v).length<=sizeLine:=by have:=az2 d k v;lia
  apply wpAny_setItem_pairs (hsz:=hz) (ab8 o) dd λh' dd' hs=>h _ ?_;have C:∃q,h'.get? a=AA q:=let⟨q,_,_,f,_⟩:=dd';⟨q,f⟩;show bi9 I (by rw[e];show Ch) hs C (cw4 i j (c.put k p) dd')
 ·subst m n;cases(show u=Aq b from o);let{z,j,x,c,dd}:=c87 I.hok e;have hz:x.length<=sizeLine:=by rw[<-Paired.length c];show z
  have i:(C6 d k v).length<=sizeLine:=by have:=az2 d k v;lia
  apply wpAny_setItem_heap (hsz:=hz) (NK.dataKind_room_in1 B) (N6 I.hok t) dd λh' dd' hs=>h _ ?_;let{q,K,L,f,J,G,F,_,D}:=dd';apply bi9 I (by rw[e];show Ch) hs ⟨q,f⟩ {i,j,_,(c.put k t p).keeps λc ys ec=>?_,q,K,L,f,J,G,F,D};rw[j6 (c65 ec e (λz=>nomatch z))];show ec
end
abbrev dh9(i:AT):Prop:=∀ov iv,subscripted i AE ov iv=operate [ov,iv] (Dz ov iv)
def cm1{prog:Ag}{w:Aw}{E:AG->AK->Prop}{env:Env}{b a:AT}{T e:String}
  (g:Gn (.type T) "__getitem__"=pure (AA (.builtin e))) (f:dh9 a)
  (h:AR (model prog w) A (eval b env) (λo s₁=>AR (model prog w) A (eval a env) (λi s₂=>s₂.TypeIs o T/\AR (model prog w) A (Dz o i) Q E s₂) E s₁) E s) :
  AR (model prog w) A (eval (.Subscript b a pos) env) Q E s:=by
 apply KH (Be h (λo s₁ h₁=>Be h₁ (λi s₂ c=>?_) λ_ _ x=>x) λ_ _ x=>x);let{d,c}:=c;unfold Gf;apply AC ?_;rw[JO d.not_modules];apply AC (Bt d g ?_);have fin:AR (model prog w) A (subscripted a AE o i) (λr s₃=>AR (model prog w) A (Ld b o r>>=λ_=>pure r) Q E s₃) E s₂:=by
  rw[f o i];show LL (Be c (λr s₃ h₃=>AC (Jb (AL h₃))) λ_ _ x=>x)
 first
  |show AL (AC fin)
  |show AC (AL (AC fin))
  |show AC fin
def bw1(I:Inv X pins σ H s)(g:B4 H a y o):s.TypeIs (.ref a) "dict":=by
 rcases g with⟨kvs,k,e,_,_⟩|⟨kvs,k,b,e,_,_,_⟩
 ·let{_,_,vs,_,dd}:=U5 I.hok e;show dd.typeIs
 ·let{_,_,xs,_,dd}:=Q6 I.hok e;show dd.typeIs
abbrev db3(td ty tv:TE):TS:=λD σ H=>tv σ H λv H1=>td σ H1 λx H2=>ty σ H2 λy H3=>∃a H4,x=.ref a/\O1 H3 a y v H4/\D.nx σ H4
section
variable {o i e value:AT} {pos' tpos:Pos} {td ty tv:TE}
def bh0(j:X.A.units+20<CO)(l:PE X o td)(hi:PE X i ty)(f:PE X value tv)(k:Cj value (AA (.Subscript o i pos')) pos.line X.env=pure AE):
  PS X (.Assign [.Subscript o i pos'] value pos) (db3 td ty tv):=by
 intro b s c H D I h;apply wpAny_Assign_Subscript (thn (f b s c H _ I h) λr s1⟨v,H1,I1,rv,q1⟩=>thn (l b s1 c H1 _ I1 q1) λu s2⟨x,H2,I2,rx,q2⟩=>thn (hi b s2 c H2 _ I2 q2) λiv s3 z28=>?_) k;let{y,q,n,d,a,p,m,g,e}:=z28;subst m;obtain rfl:u=Aq a:=rx;show b00 j n g d rv λs4 I4=>⟨c,p,I4,e⟩
end
def b82{w:Aw}(h:BA)(a:CZ<h.objs.size):o5 P w H (h.push {cls:=.type "dict",data:=.dict #[]}) h.objs.size (.dK []):=
 {BM _,beq_eq_false_iff_ne.mpr (Ax (Bd a)),[],.nil,Le h}
def b64{w:Aw}(h:BA)(a:CZ<h.objs.size):o5 P w H (h.push {cls:=.type "dict",data:=.dict #[]}) h.objs.size (.dT []):=
 {BM _,beq_eq_false_iff_ne.mpr (Ax (Bd a)),[],.nil,_,#[],0,Ae _ rfl,⟨rfl,rfl,rfl⟩,rfl,rfl,Kx}
abbrev cx6:TE:=λ_ H Q=>∀p,H p=AF->Q (.ref p) (upd H p (.dK []))
abbrev ct1:TE:=λ_ H Q=>∀p,H p=AF->Q (.ref p) (upd H p (.dT []))
section
def b57:PE X (.Dict [] [] pos) cx6:=λpins s σ H Q I h=>
 Ky {.ref s.heap.objs.size,_,I.laid (λ_ _=>AM _) (AS _) (b82 s.heap I.big),rfl,h _ (I.hok.fresh (AS _))}
def cc8:PE X (.Dict [] [] pos) ct1:=λpins s σ H Q I h=>
 Ky {.ref s.heap.objs.size,_,I.laid (λ_ _=>AM _) (AS _) (b64 s.heap I.big),rfl,h _ (I.hok.fresh (AS _))}
end
structure M1(X:Cx)(o:AT)(m:Str)(apos:Pos)(e:AT)(cpos:Pos):Prop where
 base:Cy o m X.env (eval o X.env)=eval o X.env
 few:((Bx cpos (Ao [e] X.env)).all (λx=>!x.1)&&(FN cpos (De [] X.env)).all (λx=>x.1.isSome)
  &&AB (([e]:List AT).length+([]:List Hy).length+(if([]:List Hy).isEmpty then 0 else 1)<30))=AD
 line:(apos.endLine==cpos.line)=AD
 trees:Bx cpos (Ao [e] X.env)=[(AE,eval e X.env)]
abbrev IsD(H:Hp)(a:AI):Prop:=(∃kvs,Rd H a (.dK kvs))\/∃kvs,Rd H a (.dT kvs)
def cp9(I:Inv X pins σ H s)(d:IsD H a):
  s.TypeIs (.ref a) "dict"/\(∀b,Aq a=.ref b->∃ob,s.heap.get? b=AA ob/\ob.dict=AF)/\(a==CZ)=AE:=by
 rcases d with⟨c,e⟩|⟨c,e⟩
 ·let{_,f,vs,_,dd}:=U5 I.hok e;apply{dd.typeIs,λb q=>?_,f};cases q;let{ob,_,_,h,g,_}:=dd;show⟨ob,h,g.2.1⟩
 ·let{_,f,i,_,dd}:=Q6 I.hok e;apply{dd.typeIs,λb q=>?_,f};cases q;let{ob,_,_,h,g,_}:=dd;show⟨ob,h,g.2.1⟩
section
variable {d:V} {r:AG} {E:AG->AK->Prop}
def c00(p:A.units+20<CO)(I:Inv X pins σ H s)(g:B4 H a y o)(m:i7 y u)(h:∀j s',Inv X pins σ H s'->i7 (o.getD .non) j->Q j s'):
  AR (model X.prog X.w) A (call (.builtin "dict.get") [.ref a,u]) Q E s:=by
 rcases g with⟨d,k,e,i,l⟩|⟨d,k,b,e,i,q,l⟩
 ·subst i;let{z,f,vs,c,dd}:=U5 I.hok e;apply call_meetsIn PySem.F.slot_dict_get dd.typeIs PySem.F.entry_dict_get (PySem.F.args_dict_get_2 _ _) (meets_dict_get (P7 X.prog X.w) a (ab8 m) f) {_,dd.mapOf,h _ _ (I.tok _) ?_};rw[l];show(c.val k).getD rfl
 ·subst i;cases(m);let{z,f,n,c,dd}:=Q6 I.hok e;apply call_meetsIn PySem.F.slot_dict_get dd.typeIs PySem.F.entry_dict_get (PySem.F.args_dict_get_2 _ _) (meetsH_dict_get (NK.dataKind X.prog X.w) a b f) {NK.dataKind_room_in1 p,k,n,N6 I.hok q,dd,h _ _ (I.tok _) ?_};rw[l];show(c.val k).getD rfl
end
abbrev c20(td ty:TE):TE:=λσ H Q=>td σ H λx H1=>∃a,x=.ref a/\IsD H1 a/\ty σ H1 λy H2=>∃o,B4 H2 a y o/\Q (o.getD .non) H2
section
variable {o e f:AT} {apos cpos:Pos} {td ty tx:TE}
def b81(n:X.A.units+20<CO)(p:PE X o td)(q:PE X e ty)(m:M1 X o "get" apos e cpos):PE X (.Call (.Attribute o "get" apos) [e] [] cpos) (c20 td ty):=by
 intro b s c H Q I h;apply KZ m.base m.few m.line PySem.F.plainAttrs_dict PySem.F.slot_dict_get PySem.F.type_dict_get (thn (p b s c H _ I h) λu s1 z29=>?_);let{x,t,f,k,a,r,d,l}:=z29;subst r;obtain rfl:u=Aq a:=k;let{j,i,_}:=cp9 f d;apply{j,i,?_};rw[m.trees];show DU rfl (FP (DJ (thn (q b s1 c t _ f l) λiv s2⟨y,H2,I2,ry,ov,g,q2⟩=>EQ (c00 n I2 g ry λw' s3 I3 rw'=>⟨_,H2,I3,rw',q2⟩))))
end
end
end L2
namespace Att
open PySem PySem.W PySem.Calls PyProof.Rows
def bt5{P}{h}:∀ns(vs),WellAll P h vs (ns.map LM)->JF vs ns:=by
 intro ns
 induction ns with
 |nil=>
  intro vs w;cases w;show .nil
 |cons n ns e=>
  intro vs w;cases w with
  |cons a b=>
   cases a;show .cons _ _ (e _ b)
def b36{l:OpenLaw}{n}(q:l.most=AA n){P}{h}{args}{vals}
  (b:l.row.toRowW.claim.pre args=AD) (f:WellAll P h vals args) :
  ∃a vs ns,vals=[Aq a]/\args=[WData.list (ns.map LM)]/\h.get? a=AA {cls:=.type "list",data:=.seq vs.toArray}/\JF vs ns/\ns.length<=n:=by
 have g:=(pre_splitW b).1;have s:=(pre_splitW b).2;let{d,r,rfl,v,u}:=hasAllW_cons g;obtain rfl:=hasAllW_nil u;let{w,rfl,t}:=hasW_list v;let{ns,rfl}:=items_int t;have c:ns.length<=n:=by
  have i:=by
   have i:=(holds_andW s).1;rwa[q]at i
  have x:=condW_of i (w_not (w_lt w_lit (w_len_list (w_arg rfl))));first
   |rfl
   |simp_all
 cases f with
 |cons o m=>
  cases m;cases o with
  |list p e=>show{_,_,ns,rfl,rfl,p,bt5 ns _ e,c}
def b10(l:OpenLaw)args:l.row.toRowW.claim.post args (.bool AD) args=AD:=
 postW_of
  rfl
  (w_eq_bool (w_res rfl) w_lit) rfl
def attach_call{l:OpenLaw}{n}{q}{loose}{XP}{YP}{d}
  (I:l.most=AA n) (y:d.params.defaults=[])
  (m:∀w(c b)p u(k)(o)t s g(a)(vs)ns,
   Ground q loose [] XP w c p u b.heap->YP w b.heap ->
   b.heap.get? k=AA o->o.data=.func (docDef d.name d.params d.body d.scope t s g)->b.heap.CodeRec s d.name->p d.name=AA (.ref k) ->
   b.heap.get? a=AA {cls:=.type "list",data:=.seq vs.toArray}->JF vs ns->ns.length<=n->b.gens=#[] ->
   Dy (model l.prog w) IA (.call (.ref k) {[.ref a],[]}) (λr s'=>r=.ok (.ret (.bool AD))/\OldK b.heap s'.heap/\s'.os=b.os/\ER s'.gens) b) :
  WalkO q loose XP YP l.row.toRowW d [] (λf vs=>PySem.call f vs):=by
 intro w c b p u G Y k o t s g P E H L z C x K D A Q h B F v J;obtain rfl:P=.none:=Dflts.none C y;obtain rfl:E=.none:=Dflts.noKw C;let{a,vs,ns,rfl,rfl,i,e,j}:=b36 I h v;apply enter_call (ES (m w c b p u k o t s g a vs ns G Y H (fd_plain L) z x i e j K) λr s' hq=>?_);let{rfl,O,N,M}:=hq;show{.inl {.bool AD,.bool AD,[],rfl,λ_=>rfl,.bool AD,b10 l _,λ_=>{Kz,λ_ hm=>(nomatch hm)}},O,N,M}
section
variable {prog:Ag} {w:Aw} {A:BR} {E:AG->AK->Prop} {s:AK} {K:Frag}
abbrev dm8(h:BA)(L d:AI):List (AI×Obj):=(Dk h.objs.size).filterMap λa=>if a=L\/a=d then AF else(h.get? a).map λo=>(a,o)
end
end Att
namespace L2
open PySem PySem.Spec PyProof.Rows
theorem a84:∀{vs}{ns},JF vs ns->i5 (ns.map V.int) vs
 |_,_,.nil=>.nil
 |_,_,.cons n t h=>.cons ⟨t,rfl⟩ (a84 h)
abbrev z7(s:BG):DM:=match s with
 |.FunctionDef _ a _ _ _ _ _ _ _ _=>a
 |_=>{posonlyargs:=[],args:=[],vararg:=AF,kwonlyargs:=[],kw_defaults:=[],kwarg:=AF,defaults:=[]}
abbrev u5(s:BG):List BG:=match s with
 |.FunctionDef _ _ b _ _ _ _ _ _ _=>b
 |_=>[]
abbrev n8(s:BG):BE:=match s with
 |.FunctionDef _ _ _ _ _ _ sc _ _ _=>sc
 |_=>{kind:=.function,names:=[],isGenerator:=AE,isCoroutine:=AE}
@[reducible]noncomputable def CX0:CXT:=λ_ _ _ _ _ _=>False
@[reducible]noncomputable def E0:XK:=λ_ _ _=>False
def a70{n:Nat}(h:n<=1000):n<sizeLine:=JG h ∅
abbrev F8(H H':Hp):Prop:=∀b o,H b=AA o->H' b=AA o
def F8.refl(H:Hp):F8 H H:=λ_ _ h=>h
def F8.trans{H H1 H2}(a:F8 H H1)(b:F8 H1 H2):F8 H H2:=λc o h=>b c o (a c o h)
variable{s:AK}{scope:BE}{env:Env}{cells:List (Str×AI)}{x:Str}{X:Cx}{Nc:List Str}{fr:List Nat}{C:AI}{fp:List AI}{pins:List (AI×Obj)}{σ:St}{H:Hp}
def bu1{prog}{w}{A}{R:IK->AK->Prop}{elt target iter}{b:List AT}{pos}{it acc}(I:Nat->AK->Prop)
  (a:∀n s,I n s->AR (model prog w) A (Ee it) (λr s₁=>match r with
   |none=>R (.ok .next) s₁
   |some v=>AR (model prog w) A (Fk target it v) (λ_ s₁'=>AR (model prog w) A (assign target env v) (λ_ s₂=>
     AR (model prog w) A (forIn b AD λc r=>if r=AD then do let ok <-IH c env (eval c env);pure (CL ok)else pure (CL r)) (λok s₃=>
      if ok=AD then AR (model prog w) A (eval elt env) (λx s₄=>
       AR (model prog w) A (call (.builtin "list.append") [acc,x]) (λ_ s₅=>∃m,m<n/\I m s₅) (λ_ _=>False) s₄) (λ_ _=>False) s₃
      else ∃m,m<n/\I m s₃) (λ_ _=>False) s₂) (λ_ _=>False) s₁') (λ_ _=>False) s₁) (λ_ _=>False) s)
  (n:Nat) (h:I n s) :
  Dy (model prog w) A (.compLoop (.ListComp elt [{target,iter,b,0}] scope pos) 0 it acc env) R s:=by
 apply codeAny_loop rfl I (λn s hI=>?_) n h;apply wpAny_noted ?_;rw[compTurn_list];apply AC (IZ (AC (Be (a n s hI) (λr s₁ h₁=>?_) λ_ _ h'=>h'.elim)));cases r with
 |none=>show AL h₁
 |some v=>
  apply AC (Be h₁ (λ_ s₁' h₁'=>?_) λ_ _ h'=>h'.elim);apply AC (Be h₁' (λ_ s₂ h₂=>AC (Be h₂ (λok s₃ h₃=>?_) λ_ _ h'=>h'.elim)) λ_ _ h'=>h'.elim);cases ok with
  |false=>show AL ⟨rfl,h₃⟩
  |true=>
   show AC (AC (Be h₃ (λx s₄ h₄=>AC (Be h₄ (λ_ s₅ h₅=>AL (AL ⟨rfl,h₅⟩)) λ_ _ h'=>h'.elim)) λ_ _ h'=>h'.elim))
abbrev v6(cells:List (Str×AI)):List (Str×GI)->List (Str×AI)->List (Str×AI)
 |[],acc=>acc
 |(n,k)::r,acc=>v6 cells r (if k==.free then(match cells.lookup n with|some a=>(n,a)::acc|none=>acc)else acc)
theorem ao6:∀(b:List (Str×GI))(c:List (Str×AI)),(∀x∈b,x.2=.free->(env.cells.lookup x.1).isSome=AD) ->
  (forIn b c λx r=>match x with
   |(name,d)=>if(d==BC)=AD then do let a <-Lf env name;pure (CL ((name,a)::r))else pure (CL r):Sem (List (Str×AI)))=pure (v6 env.cells b c)
 |[],c,_=>rfl
 |(n,k)::r,c,h=>by
  have e:=λx hx=>h x (Ar _ hx);rw[Go];cases hk:(k==BC)with
  |false=>
   erw[hk,BD,if_false,pure_bind];rw[ao6 r c e];erw[v6,hk,BD,if_false]
  |true=>
   have g:=by simpa using hk
   let{a,f}:=BH.mp (h (n,k) CB g);have i:Lf env n=pure a:=by unfold Lf;rw[f]
   erw[hk,if_true,i,pure_bind];rw[ao6 r _ e];erw[v6,hk,if_true,f]
def ao5{env}(h:∀x∈scope.names,x.2=.free->(env.cells.lookup x.1).isSome=AD):IP scope env=pure (v6 env.cells scope.names []):=by
 have e:=ao6 scope.names [] h;change(forIn scope.names [] λx r=>match x with
   |(name,b)=>if(b==BC)=AD then do let a <-Lf env name;pure (CL ((name,a)::r))else pure (CL r):Sem (List (Str×AI)))>>=pure=_
 rw[e];rfl
theorem bc1:∀{b}{d}{x}{c},(x,c)∈v6 cells b d->(x,c)∈d\/cells.lookup x=AA c/\(x,BC)∈b
 |[],d,x,c,h=>.inl h
 |(n,k)::r,d,x,c,h=>by
  unfold v6 at h
  rcases bc1 h with f|⟨f,i⟩
  ·cases hk:k==BC with
   |false=>simp_all
   |true=>
    have g:=by simpa using hk
    subst g;cases hc:cells.lookup n with
    |none=>rw[hc]at f;show .inl f
    |some a=>
     rw[hc]at f
     rcases AQ.mp f with e|e
     ·simp_all
     ·show .inl e
  ·simp_all
theorem bb3:∀{a}{b}{x}{c},cells.lookup x=AA c->(x,BC)∈a\/(x,c)∈b->(x,c)∈v6 cells a b
 |[],b,x,c,_,h=>by
  rcases h with h|h
  ·cases h
  ·show h
 |(n,k)::r,b,x,c,d,h=>by
  unfold v6;apply bb3 d ?_
  rcases h with h|h
  ·rcases AQ.mp h with e|e
   ·simp_all
   ·show .inl e
  ·apply .inr ?_
   split
   ·split
    ·show Ar _ h
    ·show h
   ·show h
def ao4{α}{l:List (Str×α)}{a}(h:l.lookup x=AA a):=PySem.mem_of_lookup h
theorem a04{c:Type}:∀{l:List (Str×c)}{x}{a},(x,a)∈l->∃b,l.lookup x=AA b
 |[],_,_,h=>by cases h
 |(y,b)::r,x,a,h=>by
  rw[EG];cases e:x==y with
  |true=>show⟨b,rfl⟩
  |false=>
   rcases AQ.mp h with z|z
   ·grind
   ·show a04 z
def O7{names}{c}(h:(v6 cells names []).lookup x=AA c):cells.lookup x=AA c/\(x,BC)∈names:=by
 rcases bc1 (ao4 h)with z|z
 ·cases z
 ·show z
def af1{names}{c}(h:cells.lookup x=AA c)(a:(x,BC)∈names):(v6 cells names []).lookup x=AA c:=by
 let{b,d}:=a04 (bb3 h (.inl a));have:=(O7 d).1;grind
structure CompScope(X:Cx)(scope:BE)(Nc:List Str)(fr:List Nat)(k:Nat):Prop where
 kind:scope.kind=.function
 nocell:∀y∈scope.names,y.2≠.cell
 names:∀y∈scope.names,y.2=.local->scope.names.lookup y.1=AA .local
 frees:∀y∈scope.names,y.2=.free->X.env.scope.names.lookup y.1=AA .cell\/X.env.scope.names.lookup y.1=AA .free
 uniq:∀y∈scope.names,y.2=.free->(y.1,NameKind.local)∉scope.names
 nd:Nc.Nodup
 len:Nc.length=fr.length+k
 fre:∀i x,Nc[i]?=AA x->i<fr.length->∃j,fr[i]?=AA j/\X.N[j]?=AA x/\(x,BC)∈scope.names
abbrev K9(fr:List Nat)(k:Nat)(σ:St):St:=(fr.map λj=>(σ[j]?).join)++Al k AF
def bu6(h:(relabel scope env).names.lookup x=AA .cell\/(relabel scope env).names.lookup x=AA .free)(g:∀y∈scope.names,y.2≠.cell):(x,BC)∈scope.names:=by
 have b:∀k,(relabel scope env).names.lookup x=AA k->k=.cell\/k=.free->(x,BC)∈scope.names:=by
  intro k e d;have c:=ao4 e;let{{n,f},i,a}:=DN.mp c;dsimp only at a
  split at a
  ·grind
  ·grind
 rcases h with h|h
 ·show b _ h (.inl rfl)
 ·show b _ h (.inr rfl)
def bv3:∀{k},(relabel scope env).names.lookup x=AA k->∃b,(x,b)∈scope.names/\(k=b\/b=.free/\k=.cell):=by
 intro k f;have e:=ao4 f;let{{n,b},d,c}:=DN.mp e;dsimp only at c
 split at c
 ·rename_i a;cases c;apply{_,d,.inr {?_,rfl}};simp at a;show a.1.1
 ·cases c;show{_,d,.inl rfl}
abbrev Cx.comp(X:Cx)(scope:BE)(Nc:List Str)(C:AI)(fp:List AI)(pins:List (AI×Obj))(s:AK)(H:Hp):Cx:=
 {X with N:=Nc,s₀:=s,H₀:=H,env:=Lg scope (v6 X.env.cells scope.names []) C X.env,outer:=X.stack,stack:=X.stack,ex:=fp,fn:=λ_=>AE,pn:=X.pn++pins,xe:=λ_ _=>False,ow:=λ_=>AE}
def Cx.comp_ok{k}(S:CompScope X scope Nc fr k)(I:Inv X pins σ H s)
  (j:s.heap.objs.size<=C) (g:∀b∈fp,z9 X pins H b) (f:∀b∈fp,b<s.heap.objs.size):(X.comp scope Nc C fp pins s H).Ok where
 mod:=I.ok.mod
 kind:=S.kind
 glob:=I.ok.glob
 blt:=I.ok.blt
 above:=j
 inj:=λx y c a d=>I.ok.inj x y c (O7 a).1 (O7 d).1
 has:=λx h=>by
  have i:=bu6 h S.nocell;have l:=S.frees _ i rfl;let{c,m}:=I.ok.has x l;show{c,af1 m i}
 cab:=λx c h _=>h.elim (λz=>nomatch z) λz=>nomatch z
 hd:=I.ok.hd
 frames:=I.ok.frames
 stk:=.inl rfl
 exf:=λb hb=>⟨λz=>by have a:=f b hb;have d:=z;rw[d]at a;show absurd a (Lh.mpr j),λx c h=>(g b hb).2.2.2.2.1 x c (O7 h).1⟩
 bs:=I.bs
 bsz:=BB I.ok.bsz I.sz
 noex:=λb o e hb=>by
  let{p,a,d,n,r,q}:=g b hb
  rcases n with z|z
  ·show I.ok.noex b o e z
  ·have:=(I.ok.bs b o e).1;show absurd (Ai (Az this) z) (CS _)
 exfs:=λb hb z=>by
  let{p,a,d,_}:=g b hb
  rcases AQ.mp (I.stkSub b z)with e|e
  ·show a e
  ·show d e
 funs:=I.stack
 frf:=I.stkFree
def by5{k:Nat}{h:BA}{tk:Nat}(S:CompScope X scope Nc fr k)(I:Inv X pins σ H s)
  (D:s.heap.objs.size<=C) (W:∀b∈fp,z9 X pins H b) (y:∀b∈fp,b<s.heap.objs.size) (g:∀b o,s.heap.get? b=AA o->h.get? b=AA o) (T:h.Ns C (λ_=>AF)) :
  Inv (X.comp scope Nc C fp pins s H) [] (K9 fr k σ) H {s with heap:=h,toks:=tk}:=by
 have A:H C=AF:=I.hok.fresh D;apply{Cx.comp_ok S I D W y,rfl,I.bare,Un.kept g,{_,T,λi x v e1 e2 e3=>?_},λx c e=>?_,A,λx c e=>(I.freeC x c (O7 e).1).imp id λz=>⟨rfl,z.2⟩,λp hp=>?_,I.hok.kept g,?_}
 ·have hi:i<fr.length:=by
   unfold K9 at e2
   by_cases hi:i<fr.length
   ·show hi
   ·rw[Af (by simpa using hi),Da]at e2
    split at e2<;>cases e2
  let{j,V,Y,n}:=S.fre i x e1 hi;have F:σ[j]?=AA (AA v):=by
   unfold K9 at e2;rw[Ab (by simpa using hi),Ah,V]at e2;erw[Gg,CJ]at e2;cases q:σ[j]? with
   |none=>rw[q]at e2;cases e2
   |some o=>rw[q]at e2;show congrArg AA e2
  let{m,R,U}:=I.loc;have f:Vis X.env.scope x:=by
   rcases S.frees _ n rfl with z|z
   ·show .inr (.inl z)
   ·show .inr (.inr z)
  let{u,r,l}:=U j x v Y F f;apply{u,r,?_}
  rcases l with⟨J,_⟩|⟨J,c,Q,P⟩
  ·exfalso;have d:X.env.scope.names.lookup x=AA .local:=J
   rcases S.frees _ n rfl with z|z
   ·rw[d]at z;cases z
   ·rw[d]at z;cases z
  ·apply .inr {?_,c,af1 Q n,?_}
   ·have E:Vis (relabel scope X.env) x:=e3
    rcases E with z|z|z
    ·exfalso;let{Z,h,a}:=bv3 z
     rcases a with a|a
     ·subst a;show S.uniq _ n rfl h
     ·cases a.2
    ·show .inl z
    ·show .inr z
   ·let{o,w,B}:=P;show{o,g _ _ w,B}
 ·let{v,o,w,B}:=I.cell x c (O7 e).1;show{v,o,g _ _ w,B}
 ·have t:p∈X.pn++pins:=by
   have:p∈(X.pn++pins)++[]:=hp;simpa using this
  let{G,O,N,M,L}:=I.pin p t;apply{g _ _ G,O,λz=>?_,λz=>?_,L}
  ·have a:p.1=C:=z;have K:=Az G;rw[a]at K;show absurd K (Lh.mpr D)
  ·rcases AQ.mp (I.stkSub p.1 z)with e|e
   ·show N e
   ·show M e
 ·unfold K9;rw[Ad,AV,DL];show S.len.symm
def b43{pl}{c:St}{H'}{s'}(I:Inv X pins σ H s)(f:∀b∈fp,z9 X pins H b)
  (a:Inv (X.comp scope Nc C fp pins s H) pl c H' s'):Inv X pins σ H' s':=by
 let{l,g,d,t,e}:=s';obtain rfl:e=s.os:=a.os;show I.call a.base a.hok a.bare λb hb=>by
  let{n,k,m,j,i,h}:=f b hb;show⟨j,k,i,h⟩
def a08{d:St}{H0}{s0}{h'}(a:Inv X pins d H0 s0)hC(I:Inv X pins σ H s)hn
  (f:Bf C s.heap h'):=by
 apply I.turned (t':=s.toks) (λb o hb=>(f.2 b hb).trans) hn ?_ (.inr (BB a.sz hC)) ?_ ?_
 ·show λz=>absurd (Ai a.lt hC) (by simp_all)
 ·intro x c e z;let{v,q}:=a.cell x c e;show absurd (Ai q.lt hC) (by simp_all)
 ·intro p g z;show absurd (Ai (Az (a.pin p g).1) hC) (by simp_all)
abbrev at5(fr:List Nat)(k:Nat)(wi:TI)(g:TG)(tc:TT)(te:TE)(fin:V->Hp->Prop):St->Hp->Prop:=λσ H=>
 wi σ H λJ H1=>∀p,H1 p=AF->∃W:Nat->Nat->St->Hp->Prop,(∃m,W 0 m (K9 fr k σ) (upd H1 p (.lst [])))/\∀i m σc H2,W i m σc H2 ->
  (J.stop i H2/\fin (.ref p) H2)\/(J.go i H2/\∃N:St->Hp->Prop,(∀σ' H',N σ' H'->∃m',m'<m/\W (i+1) m' σ' H') /\
   ∀x H3,J.yld i H2 x H3->g x σc H3 λσ4 H4=>tc σ4 H4 λb H5=>if b=AD then te σ4 H5 λv H6=>∃ys,H6 p=AA (.lst ys)/\ys.length<sizeLine/\N σ4 (upd H6 p (.lst (ys++[v])))else N σ4 H5)
abbrev PCs(X:Cx)(ifs:List AT)(t:TT):Prop:=
 ∀(pins:List (AI×Obj))(s:AK)(σ:St)(H:Hp)(Q:Bool->Hp->Prop),Inv X pins σ H s->t σ H Q ->
  AR (model X.prog X.w) X.A (forIn ifs AD λc r=>if r=AD then do let ok <-IH c X.env (eval c X.env);pure (CL ok)else pure (CL r)) (TP X pins σ Q) X.xe s
abbrev de0:TT:=λ_ H Q=>Q AD H
def cm9:PCs X [] de0:=λ_ _ _ H _ I h=>wpAny_tests_nil ⟨H,I,h⟩
def cd1{c}{t}(a:PT X c t):PCs X [c] t:=λpins s σ H Q I h=>wpAny_tests_one (a pins s σ H Q I h)
section
variable {k:Nat} {tg iter elt:AT} {ifs:List AT} {wi:TI} {g:TG} {tc:TT} {te:TE} {pos:Pos}
def a67(hc:X.calm=AD)(S:CompScope X scope Nc fr k)(hg:∀C l a s H,PG (X.comp scope Nc C l a s H) tg g)(ht:∀C l a s H,PCs (X.comp scope Nc C l a s H) ifs tc)(he:∀C l a s H,PE (X.comp scope Nc C l a s H) elt te)
  {a:List (AI×Obj)} {Z:St} {f:AK} {B:Hp} {it:AI} {l:List AI} {R:Nat->BA->Prop} {J:It} {fin:V->Hp->Prop} {RR:AG->AI->IK->AK->Prop} {E:AG->AK->Prop}
  (I2:Inv X a Z B f) (T:Turn X.prog X.w X.K tg J l it R) (st2:R 0 f.heap) (f2:∀b∈l,z9 X a B b)
  (h:∀p,B p=AF->∃W:Nat->Nat->St->Hp->Prop,(∃m,W 0 m (K9 fr k Z) (upd B p (.lst [])))/\∀i m σc B,W i m σc B ->
   (J.stop i B/\fin (.ref p) B)\/(J.go i B/\∃N:St->Hp->Prop,(∀r H',N r H'->∃M,M<m/\W (i+1) M r H') /\
    ∀x H3,J.yld i B x H3->g x σc H3 λσ4 H4=>tc σ4 H4 λb H5=>if b=AD then te σ4 H5 λv H6=>∃ys,H6 p=AA (.lst ys)/\ys.length<sizeLine/\N σ4 (upd H6 p (.lst (ys++[v])))else N σ4 H5))
  (hRR:∀(D C:AI)(H':Hp)(s':AK)(s3:AK)(H3:Hp)(M:Str->Option AG),Inv X a Z H3 s3->s3.heap.objs.size<=C->Inv X a Z H' s'->H' C=AF->s'.heap.Ns C M->fin (.ref D) H'->RR (.ref D) C (.ok .next) s') :
  AR (model X.prog X.w) X.A (newList []) (λacc t=>AR (model X.prog X.w) X.A (Li scope X.env.globals (v6 X.env.cells scope.names []) [] X.env.qual AF .none (AA X.env)) (λcenv s₄=>
   Dy (model X.prog X.w) X.A (.compStart (.ListComp elt [{tg,iter,ifs,0}] scope pos) 0 (.ref it) acc {cenv with scope:=relabel scope X.env}) (RR acc cenv.locals) s₄) E t) E f:=by
 have hp:=I2.hok.fresh (AS f.heap.objs.size);let{W,{m0,w0},turn}:=h f.heap.objs.size hp;apply BZ (Jc S.nocell (by intro y hy;simp at hy) (λh₁ hns₁ hsb₁=>?_) S.kind);have I3:Inv X a Z (upd B f.heap.objs.size (.lst [])) {f with heap:=f.heap.push {cls:=.type "list",dict:=AF,data:=.seq ([]:List AG).toArray}}:=
  I2.laid (t':=f.toks) (λb u e=>AM _ e) (AS _) {BM _,[],0,.nil,Ae _ rfl}
 have Q:∀b∈l,b<f.heap.objs.size:=λb hb=>by
  let{o,e,_}:=T.obj _ _ st2 b hb;show Az e
 have f3:∀b∈l,z9 X a (upd B f.heap.objs.size (.lst [])) b:=λb hb=>by
  let{q0,q}:=f2 b hb;show{by rw[j6 (Bd (Q b hb))];show q0,q}
 generalize hH3:(f.heap.push {cls:=.type "list",dict:=AF,data:=.seq ([]:List AG).toArray}:BA)=g3 at I3 hns₁ hsb₁ ⊢;have hsz:g3.objs.size=f.heap.objs.size+1:=by rw[<-hH3,Ck]
 have P:∀b∈l,b<g3.objs.size:=λb hb=>by rw[hsz];show JP (Q b hb)
 have k3:∀b o,g3.get? b=AA o->h₁.get? b=AA o:=λb o e=>hsb₁.extBut b o (Bd (Az e)) (AM _ e);have st3:R 0 g3:=T.keep _ _ _ st2 λb _ o e=>by rw[<-hH3];show AM _ e
 have st4:R 0 h₁:=T.keep _ _ _ st3 λb _ o e=>k3 b o e;have I4:Inv (X.comp scope Nc g3.objs.size l a {f with heap:=g3} (upd B f.heap.objs.size (.lst []))) [] (K9 fr k Z) (upd B f.heap.objs.size (.lst [])) {f with heap:=h₁,toks:=f.toks+([]:List (Str×AG)).length}:=
  by5 (s:={f with heap:=g3}) S I3 (AS _) f3 P k3 hns₁
 generalize j:X.comp scope Nc g3.objs.size l a {f with heap:=g3} (upd B f.heap.objs.size (.lst []))=Xc at I4;have eA:Xc.A=X.A:=by rw[<-j];rfl
 have eP:Xc.prog=X.prog:=by rw[<-j];rfl
 have ew:Xc.w=X.w:=by rw[<-j];rfl
 have eK:Xc.K=X.K:=by rw[<-j];rfl
 have ec:Xc.calm=AD:=by rw[<-j];show hc
 have ee:Xc.env=Lg scope (v6 X.env.cells scope.names []) g3.objs.size X.env:=by rw[<-j];rfl
 have ex:Xc.xe=λ_ _=>False:=by rw[<-j];rfl
 have T':Turn Xc.prog Xc.w Xc.K tg J l it R:=by rw[eP,ew,eK];show T
 have G:∀{H':Hp},(∀b∈l,H' b=AF)->∀b∈l,z9 Xc [] H' b:=λhn b hb=>by
  let{q0,q1,q2,q3,q4,q5}:=f3 b hb;subst j;apply{hn b hb,Bd (P b hb),λz=>?_,.inl hb,λx c e=>q4 x c (O7 e).1,λp hp=>q5 p ?_}
  ·rcases AQ.mp (I3.stkSub b z)with e|e
   ·show q1 e
   ·show q2 e
  ·have:p∈(X.pn++a)++[]:=hp;simpa using this
 have O:∀t:AK,t={f with heap:=h₁,toks:=f.toks+([]:List (Str×AG)).length} ->
   Dy (model X.prog X.w) X.A (.compLoop (.ListComp elt [{tg,iter,ifs,0}] scope pos) 0 (.ref it) (.ref f.heap.objs.size) (Lg scope (v6 X.env.cells scope.names []) g3.objs.size X.env)) (RR (.ref f.heap.objs.size) g3.objs.size) t:=by
  rintro t rfl;rw[<-ee,<-eA,<-eP,<-ew];apply bu1 (λn s'=>∃i r H',Inv Xc [] r H' s'/\R i s'.heap/\(∀b∈l,H' b=AF)/\W i n r H') ?_ m0 {0,_,_,I4,st4,λb hb=>(f3 b hb).1,w0};rintro n s5 ⟨i,σ5,H5,I5,st5,fr5,w5⟩
  rcases turn i n σ5 H5 w5 with⟨stop,qn⟩|⟨go,N,hN,step⟩
  ·apply thn (T'.done Xc rfl rfl rfl ec i [] s5 σ5 H5 _ I5 (G fr5) st5 stop) λr s6⟨hr,I6⟩=>?_;subst hr;subst j;let{M,hm,_}:=id I6.loc;show hRR _ _ H5 s6 _ _ M I3 (AS _) (b43 I3 f3 I6) I6.free hm qn
  ·apply thn (T'.item Xc rfl rfl rfl ec i [] s5 σ5 H5 _ I5 (G fr5) st5 go) λr s6⟨u,hr,h6⟩=>?_;subst hr;apply thn h6 λ_ s7 z30=>?_;let{x,H7,I7,r7,y7,U,fr7}:=z30;have I7':=I7.pinned (G fr7) (T.obj _ _ U);have hgX:PG Xc tg g:=by rw[<-j];show hg _ _ _ _ _
   have htX:PCs Xc ifs tc:=by rw[<-j];show ht _ _ _ _ _
   have heX:PE Xc elt te:=by rw[<-j];show he _ _ _ _ _
   have I:∀{s9:AK}{F:St}{Y:Hp},Inv Xc ([]++aa8 l s7.heap) F Y s9->N F Y->∃m,m<n/\∃i r H',Inv Xc [] r H' s9/\R i s9.heap/\(∀b∈l,H' b=AF)/\W i m r H':=λ{s9 F Y}I9 n9=>by
    let{M,hm,w9}:=hN F Y n9;apply{M,hm,i+1,F,Y,I9.unpinned,T.keep _ _ _ U λb hb o e=>(I9.pin (b,o) (BI _ (BI _ (ae5 hb e)))).1,λb hb=>?_,w9};let{o,e,d}:=T.obj _ _ U b hb;show(I9.pin (b,o) (BI _ (BI _ (ae5 hb e)))).2.1
   have hgw:=hgX _ s7 σ5 H7 x u _ I7' r7 (step x H7 y7);rw[ex]at hgw;apply thn hgw λ_ s8 z31=>?_;let{L,H8,I8,q8}:=z31;have htw:=htX _ s8 L H8 _ I8 q8;rw[ex]at htw;apply thn htw λok s9⟨Y,I9,q9⟩=>?_;cases ok with
   |false=>
    rw[if_neg AH]at q9 ⊢;show I I9 q9
   |true=>
    rw[if_pos rfl]at q9 ⊢;have hew:=heX _ s9 L Y _ I9 q9;rw[ex]at hew;apply thn hew λxv s10 z32=>?_;let{v,H10,I10,r10,ys,hys,hlen,n10}:=z32;have hap:=a97 (X:=Xc) _ s10 L H10 (.ref f.heap.objs.size) [v] (.ref f.heap.objs.size) [xv] (λ_ H11=>N L H11) I10 rfl (.cons r10 .nil) ⟨_,ys,v,rfl,rfl,hys,hlen,n10⟩;rw[ex]at hap;show thn hap λ_ s11⟨_,H11,I11,_,n11⟩=>I I11 n11
 show codeAny_compStart_list (O _ rfl) (T.self _ 0 _ _ _ st4 (O _ rfl))
def a00(S:CompScope X scope Nc fr k)(I:Inv X pins σ H s):∀x∈scope.names,x.2=.free->(X.env.cells.lookup x.1).isSome=AD:=λx hx hf=>by
 let{c,e}:=I.ok.has x.1 (S.frees x hx hf);rw[e];rfl
def cf2(p:X.calm=AD)(S:CompScope X scope Nc fr k)(hi:PI X tg iter wi)(n:∀C b a s H,PG (X.comp scope Nc C b a s H) tg g)(j:∀C b a s H,PCs (X.comp scope Nc C b a s H) ifs tc)(o:∀C b a s H,PE (X.comp scope Nc C b a s H) elt te)
  (l:∀x,Dl iter X.env x=pure x:=by intro _;rfl):PE X (.ListComp elt [{tg,iter,ifs,0}] scope pos) (λσ H Q=>at5 fr k wi g tc te Q σ H):=by
 intro a s σ H Q I h;rw[eval_ListComp];apply Ic (use:=AF) (cl:=v6 X.env.cells scope.names []) rfl l (ao5 (a00 S I)) S.kind S.names ?_;apply thn (hi a s σ H _ I h) λxv s1 h1=>thn h1 λitv s2 h2=>?_;let{E,b,z,J,G,e,v,T,d,t,h}:=h2;subst e;apply a67 (RR:=λacc C=>compPost (model X.prog X.w) X.A X.xe AF (EP X a σ Q) acc C) p S n j o v T d t h ?_;intro D C H' s' B F i u r y m f q;show{i,f,λh' sb=>{.ref D,H',a08 u r y m sb,rfl,q}}
def bx9{i:Nat}{y:Str}{py b:Pos}(hc:X.calm=AD)(hN:X.N.Nodup)(B:X.N[i]?=AA y)(U:Loc X.env.scope y)(E:X.fn y=AD\/X.env.scope.names.lookup y=AA .local)
  (S:CompScope X scope Nc fr k) (hi:PI X tg iter wi) (Z:∀C f a s H,PG (X.comp scope Nc C f a s H) tg g) (V:∀C f a s H,PCs (X.comp scope Nc C f a s H) ifs tc) (he:∀C f a s H,PE (X.comp scope Nc C f a s H) elt te)
  (r:Cj (.ListComp elt [{tg,iter,ifs,0}] scope pos) (AA (.Name y py)) b.line X.env=pure AD)
  (W:∀x,Dl iter X.env x=pure x:=by intro _;rfl):PS X (.Assign [.Name y py] (.ListComp elt [{tg,iter,ifs,0}] scope pos) b) (λD d H=>at5 fr k wi g tc te (λv H'=>D.nx (d.set i (AA v)) H') d H):=by
 intro a s d H D I h;rw[exec_Assign_Name_used _ _ _ _ r];apply AC (IZ (AC ?_));change AR _ X.A (do let _ <-comprehension (.ListComp elt [{tg,iter,ifs,0}] scope pos) scope X.env _ (newList []) AE (eval iter X.env) (AA (assign (.Name y py) X.env))) _ _ s;apply AC (Be (Ic (use:=AA (assign (.Name y py) X.env)) (cl:=v6 X.env.cells scope.names []) (Q:=λ_ s'=>SP X a D .next s') rfl W (ao5 (a00 S I)) S.kind S.names ?_) (λ_ s' hq=>AL (AL hq)) λ_ _ e=>e);apply thn (hi a s d H _ I h) λxv s1 h1=>thn h1 λitv s2 h2=>?_;let{it,f,tn,J,H2,e,I2,T,m,f2,h}:=h2;subst e;apply a67 (RR:=λacc C=>compPost (model X.prog X.w) X.A X.xe (AA (assign (.Name y py) X.env)) (λ_ s'=>SP X a D .next s') acc C) (fin:=λv H'=>D.nx (d.set i (AA v)) H') hc S Z V he I2 T m f2 h ?_;intro M C H' s' s3 H3 R G F L Y u q;change AR _ X.A (assign (.Name y py) X.env (.ref M)) _ _ s';let{l,es,ep,t,j,c}:=id u;have o:C≠X.env.locals:=λz=>absurd (Ai G.lt F) (by rw[z];show CS _);have n:C∉X.fs:=G.nofs F;have K:Inv X (a++[(C,l)]) d H' s':=L.pins_of λp hp=>by
  rcases BO.mp hp with z|z
  ·show L.pin p (BI _ z)
  ·have e:p=(C,l):=by simpa using z
   subst e;show{t,Y,o,n,λv z=>by rw[j]at z;cases z}
 apply KS (ae9 K hN B U (v:=.ref M) rfl (λs'' J''=>?_) E);let{P,O,_}:=J''.pin (C,l) ∎;apply{R,⟨l,es,ep,P,j,c⟩,λh' sb=>{_,H',a08 G F J''.unpinned O sb,q}}
end
end L2
namespace PySem
section
variable {prog:Ag} {w:Aw} {A:BR} {E:AG->AK->Prop} {s:AK}
def ay5{it l}{i}{items}{x}{Q}(a:s.heap.IsTupleIter it l i)
  (g:s.heap.IsTuple l items) (f:items[i]?=AA x)
  (j:∀h',h'.IsTupleIter it l (i+1)->Bf it s.heap h'->Q x {s with heap:=h'}) :
  AR (model prog w) A (Am (.ref it)) Q E s:=by
 let{o,c,h,b}:=id a;let{k,d,_,m,e}:=g;apply AC (BP a.typeIs DC
  (BN DC a.typeIs Hh ?_ (HU _)))
 change AR _ _ (field (.ref it) 0 >>= _) _ _ s;apply AC (As c b rfl ?_);apply AC (As c b rfl ?_);apply AC (BW d e ?_);erw[Bp,f];show AC (Cm c b ∎ (AL {x,rfl,AL (j _ {_,Bn _ c (CN (Bi b _)),(GX ..).trans h,by
  rw[Bi b];simp[By]} (Bb ..))}))
def ay6{c l:AI}{i:Nat}{items}{Q:AG->AK->Prop}(j:A.handled=AF)
  (b:s.heap.IsTupleIter c l i) (n:s.heap.IsTuple l items) (k:items[i]?=AF)
  (p:∀h' e,Gp c s.heap h'->(∃o,h'.get? e=AA o/\o.cls=.type "StopIteration")->E (.ref e) {s with heap:=h'}) :
  AR (model prog w) A (Am (.ref c)) Q E s:=by
 let{o,f,t,h}:=id b;let{q,d,_,r,g}:=n;apply AC (BP (name:=Aa "__next__") b.typeIs DC
  (BN DC b.typeIs Hh ?_ (HU _)))
 change AR _ _ (field (.ref c) 0>>=_) _ _ s;apply AC (As f h (x:=.ref l) rfl ?_);apply AC (As f h (x:=.int i 0) rfl ?_);apply AC (BW d g ?_);erw[Bp,k];apply AC (DZ (AC (Cm f h ∎ ?_)));apply AC ?_;apply AC (m:=GK _ _) (Hi (a:=BQ) (by first|rfl|(rfl)) ?_);apply BZ ?_ (by size_fits);apply AC (wpAny_handled ?_)
 first|rw[show A.in1.handled=AF from j]|rw[j]
 apply AC (AL (wpAny_throw ?_));show p _ _ (((Bb ..).extBut.push _).push _) {_,Ae _ rfl,rfl}
end
def Draws.tuple{prog}{w}{A}(c:A.handled=AF)it l(b:l≠it)items:
  Draws prog w A it [it,l] items.size (λi v=>items[i]?=AA v) λi h=>h.IsTupleIter it l i/\h.IsTuple l items where
 live:=λ_ _ st=>let⟨o,a,_⟩:=st.1;⟨o,a⟩
 frame:=λ_ _ _ st hk=>⟨st.1.at λo=>hk it ∎ o,let⟨o,a,r⟩:=st.2;{o,hk l ∎ o a,r}⟩
 item:=λi s Q E hi st hQ=>(ay5 st.1 st.2 (x:=items[i]) (by simp[]) λh' hit' hs'=>hQ _ h' s.toks (by simp[]) {hit',st.2.extBut hs'.extBut b} hs')
 done:=λs Q E st=>ay6 c st.1 st.2 ∎
open AutoSeq1 (wpAny_loadPart') in
def bs8(l:AI)(items:Array AG)(n:Nat)(dct:Option AI)(sl:Array (Option AG)):
  Jd (Cr.«enumerate.__new__» {[.type "enumerate",.ref l],[]}) (λ_ R s=>s.heap.get? l=AA {cls:=.type "tuple",dict:=dct,data:=.seq items n,slots:=sl} /\
   R (.ok (.ret (.ref (s.heap.push {cls:=.type "tuple_iterator",data:=.fields #[.ref l,.int 0 0]}).objs.size)))
    {s with heap:=(s.heap.push {cls:=.type "tuple_iterator",data:=.fields #[.ref l,.int 0 0]}).push {cls:=.type "enumerate",data:=.fields #[.none,.bool AE,.ref s.heap.objs.size,By 0,.none,.none]}}):=
 .of_wp λprog w A R s h=>by
  let{hp,g,d,tk,os}:=s;let{hl,h}:=h;have hsub:=sub_enumerate;have hL:Heap.IsTuple (IB ⟨hp,g,d,tk,os⟩) l items:=⟨_,hl,rfl,n,rfl⟩
  wp_walk using Fl hl
  apply wpAny_stack_any λst=>AL ?_
  split
  ·rename_i c _ _ _ _ _;cases(c==Cu "enumerate")
   ·wp_walk using Fl hl,Dc hL
    show⟨_,rfl,h⟩
   ·wp_walk using Fl hl,Dc hL
    show⟨_,rfl,h⟩
  ·wp_walk using Fl hl,Dc hL
   show⟨_,rfl,h⟩
section
variable {prog:Ag} {w:Aw} {A:BR} {E:AG->AK->Prop} {s:AK}
def bs9{l}{items}{Q}(j:s.heap.IsTuple l items)
  (h:∀h',Lk h' (s.heap.objs.size+1) s.heap.objs.size 0 .none->h'.IsTupleIter s.heap.objs.size l 0->h'.objs.size=s.heap.objs.size+2 ->
   (∀b o,s.heap.get? b=AA o->h'.get? b=AA o)->Q (.ref (s.heap.objs.size+1)) {s with heap:=h'}) :
  AR (model prog w) A (call (.type "enumerate") [.ref l]) Q E s:=by
 let{{c,a,k,e},f,i,n,g}:=j;subst i g;apply JH F.called_enumerate ∅ (F.typeCall_enumerate_1 _) (F.newCall_enumerate_1 _) (λobj=>JI obj _) F.entry_enumerate_new
  (bs8 l items n a e) {f,?_}
 have hz:(s.heap.push {cls:=.type "tuple_iterator",data:=.fields #[.ref l,.int 0 0]}).objs.size=s.heap.objs.size+1:=Ck ..;rw[hz];have d:=by
  have:=Ae (s.heap.push {cls:=.type "tuple_iterator",data:=.fields #[.ref l,.int 0 0]})
   (o:={cls:=.type "enumerate",data:=.fields #[.none,.bool AE,.ref s.heap.objs.size,By 0,.none,.none]}) rfl
  rwa[hz]at this
 apply{⟨_,d,rfl⟩,h _ d {_,AM _ (Ae _ rfl),rfl,rfl} (by rw[Ck,hz]) λb o x=>AM _ (AM _ x)}
end
end PySem
namespace L2
open PySem PySem.Spec PyProof.Rows
variable{pins:List (AI×Obj)}{σ:St}{elts:List AT}{k0:Nat}{tp:Pos}
section
variable {X:Cx} {H:Hp} {s:AK} {h':BA}
def Inv.turnedNew{t':Nat}{ch:List AI}{o:HO}(I:Inv X pins σ H s)(a:∀b∈ch,z9 X pins H b)(k:∀b u,b∉ch->s.heap.get? b=AA u->h'.get? b=AA u)(C:∀b∈ch,∃u,h'.get? b=AA u)
  (h:o5 X.prog X.w (upd H s.heap.objs.size o) h' s.heap.objs.size o):Inv X pins σ (upd H s.heap.objs.size o) {s with heap:=h',toks:=t'}:=by
 have f:H s.heap.objs.size=AF:=I.hok.fresh (AS _);have i:∀b u,s.heap.get? b=AA u->b≠s.heap.objs.size:=λb u e=>Bd (Az e);have d:∀b u,H b=AA u->b∉ch:=λb u e z=>by rw[(a b z).1]at e;cases e
 apply I.step (g':=s.gens) (d':=s.drawn) (ch:=ch) (λb g=>?_) (λb u _ _ hc e _=>k b u hc e) (λb u _ _ hc e _=>{u.slots,k b u hc e}) (λb u _ e n=>by rw[j6 (i b u e)];show n)
  (λb u hc e=>{u,k b u hc e}) (λb xs e=>by rw[j6 (z6 e f)];show e) (λb u v e=>by rw[j6 (z6 e f)];show e) (λb ps e=>{#[],by rw[j6 (z6 e f),e];simp}) (λm hm=>?_) (λb u e=>?_) I.bare
 ·let{B,t,A,p,m,l}:=a b g;show⟨p,t,m,l⟩
 ·let{ob,x,y,j,r}:=hm;show{ob,x,y,k _ ob (λz=>(a _ z).2.1 rfl) j,r}
 ·by_cases g:b=s.heap.objs.size
  ·subst g;rw[t4]at e;cases e;show h
  ·rw[j6 g]at e;apply(I.hok b u e).stay (λc v hc q=>k c v ?_ q) (λc q=>by rw[j6 (z6 q f)];show q) λc xs q=>by rw[j6 (z6 q f)];show q
   rcases hc with z|z
   ·rw[z];show d b u e
   ·show d c _ z
def Inv.turnedAll{t'}{ch:List AI}(I:Inv X pins σ H s)(a:∀b∈ch,z9 X pins H b)(k:∀b u,b∉ch->s.heap.get? b=AA u->h'.get? b=AA u):Inv X pins σ H {s with heap:=h',toks:=t'}:=by
 have d:∀b u,H b=AA u->b∉ch:=λb u e z=>by rw[(a b z).1]at e;cases e
 apply I.step (λb hb=>?_) (λb u _ _ hc e _=>k b u hc e) (λb u _ _ hc e _=>{u.slots,k b u hc e}) (λb u _ e n=>n)
  (λb u hc e=>{u,k b u hc e}) (λb xs e=>e) (λb u v e=>e) (λb ps e=>{#[],by rw[e];simp}) (λm hm=>?_) (λb u e=>?_) I.bare
 ·let{p,j,o,i,h,g}:=a b hb;show⟨i,j,h,g⟩
 ·let{ob,l,m,f,r}:=hm;show{ob,l,m,k _ ob (λz=>(a _ z).2.1 rfl) f,r}
 ·apply(I.hok b u e).stay (λc v hc=>k c v ?_) (λc q=>q) λc xs q=>q
  rcases hc with z|z
  ·rw[z];show d b u e
  ·show d c _ z
end
abbrev Ite(K:AO)(sq:Hp->List V->Prop):It:=
 {λi H=>∃xs x,sq H xs/\xs[i]?=AA x,λi H x H'=>∃t v,H t=AF/\x=.ref t/\H'=upd H t (.tup [.int i,v])/\∀xs,sq H xs->xs[i]?=AA v,λi H=>∃xs,sq H xs/\xs.length=i}
def a73{P:Ag}{w:Aw}{K:AO}{sq:Hp->List V->Prop}{e c:AI}{pit:Nat->BA->Prop}{bad:AI->Prop}
  (G:e≠c) (k:∀i h,pit i h->∃o,h.get? c=AA o/\∀v,o.data≠.cell v) (l:∀i h h',pit i h->(∀o,h.get? c=AA o->h'.get? c=AA o)->pit i h')
  (dr:∀(X:Cx),X.prog=P->X.w=w->X.K=K->X.calm=AD->∀(i:Nat)(a:List (AI×Obj))(s:AK)(n:St)(H:Hp)(g:List V),Inv X a n H s->z9 X a H e->z9 X a H c->pit i s.heap->(∃d,Lk s.heap e c i d)->sq H g ->
   ∃(f:List AG)(Y:List AI)(Z:Nat->AG->Prop)(St:Nat->BA->Prop),i5 g f/\g.length<=sizeLine/\Draws P w X.A.in1 c Y f.length Z St/\e∉Y/\St i s.heap/\(∀j v,Z j v->f[j]?=AA v)/\∀j h,St j h->pit j h)
  (inj:∀(X:Cx)(a:List (AI×Obj))(s:AK)(n:St)(H:Hp)(g ys:List V),X.K=K->Inv X a n H s->sq H g->sq H ys->g=ys) :
  Turn P w K (.Tuple elts k0 tp) (Ite K sq) [e,c] e (λi h=>(∃d,Lk h e c i d)/\pit i h) where
 mem:=by simp
 obj:=λi h st b hb=>by
  rcases AQ.mp hb with z|z
  ·subst z;let{{d,m},_}:=st;show{_,m,λv z=>by cases z}
  ·have C:b=c:=by simpa using z
   subst C;show k i h st.2
 keep:=λi h h' st S=>by
  let{{d,m},U}:=st;show{{d,S e ∎ _ m},l i h h' U λo q=>S c ∎ o q}
 item:=by
  intro X hP hw W hc i a s n H E I t st hg;let{g,x,T,F}:=hg;let{f,Y,Z,St,R,hz,D,J,p,M,L}:=dr X hP hw W hc i a s n H g I (t e ∎) (t c ∎) st.2 st.1 T;let{{d,m},U}:=st;have hi:i<f.length:=by
   rw[<-R.length];show(AY.mp F).1
  apply wpAny_pyNext_enum_itemD D m p hi G J λy h1 tk hPy ho hst' hT hsz hk=>?_;let{u,hu,ru}:=R.get F;have ey:y=u:=by
   have q:=M i y hPy;rw[hu]at q;show(At q).symm
  subst ey;apply{_,rfl,?_};have hT':H s.heap.objs.size=AF:=I.hok.fresh (AS _);have O:e<s.heap.objs.size:=Az m;apply wpAny_letOwnedTupleGo_enum ho λh2 he2 hs2=>?_;have q2:Bf e h1 h2:=hs2;have S:∀b u,b∉[e,c]->s.heap.get? b=AA u->h2.get? b=AA u:=λb u hb q=>by
   have N:b≠e:=λz=>hb (by simp[z]);have h2':b≠c:=λz=>hb (by simp[z]);show(q2.2 b N).trans (hk b u N h2' q)
  have hT2:h2.get? s.heap.objs.size=AA {cls:=.type "tuple",data:=.seq #[.int i tk,y]}:=(q2.2 _ (GH O)).trans hT;have r:pit (i+1) h2:=l _ _ _ (L _ _ hst') λo q=>(q2.2 c (Ax G)).trans q;have I1:Inv X a n (upd H s.heap.objs.size (.tup [.int i,x])) {s with heap:=h2,toks:=tk+1}:=by
   apply I.turnedNew (ch:=[e,c]) t S (λb hb=>?_) ?_
   ·rcases AQ.mp hb with z|z
    ·show{_,by rw[z];show he2}
    ·have C:b=c:=by simpa using z
     subst C;let{o,q,_}:=k _ _ r;show⟨o,q⟩
   ·show{by change 2<=sizeLine;decide,[.int i tk,y],.cons ⟨_,rfl⟩ (.cons ru .nil),⟨_,hT2,rfl,rfl,_,rfl⟩}
  apply{.ref s.heap.objs.size,_,I1,rfl,{s.heap.objs.size,x,hT',rfl,rfl,λys hy=>by rw[inj X a s n H ys g W I hy T];show F},{⟨_,by have:=he2;simpa using this⟩,r},λb hb=>?_};have nb:b≠s.heap.objs.size:=by
   rcases AQ.mp hb with z|z
   ·rw[z];show Bd O
   ·have C:b=c:=by simpa using z
    subst C;let{o,q,_}:=k _ _ U;show Bd (Az q)
  rw[j6 nb];show(t b hb).1
 done:=by
  intro X hP hw W hc i a s n H E I t st hg;let{g,T,F}:=hg;let{f,Y,Z,St,R,hz,D,J,p,M,L}:=dr X hP hw W hc i a s n H g I (t e ∎) (t c ∎) st.2 st.1 T;let{{d,m},U}:=st;have hi:i=f.length:=by rw[<-R.length];show F.symm
  rw[hi]at p;apply wpAny_pyNext_enum_endD D m p λh1 eb=>{rfl,?_};show I.turnedAll (t':=s.toks) (ch:=[e,c]) t λb u hb q=>eb b u (λz=>hb (by simp[z])) q
 self:=λA i s Q E st h=>by
  let{{d,m},_}:=st;show HE m h
def ag2{h:BA}{a b:AI}{o u}(e:h.get? a=AA o)(c:h.get? b=AA u)(d:o.cls≠u.cls):a≠b:=λz=>by
 grind
section
variable {X:Cx}
def bt7:BK "enumerate"=AA (.type "enumerate"):=rfl
def ay8:BK "reversed"=AA (.type "reversed"):=rfl
def b95{n:Hp}{a:AK}{R:It->Hp->Prop}{l:AI}{f:List V}{E:AG->AK->Prop}(u:Inv X c p n a)(t:SqL X.K n l f)(q:R (Ite X.K λH f=>SqL X.K H l f) n):
  AR (model X.prog X.w) X.A (call (.type "enumerate") [.ref l]) (λv s=>AR (model X.prog X.w) X.A (HQ v) (PIE X c p (.Tuple elts k0 tp) R) E s) E a:=by
 let{d,C,r,hz}:=u.list t;apply call_enumerate_list r.isList λh' g e hsz kk=>HE g ?_;have T:Inv X c p n {a with heap:=h'}:=u.kept (t':=a.toks) kk;have k:∀b∈[a.heap.objs.size+1,a.heap.objs.size],a.heap.objs.size<=b:=λb hb=>by
  rcases AQ.mp hb with z|z
  ·rw[z];show Iz _
  ·have M:b=a.heap.objs.size:=by simpa using z
   rw[M];show AS _
 apply{a.heap.objs.size+1,[a.heap.objs.size+1,a.heap.objs.size],_,_,n,rfl,T,a73 (sq:=λH f=>SqL X.K H l f) (pit:=λi h=>h.IsListIter a.heap.objs.size l i) (bad:=λ_=>True) (HG _) ?_ ?_ ?_ ?_,{{_,by simpa using g},e},λb hb=>u.fpOk (k b hb) (u.hok.fresh (k b hb)),q}
 ·rintro i h ⟨o,ho,G,hd⟩;show{o,ho,λv z=>by rw[hd]at z;cases z}
 ·show λi h h' st kk=>st.at kk
 ·intro Y hP hw B G i c s p H f I f1 f2 e g t;rw[<-B]at t;let{d,C,r,hz}:=I.list t;let{N,g}:=g;let{Z,x,y,S}:=id e;let{W,nl,j,m,F,Q}:=id r;have P:l≠a.heap.objs.size:=ag2 j x (by rw[m,y];decide);have O:a.heap.objs.size+1≠l:=ag2 g j (by rw[m];change Cu "enumerate"≠_;decide);apply{d,[a.heap.objs.size,l],(λi v=>d.toArray[i]?=AA v),(λi h=>h.IsListIter a.heap.objs.size l i/\h.IsList l d.toArray),C,hz,?_,?_,⟨e,r.isList⟩,λj v z=>by simpa using z,λj h z=>z.1}
  ·have D:=Draws.list (prog:=X.prog) (w:=X.w) (A:=Y.A.in1) (by show I.ok.hd G) a.heap.objs.size l P d.toArray;simpa using D
  ·intro z
   rcases AQ.mp z with z|z
   ·show HG _ z
   ·show O (by simpa using z)
 ·intro Y c s p H f U B I L J;rw[<-B]at L J;show I.list_inj L J
def b75{n:Hp}{a:AK}{R:It->Hp->Prop}{l:AI}{f:List V}{E:AG->AK->Prop}(u:Inv X c p n a)(t:SqT X.K n l f)(q:R (Ite X.K λH f=>SqT X.K H l f) n):
  AR (model X.prog X.w) X.A (call (.type "enumerate") [.ref l]) (λv s=>AR (model X.prog X.w) X.A (HQ v) (PIE X c p (.Tuple elts k0 tp) R) E s) E a:=by
 let{d,C,r,hz}:=u.tuple t;apply bs9 (show a.heap.IsTuple l d.toArray from r) λh' g e hsz kk=>HE g ?_;have S:Inv X c p n {a with heap:=h'}:=u.kept (t':=a.toks) kk;have k:∀b∈[a.heap.objs.size+1,a.heap.objs.size],a.heap.objs.size<=b:=λb hb=>by
  rcases AQ.mp hb with z|z
  ·rw[z];show Iz _
  ·have L:b=a.heap.objs.size:=by simpa using z
   rw[L];show AS _
 apply{a.heap.objs.size+1,[a.heap.objs.size+1,a.heap.objs.size],_,_,n,rfl,S,a73 (sq:=λH f=>SqT X.K H l f) (pit:=λi h=>h.IsTupleIter a.heap.objs.size l i) (bad:=λ_=>True) (HG _) ?_ ?_ ?_ ?_,{{_,by simpa using g},e},λb hb=>u.fpOk (k b hb) (u.hok.fresh (k b hb)),q}
 ·rintro i h ⟨o,ho,F,hd⟩;show{o,ho,λv z=>by rw[hd]at z;cases z}
 ·show λi h h' st kk=>st.at kk
 ·intro Y hP hw B F i c s p H f I f1 f2 e g t;rw[<-B]at t;let{d,C,r,hz}:=I.tuple t;let{M,g}:=g;let{W,x,y,Q}:=id e;let{U,j,m,Z,P}:=id r;have O:l≠a.heap.objs.size:=ag2 j x (by rw[m,y];decide);have N:a.heap.objs.size+1≠l:=ag2 g j (by rw[m];change Cu "enumerate"≠_;decide);apply{d,[a.heap.objs.size,l],(λi v=>d.toArray[i]?=AA v),(λi h=>h.IsTupleIter a.heap.objs.size l i/\h.IsTuple l d.toArray),C,hz,?_,?_,⟨e,r⟩,λj v z=>by simpa using z,λj h z=>z.1}
  ·have D:=Draws.tuple (prog:=X.prog) (w:=X.w) (A:=Y.A.in1) (by show I.ok.hd F) a.heap.objs.size l O d.toArray;simpa using D
  ·intro z
   rcases AQ.mp z with z|z
   ·show HG _ z
   ·show N (by simpa using z)
 ·intro Y c s p H f T B I J G;rw[<-B]at J G;show I.tuple_inj J G
abbrev Itv(K:AO)(a:AI)(n:Nat):It:=
 {λi H=>(∃xs,SqL K H a xs/\xs.length=n)/\i<n,λi H x H'=>H'=H/\∀xs,SqL K H a xs->xs[n-1-i]?=AA x,λi H=>(∃xs,SqL K H a xs/\xs.length=n)/\i=n}
def b54{P:Ag}{w:Aw}{K:AO}{L:AT}(a g:AI)(n:Nat):Turn P w K L (Itv K a n) [g] g (λi h=>h.IsRevIter g a ((n:Int)-1-(i:Int))) where
 mem:=by simp
 obj:=λi h st b hb=>by
  have e:b=g:=by simpa using hb
  subst e;let{o,e,c,d}:=st;show{o,e,λv z=>by rw[d]at z;cases z}
 keep:=λi h h' st k=>st.at λo e=>k g ∎ o e
 item:=by
  intro X G C J F i f s A H E I l st m;subst G C J;let{{j,D,R},hi}:=m;subst R;let{O,M,p,hz}:=I.list D;obtain⟨x,B⟩:∃x,j[j.length-1-i]?=AA x:={_,AJ ⋯};let{u,Q,N}:=M.get B;let{y,v,S,t,r,q}:=l g ∎;have e:(j.length:Int)-1-(i:Int)=((j.length-1-i:Nat):Int):=by lia
  rw[e]at st;apply wpAny_pyNext_rev_item st p.isList (x:=u) (by simpa using Q) λh' st' sb=>?_;have V:Inv X f A H {s with heap:=h'}:=I.turned (t':=s.toks) (λb o hb e=>(sb.2 b hb).trans e) y v t r q;let{o,U,c,d}:=id st';have T:((j.length-1-i:Nat):Int)-1=(j.length:Int)-1-((i+1:Nat):Int):=by lia
  rw[T]at st';show{u,rfl,ac4 (s:={s with heap:=h'}) U c d ∅ {x,H,V,N,{rfl,λys hy=>by rw[I.list_inj hy D];show B},st',λb hb=>(l b hb).1}}
 done:=by
  intro X G C J F i f s A H E I l st m;let{_,hi}:=m;let{y,v,S,t,r,q}:=l g ∎;have e:(n:Int)-1-(i:Int)=-1:=by lia
  rw[e]at st;show wpAny_pyNext_rev_end (I.ok.hd F) st λh' eb=>{rfl,I.turned (t':=s.toks) (λb o hb e=>eb b o hb e) y v t r q}
 self:=λ_ _ _ _ _ st h=>Je st h
abbrev de4(K:AO)(ta:TA):TI:=λσ H R=>ta σ H λvs H1=>∃a xs,vs=[.ref a]/\SqL K H1 a xs/\R (Itv K a xs.length) H1
def ch8{n a:AT}{k:TA}{p d:Pos}(B:Gl X "reversed")(A:X.mg "reversed"=AF)(C:PA X [a] k)(y:Ao [a] X.env=[(AE,eval a X.env)]:=by rfl):
  PI X n (.Call (.Name "reversed" p) [a] [] d) (de4 X.K k):=by
 intro f s m H R I h;apply JW (L6 I B A ay8 (BF (thn (C d f s m H _ I h) λus s1 z33=>?_) y rfl));let{vs,D,i,v,w}:=z33;let{l,j,e,z,q}:=w;subst e;let{u,rfl,t}:=v.one;cases t;let{c,r,x,hz}:=i.list z;apply call_reversed_list x.isList ?_;have g:(s1.heap.push (revObj l ((c.toArray.size:Int)-1))).IsRevIter s1.heap.objs.size l ((j.length:Int)-1-((0:Nat):Int)):=by
  apply{_,Ae _ rfl,rfl,?_};have e:((c.toArray.size:Nat):Int)-1=(j.length:Int)-1-((0:Nat):Int):=by rw[Ac,<-r.length];lia
  rw[e];rfl
 apply Je (s:={s1 with heap:=s1.heap.push (revObj l ((c.toArray.size:Int)-1))}) g ?_;apply{s1.heap.objs.size,[s1.heap.objs.size],_,_,D,rfl,i.kept (t':=s1.toks) λb o e=>AM _ e,b54 l _ j.length,g,λb hb=>?_,q};have e:b=s1.heap.objs.size:=by simpa using hb
 subst e;show i.fpOk (AS _) (i.hok.fresh (AS _))
abbrev au9(i j:Int):Prop:=0<j/\j.natAbs.log2<9000
def cb5:OpR X (DF .FloorDiv) (rI au9 λi j=>.int (i / j)):=opI λi j _ _ _ _ _ hc q=>by
 have a:(0:Int)<j:=hc.1;show floordiv_int ⋯ (by rw[Int.fdiv_eq_ediv_of_nonneg i ⋯];show q) (.inl (PyProof.noPylong_of_log2 hc.2))
abbrev da2(K:AO):R2:=λx y H Q=>∃a b xs ys,x=.ref a/\y=.ref b/\SqT K H a xs/\SqT K H b ys/\xs.length+ys.length<=sizeLine /\
 (xs=[]->Q (.ref b) H)/\(xs≠[]->ys=[]->Q (.ref a) H)/\(xs≠[]->ys≠[]->∀p,H p=AF->Q (.ref p) (upd H p (.tup (xs++ys))))
def ce3:OpR X (DF .Add) (da2 X.K):=by
 intro c s A H x y v u Q I p o h;let{a,b,m,B,rfl,rfl,t,r,hz,J,G,E}:=h
 by_cases f:m=[]
 ·subst f;cases p;cases o;let{O,D,M,_}:=I.tuple t;let{d,S,L,_}:=I.tuple r;cases D;let{{cls,dd,w,C},q,R,n,P}:=id M;let{{z,k,l,g},e,j,N,i}:=id L;subst R P j i;show JB ⟨_,q,rfl⟩ ⟨_,e,rfl⟩ HS Ib PySem.F.slot_tuple_add PySem.F.entry_tuple_add (PySem.F.args_tuple_add_2 _ _)
   (tuple_addW0 a b #[] d.toArray n N dd k C g ∎) {q,e,.ref b,H,I,rfl,J rfl}
 ·show ce1 c s A H _ _ v u Q I p o {a,b,m,B,rfl,rfl,t,r,f,hz,G f,E f}
end
end L2
namespace Ek
open PySem PySem.Spec PyProof.Rows L2
section
set_option genCtorIdx false
set_option genInjectivity false
variable{n:Nat}
inductive Tg where
 |n (i:Nat)|tup (is:List Nat)
mutual
inductive E where
 |non|bl (b:Bool)|int (i:Int)|str (x:Str)
 |v (i:Nat)
 |tup (es:Es)|lst (es:Es)
 |bin (o:FM) (a b:E)
 |neg (a:E)
 |cmp (o:EO) (a b:E)
 |isN (a:E)|notN (a:E)
 |and (a b:E)|or (a b:E)|not (a:E)
 |ite (c a b:E)
 |ix (a b:E)
 |sl (a lo hi:E)
 |slw (a lo hi:E)
 |gsel (g:Str) (k:E)|gget (g:Str) (k d:E)
 |len (a:E)|toInt (a:E)|list (a:E)|tuple (a:E)
 |max (a b:E)|min (a b:E)|lzip (a b:E)
 |call (f:Str) (es:Es)|callw (f:Str) (es:Es)|gf (f:Str)|callv (i:Nat) (es:Es)|callx (c:E) (es:Es)|isT (t:String) (a:E)
 |fld (a:E) (f:Str)|meth (a:E) (m:Str) (es:Es)|make (c:Str) (es:Es)
 |app (a b:E)|ext (a b:E)|popAt (a b:E)|pop (a:E)
 |lrev (a:E)
 |gc (g:Str)
 |dnt|dgt (a k:E)|din (ne:Bool) (k a:E)
 |any (a:E)|methd (a:E) (m:Str) (es:Es)
 |comp (Nc:List Str) (fr:List Nat) (k:Nat) (t:Tg) (it:It) (c:E) (e:E)
inductive Es where
 |nil|cons (e:E) (r:Es)
inductive It where
 |seq (e:E)|rng (a:E)|rng2 (a b:E)|enum (e:E)|rev (e:E)|revt (e:E)
end
set_option genCtorIdx true
mutual
inductive S where
 |set (i:Nat) (e:E)
 |put (o i v:E)
 |dput (o i v:E)
 |iput (o i v:E)
 |pre (i:Nat)
 |fldS (o:E) (f:Str) (v:E)
 |unp (is:List Nat) (e:E)
 |ex (e:E)
 |iff (c:E) (a b:Ss)
 |ret (e:E)|retN
 |for (t:Tg) (it:It) (b:Ss)
 |while (c:E) (b:Ss)
 |cont|pass|dead
 |tr (c:E)
 |raise
 |dfn (i np:Nat) (N:List Str) (cp:List Nat) (b:Ss)
inductive Ss where
 |nil|cons (s:S) (r:Ss)
end
abbrev Es.len:Es->Nat
 |.nil=>0
 |.cons _ r=>r.len+1
set_option genInjectivity true
inductive D where
 |non|bl (b:Bool)|int (i:Int)|str (x:Str)|tup (ds:List D)|ref (a:AI)|fn (f:Str)|clo (np:Nat) (N:List Str) (b:Ss) (cs:List D)|ktup (ks:List Key)
inductive Ob where
 |lst (ds:List D)|fro (ds:List D)|dct (kvs:List (Key×D))|dtt (kvs:List (Ak×D))|ins (c:Str) (fs:List (Str×D))
@[reducible]noncomputable def Sto:=AI->Option Ob
@[reducible]noncomputable def i9:=List (Option D)
@[reducible]noncomputable def DK:=D->Sto->Prop
@[reducible]noncomputable def DT:=i9->Sto->DK->Prop
@[reducible]noncomputable def DB:=i9->Sto->(Bool->Sto->Prop)->Prop
@[reducible]noncomputable def DA:=i9->Sto->(List D->Sto->Prop)->Prop
abbrev b0(st:Sto)(a:AI)(o:Ob):Sto:=λb=>if b=a then AA o else st b
def f8{st}{a}{o}:b0 st a o a=AA o:=by unfold b0;rw[if_pos rfl]
def G0{st}{a b}{o}(h:b≠a):b0 st a o b=st b:=by unfold b0;rw[if_neg h]
abbrev rdS(st:Sto)(a:AI)(ds:List D):Prop:=st a=AA (.lst ds)\/st a=AA (.fro ds)
abbrev Sub(st st':Sto):Prop:=∀a o,st a=AA o->st' a=AA o
def Sub.refl(st:Sto):Sub st st:=λ_ _ h=>h
mutual
noncomputable def D.py:D->Ak
 |.non=>.none|.bl b=>.bool b|.int i=>.int i|.str x=>.str x|.tup ds=>.tuple (D.pys ds)|.ref _=>.none|.fn _=>.none|.clo _ _ _ _=>.none|.ktup _=>.none
noncomputable def D.pys:List D->List Ak
 |[]=>[]
 |d::r=>d.py::D.pys r
end
mutual
noncomputable def D.pure:D->Bool
 |.tup ds=>D.pures ds
 |.ref _=>AE
 |.fn _=>AE
 |.clo _ _ _ _=>AE
 |.ktup _=>AE
 |.str x=>FG (.str x)
 |_=>AD
noncomputable def D.pures:List D->Bool
 |[]=>AD
 |d::r=>d.pure&&D.pures r
end
abbrev kD:Key->D
 |.inl i=>.int i
 |.inr x=>.str x
abbrev deq(d e:D):Bool:=Ay d.py e.py
abbrev o6(d:D):Nat:=d.py.depth
@[reducible]noncomputable def Spec:=List D->Sto->DK->Prop
structure Sg where
 F:Str->Bool
 Phi:Str->Spec
 G:Str->List (Str×D)
 C:Str->List Str
 Mk:Str->Spec
 MF:Str->Bool
 PhiC:Nat->List Str->Ss->List D->Spec
 Kc:Str->Option D
 X:Bool
 T:Str->Spec
@[inline]def f6(c m:Str):Str:=⟨c.cps++#[46]++m.cps⟩
abbrev A0(C:Str->List Str)(f:Str):Option Int:=match C ⟨#[33]++f.cps⟩with
 |[]=>AF
 |_::l=>AA (l.length:Nat)
abbrev j9(f:Str)(d:D):List (Str×D)->List (Str×D)
 |[]=>[(f,d)]
 |(g,e)::r=>if g=f then(g,d)::r else(g,e)::j9 f d r
abbrev U1(Z:Sg)(ta:Sto->(List D->Sto->Prop)->Prop)(st:Sto)(Q:DK):D->Prop
 |.fn f=>Z.F f=AD/\ta st λds st1=>Z.Phi f ds st1 Q
 |.clo np N b cs=>ta st λds st1=>Z.PhiC np N b cs ds st1 Q
 |_=>False
abbrev O4(env:i9):List Nat->Option (List D)
 |[]=>AA []
 |i::is=>match env[i]?,O4 env is with
  |some (AA d),AA ds=>AA (d::ds)
  |_,_=>AF
abbrev T9(i j:Int):Prop:=aw6 i j\/(i.natAbs<2^20000/\j.natAbs<2^20000)
abbrev F5(kvs:List (Key×D))(k:Key):Option D:=(kvs.find? λkv=>AB (kv.1=k)).map (·.2)
abbrev C5:FM->D->D->Sto->DK->Prop
 |.Add,.int i,.int j,st,Q=>Q (.int (i+j)) st
 |.Add,.tup xs,.tup ys,st,Q=>xs.length+ys.length<=sizeLine/\Q (.tup (xs++ys)) st
 |.Add,.ref a,.ref b,st,Q=>∃xs ys,st a=AA (.lst xs)/\st b=AA (.lst ys)/\xs.length+ys.length<=sizeLine/\∀p,st p=AF->Q (.ref p) (b0 st p (.lst (xs++ys)))
 |.Sub,.int i,.int j,st,Q=>Q (.int (i-j)) st
 |.Mult,.int i,.int j,st,Q=>T9 i j/\Q (.int (i*j)) st
 |.Mult,.tup xs,.int k,st,Q=>xs≠[]/\1<=k/\k<2^62/\xs.length*k.toNat<=sizeLine/\Q (.tup (Al k.toNat xs).flatten) st
 |.Mod,.int i,.int j,st,Q=>0<j/\Q (.int (i % j)) st
 |.FloorDiv,.int i,.int j,st,Q=>au9 i j/\Q (.int (i / j)) st
 |.Pow,.int i,.int j,st,Q=>aw7 i j/\Q (.int (i^j.toNat)) st
 |_,_,_,_,_=>False
abbrev o9:EO->D->D->Sto->DK->Prop
 |.Eq,x,y,st,Q=>x.pure=AD/\y.pure=AD/\FB (o6 x) (o6 y)<=150/\Q (.bl (deq x y)) st
 |.NotEq,x,y,st,Q=>x.pure=AD/\y.pure=AD/\FB (o6 x) (o6 y)<=150/\Q (.bl (!deq x y)) st
 |.Lt,.int i,.int j,st,Q=>Q (.bl (AB (i<j))) st
 |.LtE,.int i,.int j,st,Q=>Q (.bl (AB (i<=j))) st
 |.Gt,.int i,.int j,st,Q=>Q (.bl (AB (j<i))) st
 |.GtE,.int i,.int j,st,Q=>Q (.bl (AB (j<=i))) st
 |.In,x,.tup ys,st,Q=>x.pure=AD/\D.pures ys=AD/\o6 x<=150/\Q (.bl (ys.any λy=>deq y x)) st
 |.NotIn,x,.tup ys,st,Q=>x.pure=AD/\D.pures ys=AD/\o6 x<=150/\Q (.bl (!ys.any λy=>deq y x)) st
 |.In,.int i,.ktup ks,st,Q=>Q (.bl (ks.any λk=>AB (k=.inl i))) st
 |.NotIn,.str w,.ktup ks,st,Q=>(D.str w).pure=AD/\Q (.bl (!ks.any λk=>AB (k=.inr w))) st
 |.In,.str w,.ref a,st,Q=>∃kvs,st a=AA (.dct kvs)/\Q (.bl (F5 kvs (.inr w)).isSome) st
 |.NotIn,.int i,.ref a,st,Q=>∃kvs,st a=AA (.dct kvs)/\Q (.bl (!(F5 kvs (.inl i)).isSome)) st
 |.Is,.bl b,.bl c,st,Q=>Q (.bl (b==c)) st
 |.IsNot,.bl b,.bl c,st,Q=>Q (.bl (b != c)) st
 |_,_,_,_,_=>False
abbrev ixR:D->D->Sto->DK->Prop
 |.tup ds,.int i,st,Q=>∃d,atI ds i=AA d/\Q d st
 |.ref a,.int i,st,Q=>(∃ds d,rdS st a ds/\atI ds i=AA d/\Q d st)\/∃kvs d,st a=AA (.dct kvs)/\F5 kvs (.inl i)=AA d/\Q d st
 |.ref a,.str w,st,Q=>∃kvs d,st a=AA (.dct kvs)/\F5 kvs (.inr w)=AA d/\Q d st
 |.str w,.int i,st,Q=>∃c,w.length<=sizeLine/\atI w.cps.toList i=AA c/\Q (.str ⟨#[c]⟩) st
 |_,_,_,_=>False
abbrev A6(xs:List D)(lo hi:Option Int):List D:=(xs.drop (HT.sIx xs.length 0 lo)).take (HT.sIx xs.length xs.length hi-HT.sIx xs.length 0 lo)
abbrev slR:D->Option Int->Option Int->Sto->DK->Prop
 |.tup ds,lo,hi,st,Q=>¬(HT.sIx ds.length 0 lo=0/\HT.sIx ds.length ds.length hi=ds.length)/\Q (.tup (A6 ds lo hi)) st
 |.ref a,lo,hi,st,Q=>∃ds,rdS st a ds/\∀p,st p=AF->Q (.ref p) (b0 st p (.lst (A6 ds lo hi)))
 |_,_,_,_,_=>False
abbrev u6:List (Str×D)->Str->Option D
 |[],_=>AF
 |(k,d)::r,x=>if k=x then AA d else u6 r x
abbrev U8:D->Sto->DK->Prop
 |.tup ds,st,Q=>Q (.int ds.length) st
 |.ref a,st,Q=>∃ds,rdS st a ds/\Q (.int ds.length) st
 |_,_,_=>False
abbrev ab0:D->Sto->DK->Prop
 |.bl b,st,Q=>Q (.int (if b then 1 else 0)) st
 |.int i,st,Q=>Q (.int i) st
 |_,_,_=>False
abbrev Q7:D->Sto->DK->Prop
 |.tup ds,st,Q=>∀p,st p=AF->Q (.ref p) (b0 st p (.lst ds))
 |.ref a,st,Q=>∃ds,rdS st a ds/\∀p,st p=AF->Q (.ref p) (b0 st p (.lst ds))
 |_,_,_=>False
abbrev W7:D->Sto->DK->Prop
 |.tup ds,st,Q=>Q (.tup ds) st
 |.ref a,st,Q=>∃ds,rdS st a ds/\Q (.tup ds) st
 |_,_,_=>False
abbrev ax3:D->Sto->DK->Prop
 |.ref a,st,Q=>∃bs:List Bool,rdS st a (bs.map D.bl)/\Q (.bl (bs.any id)) st
 |_,_,_=>False
abbrev bh4:D->Sto->DK->Prop
 |.ref a,st,Q=>∃ds,rdS st a ds/\Q (.bl AD) st
 |_,_,_=>False
abbrev J0(xs ys:List D):List D:=(xs.zip ys).map λp=>.tup [p.1,p.2]
abbrev au3:D->D->Sto->DK->Prop
 |.ref a,.int i,st,Q=>(-(2^62)<=i/\i<2^62)/\∃ds k d,st a=AA (.lst ds)/\ixN ds.length i=AA k/\ds[k]?=AA d/\Q d (b0 st a (.lst (ds.eraseIdx k)))
 |_,_,_,_=>False
abbrev ad3:D->Sto->DK->Prop
 |.ref a,st,Q=>∃ds d,st a=AA (.lst (ds++[d]))/\Q d (b0 st a (.lst ds))
 |_,_,_=>False
abbrev ac6:D->Sto->DK->Prop
 |.ref a,st,Q=>∃ds,st a=AA (.lst ds)/\Q .non (b0 st a (.lst ds.reverse))
 |_,_,_=>False
abbrev E2(kvs:List (Ak×D))(k:Ak):Option D:=(kvs.find? λkv=>AB (kv.1=k)).map (·.2)
abbrev Y2(kvs:List (Ak×D))(k:Ak)(v:D):List (Ak×D):=
 if(kvs.any λkv=>AB (kv.1=k))=AD then kvs.map (λkv=>if kv.1=k then(kv.1,v)else kv)else kvs++[(k,v)]
abbrev D.key(d:D):Prop:=NK.lit d.py=AD/\d.py.depth<=7
abbrev ai5:D->Option Int->Option Int->Sto->DK->Prop
 |.tup ds,lo,hi,st,Q=>Q (.tup (A6 ds lo hi)) st
 |_,_,_,_,_=>False
abbrev ax0:D->Sto->Prop
 |.ref a,st=>∃kvs,st a=AA (.dtt kvs)
 |_,_=>False
abbrev ax5:D->D->Sto->DK->Prop
 |.ref a,.tup ks,st,Q=>∃kvs,st a=AA (.dtt kvs)/\D.key (.tup ks)/\Q ((E2 kvs (D.tup ks).py).getD .non) st
 |_,_,_,_=>False
abbrev U6(ne:Bool):D->D->Sto->DK->Prop
 |.non,.ref a,st,Q=>st a=AA (.dtt [])/\Q (.bl ne) st
 |.tup ks,.ref a,st,Q=>∃kvs,st a=AA (.dtt kvs)/\D.key (.tup ks)/\Q (.bl (ne != (E2 kvs (D.tup ks).py).isSome)) st
 |_,_,_,_=>False
abbrev av7:D->D->D->Sto->(Sto->Prop)->Prop
 |.ref a,.tup ks,d,st,K=>∃kvs,st a=AA (.dtt kvs)/\D.key (.tup ks)/\kvs.length<sizeLine/\K (b0 st a (.dtt (Y2 kvs (D.tup ks).py d)))
 |_,_,_,_,_=>False
abbrev aw2:D->D->D->Sto->(Sto->Prop)->Prop
 |.ref a,.int i,d,st,K=>∃kvs,st a=AA (.dct kvs)/\F5 kvs (.inl i)=AF/\kvs.length<sizeLine/\K (b0 st a (.dct (kvs++[(.inl i,d)])))
 |_,_,_,_,_=>False
abbrev ad4:D->D->Sto->DK->Prop
 |.ref a,d,st,Q=>∃ds,st a=AA (.lst ds)/\ds.length<sizeLine/\Q .non (b0 st a (.lst (ds++[d])))
 |_,_,_,_=>False
abbrev Y3:D->D->Sto->DK->Prop
 |.ref a,.ref b,st,Q=>∃ds es,st a=AA (.lst ds)/\st b=AA (.lst es)/\ds.length+es.length<=sizeLine/\Q .non (b0 st a (.lst (ds++es)))
 |.ref a,.tup es,st,Q=>∃ds,st a=AA (.lst ds)/\ds.length+es.length<=sizeLine/\Q .non (b0 st a (.lst (ds++es)))
 |_,_,_,_=>False
abbrev E4:D->Sto->Prop
 |.ref a,st=>∃ds,rdS st a ds
 |_,_=>False
abbrev di5:D->Sto->Prop
 |.tup _,_=>True
 |.ref a,st=>∃ds,rdS st a ds
 |_,_=>False
abbrev tyD:D->Sto->Option String
 |.non,_=>AA "NoneType"|.bl _,_=>AA "bool"|.int _,_=>AA "int"|.str _,_=>AA "str"|.tup _,_=>AA "tuple"|.ktup _,_=>AA "tuple"
 |_,_=>AF
abbrev ac2(t:String)(d:D)(st:Sto)(Q:DK):Prop:=(∃ty,tyD d st=AA ty/\Q (.bl (ty==t||(ty=="bool"&&t=="int"))) st)\/∃a ds,d=.ref a/\rdS st a ds/\Q (.bl (t=="list")) st
abbrev T2:i9->List Nat->List D->i9
 |env,i::is,d::ds=>T2 (env.set i (AA d)) is ds
 |env,_,_=>env
abbrev E9:Tg->D->i9->(i9->Prop)->Prop
 |.n i,d,env,k=>k (env.set i (AA d))
 |.tup is,d,env,k=>∃ds,d=.tup ds/\ds.length=is.length/\k (T2 env is ds)
abbrev p8(lo:Int)(n:Nat):List D:=(Dk n).map λi=>.int (lo+(i:Nat))
abbrev t9:Nat->List D->List D
 |_,[]=>[]
 |i,d::ds=>.tup [.int i,d]::t9 (i+1) ds
abbrev B0(chk:Sto->Prop)(t:Tg)(tc:DB)(te:DT)(Q:List D->Sto->Prop):List D->List D->i9->Sto->Prop
 |[],acc,_,st=>chk st/\Q acc st
 |d::ds,acc,env,st=>chk st/\E9 t d env λenv'=>tc env' st λb st1=>
   if b=AD then te env' st1 λv st2=>B0 chk t tc te Q ds (acc++[v]) env' st2
   else B0 chk t tc te Q ds acc env' st1
abbrev S5(fr:List Nat)(k:Nat)(env:i9):i9:=(fr.map λj=>(env[j]?).join)++Al k AF
abbrev E.isNon:E->Bool
 |.non=>AD
 |_=>AE
@[reducible]noncomputable def ItK:=List D->(Sto->Prop)->Sto->Prop
mutual
noncomputable def wpE(Z:Sg):E->DT
 |.non=>λ_ st Q=>Q .non st
 |.bl b=>λ_ st Q=>Q (.bl b) st
 |.int i=>λ_ st Q=>Q (.int i) st
 |.str x=>λ_ st Q=>Q (.str x) st
 |.v i=>λenv st Q=>∃d,env[i]?=AA (AA d)/\Q d st
 |.tup es=>λenv st Q=>u4 Z es env st λds st1=>Q (.tup ds) st1
 |.lst es=>λenv st Q=>u4 Z es env st λds st1=>∀p,st1 p=AF->Q (.ref p) (b0 st1 p (.lst ds))
 |.bin o a b=>λenv st Q=>wpE Z a env st λx st1=>wpE Z b env st1 λy st2=>C5 o x y st2 Q
 |.neg a=>λenv st Q=>wpE Z a env st λx st1=>∃i,x=.int i/\Q (.int (-i)) st1
 |.cmp o a b=>λenv st Q=>wpE Z a env st λx st1=>wpE Z b env st1 λy st2=>o9 o x y st2 Q
 |.isN a=>λenv st Q=>wpE Z a env st λx st1=>(x=.non/\Q (.bl AD) st1)\/(x≠.non/\Q (.bl AE) st1)
 |.notN a=>λenv st Q=>wpE Z a env st λx st1=>(x=.non/\Q (.bl AE) st1)\/(x≠.non/\Q (.bl AD) st1)
 |.and a b=>λenv st Q=>wpE Z a env st λx st1=>∃c,x=.bl c/\(if c=AD then wpE Z b env st1 Q else Q (.bl AE) st1)
 |.or a b=>λenv st Q=>wpE Z a env st λx st1=>∃c,x=.bl c/\(if c=AD then Q (.bl AD) st1 else wpE Z b env st1 Q)
 |.not a=>λenv st Q=>wpE Z a env st λx st1=>∃c,x=.bl c/\Q (.bl (!c)) st1
 |.ite c a b=>λenv st Q=>wpE Z c env st λx st1=>∃k,x=.bl k/\(if k=AD then wpE Z a env st1 Q else wpE Z b env st1 Q)
 |.ix a b=>λenv st Q=>wpE Z a env st λx st1=>wpE Z b env st1 λy st2=>ixR x y st2 Q
 |.sl a lo hi=>λenv st Q=>wpE Z a env st λx st1=>
   (if lo.isNon=AD then λk=>k AF st1 else λ(k:Option Int->Sto->Prop)=>wpE Z lo env st1 λd st'=>∃i,d=.int i/\k (AA i) st') λl st2=>
   (if hi.isNon=AD then λk=>k AF st2 else λ(k:Option Int->Sto->Prop)=>wpE Z hi env st2 λd st'=>∃i,d=.int i/\k (AA i) st') λh st3=>slR x l h st3 Q
 |.slw a lo hi=>λenv st Q=>wpE Z a env st λx st1=>
   (if lo.isNon=AD then λk=>k AF st1 else λ(k:Option Int->Sto->Prop)=>wpE Z lo env st1 λd st'=>∃i,d=.int i/\k (AA i) st') λl st2=>
   (if hi.isNon=AD then λk=>k AF st2 else λ(k:Option Int->Sto->Prop)=>wpE Z hi env st2 λd st'=>∃i,d=.int i/\k (AA i) st') λh st3=>ai5 x l h st3 Q
 |.gget g k d=>λenv st Q=>Z.G g≠[]/\wpE Z k env st λx st1=>wpE Z d env st1 λy st2=>∃w,x=.str w/\Q ((u6 (Z.G g) w).getD y) st2
 |.gsel g k=>λenv st Q=>Z.G g≠[]/\wpE Z k env st λx st1=>∃w d,x=.str w/\u6 (Z.G g) w=AA d/\Q d st1
 |.len a=>λenv st Q=>wpE Z a env st λx st1=>U8 x st1 Q
 |.toInt a=>λenv st Q=>wpE Z a env st λx st1=>ab0 x st1 Q
 |.list a=>λenv st Q=>wpE Z a env st λx st1=>Q7 x st1 Q
 |.tuple a=>λenv st Q=>wpE Z a env st λx st1=>W7 x st1 Q
 |.max a b=>λenv st Q=>wpE Z a env st λx st1=>wpE Z b env st1 λy st2=>∃i j,x=.int i/\y=.int j/\Q (.int (if j>i then j else i)) st2
 |.min a b=>λenv st Q=>wpE Z a env st λx st1=>wpE Z b env st1 λy st2=>∃i j,x=.int i/\y=.int j/\Q (.int (if j<i then j else i)) st2
 |.lzip a b=>λenv st Q=>wpE Z a env st λx st1=>wpE Z b env st1 λy st2=>∃xs ys,x=.tup xs/\y=.tup ys/\min xs.length ys.length<=1000000/\∀p,st2 p=AF->Q (.ref p) (b0 st2 p (.lst (J0 xs ys)))
 |.call f es=>λenv st Q=>Z.F f=AD/\u4 Z es env st λds st1=>Z.Phi f ds st1 Q
 |.callw f es=>λenv st Q=>Z.F f=AD/\u4 Z es env st λds st1=>Z.T f ds (λ_=>AF) λd _=>Q d st1
 |.gf f=>λ_ st Q=>Z.F f=AD/\Q (.fn f) st
 |.callx c es=>λenv st Q=>wpE Z c env st λx st1=>∃f,x=.fn f/\Z.F f=AD/\u4 Z es env st1 λds st2=>Z.Phi f ds st2 Q
 |.callv i es=>λenv st Q=>∃x,env[i]?=AA (AA x)/\U1 Z (u4 Z es env) st Q x
 |.gc g=>λ_ st Q=>∃d,Z.Kc g=AA d/\Q d st
 |.isT t a=>λenv st Q=>wpE Z a env st λx st1=>ac2 t x st1 Q
 |.fld a f=>λenv st Q=>wpE Z a env st λx st1=>∃p c fs d,x=.ref p/\st1 p=AA (.ins c fs)/\f∈Z.C c/\fs.lookup f=AA d/\Q d st1
 |.meth a m es=>λenv st Q=>wpE Z a env st λx st1=>∃p c fs,x=.ref p/\st1 p=AA (.ins c fs)/\fs.lookup m=AF/\Z.F (f6 c m)=AD/\u4 Z es env st1 λds st2=>Z.Phi (f6 c m) (.ref p::ds) st2 Q
 |.methd a m es=>λenv st Q=>wpE Z a env st λx st1=>∃p c fs i,x=.ref p/\st1 p=AA (.ins c fs)/\fs.lookup m=AF/\Z.F (f6 c m)=AD/\A0 Z.C (f6 c m)=AA i/\u4 Z es env st1 λds st2=>Z.Phi (f6 c m) (.ref p::(ds++[.int i])) st2 Q
 |.make c es=>λenv st Q=>Z.MF (f6 c "__init__")=AD/\u4 Z es env st λds st1=>∀p,st1 p=AF->Z.Mk (f6 c "__init__") (.ref p::ds) (b0 st1 p (.ins c [])) λv st2=>v=.non/\Q (.ref p) st2
 |.app a b=>λenv st Q=>wpE Z a env st λx st1=>E4 x st1/\wpE Z b env st1 λy st2=>ad4 x y st2 Q
 |.ext a b=>λenv st Q=>wpE Z a env st λx st1=>E4 x st1/\wpE Z b env st1 λy st2=>Y3 x y st2 Q
 |.popAt a b=>λenv st Q=>wpE Z a env st λx st1=>E4 x st1/\wpE Z b env st1 λy st2=>au3 x y st2 Q
 |.pop a=>λenv st Q=>wpE Z a env st λx st1=>ad3 x st1 Q
 |.any a=>λenv st Q=>wpE Z a env st λx st1=>ax3 x st1 Q
 |.dnt=>λenv st Q=>Z.C "!kt"≠[]/\∀p,st p=AF->Q (.ref p) (b0 st p (.dtt []))
 |.dgt a k=>λenv st Q=>wpE Z a env st λx st1=>ax0 x st1/\wpE Z k env st1 λy st2=>ax5 x y st2 Q
 |.din ne k a=>λenv st Q=>wpE Z k env st λy st1=>wpE Z a env st1 λx st2=>U6 ne y x st2 Q
 |.lrev a=>λenv st Q=>wpE Z a env st λx st1=>ac6 x st1 Q
 |.comp _ fr k t it c e=>λenv st Q=>Z.X=AE/\B6 Z it env st λitems chk st1=>items.length<=1000000 /\
   B0 chk t (if c.isNon=AD then λ_ st Q=>Q AD st else λenv st Q=>wpE Z c env st λd st'=>∃b,d=.bl b/\Q b st') (λenv st Q=>wpE Z e env st Q) (λacc st'=>∀p,st' p=AF->Q (.ref p) (b0 st' p (.lst acc))) items [] (S5 fr k env) st1
noncomputable def u4(Z:Sg):Es->DA
 |.nil=>λ_ st Q=>Q [] st
 |.cons e r=>λenv st Q=>wpE Z e env st λd st1=>u4 Z r env st1 λds st2=>Q (d::ds) st2
noncomputable def B6(Z:Sg):It->i9->Sto->ItK->Prop
 |.seq e=>λenv st k=>wpE Z e env st λd st1=>(∃ds,d=.tup ds/\k ds (λ_=>True) st1)\/(∃a ds,d=.ref a/\rdS st1 a ds/\k ds (λst'=>rdS st' a ds) st1)
 |.rng a=>λenv st k=>wpE Z a env st λd st1=>∃j:Int,d=.int j/\(-(2^62)<=j/\j<2^62)/\k (p8 0 j.toNat) (λ_=>True) st1
 |.rng2 a b=>λenv st k=>wpE Z a env st λd st1=>wpE Z b env st1 λe st2=>∃i j:Int,d=.int i/\e=.int j/\(-(2^62)<=i/\i<2^62/\-(2^62)<=j/\j<2^62)/\k (p8 i (j-i).toNat) (λ_=>True) st2
 |.enum e=>λenv st k=>wpE Z e env st λd st1=>(∃ds,d=.tup ds/\k (t9 0 ds) (λ_=>True) st1)\/(∃a ds,d=.ref a/\rdS st1 a ds/\k (t9 0 ds) (λst'=>rdS st' a ds) st1)
 |.revt e=>λenv st k=>wpE Z e env st λd st1=>∃ds,d=.tup ds/\k ds.reverse (λ_=>True) st1
 |.rev e=>λenv st k=>wpE Z e env st λd st1=>∃a ds,d=.ref a/\rdS st1 a ds/\k ds.reverse (λst'=>rdS st' a ds) st1
end
abbrev wpT(Z:Sg)(e:E):DB:=λenv st Q=>wpE Z e env st λd st'=>∃b,d=.bl b/\Q b st'
structure DEnds where
 nx:i9->Sto->Prop
 rt:DK
 bk:i9->Sto->Prop:=λ_ _=>False
 ct:i9->Sto->Prop:=λ_ _=>False
@[reducible]noncomputable def DS:=DEnds->i9->Sto->Prop
abbrev A4(chk:Sto->Prop)(t:Tg)(tb:DS)(F:DEnds):List D->i9->Sto->Prop
 |[],env,st=>chk st/\F.nx env st
 |d::ds,env,st=>chk st/\E9 t d env λenv'=>tb {F with nx:=A4 chk t tb F ds,ct:=A4 chk t tb F ds,bk:=F.nx} env' st
abbrev A8(tc:DB)(tb:DS)(F:DEnds):Nat->i9->Sto->Prop
 |0,_,_=>False
 |n+1,env,st=>tc env st λb st1=>if b=AD then tb {F with nx:=A8 tc tb F n,ct:=A8 tc tb F n,bk:=F.nx} env st1 else F.nx env st1
mutual
noncomputable def wpS(Z:Sg):S->DS
 |.set i e=>λF env st=>wpE Z e env st λd st1=>F.nx (env.set i (AA d)) st1
 |.pre i=>λF env st=>∀p,st p=AF->F.nx (env.set i (AA (.ref p))) (b0 st p (.dct []))
 |.iput o i v=>λF env st=>wpE Z v env st λd st1=>wpE Z o env st1 λx st2=>wpE Z i env st2 λy st3=>aw2 x y d st3 λst4=>F.nx env st4
 |.dput o i v=>λF env st=>wpE Z v env st λd st1=>wpE Z o env st1 λx st2=>wpE Z i env st2 λy st3=>av7 x y d st3 λst4=>F.nx env st4
 |.put o i v=>λF env st=>wpE Z v env st λd st1=>wpE Z o env st1 λx st2=>wpE Z i env st2 λy st3=>
   ∃a j k ds,x=.ref a/\y=.int j/\st3 a=AA (.lst ds)/\ixN ds.length j=AA k/\F.nx env (b0 st3 a (.lst (ds.set k d)))
 |.fldS o f v=>λF env st=>wpE Z v env st λd st1=>wpE Z o env st1 λx st2=>∃p c fs,x=.ref p/\st2 p=AA (.ins c fs)/\f∈Z.C c/\fs.length<1000/\F.nx env (b0 st2 p (.ins c (j9 f d fs)))
 |.unp is e=>λF env st=>wpE Z e env st λd st1=>E9 (.tup is) d env λenv'=>F.nx env' st1
 |.ex e=>λF env st=>wpE Z e env st λ_ st1=>F.nx env st1
 |.iff c a b=>λF env st=>wpT Z c env st λk st1=>if k=AD then j7 Z a F env st1 else j7 Z b F env st1
 |.ret e=>λF env st=>wpE Z e env st F.rt
 |.retN=>λF _ st=>F.rt .non st
 |.for t it b=>λF env st=>B6 Z it env st λitems chk st1=>A4 chk t (j7 Z b) F items env st1
 |.while c b=>λF env st=>∃n,A8 (wpT Z c) (j7 Z b) F n env st
 |.tr c=>λF env st=>Z.X=AE/\wpT Z c env st λk st1=>if k=AD then F.rt (.bl AE) st1 else F.nx env st1
 |.raise=>λ_ _ _=>Z.X=AD/\Z.C "!ix"≠[]
 |.cont=>λF env st=>F.ct env st
 |.dead=>λ_ _ _=>False
 |.pass=>λF env st=>F.nx env st
 |.dfn i np N cp b=>λF env st=>∃cs,O4 env cp=AA cs/\F.nx (env.set i (AA (.clo np N b cs))) st
noncomputable def j7(Z:Sg):Ss->DS
 |.nil=>λF env st=>F.nx env st
 |.cons s r=>λF env st=>wpS Z s {F with nx:=j7 Z r F} env st
end
@[reducible]noncomputable def S0:Sto:=λ_=>AF
abbrev wkR(Z:Sg):E->i9->Sto->DK->Prop
 |.call f es=>λenv st Q=>Z.F f=AD/\u4 Z es env st λds st1=>Z.T f ds st1 Q
 |_=>λ_ _ _=>False
abbrev wkE(Z Zr:Sg):S->i9->Sto->DK->Prop
 |.tr c=>λenv st Q=>Z.C "!ix"≠[]/\wpT Zr c env st (λk _=>k=AD)/\Q (.bl AE) S0
 |.ret e=>wkR Z e
 |_=>λ_ _ _=>False
abbrev R3(Z Zr:Sg):Ss->i9->Sto->DK->Prop
 |.nil=>λ_ _ _=>False
 |.cons s r=>λenv st Q=>wpS Z s {nx:=λenv' st'=>R3 Z Zr r env' st' Q,rt:=λd _=>Q d S0} env st\/wkE Z Zr s env st Q
structure Def where
 np:Nat
 N:List Str
 body:Ss
@[reducible]noncomputable def f9:=Str->Option Def
variable{P:f9}
abbrev G3(f:Def)(ds:List D):i9:=ds.map AA++Al (f.N.length-ds.length) AF
structure Gs where
 tab:Str->List (Str×D)
 cls:Str->List Str
 cst:Str->Option D
variable{G:Gs}
abbrev ac8(P:f9)(G:Gs)(X:Bool)(lt lo lo2:Str->Spec)(po:Bool)(lc:Nat->List Str->Ss->List D->Spec)(f:Str):Spec:=λds st Q=>∃fd,P f=AA fd/\ds.length=fd.np/\j7 {λf=>(P f).isSome,lo,G.tab,G.cls,lo2,λf=>po&&(P f).isSome,lc,G.cst,X,lt} fd.body
   {nx:=λ_ st'=>∃s2,Sub s2 st'/\Q .non s2,rt:=λd st'=>∃s2,Sub s2 st'/\Q d s2} (G3 fd ds) st
abbrev G4(N:List Str)(ds cs:List D):i9:=(ds++cs).map AA++Al (N.length-(ds++cs).length) AF
abbrev ah9(P:f9)(G:Gs)(X:Bool)(lt lo lo2:Str->Spec)(po:Bool)(lc:Nat->List Str->Ss->List D->Spec)(np:Nat)(N:List Str)(b:Ss)(cs:List D):Spec:=λds st Q=>ds.length=np/\j7 {λf=>(P f).isSome,lo,G.tab,G.cls,lo2,λf=>po&&(P f).isSome,lc,G.cst,X,lt} b
   {nx:=λ_ st'=>∃s2,Sub s2 st'/\Q .non s2,rt:=λd st'=>∃s2,Sub s2 st'/\Q d s2} (G4 N ds cs) st
abbrev orF(a b:Str->Spec):Str->Spec:=λf ds st Q=>a f ds st Q\/b f ds st Q
abbrev orC(a b:Nat->List Str->Ss->List D->Spec):Nat->List Str->Ss->List D->Spec:=λnp N s cs ds st Q=>a np N s cs ds st Q\/b np N s cs ds st Q
structure SLv where
 s:Str->Spec
 mf:Str->Spec
 po:Bool
 c:Nat->List Str->Ss->List D->Spec
 r:Str->Spec
 rc:Nat->List Str->Ss->List D->Spec
 w:Str->Spec
abbrev Ss.isPre:Ss->Bool
 |.cons (.pre _) _=>AD
 |_=>AE
abbrev dh4(P:f9)(G:Gs)(lw lr lo lo2:Str->Spec)(po:Bool)(lc lrc:Nat->List Str->Ss->List D->Spec)(f:Str):Spec:=λds st Q=>∃fd,P f=AA fd/\ds.length=fd.np/\fd.body.isPre=AE /\
 R3 {λf=>(P f).isSome,lo,G.tab,G.cls,lo2,λf=>po&&(P f).isSome,lc,G.cst,AE,lw} {λf=>(P f).isSome,orF lr lo,G.tab,G.cls,lo2,λf=>po&&(P f).isSome,orC lrc lc,G.cst,AD,lw} fd.body (G3 fd ds) st Q
abbrev frg(a:Str->Spec):Str->Spec:=λf ds st Q=>a f ds st λd _=>Q d S0
abbrev z5(P:f9)(G:Gs):Nat->SLv
 |0=>{λ_ _ _ _=>False,λ_ _ _ _=>False,AE,λ_ _ _ _ _ _ _=>False,λ_ _ _ _=>False,λ_ _ _ _ _ _ _=>False,λ_ _ _ _=>False}
 |n+1=>let L:=z5 P G n
  {ac8 P G AE L.w L.s L.mf L.po L.c,L.s,AD,ah9 P G AE L.w L.s L.mf L.po L.c,ac8 P G AD L.w (orF L.r L.s) L.mf L.po (orC L.rc L.c),ah9 P G AD L.w (orF L.r L.s) L.mf L.po (orC L.rc L.c),
   orF (frg (ac8 P G AE L.w L.s L.mf L.po L.c)) (dh4 P G L.w L.r L.s L.mf L.po L.c L.rc)}
abbrev sem(P:f9)(G:Gs)(n:Nat):Str->Spec:=(z5 P G n).s
abbrev F7(P:f9)(G:Gs)(n:Nat):Nat->List Str->Ss->List D->Spec:=(z5 P G n).c
abbrev J5(P:f9)(G:Gs)(n:Nat):Str->Spec:=(z5 P G n).r
abbrev T4(P:f9)(G:Gs)(n:Nat):Nat->List Str->Ss->List D->Spec:=(z5 P G n).rc
abbrev D2(P:f9)(G:Gs)(n:Nat):Str->Spec:=(z5 P G n).w
def ca5:sem P G (n+1)=ac8 P G AE (D2 P G n) (sem P G n) (z5 P G n).mf (z5 P G n).po (F7 P G n):=rfl
def b25:F7 P G (n+1)=ah9 P G AE (D2 P G n) (sem P G n) (z5 P G n).mf (z5 P G n).po (F7 P G n):=rfl
def b12:J5 P G (n+1)=ac8 P G AD (D2 P G n) (orF (J5 P G n) (sem P G n)) (z5 P G n).mf (z5 P G n).po (orC (T4 P G n) (F7 P G n)):=rfl
def bw7:T4 P G (n+1)=ah9 P G AD (D2 P G n) (orF (J5 P G n) (sem P G n)) (z5 P G n).mf (z5 P G n).po (orC (T4 P G n) (F7 P G n)):=rfl
abbrev J4:Bool->f9->Gs->Nat->Str->Spec
 |true,P,G,n=>J5 P G n
 |false,P,G,n=>sem P G n
abbrev ab7:Bool->f9->Gs->Nat->Nat->List Str->Ss->List D->Spec
 |true,P,G,n=>T4 P G n
 |false,P,G,n=>F7 P G n
abbrev pF:Bool->f9->Gs->Nat->Str->Spec
 |true,P,G,n=>orF (J5 P G n) (sem P G n)
 |false,P,G,n=>sem P G n
abbrev pC:Bool->f9->Gs->Nat->Nat->List Str->Ss->List D->Spec
 |true,P,G,n=>orC (T4 P G n) (F7 P G n)
 |false,P,G,n=>F7 P G n
@[reducible]noncomputable def Zl(bX:Bool)(P:f9)(G:Gs)(n:Nat):Sg:={λf=>(P f).isSome,pF bX P G n,G.tab,G.cls,(z5 P G n).mf,λf=>(z5 P G n).po&&(P f).isSome,pC bX P G n,G.cst,bX,D2 P G n}
def bz3:D2 P G (n+1)=orF (frg (sem P G (n+1))) λf ds st Q=>∃fd,P f=AA fd/\ds.length=fd.np/\fd.body.isPre=AE/\R3 (Zl AE P G n) (Zl AD P G n) fd.body (G3 fd ds) st Q:=rfl
end
section
class Tbs where
 ps:List AI
 mt:Ss->BE->List Str->Dp->Prop
 kt:Bool
variable{H:Hp}{a p:AI}{xs vs:List V}{v:V}{ds:List D}{o:HO}{σ:L2.St}{st:Sto}{kvs:List (Ak×D)}{ob:Ob}{X:Cx}{x:AT}{Qd:DK}{Q:VK}
structure FnScC(N P:List Str)(sc:BE):Prop where
 kind:sc.kind=.function
 co:sc.isCoroutine=AE
 gen:sc.isGenerator=AE
 nd:N.Nodup
 pre:N.take P.length=P
 par:∀x∈P,sc.names.lookup x=AA .local
 nocell:∀y∈sc.names,y.2≠.cell
 fre:∀y∈sc.names,y.2=.free->sc.names.lookup y.1=AA .free
abbrev G7(H:Hp)(cv:AG):Prop:=∃c o u vs q t,cv=.ref c/\H c=AA (.frz o u)/\(∀vs,u≠.lst vs)/\o.data=.fields vs/\vs[1]?=AA (.str q t)
variable [Tbs]
structure CloF(fd:BS)(np:Nat)(N ps:List Str)(b:Ss):Prop where
 sc:FnScC N ps fd.scope
 np:ps.length=np
 mt:Tbs.mt b fd.scope N fd.body
 bind:∀us:List AG,us.length=ps.length->Ef fd {us,[]}=pure (ps.zip us)
 gl:fd.globals=AN
 bl:fd.builtins=Cb
 has:∀x,(x,BC)∈fd.scope.names->∃c,fd.closure.lookup x=AA c
 fre:∀x c,fd.closure.lookup x=AA c->(x,BC)∈fd.scope.names
 inj:∀x y c,fd.closure.lookup x=AA c->fd.closure.lookup y=AA c->x=y
structure CloR(H:Hp)(f:AI)(fd:BS)(np:Nat)(N:List Str)(us:List V):Prop where
 ex:∃o u,H f=AA (.frz o u)/\(∀vs,u≠.lst vs)/\o.data=.func fd
 cd:G7 H fd.code
 cl:∀x c,fd.closure.lookup x=AA c->∃o' u' w,H c=AA (.frz o' u')/\(∀vs,u'≠.lst vs)/\o'.data=.cell (AA w)
 at':∀(i:Nat)v,us[i]?=AA v->∃x c o' u' w,N[np+i]?=AA x/\fd.closure.lookup x=AA c/\H c=AA (.frz o' u')/\(∀vs,u'≠.lst vs)/\o'.data=.cell (AA w)/\i7 v w
abbrev R0(H:Hp)(f:AI)(np:Nat)(N:List Str)(b:Ss)(us:List V):Prop:=∃fd ps,CloF fd np N ps b/\CloR H f fd np N us
abbrev SqX(K:AO)(H:Hp)(a:AI)(xs:List V):Prop:=H a=AA (.tup xs)\/(Tbs.kt=AD/\SqT K H a xs)
def SqX.sqt{K}(h:SqX K H a xs):=h.elim (λh=>.inl (.inl h)) λh=>h.2
def SqX.of{K:AO}(h:H a=AA (.tup xs)):SqX K H a xs:=.inl h
def SqX.trk{K}(b:Tbs.kt=AE)(h:SqX K H a xs):=h.elim (λh=>h) λh=>by simp_all
inductive IsD(K:AO)(H:Hp):D->V->Prop where
 |non:IsD K H .non .non
 |bl (b:Bool):IsD K H (.bl b) (.bl b)
 |int (i:Int):IsD K H (.int i) (.int i)
 |str (x:Str):IsD K H (.str x) (.str x)
 |ref (a:AI):IsD K H (.ref a) (.ref a)
 |fn {f:Str} {a:AI}:Av K AN f=AA (AA (.ref a))->IsD K H (.fn f) (.ref a)
 |clo {f:AI} {np:Nat} {N:List Str} {b:Ss} {ds:List D} {us:List V}:R0 H f np N b us->ds.length=us.length->(∀(i:Nat)d v,ds[i]?=AA d->us[i]?=AA v->IsD K H d v)->IsD K H (.clo np N b ds) (.ref f)
 |tup {a:AI} {ds:List D} {vs:List V}:SqX K H a vs->ds.length=vs.length->(∀(i:Nat)d v,ds[i]?=AA d->vs[i]?=AA v->IsD K H d v)->IsD K H (.tup ds) (.ref a)
 |ktup {a:AI} {ks:List Key}:SqT K (λ_=>AF) a (ks.map kV)->D.pures (ks.map kD)=AD->IsD K H (.ktup ks) (.ref a)
structure IsDs(K:AO)(H:Hp)(ds:List D)(vs:List V):Prop where
 len:ds.length=vs.length
 at':∀(i:Nat)d v,ds[i]?=AA d->vs[i]?=AA v->IsD K H d v
section
variable {K:AO} {H' H2:Hp} {d:D} {es:List D} {ws:List V}
def IsD.mk(h:SqX K H a vs)(r:IsDs K H ds vs):IsD K H (.tup ds) (.ref a):=.tup h r.len r.at'
def IsD.tup_invX(h:IsD K H (.tup ds) v):∃a vs,v=.ref a/\SqX K H a vs/\IsDs K H ds vs:=by
 cases h with
 |tup a b c=>show⟨_,_,rfl,a,b,c⟩
def IsD.tup_inv(h:IsD K H (.tup ds) v):∃a vs,v=.ref a/\SqT K H a vs/\IsDs K H ds vs:=let⟨a,vs,e,q,r⟩:=h.tup_invX;⟨a,vs,e,q.sqt,r⟩
def IsDs.nil:IsDs K H [] []:={rfl,λi d v h=>by simp at h}
def IsDs.cons(h:IsD K H d v)(r:IsDs K H ds vs):IsDs K H (d::ds) (v::vs):={by simp[r.len],λi e w h1 h2=>by
 cases i with
 |zero=>simp_all
 |succ i=>show r.at' i e w (by simpa using h1) (by simpa using h2)}
def IsDs.get(r:IsDs K H ds vs){i:Nat}{d}(h:ds[i]?=AA d):∃v,vs[i]?=AA v/\IsD K H d v:=by
 have hi:=(AY.mp h).1;rw[r.len]at hi;show{vs[i],AJ hi,r.at' i d _ h (AJ hi)}
def IsDs.get'(r:IsDs K H ds vs){i:Nat}(h:vs[i]?=AA v):∃d,ds[i]?=AA d/\IsD K H d v:=by
 have hi:=(AY.mp h).1;rw[<-r.len]at hi;show{ds[i],AJ hi,r.at' i _ v (AJ hi) h}
def IsDs.inv_cons{d}(r:IsDs K H (d::ds) vs):∃v a,vs=v::a/\IsD K H d v/\IsDs K H ds a:=by
 cases vs with
 |nil=>have:=r.len;simp at this
 |cons v a=>show⟨v,a,rfl,r.at' 0 d v rfl rfl,by have:=r.len;simpa using this,λi e w h1 h2=>r.at' (i+1) e w (by simpa using h1) (by simpa using h2)⟩
def IsDs.inv_nil(r:IsDs K H [] vs):vs=[]:=by
 cases vs with
 |nil=>rfl
 |cons v c=>have:=r.len;simp at this
def IsDs.append(r:IsDs K H ds vs)(q:IsDs K H es ws):IsDs K H (ds++es) (vs++ws):={by simp[r.len,q.len],λi d v h1 h2=>by
 by_cases hi:i<ds.length
 ·rw[Ab hi]at h1;rw[Ab (r.len▸hi)]at h2;show r.at' i d v h1 h2
 ·rw[Af ⋯]at h1;rw[Af (by rw[<-r.len];lia),<-r.len]at h2;show q.at' _ d v h1 h2}
theorem IsDs.drop(r:IsDs K H ds vs)n:IsDs K H (ds.drop n) (vs.drop n):={by simp[r.len],λi d v h1 h2=>by
 rw[List.getElem?_drop]at h1 h2;show r.at' _ d v h1 h2}
theorem IsDs.take(r:IsDs K H ds vs)n:IsDs K H (ds.take n) (vs.take n):={by simp[r.len],λi d v h1 h2=>by
 rw[List.getElem?_take]at h1 h2
 split at h1
 ·rename_i hi;rw[if_pos hi]at h2;show r.at' _ d v h1 h2
 ·cases h1}
theorem IsDs.set(r:IsDs K H ds vs)(h:IsD K H d v)n:IsDs K H (ds.set n d) (vs.set n v):={by simp[r.len],λi e w h1 h2=>by
 rw[GQ]at h1 h2
 by_cases hi:n=i
 ·simp_all
 ·rw[if_neg hi]at h1 h2;show r.at' i e w h1 h2}
theorem IsDs.erase:∀{a}{vs}(r:IsDs K H a vs)n,IsDs K H (a.eraseIdx n) (vs.eraseIdx n)
 |[],vs,r,n=>by rw[r.inv_nil];simpa using IsDs.nil
 |d::a,vs,r,n=>by
  let{v,g,rfl,f,e}:=r.inv_cons;cases n with
  |zero=>simp_all
  |succ n=>simpa using IsDs.cons f (IsDs.erase e n)
theorem IsDs.rev:∀{a}{vs}(r:IsDs K H a vs),IsDs K H a.reverse vs.reverse
 |[],vs,r=>r.inv_nil▸IsDs.nil
 |d::a,vs,r=>by
  let{v,e,rfl,c,b}:=r.inv_cons;rw[Dn,Dn];show(IsDs.rev b).append (IsDs.cons c IsDs.nil)
abbrev TK(K:AO)(H H':Hp):Prop:=((∀a xs,SqT K H a xs->SqT K H' a xs)/\∀a xs,H a=AA (.tup xs)->H' a=AA (.tup xs))/\∀a o u,H a=AA (.frz o u)->(∀vs,u≠.lst vs)->H' a=AA (.frz o u)
def SqX.keep(h:SqX K H a xs)(k:TK K H H'):SqX K H' a xs:=h.elim (λh=>.inl (k.1.2 _ _ h)) λh=>.inr {h.1,k.1.1 _ _ h.2}
def TK.refl:TK K H H:={{λ_ _ h=>h,λ_ _ h=>h},λ_ _ _ h _=>h}
def TK.trans(a:TK K H H')(b:TK K H' H2):TK K H H2:={{λc xs h=>b.1.1 c xs (a.1.1 c xs h),λc xs h=>b.1.2 c xs (a.1.2 c xs h)},λc o u h n=>b.2 c o u (a.2 c o u h n) n}
def TK.upd'(h:∀c,H p≠AA (.tup c))(e:∀o u,H p≠AA (.frz o u)):TK K H (upd H p o):=⟨⟨λa c q=>by
 rcases q with(q|⟨d,q⟩)|q
 ·show .inl (.inl (by have b:a≠p:=(λz=>h c (z▸q));rwa[j6 b]))
 ·show .inl (.inr ⟨d,by have b:a≠p:=(λz=>e _ _ (z▸q));rwa[j6 b]⟩)
 ·show .inr q,λa c q=>by have b:a≠p:=(λz=>h c (z▸q));rwa[j6 b]⟩,λa d u q n=>by have b:a≠p:=(λz=>e _ _ (z▸q));rwa[j6 b]⟩
def TK.new(h:H p=AF):TK K H (upd H p o):=TK.upd' (by simp_all) (by grind)
def TK.putI{C dx}{xs}(h:H p=AA (.ins C dx xs)):TK K H (upd H p o):=TK.upd' (by simp_all) (by grind)
def TK.put(h:H p=AA (.lst xs)):TK K H (upd H p o):=TK.upd' (by simp_all) (by grind)
def G7.mono{cv}(h:G7 H cv)(k:TK K H H'):G7 H' cv:=let⟨c,o,u,vs,q,t,e,d,a,b⟩:=h;{c,o,u,vs,q,t,e,k.2 _ _ _ d a,a,b}
theorem CloR.mono{f}{fd}{np}{N}{us}(h:CloR H f fd np N us)(k:TK K H H'):CloR H' f fd np N us:=by
 let{{o,u,q,g,p},n,m,l}:=h;apply{{o,u,k.2 _ _ _ q g,g,p},n.mono k,λx c hx=>?_,λi v hv=>?_}
 ·let{e,d,w,a,b,c}:=m x c hx;show{e,d,w,k.2 _ _ _ a b,b,c}
 ·let{x,c,e,d,w,y,t,s,j,r}:=l i v hv;show{x,c,e,d,w,y,t,k.2 _ _ _ s j,j,r}
theorem R0.mono{f}{np}{N}{b}{us}(h:R0 H f np N b us)(k:TK K H H'):R0 H' f np N b us:=let⟨fd,c,a,b⟩:=h;{fd,c,a,b.mono k}
theorem IsD.mono(h:IsD K H d v)(k:TK K H H'):IsD K H' d v:=by
 induction h with
 |non=>show .non
 |bl b=>show .bl b
 |int i=>show .int i
 |str x=>show .str x
 |ref a=>show .ref a
 |ktup h n=>show .ktup h n
 |fn h=>show .fn h
 |clo a b _ c=>show .clo (a.mono k) b c
 |tup a b _ c=>show .tup (a.keep k) b c
theorem IsDs.mono(h:IsDs K H ds vs)(k:TK K H H'):IsDs K H' ds vs:={h.len,λi d v a b=>(h.at' i d v a b).mono k}
structure RelE(K:AO)(H:Hp)(env:i9)(σ:L2.St):Prop where
 len:env.length=σ.length
 at':∀(i:Nat)d,env[i]?=AA (AA d)->∃v,σ[i]?=AA (AA v)/\IsD K H d v
variable {env:i9} {st':Sto}
theorem RelE.mono(r:RelE K H env σ)(k:TK K H H'):RelE K H' env σ:=⟨r.len,λi d h=>let⟨v,a,b⟩:=r.at' i d h;{v,a,b.mono k}⟩
theorem RelE.set(r:RelE K H env σ)(h:IsD K H d v)i:RelE K H (env.set i (AA d)) (σ.set i (AA v)):={by simp[r.len],λj e q=>by
 rw[GQ]at q ⊢
 by_cases hi:i=j
 ·rw[if_pos hi]at q ⊢
  split at q
  ·rename_i a;rw[<-r.len,if_pos a];cases q;show⟨v,rfl,h⟩
  ·cases q
 ·rw[if_neg hi]at q ⊢;show r.at' j e q}
structure IsKs(K:AO)(H:Hp)(kvs:List (Key×D))(vs:List (Key×V)):Prop where
 ks:kvs.map (·.1)=vs.map (·.1)
 ds:IsDs K H (kvs.map (·.2)) (vs.map (·.2))
theorem IsKs.mono{kvs}{vs}(h:IsKs K H kvs vs)(k:TK K H H'):IsKs K H' kvs vs:={h.ks,h.ds.mono k}
theorem IsKs.inv_cons{e}{kvs}{vs}(h:IsKs K H (e::kvs) vs):∃v a,vs=(e.1,v)::a/\IsD K H e.2 v/\IsKs K H kvs a:=by
 cases vs with
 |nil=>have:=h.ks;simp at this
 |cons f a=>
  let{k,v}:=f;have b:=h.ks;simp at b;have m:=h.ds;let{n,g,c,l,j}:=m.inv_cons;simp at c;let{rfl,rfl}:=c;show{v,a,by rw[b.1],l,b.2,j}
theorem IsKs.look:∀{a}{vs}(h:IsKs K H a vs)k,F5 a k=AF/\v4 vs k=AF\/∃d v,F5 a k=AA d/\v4 vs k=AA v/\IsD K H d v
 |[],vs,h,k=>by
  have:=by have:=h.ks;simpa using this.symm
  subst this;show .inl ⟨rfl,rfl⟩
 |e::a,vs,h,k=>by
  let{v,f,rfl,g,b}:=h.inv_cons;unfold F5 v4;rw[CH,CH]
  by_cases c:e.1=k
  ·simp_all
  ·erw[c,decide_false];show IsKs.look b k
structure IsPs(K:AO)(H:Hp)(kvs:List (Ak×D))(vs:List (Ak×V)):Prop where
 ks:kvs.map (·.1)=vs.map (·.1)
 ds:IsDs K H (kvs.map (·.2)) (vs.map (·.2))
theorem IsPs.nil:IsPs K H [] []:={rfl,.nil}
theorem IsPs.mono{vs}(h:IsPs K H kvs vs)(k:TK K H H'):IsPs K H' kvs vs:={h.ks,h.ds.mono k}
theorem IsPs.inv_cons{e}{vs}(h:IsPs K H (e::kvs) vs):∃v a,vs=(e.1,v)::a/\IsD K H e.2 v/\IsPs K H kvs a:=by
 cases vs with
 |nil=>have:=h.ks;simp at this
 |cons f a=>
  let{k,v}:=f;have b:=h.ks;simp at b;have m:=h.ds;let{n,g,c,l,j}:=m.inv_cons;simp at c;let{rfl,rfl}:=c;show{v,a,by rw[b.1],l,b.2,j}
theorem IsPs.cons{k}{d}{vs}(i:IsD K H d v)(h:IsPs K H kvs vs):IsPs K H ((k,d)::kvs) ((k,v)::vs):={by simp[h.ks],by simpa using IsDs.cons i h.ds}
theorem IsPs.look:∀{a}{vs}(h:IsPs K H a vs)k,E2 a k=AF/\v4 vs k=AF\/∃d v,E2 a k=AA d/\v4 vs k=AA v/\IsD K H d v
 |[],vs,h,k=>by
  have:=by have:=h.ks;simpa using this.symm
  subst this;show .inl ⟨rfl,rfl⟩
 |e::a,vs,h,k=>by
  let{v,f,rfl,g,b}:=h.inv_cons;unfold E2 v4;rw[CH,CH]
  by_cases c:e.1=k
  ·simp_all
  ·erw[c,decide_false];show IsPs.look b k
theorem IsPs.any:∀{a}{vs}(h:IsPs K H a vs)k,(a.any λkv=>AB (kv.1=k))=vs.any λkv=>AB (kv.1=k)
 |[],vs,h,k=>by
  have:=by have:=h.ks;simpa using this.symm
  subst this;rfl
 |e::a,vs,h,k=>by
  let{v,c,rfl,d,b}:=h.inv_cons;rw[HC,HC,IsPs.any b k]
theorem IsPs.repl{d}(i:IsD K H d v)k:∀{a}{vs}(h:IsPs K H a vs),IsPs K H (a.map λkv=>if kv.1=k then(kv.1,d)else kv) (vs.map λkv=>if kv.1=k then(kv.1,v)else kv)
 |[],vs,h=>by
  have:=by have:=h.ks;simpa using this.symm
  subst this;show .nil
 |e::a,vs,h=>by
  let{u,g,rfl,f,c}:=h.inv_cons;let{x,y}:=e;rw[Au,Au];by_cases b:x=k
  ·rw[if_pos b,if_pos b];show IsPs.cons i (IsPs.repl i k c)
  ·rw[if_neg b,if_neg b];show IsPs.cons f (IsPs.repl i k c)
theorem IsPs.snoc{d}(i:IsD K H d v)k:∀{a}{vs}(h:IsPs K H a vs),IsPs K H (a++[(k,d)]) (vs++[(k,v)])
 |[],vs,h=>by
  have:=by have:=h.ks;simpa using this.symm
  subst this;show IsPs.cons i .nil
 |e::a,vs,h=>by
  let{u,f,rfl,c,b}:=h.inv_cons;show IsPs.cons c (IsPs.snoc i k b)
def IsPs.put{vs}(h:IsPs K H kvs vs){d}(i:IsD K H d v)k:IsPs K H (Y2 kvs k d) (C6 vs k v):=by
 unfold Y2 C6;rw[h.any k]
 by_cases q:(vs.any λkv=>AB (kv.1=k))=AD
 ·rw[if_pos q,if_pos q];show IsPs.repl i k h
 ·rw[if_neg q,if_neg q];show IsPs.snoc i k h
def IsPs.len{vs}(h:IsPs K H kvs vs):=by
 have:=congrArg Cf h.ks;simpa using this
structure IsFs(K:AO)(H:Hp)(fs:List (Str×D))(vs:List (Str×V)):Prop where
 ks:fs.map (·.1)=vs.map (·.1)
 ds:IsDs K H (fs.map (·.2)) (vs.map (·.2))
theorem IsFs.nil:IsFs K H [] []:={rfl,.nil}
theorem IsFs.mono{fs}{vs}(h:IsFs K H fs vs)(k:TK K H H'):IsFs K H' fs vs:={h.ks,h.ds.mono k}
theorem IsFs.inv_cons{e}{fs}{vs}(h:IsFs K H (e::fs) vs):∃v a,vs=(e.1,v)::a/\IsD K H e.2 v/\IsFs K H fs a:=by
 cases vs with
 |nil=>have:=h.ks;simp at this
 |cons f a=>
  let{k,v}:=f;have b:=h.ks;simp at b;have m:=h.ds;let{n,g,c,l,j}:=m.inv_cons;simp at c;let{rfl,rfl}:=c;show{v,a,by rw[b.1],l,b.2,j}
theorem IsFs.cons{k}{d}{fs}{vs}(h:IsD K H d v)(r:IsFs K H fs vs):IsFs K H ((k,d)::fs) ((k,v)::vs):={by erw[Au,r.ks],(.cons h r.ds)}
theorem IsFs.length{fs}{vs}(h:IsFs K H fs vs):fs.length=vs.length:=by simpa using h.ds.len
theorem IsFs.look:∀{a}{vs}(h:IsFs K H a vs)k,(a.lookup k=AF/\vs.lookup k=AF)\/∃d v,a.lookup k=AA d/\vs.lookup k=AA v/\IsD K H d v
 |[],vs,h,k=>by
  have:=by have:=h.ks;simpa using this.symm
  subst this;show .inl ⟨rfl,rfl⟩
 |e::a,vs,h,k=>by
  let{v,f,rfl,c,b}:=h.inv_cons;let{g,d}:=e;rw[EG,EG];cases hk:k==g with
  |true=>show .inr ⟨d,v,rfl,rfl,c⟩
  |false=>show IsFs.look b k
theorem IsFs.put:∀{b}{vs}(h:IsFs K H b vs){d}{v}(i:IsD K H d v)f,IsFs K H (j9 f d b) (A5 f v vs)
 |[],vs,h,d,v,i,f=>by
  have:=by have:=h.ks;simpa using this.symm
  subst this;show .cons i .nil
 |e::b,vs,h,d,v,i,f=>by
  let{w,k,rfl,j,c}:=h.inv_cons;let{g,x}:=e;unfold j9 A5
  by_cases a:g=f
  ·rw[if_pos a,if_pos a];show .cons i c
  ·rw[if_neg a,if_neg a];show .cons j (IsFs.put c i f)
abbrev ObR(K:AO)(H:Hp)(a:AI):Ob->Prop
 |.lst ds=>∃vs,H a=AA (.lst vs)/\IsDs K H ds vs
 |.fro ds=>∃vs,Rd H a (.lst vs)/\IsDs K H ds vs
 |.dct kvs=>∃vs,H a=AA (.dK vs)/\IsKs K H kvs vs
 |.dtt kvs=>∃vs,H a=AA (.dT vs)/\IsPs K H kvs vs/\Tbs.kt=AE
 |.ins c fs=>∃C dx vs,H a=AA (.ins C dx vs)/\Av K AN c=AA (AA (.ref C))/\IsFs K H fs vs
structure TabOk(H:Hp)(ps:Array AG):Prop where
 tr:EY ps.toList
 co:∀pos cv,GR pos ps.toList=AA cv->G7 H cv
abbrev A9(H:Hp):Prop:=∀P∈Tbs.ps,∃ps,H P=AA (.tbl ps)/\TabOk H ps
def A9.stay(h:A9 H)(k:TK K H H')(t:∀a b,H a=AA (.tbl b)->H' a=AA (.tbl b)):A9 H':=λP hP=>by
 let{b,e,o}:=h P hP;show{b,t P b e,o.tr,λpos cv hc=>(o.co pos cv hc).mono k}
structure RelS(K:AO)(st:Sto)(H:Hp):Prop where
 ob:∀a o,st a=AA o->ObR K H a o
 tb:A9 H
def RelS.free(r:RelS K st H)(h:H p=AF):st p=AF:=by
 cases q:st p with
 |none=>rfl
 |some o=>
  have z:=r.ob p o q;cases o with
  |lst i=>let{vs,a,_}:=z;rw[h]at a;cases a
  |fro i=>
   obtain⟨vs,a|⟨k,a⟩,_⟩:=z
   ·simp_all
   ·simp_all
  |dct b=>let{vs,a,_}:=z;rw[h]at a;cases a
  |dtt b=>let{vs,a,_}:=z;rw[h]at a;cases a
  |ins c l=>let{C,m,vs,a,_}:=z;rw[h]at a;cases a
def RelS.sub(r:RelS K st' H)(s:Sub st st'):RelS K st H:={λa o h=>r.ob a o (s a o h),r.tb}
def ObR.stay{o}(z:ObR K H a o)(k:TK K H H')(e:H' a=H a):ObR K H' a o:=by
 cases o with
 |lst l=>let{vs,q,w}:=z;show{vs,e▸q,w.mono k}
 |fro l=>
  obtain⟨vs,q|⟨d,q⟩,w⟩:=z
  ·show{vs,.inl (e▸q),w.mono k}
  ·show{vs,.inr {d,e▸q},w.mono k}
 |dct b=>let{vs,q,w}:=z;show{vs,e▸q,w.mono k}
 |dtt b=>let{vs,q,w,t}:=z;show{vs,e▸q,w.mono k,t}
 |ins c p=>let{C,i,vs,q,n,w}:=z;show{C,i,vs,e▸q,n,w.mono k}
theorem RelS.stay(r:RelS K st H)(k:TK K H H')(c:∀a o,st a=AA o->H' a=H a)(t:∀a b,H a=AA (.tbl b)->H' a=AA (.tbl b)):RelS K st H':={λa o h=>(r.ob a o h).stay k (c a o h),r.tb.stay k t}
def as9(h:∀b,H p≠AA (.tbl b)):∀a b,H a=AA (.tbl b)->upd H p o a=AA (.tbl b):=λa b e=>by
 have c:a≠p:=λz=>h b ((z▸e));rwa[j6 c]
def b47(h:H p=AF):∀a b,H a=AA (.tbl b)->upd H p o a=AA (.tbl b):=as9 (by grind)
theorem RelS.new(r:RelS K st H)(h:H p=AF):RelS K st (upd H p o):=r.stay (TK.new h) (λa u e=>j6 λz=>by
 rw[z,r.free h]at e;cases e) (b47 h)
def RelS.putAny(r:RelS K st H){o'}(tk:TK K H (upd H p o'))(w:ObR K (upd H p o') p ob)(t:∀g,H p≠AA (.tbl g)):RelS K (b0 st p ob) (upd H p o'):=by
 have f:RelS K (λb=>if b=p then AF else st b) H:={λb u q=>by
  split at q
  ·cases q
  ·show r.ob b u q,r.tb}
 have d:=f.stay tk (λb u q=>j6 λz=>by
  grind) (as9 t)
 apply{λa o e=>?_,d.tb}
 by_cases c:a=p
 ·subst c;rw[f8]at e;cases e;show w
 ·rw[G0 c]at e;show d.ob a o (by rwa[if_neg c])
def RelS.putNew(r:RelS K st H)(h:H p=AF)(w:IsDs K H ds vs):RelS K (b0 st p (.lst ds)) (upd H p (.lst vs)):=
 r.putAny (TK.new h) {vs,t4,w.mono (TK.new h)} (by simp_all)
def RelS.putNewD(r:RelS K st H){kvs}{ks}(h:H p=AF)(w:IsKs K H kvs ks):RelS K (b0 st p (.dct kvs)) (upd H p (.dK ks)):=
 r.putAny (TK.new h) {ks,t4,w.mono (TK.new h)} (by simp_all)
def RelS.putOld(r:RelS K st H)(h:H p=AA (.lst xs))(w:IsDs K H ds vs):RelS K (b0 st p (.lst ds)) (upd H p (.lst vs)):=
 r.putAny (TK.put h) {vs,t4,w.mono (TK.put h)} (by grind)
theorem RelS.lst(r:RelS K st H)(h:st a=AA (.lst ds)):∃vs,H a=AA (.lst vs)/\IsDs K H ds vs:=r.ob a _ h
theorem RelS.dct(r:RelS K st H){kvs}(h:st a=AA (.dct kvs)):∃vs,H a=AA (.dK vs)/\IsKs K H kvs vs:=r.ob a _ h
theorem RelS.ins(r:RelS K st H){c}{fs}(h:st a=AA (.ins c fs)):∃C b vs,H a=AA (.ins C b vs)/\Av K AN c=AA (AA (.ref C))/\IsFs K H fs vs:=r.ob a _ h
def RelS.rd(r:RelS K st H)(h:rdS st a ds):∃vs,SqL K H a vs/\IsDs K H ds vs:=by
 rcases h with h|h
 ·let{vs,a,b}:=r.ob a _ h;show{vs,.inl (.inl a),b}
 ·let{vs,a,b}:=r.ob a _ h;show{vs,.inl a,b}
def RelS.rdR(r:RelS K st H)(h:rdS st a ds):∃vs,Rd H a (.lst vs)/\IsDs K H ds vs:=by
 rcases h with h|h
 ·let{vs,a,b}:=r.ob a _ h;show{vs,.inl a,b}
 ·let{vs,a,b}:=r.ob a _ h;show⟨vs,a,b⟩
end
abbrev TbE(o o':HO):Prop:=o'=o\/∃p p',o=.tbl p/\o'=.tbl p'
def TbE.trans{a b c}(x:TbE a b)(y:TbE b c):TbE a c:=by
 rcases x with rfl|⟨p,e,rfl,rfl⟩
 ·show y
 ·rcases y with rfl|⟨q,d,_,rfl⟩
  ·show .inr ⟨p,e,rfl,rfl⟩
  ·show .inr ⟨p,d,rfl,rfl⟩
abbrev Ev(st:Sto)(H:Hp)(st':Sto)(H':Hp):Prop:=∀a o,H a=AA o->st a=AF->(∃o',H' a=AA o'/\TbE o o')/\st' a=AF
section
variable {K:AO} {st1 st2:Sto} {H1 H2:Hp}
def Ev.get(e:Ev st H st1 H1)(h:H a=AA o)(k:st a=AF)(n:∀p,o≠.tbl p):H1 a=AA o/\st1 a=AF:=by
 let{{c,h',t},b}:=e a o h k
 rcases t with rfl|⟨p,_,rfl,_⟩
 ·show⟨h',b⟩
 ·show absurd rfl (n p)
def Ev.refl:Ev st H st H:=λ_ o h k=>{{o,h,.inl rfl},k}
theorem Ev.trans(a:Ev st H st1 H1)(b:Ev st1 H1 st2 H2):Ev st H st2 H2:=λc o h k=>by
 let{{f,h',t},y}:=a c o h k;let{{e,g,d},z}:=b c f h' y;show{{e,g,t.trans d},z}
def RelS.no(r:RelS K st H)(h:H a=AA o)(s:∀vs,o≠.lst vs)(q:∀u vs,o≠.frz u (.lst vs))(p:∀vs,o≠.dK vs)(n:∀C e vs,o≠.ins C e vs)(m:∀vs,o≠.dT vs):st a=AF:=by
 cases z:st a with
 |none=>rfl
 |some ob=>
  have w:=r.ob a ob z;cases ob with
  |lst k=>let{vs,b,_}:=w;grind
  |fro k=>
   obtain⟨vs,b|⟨u,b⟩,_⟩:=w
   ·grind
   ·grind
  |dct d=>let{vs,b,_}:=w;grind
  |dtt d=>let{vs,b,_}:=w;grind
  |ins c t=>let{C,e,vs,b,_}:=w;grind
def Ev.tk(e:Ev st H st1 H1)(r:RelS K st H):TK K H H1:={{λa xs q=>by
 rcases q with(q|⟨a,q⟩)|q
 ·show .inl (.inl (e.get q (r.no q (λ_ z=>by cases z) (λ_ _ z=>by cases z) (λ_ z=>by cases z) (λ_ _ _ z=>by cases z) (λ_ z=>by cases z)) λ_ z=>by cases z).1)
 ·show .inl (.inr {a,(e.get q (r.no q (λ_ z=>by cases z) (λ_ _ z=>by cases z) (λ_ z=>by cases z) (λ_ _ _ z=>by cases z) (λ_ z=>by cases z)) (λ_ z=>by cases z)).1})
 ·show .inr q,λa xs q=>(e.get q (r.no q (λ_ z=>by cases z) (λ_ _ z=>by cases z) (λ_ z=>by cases z) (λ_ _ _ z=>by cases z) λ_ z=>by cases z) λ_ z=>by cases z).1},λa o u q n=>(e.get q (r.no q (λ_ z=>by cases z) (λ_ vs z=>by grind) (λ_ z=>by cases z) (λ_ _ _ z=>by cases z) (λ_ z=>by cases z)) λ_ z=>by cases z).1}
def Ev.new(h:H p=AF):Ev st H st (upd H p o):=λa u e k=>{{u,j6 (z6 e h)▸e,.inl rfl},k}
def Ev.newS(h:H p=AF):Ev st H (b0 st p ob) (upd H p o):=λa u e k=>{{u,j6 (z6 e h)▸e,.inl rfl},G0 (z6 e h)▸k}
def Ev.put{ob'}(h:st p=AA ob'):Ev st H (b0 st p ob) (upd H p o):=λa u e k=>by
 have b:a≠p:=λz=>by grind
 show{{u,j6 b▸e,.inl rfl},G0 b▸k}
def Ev.drop(s:Sub st2 st1)(e:Ev st H st1 H1):Ev st H st2 H1:=λa o h k=>by
 let{x,y}:=e a o h k;apply{x,?_};cases z:st2 a with
 |none=>rfl
 |some u=>rw[s a u z]at y;cases y
end
abbrev v0(K:AO)(st:Sto)(H:Hp)(Qd:DK)(Q:VK):Prop:=∀v d H' st',Ev st H st' H'->IsD K H' d v->RelS K st' H'->Qd d st'->Q v H'
abbrev up(K:AO)(t:DT):TE:=λσ H Q=>∃env st Qd,RelE K H env σ/\RelS K st H/\t env st Qd/\v0 K st H Qd Q
abbrev upB(K:AO)(t:DB):TT:=λσ H Q=>∃env st Qd,RelE K H env σ/\RelS K st H/\t env st Qd/\∀b H' st',Ev st H st' H'->RelS K st' H'->Qd b st'->Q b H'
abbrev upA(K:AO)(n:Nat)(t:DA):TA:=λσ H Q=>∃env st Qd,RelE K H env σ/\RelS K st H/\t env st Qd/\∀vs ds H' st',Ev st H st' H'->IsDs K H' ds vs->ds.length=n->RelS K st' H'->Qd ds st'->Q vs H'
def _root_.L2.PE.imp{t t'}(h:PE X x t)(i:∀a H Q,t' a H Q->t a H Q):PE X x t':=λpins s a H Q I q=>h pins s a H Q I (i a H Q q)
def _root_.L2.PT.imp{t t'}(h:PT X x t)(i:∀a H Q,t' a H Q->t a H Q):PT X x t':=λpins s a H Q I q=>h pins s a H Q I (i a H Q q)
def _root_.L2.PW.imp{t t'}(h:PW X x t)(i:∀a H Q,t' a H Q->t a H Q):PW X x t':=λw pins s a H Q I q=>h w pins s a H Q I (i a H Q q)
def _root_.L2.PA.imp{x}{t t'}(h:PA X x t)(i:∀a H Q,t' a H Q->t a H Q):PA X x t':=λpos pins s a H Q I q=>h pos pins s a H Q I (i a H Q q)
def _root_.L2.PSs.imp{x}{t t'}(h:PSs X x t)(i:∀D a H,t' D a H->t D a H):PSs X x t':=λpins s a H D I q=>h pins s a H D I (i D a H q)
def _root_.L2.PS.imp{x}{t t'}(h:PS X x t)(i:∀D a H,t' D a H->t D a H):PS X x t':=λpins s a H D I q=>h pins s a H D I (i D a H q)
def v0.after{K}{st1}{H1}(p:v0 K st H Qd Q)(e:Ev st H st1 H1):v0 K st1 H1 Qd Q:=λv d H2 st2 e2=>p v d H2 st2 (e.trans e2)
def v0.here{K}{d}(p:v0 K st H Qd Q)i(r)q:=p v d H st Ev.refl i r q
def v0.newL{K}(p:v0 K st H Qd Q)(r:RelS K st H)(w:IsDs K H ds vs)(q:∀p,st p=AF->Qd (.ref p) (b0 st p (.lst ds))):∀l,H l=AF->Q (.ref l) (upd H l (.lst vs)):=λl hl=>
 p _ (.ref l) _ (b0 st l (.lst ds)) (Ev.newS hl) (.ref l) (r.putNew hl w) (q l (r.free hl))
def v0.newT{K}(p:v0 K st H Qd Q)(r:RelS K st H)(w:IsDs K H ds vs)(q:Qd (.tup ds) st):∀l,H l=AF->Q (.ref l) (upd H l (.tup vs)):=λl hl=>
 p _ (.tup ds) _ st (Ev.new hl) (IsD.mk (SqX.of t4) (w.mono (TK.new hl))) (r.new hl) q
def up1{K}{t}{f:D->Sto->DK->Prop}{R:V->Hp->Prop}(h:up K (λenv st Q=>t env st λd st1=>f d st1 Q) σ H Q)
  (k:∀v d H' a b,IsD K H' d v->RelS K a H'->f d a b->v0 K a H' b Q->R v H'):up K t σ H R:=by
 let{env,st,b,i,g,c,e}:=h;show{env,st,_,i,g,c,λv d H' a ev is rs q=>k v d H' a b is rs q (e.after ev)}
def up2{K}{t u}{f:D->D->Sto->DK->Prop}{R:V->V->Hp->Prop}(h:up K (λenv st Q=>t env st λd st1=>u env st1 λe st2=>f d e st2 Q) σ H Q)
  (k:∀v w d e H' a b,IsD K H' d v->IsD K H' e w->RelS K a H'->f d e a b->v0 K a H' b Q->R v w H'):up K t σ H λv H1=>up K u σ H1 λw H2=>R v w H2:=by
 let{env,st,b,g,c,i,j}:=h;show{env,st,_,g,c,i,λv d H' a ev is rs q=>{env,a,_,g.mono (ev.tk c),rs,q,λw e H2 st2 ev2 is2 rs2 q2=>
  k v w d e H2 st2 b (is.mono (ev2.tk rs)) is2 rs2 q2 ((j.after ev).after ev2)}}
def ai4{K}{n}{t}{f:List D->Sto->DK->Prop}{R}(h:up K (λenv st Q=>t env st λds st1=>f ds st1 Q) σ H Q)
  (k:∀vs ds H' a c,IsDs K H' ds vs->ds.length=n->RelS K a H'->f ds a c->v0 K a H' c Q->R vs H'):upA K n t σ H R:=by
 let{env,st,c,i,g,d,e}:=h;show{env,st,_,i,g,d,λvs ds H' a ev is hl rs q=>k vs ds H' a c is hl rs q (e.after ev)}
def c86{t}(h:PE X x (up X.K t))(f:∀a,IH x X.env a=do let v <-a;Hv x.pos;holding [v] (truthy v)):
  PT X x (upB X.K λenv st Q=>t env st λd st'=>∃b,d=.bl b/\Q b st'):=PT.imp (cp4 h f) λσ H Q q=>by
 let{env,st,j,i,g,c,e}:=q;apply{env,st,_,i,g,c,λv d H' st' ev is rs q=>?_};let{b,rfl,q}:=q;cases is;show{b,rfl,e b H' st' ev rs q}
end
section
variable [Tbs]
mutual
theorem S8:∀d:D,d.pure=AD->d.py.canLay0=AD
 |.non,_=>rfl
 |.bl _,_=>rfl
 |.int _,_=>rfl
 |.str _,h=>h
 |.tup ds,h=>by change DR (D.pys ds)=AD;show af8 ds h
 |.ref _,h=>nomatch h
 |.fn _,h=>nomatch h
 |.clo _ _ _ _,h=>nomatch h
 |.ktup _,h=>nomatch h
theorem af8:∀ds:List D,D.pures ds=AD->DR (D.pys ds)=AD
 |[],_=>rfl
 |d::r,h=>by
  have h':d.pure=AD/\D.pures r=AD:=by simpa[D.pures]using h
  change(d.py.canLay0&&DR (D.pys r))=AD;rw[S8 d h'.1,af8 r h'.2];rfl
end
section
variable {X:Cx} {pins:List (AI×Obj)} {σ:L2.St} {H:Hp} {s:AK}
def O8(I:L2.Inv X pins σ H s){d:D}{v:V}(h:IsD X.K H d v):∀{u:AG},d.pure=AD->i7 v u->∃l,Reads s.heap u d.py l:=by
 induction h with
 |non=>intro u _ r;cases r;show{_,.none}
 |bl b=>intro u _ r;cases r;show{_,.bool b}
 |int i=>intro u _ r;let{t,rfl}:=r;show{_,.int i t}
 |str x=>intro u _ r;let{t,rfl}:=r;show{_,.str x t}
 |ref a=>intro u h;cases h
 |fn _=>intro u h;cases h
 |clo _ _ _ _=>intro u h;cases h
 |ktup _ _=>intro u h;cases h
 |@tup a ds vs hq hl hat ih=>
  intro u hp r;cases r;let{z,rv,{o,ho,hc,n,hd},hz}:=I.tuple hq.sqt;have C:∀(f:List D)(c:List V)(j:List AG),(∀(i:Nat)d v,f[i]?=AA d->c[i]?=AA v->∀{u:AG},d.pure=AD->i7 v u->∃l,Reads s.heap u d.py l)->f.length=c.length->D.pures f=AD->i5 c j->∃l,ReadsAll s.heap j (D.pys f) l:=by
   intro f
   induction f with
   |nil=>intro c j _ k _ q;cases c with
    |nil=>cases q;show{[],.nil}
    |cons a b=>simp at k
   |cons e es A=>
    intro c j m k B q;cases c with
    |nil=>simp at k
    |cons w G=>
     have y:e.pure=AD/\D.pures es=AD:=by simpa[D.pures]using B
     cases q with
     |cons q1 q2=>
      let{l,E}:=m 0 e w rfl rfl y.1 q1;let{bs,rb}:=A G _ (λi d v a b=>m (i+1) d v (by simpa using a) (by simpa using b)) (by simpa using k) y.2 q2;show{l++bs,.cons E rb}
  let{l,E}:=C ds vs z ih hl hp rv;show{l,.tuple ho hc hd (by simp_all)}
def bi5{A:BR}{a b}(c:A.units+200<CO)(h:FB a b<=150):A.units+min a b<CO:=by
 lia
def ct6(k:X.A.units+200<CO):OpR X (CD .Eq) λx y H Q=>∃d e,IsD X.K H d x/\IsD X.K H e y/\d.pure=AD/\e.pure=AD/\FB (o6 d) (o6 e)<=150/\Q (.bl (deq d e)) H:=by
 intro a s o H x y v u Q I g f h;let{d,e,n,m,c,b,l,q}:=h;let{p,j}:=O8 I n c g;let{bs,i}:=O8 I m b f;show SeqAt.rcAt_reads j i (S8 d c) (S8 e b) (bi5 k l) X.prog X.w _ _ {.bl (deq d e),H,I,rfl,q}
def cs5(k:X.A.units+200<CO):OpR X (CD .NotEq) λx y H Q=>∃d e,IsD X.K H d x/\IsD X.K H e y/\d.pure=AD/\e.pure=AD/\FB (o6 d) (o6 e)<=150/\Q (.bl (!deq d e)) H:=by
 intro a s o H x y v u Q I g f h;let{d,e,n,m,c,b,l,q}:=h;let{p,j}:=O8 I n c g;let{bs,i}:=O8 I m b f;show SeqAt.rcNeAt_reads j i (S8 d c) (S8 e b) (bi5 k l) X.prog X.w _ _ {.bl !deq d e,H,I,rfl,q}
theorem ar1:∀a(x),((D.pys a).any λy=>Ay y x.py)=a.any λy=>deq y x
 |[],_=>rfl
 |d::r,x=>by
  change(Ay d.py x.py||(D.pys r).any _)=(deq d x||r.any _);rw[ar1 r x];rfl
def bg5{A:BR}{a b}(c:A.units+200<CO)(h:b<=150):A.units+1+min a b<CO:=by
 have:min a b<=b:=FY _ _;lia
def bn8(m:X.A.units+200<CO):OpR X (CD .In) λx y H Q=>∃d a,IsD X.K H d x/\IsD X.K H (.tup a) y/\d.pure=AD/\D.pures a=AD/\o6 d<=150/\Q (.bl (a.any λe=>deq e d)) H:=by
 intro c s r H x y v u Q I j i h;let{d,a,p,o,g,f,n,q}:=h;let{t,l}:=O8 I p g j;let{bs,k}:=O8 I o f i;have b:=k;show SeqAt.in_tuple_reads b l (af8 a f) (S8 d g) (bg5 m n) (by rw[ar1];show{.bl _,H,I,rfl,q})
def bj0(m:X.A.units+200<CO):OpR X (CD .NotIn) λx y H Q=>∃d a,IsD X.K H d x/\IsD X.K H (.tup a) y/\d.pure=AD/\D.pures a=AD/\o6 d<=150/\Q (.bl (!a.any λe=>deq e d)) H:=by
 intro c s r H x y v u Q I j i h;let{d,a,p,o,g,f,n,q}:=h;let{t,l}:=O8 I p g j;let{bs,k}:=O8 I o f i;have b:=k;show SeqAt.notIn_tuple_reads b l (af8 a f) (S8 d g) (bg5 m n) (by rw[ar1];show{.bl _,H,I,rfl,q})
end
end
end Ek
namespace PySem
def bt2:=
 fillsNumberSlot_seq FC.lookup rfl Jq.lookup rfl
def bu9:seqRepeat? (.type "tuple")=pure (AA (.builtin "tuple.__mul__")):=by
 rfl
def bt8(a:Int)(t:Tok)(l:AI)(b:Array AG)(n:Nat)(dd:Option AI)(c:Array (Option AG)):
  Jd (Cr.«int.__rmul__» {[.int a t,.ref l],[]}) (λ_ R s=>s.heap.get? l=AA {cls:=.type "tuple",dict:=dd,data:=.seq b n,slots:=c}/\R (.ok (.ret Value.notImplemented)) s):=
 .of_wp λprog w A R s h=>by let{d,h}:=h;wp_walk;show⟨_,rfl,h⟩
def b04(l:AI)(a:Array AG)(n:Nat)(dd:Option AI)(c:Array (Option AG))(k:Int)(u:Tok)(f:a.isEmpty=AE)(q:2<=k)(p:k<2^63)(hz:a.size*k.toNat<=sizeLine):
  Jd (Cr.«tuple.__mul__» {[.ref l,.int k u],[]}) (λ_ R s=>s.heap.get? l=AA {cls:=.type "tuple",dict:=dd,data:=.seq a n,slots:=c}/\R (.ok (.ret (Aq s.heap.objs.size))) {s with heap:=s.heap.push {cls:=Cu "tuple",data:=Data.seq (Fu (λx1 x2=>x1++x2) #[] (Al k.toNat a))},toks:=s.toks}):=
 .of_wp λprog w A R s h=>by
  let{e,h}:=h;have o:(AB (k < -(2^63))||AB (k>=2^63))=AE:=by lia
  have m:(a.isEmpty||k==1)=AE:=by rw[f];lia
  have j:(AB (k<=0)||a.isEmpty)=AE:=by lia
  have b:(a.size:Int)*k=((a.size*k.toNat:Nat):Int):=by rw[Jr,Int.toNat_of_nonneg ⋯]
  have i:¬((a.size:Int)*k>(2^63-1) / 8):=by
   rw[b];have:(sizeLine:Nat)<=(2^63-1) / 8:=by decide
   lia
  have g:Fq ((a.size:Int)*k)=AE:=by
   rw[b];show decide_eq_false ⋯
  apply AC (AL ?_);rw[o];apply AC (AC (BW e rfl (AL ?_)));rw[m,j];rw[if_neg i,g];apply AC (BZ (AL ⟨_,rfl,h⟩) ?_);have d:(Fu (λx1 x2=>x1++x2) #[] (Al k.toNat a)).size=k.toNat*a.size:=by
   have:=L2.ap4 a.toList k.toNat [];rw[show((#[]:Array AG))=([]:List AG).toArray from rfl,this];simp[L2.bg4]
  change(Fu (λx1 x2=>x1++x2) #[] (Al k.toNat a)).size<=sizeLine;rw[d,Jf];show hz
def bx6 l(b:Array AG)n(dd:Option AI)(c:Array (Option AG))u:
  Jd (Cr.«tuple.__mul__» {[.ref l,.int 1 u],[]}) (λ_ R s=>s.heap.get? l=AA {cls:=.type "tuple",dict:=dd,data:=.seq b n,slots:=c}/\R (.ok (.ret (Aq l))) s):=
 .of_wp λprog w A R s h=>by
  let{f,g,d,tk,e}:=s;let{a,h}:=h;have i:(⟨f,g,d,tk,e⟩:AK).TypeIs (.ref l) "tuple":=⟨_,a,rfl⟩;apply AC (AL ?_);apply AC (AC (BW a rfl (AL ?_)));rw[if_pos ∎];apply AC (AC (FZ i (AL ?_)));show AC (DZ (AL ⟨_,rfl,h⟩))
end PySem
namespace L2
open PySem PySem.Spec PyProof.Rows
variable {X:Cx}
abbrev c66(K:AO):R2:=λx y H Q=>∃a k xs,x=.ref a/\y=.int k/\SqT K H a xs/\xs≠[]/\1<=k/\k<2^62/\xs.length*k.toNat<=sizeLine /\
 (k=1->Q (.ref a) H)/\(k≠1->∀p,H p=AF->Q (.ref p) (upd H p (.tup (Al k.toNat xs).flatten)))
def co4:OpR X (DF .Mult) (c66 X.K):=by
 intro g s M H x y v u Q I z q h;let{a,k,p,rfl,rfl,L,E,P,O,hz,C,B}:=h;cases z;let{t,rfl}:=q;let{b,r,D,N}:=I.tuple L;let{{cls,dd,m,e},c,J,n,G}:=id D;subst J G;have i:=r.length;have l:∀{R},AR (model X.prog X.w) X.A (call (.builtin "tuple.__mul__") [.ref a,.int k t]) R X.xe s->AR (model X.prog X.w) X.A (DF .Mult (.ref a) (.int k t)) R X.xe s:=λhh=>
  wpAny_binaryOp_repeat_ref ∅ ⟨_,c,rfl⟩ (λs'=>KJ s' k t) bt2 F.fills_int_mul Kb bu9 F.slot_int_index.lookup
   (Db Kb (KJ s k t) F.entry_int_rmul (F.args_int_rmul_2 _ _) (bt8 k t a b.toArray n dd e) {c,rfl,⟨_,c,rfl⟩,hh})
 by_cases j:k=1
 ·subst j;show l (Db FC ⟨_,c,rfl⟩ Jt (Jg _ _) (bx6 a b.toArray n dd e t) {c,{.ref a,H,I,rfl,C rfl}})
 ·have f:b.toArray.isEmpty=AE:=by
   grind
  apply l (Db FC ⟨_,c,rfl⟩ Jt (Jg _ _) (b04 a b.toArray n dd e k t f ⋯ ⋯ (by simp_all)) {c,?_});have d:=by
   have:=ap4 b k.toNat [];show this
  rw[d];apply{.ref _,_,I.laid (o:=.tup (Al k.toNat p).flatten) (λb o=>AM _) (AS _) {?_,_,r.rep k.toNat,_,Ae _ rfl,rfl,rfl,_,rfl},rfl,B j _ I.fresh};rwa[bg4,Jf]
end L2
namespace Ek
open PySem PySem.Spec PyProof.Rows L2
section
variable [Tbs]
variable{x:AT}{v:V}{i:Int}{es:List AT}{n:Nat}{H:Hp}{o:EO}
section
variable {X:Cx} {a b c:AT} {ta tb tc:DT} {pos:Pos}
def ad1{d}(h:PE X x (tC v))(i:∀H,IsD X.K H d v):PE X x (up X.K λ_ st Q=>Q d st):=PE.imp h λσ H Q q=>by
 let{env,st,f,e,c,a,b}:=q;show b.here (i H) c a
def cw9{i:Nat}{x}(j:X.N[i]?=AA x)(c:Vis X.env.scope x)(g:(x=="__debug__")=AE)(a:(x=="__classdict__")=AE):PE X (.Name x pos) (up X.K λenv st Q=>∃d,env[i]?=AA (AA d)/\Q d st):=
 PE.imp (at3 j c g a) λσ H Q q=>by
  let{env,st,n,k,h,{d,m,e},f}:=q;let{v,l,b}:=k.at' i d m;show{v,l,f.here b h e}
def o7{xs}{env}(h:∀e p,x≠.Starred e p):Ao (x::xs) env=(AE,eval x env)::Ao xs env:=by
 cases x<;>first|rfl|show absurd rfl (h _ _)
def bk7:PA X [] (upA X.K 0 λ_ st Q=>Q [] st):=PA.imp bl9 λσ H Q q=>by
 let{env,st,e,d,c,a,b}:=q;show b [] [] H st Ev.refl .nil rfl c a
def P6{t}(j:PE X a (up X.K ta))(g:PA X es (upA X.K n t))(h:∀e p,a≠.Starred e p):PA X (a::es) (upA X.K (n+1) λenv st Q=>ta env st λd st1=>t env st1 λds st2=>Q (d::ds) st2):=
 PA.imp (as3 j g (o7 h)) λσ H Q q=>by
  let{env,st,k,c,b,f,i}:=q;show{env,st,_,c,b,f,λv d H1 st1 ev is rs q1=>{env,st1,_,c.mono (ev.tk b),rs,q1,λvs ds H2 st2 ev2 is2 hl=>i (v::vs) (d::ds) H2 st2 (ev.trans ev2) (.cons (is.mono (ev2.tk rs)) is2) (by simp[hl])}}
def cp8{k}{t}(h:PA X es (upA X.K n t))(a:n<=1000):PE X (.Tuple es k pos) (up X.K λenv st Q=>t env st λds st1=>Q (.tup ds) st1):=
 PE.imp (ct4 h) λσ H Q q=>ai4 q λvs ds H' st' Qd is hl rs ht hq=>{by rw[<-is.len,hl];show Gy (a70 a),hq.newT rs is ht}
def cz4{t}(h:PA X es (upA X.K n t))(a:n<=1000):PE X (.List es pos) (up X.K λenv st Q=>t env st λds st1=>∀p,st1 p=AF->Q (.ref p) (b0 st1 p (.lst ds))):=
 PE.imp (cx1 h) λσ H Q q=>ai4 q λvs ds H' st' Qd is hl rs ht hq=>{by rw[<-is.len,hl];show Gy (a70 a),hq.newL rs is ht}
def IsD.int_inv{K}(h:IsD K H (.int i) v):v=.int i:=by cases h;rfl
def IsD.str_inv{K}{i}(h:IsD K H (.str i) v):v=.str i:=by cases h;rfl
def IsD.bl_inv{K}{i}(h:IsD K H (.bl i) v):v=.bl i:=by cases h;rfl
def IsD.ref_inv{K}{i}(h:IsD K H (.ref i) v):v=.ref i:=by cases h;rfl
def cj1{k}(h:n<2^k)h0:=(Nat.log2_lt h0).mpr h
def bi3(h:i.natAbs<2^20000):Dh i<=20000:=by
 unfold Dh
 by_cases a:i=0
 ·subst a;show BM _
 ·rw[if_neg (by simp_all)];show cj1 h ⋯
theorem T9.ok{j}(h:T9 i j):LX i j:=by
 rcases h with h|⟨b,a⟩
 ·show h.ok
 ·have d:=bi3 b;have c:=bi3 a;unfold LX;have:Gu (Dh i+Dh j)=AE:=by
   unfold Gu;have:40000<=bitsLine:=by decide
   lia
  first
   |simp_all
   |grind
def ci0:OpR X (DF .Mult) (rI T9 λi j=>.int (i*j)):=opI λ_ _ _ _ _ _ _ hc q=>mul_int q hc.ok
theorem _root_.Ek.IsDs.repl{K}{xs}{vs}(r:IsDs K H xs vs):∀n,IsDs K H (Al n xs).flatten (Al n vs).flatten
 |0=>.nil
 |n+1=>r.append (r.repl n)
def cq7{o:FM}(n:PE X a (up X.K ta))(m:PE X b (up X.K tb)):PE X (.BinOp a o b pos) (up X.K λenv st Q=>ta env st λx st1=>tb env st1 λy st2=>C5 o x y st2 Q):=by
 cases o with
 |Add=>
  apply PE.imp (T6 (cq6.or (ce3.or cr1)) n m) λσ H Q q=>up2 (f:=C5 .Add) q λv w d e H' st' j i1 i2 rs c g=>?_;cases d<;>first|show AU c|(cases e<;>first|show AU c|skip)
  ·show .inl {_,_,i1.int_inv,i2.int_inv,g.here (.int _) rs c}
  ·rename_i A E;let{p,vs,v,u,i}:=i1.tup_invX;let{L,B,D,F,l}:=i2.tup_invX;apply .inr (.inl {p,L,vs,B,v,D,u.sqt,F.sqt,by rw[<-i.len,<-l.len];show c.1,λz=>?_,λz1 z2=>?_,λ_ _=>g.newT rs (i.append l) c.2})
   ·have:A=[]:=by rw[z]at i;have:=i.len;show Bj (by simpa using this)
    subst this;show g.here (IsD.mk F l) rs c.2
   ·have:E=[]:=by rw[z2]at l;have:=l.len;show Bj (by simpa using this)
    subst this;have s:=c.2;rw[BL]at s;show g.here (IsD.mk u i) rs s
  ·let{A,E,J,I,hz,s}:=c;let{vs,v,i}:=rs.lst J;let{B,D,l}:=rs.lst I;show .inr (.inr {_,_,vs,B,i1.ref_inv,i2.ref_inv,v,D,by rw[<-i.len,<-l.len];show hz,g.newL rs (i.append l) s})
 |Sub=>
  apply PE.imp (T6 c31 n m) λσ H Q q=>up2 (f:=C5 .Sub) q λv w d e H' st' j i1 i2 rs c g=>?_;cases d<;>first|show AU c|(cases e<;>first|show AU c|skip)
  show{_,_,i1.int_inv,i2.int_inv,g.here (.int _) rs c}
 |Mult=>
  apply PE.imp (T6 (ci0.or co4) n m) λσ H Q q=>up2 (f:=C5 .Mult) q λv w d e H' st' j i1 i2 rs c g=>?_;cases d<;>first|show AU c|(cases e<;>first|show AU c|skip)
  ·show .inl {_,_,i1.int_inv,i2.int_inv,c.1,g.here (.int _) rs c.2}
  ·rename_i A k;let{p,vs,v,u,i}:=i1.tup_invX;let{R,P,s,O,c}:=c;apply .inr {p,k,vs,v,i2.int_inv,u.sqt,λz=>R (by rw[z]at i;show Bj (by simpa using i.len)),P,s,by rw[<-i.len];show O,λz=>?_,λ_=>g.newT rs (i.repl k.toNat) c};subst z;have C:j (.tup A) st':=by simpa using c
   show g.here (IsD.mk u i) rs C
 |Mod=>
  apply PE.imp (T6 cw1 n m) λσ H Q q=>up2 (f:=C5 .Mod) q λv w d e H' st' j i1 i2 rs c g=>?_;cases d<;>first|show AU c|(cases e<;>first|show AU c|skip)
  show{_,_,i1.int_inv,i2.int_inv,c.1,g.here (.int _) rs c.2}
 |FloorDiv=>
  apply PE.imp (T6 cb5 n m) λσ H Q q=>up2 (f:=C5 .FloorDiv) q λv w d e H' st' j i1 i2 rs c g=>?_;cases d<;>first|show AU c|(cases e<;>first|show AU c|skip)
  show{_,_,i1.int_inv,i2.int_inv,c.1,g.here (.int _) rs c.2}
 |Pow=>
  apply PE.imp (T6 cy6 n m) λσ H Q q=>up2 (f:=C5 .Pow) q λv w d e H' st' j i1 i2 rs c g=>?_;cases d<;>first|show AU c|(cases e<;>first|show AU c|skip)
  show{_,_,i1.int_inv,i2.int_inv,c.1,g.here (.int _) rs c.2}
 |_=>
  apply PE.imp (T6 (op:=_) (r:=λ_ _ _ _=>False) (λ_ _ _ _ _ _ _ _ _ _ _ _ h=>h.elim) n m) λσ H Q q=>up2 (f:=λ_ _ _ _=>False) (by
   let{env,st,j,N,M,c,g}:=q;show⟨env,st,j,N,M,c,g⟩) λv w d e H' st' j i1 i2 rs c g=>c
def cu7(c:PE X a (up X.K ta)):PE X (.UnaryOp .USub a pos) (up X.K λenv st Q=>ta env st λx st1=>∃i,x=.int i/\Q (.int (-i)) st1):=
 PE.imp (c53 cy9 c) λσ H Q q=>up1 q λv d H' st' Qd is rs b hq=>by
  let{i,rfl,b}:=b;show{i,is.int_inv,hq.here (.int _) rs b}
abbrev ay3(X:Cx):EO->R2
 |.Eq=>λx y H Q=>∃d e,IsD X.K H d x/\IsD X.K H e y/\d.pure=AD/\e.pure=AD/\FB (o6 d) (o6 e)<=150/\Q (.bl (deq d e)) H
 |.NotEq=>λx y H Q=>∃d e,IsD X.K H d x/\IsD X.K H e y/\d.pure=AD/\e.pure=AD/\FB (o6 d) (o6 e)<=150/\Q (.bl (!deq d e)) H
 |.Lt=>rI0 λi j=>.bl (AB (i<j))
 |.LtE=>rI0 λi j=>.bl (AB (i<=j))
 |.Gt=>rI0 λi j=>.bl (AB (j<i))
 |.GtE=>rI0 λi j=>.bl (AB (j<=i))
 |.In=>λx y H Q=>(∃d es,IsD X.K H d x/\IsD X.K H (.tup es) y/\d.pure=AD/\D.pures es=AD/\o6 d<=150/\Q (.bl (es.any λe=>deq e d)) H)\/(∃(k:Key)(ks:List Key)(a:AI),x=kV k/\y=.ref a/\(kD k).pure=AD/\SqT X.K H a (ks.map kV)/\D.pures (ks.map kD)=AD/\Q (.bl (ks.any λl=>AB (l=k))) H)\/∃a k kvs,x=kV k/\y=.ref a/\H a=AA (.dK kvs)/\Q (.bl (v4 kvs k).isSome) H
 |.NotIn=>λx y H Q=>(∃d es,IsD X.K H d x/\IsD X.K H (.tup es) y/\d.pure=AD/\D.pures es=AD/\o6 d<=150/\Q (.bl (!es.any λe=>deq e d)) H)\/(∃(k:Key)(ks:List Key)(a:AI),x=kV k/\y=.ref a/\(kD k).pure=AD/\SqT X.K H a (ks.map kV)/\D.pures (ks.map kD)=AD/\Q (.bl (!ks.any λl=>AB (l=k))) H)\/∃a k kvs,x=kV k/\y=.ref a/\H a=AA (.dK kvs)/\Q (.bl (!(v4 kvs k).isSome)) H
 |.Is=>λx y H Q=>∃b c,x=.bl b/\y=.bl c/\Q (.bl (b==c)) H
 |.IsNot=>λx y H Q=>∃b c,x=.bl b/\y=.bl c/\Q (.bl (b != c)) H
omit [Tbs]in
def av2 [Tbs]{K:AO}:∀k:Key,IsD K H (kD k) (kV k)
 |.inl i=>.int i
 |.inr x=>.str x
omit [Tbs]in
theorem ar9 [Tbs]{K:AO}:∀ks:List Key,IsDs K H (ks.map kD) (ks.map kV)
 |[]=>.nil
 |k::r=>.cons (av2 k) (ar9 r)
omit [Tbs]in
def c43:∀{k l:Key},deq (kD k) (kD l)=AB (k=l)
 |.inl i,.inl j=>by change deq (.int i) (.int j)=_;unfold deq D.py Ay;show FD.mpr ∎
 |.inr i,.inr j=>by change deq (.str i) (.str j)=_;unfold deq D.py Ay;show FD.mpr ∎
 |.inl i,.inr j=>by change deq (.int i) (.str j)=_;unfold deq D.py Ay;show(decide_eq_false nofun).symm
 |.inr i,.inl j=>by change deq (.str i) (.int j)=_;unfold deq D.py Ay;show(decide_eq_false nofun).symm
omit [Tbs]in
def bj9{k:Key}(ks:List Key):((ks.map kD).any λe=>deq e (kD k))=ks.any λl=>AB (l=k):=by
 rw[List.any_map];show congrArg _ (funext λl=>c43)
omit [Tbs]in
def br9:∀{k:Key},o6 (kD k)<=150
 |.inl _=>BM _
 |.inr _=>BM _
omit [Tbs]in
def bo4{b c:Bool}:((Fn b:AG)==.bool c)=(b==c):=by cases b<;>cases c<;>rfl
def bi6(d:X.A.units+200<CO):∀o:EO,OpR X (CD o) (ay3 X o)
 |.Eq=>ct6 d
 |.NotEq=>cs5 d
 |.Lt=>de3
 |.LtE=>c63
 |.Gt=>de8
 |.GtE=>dc1
 |.In=>λpins s σ H x y v u Q I rx ry h=>by
  rcases h with h|⟨k,ks,a,rfl,rfl,g,sq,f,q⟩|⟨a,k,i,rfl,rfl,e,q⟩
  ·show bn8 d pins s σ H x y v u Q I rx ry h
  ·letI T:Tbs:={[],λ_ _ _ _=>True,AD}
   show @bn8 T X d pins s σ H _ _ v u Q I rx ry {kD k,ks.map kD,av2 k,IsD.mk (.inr ⟨rfl,sq⟩) (ar9 ks),g,f,br9,by rw[bj9];show q}
  ·cases ry;show bs2 ⋯ I (B4.k e) rx λs' I'=>{.bl _,H,I',rfl,q}
 |.NotIn=>λpins s σ H x y v u Q I rx ry h=>by
  rcases h with h|⟨k,ks,a,rfl,rfl,g,sq,f,q⟩|⟨a,k,i,rfl,rfl,e,q⟩
  ·show bj0 d pins s σ H x y v u Q I rx ry h
  ·letI T:Tbs:={[],λ_ _ _ _=>True,AD}
   show @bj0 T X d pins s σ H _ _ v u Q I rx ry {kD k,ks.map kD,av2 k,IsD.mk (.inr ⟨rfl,sq⟩) (ar9 ks),g,f,br9,by rw[bj9];show q}
  ·cases ry;show bh3 ⋯ I (B4.k e) rx λs' I'=>{.bl _,H,I',rfl,q}
 |.Is=>λpins s σ H x y v u Q I rx ry h=>by
  let{b,c,rfl,rfl,q}:=h;cases rx;cases ry;show wpAny_is_plain rfl (by rw[bo4];show{.bl _,H,I,rfl,q})
 |.IsNot=>λpins s σ H x y v u Q I rx ry h=>by
  let{b,c,rfl,rfl,q}:=h;cases rx;cases ry;show wpAny_isNot_plain rfl (by rw[bo4];show{.bl _,H,I,rfl,q})
omit [Tbs]in
def _root_.L2.SqT.k{K:AO}{a:AI}{xs:List V}(h:SqT K (λ_=>AF) a xs):SqT K H a xs:=h.elim (λz=>by rcases z with z|⟨_,z⟩<;>cases z) .inr
def bm6{w:V}{d e:D}{H':Hp}{j:Sto}{x:DK}{Q:VK}(g:IsD X.K H' d v)(f:IsD X.K H' e w)(c:RelS X.K j H')(b:o9 o d e j x)(h:v0 X.K j H' x Q):ay3 X o v w H' Q:=by
 cases o with
 |Eq=>show{d,e,g,f,b.1,b.2.1,b.2.2.1,h.here (.bl _) c b.2.2.2}
 |NotEq=>show{d,e,g,f,b.1,b.2.1,b.2.2.1,h.here (.bl _) c b.2.2.2}
 |Lt=>cases d<;>first|show AU b|(cases e<;>first|show AU b|show{_,_,g.int_inv,f.int_inv,h.here (.bl _) c b})
 |LtE=>cases d<;>first|show AU b|(cases e<;>first|show AU b|show{_,_,g.int_inv,f.int_inv,h.here (.bl _) c b})
 |Gt=>cases d<;>first|show AU b|(cases e<;>first|show AU b|show{_,_,g.int_inv,f.int_inv,h.here (.bl _) c b})
 |GtE=>cases d<;>first|show AU b|(cases e<;>first|show AU b|show{_,_,g.int_inv,f.int_inv,h.here (.bl _) c b})
 |In=>
  have B:∀(k:Key)(a:AI)(i:List (Key×D)),v=kV k->w=.ref a->j a=AA (.dct i)->x (.bl (F5 i k).isSome) j->ay3 X .In v w H' Q:=λk a i e1 e2 e3 b=>by
   let{vs,t,s}:=c.dct e3;apply .inr (.inr {a,k,vs,e1,e2,t,?_})
   rcases s.look k with⟨n,m⟩|⟨d,v,n,m,_⟩<;>(rw[n]at b;rw[m];show h.here (.bl _) c b)
  cases e with
  |tup u=>show .inl {d,u,g,f,b.1,b.2.1,b.2.2.1,h.here (.bl _) c b.2.2.2}
  |ref a=>
   cases d<;>first|show AU b|skip
   let{i,e,b}:=b;show B (.inr _) a i g.str_inv f.ref_inv e b
  |ktup ks=>
   cases d<;>first|show AU b|skip
   cases f with
   |ktup sq r=>show .inr (.inl {.inl _,ks,_,g.int_inv,rfl,rfl,sq.k,r,h.here (.bl _) c b})
  |_=>show AU (by cases d<;>show b)
 |NotIn=>
  cases e with
  |tup u=>show .inl {d,u,g,f,b.1,b.2.1,b.2.2.1,h.here (.bl _) c b.2.2.2}
  |ref a=>
   cases d<;>first|show AU b|skip
   let{i,e,b}:=b;let{vs,t,s}:=c.dct e;apply .inr (.inr {a,.inl _,vs,g.int_inv,f.ref_inv,t,?_})
   rcases s.look (.inl _)with⟨n,m⟩|⟨d,v,n,m,_⟩<;>(rw[n]at b;rw[m];show h.here (.bl _) c b)
  |ktup ks=>
   cases d<;>first|show AU b|skip
   cases f with
   |ktup sq r=>show .inr (.inl {.inr _,ks,_,g.str_inv,rfl,b.1,sq.k,r,h.here (.bl _) c b.2})
  |_=>show AU (by cases d<;>show b)
 |Is=>cases d<;>first|show AU b|(cases e<;>first|show AU b|show{_,_,g.bl_inv,f.bl_inv,h.here (.bl _) c b})
 |IsNot=>cases d<;>first|show AU b|(cases e<;>first|show AU b|show{_,_,g.bl_inv,f.bl_inv,h.here (.bl _) c b})
def ae8(o)b(h:∀a k p,b≠.Set a k p):Cc o b=AE:=by
 cases b<;>first|rfl|show absurd rfl (h _ _ _)
def cy8(c:X.A.units+200<CO)(h:PE X a (up X.K ta))(g:PE X b (up X.K tb))(f:∀i k p,b≠.Set i k p):PE X (.Compare a [o] [b] pos) (up X.K λenv st Q=>ta env st λx st1=>tb env st1 λy st2=>o9 o x y st2 Q):=
 PE.imp (bj1 (bi6 c o) h g (ae8 o b f)) λσ H Q q=>up2 q λv w d e H' st' Qd i1=>bm6 i1
def cy5(f:X.A.units+200<CO)(l:PE X a (up X.K ta))(j:PE X b (up X.K tb))(i:∀r k p,b≠.Set r k p):
  PT X (.Compare a [o] [b] pos) (upB X.K λenv st Q=>ta env st λx st1=>tb env st1 λy st2=>o9 o x y st2 λd st'=>∃k,d=.bl k/\Q k st'):=
 PT.imp (bf2 (bi6 f o) l j (ae8 o b i)) λσ H Q q=>by
  let{env,st,s,n,m,g,h}:=q;apply up2 {env,st,_,n,m,g,λv d H' st' ev is rs c=>?_} λv w d e H' st' s i1=>bm6 i1;let{k,rfl,c}:=c;show{k,is.bl_inv,h k H' st' ev rs c}
def cu5{j pos'}(f:PE X a (up X.K ta)):PE X (.Compare a [.Is] [.Constant .none j pos'] pos) (up X.K λenv st Q=>ta env st λx st1=>x=.non/\Q (.bl AD) st1\/x≠.non/\Q (.bl AE) st1):=
 PE.imp (bk2 (bk0 f) rfl) λσ H Q q=>up1 q λv d H' st' Qd is rs b hq=>by
  rcases b with⟨rfl,b⟩|⟨c,b⟩
  ·cases is;show hq.here (.bl _) rs (by simp_all)
  ·have e:AB (v=V.non)=AE:=decide_eq_false λz=>c (by subst z;cases is;rfl);rw[e];show hq.here (.bl _) rs b
def co5{j pos'}(f:PE X a (up X.K ta)):PE X (.Compare a [.IsNot] [.Constant .none j pos'] pos) (up X.K λenv st Q=>ta env st λx st1=>x=.non/\Q (.bl AE) st1\/x≠.non/\Q (.bl AD) st1):=
 PE.imp (bk2 (bi4 f) rfl) λσ H Q q=>up1 q λv d H' st' Qd is rs b hq=>by
  rcases b with⟨rfl,b⟩|⟨c,b⟩
  ·cases is;show hq.here (.bl _) rs (by simp_all)
  ·have e:AB (v=V.non)=AE:=decide_eq_false λz=>c (by subst z;cases is;rfl);rw[e];show hq.here (.bl _) rs b
def bq5{t}{f}(h:PT X x (tB t))(i:∀σ H Q,up X.K f σ H Q->t σ H Q):PT X x (upB X.K λenv st Q=>f env st λd st'=>∃b,d=.bl b/\Q b st'):=PT.imp h λσ H Q q=>by
 let{env,st,k,j,g,c,e}:=q;apply i σ H _ {env,st,_,j,g,c,λv d H' st' ev is rs q=>?_};let{b,rfl,q}:=q;cases is;show{b,rfl,e b H' st' ev rs q}
def cr4{j pos'}(h:PE X a (up X.K ta)):PT X (.Compare a [.Is] [.Constant .none j pos'] pos) (upB X.K λenv st Q=>ta env st λx st1=>(x=.non/\∃b,D.bl AD=.bl b/\Q b st1)\/x≠.non/\∃b,D.bl AE=.bl b/\Q b st1):=
 bq5 (bk1 (bk0 h) rfl) λσ H Q q=>up1 (f:=λx st1 Q=>x=.non/\Q (.bl AD) st1\/x≠.non/\Q (.bl AE) st1) q λv d H' st' Qd is rs c hq=>by
  rcases c with⟨rfl,c⟩|⟨g,c⟩
  ·cases is;show hq.here (.bl _) rs (by simp_all)
  ·have e:AB (v=V.non)=AE:=decide_eq_false λz=>g (by subst z;cases is;rfl);rw[e];show hq.here (.bl _) rs c
def cm4{j pos'}(h:PE X a (up X.K ta)):PT X (.Compare a [.IsNot] [.Constant .none j pos'] pos) (upB X.K λenv st Q=>ta env st λx st1=>(x=.non/\∃b,D.bl AE=.bl b/\Q b st1)\/x≠.non/\∃b,D.bl AD=.bl b/\Q b st1):=
 bq5 (bk1 (bi4 h) rfl) λσ H Q q=>up1 (f:=λx st1 Q=>x=.non/\Q (.bl AE) st1\/x≠.non/\Q (.bl AD) st1) q λv d H' st' Qd is rs c hq=>by
  rcases c with⟨rfl,c⟩|⟨g,c⟩
  ·cases is;show hq.here (.bl _) rs (by simp_all)
  ·have e:AB (v=V.non)=AE:=decide_eq_false λz=>g (by subst z;cases is;rfl);rw[e];show hq.here (.bl _) rs c
@[reducible]noncomputable def tst(t:DT):DB:=λenv st Q=>t env st λd st'=>∃b,d=.bl b/\Q b st'
variable {j8:List AT}
def bo0(l:PE X a (up X.K ta))(j:PE X (.BoolOp .And (b::j8) pos) (up X.K tb)):PE X (.BoolOp .And (a::b::j8) pos) (up X.K λenv st Q=>ta env st λx st1=>∃c,x=.bl c/\if c=AD then tb env st1 Q else Q (.bl AE) st1):=
 PE.imp (cw7 l j) λσ H Q q=>by
  let{env,st,m,h,g,i,f}:=q;apply{env,st,_,h,g,i,λv d H1 st1 ev is rs e=>?_};let{k,rfl,e}:=e;apply{k,is.bl_inv,?_};cases k with
  |true=>show{env,st1,m,h.mono (ev.tk g),rs,e,f.after ev}
  |false=>show(f.after ev).here (.bl _) rs e
def bq7(l:PE X a (up X.K ta))(j:PE X (.BoolOp .Or (b::j8) pos) (up X.K tb)):PE X (.BoolOp .Or (a::b::j8) pos) (up X.K λenv st Q=>ta env st λx st1=>∃c,x=.bl c/\if c=AD then Q (.bl AD) st1 else tb env st1 Q):=
 PE.imp (db0 l j) λσ H Q q=>by
  let{env,st,m,h,g,i,f}:=q;apply{env,st,_,h,g,i,λv d H1 st1 ev is rs e=>?_};let{k,rfl,e}:=e;apply{k,is.bl_inv,?_};cases k with
  |false=>show{env,st1,m,h.mono (ev.tk g),rs,e,f.after ev}
  |true=>show(f.after ev).here (.bl _) rs e
def c29(e:PE X a (up X.K ta)):PE X (.UnaryOp .Not a pos) (up X.K λenv st Q=>ta env st λx st1=>∃c,x=.bl c/\Q (.bl !c) st1):=
 PE.imp (cs8 e) λσ H Q q=>up1 q λv d H' st' Qd is rs b hq=>by
  let{c,rfl,b}:=b;show{c,is.bl_inv,hq.here (.bl _) rs b}
def bl7(n:PT X a (upB X.K (tst ta)))(m:PW X (.BoolOp .And (b::j8) pos) (upB X.K (tst tb))):PW X (.BoolOp .And (a::b::j8) pos) (upB X.K (tst λenv st Q=>ta env st λx st1=>∃c,x=.bl c/\if c=AD then tb env st1 Q else Q (.bl AE) st1)):=
 PW.imp (cv0 n m) λσ H Q q=>by
  let{env,st,g,j,i,l,h}:=q;apply{env,st,λc st1=>if c=AD then tb env st1 λd st'=>∃b,d=.bl b/\g b st' else ∃b,D.bl AE=.bl b/\g b st1,j,i,l,λk H1 st1 ev rs f=>?_};cases k with
  |true=>
   show{env,st1,g,j.mono (ev.tk i),rs,f,λc H2 st2 ev2=>h c H2 st2 (ev.trans ev2)}
  |false=>
   let{b,e,f}:=f;cases e;show h AE H1 st1 ev rs f
def bp3(n:PT X a (upB X.K (tst ta)))(m:PW X (.BoolOp .Or (b::j8) pos) (upB X.K (tst tb))):PW X (.BoolOp .Or (a::b::j8) pos) (upB X.K (tst λenv st Q=>ta env st λx st1=>∃c,x=.bl c/\if c=AD then Q (.bl AD) st1 else tb env st1 Q)):=
 PW.imp (c92 n m) λσ H Q q=>by
  let{env,st,g,j,i,l,h}:=q;apply{env,st,λc st1=>if c=AD then ∃b,D.bl AD=.bl b/\g b st1 else tb env st1 λd st'=>∃b,d=.bl b/\g b st',j,i,l,λk H1 st1 ev rs f=>?_};cases k with
  |false=>
   show{env,st1,g,j.mono (ev.tk i),rs,f,λc H2 st2 ev2=>h c H2 st2 (ev.trans ev2)}
  |true=>
   let{b,e,f}:=f;cases e;show h AD H1 st1 ev rs f
def c05(h:PT X a (upB X.K (tst ta))):PT X (.UnaryOp .Not a pos) (upB X.K (tst λenv st Q=>ta env st λx st1=>∃c,x=.bl c/\Q (.bl !c) st1)):=
 PT.imp (cw6 h) λσ H Q q=>by
  let{env,st,k,j,i,f,g}:=q;apply{env,st,λc st1=>∃b,D.bl (!c)=.bl b/\k b st1,j,i,f,λk H1 st1 ev rs d=>?_};let{b,e,d}:=d;cases e;show g _ H1 st1 ev rs d
def c18{t1}(i:PT X c (upB X.K (tst t1)))(l:PE X a (up X.K ta))(j:PE X b (up X.K tb)):PE X (.IfExp c a b pos) (up X.K λenv st Q=>t1 env st λx st1=>∃k,x=.bl k/\if k=AD then ta env st1 Q else tb env st1 Q):=
 PE.imp (b99 i l j) λσ H Q q=>by
  let{env,st,d,f,e,h,g}:=q;apply{env,st,λk st1=>if k=AD then ta env st1 d else tb env st1 d,f,e,h,λk H1 st1 ev rs q1=>?_};cases k with
  |true=>show{env,st1,d,f.mono (ev.tk e),rs,q1,g.after ev}
  |false=>show{env,st1,d,f.mono (ev.tk e),rs,q1,g.after ev}
end
end
section
variable [Tbs]
variable{H:Hp}{ds:List D}{vs:List V}{f m:Str}{CX:CXT}{fd:BS}{ps:List Str}{sp:Spec}{es:List AT}{n:Nat}{Ph:Str->Spec}{apos:Pos}{ob:AT}{Ca:AI}
section
variable {X:Cx} {a b c:AT} {ta tb tc:DT} {pos p:Pos}
def bj7{K}{i}{d}(r:IsDs K H ds vs)(h:atI ds i=AA d):∃v,atI vs i=AA v/\IsD K H d v:=by
 unfold atI at h ⊢;rw[<-r.len];cases e:ixN ds.length i with
 |none=>simp_all
 |some j=>
  rw[e]at h;show r.get h
def a05(h:∀l u s p,b≠.Slice l u s p):bg7 b:=λo i=>by
 cases b<;>first|rfl|show absurd rfl (h _ _ _ _)
abbrev dl3:R2:=λx y H Q=>∃p k kvs v,x=.ref p/\y=kV k/\H p=AA (.dK kvs)/\v4 kvs k=AA v/\Q v H
def cv8(o:X.A.units+200<CO):IxR X dl3:=by
 intro a b c s d H x y v u Q I f e h l;let{p,k,i,z,rfl,rfl,n,j,q}:=h;cases f;have g:B4 H p (kV k) (AA z):=j▸B4.k n
 have m:=bw1 I g;apply AC ?_;apply AC (Bt m PySem.F.slot_dict_getitem.lookup ?_);have fin:AR (model X.prog X.w) X.A (subscripted b AE (.ref p) u) (λr=>AR (model X.prog X.w) X.A (Ld a (.ref p) r>>=λ_=>pure r) (EP X c d Q) X.xe) X.xe s:=by
  rw[l];apply LL (b35 ⋯ I g e λw' s3 I3 rw'=>AC (Jb (AL ⟨z,H,I3,rw',q⟩)))
 first
  |show AL (AC fin)
  |grind
  |show AC fin
def db2(hu:X.A.units+200<CO)(ha:PE X a (up X.K ta))(hb:PE X b (up X.K tb))(hs:∀l u s p,b≠.Slice l u s p):PE X (.Subscript a b pos) (up X.K λenv st Q=>ta env st λx st1=>tb env st1 λy st2=>ixR x y st2 Q):=
 PE.imp (c60 (cn2.or (c23.or ((cv8 hu).or cx0))) ha hb (a05 hs)) λσ H Q q=>up2 (f:=ixR) q λv w d e H' st' Qd i1 i2 rs ht hq=>by
  cases d<;>first|show AU ht|(cases e<;>first|show AU ht|skip)
  ·let{c,hl,e1,ht}:=ht;show .inr (.inr (.inr {_,_,c,i1.str_inv,i2.int_inv,hl,e1,hq.here (.str _) rs ht}))
  ·let{d,e1,ht}:=ht;let{p,vs,rfl,hq',r}:=i1.tup_inv;let{v',e2,is}:=bj7 r e1;show .inr (.inl {p,vs,_,v',rfl,i2.int_inv,hq',e2,hq.here is rs ht})
  ·rcases ht with⟨ds,d,hr,e1,ht⟩|⟨kvs,d,hr,e1,ht⟩
   ·let{vs,hq',r}:=rs.rd hr;let{v',e2,is}:=bj7 r e1;show .inl {_,vs,_,v',i1.ref_inv,i2.int_inv,hq',e2,hq.here is rs ht}
   ·let{vs,hH,r}:=rs.dct hr
    rcases r.look (.inl _)with⟨l1,l2⟩|⟨d',v',l1,l2,is⟩
    ·rw[l1]at e1;cases e1
    ·rw[l1]at e1;cases e1;show .inr (.inr (.inl {_,.inl _,vs,v',i1.ref_inv,i2.int_inv,hH,l2,hq.here is rs ht}))
  ·let{kvs,d,hr,e1,ht}:=ht;let{vs,hH,r}:=rs.dct hr
   rcases r.look (.inr _)with⟨l1,l2⟩|⟨d',v',l1,l2,is⟩
   ·rw[l1]at e1;cases e1
   ·rw[l1]at e1;cases e1;show .inr (.inr (.inl {_,.inr _,vs,v',i1.ref_inv,i2.str_inv,hH,l2,hq.here is rs ht}))
@[reducible]noncomputable def DO:=i9->Sto->(Option Int->Sto->Prop)->Prop
abbrev upO(K:AO)(t:DO):TO:=λσ H Q=>∃env st Qd,RelE K H env σ/\RelS K st H/\t env st Qd/\∀o H' st',Ev st H st' H'->RelS K st' H'->Qd o st'->Q o H'
def _root_.L2.PO.imp{X}{x}{t t'}(h:PO X x t)(i:∀a H Q,t' a H Q->t a H Q):PO X x t':=λpins s a H Q I q=>h pins s a H Q I (i a H Q q)
def cf8:PO X AF (upO X.K λ_ st k=>k AF st):=PO.imp cf6 λσ H Q q=>by
 let{env,st,e,d,c,a,b}:=q;show b AF H st Ev.refl c a
def ck8(f:PE X a (up X.K ta)):PO X (AA a) (upO X.K λenv st k=>ta env st λd st'=>∃i,d=.int i/\k (AA i) st'):=PO.imp (cj7 f) λσ H Q q=>by
 let{env,st,j,h,g,c,e}:=q;apply{env,st,_,h,g,c,λv d H' st' ev is rs b=>?_};let{i,rfl,b}:=b;show{i,is.int_inv,e _ H' st' ev rs b}
def at6{K}(r:IsDs K H ds vs)lo hi:IsDs K H (A6 ds lo hi) (R4 vs lo hi):=by
 unfold A6 R4;rw[r.len];show(r.drop _).take _
def c51{lo hi}{tl th}{p2}(s:PE X a (up X.K ta))(n:PO X lo (upO X.K tl))(o:PO X hi (upO X.K th)):
  PE X (.Subscript a (.Slice lo hi AF p2) pos) (up X.K λenv st Q=>ta env st λx st1=>tl env st1 λl st2=>th env st2 λh st3=>slR x l h st3 Q):=
 PE.imp (bd2 (bl0.or ci4) s n o) λσ H Q q=>by
  let{env,st,u,i,g,j,m}:=q;apply{env,st,_,i,g,j,λv d H1 st1 ev1 is1 rs1 q1=>{env,st1,_,i.mono (ev1.tk g),rs1,q1,λl H2 st2 ev2 rs2 q2=>{env,st2,_,(i.mono (ev1.tk g)).mono (ev2.tk rs1),rs2,q2,λh H3 st3 ev3 rs3 b=>?_}}};have c:=(is1.mono (ev2.tk rs1)).mono (ev3.tk rs2);have e:=((m.after ev1).after ev2).after ev3;cases d<;>first|show AU b|skip
  ·let{p,vs,rfl,f,r}:=c.tup_inv;show .inl {p,vs,rfl,f,(r.len▸b.1),e.newT rs3 (at6 r l h) b.2}
  ·let{t,k,b}:=b;let{vs,f,r}:=rs3.rd k;show .inr {_,vs,c.ref_inv,f,e.newL rs3 (at6 r l h) b}
def Q3(b:PE X a (up X.K ta))(h:∀e p,a≠.Starred e p):PA X [a] (upA X.K 1 λenv st Q=>ta env st λd st1=>Q [d] st1):=P6 b bk7 h
def bp2{id}{r}{g:D->Sto->DK->Prop}(F:G8 X (.builtin id) r)(E:Gl X f)(B:X.mg f=AF)(w:BK f=AA (.builtin id))(G:PE X a (up X.K ta))(l:∀e p,a≠.Starred e p)
  (i:∀v d H' b h Q,IsD X.K H' d v->RelS X.K b H'->g d b h->v0 X.K b H' h Q->r [v] H' Q) (A:f≠"__name__") (j:(f=="__debug__")=AE) :
  PE X (.Call (.Name f p) [a] [] pos) (up X.K λenv st Q=>ta env st λx c=>g x c Q):=
 PE.imp (af2 F E B w (Q3 G l) A j (o7 l) rfl) λσ H Q q=>by
  let{env,st,h,J,I,y,z}:=q;apply{env,st,λds c=>match ds with|[d]=>g d c h|_=>False,J,I,y,λvs ds H' b L s C n o=>?_}
  match ds,C with
  |[d],_=>
   let{v,M,rfl,u,t}:=s.inv_cons;rw[t.inv_nil];show i v d H' b h Q u n o (z.after L)
def au4{T}{r}{g:D->Sto->DK->Prop}(F:G8 X (.type T) r)(E:Gl X f)(B:X.mg f=AF)(w:BK f=AA (.type T))(G:PE X a (up X.K ta))(l:∀e p,a≠.Starred e p)
  (i:∀v d H' b h Q,IsD X.K H' d v->RelS X.K b H'->g d b h->v0 X.K b H' h Q->r [v] H' Q) (A:f≠"__name__") (j:(f=="__debug__")=AE) :
  PE X (.Call (.Name f p) [a] [] pos) (up X.K λenv st Q=>ta env st λx c=>g x c Q):=
 PE.imp (b42 F E B w (Q3 G l) A j (o7 l) rfl) λσ H Q q=>by
  let{env,st,h,J,I,y,z}:=q;apply{env,st,λds c=>match ds with|[d]=>g d c h|_=>False,J,I,y,λvs ds H' b L s C n o=>?_}
  match ds,C with
  |[d],_=>
   let{v,M,rfl,u,t}:=s.inv_cons;rw[t.inv_nil];show i v d H' b h Q u n o (z.after L)
def cc0:BK "max"=AA (.builtin "max"):=by decide+kernel
def bv1:BK "isinstance"=AA (.builtin "isinstance"):=rfl
def b46:BK "int"=AA (.type "int"):=by decide+kernel
def a01:BK "list"=AA (.type "list"):=by decide+kernel
def bv0:BK "tuple"=AA (.type "tuple"):=by decide+kernel
def ct5(h:Gl X "len")(g:X.mg "len"=AF)(i:PE X a (up X.K ta))(c:∀e p,a≠.Starred e p):PE X (.Call (.Name "len" p) [a] [] pos) (up X.K λenv st Q=>ta env st λx st1=>U8 x st1 Q):=
 bp2 bu5 h g PySem.boot_len i c (λv d H' st' Qd Q is rs b hq=>by
  cases d<;>first|show AU b|skip
  ·let{p,vs,rfl,c,r}:=is.tup_inv;show{p,vs,rfl,.inr c,r.len▸hq.here (.int _) rs b}
  ·let{j,f,b}:=b;let{vs,c,r}:=rs.rd f;show{_,vs,by rw[is.ref_inv],.inl c,r.len▸hq.here (.int _) rs b}) ∅ ∅
def b58(f:Gl X "int")(c:X.mg "int"=AF)(g:PE X a (up X.K ta))(b:∀e p,a≠.Starred e p):PE X (.Call (.Name "int" p) [a] [] pos) (up X.K λenv st Q=>ta env st λx st1=>ab0 x st1 Q):=
 au4 b32 f c b46 g b (λv d H' st' Qd Q is rs ht hq=>by
  cases d<;>first|show AU ht|skip
  ·show .inr {_,by rw[is.bl_inv],hq.here (.int _) rs ht}
  ·show .inl {_,by rw[is.int_inv],hq.here (.int _) rs ht}) ∅ ∅
def cj8(h:Gl X "list")(g:X.mg "list"=AF)(i:PE X a (up X.K ta))(c:∀e p,a≠.Starred e p):PE X (.Call (.Name "list" p) [a] [] pos) (up X.K λenv st Q=>ta env st λx st1=>Q7 x st1 Q):=
 au4 bu4 h g a01 i c (λv d H' st' Qd Q is rs b hq=>by
  cases d<;>first|show AU b|skip
  ·let{p,vs,rfl,c,r}:=is.tup_inv;show{p,vs,rfl,.inr c,hq.newL rs r b}
  ·let{j,f,b}:=b;let{vs,c,r}:=rs.rd f;show{_,vs,by rw[is.ref_inv],.inl c,hq.newL rs r b}) ∅ ∅
def ca8(h:Gl X "tuple")(g:X.mg "tuple"=AF)(i:PE X a (up X.K ta))(c:∀e p,a≠.Starred e p):PE X (.Call (.Name "tuple" p) [a] [] pos) (up X.K λenv st Q=>ta env st λx st1=>W7 x st1 Q):=
 au4 bu0 h g bv0 i c (λv d H' st' Qd Q is rs b hq=>by
  cases d<;>first|show AU b|skip
  ·let{p,vs,rfl,c,r}:=is.tup_inv;show{p,vs,rfl,.inr {c,hq.here is rs b}}
  ·let{j,f,b}:=b;let{vs,c,r}:=rs.rd f;show{_,vs,by rw[is.ref_inv],.inl {c,hq.newT rs r b}}) ∅ ∅
def ag6(f:PE X a (up X.K ta))(c:PE X b (up X.K tb))(h:∀e p,a≠.Starred e p)(h':∀e p,b≠.Starred e p):PA X [a,b] (upA X.K 2 λenv st Q=>ta env st λd st1=>tb env st1 λe st2=>Q [d,e] st2):=P6 f (Q3 c h') h
def cp7(F:X.calm=AD)(E:Gl X "max")(C:X.mg "max"=AF)(I:PE X a (up X.K ta))(G:PE X b (up X.K tb))(k:∀e p,a≠.Starred e p)(f:∀e p,b≠.Starred e p):
  PE X (.Call (.Name "max" p) [a,b] [] pos) (up X.K λenv st Q=>ta env st λx c=>tb env c λy st2=>∃i j,x=.int i/\y=.int j/\Q (.int (if j>i then j else i)) st2):=
 PE.imp (af2 (b17 F) E C cc0 (ag6 I G k f) ∅ ∅ (o7 k) (by rw[o7 f];rfl)) λσ H Q q=>by
  let{env,st,N,L,J,A,B}:=q;apply{env,st,λds c=>match ds with|[x,y]=>∃i j,x=.int i/\y=.int j/\N (.int (if j>i then j else i)) c|_=>False,L,J,A,λvs ds H' n M r D o g=>?_}
  match ds,D with
  |[d,e],_=>
   let{v,O,rfl,z,u}:=r.inv_cons;let{w,m,rfl,t,s}:=u.inv_cons;rw[s.inv_nil];let{i,j,rfl,rfl,g}:=g;show{i,j,by rw[z.int_inv,t.int_inv],(B.after M).here (.int _) o g}
abbrev P9:List String:=["tuple","int","bool","str","list"]
def at8 K:∀t∈P9,∀b∈["NoneType","bool","int","str","tuple","list"],Dx K (.type b) (.type t)=AA (b==t||b=="bool"&&t=="int"):=by
 intro t c b a;erw[P9,AQ,AX,or_false]at c a
 rcases c with rfl|rfl|rfl|rfl|rfl<;>rcases a with rfl|rfl|rfl|rfl|rfl|rfl<;>first|rfl|(rfl)|(unfold Dx)
def cs4{O:Pos}{t:String}(g:t∈P9)(hg:Gl X "isinstance")(Z:X.mg "isinstance"=AF)(G:Gl X f)(F:X.mg f=AF)(m:BK f=AA (.type t))(Y:f≠"__name__")(J:(f==("__debug__":Str))=AE)(ha:PE X a (up X.K ta))(R:∀e p,a≠.Starred e p):
  PE X (.Call (.Name "isinstance" p) [a,.Name f O] [] pos) (up X.K λenv st Q=>ta env st λx st1=>ac2 t x st1 Q):=by
 intro l s M H Q I q;let{env,st,S,hE,hS,U,E}:=q;have L:PA X [a,.Name f O] (av9 (up X.K ta) (av9 (tC (.ty t)) ay1)):=as3 ha (as3 (cd2 (v:=.ty t) G F m rfl Y J) bl9 rfl) (o7 R);apply af2 (r:=λvs H Q=>(∃x ty b,vs=[x,.ty t]/\TyOf X.K H x ty/\Dx X.K ty (.type t)=AA b/\Q (.bl b) H)\/∃j y b,vs=[.ref j,.ty t]/\SqT X.K H j y/\Dx X.K (.type "tuple") (.type t)=AA b/\Q (.bl b) H) ?_ hg Z bv1 L ∅ ∅ (o7 R) rfl l s M H Q I ?_
 ·intro l s M H vs us Q I r h
  rcases h with⟨x,ty,b,rfl,w,n,q⟩|⟨j,y,b,rfl,w,n,q⟩
  ·let{u,v,rfl,B,A}:=r.two;cases A;show b21 I B w n λtk=>{.bl b,H,I.tok _,rfl,q}
  ·let{u,v,rfl,B,A}:=r.two;cases A;cases B;let{T,_,{o,e1,e2,_},_}:=I.tupleD w;show Ct LY I.kIn ⟨o,e1,e2⟩ n (λz=>nomatch z) λtk=>{.bl b,H,I.tok _,rfl,q}
 ·apply{env,st,_,hE,hS,U,λv d H' st' ev is rs i=>?_};have fin:∀ty:String,ty∈["NoneType","bool","int","str","tuple","list"]->TyOf X.K H' v (.type ty)->S (.bl (ty==t||(ty=="bool"&&t=="int"))) st'->(∃x ty b,[v,V.ty t]=[x,.ty t]/\TyOf X.K H' x ty/\Dx X.K ty (.type t)=AA b/\Q (.bl b) H')\/∃j y b,[v,V.ty t]=[.ref j,.ty t]/\SqT X.K H' j y/\Dx X.K (.type "tuple") (.type t)=AA b/\Q (.bl b) H':=λty hty w n=>.inl {v,.type ty,_,rfl,w,at8 X.K t g ty hty,(E.after ev).here (.bl _) rs n}
  rcases i with⟨ty,e,i⟩|⟨b,ds,rfl,W,i⟩
  ·cases d<;>first|(simp[tyD]at e;done)|skip
   all_goals (erw[tyD,CJ]at e;subst e)
   ·cases is;show fin "NoneType" ∎ .non i
   ·cases is;show fin "bool" ∎ (.bl _) i
   ·cases is;show fin "int" ∎ (.int _) i
   ·cases is;show fin "str" ∎ (.str _) i
   ·let{j,vs,rfl,D,r}:=is.tup_inv;show .inr {j,vs,_,rfl,D,at8 X.K t g "tuple" ∎,(E.after ev).here (.bl _) rs i}
   ·cases is with
    |ktup sq _=>show .inr {_,_,_,rfl,sq.k,at8 X.K t g "tuple" ∎,(E.after ev).here (.bl _) rs i}
  ·let{vs,C,r}:=rs.rdR W;rw[is.ref_inv];have N:S (.bl ("list"==t||("list"=="bool"&&t=="int"))) st':=by
    have e:("list"==t||("list"=="bool"&&t=="int"))=(t=="list"):=by erw[P9,AQ,AX,or_false]at g;rcases g with rfl|rfl|rfl|rfl|rfl<;>decide
    rw[e];show i
   rw[is.ref_inv]at fin
   rcases C with h|⟨o,h⟩
   ·show fin "list" ∎ (.lst h) N
   ·show fin "list" ∎ (.frz h) N
abbrev u0(K:AO)(sp:Spec):Sp:=λvs H Q _=>∃ds st Qd,IsDs K H ds vs/\RelS K st H/\sp ds st Qd/\v0 K st H Qd Q
def ce7(d:y6 CX X E0){f}{k}{fa}{t}(F:FnOk X.prog X.w X.K X.mg X.base CX k fa fd ps (u0 X.K sp))(h:Room k X.A)(l:Gl X f)(i:X.mg f=AA (.ref fa))(j:Bm X.K (.ref fa)=AD)
  (m:r6 X.K fd ps []) (o:PA X (a::es) (upA X.K n t)) (c:(f==("__debug__":Str))=AE) (g:∀e p,a≠.Starred e p) (b:(Bx pos (Ao es X.env)).any (·.1)=AE) :
  PE X (.Call (.Name f p) (a::es) [] pos) (up X.K λenv st Q=>t env st λds st1=>sp ds st1 Q):=
 PE.imp (bi7 F h l i j m .nil d o c (o7 g) b) λσ H Q q=>ai4 q λvs ds H' st' Qd is hl rs ht hq=>{ds,st',Qd,by simp_all,rs,ht,hq}
def db9{fa}(g:Gl X f)(e:X.mg f=AA (.ref fa))(a:Av X.K AN f=AA (AA (.ref fa)))(b:(f==("__debug__":Str))=AE):PE X (.Name f p) (up X.K λ_ st Q=>Q (.fn f) st):=
 PE.imp (bh1 (v:=.ref fa) g e rfl b) λσ H Q q=>by
  let{env,st,j,i,h,c,d}:=q;show d.here (.fn a) h c
abbrev X7(K:AO)(f:AI)(fd:BS)(np:Nat)(N:List Str)(cs:List D)(sp:Spec):Sp:=λvs H Q _=>∃us ds st Qd,CloR H f fd np N us/\IsDs K H cs us/\IsDs K H ds vs/\RelS K st H/\sp ds st Qd/\v0 K st H Qd Q
def CloR.fnAt{f}{np}{N}{us}(h:CloR H f fd np N us)(I:Inv X pins σ H s):W.FnAt f s.heap:=by
 let{o,u,i,_,g}:=h.ex;let{e,_}:=I.hok f _ i;let{d,c,j,b}:=o;have a:=g;subst a;show⟨d,c,fd,b,e⟩
def b76(hx:y6 CX X E0){i:Nat}{x:Str}{t:DA}{Z:Sg}(hN:X.N[i]?=AA x)(hv:Vis X.env.scope x)(hd:(x==("__debug__":Str))=AE)(E:(x==("__classdict__":Str))=AE)
  (hF:∀f g,Z.F f=AD->Av X.K AN f=AA (AA (.ref g))->∃k fd o,FnOk X.prog X.w X.K X.mg X.base CX k g fd o (u0 X.K (Z.Phi f))/\Room k X.A/\Bm X.K (.ref g)=AD/\r6 X.K fd o [])
  (hC:∀u N b y g fd o,CloF fd u N o b->∃k,FnOk X.prog X.w X.K X.mg X.base CX k g fd o (X7 X.K g fd u N y (Z.PhiC u N b y))/\Room k X.A)
  (ha:PA X (a::es) (upA X.K n t)) (hs:∀e p,a≠.Starred e p) (D:(Bx pos (Ao es X.env)).any (·.1)=AE) :
  PE X (.Call (.Name x p) (a::es) [] pos) (up X.K λenv st Q=>∃x,env[i]?=AA (AA x)/\U1 Z (t env) st Q x):=by
 intro l s L H Q I q;let{env,st,z,V,G,{d,he,U},hq}:=q;let{v,C,B}:=V.at' i _ he;cases d with
 |fn f=>
  obtain⟨hf,R⟩:Z.F f=AD/\t env st λds c=>Z.Phi f ds c z:=U;obtain⟨g,rfl,T⟩:∃g,v=.ref g/\Av X.K AN f=AA (AA (.ref g)):=by cases B with|fn h=>show⟨_,rfl,h⟩
  let{k,fd,o,Fo,S,hk,hb}:=hF f g hf T;apply Bz (thn (at3 hN hv hd E l s L H (λv m=>v=.ref g/\m=H) I ⟨_,C,rfl,rfl⟩) λu s1 z34=>?_);let{v,m,J,O,e1,Y}:=z34;subst e1 Y;cases O;apply Dj (h₀:=X.base) J.ok.mod.kin hk (thn (ha pos l s1 L m (λvs H2=>∃ds c,Ev st m c H2/\IsDs X.K H2 ds vs/\RelS X.K c H2/\Z.Phi f ds c z) J {env,st,_,V,G,R,λvs ds H' st' ev is hl rs q=>⟨ds,st',ev,is,rs,q⟩}) λus s2⟨vs,H2,I2,r,ds,c,ev,is,rs,q⟩=>{I2.kIn,?_}) (o7 hs) D;show S7 Fo S hb .nil hx I2 r {ds,c,z,by rw[BL];show is,rs,q,hq.after ev}
 |clo u N b y=>
  have R:t env st λds c=>Z.PhiC u N b y ds c z:=U;obtain⟨g,M,rfl,ca,P⟩:∃g us,v=.ref g/\R0 H g u N b us/\IsDs X.K H y us:=by cases B with|clo h1 h2 h3=>show⟨_,_,rfl,h1,h2,h3⟩
  let{fd,o,cf,cr}:=ca;let{k,Fo,S}:=hC u N b y g fd o cf;apply Bz (thn (at3 hN hv hd E l s L H (λv m=>v=.ref g/\m=H) I ⟨_,C,rfl,rfl⟩) λu s1 z35=>?_);let{v,m,J,O,e1,Y}:=z35;subst e1 Y;cases O;apply W.callWith_F (cr.fnAt J) (thn (ha pos l s1 L m (λvs H2=>∃ds c,Ev st m c H2/\IsDs X.K H2 ds vs/\RelS X.K c H2/\Z.PhiC u N b y ds c z) J {env,st,_,V,G,R,λvs ds H' st' ev is hl rs q=>⟨ds,st',ev,is,rs,q⟩}) λus s2⟨vs,H2,I2,r,ds,c,ev,is,rs,q⟩=>{(cr.mono (K:=X.K) (ev.tk G)).fnAt I2,?_}) (o7 hs) D;show S7 Fo S (.all cf.bind) .nil hx I2 r {M,ds,c,z,cr.mono (K:=X.K) (ev.tk G),P.mono (ev.tk G),by rw[BL];show is,rs,q,hq.after ev}
 |_=>show(U:False).elim
def b67(O:y6 CX X E0){ca cb}{cp}{t}{tf}{F:Str->Bool}(V:PE X (.Subscript ca cb cp) (up X.K tf))
  (Z:∀f i,F f=AD->Av X.K AN f=AA (AA (.ref i))->∃k fd u,FnOk X.prog X.w X.K X.mg X.base CX k i fd u (u0 X.K (Ph f))/\Room k X.A/\Bm X.K (.ref i)=AD/\r6 X.K fd u [])
  (Y:PA X (a::es) (upA X.K n t)) (R:∀e p,a≠.Starred e p) (B:(Bx pos (Ao es X.env)).any (·.1)=AE) :
  PE X (.Call (.Subscript ca cb cp) (a::es) [] pos) (up X.K λenv st Q=>tf env st λx c=>∃f,x=.fn f/\F f=AD/\t env c λds b=>Ph f ds b Q):=by
 intro g s G H Q I q;let{env,st,E,L,J,P,T}:=q;have e:eval (.Call (.Subscript ca cb cp) (a::es) [] pos) X.env=(do
  callWith pos (<-eval (.Subscript ca cb cp) X.env) [] (Bx pos (Ao (a::es) X.env)) (FN pos (De [] X.env))):=rfl
 apply AC (thn (V g s G H (λv l=>∃d c,Ev st H c l/\IsD X.K l d v/\RelS X.K c l/\∃f,d=.fn f/\F f=AD/\t env c λds b=>Ph f ds b E) I {env,st,_,L,J,P,λv d H' st' ev is rs q=>⟨d,st',ev,is,rs,q⟩}) λu s1 z36=>?_);let{v,l,M,N,d,c,m,y,o,f,e1,D,z}:=z36;subst e1;obtain⟨i,rfl,C⟩:∃i,v=.ref i/\Av X.K AN f=AA (AA (.ref i)):=by cases y with|fn h=>show⟨_,rfl,h⟩
 let{k,fd,u,Fo,S,U,W}:=Z f i D C;cases N;apply Dj M.ok.mod.kin U (thn (Y pos g s1 G l (λvs H2=>∃ds b,Ev c l b H2/\IsDs X.K H2 ds vs/\RelS X.K b H2/\Ph f ds b E) M {env,c,_,L.mono (m.tk J),o,z,λvs ds H' st' ev is hl rs q=>⟨ds,st',ev,is,rs,q⟩}) λus s2⟨vs,H2,I2,r,ds,b,ev,is,rs,q⟩=>{I2.kIn,?_}) (o7 R) B;show S7 Fo S W .nil O I2 r {ds,b,E,by simp_all,rs,q,T.after (m.trans ev)}
def G1{o}{nm}{env}{w}(h:∀i p a,o≠.Call (.Name i p) [] [] a):Cy o nm env w=w:=by
 cases o with
 |Call f a k p=>
  cases f<;>try rfl
  cases a<;>try rfl
  cases k<;>try rfl
  show absurd rfl (h _ _ _)
 |_=>rfl
def c10{f}{C:Str->List Str}(w:∀c g,Av X.K AN c=AA (AA (.ref g))->f∈C c->Cls X.K g/\L0 X.K g f)(u:PE X a (up X.K ta))(b:Cy a f X.env (eval a X.env)=eval a X.env):
  PE X (.Attribute a f pos) (up X.K λenv st Q=>ta env st λx st1=>∃p c j d,x=.ref p/\st1 p=AA (.ins c j)/\f∈C c/\j.lookup f=AA d/\Q d st1):=
 PE.imp (c03 u b) λσ H Q q=>up1 q λv d H' st' Qd is rs i hq=>by
  let{p,c,j,e,rfl,o,t,l,i}:=i;let{g,y,vs,v,s,r}:=rs.ins o;let{A,z}:=w c g s t
  rcases r.look f with⟨k,_⟩|⟨d',m,k,n,h⟩
  ·simp_all
  ·rw[k]at l;cases l;show{p,g,y,vs,m,is.ref_inv,v,A,z,n,hq.here h rs i}
def ar7{o:AT}{pos}{a:List AT}{env}(d:∀i p g,o≠.Call (.Name i p) [] [] g)(b:Eh (a.length+0) (Bx pos (Ao a env)) (FN pos (De [] env))=AD)(c:(apos.endLine==pos.line)=AD):
  eval (.Call (.Attribute o m apos) a [] pos) env=(do
   let e <-eval o env
   Hv apos.atName
   let(f,first) <-holding [e] (Ko e m (do return (<-importBound o env).getD AD))
   callWith pos f first (Bx pos (Ao a env)) (FN pos (De [] env))):=by
 rw[arm_eval_Call,G1 d]
 unfold methodCall;erw[Ap]at b ⊢;rw[b];unfold methodCallPos calleeOf;erw[c];rfl
def ci7(Y:y6 CX X E0){t}{F:Str->Bool}
  (hM:∀c C,Av X.K AN c=AA (AA (.ref C))->F (f6 c m)=AD->∃k f fd E,Cls X.K C/\Meth X.K C m f/\FnOk X.prog X.w X.K X.mg X.base CX k f fd E (u0 X.K (Ph (f6 c m)))/\Room k X.A/\r6 X.K fd E [])
  (z:Eh ((a::es).length+0) (Bx pos (Ao (a::es) X.env)) (FN pos (De [] X.env))=AD) (o:(apos.endLine==pos.line)=AD) (J:∀i p V,ob≠.Call (.Name i p) [] [] V) (ho:PE X ob (up X.K ta)) (ha:PA X (a::es) (upA X.K n t)) (hs:∀e p,a≠.Starred e p) (G:(Bx pos (Ao es X.env)).any (·.1)=AE) :
  PE X (.Call (.Attribute ob m apos) (a::es) [] pos) (up X.K λenv st Q=>ta env st λx b=>∃p c j,x=.ref p/\b p=AA (.ins c j)/\j.lookup m=AF/\F (f6 c m)=AD/\t env b λds g=>Ph (f6 c m) (.ref p::ds) g Q):=by
 intro h s M H Q I q;let{env,st,L,R,P,Z,hq}:=q;apply HV (thn (ho h s M H (λv y=>∃p c j b,v=.ref p/\Ev st H b y/\RelS X.K b y/\b p=AA (.ins c j)/\j.lookup m=AF/\F (f6 c m)=AD/\t env b λds g=>Ph (f6 c m) (.ref p::ds) g L) I {env,st,_,R,P,Z,λv d y b B is u D=>?_}) λu s1 z37=>?_) (ar7 J z o)
 ·let{p,c,j,rfl,D}:=D;show⟨p,c,j,b,is.ref_inv,B,u,D⟩
 let{v,y,T,U,p,c,j,b,B,S,u,h1,h2,h3,h4}:=z37;subst B;cases U;let{C,dx,vs,hH,hn,r}:=u.ins h1;let{k,f,fd,E,cl,N,Fo,hr,hb}:=hM c C hn h3;have O:vs.lookup m=AF:=by
  rcases r.look m with⟨_,W⟩|⟨d',v',l1,_,_⟩
  ·show W
  ·simp_all
 apply ao8 T hH cl N O ?_;apply Dj I.ok.mod.kin N.kp (thn (ha pos h s1 M y (λvs H2=>∃ds g,Ev b y g H2/\IsDs X.K H2 ds vs/\RelS X.K g H2/\Ph (f6 c m) (.ref p::ds) g L) T {env,b,_,R.mono (S.tk P),u,h4,λvs ds H' st' B is O u q=>⟨ds,st',B,is,u,q⟩}) λus s2⟨vs,H2,I2,r2,ds,g,ev2,is2,rs2,q2⟩=>{I2.kIn,?_}) (o7 hs) G;show S7 (vs:=.ref p::vs) Fo hr hb .nil Y I2 (.cons rfl r2) {.ref p::ds,g,L,by rw[BL];show .cons (.ref p) is2,rs2,q2,(hq.after S).after ev2}
def cb8(hx:y6 CX X E0){C:Str->List Str}{t:DA}{F:Str->Bool}
  (hM:∀c D i,Av X.K AN c=AA (AA (.ref D))->F (f6 c m)=AD->A0 C (f6 c m)=AA i->∃k f fd G tk,Cls X.K D/\Meth X.K D m f/\FnOk X.prog X.w X.K X.mg X.base CX k f fd G (u0 X.K (Ph (f6 c m)))/\Room k X.A/\r6 X.K fd G [.int i tk])
  (z:Eh ((a::es).length+0) (Bx pos (Ao (a::es) X.env)) (FN pos (De [] X.env))=AD) (o:(apos.endLine==pos.line)=AD) (L:∀i p Y,ob≠.Call (.Name i p) [] [] Y) (ho:PE X ob (up X.K ta)) (ha:PA X (a::es) (upA X.K n t)) (hs:∀e p,a≠.Starred e p) (J:(Bx pos (Ao es X.env)).any (·.1)=AE) :
  PE X (.Call (.Attribute ob m apos) (a::es) [] pos) (up X.K λenv st Q=>ta env st λx b=>∃p c j i,x=.ref p/\b p=AA (.ins c j)/\j.lookup m=AF/\F (f6 c m)=AD/\A0 C (f6 c m)=AA i/\t env b λds g=>Ph (f6 c m) (.ref p::(ds++[.int i])) g Q):=by
 intro h s N H Q I q;let{env,st,M,T,S,ht,hq}:=q;apply HV (thn (ho h s N H (λv y=>∃p c j i b,v=.ref p/\Ev st H b y/\RelS X.K b y/\b p=AA (.ins c j)/\j.lookup m=AF/\F (f6 c m)=AD/\A0 C (f6 c m)=AA i/\t env b λds g=>Ph (f6 c m) (.ref p::(ds++[.int i])) g M) I {env,st,_,T,S,ht,λv d y b B is u E=>?_}) λu s1 z38=>?_) (ar7 L z o)
 ·let{p,c,j,i,rfl,E}:=E;show⟨p,c,j,i,b,is.ref_inv,B,u,E⟩
 let{v,y,V,W,p,c,j,i,b,B,U,u,h1,h2,h3,h5,h4}:=z38;subst B;cases W;let{D,dx,vs,hH,hn,r}:=u.ins h1;let{k,f,fd,G,tk,cl,O,Fo,hr,hb}:=hM c D i hn h3 h5;have R:vs.lookup m=AF:=by
  rcases r.look m with⟨_,Z⟩|⟨d',v',P,_,_⟩
  ·show Z
  ·rw[h2]at P;cases P
 apply ao8 V hH cl O R ?_;apply Dj (first:=[.ref p]) (h₀:=X.base) I.ok.mod.kin O.kp (thn (ha pos h s1 N y (λvs H2=>∃ds g,Ev b y g H2/\IsDs X.K H2 ds vs/\RelS X.K g H2/\Ph (f6 c m) (.ref p::(ds++[.int i])) g M) V {env,b,_,T.mono (U.tk S),u,h4,λvs ds H' st' B is R u q=>⟨ds,st',B,is,u,q⟩}) λus s2⟨vs,H2,I2,r2,ds,g,ev2,is2,rs2,q2⟩=>{I2.kIn,?_}) (o7 hs) J;show S7 (us:=.ref p::us) (vs:=.ref p::vs) Fo hr hb (dvs:=[.int i]) (.cons ⟨_,rfl⟩ .nil) hx I2 (.cons rfl r2) {.ref p::(ds++[.int i]),g,M,.cons (.ref p) (is2.append (.cons (.int i) .nil)),rs2,q2,(hq.after U).after ev2}
def b89(J:y6 CX X E0){F:Str->Bool}
  (U:∀c h,Av X.K AN c=AA (AA (.ref h))->F (f6 c m)=AD->∃k f fd o,Cls X.K h/\Meth X.K h m f/\FnOk X.prog X.w X.K X.mg X.base CX k f fd o (u0 X.K (Ph (f6 c m)))/\Room k X.A/\r6 X.K fd o [])
  (e:(apos.endLine==pos.line)=AD) (t:∀i p E,ob≠.Call (.Name i p) [] [] E) (O:PE X ob (up X.K ta)) :
  PE X (.Call (.Attribute ob m apos) [] [] pos) (up X.K λenv st Q=>ta env st λx a=>∃p c b,x=.ref p/\a p=AA (.ins c b)/\b.lookup m=AF/\F (f6 c m)=AD/\Ph (f6 c m) [.ref p] a Q):=by
 intro g s C H Q I q;let{env,st,B,W,T,L,N}:=q;apply HV (thn (O g s C H (λv l=>∃p c b a,v=.ref p/\Ev st H a l/\RelS X.K a l/\a p=AA (.ins c b)/\b.lookup m=AF/\F (f6 c m)=AD/\Ph (f6 c m) [.ref p] a B) I {env,st,_,W,T,L,λv d l a u is j n=>?_}) λu s1 z39=>?_) (ar7 t rfl e)
 ·let{p,c,b,rfl,n}:=n;show⟨p,c,b,a,is.ref_inv,u,j,n⟩
 let{v,l,y,D,p,c,b,a,u,e1,j,h1,h2,Z,Y}:=z39;subst u;cases D;let{h,dx,vs,V,P,r}:=j.ins h1;let{k,f,fd,o,cl,z,Fo,M,S}:=U c h P Z;have R:vs.lookup m=AF:=by
  rcases r.look m with⟨_,G⟩|⟨d',v',l1,_,_⟩
  ·show G
  ·simp_all
 apply ao8 y V cl z R ?_;show LJ y.kIn z.kp (S7 (vs:=[.ref p]) Fo M S .nil J y (.cons rfl .nil) {[.ref p],a,B,by show .cons (.ref p) .nil,j,Y,N.after e1})
def bh6{c}{H1}{st st1}{Qd}{Q}(A:Av X.K AN c=AA (AA (.ref Ca)))(B:Ev st H st1 H1)(w:IsDs X.K H1 ds vs)(l:RelS X.K st1 H1)(y:v0 X.K st H Qd Q)
  (q:∀p,st1 p=AF->sp (.ref p::ds) (b0 st1 p (.ins c [])) λv st2=>v=.non/\Qd (.ref p) st2):∀x a,H1 x=AF->H1 a=AF->a≠x->u0 X.K sp (.ref x::(vs++[])) (upd (upd H1 a (.own x)) x (.ins Ca a [])) (λv H2=>v=.non/\Q (.ref x) H2) E0:=by
 intro x a j e k;have g:TK X.K H1 (upd H1 a (.own x)):=TK.new e;have i:upd H1 a (.own x) x=AF:=j6 (λz=>k z.symm)▸j
 have f:TK X.K (upd H1 a (.own x)) (upd (upd H1 a (.own x)) x (.ins Ca a [])):=TK.new i;apply{.ref x::ds,b0 st1 x (.ins c []),_,by rw[BL];show .cons (.ref x) ((w.mono g).mono f),(l.new e).putAny f {Ca,a,[],t4,A,.nil} (by simp_all),q x (l.free j),λv d H2 st2 ev2 is2 rs2 h=>?_};let{rfl,h}:=h;cases is2;apply{rfl,y _ (.ref x) H2 st2 (λb o hb hs=>?_) (.ref x) rs2 h};let{{o1,n,s},E}:=B b o hb hs;have m:=z6 n j;have u:=z6 n e;let{{t,D,r},C}:=ev2 b o1 (by rwa[j6 m,j6 u]) (G0 m▸E);show{{t,D,s.trans r},C}
def ce5(g:y6 CX X E0){c}{k}{t}{f}(m:Av X.K AN c=AA (AA (.ref Ca)))(M:Mk X.K Ca f)(z:FnOk X.prog X.w X.K X.mg X.base CX k f fd ps (u0 X.K sp))(j:Room (k+1) X.A)(r:Gl X c)(o:X.mg c=AA (.ref Ca))(s:r6 X.K fd ps [])
  (u:PA X (a::es) (upA X.K n t)) (d:(c==("__debug__":Str))=AE) (i:∀e p,a≠.Starred e p) (b:(Bx pos (Ao es X.env)).any (·.1)=AE) :
  PE X (.Call (.Name c p) (a::es) [] pos) (up X.K λenv st Q=>t env st λds st1=>∀p,st1 p=AF->sp (.ref p::ds) (b0 st1 p (.ins c [])) λv st2=>v=.non/\Q (.ref p) st2):=
 PE.imp (ce4 M z j r o s .nil g u d (o7 i) b) λσ H Q q=>by
  let{env,st,B,y,x,h,l}:=q;show{env,st,_,y,x,h,λvs ds H' st' ev is hl rs=>bh6 m ev is rs l}
def b90(b:y6 CX X E0){c}{k}{f}(h:Av X.K AN c=AA (AA (.ref Ca)))(M:Mk X.K Ca f)(n:FnOk X.prog X.w X.K X.mg X.base CX k f fd ps (u0 X.K sp))(e:Room (k+1) X.A)(j:Gl X c)(i:X.mg c=AA (.ref Ca))(l:r6 X.K fd ps [])(a:(c=="__debug__")=AE):
  PE X (.Call (.Name c p) [] [] pos) (up X.K λenv st Q=>∀p,st p=AF->sp [.ref p] (b0 st p (.ins c [])) λv st2=>v=.non/\Q (.ref p) st2):=
 PE.imp (b72 M n e j i l .nil b a) λσ H Q q=>by
  let{env,st,r,o,m,d,g}:=q;show bh6 h Ev.refl .nil m g d
def tyL{K}{st}{d}{v}(b:IsD K H d v)(a:RelS K st H)(h:E4 d st):tyV K "list" v H:=by
 cases d<;>first|show AU h|skip
 let{f,e}:=h;let{vs,c,_}:=a.rd e;rw[b.ref_inv];show .inl ⟨rfl,vs,c⟩
def av5{nm}{id}{r}{g:D->D->Sto->DK->Prop}(k:Slot "list" nm id)(u:La (.builtin id)=pure (.type "method_descriptor"))(R:MtR X id r)
  (U:PE X a (up X.K ta)) (T:PE X b (up X.K tb)) (j:∀i p L,a≠.Call (.Name i p) [] [] L) (z:∀e p,b≠.Starred e p) (h:(apos.endLine==pos.line)=AD)
  (t:∀v w d e H' c m Q,IsD X.K H' d v->IsD X.K H' e w->RelS X.K c H'->g d e c m->v0 X.K c H' m Q->r v [w] H' Q) :
  PE X (.Call (.Attribute a nm apos) [b] [] pos) (up X.K λenv st Q=>ta env st λx st1=>E4 x st1/\tb env st1 λy f=>g x y f Q):=
 PE.imp (dc5 PySem.F.plainAttrs_list k u R U (Q3 T z) (G1 j) (by rw[o7 z];rfl) h (o7 z) rfl) λσ H Q q=>by
  let{env,st,m,E,C,O,P}:=q;apply{env,st,_,E,C,O,λv d H1 st1 G is o B=>{tyL is o B.1,?_}};apply{env,st1,λds f=>match ds with|[e]=>g d e f m|_=>False,E.mono (G.tk C),o,B.2,λvs ds H' c l s S n J=>?_}
  match ds,S with
  |[e],_=>
   let{w,V,rfl,N,M}:=s.inv_cons;rw[M.inv_nil];show t v w d e H' c m Q (is.mono (l.tk o)) N n J ((P.after G).after l)
def c24(n:PE X a (up X.K ta))(m:PE X b (up X.K tb))(f:∀i p k,a≠.Call (.Name i p) [] [] k)(l:∀e p,b≠.Starred e p)(c:(apos.endLine==pos.line)=AD):
  PE X (.Call (.Attribute a "append" apos) [b] [] pos) (up X.K λenv st Q=>ta env st λx st1=>E4 x st1/\tb env st1 λy st2=>ad4 x y st2 Q):=
 av5 PySem.F.slot_list_append PySem.F.type_list_append a97 n m f l c λv w d e H' st' Qd Q i1 i2 rs g hq=>by
  cases d<;>first|show AU g|skip
  let{o,h,hz,g}:=g;let{vs,j,r}:=rs.lst h;rw[i1.ref_inv];show{_,vs,w,rfl,rfl,j,r.len▸hz,hq _ _ _ _ (Ev.put h) .non (rs.putOld j (r.append (.cons i2 .nil))) g}
def bz2 l(c:Array AG)n(b)(a:Array AG)n2(e:Array (Option AG))(j:¬(!c.isEmpty&&CK (c.size+a.size))=AD)(i:c.size<=sizeLine)(g:c.size+a.size<=sizeLine+1):
  Jd (Cr.«list.extend» {[.ref l,.ref b],[]}) (λ_ R s=>s.heap.get? l=AA {cls:=.type "list",dict:=AF,data:=.seq c n,slots:=#[]}/\s.heap.get? b=AA {cls:=.type "tuple",dict:=AF,data:=.seq a n2,slots:=e}/\R (.ok (.ret BQ)) {s with heap:=s.heap.update l (CM λx=>x++a),toks:=s.toks}):=
 .of_wp λprog w A R s h=>by
  let{d,k,h}:=h;have f:(c++a).size<=sizeLine+1:=by simp_all
  wp_walk using(EM d rfl),Gv d,Gv k;show⟨_,rfl,h⟩
abbrev bc0(K:AO):V->List V->Hp->VK->Prop:=λx vs H Q=>∃l b xs zs,x=.ref l/\vs=[.ref b]/\H l=AA (.lst xs)/\SqT K H b zs/\xs.length+zs.length<=sizeLine/\Q .non (upd H l (.lst (xs++zs)))
def bw6:MtM X "list.extend" (bc0 X.K):=by
 intro g s F H x vs v us Q I w y h;let{l,b,L,G,rfl,rfl,i,D,hz,q}:=h;cases w;let{u,rfl,A}:=y.one;cases A;let{z,c,n,r,M,e}:=I.lstM i;let{a,f,{o,E,m,k,B,j},J}:=I.tupleD D;let{cls,dd,p,t}:=o;simp only at m k j;subst m k j;have C:=f.length;have hsz:c.toArray.size+a.toArray.size<=sizeLine:=by rw[Ac,Ac];lia
 have d:¬(!c.toArray.isEmpty&&CK (c.toArray.size+a.toArray.size))=AD:=by
  rw[bb9 hsz,Jp];show AH
 apply Db Ja ⟨_,e,rfl⟩ JN (JE _ _)
  (bz2 l c.toArray n b a.toArray B t d (by rw[Ac];lia) ⋯) {e,E,?_}
 apply{.non,_,I.lset (its':=c++a) i e ∎ (r.append f) ?_,rfl,q};rw[Ad];lia
def cm0:MtM X "list.extend" λx vs H Q=>bh7 x vs H Q\/bc0 X.K x vs H Q:=λpins s σ H x vs v us Q I rx rv h=>h.elim (b38 pins s σ H x vs v us Q I rx rv) (bw6 pins s σ H x vs v us Q I rx rv)
def cq2(u:PE X a (up X.K ta))(t:PE X b (up X.K tb))(g:∀i p q,a≠.Call (.Name i p) [] [] q)(s:∀e p,b≠.Starred e p)(f:(apos.endLine==pos.line)=AD):
  PE X (.Call (.Attribute a "extend" apos) [b] [] pos) (up X.K λenv st Q=>ta env st λx st1=>E4 x st1/\tb env st1 λy st2=>Y3 x y st2 Q):=
 av5 PySem.F.slot_list_extend PySem.F.type_list_extend cm0 u t g s f λv w d e H' st' Qd Q i1 i2 rs c hq=>by
  cases d<;>first|show AU c|(cases e<;>first|show AU c|skip)
  ·let{v,j,hz,c}:=c;let{vs,k,r}:=rs.lst j;let{b,l,rfl,n,h}:=i2.tup_inv;rw[i1.ref_inv];show .inr {_,_,vs,l,rfl,rfl,k,n,by rwa[<-r.len,<-h.len],hq _ _ _ _ (Ev.put j) .non (rs.putOld k (r.append h)) c}
  ·let{v,z,j,m,hz,c}:=c;let{vs,k,r}:=rs.lst j;let{l,o,h}:=rs.lst m;rw[i1.ref_inv,i2.ref_inv];show .inl {_,_,vs,l,rfl,rfl,k,o,by rwa[<-r.len,<-h.len],hq _ _ _ _ (Ev.put j) .non (rs.putOld k (r.append h)) c}
def ca9(z:PE X a (up X.K ta))(v:PE X b (up X.K tb))(f:∀i p q,a≠.Call (.Name i p) [] [] q)(s:∀e p,b≠.Starred e p)(c:(apos.endLine==pos.line)=AD):
  PE X (.Call (.Attribute a "pop" apos) [b] [] pos) (up X.K λenv st Q=>ta env st λx st1=>E4 x st1/\tb env st1 λy st2=>au3 x y st2 Q):=
 av5 PySem.F.slot_list_pop PySem.F.type_list_pop cc5 z v f s c λv w d e H' st' Qd Q i1 i2 rs g hq=>by
  cases d<;>first|show AU g|(cases e<;>first|show AU g|skip)
  let{{G,E},D,k,d,m,t,u,g}:=g;let{vs,l,r}:=rs.lst m;let{n,j,h}:=r.get u;rw[i1.ref_inv,i2.int_inv];let{o,C,B,A}:=as5 t;show{_,vs,_,k,n,rfl,rfl,l,⋯,⋯,(r.len▸o),j,hq _ _ _ _ (Ev.put m) (h.mono (TK.put l)) (rs.putOld l (r.erase k)) g}
def cx4(s:PE X a (up X.K ta))(c:∀i p o,a≠.Call (.Name i p) [] [] o)(b:(apos.endLine==pos.line)=AD):
  PE X (.Call (.Attribute a "pop" apos) [] [] pos) (up X.K λenv st Q=>ta env st λx st1=>ad3 x st1 Q):=
 PE.imp (bj4 PySem.F.plainAttrs_list PySem.F.slot_list_pop PySem.F.type_list_pop cs0 s (G1 c) b) λσ H Q q=>up1 q λv d H' st' Qd is rs f hq=>by
  cases d<;>first|show AU f|skip
  let{h,d,m,f}:=f;let{vs,g,r}:=rs.lst m;have l:=r.len;rw[Ad,IM]at l;let{n,k,j}:=r.get (i:=h.length) (d:=d) ∎;rw[is.ref_inv];apply{.inl {rfl,vs,.inl (.inl g)},_,vs,n,rfl,rfl,g,by rw[<-l];show k,hq _ _ _ (b0 st' _ (.lst h)) (Ev.put m) (j.mono (TK.put g)) (rs.putOld g ?_) f};have e:vs.dropLast=vs.take h.length:=by rw[List.dropLast_eq_take,<-l,JJ]
  rw[e];have q:=r.take h.length
  rwa [Jh]at q
  rfl
end
end
section
variable [Tbs]
end
section
variable [Tbs]
variable{s:AK}{g:Str}{kvs:List (Str×D)}
section
variable {X:Cx} {a b c:AT} {ta tb tc:DT} {pos p:Pos}
@[reducible]noncomputable def L8(h:BA)(a:AI)(T:List (Str×AG)):Prop:=KTD.TabOf (λ(d v:AG)=>v=d) h a T
def L8.typeIs{a}{T}(t:L8 s.heap a T):s.TypeIs (.ref a) "dict":=let⟨_,o,_,_,b,c,_⟩:=t;⟨o,b,c.1⟩
def L8.get{prog:Ag}{w:Aw}{A:BR}{E:AG->AK->Prop}{s:AK}{a:AI}{T:List (Str×AG)}{k:Str}{tk:Tok}{Q:Option AG->AK->Prop}(t:L8 s.heap a T)
  (h:Q (CI k T) {s with toks:=s.toks+1}):AR (model prog w) A (Ke a (.str k tk)) Q E s:=by
 obtain⟨_,o,⟨l⟩,n,c,m,f,b⟩:=t;apply AC (FK (AC (KTD.kt_dictFind_strs (s:={s with toks:=s.toks+1}) c f (by simpa using b.exact) ?_)));have e:CI k T=(l.find? λe=>e.key.isStr k).map (·.val):=by
  cases hat:CI k T with
  |some d=>let{v,g,rfl}:=b.find_some hat;show g.symm
  |none=>show(b.find_none hat).symm
 have j:findBy (λk v=>v.isStr k) (⟨l⟩:Array Dv) k=CI k T:=by rw[e];simp[findBy]
 rw[<-j,findBy_of_findIdx?]at h;cases hi:(⟨l⟩:Array Dv).findIdx? λe=>e.key.isStr k with
 |none=>rw[hi]at h;show AL h
 |some i=>rw[hi]at h;show AC (wpAny_dictEntries (s:={s with toks:=s.toks+1}) c f (AL h))
def bv2{prog}{w}{A}{E}{a}{T}{k}{tk}{u}{Q}(H:L8 s.heap a T)(b:CI k T=AA u)
  (h:Q u {s with toks:=s.toks+1}):AR (model prog w) A (Dz (.ref a) (.str k tk)) Q E s:=by
 unfold Dz
 try with_reducible apply Bg ?_
 apply AC (HB H.typeIs ∅ ?_);apply AC (BP H.typeIs Kf
  (BN Kf H.typeIs entry_dict_getitem ?_ (args_dict_getitem _ _)))
 change AR _ _ (Ke a (.str k tk)>>=_) _ _ s;apply AC (H.get ?_);rw[b];show AL {u,rfl,AL h}
def L8.dget{prog:Ag}{w:Aw}{A:BR}{E:AG->AK->Prop}{a:AI}{T:List (Str×AG)}{k:Str}{tk:Tok}{r:AG}{Q:AG->AK->Prop}(t:L8 s.heap a T)
  (h:Q ((CI k T).getD r) {s with toks:=s.toks+1}):AR (model prog w) A (call (.builtin "dict.get") [.ref a,.str k tk,r]) Q E s:=by
 apply BN PySem.F.slot_dict_get t.typeIs PySem.F.entry_dict_get ?_ (PySem.F.args_dict_get_3 _ _ _);change AR _ _ (Ke a (.str k tk)>>=_) _ _ s;apply AC (t.get ?_);cases hf:CI k T with
 |some v=>rw[hf]at h;show AL ⟨v,rfl,h⟩
 |none=>
  rw[hf]at h;change AR _ _ (LN a (.str k tk)>>=_) _ _ _;show AC (wpAny_missed_other t.1 (AL ⟨r,rfl,h⟩))
structure GTab(P:Ag)(w:Aw)(K:AO)(mg:Str->Option AG)(g:Str)(kvs:List (Str×D)):Prop where
 ex:∃(a:AI)(T:List (Str×AG)),mg g=AA (.ref a)/\(∀h:BA,K.In h->L8 h a T)/\(∀x d,u6 kvs x=AA d->∃u v,CI x T=AA u/\i7 v u/\∀H,IsD K H d v)/\∀x,u6 kvs x=AF->CI x T=AF
def cj3(T:kvs≠[]->GTab X.prog X.w X.K X.mg g kvs)(L:Gl X g)(M:PE X b (up X.K tb))(E:∀l u s p,b≠.Slice l u s p)(k:(g=="__debug__")=AE):
  PE X (.Subscript (.Name g p) b pos) (up X.K λenv st Q=>kvs≠[]/\tb env st λx st1=>∃w d,x=.str w/\u6 kvs w=AA d/\Q d st1):=by
 intro e s m H Q I q;let{env,st,o,P,O,{j,f},i}:=q;let{t,vs,G,N,J,_}:=(T j).ex;have q:up X.K (λenv st Q=>tb env st λx st1=>∃w d,x=.str w/\u6 kvs w=AA d/\Q d st1) m H Q:=⟨env,st,o,P,O,f,i⟩;apply cm1 PySem.F.slot_dict_getitem.lookup (a05 E) (M9 I L G ?_ k);apply thn (M e s m H (λv H1=>∃(w:Str)(d:D),v=.str w/\u6 kvs w=AA d/\∀c,IsD X.K H1 d c->Q c H1) I (up1 q λv d H' st' o is rs f i=>?_)) λiv s2 z40=>?_
 ·let{w,d,rfl,h,f}:=f;show{w,d,is.str_inv,h,λv' a=>i.here a rs f}
 ·let{y,z,r,A,w,d,S,h,C}:=z40;subst S;let{U,rfl}:=A;let{u,c,R,B,a}:=J w d h;have n:=N s2.heap r.kIn;show{n.typeIs,bv2 n R {c,z,r.tok _,B,C c (a z)}}
def cg5{apos}(T:kvs≠[]->GTab X.prog X.w X.K X.mg g kvs)(V:Gl X g)(W:PE X b (up X.K tb))(r:PE X c (up X.K tc))(P:∀e p,b≠.Starred e p)(k:∀e p,c≠.Starred e p)(i:(apos.endLine==pos.line)=AD)(n:(g=="__debug__")=AE):
  PE X (.Call (.Attribute (.Name g p) "get" apos) [b,c] [] pos) (up X.K λenv st Q=>kvs≠[]/\tb env st λx f=>tc env f λy a=>∃w,x=.str w/\Q ((u6 kvs w).getD y) a):=by
 intro h s A H Q I q;let{env,st,L,G,E,{m,O},B}:=q;let{t,vs,S,D,U,l}:=(T m).ex;have J:Bx pos (Ao [b,c] X.env)=[(AE,eval b X.env),(AE,eval c X.env)]:=by rw[o7 P,o7 k];rfl
 apply KZ (G1 (λ_ _ _=>nofun)) (by rw[J];rfl) i PySem.F.plainAttrs_dict PySem.F.slot_dict_get PySem.F.type_dict_get (M9 I V S ?_ n);have C:=D s.heap I.kIn;apply{C.typeIs,λb e=>?_,?_}
 ·injection e with e
  subst e;let{_,o,_,_,R,r,_}:=C;show⟨o,R,r.2.1⟩
 ·rw[J];apply DU rfl (FP (DJ (thn (W h s A H (λv H1=>∃d f,Ev st H f H1/\IsD X.K H1 d v/\RelS X.K f H1/\tc env f λy a=>∃w,d=.str w/\L ((u6 kvs w).getD y) a) I {env,st,_,G,E,O,λv d H' st' ev is rs q=>⟨d,st',ev,is,rs,q⟩}) λiv s2⟨y,H2,I2,ry,d,f,ev1,is1,rs1,q1⟩=>
   DJ (thn (r h s2 A H2 (λv H3=>∃e a,Ev f H2 a H3/\IsD X.K H3 e v/\RelS X.K a H3/\∃w,d=.str w/\L ((u6 kvs w).getD e) a) I2 {env,f,_,G.mono (ev1.tk E),rs1,q1,λv d H' st' ev is rs q=>⟨d,st',ev,is,rs,q⟩}) λfv s3⟨z,H3,I3,rz,e,a,ev2,is2,rs2,w,ew,q2⟩=>EQ ?_))))
  subst ew;rw[is1.str_inv]at ry;let{tt,rfl}:=ry;apply(D s3.heap I3.kIn).dget ?_;cases lk:u6 kvs w with
  |some Z=>
   let{u,M,Y,N,j}:=U w Z lk;rw[lk]at q2;rw[Y];show{M,H3,I3.tok _,N,(B.after (ev1.trans ev2)).here (j H3) rs2 q2}
  |none=>
   rw[lk]at q2;rw[l w lk];show{z,H3,I3.tok _,rz,(B.after (ev1.trans ev2)).here is2 rs2 q2}
abbrev S9:List Key->List AG->Bool
 |[],us=>us.isEmpty
 |k::ks,us=>EA (motive:=λ_=>Bool) us AE λu us=>Sum.casesOn (motive:=λ_=>Bool) k (λi=>Ge i u) (λx=>HP x u)&&S9 ks us
theorem S9.is:∀{ks}{us},S9 ks us=AD->i5 (ks.map kV) us
 |[],[],_=>.nil
 |.inl i::ks,u::us,h=>have h:=FR.mp h;.cons (GF h.1) (S9.is h.2)
 |.inr x::ks,u::us,h=>have h:=FR.mp h;.cons (IR h.1) (S9.is h.2)
abbrev ax8(ks:List Key):Option Obj->Bool
 |some o=>(match o.data with|.seq its _=>(o.cls==.type "tuple")&&o.dict.isNone&&AB (its.size<=1000)&&(S9 ks its.toList&&D.pures (ks.map kD))|_=>AE)
 |none=>AE
abbrev N7(K:AO):D->AG->Bool
 |.int j,u=>Ge j u
 |.fn f,.ref a=>Av K AN f==AA (AA (.ref a))
 |.ktup ns,.ref a=>ax8 ns (K.lookup a)
 |_,_=>AE
theorem N7.is{K:AO}{d:D}{u:AG}(h:N7 K d u=AD):∃v,i7 v u/\∀H,IsD K H d v:=by
 cases d<;>first|show{.int _,GF h,λH=>.int _}|(cases u<;>first|show nomatch (show AE=AD from h)|skip)
 ·show{.ref _,rfl,λH=>.fn (Kv h)}
 ·rename_i f a;have h:ax8 f (K.lookup a)=AD:=h;cases hk:K.lookup a with
  |none=>rw[hk]at h;cases h
  |some o=>
   let{c,d,x,g}:=o;rw[hk]at h;cases x<;>first|show nomatch (show AE=AD from h)|skip
   rename_i e n;erw[ax8,BJ,beq_iff_eq,decide_eq_true_eq]at h;show{.ref a,rfl,λH=>.ktup (.inr {_,e,n,hk,h.1.1.1,by simpa using h.1.1.2,rfl,BB h.1.2 ∅,S9.is h.2.1}) h.2.2}
abbrev av6(K:AO)(e:Dv)(p:Str×D):Bool:=(match e.key with|.str x _=>x==p.1|_=>AE)&&N7 K p.2 e.val
abbrev X1(K:AO):List Dv->List (Str×D)->Bool
 |[],[]=>AD
 |e::es,p::ps=>av6 K e p&&X1 K es ps
 |_,_=>AE
abbrev X6(K:AO)(a:AI)(kvs:List (Str×D)):Bool:=match K.lookup a with
 |some ⟨c,dd,.dict es _,sl⟩=>(c==.type "dict")&&dd.isNone&&sl.isEmpty&&X1 K es.toList kvs&&!(a==CZ)
 |_=>AE
abbrev X9:List Dv->List (Str×D)->List (Str×AG)
 |e::es,(x,_)::r=>(x,e.val)::X9 es r
 |_,_=>[]
theorem be2{K}:∀(b)a,X1 K b a=AD->KTD.Rows (λd v=>v=d) b (X9 b a)
 |[],[],_=>.nil
 |[],_::_,h'=>by cases h'
 |_::_,[],h'=>by cases h'
 |e::b,(x,d)::f,h'=>by
  erw[X1,av6,BJ]at h';let{{c,_},g}:=h'
  split at c
  ·rename_i y t h;have:=by simpa using c
   subst this;show .cons h rfl (be2 b f g)
  ·cases c
theorem ap9{K}:∀a(b),X1 K b a=AD->∀x,(∀d,u6 a x=AA d->∃u v,CI x (X9 b a)=AA u/\i7 v u/\∀H,IsD K H d v)/\(u6 a x=AF->CI x (X9 b a)=AF)
 |[],[],_,x=>{λd h=>(nomatch h),λ_=>rfl}
 |[],_::_,h',x=>by cases h'
 |(y,e)::r,[],h',x=>by cases h'
 |(y,e)::r,l::b,h',x=>by
  erw[X1,av6,BJ]at h';let{{_,j},i}:=h';have k:=ap9 r b i x;erw[u6,X9,CI]
  by_cases c:y=x
  ·rw[if_pos c,if_pos (by simp[c])];let{v,f,g}:=N7.is j;show{λd h=>by cases h;show⟨_,v,rfl,f,g⟩,λh=>by cases h}
  ·rwa[if_neg c,if_neg (by simp[Ax c])]
def af6{P}{w}{K}{mg}{h}{a}(o:K.In h)(G:h.Ns AN mg)(n:Av K AN g=AA (AA (.ref a)))(b:X6 K a kvs=AD):GTab P w K mg g kvs:=by
 unfold X6 at b
 split at b
 ·rename_i c dd e i p f;erw[BJ,beq_iff_eq,Fa]at b;let{{{{m,l},k},d},j}:=b;apply{a,X9 e.toList kvs,Fw o G n,λh' hK'=>{j,_,e,i,hK' a _ f,{m,by simpa using l,by simpa using k},rfl,be2 _ _ d},λx=>(ap9 kvs _ d x).1,λx=>(ap9 kvs _ d x).2}
 ·cases b
end
end
section
variable [Tbs]
variable{q:AI}{ds:List D}{H1:Hp}
section
variable {X:Cx} {a b c:AT} {ta tb tc:DT} {pos p:Pos}
structure ItOk(K:AO)(H1:Hp)(J:L2.It)(items:List D)(chk:Sto->Prop):Prop where
 go:∀(i:Nat)st H,TK K H1 H->RelS K st H->chk st->i<items.length->J.go i H
 yld:∀(i:Nat)st H x H',TK K H1 H->RelS K st H->chk st->i<items.length->J.yld i H x H'->∃d,items[i]?=AA d/\IsD K H' d x/\Ev st H st H'/\RelS K st H'
 stop:∀st H,TK K H1 H->RelS K st H->chk st->J.stop items.length H
abbrev upI(K:AO)(t:i9->Sto->ItK->Prop):TI:=λσ H R=>∃env st k,RelE K H env σ/\RelS K st H/\t env st k/\∀items chk st' H' J,Ev st H st' H'->RelS K st' H'->ItOk K H' J items chk->k items chk st'->R J H'
def _root_.L2.PI.imp{X}{tg x}{t t'}(h:PI X tg x t)(i:∀a H Q,t' a H Q->t a H Q):PI X tg x t':=λpins s a H Q I q=>h pins s a H Q I (i a H Q q)
variable {K:AO}
def cy1{vs:List V}(a:SqT K H1 q vs)(r:IsDs K H1 ds vs):ItOk K H1 (Itt K q) ds (λ_=>True) where
 go:=λi st H tk rs _ hi=>by
  let{v,c,_}:=r.get (AJ hi);show{vs,v,tk.1.1 _ _ a,c}
 yld:=λi st H x H' tk rs _ hi y=>by
  let{rfl,y}:=y;let{d,e,b}:=r.get' (y vs (tk.1.1 _ _ a));show{d,e,b.mono tk,Ev.refl,rs}
 stop:=λst H tk rs _=>{vs,tk.1.1 _ _ a,r.len▸AS _}
def cp1:ItOk K H1 (Itl K q) ds λst=>rdS st q ds where
 go:=λi st H tk rs hc hi=>by
  let{vs,a,r}:=rs.rd hc;let{v,c,_}:=r.get (AJ hi);show⟨vs,v,a,c⟩
 yld:=λi st H x H' tk rs hc hi y=>by
  let{rfl,y}:=y;let{vs,a,r}:=rs.rd hc;let{d,e,b}:=r.get' (y vs a);show⟨d,e,b,Ev.refl,rs⟩
 stop:=λst H tk rs hc=>by
  let{vs,a,r}:=rs.rd hc;show{vs,a,r.len▸AS _}
def bn4{lo}{n}:ItOk K H1 (Itr lo n) (p8 lo n) (λ_=>True) where
 go:=λi st H tk rs _ hi=>by change i<n;simpa[p8]using hi
 yld:=λi st H x H' tk rs _ hi y=>by
  let{rfl,rfl}:=y;have a:=by simpa[p8]using hi
  show{.int (lo+i),by simp[p8,a],.int _,Ev.refl,rs}
 stop:=λst H tk rs _=>by change n<=(p8 lo n).length;simp[p8]
theorem ap5:∀a(k),(t9 k a).length=a.length
 |[],_=>rfl
 |d::a,k=>by simp[t9,ap5 a (k+1)]
theorem a78:∀a(k i:Nat)(d:D),a[i]?=AA d->(t9 k a)[i]?=AA (.tup [.int ((k+i:Nat)),d])
 |[],k,i,d,h=>by simp at h
 |e::a,k,0,d,h=>by simp at h;subst h;rfl
 |e::a,k,i+1,d,h=>by
  have:=a78 a (k+1) i d (by simpa using h);have e:k+(i+1)=k+1+i:=by lia
  rw[e];simpa[t9]using this
def bg8{sq}{chk}(h:∀st H,TK K H1 H->RelS K st H->chk st->∃vs,sq H vs/\IsDs K H ds vs):ItOk K H1 (Ite K sq) (t9 0 ds) chk where
 go:=λi st H tk rs hc hi=>by
  let{vs,a,r}:=h st H tk rs hc;rw[ap5]at hi;let{v,f,_}:=r.get (AJ hi);show⟨vs,v,a,f⟩
 yld:=λi st H x H' tk rs hc hi y=>by
  let{t,v,b,rfl,rfl,y}:=y;let{vs,a,r}:=h st H tk rs hc;let{d,g,c}:=r.get' (y vs a);apply{_,a78 ds 0 i d g,IsD.mk (SqX.of t4) (.cons ?_ (.cons (c.mono (TK.new b)) .nil)),Ev.new b,rs.new b};have e:0+i=i:=by simp
  rw[e];show .int _
 stop:=λst H tk rs hc=>by
  let{vs,a,r}:=h st H tk rs hc;show{vs,a,by rw[ap5,r.len]}
def cy7:ItOk K H1 (Itv K q ds.length) ds.reverse λst=>rdS st q ds where
 go:=λi st H tk rs hc hi=>by
  let{vs,a,r}:=rs.rd hc;show{⟨vs,a,r.len.symm⟩,by simp_all}
 yld:=λi st H x H' tk rs hc hi y=>by
  let{rfl,y}:=y;let{vs,a,r}:=rs.rd hc;have b:i<ds.length:=by simp_all
  let{d,e,c}:=r.get' (y vs a);show{d,FH b▸e,c,Ev.refl,rs}
 stop:=λst H tk rs hc=>by
  let{vs,a,r}:=rs.rd hc;show{⟨vs,a,r.len.symm⟩,∎}
variable {tg:AT}
def c19(C:PE X a (up X.K ta)):PI X tg a (upI X.K λenv st k=>ta env st λd b=>(∃c,d=.tup c/\k c (λ_=>True) b)\/∃a c,d=.ref a/\rdS b a c/\k c (λst'=>rdS st' a c) b):=by
 intro l s y H R I q;let{env,st,w,E,D,A,x}:=q;apply thn (C l s y H (λv g=>∃d b,Ev st H b g/\IsD X.K g d v/\RelS X.K b g/\((∃c,d=.tup c/\w c (λ_=>True) b)\/∃a c,d=.ref a/\rdS b a c/\w c (λst'=>rdS st' a c) b)) I {env,st,_,E,D,A,λv d g b n m j i=>⟨d,b,n,m,j,i⟩}) λu s1 z41=>?_
 let{v,g,h,p,d,b,n,m,j,i}:=z41;rcases i with⟨c,rfl,i⟩|⟨q,c,rfl,B,i⟩
 ·let{q,vs,rfl,f,r}:=m.tup_inv;cases p;let{u,z,t,hz}:=h.tuple f;apply Dc (t) ?_;apply{s1.heap.objs.size,[s1.heap.objs.size],_,_,g,rfl,h.kept λb o=>AM _,by3 q _,{_,Ae _ rfl,rfl,rfl},λb hb=>?_,x c _ b g _ n j (cy1 f r) i};have e:=by simpa using hb
  subst e;show h.fpOk (AS _) (h.hok.fresh (AS _))
 ·rw[m.ref_inv]at p;cases p;let{vs,f,r}:=j.rd B;let{u,z,t,hz}:=h.list f;apply HH t.isList ?_;apply{s1.heap.objs.size,[s1.heap.objs.size],_,_,g,rfl,h.kept λb o=>AM _,b22 q _,{_,Ae _ rfl,rfl,rfl},λb hb=>?_,x c _ b g _ n j cp1 i};have e:=by simpa using hb
  subst e;show h.fpOk (AS _) (h.hok.fresh (AS _))
def ct3(o:Gl X "range")(n:X.mg "range"=AF)(r:PE X a (up X.K ta))(c:∀e p,a≠.Starred e p):PI X tg (.Call (.Name "range" p) [a] [] pos) (upI X.K λenv st k=>ta env st λd st1=>∃j:Int,d=.int j/\(-2^62<=j/\j<2^62)/\k (p8 0 j.toNat) (λ_=>True) st1):=
 PI.imp (b11 o n (Q3 r c) (by rw[o7 c];rfl)) λσ H R q=>by
  let{env,st,g,t,s,l,m}:=q;apply{env,st,λds st1=>match ds with|[d]=>∃j:Int,d=.int j/\(-(2^62)<=j/\j<2^62)/\g (p8 0 j.toNat) (λ_=>True) st1|_=>False,t,s,l,λvs ds H' st' ev is hl rs b=>?_}
  match ds,hl with
  |[d],_=>
   let{v,u,rfl,i,h}:=is.inv_cons;rw[h.inv_nil];let{j,rfl,f,b}:=b;show{j,by rw[i.int_inv],f.1,f.2,m _ _ st' H' _ ev rs bn4 b}
def cg0(y:Gl X "range")(u:X.mg "range"=AF)(A:PE X a (up X.K ta))(z:PE X b (up X.K tb))(g:∀e p,a≠.Starred e p)(c:∀e p,b≠.Starred e p):PI X tg (.Call (.Name "range" p) [a,b] [] pos) (upI X.K λenv st k=>ta env st λd st1=>tb env st1 λe st2=>∃i j:Int,d=.int i/\e=.int j/\(-(2^62)<=i/\i<2^62/\-(2^62)<=j/\j<2^62)/\k (p8 i (j-i).toNat) (λ_=>True) st2):=
 PI.imp (bz6 y u (ag6 A z g c) (by rw[o7 g,o7 c];rfl) (by rw[o7 c];rfl)) λσ H R q=>by
  let{env,st,l,C,B,s,t}:=q;apply{env,st,(λds st1=>match ds with|[d,e]=>∃i j:Int,d=.int i/\e=.int j/\(-(2^62)<=i/\i<2^62/\-(2^62)<=j/\j<2^62)/\l (p8 i (j-i).toNat) (λ_=>True) st1|_=>False),C,B,s,λvs ds H' st' ev is hl rs f=>?_}
  match ds,hl with
  |[d,e],_=>
   let{v,D,rfl,r,o}:=is.inv_cons;let{w,h,rfl,n,m}:=o.inv_cons;rw[m.inv_nil];let{i,j,rfl,rfl,x,f}:=f;show{i,j,by rw[r.int_inv,n.int_inv],x,t _ _ st' H' _ ev rs bn4 f}
def co0{t:List AT}{k0}{tp}(J:Gl X "enumerate")(G:X.mg "enumerate"=AF)(L:PE X a (up X.K ta))(z:∀e p,a≠.Starred e p):PI X (.Tuple t k0 tp) (.Call (.Name "enumerate" p) [a] [] pos)
  (upI X.K λenv st k=>ta env st λd b=>(∃ds,d=.tup ds/\k (t9 0 ds) (λ_=>True) b)\/(∃a ds,d=.ref a/\rdS b a ds/\k (t9 0 ds) (λst'=>rdS st' a ds) b)):=by
 have y:Ao [a] X.env=[(AE,eval a X.env)]:=by rw[o7 z];rfl
 intro o s B H R I q;let{env,st,w,N,M,E,A}:=q;have O:=Q3 L z;apply JW (L6 I J G L2.bt7 (BF (thn (O pos o s B H (λvs H1=>∃v d b,vs=[v]/\Ev st H b H1/\IsD X.K H1 d v/\RelS X.K b H1/\((∃ds,d=.tup ds/\w (t9 0 ds) (λ_=>True) b)\/(∃a ds,d=.ref a/\rdS b a ds/\w (t9 0 ds) (λst'=>rdS st' a ds) b))) I
  ⟨env,st,(λds b=>match ds with|[d]=>(∃ds,d=.tup ds/\w (t9 0 ds) (λ_=>True) b)\/(∃a ds,d=.ref a/\rdS b a ds/\w (t9 0 ds) (λst'=>rdS st' a ds) b)|_=>False),N,M,E,λvs ds H' st' ev is hl rs j=>by
   match ds,hl with
   |[d],_=>
    let{v,P,rfl,D,C}:=is.inv_cons;rw[C.inv_nil];show⟨v,d,st',rfl,ev,D,rs,j⟩⟩) λus s1⟨vs,H1,I1,r1,v,d,b,e1,ev,is,rs,j⟩=>?_) y rfl))
 subst e1;let{u,rfl,x}:=r1.one
 rcases j with⟨ds,rfl,j⟩|⟨q,ds,rfl,F,j⟩
 ·let{l,vs,rfl,i,r}:=is.tup_inv;cases x;show b75 I1 i (A _ _ b H1 _ ev rs (bg8 λst H tk rs _=>{vs,tk.1.1 _ _ i,r.mono tk}) j)
 ·rw[is.ref_inv]at x;cases x;let{vs,i,r}:=rs.rd F;show b95 I1 i (A _ _ b H1 _ ev rs (bg8 λst H tk rs hc=>rs.rd hc) j)
def cu6(B:Gl X "reversed")(z:X.mg "reversed"=AF)(C:PE X a (up X.K ta))(n:∀e p,a≠.Starred e p):PI X tg (.Call (.Name "reversed" p) [a] [] pos) (upI X.K λenv st k=>ta env st λd b=>∃a ds,d=.ref a/\rdS b a ds/\k ds.reverse (λst'=>rdS st' a ds) b):=
 PI.imp (ch8 B z (Q3 C n) (by rw[o7 n];rfl)) λσ H R q=>by
  let{env,st,o,E,D,w,y}:=q;apply{env,st,λds b=>match ds with|[d]=>∃a ds,d=.ref a/\rdS b a ds/\o ds.reverse (λst'=>rdS st' a ds) b|_=>False,E,D,w,λvs ds H' st' F s A m i=>?_}
  match ds,A with
  |[d],_=>
   let{v,G,rfl,u,t}:=s.inv_cons;rw[t.inv_nil];let{q,ds,rfl,x,i}:=i;let{vs,j,r}:=m.rd x;show{q,vs,by rw[u.ref_inv],j,(r.len▸y _ _ st' H' _ F m cy7 i)}
end
end
end Ek
namespace PySem
open PyProof.Rows
namespace F
def az1:Manifest.owners.lookup (String.ofList ['d','e','s','r','e','v','e','r'].reverse)=AA Manifest.sig_reversed:=by kernel_rfl
def ek_slot_rev_next:Slot "reversed" "__next__" "reversed.__next__":=
 .of (owner:="reversed") (n:="__next__") (by kernel_rfl) (by decide+kernel) (by decide+kernel) (by decide+kernel)
  (by first|show .inl (by decide+kernel)|show .inr (by decide+kernel)) (by kernel_rfl)
def bt3:Slot "reversed" "__init__" "object.__init__":=
 .of (owner:="object") (n:="__init__") (by kernel_rfl) (by decide+kernel) (by decide+kernel) (by decide+kernel)
  (by first|show .inl (by decide+kernel)|show .inr (by decide+kernel)) (by kernel_rfl)
def ek_slot_rev_iter:Slot "reversed" "__iter__" "reversed.__iter__":=
 .of (owner:="reversed") (n:="__iter__") (by kernel_rfl) (by decide+kernel) (by decide+kernel) (by decide+kernel)
  (by first|show .inl (by decide+kernel)|show .inr (by decide+kernel)) (by kernel_rfl)
def ek_entry_rev_next:entryFor table "reversed.__next__"=AA Cr.«reversed.__next__»:=entryFor_of_tree rfl
def ek_entry_rev_iter:entryFor table "reversed.__iter__"=AA Cr.«dict_keyiterator.__iter__»:=
 entryFor_alias (id':="dict_keyiterator.__iter__") (rfl) (rfl) (by decide+kernel) (rfl)
def ek_args_rev_next a:Ll "reversed.__next__" {[a],[]}:=by
 kernel_rfl
def ek_args_rev_iter a:Ll "reversed.__iter__" {[a],[]}:=by
 kernel_rfl
def ek_called_reversed:TypeCalled "reversed" "reversed.__new__" "object.__init__":=
 {rfl,by decide+kernel,⟨_,_,mro_reversed⟩,made_reversed,by decide+kernel,by kernel_rfl,bt3}
def ek_tuple_no_rev:Gn (.type "tuple") "__reversed__"=pure AF:=by kernel_rfl
def ek_sub_tuple_dict:isSubtype (.type "tuple") (.type "dict")=pure AE:=rfl
end F
abbrev af7(l:AI)(i:Int):Obj:={cls:=.type "reversed",data:=.fields #[.ref l,By i]}
def by2 l(a:Array AG)(c:(a.size:Int)<2^63):
  Jd (Cr.«reversed.__new__» {[.type "reversed",.ref l],[]}) (λ_ R s=>IG s.heap l a/\∀tk,R (.ok (.ret (.ref s.heap.objs.size))) {s with heap:=s.heap.push (af7 l (a.size-1)),toks:=tk}):=
 .of_wp λprog w A R s h=>by
  let{e,h}:=h;have d:=F.sub_reversed_self;have b:=e.typeIs;wp_walk using Bt b F.ek_tuple_no_rev,FL b F.ek_sub_tuple_dict,Bt b Eg.lookup,len_tuple e c
  show{_,rfl,h _}
variable{l:AI}
abbrev G2(h:BA)(a l:AI)(i:Int):Prop:=∃o,h.get? a=AA o/\o.cls=.type "reversed"/\o.data=.fields #[.ref l,By i]
section
variable {prog:Ag} {w:Aw} {A:BR} {E:AG->AK->Prop} {s:AK}
def G2.typeIs{a}{i}(x:G2 s.heap a l i):s.TypeIs (.ref a) "reversed":=let⟨o,b,c,_⟩:=x;⟨o,b,c⟩
def G2.stay{h h'}{a}{i}(x:G2 h a l i)(e:∀o,h.get? a=AA o->h'.get? a=AA o):G2 h' a l i:=let⟨o,b,r⟩:=x;{o,e _ b,r}
def b09{items}{Q}(b:IG s.heap l items)(a:(items.size:Int)<2^63)
  (h:∀tk,Q (.ref s.heap.objs.size) {s with heap:=s.heap.push (af7 l (items.size-1)),toks:=tk}):AR (model prog w) A (call (.type "reversed") [.ref l]) Q E s:=by
 show JH F.ek_called_reversed ∅ (F.typeCall_reversed_1 _) (F.newCall_reversed_1 _) (λobj=>JI obj _) F.entry_reversed_new (by2 l items a) {b,λtk=>{{_,Ae _ rfl,rfl},h tk}}
end
end PySem
namespace PySem
open PyProof.Rows
section
variable {prog:Ag} {w:Aw} {A:BR} {E:AG->AK->Prop} {s:AK}
def az4{it l}{i}{Q}(a:G2 s.heap it l i)(h:Q (.ref it) s):AR (model prog w) A (HQ (.ref it)) Q E s:=by
 show Kg a.typeIs F.ek_slot_rev_iter (BN F.ek_slot_rev_iter a.typeIs F.ek_entry_rev_iter (AL {_,rfl,"reversed",_,a.typeIs,F.ek_slot_rev_next.lookup,h}) (F.ek_args_rev_iter _))
end
end PySem
namespace L2
open PySem PySem.Spec PyProof.Rows
end L2
namespace Ek
open PySem PySem.Spec PyProof.Rows L2
variable [Tbs]
end Ek
namespace PySem
open PyProof.Rows
section
variable {prog:Ag} {w:Aw} {A:BR} {E:AG->AK->Prop} {s:AK}
def bt1{it l}{i:Nat}{items}{x}{Q}(b:G2 s.heap it l (i:Int))(f:IG s.heap l items)(e:items[i]?=AA x)(g:(items.size:Int)<2^63)
  (k:∀h' tk,G2 h' it l ((i:Int)-1)->Bf it s.heap h'->Q (AA x) {s with heap:=h',toks:=tk}):AR (model prog w) A (Ee (.ref it)) Q E s:=by
 let{o,d,h,c}:=id b;have hi:i<items.size:=(Bo.mp e).1;apply AC (FE (BP b.typeIs F.ek_slot_rev_next
  (BN F.ek_slot_rev_next b.typeIs F.ek_entry_rev_next ?_ (F.ek_args_rev_next _))))
 apply AC (Hi (a:=(Aq it,[])) rfl ?_)
 apply AC (As d c (x:=.ref l) rfl ?_);apply AC (As d c (x:=By (i:Int)) rfl ?_);change AR _ _ (if(i:Int)<0 then _ else _) _ _ s;apply AC (Bt f.typeIs Eg.lookup ?_);apply AC (wpAny_mkInt ?_);apply AC (FE (getItem_tuple (j:=i) (x:=x) f ⋯ ⋯ ?_ e ?_))
 ·unfold Im;simp;lia
 apply AC (As d c (x:=By (i:Int)) rfl ?_);apply AC (Cm d c ∎ ?_);apply AL {x,rfl,AL (k _ _ ?_ (Bb ..))};show{_,Bn _ d (CN (Bi c _)),(GX ..).trans h,by
  rw[Bi c];simp}
def bt4{e l:AI}{Q:Option AG->AK->Prop}(g:A.handled=AF)(c:G2 s.heap e l (-1))
  (h:∀h',Gp e s.heap h'->Q AF {s with heap:=h'}):AR (model prog w) A (Ee (.ref e)) Q E s:=by
 let{o,f,i,d}:=id c;unfold Ee;apply AC (FE (BP (name:=Aa "__next__") c.typeIs F.ek_slot_rev_next
  (BN F.ek_slot_rev_next c.typeIs F.ek_entry_rev_next ?_ (F.ek_args_rev_next _))))
 apply AC (Hi (a:=(Aq e,[])) rfl ?_)
 try dsimp only
 apply AC (As f d (x:=.ref l) rfl ?_);apply AC (As f d (x:=By (-1)) rfl ?_);change AR _ _ (if(-1:Int)<0 then _ else _) _ _ s;apply AC (DZ ?_);apply AC (AC (Cm f d ∎ ?_));apply Cm (Bn _ f (CN (Bi d _))) (Bi d _) ∎ ?_;apply AC ?_;apply AC ?_;erw[Lj,newTuple];apply AC (m:=GK _ _) (Hi (a:=BQ) (by first|rfl|(erw[GK];rfl)) ?_);apply BZ ?_ (by size_fits);apply AC (wpAny_handled ?_)
 first|rw[show A.in1.handled=AF from g]|rw[g]
 apply AC (AL (wpAny_throw ?_));apply AC (FL (T:="StopIteration") (b:=AD) {_,Ae _ rfl,rfl} Ln ?_);show AL (h _ ((((Bb ..).extBut.trans (Bb ..).extBut).push _).push _))
end
end PySem
namespace L2
open PySem PySem.Spec PyProof.Rows
abbrev Itw(K:AO)(a:AI)(n:Nat):It:=
 {λi H=>(∃xs,SqT K H a xs/\xs.length=n)/\i<n,λi H x H'=>H'=H/\∀xs,SqT K H a xs->xs[n-1-i]?=AA x,λi H=>(∃xs,SqT K H a xs/\xs.length=n)/\i=n}
def b07{P:Ag}{w:Aw}{K:AO}{N:AT}(a g:AI)(n:Nat):Turn P w K N (Itw K a n) [g] g (λi h=>G2 h g a ((n:Int)-1-(i:Int))) where
 mem:=by simp
 obj:=λi h st b hb=>by
  let{o,e,c,d}:=st;rw[show b=g by simpa using hb];show{o,e,λv z=>by rw[d]at z;cases z}
 keep:=λi h h' st k=>st.stay λo e=>k g ∎ o e
 item:=by
  intro X L F M J i f s B H E I m st q;subst L F M;let{{j,G,T},hi}:=q;subst T;let{p,C,Q,hz}:=I.tuple G;obtain⟨x,D⟩:∃x,j[j.length-1-i]?=AA x:={_,AJ ⋯};let{u,R,O}:=C.get D;let{A,y,U,v,t,r}:=m g ∎;have l:(p.toArray.size:Int)<2^63:=by
   rw[Ac,<-C.length];have S:sizeLine<2^62:=by decide+kernel
   lia
  rw[show(j.length:Int)-1-(i:Int)=((j.length-1-i:Nat):Int) by lia]at st;apply bt1 st Q (x:=u) (by simpa using R) l λh' tk st' sb=>?_;have W:Inv X f B H {s with heap:=h',toks:=tk}:=I.turned (t':=tk) (λb o hb e=>(sb.2 b hb).trans e) A y v t r;let{o,V,c,d}:=id st';rw[show((j.length-1-i:Nat):Int)-1=(j.length:Int)-1-((i+1:Nat):Int) by lia]at st';show{u,rfl,ac4 (s:={s with heap:=h',toks:=tk}) V c d ∅ {x,H,W,O,{rfl,λys hy=>by rw[I.tuple_inj hy G];show D},st',λb hb=>(m b hb).1}}
 done:=by
  intro X L F M J i f s B H E I m st q;let{A,y,U,v,t,r}:=m g ∎;rw[show(n:Int)-1-(i:Int)=-1 by have:=q.2;lia]at st;show bt4 (I.ok.hd J) st λh' eb=>{rfl,I.turned (t':=s.toks) (λb o hb e=>eb b o hb e) A y v t r}
 self:=λ_ _ _ _ _ st h=>az4 st h
end L2
namespace Ek
open PySem PySem.Spec PyProof.Rows L2
variable [Tbs]
section
variable {K:AO}
def cg7{q}{a:List D}{vs:List V}{H1}(b:SqT K H1 q vs)(r:IsDs K H1 a vs):ItOk K H1 (Itw K q a.length) a.reverse (λ_=>True) where
 go:=λi st H tk rs _ hi=>{{vs,tk.1.1 _ _ b,r.len.symm},by simp_all}
 yld:=λi st H x H' tk rs _ hi y=>by
  let{rfl,y}:=y;have c:i<a.length:=by simp_all
  let{d,f,e}:=r.get' (y vs (tk.1.1 _ _ b));show{d,FH c▸f,e.mono tk,Ev.refl,rs}
 stop:=λst H tk rs _=>{{vs,tk.1.1 _ _ b,r.len.symm},∎}
end
section
variable {X:Cx} {a tg:AT} {ta:DT} {pos p:Pos}
def ci9(U:Gl X "reversed")(T:X.mg "reversed"=AF)(V:PE X a (up X.K ta))(E:∀e p,a≠.Starred e p):
  PI X tg (.Call (.Name "reversed" p) [a] [] pos) (upI X.K λenv st k=>ta env st λd c=>∃ds,d=.tup ds/\k ds.reverse (λ_=>True) c):=by
 have B:Ao [a] X.env=[(AE,eval a X.env)]:=by rw[o7 E];rfl
 intro m s F H R I q;let{env,st,D,Y,W,P,S}:=q;apply JW (L6 I U T L2.ay8 (BF (thn (Q3 V E pos m s F H (λvs h=>∃v ds c,vs=[v]/\Ev st H c h/\IsD X.K h (.tup ds) v/\RelS X.K c h/\D ds.reverse (λ_=>True) c) I
  {env,st,(λds c=>match ds with|[d]=>∃ds,d=.tup ds/\D ds.reverse (λ_=>True) c|_=>False),Y,W,P,λvs ds H' st' C A hl z j=>?_}) λus s1 hh=>?_) B rfl))
 ·match ds,hl with
  |[d],_=>
   let{v,ws,rfl,O,N}:=A.inv_cons;rw[N.inv_nil];let{ds,rfl,j}:=j;show⟨v,ds,st',rfl,C,O,z,j⟩
 let{vs,h,y,L,v,ds,c,Z,C,A,z,j}:=hh;subst Z;let{u,rfl,J}:=L.one;let{l,vs,rfl,t,r}:=A.tup_inv;cases J;let{n,G,M,hz}:=y.tuple t;have g:n.toArray.size=vs.length:=by rw[Ac,<-G.length]
 have x:(n.toArray.size:Int)<2^63:=by
  rw[g];have Q:sizeLine<2^62:=by decide+kernel
  lia
 apply b09 M x λtk=>?_;rw[g];have w:G2 (s1.heap.push (af7 l ((vs.length:Int)-1))) s1.heap.objs.size l ((vs.length:Int)-1-((0:Nat):Int)):={_,Ae _ rfl,rfl,by rw[show(vs.length:Int)-1-((0:Nat):Int)=(vs.length:Int)-1 by lia];rfl};apply az4 (s:={s1 with heap:=s1.heap.push (af7 l ((vs.length:Int)-1)),toks:=tk}) w ?_;apply{s1.heap.objs.size,[s1.heap.objs.size],_,_,h,rfl,y.kept (t':=tk) λb o e=>AM _ e,b07 l _ vs.length,w,λb hb=>?_,?_}
 ·rw[show b=s1.heap.objs.size by simpa using hb];show y.fpOk (AS _) (y.hok.fresh (AS _))
 ·rw[<-r.len];show S _ _ c h _ C z (cg7 t r) j
end
end Ek
namespace L2
open PySem PySem.Spec PyProof.Rows
section
variable{fl:AG}
structure FlyA(B:BA)(l:List Env)(e:AI)(cls fl:AG)(h:BA):Prop where
 st:B.StaysIn h
 new:B.get? e=AF
 fr:h.FunFrames B l
 ex:∃oe vs T oT ts,h.get? e=AA oe/\oe.cls=cls/\oe.dict=AF/\oe.data=.fields vs/\vs[1]?=AA (.ref T)/\B.get? T=AF/\T≠e/\h.get? T=AA oT/\oT.data=.fields ts/\ts[3]?=AA fl
section
variable {M:LV} {A:BR} {E:AG->AK->Prop} {s:AK} {B:BA} {env:Env} {outer l:List Env} {L e:AI} {cls:AG} {Q:Unit->AK->Prop}
def b91(o:Obj)f:(o.mapFields f).dict=o.dict:=by
 let{c,d,a,b}:=o;cases a<;>rfl
def bd1{j:Obj}{vs:Array AG}{H:AG}{b:Bool}(w:A.frames=AA (env::outer))(J:env.frame=AA L)(K:B.StaysIn s.heap)(l:B.get? e=AF)(n:s.heap.FunFrames B (env::outer))(p:s.heap.get? e=AA j)(i:j.data=.fields vs)(x:j.dict=AF)(hsz:1<vs.size)
  (h:∀h',FlyA B (env::outer) e j.cls (By L) h'->s.heap.UpToSlots h'->Q () {s with heap:=h'}) :
  AR M A (do let a <-frameOf env;let pl <-entryPlaceOf L b;let t <-HW H a .none (By L) .none pl;Lm (.ref e) 1 t) Q E s:=by
 have k:e∉(env::outer).filterMap (·.frame):=λhm=>by
  let{_,o,G,v}:=n.mem hm;rw[p]at G;cases G;show v vs i
 apply AC (wpAny_frameOf_fun w n J λh₁ hs₁=>?_);apply AC (wpAny_entryPlaceOf λpl hpl=>?_);apply AC (BZ ?_ (hpl.sizeOk5 _ _ _ _ _));have f:h₁.get? e=AA j:=(hs₁.2.1 e k).trans p;have c:B.StaysIn h₁:=λb o q=>(hs₁.2.1 b λhm=>by rw[(n.mem hm).1]at q;cases q).trans (K b o q);generalize D:({cls:=.type "traceback",dict:=AF,data:=.fields ([H,.ref L,.none,By L,.none]++(if pl.isEmpty then Al 6 BQ else pl)).toArray}:Obj)=oT;have C:∃ts,oT.data=.fields ts/\ts[3]?=AA (By L):={_,by rw[<-D],∎};have d:=AM (h:=h₁) oT f;have m:h₁.objs.size≠e:=GH (Az f);have g:=Bi i (·.setIfInBounds 1 (Aq h₁.objs.size));apply Cm d i hsz (h _ ?_ λb o hb hn=>?_)
 ·let{ts,F,I}:=C;have y:oT.isFreed=AE:=CN F;apply{λb o q=>?_,l,n.of_keeps λb o q hn=>?_,_,_,h₁.objs.size,oT,ts,Bn _ d (CN g),GX _ _,(b91 _ _).trans x,g,by simp[hsz],c.fresh,m,?_,F,I}
  ·rw[Ba _ _ (λz:e=b=>by rw[<-z,l]at q;cases q)];show AM _ (c b o q)
  ·let{r,z}:=hs₁.2.2 b o q;apply{{o with slots:=r},?_,rfl};rw[Ba _ _ (λz:e=b=>by rw[<-z,p]at q;cases q;show hn vs i)];show AM _ z
  ·rw[Ba _ _ (Ax m)];show Ae h₁ y
 ·let{r,z}:=hs₁.2.2 b o hb;apply{r,?_};rw[Ba _ _ (λz:e=b=>by rw[<-z,p]at hb;cases hb;show hn vs i)];show AM _ z
def FlyA.mark{h}{x}(f:FlyA B l e cls fl h):∃T i ts d vs,h.get? e=AA d/\d.data=.fields vs/\vs[1]?=AA (.ref T)/\h.get? T=AA i/\i.data=.fields ts/\ts[3]?=AA fl/\FlyA B l e cls x (h.update T (Ho (·.setIfInBounds 3 x)))/\h.UpToSlots (h.update T (Ho (·.setIfInBounds 3 x))):=by
 let{d,vs,T,i,ts,n,u,k,p,t,j,g,r,c,s}:=f.ex;have hsz:=(Bo.mp s).1;have a:∀b,b≠T->(h.update T (Ho (·.setIfInBounds 3 x))).get? b=h.get? b:=λb hb=>Ba _ _ (Ax hb);have m:∀b o,h.get? b=AA o->(∀vs,o.data≠.fields vs)->b≠T:=λb o hb hn q=>by
  simp_all
 apply{T,i,ts,d,vs,n,p,t,r,c,s,{λb o q=>(a b λz=>by simp_all).trans (f.st b o q),f.new,f.fr.of_keeps λb o q hn=>{o,(a b (m b o q hn)).trans q,rfl},d,vs,T,_,_,(a e (Ax g)).trans n,u,k,p,t,j,g,Bn _ r (CN (Bi c _)),Bi c _,by simp[hsz]},λb o q hn=>{o.slots,(a b (m b o q hn)).trans q}}
def ae3(f:FlyA B l e cls fl s.heap)(h:∀h',FlyA B l e cls .none h'->s.heap.UpToSlots h'->Q () {s with heap:=h'}):AR M A (LA (.ref e) AF) Q E s:=by
 let{T,m,ts,k,vs,b,c,i,d,a,g,j,u}:=f.mark;show AC (As b c i (Cm d a (Bo.mp g).1 (h _ j u)))
def bc3(d:A.frames=AA (env::outer))(l:env.frame=AA L)(f:FlyA B (env::outer) e cls .none s.heap)(h:∀h',FlyA B (env::outer) e cls (By L) h'->s.heap.UpToSlots h'->Q () {s with heap:=h'}):AR M A (GP (.ref e) env) Q E s:=by
 let{T,y,ts,x,vs,t,v,w,m,b,n,c,u}:=f.mark;unfold GP;erw[l];apply AC (As t v w ?_);apply AC (As m b n ?_);apply AC (Cm m b (Bo.mp n).1 ?_);let{q,o,z,r,p,g,j,a,i,k,_}:=c.ex;apply bd1 d l c.st c.new c.fr g i a (Bo.mp k).1 λh' k1 k2=>h h' (j▸k1) (u.trans k2)
def b33{oe}{vs}(b:A.frames=AA (env::outer))(f:env.frame=AA L)(l:B.StaysIn s.heap)(c:B.get? e=AF)(j:s.heap.FunFrames B (env::outer))(g:s.heap.get? e=AA oe)(k:oe.cls=cls)(a:oe.data=.fields vs)(d:oe.dict=AF)(i:vs[1]?=AA .none)
  (h:∀h',FlyA B (env::outer) e cls (By L) h'->s.heap.UpToSlots h'->Q () {s with heap:=h'}):AR M A (GP (.ref e) env) Q E s:=by
 subst k;unfold GP;erw[f];apply AC (As g a i ?_);show bd1 b f l c j g a d (Bo.mp i).1 h
def FlyA.tail{h}(f:FlyA B (env::outer) e cls fl h):FlyA B outer e cls fl h:=let⟨_,_,k⟩:=f.fr;⟨f.st,f.new,k,f.ex⟩
end
end
section
variable{H:Hp}{h:BA}{outer:List Env}{b:AI}{o:Obj}
@[reducible]noncomputable def H0:Hp:=λ_=>AF
abbrev Bs(H:Hp)(h:BA)(outer:List Env):BA:=J3 h λb=>if b∈frs outer then AA (.own 0)else H b
def bm3(e:h.get? b=AA o)(n:H b=AF)(f:b∉frs outer):(Bs H h outer).get? b=AA o:=bb8 e (by simp_all)
def bp5(e:(Bs H h outer).get? b=AA o):h.get? b=AA o/\H b=AF/\b∉frs outer:=by
 let{c,a}:=bh8 e
 by_cases f:b∈frs outer
 ·simp_all
 ·rw[if_neg f]at a;show⟨c,a,f⟩
def ce2(e:b∈frs outer\/h.get? b=AF):(Bs H h outer).get? b=AF:=by
 cases q:(Bs H h outer).get? b with
 |none=>rfl
 |some o=>
  let{c,_,a}:=bp5 q
  ·grind
theorem a86{B B'}:∀{l},h.FunFrames B l->(∀b∈frs l,B'.get? b=AF)->h.FunFrames B' l
 |[],_,_=>trivial
 |env::l,⟨e,⟨L,o,a,_,d,f⟩,c⟩,k=>{e,{L,o,a,k L (by unfold frs;rw[Ci,a];show CB),d,f},a86 c λb hb=>k b (by
   unfold frs at hb ⊢;rw[Ci,a];show Ar _ hb)}
structure CXo(P:Ag)(w:Aw)(K:AO)(nm:Str)(Wi:Hp->Prop)(outer:List Env)(H:Hp)(s:AK)(e:AG)(s':AK)(a C:AI)(H':Hp)(B:BA):Prop where
 ref:e=.ref a
 ns:Av K AN nm=AA (AA (.ref C))
 fly:FlyA B outer a (.ref C) .none s'.heap
 cov:∀b o,s.heap.get? b=AA o->b∉frs outer->∃o',B.get? b=AA o'
 hok:HOk P w H' B
 un:Un (frs outer) [] H H' s.heap s'.heap
 os:s'.os=s.os
 bare:ER s'.gens
 wish:Wi H'
abbrev CXe(P:Ag)(w:Aw)(K:AO)(nm:Str)(Wi:Hp->Prop):CXT:=λouter H s _ e s'=>∃a C H' B,CXo P w K nm Wi outer H s e s' a C H' B
abbrev CXb(P:Ag)(w:Aw)(K:AO)(nm:Str)(Wi:Hp->Prop)(b:Bool):CXT:=λouter H s E e s'=>b=AD/\CXe P w K nm Wi outer H s E e s'
structure FrX(X:Cx)(nm:Str)(Wi:Hp->Prop)(b:Bool):Prop where
 stk:X.stack=X.env::X.outer
 fr:X.env.frame=AA X.env.locals
 ex:X.ex=[]
 xe:X.xe=λe s'=>AR (model X.prog X.w) X.A (leaving X.env e) (λ_ s''=>CXb X.prog X.w X.K nm Wi b X.outer X.H₀ X.s₀ E0 e s'') (λe' s''=>CXb X.prog X.w X.K nm Wi b X.outer X.H₀ X.s₀ E0 e' s'') s'
section
variable {X:Cx} {nm:Str} {Wi:Hp->Prop} {b:Bool} {pins:List (AI×Obj)} {σ:St} {H':Hp} {s s':AK} {B:BA} {a C:AI} {e fl:AG}
def Inv.trk(I:Inv X pins σ H s){b}{o}(e:H b=AA o):b∉frs X.stack:=λz=>by rw[I.stkFree b z]at e;cases e
def CXo.inv(c:CXo X.prog X.w X.K nm Wi X.stack H s e s' a C H' B)(I:Inv X pins σ H s):=
 I.call' c.os c.un (c.hok.kept c.fly.st) c.bare λb z=>absurd z AX
def FrX.pass(F:FrX X nm Wi b):=F.xe▸PassesOwn.leaving
def FrX.noex(F:FrX X nm Wi b)a:a∉X.ex:=F.ex▸AX
def FrX.old(F:FrX X nm Wi b)(I:Inv X pins σ H s){c}(q:X.s₀.heap.get? c=AA o)(z:c∉frs X.outer):∃a,s.heap.get? c=AA a/\c∉frs X.stack:=by
 let{a,d}:=I.base.there c o q (F.noex c);apply{a,d,λy=>?_}
 rcases AQ.mp (I.stkSub c y)with y|y
 ·show absurd (Ai (Az q) I.ok.above) (by simp_all)
 ·show z y
def FrX.out(F:FrX X nm Wi b)(I:Inv X pins σ H' s)(ns:Av X.K AN nm=AA (AA (.ref C)))(f:FlyA B (X.env::X.outer) a (.ref C) .none s'.heap)(u:∀b∈frs X.outer,∀o,(∀vs,o.data≠.fields vs)->s.heap.get? b=AA o->∃c,s'.heap.get? b=AA {o with slots:=c})
  (st:B.StaysIn s.heap) (k:∀b o,X.s₀.heap.get? b=AA o->b∉frs X.outer->∃e,B.get? b=AA e) (j:HOk X.prog X.w H' B) (r:s'.os=s.os) (p:ER s'.gens) (l:Wi H'):CXe X.prog X.w X.K nm Wi X.outer X.H₀ X.s₀ E0 (.ref a) s':=by
 have c:∀b o,X.s₀.heap.get? b=AA o->b∈frs X.outer->∃c,s'.heap.get? b=AA {o with slots:=c}:=λb o q z=>by
  let{c,d}:=I.base.slot b o q (I.ok.frf b z) z (F.noex b);let{_,e,g,m}:=I.ok.funs.mem z;rw[q]at g;cases g;let{i,h}:=u b z {o with slots:=c} m d;show⟨i,h⟩
 apply{a,C,H',B,rfl,ns,f.tail,k,j,{λb o q n z _=>?_,λb o q n z _=>c b o q z,λb o q n _=>I.base.free b o q n (F.noex b),λb o q _=>?_,I.base.tups,I.base.frzs,I.base.tbls},r.trans I.os,p,l}
 ·let{e,d}:=k b o q z;have h:=st b e d;rw[I.base.keep b o q n z (F.noex b)]at h;cases h;show f.st b o d
 ·by_cases z:b∈frs X.outer
  ·let{t,d}:=c b o q z;show⟨_,d⟩
  ·let{e,d}:=k b o q z;show{e,f.st b e d}
def FrX.passes(F:FrX X nm Wi b):y6 (CXb X.prog X.w X.K nm Wi b) X E0:=λpins σ H s e s' I c=>by
 let{j,a,C,H',B,c}:=c;have x:=c.inv I;let{rfl,ns,f,i,h,y,A,v,r}:=c;have k:=f;have d:=I.ok.frames;rw[F.stk]at k d;rw[F.xe];apply AC (bc3 d F.fr k λh1 f2 u1=>ae3 f2 λh2 f3 u2=>{j,F.out x ns f3 (λb j o hn e=>?_) f.st (λb o q z=>?_) h rfl v r})
 ·let{m,u}:=u1 b _ e hn;let{g,t}:=u2 b _ u hn;show⟨g,t⟩
 ·let{p,n,l}:=F.old I q z;show i b p n l
def Inv.hokB(I:Inv X pins σ H s):HOk X.prog X.w H (Bs H0 s.heap X.stack):=λb o e=>by
 apply(I.hok b o e).stay (λc v a q=>bm3 q rfl ?_) (λ_ q=>q) λ_ _ q=>q
 rcases a with rfl|a
 ·show I.trk e
 ·show I.trk a
def FrX.raised(F:FrX X nm Wi AD)(I:Inv X pins σ H s){h':BA}{vs:List AG}(d:Av X.K AN nm=AA (AA (.ref C)))(m:Heap.MadeExcOf s.heap h' a (.ref C) vs)(n:Wi H):X.xe (.ref a) {s with heap:=h'}:=by
 let{t,r,p,y}:=m.there;have c:=I.ok.frames;rw[F.stk]at c;have st:(Bs H0 s.heap X.stack).StaysIn s.heap:=λb o q=>(bp5 q).1;have x:(Bs H0 s.heap X.stack).StaysIn h':=λb o q=>m.keeps b o (st b o q);have g:(Bs H0 s.heap X.stack).get? a=AF:=W.fresh_of_stays st m.new;have u:s.heap.FunFrames (Bs H0 s.heap X.stack) (X.env::X.outer):=by
  have h:=I.stack;rw[F.stk]at h;show a86 h λb hb=>ce2 (.inl (by rw[F.stk];show hb))
 rw[F.xe];change AR _ _ (leaving X.env (.ref a)) _ _ _;unfold leaving;apply AC (b33 (cls:=.ref C) c F.fr x g (u.of_keeps λb o q _=>{o,m.keeps b o q,rfl}) r rfl rfl rfl rfl λh1 f2 u1=>ae3 f2 λh2 f3 u2=>{rfl,F.out I d f3 (λb hb o d e=>?_) st (λb o q z=>?_) I.hokB rfl I.bare n})
 ·let{j,w}:=u1 b _ (m.keeps b o e) d;let{f,v}:=u2 b _ w d;show⟨f,v⟩
 ·let{l,k,i}:=F.old I q z;show{l,bm3 k rfl i}
end
end
section
variable{H:Hp}
section
variable {P:Ag} {w:Aw} {h:BA} {a:AI} {o:HO}
def o5.ex(x:o5 P w H h a o):∃u,h.get? a=AA u:=by
 cases o with
 |lst c=>let{_,_,_,_,e}:=x;show⟨_,e⟩
 |tup c=>let{_,_,_,_,e,_}:=x;show⟨_,e⟩
 |dK b=>let{_,_,_,_,o,_,_,e,_}:=x;show⟨_,e⟩
 |dT b=>let{_,_,_,_,o,_,_,e,_}:=x;show⟨_,e⟩
 |set S n=>let{o,_,_,_,e,_}:=x;show⟨_,e⟩
 |ins C dx q=>let{_,_,_,e,_}:=x;show⟨_,e⟩
 |own y=>show x
 |xd q=>let{_,{_,_,_,e,_},_}:=x;show⟨_,e⟩
 |rng lo hi=>let{_,_,_,e}:=x;show⟨_,e⟩
 |frz ob u=>show⟨_,x.1⟩
 |tbl ps=>show{_,(x)}
 |met f y=>show{_,(x)}
 |ext s=>show x.2.1
end
abbrev im:HO->Option HO
 |.tup xs=>AA (.tup xs)
 |.tbl ps=>AA (.tbl ps)
 |.frz o (.tup xs)=>AA (.frz o (.tup xs))
 |.frz o (.lst xs)=>AA (.frz o (.lst xs))
 |.frz o _=>AA (.frz o (.own 0))
 |_=>AF
abbrev D6(H:Hp):Hp:=λb=>(H b).bind im
abbrev mrg(H H':Hp):Hp:=λb=>match H b with|some (.tbl _)=>H' b|some o=>AA o|none=>H' b
def ab5 o(u):∃a,im (.frz o u)=AA (.frz o a)/\((∀vs,u≠.lst vs)->∀vs,a≠.lst vs):=by
 cases u<;>show{_,rfl,λh=>by simp_all}
section
variable {H':Hp} {b:AI} {o:HO}
def V3(h:H b=AF):D6 H b=AF:=by unfold D6;rw[h];rfl
def B9(h:H b=AA o):D6 H b=im o:=by unfold D6;rw[h];rfl
def ac1(h:H b=AF):mrg H H' b=H' b:=by unfold mrg;rw[h]
def U4{ps}(h:H b=AA (.tbl ps)):mrg H H' b=H' b:=by unfold mrg;rw[h]
def z4(h:H b=AA o)(n:∀a,o≠.tbl a):mrg H H' b=AA o:=by
 unfold mrg;rw[h];cases o with
 |tbl a=>simp_all
 |_=>rfl
def aa1 o:im o=AF\/(∃a,o=.tup a)\/(∃b,o=.tbl b)\/∃ob u,o=.frz ob u:=by
 cases o with
 |tup a=>show .inr (.inl ⟨a,rfl⟩)
 |tbl b=>show .inr (.inr (.inl ⟨b,rfl⟩))
 |frz ob u=>show .inr (.inr (.inr ⟨ob,u,rfl⟩))
 |_=>show .inl rfl
def ci2{P}{w}{h}(x:HOk P w H h):HOk P w (D6 H) h:=λa o e=>by
 cases q:H a with
 |none=>rw[V3 q]at e;cases e
 |some d=>
  have z:=x a d q;rw[B9 q]at e;cases d with
  |tup c=>cases e;show z
  |tbl j=>cases e;show z
  |frz ob u=>
   cases u with
   |tup c=>cases e;show z
   |lst c=>cases e;show z
   |_=>cases e;show⟨z.1,_,z.1⟩
  |_=>cases e
end
section
variable {X:Cx} {pins:List (AI×Obj)} {σ:St} {H':Hp} {s s':AK}
def Inv.framed(I:Inv X pins σ H s)(D:s'.os=s.os)(F:ER s'.gens)(f:Un (frs X.stack) [] (D6 H) H' s.heap s'.heap)(i:HOk X.prog X.w H' s'.heap):Inv X pins σ (mrg H H') s':=by
 have l:∀b:AI,b∉([]:List AI):=λb=>AX;have p:∀b o,H b=AA o->im o=AF->H' b=AF:=λb o e z=>by
  let{u,E}:=(I.hok b o e).ex;show f.free b u E ((B9 e).trans z) (l b)
 have C:∀b ob u,H b=AA (.frz ob u)->∃h,H' b=AA (.frz ob h):=λb ob u e=>by
  let{h,j,_}:=ab5 ob u;show{h,f.frzs b ob h ((B9 e).trans j)}
 have t:∀b a,H b=AA (.tup a)->H' b=AA (.tup a):=λb a e=>f.tups b a ((B9 e).trans rfl);have r:∀c o,H' c=AA o->(∀ob u,o≠.frz ob u)->mrg H H' c=AA o:=λc o e nf=>by
  cases q:H c with
  |none=>rw[ac1 q];show e
  |some z=>
   rcases aa1 z with hz|⟨a,rfl⟩|⟨m,rfl⟩|⟨ob,u,rfl⟩
   ·rw[p c z q hz]at e;cases e
   ·rw[t c a q]at e;cases e;show z4 q λ_=>nofun
   ·rw[U4 q];show e
   ·let{h,j}:=C c ob u q;rw[j]at e;cases e;show absurd rfl (nf ob h)
 have d:∀b o,H' b=AA o->o5 X.prog X.w (mrg H H') s'.heap b o:=λb o e=>(i b o e).stay (λc v _ q=>q) (λc q=>r c _ q λ_ _=>nofun) λc a q=>r c _ q λ_ _=>nofun;have A:∀b o,H b=AA o->(∀c v,(c=b\/H c=AA (.own b))->s.heap.get? c=AA v->s'.heap.get? c=AA v)->∀u,o5 X.prog X.w H s.heap b u->o5 X.prog X.w (mrg H H') s'.heap b u:=λb o e k u x=>
  x.stay k (λc q=>z4 q λ_=>nofun) λc a q=>z4 q λ_=>nofun
 have ow:∀b c v,H c=AA (.own b)->s.heap.get? c=AA v->s'.heap.get? c=AA v:=λb c v g q=>f.keep c v q ((B9 g).trans rfl) (I.trk g) (l c);apply I.call' (ch:=[]) D {λb o e n z1 z2=>f.keep b o e (V3 n) z1 z2,λb o e n z1 z2=>f.slot b o e (V3 n) z1 z2,λb o e n z=>by rw[ac1 n];show f.free b o e (V3 n) z,f.there,λb a e=>z4 e λ_=>nofun,λb o u e=>z4 e λ_=>nofun,λb m e=>?_} (λb o e=>?_) F λb z=>absurd z (l b)
 ·rw[U4 e];show f.tbls b m ((B9 e).trans rfl)
 ·cases q:H b with
  |none=>rw[ac1 q]at e;show d b o e
  |some z=>
   rcases aa1 z with hz|⟨a,rfl⟩|⟨m,rfl⟩|⟨ob,u,rfl⟩
   ·rw[z4 q (λps z=>by rw[z]at hz;cases hz)]at e;cases(e);apply A b o q (λc v g y=>?_) o (I.hok b o q)
    rcases g with rfl|g
    ·show f.keep c v y ((B9 q).trans hz) (I.trk q) (l c)
    ·show ow b c v g y
   ·rw[z4 q λ_=>nofun]at e;cases e;show d b _ (t b a q)
   ·rw[U4 q]at e;show d b o e
   ·rw[z4 q λ_=>nofun]at e;cases e;let{h,j}:=C b ob u q;have B:=(i b _ j).1;have x:=I.hok b _ q;apply{B,A b _ q (λc v g y=>?_) u x.2}
    rcases g with rfl|g
    ·rw[x.1]at y;cases y;show B
    ·show ow b c v g y
end
end
section
variable {X:Cx} {nm:Str} {Wi:Hp->Prop} {pins:List (AI×Obj)} {σ:St} {H H':Hp} {s s':AK} {B:BA} {a C:AI} {e fl:AG}
def Inv.env0r(I:Inv X pins σ H s):Env0 X.prog X.w X.K X.mg X.base X.A X.stack s (D6 H):=
 let a:=I.env0
 {a.frames,a.mod,λb o q=>{(a.bs b o q).1,V3 (a.bs b o q).2},a.bsz,a.funs,λb hb=>V3 (a.frf b hb),ci2 I.hok,a.bare}
def bw3{CX}{k}{f}{fd}{ps}{sp}{Q Q0}{us}{vs}{EE}(F:FnOk X.prog X.w X.K X.mg X.base CX k f fd ps sp)(p:Room k X.A)(t:r6 X.K fd ps [])
  (I:Inv X pins σ H s) (r:i5 vs us) (h:sp vs (D6 H) Q0 E0) (o:∀e s',CX X.stack (D6 H) s E0 e s'->EE e s') (c:∀v H'(s':AK),Un (frs X.stack) [] (D6 H) H' s.heap s'.heap->Q0 v H'->Q v (mrg H H')):AR (model X.prog X.w) X.A (call (.ref f) us) (EP X pins σ Q) EE s:=by
 have B:us.length=ps.length:=(r.length▸F.len _ _ _ _ h)
 have a:=t s us I.kIn (by rwa[BL]);rw[BL]at a;apply KD (ES (F.run X.A X.stack s (D6 H) {us,[]} us vs Q0 E0 p I.env0r a r h) λr s' hz=>?_);cases r with
 |error e=>show o e s' hz
 |ok x=>
  cases x with
  |next=>show AU hz
  |brk=>show AU hz
  |cont=>show AU hz
  |ret u=>
   let{v,H',n,b,i,d,l,q}:=hz;show{v,mrg H H',I.framed n b i d,l,c v H' s' i q}
def Inv.caught(I:Inv X pins σ H s)(c:CXo X.prog X.w X.K nm Wi X.stack H s e s' a C H' B){h2}(f:FlyA B X.stack a (.ref C) fl h2)(u:s'.heap.UpToSlots h2):=by
 have i:∀b o,s.heap.get? b=AA o->b∈frs X.stack->∃i,h2.get? b=AA {o with slots:=i}:=λb o q z=>by
  let{l,d}:=c.un.slot b o q (I.stkFree b z) z AX;let{_,g,h,m}:=I.stack.mem z;rw[q]at h;cases h;let{k,j}:=u b _ d m;show⟨k,j⟩
 apply I.call' (s':={s' with heap:=h2}) c.os {λb o q n z z2=>?_,λb o q n z _=>i b o q z,c.un.free,λb o q _=>?_,c.un.tups,c.un.frzs,c.un.tbls} (c.hok.kept f.st) c.bare λb z=>absurd z AX
 ·let{g,d}:=c.cov b o q z;have j:=c.fly.st b g d;rw[c.un.keep b o q n z z2]at j;cases j;show f.st b o d
 ·by_cases z:b∈frs X.stack
  ·let{l,d}:=i b o q z;show⟨_,d⟩
  ·let{g,d}:=c.cov b o q z;show{g,f.st b g d}
@[reducible]noncomputable def Cx.hdl(X:Cx)(a:AI):Cx:={X with A:=X.A.mark (AA (.ref a)),calm:=AE,xe:=λ_ _=>False}
theorem Inv.hdl(I:Inv X pins σ H s)a:Inv (X.hdl a) pins σ H s:={⟨I.ok.mod,I.ok.kind,I.ok.glob,I.ok.blt,I.ok.above,I.ok.inj,I.ok.has,I.ok.cab,nofun,I.ok.frames,I.ok.stk,I.ok.exf,I.ok.bs,I.ok.bsz,I.ok.noex,I.ok.exfs,I.ok.funs,I.ok.frf⟩,I.os,I.bare,I.base,I.loc,I.cell,I.free,I.freeC,I.pin,I.hok,I.len}
def Inv.unhdl{a}(o:X.Ok)(I:Inv (X.hdl a) pins σ H s):Inv X pins σ H s:=⟨o,I.os,I.bare,I.base,I.loc,I.cell,I.free,I.freeC,I.pin,I.hok,I.len⟩
def b20{nE}(b:X.stack=X.env::X.outer)(fr:X.env.frame=AA X.env.locals){Ce}{p1 p2 p4 p5}{j2}{D:Ends}
  (j:Gl X nE) (i:X.mg nE=AA (.ref Ce)) (l:(nE==("__debug__":Str))=AE) (h:Av X.K AN nm=AA (AA (.ref C))) (k:JK X.K (.ref C) (.ref Ce)=AA AD)
  (I:Inv X pins σ H s) (c:CXe X.prog X.w X.K nm Wi X.stack H s E0 e s') (t:∀H',Wi H'->D.rt (.bl AE) H') :
  AR (model X.prog X.w) X.A (GP e X.env) (λ_ s₂=>AR (model X.prog X.w) X.A (LA e AF) (λ_ s₃=>
   AR (model X.prog X.w) X.A (handleBy e X.env [.ExceptHandler (AA (.Name nE p1)) AF [.Return (AA (.Constant (.bool AE) j2 p2)) p4] p5]) (SP X pins D) X.xe s₃) X.xe s₂) X.xe s':=by
 let{a,O,H',B,c}:=c;obtain rfl:=c.ref;have m:=c.ns;rw[h]at m;cases m;have f:=I.ok.frames;rw[b]at f;have E:=b▸c.fly;apply bc3 f fr E λh1 f2 u1=>ae3 f2 λh2 f3 u2=>?_;have d:=u1.trans u2;rw[<-b]at f3;have o:=I.caught c f3 d;apply wpAny_handleBy_cons (codeAny_handlers_test (M9 (o.hdl a) j i ?_ l)) nofun;let{M,vs,T,N,ts,x,y,_}:=f3.ex;have G:W.Looks (model X.prog X.w) h2 (La (.ref a)) (.ref C):=y▸(W.Looks.ld x).andThen .now;apply JY (W.exm_one o.kIn G k) ?_;apply codeAny_handlers_suite ?_;apply ae3 f3 λh3 f4 u3=>?_;have L:=I.caught c f4 (d.trans u3);have q:PSs (X.hdl a) [.Return (AA (.Constant (.bool AE) j2 p2)) p4] _:=aa7 (ag0 ah2);apply Be (q pins _ _ _ {nx:=λ_ _=>False,rt:=λv H1=>v=.bl AE/\H1=H',bk:=λ_ _=>False,ct:=λ_ _=>False} (L.hdl a) ⟨rfl,rfl⟩) (λfl s5 h5=>?_) λ_ _ z=>z.elim;cases fl with
 |brk=>let{_,_,_,z}:=h5;show z.elim
 |cont=>let{_,_,_,z}:=h5;show z.elim
 |next=>let{_,_,_,z}:=h5;show z.elim
 |ret u=>
  let{_,g,_,J,r,rfl,rfl}:=h5;show{_,g,_,J.unhdl I.ok,r,t _ c.wish}
abbrev vB:List AG:=[.type "ValueError",.type "Exception",.type "BaseException",.type "object"]
def ch5{K:AO}{mg:Str->Option AG}{h:BA}{C:AI}{x:Str}{a:String}{l:List AG}(M:Mod K mg h)(e:Av K AN x=AA (AA (.ref C)))(q:Hj K C l a=AD):OwnCls x C l a mg h:=by
 let{mb,hb,hB}:=M.blt;let{o,es,ep,ho,hd,hk,hf}:=M.glob;apply W.own_of_in (p:=default) (loose:=es.toList.map λe=>Classical.epsilon λn=>e.key.isStr n=AD) M.kin {M.glob,hb,M.nolimit,hB,λy _ hy _ _ _=>?_} e q;rw[<-hf y]
 cases z:es.find? λe=>e.key.isStr y with
 |none=>show congrArg (Option.map _) z
 |some v=>
  have t:v.key.isStr y=AD:=Array.find?_some (p:=λe:DictEntry=>e.key.isStr y) z
  show absurd (List.mem_map.mpr {v,by simpa using Array.mem_of_find?_eq_some z,Value.isStr_inj _ _ _ (Classical.epsilon_spec (p:=λn=>v.key.isStr n=AD) ⟨y,t⟩) t}) hy
def cc3(F:FrX X nm Wi AD)(i:X.calm=AD){np cpos pos}(d:Av X.K AN nm=AA (AA (.ref C)))(f:X.mg nm=AA (.ref C))(g:Gl X nm)(h:(nm==("__debug__":Str))=AE)(q:Hj X.K C vB "ValueError.__new__"=AD):
  PS X (.Raise (AA (.Call (.Name nm np) [] [] cpos)) AF pos) λ_ _ H=>Wi H:=λpins s σ H D I hw=>by
 let{n,N,a,c,bs,hdct,sn,sub,ab,col,dd,k0,k1,k2,k3,k5,l,k,j,b,T}:=((ch5 I.ok.mod d q).keeps I.bk).obj;apply wpAny_Raise_call_subT (nm:=a) (q:=c) (N:=N) (bs:=bs) (hdct:=hdct) (sn:=sn) (sub:=sub) (ab:=ab) (col:=col) (dd:=dd) (k0:=k0) (k1:=k1) (k2:=k2) (k3:=k3) (k5:=k5)
  PySem.F.excBase_ValueError (T.hasType PySem.F.excBase_ValueError.hasBase) (I.ok.hd i) rfl b (M9 I g f {rfl,?_} h)
 show evalArgs_empty {rfl,BM _,k,j,T,λh' e m=>F.raised I d m hw}
end
end L2
namespace PySem
variable{b b1 b2 fb:Bool}{h h':BA}{l it z i1 i2:AI}{xs ys:Array AG}{i:Nat}{x a y f:AG}{Q:AG->AK->Prop}{R:Bool->AK->Prop}
abbrev o8(b:Bool)(h:BA)(l:AI)(xs:Array AG):Prop:=match b with|true=>h.IsTuple l xs|false=>h.IsList l xs
abbrev r8(b:Bool)(h:BA)(it l:AI)(i:Nat):Prop:=match b with|true=>h.IsTupleIter it l i|false=>h.IsListIter it l i
def o8.stay(x:o8 b h l xs)(k:∀o,h.get? l=AA o->h'.get? l=AA o):o8 b h' l xs:=by
 cases b with
 |true=>let{o,a,r}:=x;show{o,k o a,r}
 |false=>show Heap.IsList.at x k
def r8.stay(x:r8 b h it l i)(k:∀o,h.get? it=AA o->h'.get? it=AA o):r8 b h' it l i:=by
 cases b with
 |true=>let{o,a,r}:=x;show{o,k o a,r}
 |false=>show Heap.IsListIter.at x k
def r8.obj(x:r8 b h it l i):∃o,h.get? it=AA o/\∀v,o.data≠.cell v:=by
 cases b with
 |true=>let{o,a,d,c}:=x;show{o,a,λv z=>by simp_all}
 |false=>let{o,a,d,c}:=x;show{o,a,λv z=>by simp_all}
def o8.lt(x:o8 b h l xs):l<h.objs.size:=by
 cases b with
 |true=>let{o,a,_}:=x;show Az a
 |false=>let{o,a,_}:=x;show Az a
section
variable {prog:Ag} {w:Aw} {A:BR} {E:AG->AK->Prop} {s:AK}
def W2(I:r8 b s.heap it l i)(L:o8 b s.heap l xs)(a:xs[i]?=AA x)
  (q:∀h',r8 b h' it l (i+1)->Bf it s.heap h'->Q x {s with heap:=h'}):AR (model prog w) A (Am (.ref it)) Q E s:=by
 cases b with
 |true=>show ay5 I L a q
 |false=>show wpAny_nextOf_list_item I L a q
def ag4{Q}(c:A.handled=AF)(I:r8 b s.heap it l i)(L:o8 b s.heap l xs)(a:xs[i]?=AF)
  (q:∀h' e,Gp it s.heap h'->(∃o,h'.get? e=AA o/\o.cls=.type "StopIteration")->E (.ref e) {s with heap:=h'}):AR (model prog w) A (Am (.ref it)) Q E s:=by
 cases b with
 |true=>show ay6 c I L a q
 |false=>show wpAny_nextOf_list_end c I L a q
def a07{a}{Q}(h:Q (s.heap.get? a) s):AR (model prog w) A (Hk a) Q E s:=λΓ p _=>h
abbrev w6(h:BA)(z TI TO:AI)(f:AG)(b:Bool):Prop:=h.get? z=AA {cls:=.type "zip",dict:=AF,data:=.fields #[f,.bool b,.bool AE,.ref TI,.ref TO],slots:=#[]}
def ab1{T c}(p:CA h T x y)(a:Bf c h h')(n:T≠c):CA h' T x y:=a.extBut _ _ n p
def cn6{i d n m:AI}{k:Nat}{x b:AG}(D:Ej z i d i1 i2 n m)(r:w6 s.heap z i d f fb)
  (p:∀R:Bool->AK->Prop,R AD s->AR (model prog w) A (AZ (.ref z)) R E s) (O:CA s.heap i (.ref i1) (.ref i2)) (N:CA s.heap d a b)
  (U:r8 b1 s.heap i1 n k) (T:r8 b2 s.heap i2 m k) (S:o8 b1 s.heap n xs) (P:o8 b2 s.heap m ys) (L:xs[k]?=AA x) (K:ys[k]?=AA y)
  (q:∀h',w6 h' z i d (By s.heap.objs.size) AE->CA h' d x y->r8 b1 h' i1 n (k+1)->r8 b2 h' i2 m (k+1)->CA h' s.heap.objs.size x y->h'.objs.size=s.heap.objs.size+1 ->
   (∀c o,c≠z->c≠d->c≠i1->c≠i2->s.heap.get? c=AA o->h'.get? c=AA o)->Q (.ref s.heap.objs.size) {s with heap:=h'}) :
  AR (model prog w) A (Cr.«zip.__next__» {[.ref z],[]}) (λfin s'=>∃v,fin=.done (.ret v)/\Q v s') E s:=by
 change AR _ _ (field (.ref z) 2>>=_) _ _ _;apply AC (As r rfl (x:=.bool AE) rfl ?_);apply AC (As r rfl (x:=.ref i) rfl ?_);apply AC (BW O rfl ?_);apply AC (p _ ?_);apply AC (DZ (AC (As r rfl (x:=.ref d) rfl ?_)));apply AC (CP r ∎ λg1 Z1 e1=>?_);apply AC ?_;erw[JQ,Ji,Go,Io];apply AC (AC (Gh ?_));apply AC (W2 (U.stay λo e=>e1.extBut _ _ D.i1z e) (S.stay λo e=>e1.extBut _ _ D.l1z e) L λg2 J1 e2=>AL ?_);have J:CA g2 d a b:=ab1 (ab1 N e1 D.TOz) e2 D.TOi1;apply AC (BW J rfl (AC (GL J λg3 P3 e3=>?_)));apply AC (Hl (AL (AC (AC (Gh ?_)))));have h:∀c o,c≠z->c≠i1->c≠d->s.heap.get? c=AA o->g3.get? c=AA o:=λc o n1 n2 n3 e=>e3.extBut _ _ n3 (e2.extBut _ _ n2 (e1.extBut _ _ n1 e));apply AC (W2 (T.stay λo e=>h _ _ D.i2z D.i12.symm D.TOi2.symm e) (P.stay λo e=>h _ _ D.l2z D.l2i1 D.l2TO e) K λg4 J2 e4=>AL ?_);have I:CA g4 d x b:=ab1 P3 e4 D.TOi2;apply AC (BW I rfl (AC (GL I λg5 t e5=>?_)));replace t:CA g5 d x y:=t;apply AC (Hl (AL (AL ?_)));apply AC (BW t rfl (AC (Lo ?_)));have F:g5.objs.size=s.heap.objs.size:=by rw[e5.1,e4.1,e3.1,e2.1,e1.1]
 have G:w6 g5 z i d .ellipsis fb:=e5.extBut _ _ D.TOz.symm (e4.extBut _ _ D.i2z.symm (e3.extBut _ _ D.TOz.symm (e2.extBut _ _ D.i1z.symm Z1)));have u:∀c o,c≠z->c≠d->c≠i1->c≠i2->s.heap.get? c=AA o->g5.get? c=AA o:=λc o n1 n2 n3 n4 e=>e5.extBut _ _ n2 (e4.extBut _ _ n4 (h c o n1 n3 n2 e));have C:r8 b1 g5 i1 n (k+1):=J1.stay λo e=>e5.extBut _ _ D.TOi1.symm (e4.extBut _ _ D.i12 (e3.extBut _ _ D.TOi1.symm e));have B:r8 b2 g5 i2 m (k+1):=J2.stay λo e=>e5.extBut _ _ D.TOi2.symm e;have j:z<g5.objs.size:=Az G;apply AC ?_;have M:w6 (g5.push {cls:=.type "tuple",data:=.seq #[x,y]}) z i d .ellipsis fb:=AM _ G;apply AC (CP M ∎ λg7 Z7 e7=>?_);apply CP Z7 ∎ λg8 Z8 e8=>?_;have g:∀c o,c≠z->g5.get? c=AA o->g8.get? c=AA o:=λc o n1 e=>e8.extBut _ _ n1 (e7.extBut _ _ n1 (AM _ e));have H:CA g8 g5.objs.size x y:=e8.extBut _ _ (GH j) (e7.extBut _ _ (GH j) (Ae _ rfl));have l:g8.objs.size=g5.objs.size+1:=by rw[e8.1,e7.1,Ck]
 rw[F]at Z8 H l;apply AL {_,rfl,?_};rw[F];show q g8 Z8 (g _ _ D.TOz t) (C.stay λo e=>g _ o D.i1z e) (B.stay λo e=>g _ o D.i2z e) H l λc o n1 n2 n3 n4 e=>g c o n1 (u c o n1 n2 n3 n4 e)
def cg3{TI TO l1 l2}{b1 b2}{k}{xs ys}{x y a b}{Q:AG->AK->Prop}(D:Ej z TI TO i1 i2 l1 l2)(m:w6 s.heap z TI TO f fb)
  (j:∀R,(∀h' d,w6 h' z TI TO f d->Bf z s.heap h'->R AE {s with heap:=h'})->AR (model prog w) A (AZ (.ref z)) R E s) (u:CA s.heap TI (.ref i1) (.ref i2)) (t:CA s.heap TO a b)
  (G:r8 b1 s.heap i1 l1 k) (F:r8 b2 s.heap i2 l2 k) (C:o8 b1 s.heap l1 xs) (B:o8 b2 s.heap l2 ys) (r:xs[k]?=AA x) (p:ys[k]?=AA y)
  (q:∀h' d,w6 h' z TI TO f d->CA h' TO a b->r8 b1 h' i1 l1 (k+1)->r8 b2 h' i2 l2 (k+1)->CA h' s.heap.objs.size x y->h'.objs.size=s.heap.objs.size+1 ->
   (∀c o,c≠z->c≠TO->c≠i1->c≠i2->s.heap.get? c=AA o->h'.get? c=AA o)->Q (.ref s.heap.objs.size) {s with heap:=h'}) :
  AR (model prog w) A (Cr.«zip.__next__» {[.ref z],[]}) (λfin s'=>∃v,fin=.done (.ret v)/\Q v s') E s:=by
 change AR _ _ (field (.ref z) 2>>=_) _ _ _;apply AC (As m rfl (x:=.bool AE) rfl ?_);apply AC (As m rfl rfl ?_);apply AC (BW u rfl ?_);apply AC (j _ λg1 d Z1 e1=>?_);apply AC ?_;erw[Ip,Go,Io];apply AC (AC (Bg ?_));apply AC (W2 (G.stay λo=>e1.extBut _ _ D.i1z) (C.stay λo=>e1.extBut _ _ D.l1z) r λg2 J1 e2=>AL (AL ?_));apply AC (AC (Bg ?_));have g:∀c o,c≠z->c≠i1->s.heap.get? c=AA o->g2.get? c=AA o:=λc o n1 n2 e=>e2.extBut _ _ n2 (e1.extBut _ _ n1 e);apply AC (W2 (F.stay λo=>g _ _ D.i2z D.i12.symm) (B.stay λo=>g _ _ D.l2z D.l2i1) p λg4 J2 e4=>AL (AL ?_));apply AL ?_;have l:g4.objs.size=s.heap.objs.size:=by rw[e4.1,e2.1,e1.1]
 have h:=λc o n1 n2 n3 e=>e4.extBut _ _ n3 (g c o n1 n2 e);apply AC (Lo (hsz:=by change 2<=sizeLine;decide) (AL {_,rfl,?_}));have n:CA (g4.push {cls:=.type "tuple",data:=.seq #[x,y]}) g4.objs.size x y:=Ae _ rfl;rw[l]at n ⊢;have i:∀{c o},g4.get? c=AA o->(g4.push {cls:=.type "tuple",data:=.seq #[x,y]}).get? c=AA o:=AM _;show q _ d (i (e4.extBut _ _ D.i2z.symm (e2.extBut _ _ D.i1z.symm Z1))) (i (h _ _ D.TOz D.TOi1 D.TOi2 t)) (J1.stay λo e=>i (e4.extBut _ _ D.i12 e)) (J2.stay λo=>i) n (by rw[Ck,l]) λc o n1 n2 n3 n4 e=>i (h c o n1 n3 n4 e)
def ba3{TI TO}(a:w6 s.heap z TI TO .none fb)(r:R AD s):AR (model prog w) A (AZ (.ref z)) R E s:=AC (As a rfl rfl (AL r))
def bd4{e d a:AI}(c:w6 s.heap z e d (By a) fb)(b:s.heap.get? a=AF)(r:R AD s):AR (model prog w) A (AZ (.ref z)) R E s:=by
 apply AC (As c rfl rfl ?_);change AR _ _ (Hk (Jj a)>>=_) _ _ _;rw[Bp];apply AC (a07 ?_);rw[b];show AL r
def bc9{e d a:AI}{o}(b:w6 s.heap z e d (By a) fb)(f:s.heap.get? a=AA o)(r:∀h' c,w6 h' z e d (By a) c->Bf z s.heap h'->R AE {s with heap:=h'}):AR (model prog w) A (AZ (.ref z)) R E s:=by
 apply AC (As b rfl rfl ?_);change AR _ _ (Hk (Jj a)>>=_) _ _ _;rw[Bp];apply AC (a07 ?_);rw[f];apply AC (As b rfl rfl ?_);cases fb with
 |true=>
  show AL (r s.heap AD b {rfl,λb hb=>rfl})
 |false=>
  show AC (CP b ∎ λg1 Z1 e1=>AL (r g1 AD Z1 e1))
def ck0{TI TO l1 l2}{k}{b}(D:Ej z TI TO i1 i2 l1 l2)(e:w6 s.heap z TI TO f fb)(t:f=.none\/∃c:AI,f=By c)
  (l:CA s.heap TI (.ref i1) (.ref i2)) (j:CA s.heap TO a b)
  (r:r8 b1 s.heap i1 l1 k) (p:r8 b2 s.heap i2 l2 k) (n:o8 b1 s.heap l1 xs) (m:o8 b2 s.heap l2 ys) (i:xs[k]?=AA x) (h:ys[k]?=AA y)
  (q:∀h' g d B u,w6 h' z TI TO g d->(g=.none\/∃c:AI,g=By c)->CA h' TO B u->r8 b1 h' i1 l1 (k+1)->r8 b2 h' i2 l2 (k+1)->CA h' s.heap.objs.size x y->h'.objs.size=s.heap.objs.size+1 ->
   (∀c o,c≠z->c≠TO->c≠i1->c≠i2->s.heap.get? c=AA o->h'.get? c=AA o)->Q (.ref s.heap.objs.size) {s with heap:=h'}) :
  AR (model prog w) A (Cr.«zip.__next__» {[.ref z],[]}) (λfin s'=>∃v,fin=.done (.ret v)/\Q v s') E s:=by
 have fr:(∀R,R AD s->AR (model prog w) A (AZ (.ref z)) R E s)->AR (model prog w) A (Cr.«zip.__next__» {[.ref z],[]}) (λfin s'=>∃v,fin=.done (.ret v)/\Q v s') E s:=λfree=>
  cn6 D e free l j r p n m i h λh' a1 a2 a3 a4 a5=>q h' _ _ _ _ a1 (.inr ⟨_,rfl⟩) a2 a3 a4 a5
 rcases t with rfl|⟨c,rfl⟩
 ·show fr λR=>ba3 e
 ·cases hd:s.heap.get? c with
  |none=>show fr λR=>bd4 e hd
  |some o=>show cg3 D e (λR=>bc9 e hd) l j r p n m i h λh' d a1 a2 a3 a4 a5=>q h' _ d _ _ a1 (.inr ⟨_,rfl⟩) a2 a3 a4 a5
def ce6{m h y u:AI}{k:Nat}{b:AG}{Q:Fin->AK->Prop}(n:A.handled=AF)(D:Ej z m h i1 i2 y u)(g:w6 s.heap z m h f fb)(L:f=.none\/∃c:AI,f=By c)
  (H:CA s.heap m (.ref i1) (.ref i2)) (M:CA s.heap h a b)
  (t:r8 b1 s.heap i1 y k) (K:r8 b2 s.heap i2 u k) (p:o8 b1 s.heap y xs) (J:o8 b2 s.heap u ys) (C:xs[k]?=AF\/ys[k]?=AF)
  (q:∀h' e,(∀c o,c≠z->c≠h->c≠i1->c≠i2->s.heap.get? c=AA o->h'.get? c=AA o)->(∃o,h'.get? e=AA o/\o.cls=.type "StopIteration")->E (.ref e) {s with heap:=h'}) :
  AR (model prog w) A (Cr.«zip.__next__» {[.ref z],[]}) Q E s:=by
 have free:(∀R:Bool->AK->Prop,R AD s->AR (model prog w) A (AZ (.ref z)) R E s)->AR (model prog w) A (Cr.«zip.__next__» {[.ref z],[]}) Q E s:=λfree=>by
  change AR _ _ (field (.ref z) 2>>=_) _ _ _;apply AC (As g rfl (x:=.bool AE) rfl ?_);apply AC (As g rfl (x:=.ref m) rfl (AC (BW H rfl ?_)));apply AC (free _ ?_);apply AC (DZ (AC (As g rfl (x:=.ref h) rfl ?_)));apply AC (CP g ∎ λg1 Z1 e1=>?_);apply AC ?_;erw[JQ,Ji,Go,Io];apply AC (AC (Gh ?_));cases hx:xs[k]? with
  |none=>
   apply AC (ag4 n (t.stay λo e=>e1.extBut _ _ D.i1z e) (p.stay λo e=>e1.extBut _ _ D.l1z e) hx λg2 e e2⟨oe,hoe,hce⟩=>?_);have G:w6 g2 z m h .ellipsis fb:=e2 _ _ D.i1z.symm Z1;have l:e≠z:=λv=>by subst v;rw[G]at hoe;cases hoe;simp at hce
   show CP G ∎ λg3 _ e3=>q g3 e (λc o n1 _ n3 _ v=>e3.extBut _ _ n1 (e2 _ _ n3 (e1.extBut _ _ n1 v))) {oe,e3.extBut _ _ l hoe,hce}
  |some x=>
   have B:ys[k]?=AF:=C.elim (λv=>by rw[hx]at v;cases v) id;apply AC (W2 (t.stay λo e=>e1.extBut _ _ D.i1z e) (p.stay λo e=>e1.extBut _ _ D.l1z e) hx λg2 J1 e2=>AL ?_);have I:CA g2 h a b:=ab1 (ab1 M e1 D.TOz) e2 D.TOi1;apply AC (BW I rfl (AC (GL I λg3 P3 e3=>?_)));apply AC (Hl (AL (AC (AC (Gh ?_)))));have i:∀c o,c≠z->c≠i1->c≠h->s.heap.get? c=AA o->g3.get? c=AA o:=λc o n1 n2 n3 e=>e3.extBut _ _ n3 (e2.extBut _ _ n2 (e1.extBut _ _ n1 e));apply AC (ag4 n (K.stay λo e=>i _ _ D.i2z D.i12.symm D.TOi2.symm e) (J.stay λo e=>i _ _ D.l2z D.l2i1 D.l2TO e) B λg4 e e4⟨oe,hoe,hce⟩=>?_);have F:w6 g4 z m h .ellipsis fb:=e4 _ _ D.i2z.symm (e3.extBut _ _ D.TOz.symm (e2.extBut _ _ D.i1z.symm Z1));have l:e≠z:=λv=>by subst v;rw[F]at hoe;cases hoe;simp at hce
   show CP F ∎ λg5 _ e5=>q g5 e (λc o n1 n2 n3 n4 v=>e5.extBut _ _ n1 (e4 _ _ n4 (i c o n1 n3 n2 v))) {oe,e5.extBut _ _ l hoe,hce}
 rcases L with rfl|⟨c,rfl⟩
 ·show free λR r=>ba3 g r
 ·cases hd:s.heap.get? c with
  |none=>show free λR r=>bd4 g hd r
  |some o=>
   change AR _ _ (field (.ref z) 2>>=_) _ _ _;apply AC (As g rfl (x:=.bool AE) rfl ?_);apply AC (As g rfl (x:=.ref m) rfl (AC (BW H rfl ?_)));apply AC (bc9 g hd λg1 fb' Z1 e1=>?_);apply AC ?_;apply AC (AC (Bg ?_));cases hx:xs[k]? with
   |none=>
    show AC (ag4 n (t.stay λo e=>e1.extBut _ _ D.i1z e) (p.stay λo e=>e1.extBut _ _ D.l1z e) hx λg2 e e2 v=>q g2 e (λc o n1 _ n3 _ w=>e2 _ _ n3 (e1.extBut _ _ n1 w)) v)
   |some x=>
    have B:ys[k]?=AF:=C.elim (λv=>by rw[hx]at v;cases v) id;apply AC (W2 (t.stay λo e=>e1.extBut _ _ D.i1z e) (p.stay λo e=>e1.extBut _ _ D.l1z e) hx λg2 J1 e2=>AL (AL ?_));apply AC (AC (Bg ?_));have j:∀c o,c≠z->c≠i1->s.heap.get? c=AA o->g2.get? c=AA o:=λc o n1 n2 e=>e2.extBut _ _ n2 (e1.extBut _ _ n1 e);show AC (ag4 n (K.stay λo e=>j _ _ D.i2z D.i12.symm e) (J.stay λo e=>j _ _ D.l2z D.l2i1 e) B λg4 e e4 v=>q g4 e (λc o n1 _ n3 n4 w=>e4 _ _ n4 (j c o n1 n3 w)) v)
abbrev ZAt(b1 b2:Bool)(z TI TO i1 i2 l1 l2:AI)(k:Nat)(h:BA):Prop:=(∃f fb,w6 h z TI TO f fb/\(f=.none\/∃c:AI,f=By c))/\CA h TI (.ref i1) (.ref i2)/\(∃a b,CA h TO a b)/\r8 b1 h i1 l1 k/\r8 b2 h i2 l2 k
theorem ZAt.stay{TI TO l1 l2}{k}(Z:ZAt b1 b2 z TI TO i1 i2 l1 l2 k h)(d:∀c∈[z,TI,TO,i1,i2],∀o,h.get? c=AA o->h'.get? c=AA o):ZAt b1 b2 z TI TO i1 i2 l1 l2 k h':=by
 let{{f,g,i,e},l,{a,b,j},n,m}:=Z;show{{f,g,d z ∎ _ i,e},d TI ∎ _ l,{a,b,d TO ∎ _ j},n.stay λo=>d i1 ∎ o,m.stay λo=>d i2 ∎ o}
def ZAt.type{TI TO l1 l2}{k}(Z:ZAt b1 b2 z TI TO i1 i2 l1 l2 k s.heap):s.TypeIs (.ref z) "zip":=by
 let{{f,c,a,b},_}:=Z;show⟨_,a,rfl⟩
def ck2{TI TO l1 l2}{k}{Q}(D:Ej z TI TO i1 i2 l1 l2)(Z:ZAt b1 b2 z TI TO i1 i2 l1 l2 k s.heap)(n:o8 b1 s.heap l1 xs)(m:o8 b2 s.heap l2 ys)(h:xs[k]?=AA x)(g:ys[k]?=AA y)
  (q:∀h',ZAt b1 b2 z TI TO i1 i2 l1 l2 (k+1) h'->CA h' s.heap.objs.size x y->h'.objs.size=s.heap.objs.size+1->(∀c o,c≠z->c≠TO->c≠i1->c≠i2->s.heap.get? c=AA o->h'.get? c=AA o)->Q (AA (.ref s.heap.objs.size)) {s with heap:=h'}):AR (model prog w) A (Ee (.ref z)) Q E s:=by
 have d:=Z.type;let{{f,t,j,i},e,{a,b,l},r,p}:=Z;show AC (FE (BP d EH (BN EH d KM (ck0 D j i e l r p n m h g λh' f' fb' a' b' c1 c2 c3 c4 c5 c6 c7 c8=>AL (q h' {⟨f',fb',c1,c2⟩,c8 _ _ D.TIz D.TITO D.TIi1 D.TIi2 e,⟨a',b',c3⟩,c4,c5} c6 c7 c8)) (Ju _))))
def cl3{TI TO l1 l2}{k}{Q}(g:A.handled=AF)(D:Ej z TI TO i1 i2 l1 l2)(Z:ZAt b1 b2 z TI TO i1 i2 l1 l2 k s.heap)(p:o8 b1 s.heap l1 xs)(n:o8 b2 s.heap l2 ys)(i:xs[k]?=AF\/ys[k]?=AF)
  (q:∀h',(∀c o,c≠z->c≠TO->c≠i1->c≠i2->s.heap.get? c=AA o->h'.get? c=AA o)->Q AF {s with heap:=h'}):AR (model prog w) A (Ee (.ref z)) Q E s:=by
 have d:=Z.type;let{{f,u,j,h},m,{a,b,l},t,r}:=Z;apply AC (FE (BP d EH (BN EH d KM ?_ (Ju _))));show ce6 g D j h m l t r p n i λh' e up⟨o,ho,hc⟩=>AC (FL ⟨o,ho,hc⟩ Ln (AL (q _ up)))
def cd5{TI TO l1 l2}{k}(Z:ZAt b1 b2 z TI TO i1 i2 l1 l2 k s.heap)(h:Q (.ref z) s):AR (model prog w) A (HQ (.ref z)) Q E s:=have a:=Z.type;Kg a Kh (BN Kh a F.entry_zip_iter (AL {_,rfl,"zip",_,a,EH.lookup,h}) (F.args_zip_iter_1 _))
abbrev itO(b:Bool)(l:AI):Obj:={cls:=.type (if b then "tuple_iterator" else "list_iterator"),data:=.fields #[.ref l,.int 0 0]}
def bf7(L:o8 b s.heap l xs)(q:Q (.ref s.heap.objs.size) {s with heap:=s.heap.push (itO b l)}):AR (model prog w) A (HQ (.ref l)) Q E s:=by
 cases b with
 |true=>show Dc L q
 |false=>show HH L q
def bl4(e:h.get? it=AA (itO b l)):r8 b h it l 0:=by
 cases b with
 |true=>show⟨_,e,rfl,rfl⟩
 |false=>show⟨_,e,rfl,rfl⟩
@[reducible]noncomputable def zg1(h:BA)(b1:Bool)(l1:AI):BA:=h.push (itO b1 l1)
@[reducible]noncomputable def zg2(h:BA)(b1 b2:Bool)(l1 l2:AI):BA:=(zg1 h b1 l1).push (itO b2 l2)
@[reducible]noncomputable def zg3(h:BA)(b1 b2:Bool)(l1 l2:AI):BA:=(zg2 h b1 b2 l1 l2).push {cls:=.type "tuple",data:=.seq #[.ref h.objs.size,.ref (zg1 h b1 l1).objs.size]}
@[reducible]noncomputable def zg4(h:BA)(b1 b2:Bool)(l1 l2:AI):BA:=(zg3 h b1 b2 l1 l2).push {cls:=.type "tuple",data:=.seq #[.none,.none]}
@[reducible]noncomputable def zg5(h:BA)(b1 b2:Bool)(l1 l2:AI):BA:=(zg4 h b1 b2 l1 l2).push {cls:=.type "zip",data:=.fields #[.none,.bool AE,.bool AE,.ref (zg2 h b1 b2 l1 l2).objs.size,.ref (zg3 h b1 b2 l1 l2).objs.size]}
end
def bw8 b1 b2(l1 l2)(c a:Array AG):
  Jd (Cr.«zip.__new__» {[.type "zip",.ref l1,.ref l2],[]}) (λ_ R s=>o8 b1 s.heap l1 c/\o8 b2 s.heap l2 a/\R (.ok (.ret (.ref (zg4 s.heap b1 b2 l1 l2).objs.size))) {s with heap:=zg5 s.heap b1 b2 l1 l2}):=
 .of_wp λprog w A R s h=>by
  let{f,g,d,tk,e}:=s;let{l,k,h}:=h;have b:=sub_zip;have j:=l;have i:o8 b2 (IB {f.push (itO b1 l1),g,d,tk,e}) l2 a:=o8.stay k λo=>AM _
  wp_walk using bf7 j,bf7 i
  show⟨_,rfl,h⟩
section
variable {prog:Ag} {w:Aw} {A:BR} {E:AG->AK->Prop} {s:AK}
def b13{l1 l2}(m:o8 b1 s.heap l1 xs)(l:o8 b2 s.heap l2 ys)
  (q:∀h',ZAt b1 b2 (s.heap.objs.size+4) (s.heap.objs.size+2) (s.heap.objs.size+3) s.heap.objs.size (s.heap.objs.size+1) l1 l2 0 h'->w6 h' (s.heap.objs.size+4) (s.heap.objs.size+2) (s.heap.objs.size+3) .none AE->h'.objs.size=s.heap.objs.size+5->(∀c o,s.heap.get? c=AA o->h'.get? c=AA o)->Q (.ref (s.heap.objs.size+4)) {s with heap:=h'}) :
  AR (model prog w) A (call (.type "zip") [.ref l1,.ref l2]) Q E s:=by
 apply JH F.called_zip ∅ (F.typeCall_zip_2 _ _) (F.newCall_zip_2 _ _) (λobj=>F.args_object_init_3 obj _ _) F.entry_zip_new (bw8 b1 b2 l1 l2 xs ys) {m,l,?_};have f:(zg1 s.heap b1 l1).objs.size=s.heap.objs.size+1:=Ck ..;have e:(zg2 s.heap b1 b2 l1 l2).objs.size=s.heap.objs.size+2:=by rw[Ck,f]
 have d:(zg3 s.heap b1 b2 l1 l2).objs.size=s.heap.objs.size+3:=by rw[Ck,e]
 have b:(zg4 s.heap b1 b2 l1 l2).objs.size=s.heap.objs.size+4:=by rw[Ck,d]
 have j:(zg5 s.heap b1 b2 l1 l2).objs.size=s.heap.objs.size+5:=by rw[Ck,b]
 have a:(zg5 s.heap b1 b2 l1 l2).get? (zg4 s.heap b1 b2 l1 l2).objs.size=AA _:=Ae _ rfl;have g:(zg5 s.heap b1 b2 l1 l2).get? (zg3 s.heap b1 b2 l1 l2).objs.size=AA _:=AM _ (Ae _ rfl);have h:(zg5 s.heap b1 b2 l1 l2).get? (zg2 s.heap b1 b2 l1 l2).objs.size=AA _:=AM _ (AM _ (Ae _ rfl));have i:(zg5 s.heap b1 b2 l1 l2).get? (zg1 s.heap b1 l1).objs.size=AA (itO b2 l2):=AM _ (AM _ (AM _ (Ae _ rfl)));have k:(zg5 s.heap b1 b2 l1 l2).get? s.heap.objs.size=AA (itO b1 l1):=AM _ (AM _ (AM _ (AM _ (Ae _ rfl))));rw[e,d,b]at a;rw[f,e]at h;rw[d]at g;rw[f]at i;rw[b];show{⟨_,a,rfl⟩,q _ {{_,_,a,.inl rfl},h,⟨_,_,g⟩,bl4 k,bl4 i} a j λc o x=>
  AM _ (AM _ (AM _ (AM _ (AM _ x))))}
abbrev ZL(m0:Nat)(av:List AI)(h:BA)(xs ys acc:Array AG):Prop:=(∀(j:Nat)(v:AG),acc[j]?=AA v->∃T x y,v=.ref T/\T∉av/\xs[j]?=AA x/\ys[j]?=AA y/\CA h T x y/\m0<=T)/\∀(j k:Nat)(v:AG),acc[j]?=AA v->acc[k]?=AA v->j=k
def ci6{TI q K J S:AI}{u:AG}{R:IK->AK->Prop}{m0:Nat}(hh:A.handled=AF)(D:Ej z TI q i1 i2 K J)(nS:S∉[z,TI,q,i1,i2,K,J])(hz:min xs.size ys.size<=1000000):
  ∀(m i:Nat)(s:AK)(g:Array AG)(c:Nat),min xs.size ys.size-i=m->i<=min xs.size ys.size->ZAt b1 b2 z TI q i1 i2 K J i s.heap->o8 b1 s.heap K xs->o8 b2 s.heap J ys ->
  s.heap.get? S=AA {cls:=.type "list",dict:=AF,data:=.seq g c,slots:=#[]}->g.size=i->m0<=s.heap.objs.size->ZL m0 [S,z,q,i1,i2] s.heap xs ys g ->
  (∀h' d c',(∀b o,b∉[S,z,q,i1,i2]->s.heap.get? b=AA o->h'.get? b=AA o)->h'.get? S=AA {cls:=.type "list",dict:=AF,data:=.seq d c',slots:=#[]}->d.size=min xs.size ys.size->ZL m0 [S,z,q,i1,i2] h' xs ys d->R (.ok (.ret u)) {s with heap:=h'}) ->
  Dy (model prog w) A (.builtin "list.extend.loop" {[.ref S,.ref z,u],[]}) R s:=by
 erw[AQ,AX,or_false,not_or]at nS;let{V,s2,U,Q,P,s6,s7}:=nS;intro m
 induction m with
 |zero=>
  intro i s g c hm hi Z O N L t E r Y;have H:i=min xs.size ys.size:=by lia
  apply LO JR ?_;apply AC (cl3 hh D Z O N ?_ λh' up=>AL (Y h' g c (λb o hb e=>?_) (up S _ V U Q P L) (by rw[t,H]) ?_))
  ·rw[H]
   rcases Nat.le_total xs.size ys.size with v|v
   ·show .inl (by rw[Hm v];show Hq (AS _))
   ·show .inr (by rw[Gq v];show Hq (AS _))
  ·erw[AQ,AX,or_false,not_or]at hb;show up b o hb.2.1 hb.2.2.1 hb.2.2.2.1 hb.2.2.2.2 e
  ·apply{λj v hj=>?_,r.2};let{T,x,y,h1,h2,h3,h4,h5,h6}:=r.1 j v hj;have n:=h2;erw[AQ,AX,or_false,not_or]at n;show{T,x,y,h1,h2,h3,h4,up T _ n.2.1 n.2.2.1 n.2.2.2.1 n.2.2.2.2 h5,h6}
 |succ m ih=>
  intro i s g c hm hi Z O N L t E r Y;have p:i<min xs.size ys.size:=by lia
  have G:i<xs.size:=Ai p (HZ ..);have F:i<ys.size:=Ai p (FY ..);apply LO JR ?_;apply AC (ck2 D Z O N (Bq G) (Bq F) λh1 Z1 T1 sz1 up1=>?_);have I:=up1 S _ V U Q P L;have C:∀{c o},s.heap.get? c=AA o->s.heap.objs.size≠c:=λe=>GH (Az e);have nT:s.heap.objs.size∉[S,z,q,i1,i2]:=by
   let{{f,fb,Z0,hf},PI,{a,b,PO},I1,I2}:=Z;let{o1,e1,_}:=I1.obj;let{o2,e2,_}:=I2.obj;erw[AQ,AX,or_false,not_or];show{C L,C Z0,C PO,C e1,C e2}
  apply AC ?_;have h:∀b o,b≠S->h1.get? b=AA o->(h1.update S (CM (·.push (.ref s.heap.objs.size)))).get? b=AA o:=λb o hb e=>(Ba _ _ (Ax hb)).trans e;have W:s.heap.objs.size≠S:=λv=>nT (by simp[v]);apply EM I rfl (AL {plainId_quiet EK _,ih (i+1) {s with heap:=_} (g.push (.ref s.heap.objs.size)) _ ⋯ p ?_ ?_ ?_ (Bn _ I rfl) (by rw[JS,t]) ?_ ?_ λh2 d c' up2 hS2 ha2 zl2=>?_})
   (by rw[t,Hb];lia) (by rw[JS,t,Hb];lia)
  ·apply Z1.stay λc hc o e=>h c o (λv=>?_) e;subst v;erw[AQ,AX,or_false]at hc
   rcases hc with v|v|v|v|v
   ·show V v
   ·show s2 v
   ·show U v
   ·show Q v
   ·show P v
  ·show(O.stay λo e=>up1 _ _ D.l1z D.l1TO D.l1i1 D.l1i2 e).stay λo e=>h _ o (Ax s6) e
  ·show(N.stay λo e=>up1 _ _ D.l2z D.l2TO D.l2i1 D.l2i2 e).stay λo e=>h _ o (Ax s7) e
  ·rw[(Bb h1 S _).1,sz1];lia
  ·have B:∀(j:Nat),g[j]?≠AA (.ref s.heap.objs.size):=λj hj=>by
    let{T,x,y,g1,g2,g3,g4,g5,g6}:=r.1 j _ hj;cases g1;show absurd (Az g5) (CS _)
   apply{λj v hj=>?_,λj k v hj hk=>?_}
   ·rw[IV]at hj
    split at hj
    ·rename_i X;cases hj;rw[X,t];show{_,_,_,rfl,nT,Bq G,Bq F,h _ _ W T1,E}
    ·let{T,x,y,g1,g2,g3,g4,g5,g6}:=r.1 j v hj;have l:=g2;erw[AQ,AX,or_false,not_or]at l;show{T,x,y,g1,g2,g3,g4,h _ _ l.1 (up1 T _ l.2.1 l.2.2.1 l.2.2.2.1 l.2.2.2.2 g5),g6}
   ·rw[IV]at hj hk
    split at hj
    ·split at hk
     ·lia
     ·cases hj;show absurd hk (B k)
    ·split at hk
     ·cases hk;show absurd hj (B j)
     ·show r.2 j k v hj hk
  ·apply Y h2 d c' (λb o hb e=>up2 b o hb ?_) hS2 ha2 zl2;erw[AQ,AX,or_false,not_or]at hb;show h b o hb.1 (up1 b o hb.2.1 hb.2.2.1 hb.2.2.2.1 hb.2.2.2.2 e)
def by9:Gn (.type "zip") "__len__"=pure AF:=by kernel_rfl
def bv9:Gn (.type "zip") "__length_hint__"=pure AF:=by kernel_rfl
def b15{m0:Nat}{q l n m S:AI}{i:AG}{R:IK->AK->Prop}{L:Nat}(G:A.handled=AF)(D:Ej z q l i1 i2 n m)(t:S∉[z,q,l,i1,i2,n,m])(hz:min xs.size ys.size<=1000000)
  (Z:ZAt b1 b2 z q l i1 i2 n m 0 s.heap) (N:o8 b1 s.heap n xs) (M:o8 b2 s.heap m ys) (u:s.heap.get? S=AA {cls:=.type "list",data:=.seq #[] L}) (p:m0<=s.heap.objs.size)
  (H:∀h' a h,(∀b o,b∉[S,z,l,i1,i2]->s.heap.get? b=AA o->h'.get? b=AA o)->h'.get? S=AA {cls:=.type "list",dict:=AF,data:=.seq a h,slots:=#[]}->a.size=min xs.size ys.size->ZL m0 [S,z,l,i1,i2] h' xs ys a->R (.ok (.ret i)) {s with heap:=h'}) :
  AR (model prog w) A.in1 (Cd (.ref S) (.ref z) i)
   (λfin s'=>match fin with|.done f=>R (.ok f) s'|.again h=>h.quiet=AD/\Dy (model prog w) A h R s') (λe s'=>R (.error e) s') s:=by
 have j:=t;erw[AQ,AX,or_false,not_or]at j;let{r,F,E,C,B,y,x}:=j;apply AC (FZ Z.type ?_);have K:GS (.ref S) (.ref z)=AE:=by simp[GS,r]
 have J:(Cu "zip"==Cu "list")=AE:=by decide
 have I:(Cu "zip"==Cu "tuple")=AE:=by decide
 erw[K,J,I,Hf,BD,if_false];apply AC (cd5 Z (AC (Bg ?_)));apply AC (Bt Z.type by9 ?_);apply AC (Bt Z.type bv9 (AL ?_));apply AC (DZ (AC ?_));apply AC (EM u rfl ?_);have k2:=Bn (CM (·.push BQ)) u rfl;apply EM (hz:=by seq_fits) k2 rfl ?_;have k3:=Bn (CM (·.pop)) k2 rfl;have d:∀b o,b≠S->s.heap.get? b=AA o->((s.heap.update S (CM (·.push BQ))).update S (CM (·.pop))).get? b=AA o:=λb o hb e=>(Ba _ _ (Ax hb)).trans ((Ba _ _ (Ax hb)).trans e);apply AL {plainId_quiet EK _,ci6 (m0:=m0) G D t hz (min xs.size ys.size) 0 {s with heap:=_} #[] _ ⋯ (BM _) (Z.stay λc hc o e=>d c o (λv=>?_) e) (N.stay λo e=>d _ o (Ax y) e) (M.stay λo e=>d _ o (Ax x) e) k3 rfl ?_ {λj v hj=>by simp at hj,λj k v hj=>by simp at hj} λh' a h up hS' ha' zl'=>?_}
 ·subst v;erw[AQ,AX,or_false]at hc
  rcases hc with v|v|v|v|v
  ·show r v
  ·show F v
  ·show E v
  ·show C v
  ·show B v
 ·rw[(Bb _ S _).1,(Bb _ S _).1];show p
 ·show H h' a h (λb o hb e=>up b o hb (d b o (λv=>hb (by simp[v])) e)) hS' ha' zl'
def bu2{TI TO l1 l2}{Q}(j:A.handled=AF)(D:Ej z TI TO i1 i2 l1 l2)(g:∀c∈[z,TI,TO,i1,i2,l1,l2],c<s.heap.objs.size)(hz:min xs.size ys.size<=1000000)
  (Z:ZAt b1 b2 z TI TO i1 i2 l1 l2 0 s.heap) (m:o8 b1 s.heap l1 xs) (l:o8 b2 s.heap l2 ys)
  (k:∀h' a h,(∀b o,b∉[z,TO,i1,i2]->s.heap.get? b=AA o->h'.get? b=AA o)->h'.get? s.heap.objs.size=AA {cls:=.type "list",dict:=AF,data:=.seq a h,slots:=#[]}->a.size=min xs.size ys.size->ZL s.heap.objs.size [s.heap.objs.size,z,TO,i1,i2] h' xs ys a->Q (.ref s.heap.objs.size) {s with heap:=h'}) :
  AR (model prog w) A (call (.type "list") [.ref z]) Q E s:=by
 have i:=λv=>CS _ (g _ v);apply callType_codes (Q₁:=λobj u=>obj=.ref s.heap.objs.size/\u={s with heap:=s.heap.push {cls:=.type "list",data:=.seq #[]}}) F.called_list (F.typeCall_list_1 _) F.entry_list_init (code_list_new _ ⟨rfl,rfl⟩) λobj u hu=>?_;let{rfl,rfl}:=hu;have f:(s.heap.push {cls:=.type "list",data:=.seq #[]}).get? s.heap.objs.size=AA {cls:=.type "list",data:=.seq #[]}:=Ae _ rfl;apply{⟨_,f,rfl⟩,F.args_list_init_2 _ _,?_};apply AC ?_;apply AC (BW f rfl (AL ?_));apply AC (EM f rfl ?_);have k2:=Bn (CM (λ_=>(#[]))) f rfl;have d:∀b o,s.heap.get? b=AA o->((s.heap.push {cls:=.type "list",data:=.seq #[]}).update s.heap.objs.size (CM (λ_=>#[]))).get? b=AA o:=λb o e=>(Ba _ _ (GH (Az e))).trans (AM _ e);apply b15 (m0:=s.heap.objs.size) j D i hz (Z.stay λc hc o=>d c o) (m.stay λo=>d _ o) (l.stay λo=>d _ o) k2 ?_ λh' a h up hS' ha' zl'=>?_
 ·rw[(Bb _ _ _).1,Ck];lia
 apply{rfl,k h' a h (λb o hb e=>up b o (λv=>?_) (d b o e)) hS' ha' zl'}
 rcases AQ.mp v with v|v
 ·show absurd (Az e) (by simp_all)
 ·show hb v
end
end PySem
namespace PySem
end PySem
namespace L2
open PySem PySem.Spec PyProof.Rows
section
variable {X:Cx} {pins:List (AI×Obj)} {σ:St} {H:Hp} {s:AK}
def Inv.track{b}{o}(I:Inv X pins σ H s)(h:z9 X pins H b)(g:o5 X.prog X.w (upd H b o) s.heap b o):Inv X pins σ (upd H b o) s:=by
 let{p,l,m,k,j,i}:=h;have a:∀c u,H c=AA u->c≠b:=λc u e z=>by grind
 have:=I.step (H':=upd H b o) (d':=s.drawn) (t':=s.toks) (ch:=[b]) (λc f=>by
   have e:=by simpa using f
   subst e;show⟨k,l,j,i⟩) (λc u _ _ _ e _=>e) (λc u _ _ _ e _=>⟨u.slots,e⟩) (λc u f e n=>by rw[j6 (by simp_all)];show n) (λc u _ e=>⟨u,e⟩)
  (λc xs e=>(j6 (a c _ e)▸e)) (λc u v e=>(j6 (a c _ e)▸e)) (λc ps e=>{#[],by rw[j6 (a c _ e),e];simp}) (λm hm=>hm) (λc u e=>?_) I.bare
 ·show this
 ·by_cases f:c=b
  ·subst f;rw[t4]at e;cases e;show g
  ·rw[j6 f]at e;show(I.hok c u e).stay (λ_ _ _ q=>q) (λd q=>j6 (a d _ q)▸q) λd xs q=>j6 (a d _ q)▸q
abbrev SqB(b:Bool)(K:AO)(H:Hp)(a:AI)(xs:List V):Prop:=match b with|true=>SqT K H a xs|false=>SqL K H a xs
def Inv.seqB{b}{a}{xs}(I:Inv X pins σ H s)(h:SqB b X.K H a xs):∃c:List AG,i5 xs c/\o8 b s.heap a c.toArray/\xs.length<=sizeLine:=by
 cases b with
 |true=>let{c,d,e,hz}:=I.tuple h;show⟨c,d,e,hz⟩
 |false=>let{c,d,e,hz}:=I.list h;show⟨c,d,e.isList,hz⟩
end
section
variable {X:Cx}
def cc4:BK "zip"=AA (.type "zip"):=by decide+kernel
end
section
variable {X:Cx}
abbrev di9:V->List V->Hp->VK->Prop:=λx vs H Q=>∃l xs,x=.ref l/\vs=[]/\H l=AA (.lst xs)/\Q .non (upd H l (.lst xs.reverse))
def cy4:MtM X "list.reverse" di9:=by
 intro c s i H x vs v us Q I f g h;let{l,j,rfl,rfl,d,q}:=h;cases f;have b:=g.zero;subst b;let{z,a,n,r,k,e}:=I.lstM d;apply Db F.slot_list_reverse ⟨_,e,rfl⟩ F.entry_list_reverse (F.args_list_reverse_1 _) (AutoSeq1.list_reverse_list_0 l a.toArray n (by rw[Ac];lia)) {e,?_};apply{.non,_,I.lset (its':=a.reverse) d e ?_ r.reverse ?_,rfl,q}
 ·simp
 ·rw[Ie];lia
end
end L2
namespace Ek
open PySem PySem.Spec PyProof.Rows L2
section
variable [Tbs]
section
variable {X:Cx} {a:AT} {ta:DT} {pos:Pos}
def cf4{apos}(j:PE X a (up X.K ta))(c:∀i p h,a≠.Call (.Name i p) [] [] h)(b:(apos.endLine==pos.line)=AD):
  PE X (.Call (.Attribute a "reverse" apos) [] [] pos) (up X.K λenv st Q=>ta env st λx st1=>ac6 x st1 Q):=
 PE.imp (bj4 PySem.F.plainAttrs_list PySem.F.slot_list_reverse PySem.F.type_list_reverse cy4 j (G1 c) b) λσ H Q q=>up1 q λv d H' st' Qd is rs e hq=>by
  cases d<;>first|show AU e|skip
  let{k,g,e}:=e;let{vs,f,r}:=rs.lst g;rw[is.ref_inv];show{.inl {rfl,vs,.inl (.inl f)},_,vs,rfl,rfl,f,hq _ _ _ (b0 st' _ (.lst k.reverse)) (Ev.put g) .non (rs.putOld f r.rev) e}
end
end
section
variable [Tbs]
section
variable {X:Cx} {a b:AT} {ta tb:DT} {pos p:Pos} {K:AO}
def b71 ds es:(J0 ds es).length=min ds.length es.length:=by unfold J0;rw[AV,Jk]
def c21(z:X.calm=AD)(u:Gl X "min")(t:X.mg "min"=AF)(B:PE X a (up X.K ta))(A:PE X b (up X.K tb))(h:∀e p,a≠.Starred e p)(f:∀e p,b≠.Starred e p):
  PE X (.Call (.Name "min" p) [a,b] [] pos) (up X.K λenv st Q=>ta env st λx c=>tb env c λy st2=>∃i j,x=.int i/\y=.int j/\Q (.int (if j<i then j else i)) st2):=
 PE.imp (af2 (b28 z) u t (rfl) (ag6 B A h f) ∅ ∅ (o7 h) (by rw[o7 f];rfl)) λσ H Q q=>by
  let{env,st,E,D,C,r,s}:=q;apply{env,st,(λds c=>match ds with|[x,y]=>∃i j,x=.int i/\y=.int j/\E (.int (if j<i then j else i)) c|_=>False),D,C,r,λvs ds H' st' ev is hl rs g=>?_}
  match ds,hl with
  |[d,e],_=>
   let{v,F,rfl,o,n}:=is.inv_cons;let{w,k,rfl,m,l}:=n.inv_cons;rw[l.inv_nil];let{i,j,rfl,rfl,g}:=g;show{i,j,by rw[o.int_inv,m.int_inv],(s.after ev).here (.int _) rs g}
theorem be8{g:List (AI×Obj)}{N:L2.St}{s:AK}{st:Sto}:∀(k:List AI)(vs us:List V)(p o:List AG)(c h:List D)(H:Hp),Inv X g N H s->RelS X.K st H->i5 vs p->i5 us o->IsDs X.K H c vs->IsDs X.K H h us->k.length=min vs.length us.length ->
  (∀(j:Nat)T x y,k[j]?=AA T->p[j]?=AA x->o[j]?=AA y->CA s.heap T x y)->k.Nodup->(∀T∈k,z9 X g H T) ->
  ∃r,Inv X g N r s/\Ev st H st r/\RelS X.K st r/\IsDs X.K r (J0 c h) (k.map V.ref)/\∀b,b∉k->r b=H b
 |[],vs,us,p,o,c,h,H,I,w,_,_,n,m,q,_,_,_=>by
  apply{H,I,Ev.refl,w,{?_,λi d v e1 e2=>by simp at e2},λb _=>rfl};rw[b71,n.len,m.len];simpa using q.symm
 |T::k,[],us,p,o,c,h,H,I,w,E,C,n,m,q,_,_,_=>by simp at q
 |T::k,v::vs,[],p,o,c,h,H,I,w,E,C,n,m,q,_,_,_=>by simp at q
 |T::k,v::vs,u::us,[],o,c,h,H,I,w,E,C,n,m,q,J,U,L=>by cases E
 |T::k,v::vs,u::us,x::p,[],c,h,H,I,w,E,C,n,m,q,J,U,L=>by cases C
 |T::k,v::vs,u::us,x::p,y::o,c,h,H,I,w,P,O,n,m,q,J,U,L=>by
  obtain⟨a1,E⟩:i7 v x/\i5 vs p:=by cases P with|cons a b=>show⟨a,b⟩
  obtain⟨a2,C⟩:i7 u y/\i5 us o:=by cases O with|cons a b=>show⟨a,b⟩
  obtain⟨d,c,rfl⟩:∃d B,c=d::B:=by cases c with|nil=>have:=n.len;simp at this|cons d c=>show⟨d,c,rfl⟩
  obtain⟨e,h,rfl⟩:∃d B,h=d::B:=by cases h with|nil=>have:=m.len;simp at this|cons d c=>show⟨d,c,rfl⟩
  have S:CA s.heap T x y:=J 0 T x y rfl rfl rfl;have G:=L T ∎;have M:H T=AF:=G.1;have I1:Inv X g N (upd H T (.tup [v,u])) s:=I.track G {by change 2<=sizeLine;decide,[x,y],.cons a1 (.cons a2 .nil),⟨_,S,rfl,rfl,_,rfl⟩};have tk:TK X.K H (upd H T (.tup [v,u])):=TK.new M;have A:=BU.mp U;have Z:IsDs X.K (upd H T (.tup [v,u])) c vs:=⟨by have:=n.len;simpa using this,λi d' v' e1 e2=>(n.at' (i+1) d' v' (by simpa using e1) (by simpa using e2)).mono tk⟩;have Y:IsDs X.K (upd H T (.tup [v,u])) h us:=⟨by have:=m.len;simpa using this,λi d' v' e1 e2=>(m.at' (i+1) d' v' (by simpa using e1) (by simpa using e2)).mono tk⟩;let{r,I2,W,Q,is,t}:=be8 k vs us p o c h _ I1 (w.new M) E C Z Y (by erw[AW]at q;lia) (λj T' x' y' h1 h2 h3=>J (j+1) T' x' y' (by simpa using h1) (by simpa using h2) (by simpa using h3)) A.2 λT' hT'=>by
   let{f0,f}:=L T' (by simp[hT']);show{by rw[j6 (λz=>A.1 (by rw[<-z];show hT'))];show f0,f}
  have e0:r T=AA (.tup [v,u]):=by rw[t T A.1];show t4
  have d0:IsD X.K H d v:=n.at' 0 d v rfl rfl;have d1:IsD X.K H e u:=m.at' 0 e u rfl rfl;have F:TK X.K H r:=TK.trans tk (W.tk (w.new M));apply{r,I2,(Ev.new M).trans W,Q,?_,λb hb=>?_}
  ·show .cons (IsD.mk (SqX.of e0) (.cons (d0.mono F) (.cons (d1.mono F) .nil))) is
  ·erw[AQ,not_or]at hb;rw[t b hb.2,j6 hb.1]
def ck7{p2 G:Pos}(z:X.calm=AD)(hg:Gl X "list")(hm:X.mg "list"=AF)(hg2:Gl X "zip")(hm2:X.mg "zip"=AF)(ha:PE X a (up X.K ta))(hb:PE X b (up X.K tb))(hs:∀e p,a≠.Starred e p)(hs':∀e p,b≠.Starred e p):
  PE X (.Call (.Name "list" p) [.Call (.Name "zip" p2) [a,b] [] G] [] pos) (up X.K λenv st Q=>ta env st λx f=>tb env f λy st2=>∃r n,x=.tup r/\y=.tup n/\min r.length n.length<=1000000/\∀p,st2 p=AF->Q (.ref p) (b0 st2 p (.lst (J0 r n)))):=by
 intro k s σ H Q I q;let{env,st,Qd,hE,hS,ht,hq}:=q;have hst2:Ao [b] X.env=[(AE,eval b X.env)]:=by rw[o7 hs'];rfl
 have hst:Ao [a,b] X.env=(AE,eval a X.env)::Ao [b] X.env:=by rw[o7 hs]
 apply JW (L6 I hg hm a01 (BF (Q:=_) (DJ ?_) rfl rfl));apply JW (L6 I hg2 hm2 L2.cc4 (BF (thn (ag6 ha hb hs hs' G k s σ H (λvs C=>∃v w r n f,vs=[v,w]/\Ev st H f C/\IsD X.K C (.tup r) v/\IsD X.K C (.tup n) w/\RelS X.K f C/\min r.length n.length<=1000000/\∀p,f p=AF->Qd (.ref p) (b0 f p (.lst (J0 r n)))) I
  {env,st,(λds f=>match ds with|[x,y]=>∃r n,x=.tup r/\y=.tup n/\min r.length n.length<=1000000/\∀p,f p=AF->Qd (.ref p) (b0 f p (.lst (J0 r n)))|_=>False),hE,hS,ht,λvs ds H' st' ev is hl rs Y=>?_}) λus s1 hh=>?_) hst (by rw[hst2];rfl)))
 ·match ds,hl with
  |[d,e],_=>
   let{v,ws,rfl,i1,i2}:=is.inv_cons;let{w,ws',rfl,i3,i4}:=i2.inv_cons;rw[i4.inv_nil];let{r,n,rfl,rfl,Y}:=Y;show⟨v,w,r,n,st',rfl,ev,i1,i3,rs,Y⟩
 let{vs,C,F,r1,v,w,r,n,f,e,ev,is,is2,rs,hle,Y}:=hh;subst e;let{u,u2,rfl,ru,ru2}:=r1.two;let{l1,vs,rfl,q1s,L}:=is.tup_inv;let{l2,ws,rfl,q2s,J}:=is2.tup_inv;cases ru;cases ru2;let{N,rv,L1,hz1}:=F.seqB (b:=AD) q1s;let{M,W,L2,hz2}:=F.seqB (b:=AD) q2s;have n1:=rv.length;have n2:=W.length;have A:min N.toArray.size M.toArray.size=min r.length n.length:=by erw[Ac];rw[<-n1,<-n2,L.len,J.len]
 apply b13 L1 L2 λh1 Z Z0 sz kk=>?_;apply EQ ?_;have I2:Inv X k σ C {s1 with heap:=h1}:=F.kept (t':=s1.toks) kk;have D:=zipApart_new L1.lt L2.lt;have bl:∀c∈[s1.heap.objs.size+4,s1.heap.objs.size+3,s1.heap.objs.size,s1.heap.objs.size+1],s1.heap.objs.size<=c:=λc z=>by
  erw[AQ,AX,or_false]at z
  rcases z with rfl|rfl|rfl|rfl
  ·show DP _ _
  ·show DP _ _
  ·show AS _
  ·show DP _ _
 apply bu2 (s:={s1 with heap:=h1}) (I2.ok.hd z) D (λc z=>?_) (by rw[A];show hle) Z (L1.stay λo e=>kk _ o e) (L2.stay λo e=>kk _ o e) λh2 acc c' up hS2 hacc zl=>?_
 ·rw[sz];erw[AQ,AX,or_false]at z
  rcases z with rfl|rfl|rfl|rfl|rfl|rfl|rfl
  ·show EB ∅ _
  ·show EB ∅ _
  ·show EB ∅ _
  ·show Nat.lt_add_of_pos_right ∅
  ·show EB ∅ _
  ·show Ai L1.lt (DP _ _)
  ·show Ai L2.lt (DP _ _)
 have I3:Inv X k σ C {s1 with heap:=h2,toks:=s1.toks}:=I2.turnedAll (s:={s1 with heap:=h1}) (t':=s1.toks) (ch:=[s1.heap.objs.size+4,s1.heap.objs.size+3,s1.heap.objs.size,s1.heap.objs.size+1]) (λc z=>F.fpOk (bl c z) (F.hok.fresh (bl c z))) λc u z e=>up c u z e;have R:s1.heap.objs.size<=h1.objs.size:=by rw[sz];lia
 obtain⟨m,P⟩:∃m:List AI,acc.toList=m.map Aq:=by
  have:∀l:List AG,(∀v∈l,∃T,v=.ref T)->∃m:List AI,l=m.map Aq:=λl=>by
   induction l with
   |nil=>intro _;show{[],rfl}
   |cons v l ih=>
    intro h;let{T,rfl}:=h v ∎;let{m,rfl}:=ih λw hw=>h w (by simp[hw]);show{T::m,rfl}
  apply this _ λv hv=>?_;let{j,O}:=Cn.mp hv;let{T,x,y,S,_}:=zl.1 j v (by simpa using O);show⟨T,S⟩
 have g:∀(j:Nat)T,m[j]?=AA T->acc[j]?=AA (.ref T):=λj T h=>by
  have:acc.toList[j]?=AA (.ref T):=by rw[P,Ah,h];rfl
  simpa using this
 have hTl:m.length=acc.size:=by have:=congrArg Cf P;simpa using this.symm
 have hnd:m.Nodup:=by
  rw[List.Nodup,List.pairwise_iff_getElem];intro i j hi O hij e;have h1:=g i _ (AJ hi);have h2:m[j]?=AA m[i]:=by rw[e];show AJ O
  have:=zl.2 i j _ h1 (g j _ h2);lia
 have hTf:∀T∈m,z9 X k C T:=λT hT=>by
  let{j,O}:=Cn.mp hT;let{T',x,y,S,g2,g3,g4,g5,g6}:=zl.1 j _ (g j T O);cases S;have:s1.heap.objs.size<=T:=BB R g6;show F.fpOk this (F.hok.fresh this)
 have hSn:h1.objs.size∉m:=λhT=>by
  let{j,O}:=Cn.mp hT;let{T',x,y,S,g2,_}:=zl.1 j _ (g j _ O);cases S;show g2 ∎
 let{H2,I4,ev2,rs2,is3,U}:=be8 (X:=X) (st:=f) (s:={s1 with heap:=h2,toks:=s1.toks}) m vs ws N M r n C I3 rs rv W L J (by rw[hTl,hacc,A,L.len,J.len]) (λj T x y t1 t2 t3=>by
   let{T',x',y',S,g2,g3,g4,g5,g6}:=zl.1 j _ (g j T t1);cases S;have f1:N[j]?=AA x':=by simpa using g3
   have f2:M[j]?=AA y':=by simpa using g4
   have e1:x'=x:=by rw[t2]at f1;show(At f1).symm
   have e2:y'=y:=by rw[t3]at f2;show(At f2).symm
   rw[<-e1,<-e2];show g5) hnd hTf
 have hS1:C h1.objs.size=AF:=F.hok.fresh R;have hS3:H2 h1.objs.size=AF:=by rw[U _ hSn];show hS1
 have hfS:z9 X k H2 h1.objs.size:=F.fpOk R hS3;have vr:i5 (m.map V.ref) acc.toList:=by
  rw[P];have:∀l:List AI,i5 (l.map V.ref) (l.map Aq):=λl=>by
   induction l with
   |nil=>show .nil
   |cons t l ih=>show .cons rfl ih
  show this m
 have I5:Inv X k σ (upd H2 h1.objs.size (.lst (m.map V.ref))) {s1 with heap:=h2,toks:=s1.toks}:=I4.track hfS (show o5 X.prog X.w _ h2 _ (.lst (m.map V.ref)) from{by rw[AV,hTl,hacc,A];show BB hle ∅,acc.toList,c',vr,by simpa using hS2});apply{.ref _,_,I5,rfl,?_};show(((hq.after ev).after ev2).newL rs2 is3 Y) _ hS3
end
end
end Ek
namespace PySem
end PySem
namespace Ek
open PySem PySem.Spec PyProof.Rows L2
section
variable [Tbs]
end
section
variable [Tbs]
variable{x:List BG}{H:Hp}{pos':Pos}
section
variable {X:Cx} {a b c:AT} {ta tb tc:DT} {pos p:Pos} {K:AO}
abbrev upG(K:AO)(t:Tg):TG:=λv σ H Q=>∃d env k,IsD K H d v/\RelE K H env σ/\E9 t d env k/\∀env' σ',RelE K H env' σ'->k env'->Q σ' H
def _root_.L2.PG.imp{X}{x}{t t'}(h:PG X x t)(i:∀v a H Q,t' v a H Q->t v a H Q):PG X x t':=λpins s a H v u Q I r q=>h pins s a H v u Q I r (i v a H Q q)
def cl5{i}{x}(g:X.N.Nodup)(hi:X.N[i]?=AA x)(b:Loc X.env.scope x)(f:X.fn x=AD\/X.env.scope.names.lookup x=AA .local):PG X (.Name x pos) (upG X.K (.n i)):=
 PG.imp (bf9 g hi b f) λv σ H Q q=>by
  let{d,env,k,a,h,c,e}:=q;show e _ _ (h.set a i) c
abbrev ad2:List Nat->TGs
 |[]=>br5
 |i::is=>bp6 (av1 i) (ad2 is)
theorem bl3{K}{Q}{k:i9->Prop}:∀c(e)vs(env)b,e.length=c.length->IsDs K H e vs->RelE K H env b->k (T2 env c e)->(∀a f,RelE K H a f->k a->Q f H)->ad2 c vs b H Q
 |[],[],vs,env,b,_,r,l,h,j=>{r.inv_nil,j _ _ l h}
 |i::c,d::e,vs,env,b,g,r,l,h,j=>by
  let{v,m,rfl,o,n}:=r.inv_cons;show{v,m,rfl,bl3 c e m _ _ (by simpa using g) n (l.set o i) h j}
 |[],d::e,vs,env,b,g,_,_,_,_=>by simp at g
 |i::c,[],vs,env,b,g,_,_,_,_=>by simp at g
def ct9{b:List AT}{k0}{a:List Nat}(m:X.calm=AD)(h:PGs X b (ad2 a))(l:(CG b X.env).length=a.length)(c:(CG b X.env).findIdx? (·.1)=AF):PG X (.Tuple b k0 pos) (upG X.K (.tup a)):=
 PG.imp (cx7 m h l c) λv σ H Q q=>by
  let{d,env,k,g,n,{o,rfl,f,i},j}:=q;let{q,vs,rfl,e,r}:=g.tup_inv;show{q,vs,rfl,e,r.len▸f,bl3 a o vs env σ f r n i j}
structure EndsR(K:AO)(st:Sto)(H:Hp)(Fd:DEnds)(F:Ends):Prop where
 nx:∀env σ H' st',Ev st H st' H'->RelE K H' env σ->RelS K st' H'->Fd.nx env st'->F.nx σ H'
 bk:∀env σ H' st',Ev st H st' H'->RelE K H' env σ->RelS K st' H'->Fd.bk env st'->F.bk σ H'
 ct:∀env σ H' st',Ev st H st' H'->RelE K H' env σ->RelS K st' H'->Fd.ct env st'->F.ct σ H'
 rt:v0 K st H Fd.rt F.rt
theorem EndsR.after{st st1}{H1}{Fd}{F}(e:EndsR K st H Fd F)(a:Ev st H st1 H1):EndsR K st1 H1 Fd F:=
 {λenv σ H' st' ev'=>e.nx env σ H' st' (a.trans ev'),λenv σ H' st' ev'=>e.bk env σ H' st' (a.trans ev'),λenv σ H' st' ev'=>e.ct env σ H' st' (a.trans ev'),e.rt.after a}
abbrev upS(K:AO)(t:DS):TS:=λF σ H=>∃env st Fd,RelE K H env σ/\RelS K st H/\t Fd env st/\EndsR K st H Fd F
variable {t u:DS} {s1:BG} {j8:List BG}
def bn2:PSs X [] (upS X.K λF env st=>F.nx env st):=PSs.imp cn0 λF σ H⟨env,st,Fd,hE,hS,ht,hq⟩=>hq.nx env σ H st Ev.refl hE hS ht
def cf3(b:PS X s1 (upS X.K t))(a:PSs X j8 (upS X.K u)):PSs X (s1::j8) (upS X.K λF env st=>t {F with nx:=u F} env st):=
 PSs.imp (b87 b a) λF σ H⟨env,st,Fd,hE,hS,ht,hq⟩=>{env,st,{Fd with nx:=u Fd},hE,hS,ht,λenv' σ' H' st' ev hE' hS' q=>{env',st',Fd,hE',hS',q,hq.after ev},hq.bk,hq.ct,hq.rt}
def at9{i}{x}(g:X.N.Nodup)(hi:X.N[i]?=AA x)(b:Loc X.env.scope x)(f:PE X a (up X.K ta))(c:Cj a (AA (.Name x pos')) pos.line X.env=pure AE)(e:X.fn x=AD\/X.env.scope.names.lookup x=AA .local):
  PS X (.Assign [.Name x pos'] a pos) (upS X.K λF env st=>ta env st λd st1=>F.nx (env.set i (AA d)) st1):=
 PS.imp (cr6 g hi b f c e) λF σ H⟨env,st,Fd,hE,hS,ht,hq⟩=>{env,st,_,hE,hS,ht,λv d H' st' ev is=>hq.nx _ _ H' st' ev ((hE.mono (ev.tk hS)).set is i)}
def cy0{tg}{b:List Nat}(g:PE X a (up X.K ta))(f:PG X tg (upG X.K (.tup b)))(e:FA [tg] a pos.line X.env=pure AE)(c:Ia [tg] a X.env=pure AF)(h:(CG [tg] X.env).map (·.2)=[assign tg X.env]):
  PS X (.Assign [tg] a pos) (upS X.K λF env st=>ta env st λd st1=>E9 (.tup b) d env λenv'=>F.nx env' st1):=
 PS.imp (bm7 g f e c h) λF σ H⟨env,st,Fd,hE,hS,ht,hq⟩=>{env,st,_,hE,hS,ht,λv d H' st' ev b rs q=>{d,env,_,b,hE.mono (ev.tk hS),q,λenv' σ' hE'=>hq.nx _ _ H' st' ev hE' rs}}
def c16{o i v}{to ti tv}(p:PE X v (up X.K tv))(t:PE X o (up X.K to))(hi:PE X i (up X.K ti))
  (c:∀w,assign (.Subscript o i pos') X.env w=do
   let e <-holding [w] (eval o X.env)
   let h <-holding [w,e] (eval i X.env)
   Hv pos'
   holding [w,e,h] (KR e h w)
   release [w,e,h] []) (s:FA [.Subscript o i pos'] v pos.line X.env=pure AE) (n:Ia [.Subscript o i pos'] v X.env=pure AF) :
  PS X (.Assign [.Subscript o i pos'] v pos) (upS X.K λF env st=>tv env st λd st1=>to env st1 λx st2=>ti env st2 λy st3=>∃a j k f,x=.ref a/\y=.int j/\st3 a=AA (.lst f)/\ixN f.length j=AA k/\F.nx env (b0 st3 a (.lst (f.set k d)))):=
 PS.imp (bm7 p (cx5 t hi ca4 c) s n rfl) λF σ H⟨env,st,Fd,hE,hS,ht,hq⟩=>{env,st,_,hE,hS,ht,λw d H1 st1 ev1 is1 rs1 q1=>
  {env,st1,_,hE.mono (ev1.tk hS),rs1,q1,λov x H2 st2 ev2 is2 rs2 q2=>⟨env,st2,_,(hE.mono (ev1.tk hS)).mono (ev2.tk rs1),rs2,q2,λiv y H3 st3 ev3 is3 rs3 g=>by
   let{q,j,k,f,rfl,rfl,m,u,g}:=g;let{vs,l,r}:=rs3.lst m;have b:=(is1.mono (ev2.tk rs1)).mono (ev3.tk rs2);show {q,vs,j,k,(is2.mono (ev3.tk rs2)).ref_inv,is3.int_inv,l,by rw[<-r.len];show u,hq.nx env σ _ _ (((ev1.trans ev2).trans ev3).trans (Ev.put m)) ((((hE.mono (ev1.tk hS)).mono (ev2.tk rs1)).mono (ev3.tk rs2)).mono (TK.put l)) (rs3.putOld l (r.set b k)) g}⟩}}
def cd0{o v}{to tv}{f}{C:Str->List Str}(B:∀c a,Av X.K AN c=AA (AA (.ref a))->f∈C c->Cls X.K a/\L0 X.K a f)(m:PE X v (up X.K tv))(u:PE X o (up X.K to))(s:Cj v (AA (.Attribute o f pos')) pos.line X.env=pure AE):
  PS X (.Assign [.Attribute o f pos'] v pos) (upS X.K λF env st=>tv env st λd st1=>to env st1 λx st2=>∃p c g,x=.ref p/\st2 p=AA (.ins c g)/\f∈C c/\g.length<1000/\F.nx env (b0 st2 p (.ins c (j9 f d g)))):=
 PS.imp (ct8 u m s) λF σ H q=>by
  let{env,st,G,j,i,n,t}:=q;apply{env,st,_,j,i,n,λw d H1 st1 ev is rs q1=>?_};apply{env,st1,_,j.mono (ev.tk i),rs,q1,λy x H2 st2 ev2 is2 rs2 q2=>?_};let{p,c,g,rfl,b,A,z,y}:=q2;let{a,k,vs,l,e,r}:=rs2.ins b;let{E,D}:=B c a e A;have h:=is.mono (ev2.tk rs);have tk:=TK.putI (K:=X.K) (o:=.ins a k (A5 f w vs)) l;apply{p,a,k,vs,is2.ref_inv,l,E,D,r.length▸z,?_};apply t.nx env σ _ _ ((ev.trans ev2).trans (Ev.put b)) (((j.mono (ev.tk i)).mono (ev2.tk rs)).mono tk) (rs2.putAny (ob:=.ins c (j9 f d g)) tk {a,k,_,t4,e,(r.put h f).mono tk} (by grind)) y
def c64(c:PE X a (up X.K ta))(b:Cj a AF pos.line X.env=pure AE):PS X (.Expr a pos) (upS X.K λF env st=>ta env st λ_ st1=>F.nx env st1):=
 PS.imp (cj6 c b) λF σ H⟨env,st,Fd,hE,hS,ht,hq⟩=>{env,st,_,hE,hS,ht,λv d H' st' ev is=>hq.nx _ _ H' st' ev (hE.mono (ev.tk hS))}
def bm9(b:PE X a (up X.K ta)):PS X (.Return (AA a) pos) (upS X.K λF env st=>ta env st F.rt):=
 PS.imp (ag0 b) λF σ H⟨env,st,Fd,hE,hS,ht,hq⟩=>⟨env,st,_,hE,hS,ht,hq.rt⟩
def cm3:PS X (.Return AF pos) (upS X.K λF _ st=>F.rt .non st):=PS.imp cg9 λF σ H⟨env,st,Fd,hE,hS,ht,hq⟩=>hq.rt.here .non hS ht
def cd7:PS X (.Pass pos) (upS X.K λF env st=>F.nx env st):=PS.imp cn4 λF σ H⟨env,st,Fd,hE,hS,ht,hq⟩=>hq.nx env σ H st Ev.refl hE hS ht
def ci5:PS X (.Continue pos) (upS X.K λF env st=>F.ct env st):=PS.imp bv7 λF σ H⟨env,st,Fd,hE,hS,ht,hq⟩=>hq.ct env σ H st Ev.refl hE hS ht
def bq4{tc}{y}(a:PT X c (upB X.K tc))(d:PSs X x (upS X.K t))(b:PSs X y (upS X.K u)):PS X (.If c x y pos) (upS X.K λF env st=>tc env st λk st1=>if k=AD then t F env st1 else u F env st1):=
 PS.imp (bq3 a d b) λF σ H⟨env,st,Fd,hE,hS,ht,hq⟩=>{env,st,_,hE,hS,ht,λk H' st' ev rs q=>by
  cases k with
  |true=>show{env,st',Fd,hE.mono (ev.tk hS),rs,q,hq.after ev}
  |false=>show{env,st',Fd,hE.mono (ev.tk hS),rs,q,hq.after ev}}
def b85{tc}(i:GN (model X.prog X.w) X.A X.env X.xe)(j:PT X c (upB X.K tc))(l:PSs X x (upS X.K t)):PS X (.While c x [] pos) (upS X.K λF env st=>∃n,A8 tc t F n env st):=
 PS.imp (cc9 i j l) λF σ H⟨env,st,Fd,hE,hS,⟨n,ht⟩,hq⟩=>by
  apply{λm σ' H'=>∃env' a,RelE X.K H' env' σ'/\RelS X.K a H'/\Ev st H a H'/\A8 tc t Fd m env' a,⟨n,env,st,hE,hS,Ev.refl,ht⟩,?_};rintro m σ1 H1 ⟨env1,st1,hE1,hS1,ev1,w1⟩;cases m with
  |zero=>show w1.elim
  |succ m=>
   apply{env1,st1,_,hE1,hS1,w1,λk H2 st2 ev2 rs2 q2=>?_};cases k with
   |false=>
    show hq.nx env1 σ1 H2 st2 (ev1.trans ev2) (hE1.mono (ev2.tk hS1)) rs2 q2
   |true=>
    apply{λσ' H'=>∃env' a,RelE X.K H' env' σ'/\RelS X.K a H'/\Ev st H a H'/\A8 tc t Fd m env' a,λσ' H' h=>{m,Gm _,h},?_};have e:=hq.after (ev1.trans ev2);have d:=ev1.trans ev2;show{env1,st2,_,hE1.mono (ev2.tk hS1),rs2,q2,λenv' σ' H' a ev hE' hS' q=>{env',a,hE',hS',d.trans ev,q},e.nx,λenv' σ' H' a ev hE' hS' q=>{env',a,hE',hS',d.trans ev,q},e.rt}
def ct0{tg iter}{ti}{g}(u:GN (model X.prog X.w) X.A X.env X.xe)(B:X.calm=AD)(hi:PI X tg iter (upI X.K ti))(z:PG X tg (upG X.K g))(C:PSs X x (upS X.K t))(s:∀v,Dl iter X.env v=pure v):
  PS X (.For tg iter x [] pos) (upS X.K λF env st=>ti env st λitems chk st1=>A4 chk g t F items env st1):=
 PS.imp (ct7 u B hi z C s) λF σ H⟨env,st,Fd,hE,hS,ht,hq⟩=>by
  apply{env,st,_,hE,hS,ht,λitems chk st1 H1 J ev1 rs1 ok q1=>?_};apply{λi m σ' H'=>m=items.length-i/\i<=items.length/\∃env' a,RelE X.K H' env' σ'/\RelS X.K a H'/\Ev st H a H'/\TK X.K H1 H'/\A4 chk g t Fd (items.drop i) env' a,{items.length,∎,BM _,env,st1,hE.mono (ev1.tk hS),rs1,ev1,TK.refl,q1},?_};rintro i m σ2 H2 ⟨rfl,hi,env2,st2,hE2,hS2,ev2,tk2,k⟩
  by_cases c:i<items.length
  ·right
   rw[CV c]at k;let{j,k}:=k;apply{ok.go i st2 H2 tk2 hS2 j c,λσ' H'=>i+1<=items.length/\∃env' a,RelE X.K H' env' σ'/\RelS X.K a H'/\Ev st H a H'/\TK X.K H1 H'/\A4 chk g t Fd (items.drop (i+1)) env' a,λσ' H' h=>{items.length-(i+1),⋯,rfl,h},λv H3 y=>?_};let{d,E,r,n,l}:=ok.yld i st2 H2 v H3 tk2 hS2 j c y;have D:d=items[i]:=by simp_all
   subst D;apply{_,env2,_,r,hE2.mono (n.tk hS2),k,λenv4 σ4 hE4 q4=>?_};have f:=ev2.trans n;have p:=hq.after f;have o:=tk2.trans (n.tk hS2);show{env4,st2,_,hE4,l,q4,λenv' σ' H' a ev hE' hS' q=>{c,env',a,hE',hS',f.trans ev,o.trans (ev.tk l),q},p.nx,λenv' σ' H' a ev hE' hS' q=>{c,env',a,hE',hS',f.trans ev,o.trans (ev.tk l),q},p.rt}
  ·left
   have e:i=items.length:=by lia
   subst e;rw[JT]at k;show{ok.stop st2 H2 tk2 hS2 k.1,hq.nx env2 σ2 H2 st2 ev2 hE2 hS2 k.2}
def b77{env}{σ}{fr}{k}(r:RelE K H env σ):RelE K H (S5 fr k env) (K9 fr k σ):=by
 apply{by simp[S5,K9],λi d h=>?_};unfold S5 at h;unfold K9
 by_cases hi:i<fr.length
 ·rw[Ab (by simp_all),Ah]at h ⊢;rw[AJ hi]at h ⊢;erw[Gg,CJ]at h ⊢;cases q:env[fr[i]]? with
  |none=>simp_all
  |some o=>
   rw[q]at h;have h':=h;subst h';let{v,b,a}:=r.at' _ d q;show{v,by rw[b];rfl,a}
 ·rw[Af (by simp_all),Da]at h
  split at h<;>cases h
def a93{S:i9->Sto->ItK->Prop}{g:Tg}{tc:DB}{fr:List Nat}{k:Nat}{L:L2.St}{Q:VK}
  (h:up K (λenv st Q=>S env st λitems chk st1=>items.length<=1000000/\B0 chk g tc ta (λacc b=>∀p,b p=AF->Q (.ref p) (b0 b p (.lst acc))) items [] (S5 fr k env) st1) L H Q) :
  at5 fr k (upI K S) (upG K g) (upB K tc) (up K ta) Q L H:=by
 let{env,st,Z,Y,X,ht,hq}:=h;apply{env,st,_,Y,X,ht,λitems chk st1 H1 J ev1 rs1 ok N p hp=>?_};let{U,N}:=N;have R:RelE K H1 env L:=Y.mono (ev1.tk X);apply{λi m σ' H'=>m=items.length-i/\i<=items.length/\∃f b acc r,RelE K H' f σ'/\RelS K b H'/\b p=AF/\H' p=AA (.lst r)/\IsDs K H' acc r/\acc.length<=i/\TK K H1 H'/\(∀a o,H a=AA o->st a=AF->a≠p/\(∃q,H' a=AA q/\TbE o q)/\b a=AF) /\
  B0 chk g tc ta (λacc b=>∀p,b p=AF->Z (.ref p) (b0 b p (.lst acc))) (items.drop i) acc f b,{items.length,∎,BM _,S5 fr k env,st1,[],[],(b77 R).mono (TK.new hp),rs1.new hp,rs1.free hp,t4,.nil,BM _,TK.new hp,λa o h1 h2=>?_,N},?_}
 ·let{{q,x,t},y}:=ev1 a o h1 h2;have T:a≠p:=z6 x hp;show{T,{q,by rw[j6 T];show x,t},y}
 rintro i m σ2 H2 ⟨rfl,hi,env2,st2,acc,r,hE2,hS2,sp2,hp2,ra,hal,tk2,old,E⟩
 by_cases n:i<items.length
 ·right
  rw[CV n]at E;let{D,E}:=E;apply{ok.go i st2 H2 tk2 hS2 D n,λσ' H'=>i+1<=items.length/\∃f b acc r,RelE K H' f σ'/\RelS K b H'/\b p=AF/\H' p=AA (.lst r)/\IsDs K H' acc r/\acc.length<=i+1/\TK K H1 H'/\(∀a o,H a=AA o->st a=AF->a≠p/\(∃q,H' a=AA q/\TbE o q)/\b a=AF) /\
   B0 chk g tc ta (λacc b=>∀p,b p=AF->Z (.ref p) (b0 b p (.lst acc))) (items.drop (i+1)) acc f b,λσ' H' h=>{items.length-(i+1),⋯,rfl,h},λv H3 y=>?_}
  let{d,V,O,I,u}:=ok.yld i st2 H2 v H3 tk2 hS2 D n y;have ed:d=items[i]:=by rw[AJ n]at V;show(At V).symm
  subst ed;apply{_,env2,_,O,hE2.mono (I.tk hS2),E,λenv4 σ4 hE4 q4=>?_};have C:∀{H':Hp}{b:Sto},Ev st2 H2 b H'->∀a o,H a=AA o->st a=AF->a≠p/\(∃q,H' a=AA q/\TbE o q)/\b a=AF:=λev a o h1 h2=>by
   let{x,{o1,y,t1},z}:=old a o h1 h2;let{{o2,y',t2},z'}:=ev a o1 y z;show{x,{o2,y',t1.trans t2},z'}
  apply{env4,st2,_,hE4,u,q4,λbb H5 st5 ev5 rs5 q5=>?_};have j:Ev st2 H2 st5 H5:=I.trans ev5;have B:TK K H2 H5:=j.tk hS2;let{P,M}:=j.get hp2 sp2 (λ_=>nofun);cases bb with
  |false=>
   erw[BD,if_false]at q5 ⊢;show{n,env4,st5,acc,r,hE4.mono (ev5.tk u),rs5,M,P,ra.mono B,⋯,tk2.trans B,C j,q5}
  |true=>
   apply{env4,st5,_,hE4.mono (ev5.tk u),rs5,q5,λw e H6 st6 ev6 is6 rs6 q6=>?_};have s:Ev st2 H2 st6 H6:=j.trans ev6;have A:TK K H2 H6:=s.tk hS2;let{l,F}:=s.get hp2 sp2 (λ_=>nofun);have G:=ra.mono A;have hsz:r.length<sizeLine:=by
    rw[<-G.len];have:(1000001:Nat)<=sizeLine:=by decide
    lia
   apply{r,l,hsz,n,env4,st6,acc++[e],r++[w],(hE4.mono ((ev5.trans ev6).tk u)).mono (TK.put l),rs6.stay (TK.put l) (λa o h1=>j6 λz=>by rw[z,F]at h1;cases h1) (as9 (by rw[l];show λ_ z=>by cases z)),F,t4,(G.append (.cons is6 .nil)).mono (TK.put l),by simp;lia,(tk2.trans A).trans (TK.put l),λa o h1 h2=>?_,q6};let{x,{q,y,t},z}:=C s a o h1 h2;show{x,{q,by rw[j6 x];show y,t},z}
 ·left
  have e:i=items.length:=by lia
  subst e;rw[JT]at E;apply{ok.stop st2 H2 tk2 hS2 E.1,hq _ (.ref p) H2 (b0 st2 p (.lst acc)) (λa o h1 h2=>?_) (.ref p) {λa o h1=>?_,hS2.tb} (E.2 p sp2)}
  ·let{x,y,z}:=old a o h1 h2;show{y,by rw[G0 x];show z}
  ·by_cases W:a=p
   ·subst W;rw[f8]at h1;cases h1;show⟨r,hp2,ra⟩
   ·rw[G0 W]at h1;show hS2.ob a o h1
end
end
section
variable [Tbs]
@[reducible]noncomputable def CXk(P:Ag)(w:Aw)(K:AO)(b:Bool):CXT:=CXb P w K "NoKind" A9 b
@[reducible]noncomputable def CXz(X:Cx)(b:Bool):CXT:=CXk X.prog X.w X.K b
structure TryOk(X:Cx):Prop where
 ex:∃C,Av X.K AN "NoKind"=AA (AA (.ref C))/\X.mg "NoKind"=AA (.ref C)/\Hj X.K C vB "ValueError.__new__"=AD/\JK X.K (.ref C) (.ref C)=AA AD
structure FrS(X:Cx)(b:Bool):Prop where
 stk:X.stack=X.env::X.outer
 fr:X.env.frame=AA X.env.locals
 pass:GN (model X.prog X.w) X.A X.env X.xe
 rai:b=AD->FrX X "NoKind" A9 AD
section
variable {X:Cx} {pos:Pos}
def ca7{b}{np cpos}{q}(F:FrS X b)(e:q->TryOk X)(d:X.calm=AD)(c:Gl X "NoKind"):PS X (.Raise (AA (.Call (.Name "NoKind" np) [] [] cpos)) AF pos) (upS X.K λ_ _ _=>b=AD/\q):=λpins s σ H D I h=>by
 let{_,_,_,_,f,a,_}:=h;let{C,j,i,g,_}:=(e a.2).ex;show cc3 (F.rai a.1) d j i c ∅ g pins s σ H D I f.tb
def FnOk.calm{P}{w}{K}{mg}{base}{k}{f}{fd}{ps}{sp}(F:FnOk P w K mg base (CXk P w K AE) k f fd ps sp){CX}:FnOk P w K mg base CX k f fd ps sp:=
 {F.len,λA outer s H args us vs Q E h1 h2 h3 h4 h5=>ES (F.run A outer s H args us vs Q E h1 h2 h3 h4 h5) λr s' q=>by
  cases r with
  |ok b=>cases b<;>show q
  | error e=>show absurd q.1 AH}
def FnOk.or{P}{w}{K}{mg}{base}{CX}{k}{f}{fd}{ps}{sp sp'}(F:FnOk P w K mg base CX k f fd ps sp)(a:FnOk P w K mg base CX k f fd ps sp'):
  FnOk P w K mg base CX k f fd ps λvs H Q E=>sp vs H Q E\/sp' vs H Q E:=
 {λvs H Q E h=>h.elim (F.len vs H Q E) (a.len vs H Q E),λA outer s H args us vs Q E h1 h2 h3 h4 h5=>h5.elim (F.run A outer s H args us vs Q E h1 h2 h3 h4) (a.run A outer s H args us vs Q E h1 h2 h3 h4)}
def ch9{K}{a b}{f}{vs}{H}{Q}{E}(h:u0 K (orF a b f) vs H Q E):u0 K (a f) vs H Q E\/u0 K (b f) vs H Q E:=by
 let{g,st,i,e,d,j,c}:=h;show j.elim (λq=>.inl ⟨g,st,i,e,d,q,c⟩) λq=>.inr ⟨g,st,i,e,d,q,c⟩
end
end
section
variable [Tbs]
structure Wk(K:AO)(H H':Hp):Prop where
 tp:∀a xs,SqX K H a xs->SqX K H' a xs
 fz:∀a o u,H a=AA (.frz o u)->(∀vs,u≠.lst vs)->∃u',H' a=AA (.frz o u')/\∀vs,u'≠.lst vs
section
variable {K:AO} {H H':Hp} {d:D} {v:V} {ds:List D} {vs:List V}
def G7.wk{cv}(h:G7 H cv)(k:Wk K H H'):G7 H' cv:=let⟨c,o,u,vs,q,t,i,g,f,e⟩:=h;let⟨a,d,b⟩:=k.fz _ _ _ g f;⟨c,o,a,vs,q,t,i,d,b,e⟩
theorem R0.wk{f}{np}{N}{b}{us}(h:R0 H f np N b us)(k:Wk K H H'):R0 H' f np N b us:=by
 let{fd,m,y,{o,u,t,s,r},q,p,n}:=h;let{j,e,d}:=k.fz _ _ _ t s;apply{fd,m,y,⟨o,j,e,d,r⟩,q.wk k,λx c hx=>?_,λi v hv=>?_}
 ·let{l,j,w,a,b,c}:=p x c hx;let{g,e,d}:=k.fz _ _ _ a b;show⟨l,g,w,e,d,c⟩
 ·let{x,c,l,j,w,D,C,B,A,z}:=n i v hv;let{g,e,d}:=k.fz _ _ _ B A;show⟨x,c,l,g,w,D,C,e,d,z⟩
theorem IsD.wk(h:IsD K H d v)(k:Wk K H H'):IsD K H' d v:=by
 induction h with
 |non=>show .non
 |bl b=>show .bl b
 |int i=>show .int i
 |str x=>show .str x
 |ref a=>show .ref a
 |ktup h n=>show .ktup h n
 |fn h=>show .fn h
 |clo a b _ c=>show .clo (a.wk k) b c
 |tup a b _ c=>show .tup (k.tp _ _ a) b c
theorem TabOk.wk{ps}(o:TabOk H ps)(k:Wk K H H'):TabOk H' ps:={o.tr,λpos cv hc=>(o.co pos cv hc).wk k}
def Wk.sel:Wk K H (D6 H):=⟨λa xs h=>by
 rcases h with h|⟨k,(h|⟨o,h⟩)|h⟩
 ·show .inl ((B9 h).trans rfl)
 ·show .inr {k,.inl (.inl ((B9 h).trans rfl))}
 ·show .inr {k,.inl (.inr {o,(B9 h).trans rfl})}
 ·show .inr {k,.inr h},λa o u h n=>by
 let{a,c,b}:=ab5 o u;show{a,(B9 h).trans c,b n}⟩
def RelS.none0(h:A9 H):RelS K (λ_=>AF) (D6 H):=⟨λ_ _ e=>(nomatch e),λP hP=>by
 let{a,e,o}:=h P hP;show{a,(B9 e).trans rfl,o.wk (K:=K) Wk.sel}⟩
def c06:TK K H (mrg H H'):={{λa xs q=>by
 rcases q with(q|⟨a,q⟩)|q
 ·show .inl (.inl (z4 q λ_=>nofun))
 ·show .inl (.inr {a,z4 q λ_=>nofun})
 ·show .inr q,λa xs q=>z4 q λ_=>nofun},λa o u q _=>z4 q λ_=>nofun}
def cr8{st}(r:RelS K st H){a}{o}(h:st a=AA o):mrg H H' a=H a:=by
 have z:=r.ob a o h;cases o with
 |lst j=>let{vs,b,_}:=z;rw[b];show z4 b λ_=>nofun
 |fro j=>
  obtain⟨vs,b|⟨u,b⟩,_⟩:=z
  ·rw[b];show z4 b λ_=>nofun
  ·rw[b];show z4 b λ_=>nofun
 |dct d=>let{vs,b,_}:=z;rw[b];show z4 b λ_=>nofun
 |dtt d=>let{vs,b,_}:=z;rw[b];show z4 b λ_=>nofun
 |ins c l=>let{C,m,vs,b,_}:=z;rw[b];show z4 b λ_=>nofun
structure Bh(H H':Hp):Prop where
 no:∀b o,H b=AA o->im o=AF->H' b=AF
 im:∀b o o',H b=AA o->im o=AA o'->(∀ps,o≠.tbl ps)->H' b=AA o'
 tb:∀b ps,H b=AA (.tbl ps)->∃ps',H' b=AA (.tbl ps')
def Bh.of{X}{pins}{g:L2.St}{s s':AK}(I:Inv X pins g H s){fs}(a:Un fs [] (D6 H) H' s.heap s'.heap):Bh H H':=⟨λb o e z=>by
  let{u,k}:=(I.hok b o e).ex;show a.free b u k ((B9 e).trans z) AX,λb o o' e z n=>by
  rcases aa1 o with hz|⟨i,rfl⟩|⟨c,rfl⟩|⟨ob,u,rfl⟩
  ·lia
  ·cases z;show a.tups b i ((B9 e).trans rfl)
  ·simp_all
  ·let{j,f,_}:=ab5 ob u;rw[f]at z;cases z;show a.frzs b ob j ((B9 e).trans f),λb c e=>by
  let{d,h}:=a.tbls b c ((B9 e).trans rfl);show⟨_,h⟩⟩
def Bh.up(B:Bh H H'){c}{o}(e:H' c=AA o)(n:∀ob u,o≠.frz ob u):mrg H H' c=AA o:=by
 cases q:H c with
 |none=>rwa[ac1 q]
 |some z=>
  rcases aa1 z with hz|⟨d,rfl⟩|⟨f,rfl⟩|⟨ob,u,rfl⟩
  ·rw[B.no c z q hz]at e;cases e
  ·rw[B.im c _ _ q rfl λ_=>nofun]at e;cases e;show z4 q λ_=>nofun
  ·rwa[U4 q]
  ·let{a,b,_}:=ab5 ob u;rw[B.im c _ _ q b λ_=>nofun]at e;cases e;show absurd rfl (n ob a)
def Bh.fz(B:Bh H H'){c}{ob}{u'}(e:H' c=AA (.frz ob u')):∃u,mrg H H' c=AA (.frz ob u)/\(u=u'\/L2.im (.frz ob u)=AA (.frz ob u')):=by
 cases q:H c with
 |none=>rw[ac1 q];show{u',e,.inl rfl}
 |some z=>
  rcases aa1 z with hz|⟨d,rfl⟩|⟨g,rfl⟩|⟨a,u,rfl⟩
  ·rw[B.no c z q hz]at e;cases e
  ·rw[B.im c _ _ q rfl λ_=>nofun]at e;cases e
  ·rw[U4 q];show{u',e,.inl rfl}
  ·let{f,b,_}:=ab5 a u;rw[B.im c _ _ q b λ_=>nofun]at e;cases e;show{u,z4 q λ_=>nofun,.inr b}
def cy2{ob}{u}{xs}(h:L2.im (.frz ob u)=AA (.frz ob (.tup xs))):u=.tup xs:=by
 cases u<;>cases h;rfl
def Bh.wk(B:Bh H H'):Wk K H' (mrg H H'):=⟨λa xs h=>by
 rcases h with h|⟨k,(h|⟨o,h⟩)|h⟩
 ·show .inl (B.up h λ_ _=>nofun)
 ·show .inr {k,.inl (.inl (B.up h λ_ _=>nofun))}
 ·obtain⟨u,a,rfl|b⟩:=B.fz h
  ·show .inr {k,.inl (.inr ⟨o,a⟩)}
  ·cases cy2 b;show .inr {k,.inl (.inr ⟨o,a⟩)}
 ·show .inr {k,.inr h},λa o u' h n=>by
 obtain⟨u,a,rfl|b⟩:=B.fz h
 ·show⟨_,a,n⟩
 ·apply{u,a,λvs z=>?_};subst z;cases b;show n vs rfl⟩
def Bh.tabs(B:Bh H H')(h:A9 H)(h':A9 H'):A9 (mrg H H'):=λP hP=>by
 let{c,e,_}:=h P hP;let{a,b,o}:=h' P hP;show{a,(U4 e).trans b,o.wk (K:=[]) B.wk}
def Bh.ev(B:Bh H H'){st}:Ev st H st (mrg H H'):=λa o h k=>by
 apply{?_,k}
 by_cases z:∃ps,o=.tbl ps
 ·let{ps,rfl}:=z;let{c,h'}:=B.tb a ps h;show{_,(U4 h).trans h',.inr ⟨_,_,rfl,rfl⟩}
 ·show{o,z4 h λps e=>z ⟨ps,e⟩,.inl rfl}
end
end
section
variable [Tbs]
abbrev dj6:Unit->AG->Bool
 |_,.none=>AD
 |_,_=>AE
abbrev at4(prog:Ag)(w:Aw):KeyKind prog w Unit where
 is:=dj6
 hash:=λ_=>0xFCA86420
 inj:=λ_ _ _ _ _=>rfl
 byValue:=λ_ v h=>by cases v<;>first|rfl|cases h
 pyHash:=λ{A E s k v Q}hv h=>by
  cases v<;>first|cases hv|skip
  show W.pyHash_slot (T:="NoneType") rfl F.slot_NoneType_hash F.entry_NoneType_hash (F.args_NoneType_hash_1 _) (Kk _) (.inl rfl) (AC (AL (AC (wpAny_mkInt (AL ⟨_,_,rfl,h⟩)))))
 eqBool:=λ{A E s a b u v Q}hu hv h=>by
  cases u<;>first|cases hu|skip
  cases v<;>first|cases hv|skip
  unfold PySem.eqBool
  try with_reducible apply Bg ?_
  rw[if_pos (by rfl)];show AC (DZ (AL h))
 «strs»:=λ_ _ _ _ h=>by cases h
section
variable {X:Cx} {a b:AT} {ta tb:DT} {pos:Pos}
def bk9{P}{w}{h:BA}{a}(d:h.DictOfH (NK.dataKind P w) a []):h.MapOf (at4 P w) a (λ_=>AF):=by
 let{o,f,g,e,c,b,i,_,_}:=d;have:f=#[]:=by
  simp_all
 subst this;show{o,#[],g,e,c,b,λe he=>by simp at he,λk=>rfl}
def bn5(c:Bool):OpR X (CD (if c then .NotIn else .In)) (λx y H Q=>∃a,x=.non/\y=.ref a/\H a=AA (.dT [])/\Q (.bl c) H):=by
 intro d s l H x y v u Q I j i h;let{a,rfl,rfl,e,q}:=h;cases(show u=Aq a from i);cases(show v=BQ from j);let{z,f,g,b,dd}:=Q6 I.hok (.inl e);have:g=[]:=by cases b;rfl
 subst this;cases c with
 |true=>show Lc (knd:=at4 X.prog X.w) (k:=()) (key:=.none) rfl f (bk9 dd) {.bl AD,H,I.tok _,rfl,q}
 |false=>show wpAny_in_of (knd:=at4 X.prog X.w) (k:=()) (key:=.none) rfl f (bk9 dd) {.bl AE,H,I.tok _,rfl,q}
end
end
end Ek
namespace HT
open PySem PySem.Spec PyProof.Rows
section
variable {prog:Ag} {w:Aw} {A:BR} {E:AG->AK->Prop} {s:AK}
def getItem_tuple_whole{t sl}{items}{vl vu}{lo hi}{Q}(b:IG s.heap t items)(f:s.heap.IsSliceOf sl vl vu .none)(i:GJ vl lo)(g:GJ vu hi)
  (l:sIx items.size 0 lo=0/\sIx items.size items.size hi=items.size)
  (h:Q (.ref t) s):AR (model prog w) A (Dz (.ref t) (.ref sl)) Q E s:=by
 let{j,c,d,k}:=id f;have e:s.TypeIs (.ref sl) "slice":=⟨j,c,d⟩;unfold Dz
 try with_reducible apply Bg ?_
 apply AC (HB b.typeIs ∅ ?_);apply AC (BP b.typeIs BV
  (BN BV b.typeIs Jo ?_ (KG _ _)))
 change AR _ _ (Di (.ref t)>>=_) _ _ s;apply AC (tupleItemsOf_ b ?_);apply AC (FZ e ?_);apply AC (ay7 f i g ?_);have a:(((sIx items.size 0 lo):Int)==0&&(1:Int)==1&&(sIx items.size items.size hi-sIx items.size 0 lo)==items.size)=AD:=by
  simp_all
 change AR _ _ (if((sIx items.size 0 lo:Int)==0&&1==1&&(sIx items.size items.size hi-sIx items.size 0 lo)==items.size)=AD then _ else _) _ _ s;rw[if_pos a];apply AC ?_;apply AC (FZ b.typeIs ?_);apply AL ?_;show AC (DZ (AL {_,rfl,AL h}))
end
end HT
namespace L2
open PySem PySem.Spec PyProof.Rows
section
variable {X:Cx}
abbrev c98(K:AO):V->Option Int->Option Int->Hp->VK->Prop:=λx lo hi H Q=>∃a xs,x=.ref a/\SqT K H a xs /\
 (HT.sIx xs.length 0 lo=0/\HT.sIx xs.length xs.length hi=xs.length)/\Q (.ref a) H
def cj9:SlR X (c98 X.K):=by
 intro d s n H x v p o lo hi t Q I g m j i h;let{a,f,rfl,k,l,q}:=h;cases g;let{c,r,e,hz}:=I.tuple k;have b:c.toArray.size=f.length:=by show r.length.symm
 show {"tuple",_,BV.lookup,e.typeIs,HT.getItem_tuple_whole e m j i (by rw[b];show l) {.ref a,H,I,rfl,q}}
end
end L2
namespace Ek
open PySem PySem.Spec PyProof.Rows L2
section
variable [Tbs]
variable{H:Hp}
mutual
theorem bm4{K:AO}{H:Hp}(kt:Tbs.kt=AE):∀(d:D){v:V},IsD K H d v->NK.lit d.py=AD->HRd H d.py v
 |.int i,v,h,_=>h.int_inv
 |.str x,v,h,_=>h.str_inv
 |.tup ds,v,h,hl=>by
  let{a,vs,rfl,q,r}:=h.tup_invX;show{a,vs,rfl,q.trk kt,bi8 kt ds r hl}
 |.non,v,h,hl=>nomatch hl
 |.bl _,v,h,hl=>nomatch hl
 |.ref _,v,h,hl=>nomatch hl
 |.fn _,v,h,hl=>nomatch hl
 |.clo _ _ _ _,v,h,hl=>nomatch hl
 |.ktup _,v,h,hl=>nomatch hl
theorem bi8{K:AO}{H:Hp}(kt:Tbs.kt=AE):∀(ds:List D){vs:List V},IsDs K H ds vs->NK.lits (D.pys ds)=AD->O5 H (D.pys ds) vs
 |[],vs,r,_=>r.inv_nil
 |d::ds,vs,r,hl=>by
  let{v,ws,rfl,i1,i2}:=r.inv_cons;have h':NK.lit d.py=AD/\NK.lits (D.pys ds)=AD:=by
   have:(NK.lit d.py&&NK.lits (D.pys ds))=AD:=hl;simpa using this
  show{v,ws,rfl,bm4 kt d i1 h'.1,bi8 kt ds i2 h'.2}
end
def as4{K}(d:Tbs.kt=AE){ks}{v}(h:IsD K H (.tup ks) v)(c:D.key (.tup ks)):∃b,v=.ref b/\F6 H (D.tup ks).py b:=by
 let{a,vs,rfl,_}:=h.tup_invX;show{a,rfl,c.1,c.2,bm4 d _ h c.1}
section
variable {X:Cx} {a b o i v:AT} {ta tb to ti tv:DT} {pos apos pos':Pos}
theorem RelS.dtt{K}{st}(r:RelS K st H){a}{kvs}(h:st a=AA (.dtt kvs)):∃vs,H a=AA (.dT vs)/\IsPs K H kvs vs/\Tbs.kt=AE:=r.ob a _ h
def cx3{c:List Str}(e:c≠[]->Tbs.kt=AE):PE X (.Dict [] [] pos) (up X.K λenv st Q=>c≠[]/\∀p,st p=AF->Q (.ref p) (b0 st p (.dtt []))):=
 PE.imp cc8 λσ H Q q=>by
  let{env,st,g,f,b,a,d}:=q;show λp hp=>d _ (.ref p) _ (b0 st p (.dtt [])) (Ev.newS hp) (.ref p) (b.putAny (TK.new hp) {[],t4,.nil,e a.1} (by simp_all)) (a.2 p (b.free hp))
def cq8(P:X.A.units+200<CO)(N:PE X a (up X.K ta))(m:PE X b (up X.K tb))(g:∀i p F,a≠.Call (.Name i p) [] [] F)(s:∀e p,b≠.Starred e p)(f:(apos.endLine==pos.line)=AD):
  PE X (.Call (.Attribute a "get" apos) [b] [] pos) (up X.K λenv st Q=>ta env st λx st1=>ax0 x st1/\tb env st1 λy st2=>ax5 x y st2 Q):=
 PE.imp (b81 ⋯ N m {G1 g,by rw[o7 s];rfl,f,by rw[o7 s];rfl}) λσ H Q q=>by
  let{env,st,R,B,z,J,u}:=q;apply{env,st,_,B,z,J,λx d H1 st1 ev is rs h=>?_};let{w,h}:=h;cases d<;>first|show w.elim|skip
  rename_i p;let{G,L}:=w;let{vs,O,r,I}:=rs.dtt L;apply{p,is.ref_inv,.inr {vs,.inl O},env,st1,_,B.mono (ev.tk z),rs,h,λy e H2 st2 ev2 is2 rs2 c=>?_};cases e<;>first|show c.elim|skip
  rename_i ks;let{o,l,M,c}:=c;let{C,n,E,_}:=rs2.dtt l;let{b,rfl,m}:=as4 I is2 M;apply{_,B4.t n m,?_}
  rcases E.look (D.tup ks).py with⟨k,j⟩|⟨d,v,k,j,i⟩
  ·rw[j];rw[k]at c;show u _ _ _ st2 (ev.trans ev2) .non rs2 c
  ·rw[j];rw[k]at c;show u _ _ _ st2 (ev.trans ev2) i rs2 c
def TK.putT{K}{p}{u}{xs}(h:H p=AA (.dT xs)):TK K H (upd H p u):=TK.upd' (by simp_all) (by grind)
def bi1(i:X.A.units+200<CO)(b:Bool):OpR X (CD (if b then .NotIn else .In)) (λx y H Q=>∃a o,y=.ref a/\B4 H a x o/\Q (.bl (b != o.isSome)) H):=by
 intro d s f H x y v u Q I c e h;let{a,o,rfl,g,q}:=h;cases(show u=Aq a from e);cases b with
 |true=>show bh3 ⋯ I g c λs' I'=>{.bl _,H,I',rfl,by cases h:o.isSome<;>(rw[h]at q;show q)}
 |false=>show bs2 ⋯ I g c λs' I'=>{.bl _,H,I',rfl,by cases h:o.isSome<;>(rw[h]at q;show q)}
def bl5{ne}{v w}{d e}{H'}{st'}{Qd}{Q}(p:IsD X.K H' d v)(n:IsD X.K H' e w)(f:RelS X.K st' H')(c:U6 ne d e st' Qd)(j:v0 X.K st' H' Qd Q):(∃a o,w=.ref a/\B4 H' a v o/\Q (.bl (ne != o.isSome)) H')\/∃a,v=.non/\w=.ref a/\H' a=AA (.dT [])/\Q (.bl ne) H':=by
 cases d<;>cases e<;>first|show AU c|skip
 ·let{k,c}:=c;let{vs,l,r,m}:=f.dtt k;have:=Bj (by rw[<-r.len];rfl);subst this;show .inr {_,(by cases p;rfl),n.ref_inv,l,j.here (.bl _) f c}
 rename_i ks a;apply .inl ?_;let{q,k,s,c}:=c;let{vs,l,r,m}:=f.dtt k;let{b,rfl,u}:=as4 m p s;apply{_,_,n.ref_inv,B4.t l u,?_}
 rcases r.look (D.tup ks).py with⟨h,g⟩|⟨d,v,h,g,i⟩
 ·rw[g];rw[h]at c;show j.here (.bl _) f c
 ·rw[g];rw[h]at c;show j.here (.bl _) f c
def cz7{f:Bool}{c}(h:c=if f then .NotIn else .In)(g:X.A.units+200<CO)(l:PE X a (up X.K ta))(j:PE X b (up X.K tb))(i:∀m k p,b≠.Set m k p):PE X (.Compare a [c] [b] pos) (up X.K λenv st Q=>ta env st λx st1=>tb env st1 λy st2=>U6 f x y st2 Q):=by
 subst h;show PE.imp (bj1 ((bi1 g f).or (bn5 f)) l j (ae8 _ b i)) λσ H Q q=>up2 q λv w d e H' st' Qd i1 i2 rs ht=>bl5 i1 i2 rs ht
def cv6{f:Bool}{c}(l:c=if f then .NotIn else .In)(i:X.A.units+200<CO)(o:PE X a (up X.K ta))(n:PE X b (up X.K tb))(m:∀t k p,b≠.Set t k p):
  PT X (.Compare a [c] [b] pos) (upB X.K λenv st Q=>ta env st λx st1=>tb env st1 λy st2=>U6 f x y st2 λd st'=>∃k,d=.bl k/\Q k st'):=by
 subst l;apply PT.imp (bf2 ((bi1 i f).or (bn5 f)) o n (ae8 _ b m)) λσ H Q q=>?_;let{env,st,u,s,r,h,j}:=q;apply up2 (Q:=λx H'=>∃k,x=.bl k/\Q k H') {env,st,_,s,r,h,λv d H' st' ev is rs g=>?_} λv w d e H' st' u i1 i2 rs h=>bl5 i1 i2 rs h;let{k,rfl,g}:=g;show{k,is.bl_inv,j k H' st' ev rs g}
def cg2(q:X.A.units+200<CO)(j:PE X v (up X.K tv))(l:PE X o (up X.K to))(hi:PE X i (up X.K ti))(k:Cj v (AA (.Subscript o i pos')) pos.line X.env=pure AE):
  PS X (.Assign [.Subscript o i pos'] v pos) (upS X.K λF env st=>tv env st λd st1=>to env st1 λx st2=>ti env st2 λy st3=>av7 x y d st3 λst4=>F.nx env st4):=
 PS.imp (bh0 ⋯ l hi j k) λF σ H⟨env,st,Fd,hE,hS,ht,hq⟩=>{env,st,_,hE,hS,ht,λw d H1 st1 ev1 is1 rs1 q1=>
  {env,st1,_,hE.mono (ev1.tk hS),rs1,q1,λov x H2 st2 ev2 is2 rs2 q2=>⟨env,st2,_,(hE.mono (ev1.tk hS)).mono (ev2.tk rs1),rs2,q2,λiv y H3 st3 ev3 is3 rs3 c=>by
   cases x<;>cases y<;>first|show c.elim|skip
   let{f,h,n,m,c}:=c;let{vs,e,r,g}:=rs3.dtt h;let{b,rfl,p}:=as4 g is3 n;have a:=(is1.mono (ev2.tk rs1)).mono (ev3.tk rs2);apply{_,_,(is2.mono (ev3.tk rs2)).ref_inv,O1.t e p (by rw[<-r.len];show m),?_};show hq.nx env σ _ _ (((ev1.trans ev2).trans ev3).trans (Ev.put h)) ((((hE.mono (ev1.tk hS)).mono (ev2.tk rs1)).mono (ev3.tk rs2)).mono (TK.putT e)) (rs3.putAny (ob:=.dtt (Y2 f _ d)) (TK.putT e) {_,t4,(r.put a _).mono (TK.putT e),g} (by grind)) c⟩}}
def b24{ds}{lo hi}(h:HT.sIx ds.length 0 lo=0/\HT.sIx ds.length ds.length hi=ds.length):A6 ds lo hi=ds:=by
 unfold A6;rw[h.1,h.2];simp
def cz9{lo hi}{tl th}{p2}(t:PE X a (up X.K ta))(o:PO X lo (upO X.K tl))(s:PO X hi (upO X.K th)):
  PE X (.Subscript a (.Slice lo hi AF p2) pos) (up X.K λenv st Q=>ta env st λx st1=>tl env st1 λl st2=>th env st2 λh st3=>ai5 x l h st3 Q):=
 PE.imp (bd2 (bl0.or cj9) t o s) λσ H Q q=>by
  let{env,st,u,j,i,m,n}:=q;apply{env,st,_,j,i,m,λv d H1 st1 ev1 is1 rs1 q1=>{env,st1,_,j.mono (ev1.tk i),rs1,q1,λl H2 st2 ev2 rs2 q2=>{env,st2,_,(j.mono (ev1.tk i)).mono (ev2.tk rs1),rs2,q2,λh H3 st3 ev3 rs3 q3=>?_}}};have e:=(is1.mono (ev2.tk rs1)).mono (ev3.tk rs2);have b:=((n.after ev1).after ev2).after ev3;cases d<;>first|show AU q3|skip
  rename_i c;let{p,vs,rfl,g,r}:=e.tup_invX
  by_cases f:HT.sIx c.length 0 l=0/\HT.sIx c.length c.length h=c.length
  ·have k:u (.tup (A6 c l h)) st3:=q3;rw[b24 f]at k;show .inr {p,vs,rfl,g.sqt,(r.len▸f),b.here (IsD.mk g r) rs3 k}
  ·show .inl {p,vs,rfl,g.sqt,r.len▸f,b.newT rs3 (at6 r l h) q3}
end
end
section
variable [Tbs]
section
variable {X:Cx} {a b c:AT} {ta tb tc:DT} {pos apos p:Pos}
structure IscOk(K:AO)(c:Str)(Ca:AI):Prop where
 at_:Av K AN c=AA (AA (.ref Ca))
 cl:Cls K Ca
 ha:Bc K (.ref Ca) "__class__"=AA (AA (.builtin "object.__class__"))
 hn:W.specialIn K (.builtin "object.__class__") "__get__"=AA (AA (.builtin "getset_descriptor.__get__"))
 htk:W.takesIn K (.builtin "object.__class__")=AA AD
 hm:W.mroIn K Ca (.type "object")=AA AD
 no:Dx K (.type "tuple") (.ref Ca)=AA AE
 yes:Dx K (.ref Ca) (.ref Ca)=AA AD
end
end
section
variable [Tbs]
variable{H:Hp}
abbrev upW(K:AO)(sp:Spec):Sp:=λvs H Q _=>∃ds st Qd,IsDs K H ds vs/\RelS K st H/\sp ds st Qd/\∀v d H',A9 H'->IsD K H' d v->Qd d S0->Q v H'
structure FnW(X:Cx)(f:Str)(sp:Spec):Prop where
 ex:∃k a fd ps,FnOk X.prog X.w X.K X.mg X.base (CXz X AE) k a fd ps (upW X.K sp)/\Room k X.A/\X.mg f=AA (.ref a)/\Bm X.K (.ref a)=AD/\r6 X.K fd ps []
abbrev ah7(K:AO)(t:i9->Sto->DK->Prop):TS:=λD σ H=>∃env st Qd,RelE K H env σ/\RelS K st H/\t env st Qd/\∀v d H',A9 H'->IsD K H' d v->Qd d S0->D.rt v H'
section
variable {X:Cx} {pos p:Pos} {a:AT} {es:List AT} {n:Nat} {t:DA} {f:Str} {sp:Spec}
theorem IsDs.wk{K}{H'}{ds}{vs}(h:IsDs K H ds vs)(k:Wk K H H'):IsDs K H' ds vs:={h.len,λi d v a b=>(h.at' i d v a b).wk k}
def b62(F:FnW X f sp)(J:Gl X f)(M:PA X (a::es) (upA X.K n t))(A:(f==("__debug__":Str))=AE)(C:∀e p,a≠.Starred e p)(z:(Bx pos (Ao es X.env)).any (·.1)=AE):
  PE X (.Call (.Name f p) (a::es) [] pos) (up X.K λenv st Q=>t env st λds g=>sp ds S0 λd _=>Q d g):=λpins s σ H Q I h=>by
 let{k,P,fd,O,N,D,E,G,L}:=F.ex;apply Bz (M9 I J E ?_ A);apply Dj I.ok.mod.kin G (thn (M pos pins s σ H (λvs H'=>∃ds b m,IsDs X.K H' ds vs/\RelS X.K b H'/\sp ds S0 (λd _=>m d b)/\v0 X.K b H' m Q) I (ai4 h λvs ds H' b m w hl l x y=>⟨ds,b,m,w,l,x,y⟩)) λus s1⟨vs,H1,I1,r,q⟩=>{I1.kIn,?_}) (o7 C) z;let{ds,g,m,w,l,x,y}:=q;apply bw3 (Q0:=λv H'=>∃d,A9 H'/\IsD X.K H' d v/\m d g) N D L I1 r {ds,S0,_,w.wk Wk.sel,RelS.none0 l.tb,x,λv d H' u i q=>⟨d,u,i,q⟩} (λe s' c=>absurd c.1 AH) λv H' s' un z42=>?_;let{d,u,i,q}:=z42;have B:=Bh.of I1 un;show y v d _ g B.ev (i.wk B.wk) {λa o e=>(l.ob a o e).stay c06 (cr8 l e),B.tabs l.tb u} q
def c04(F:FnW X f sp)(g:y6 (CXz X AE) X E0)(m:Gl X f)(r:PA X (a::es) (upA X.K n t))(c:(f==("__debug__":Str))=AE)(h:∀e p,a≠.Starred e p)(b:(Bx pos (Ao es X.env)).any (·.1)=AE){d}:
  PS X (.Return (AA (.Call (.Name f p) (a::es) [] pos)) d) (ah7 X.K λenv st Q=>t env st λds st1=>sp ds st1 Q):=by
 let{k,u,fd,d,s,i,j,l,o}:=F.ex;show PS.imp (ag0 (bi7 s i m j l o .nil g r c (o7 h) b)) λD σ H⟨env,st,Qd,hE,hS,ht,hq⟩=>{env,st,_,hE,hS,ht,λvs ds H' st' ev is hl rs q=>{ds,st',Qd,by simp_all,rs,q,hq}}
def Inv.unpin{pins}{a:L2.St}{s}(I:Inv X pins a H s):Inv X [] a H s:={I.ok,I.os,I.bare,I.base,I.loc,I.cell,I.free,I.freeC,λp h=>I.pin p (DW _ (by simp_all)),I.hok,I.len}
def c97{b}{x}{tc}{q}{j1 j2}{p1 p2 p3 p4 p5 p6 p7}(S:FrS X b)(E:q->TryOk X)(y:Gl X "NoKind")(B:∀j,y6 (CXz X AD) (X.wish j) E0->PT (X.wish j) x (upB X.K tc)){s}{f:L2.St}{D}(I:Inv X [] f H s)
  (h:ah7 X.K (λenv st Q=>q/\tc env st (λd _=>d=AD)/\Q (.bl AE) S0) D f H) :
  AR (model X.prog X.w) X.A (exec (.Try [.If x [.Return (AA (.Constant (.bool AE) j1 p1)) p2] [] p3] [.ExceptHandler (AA (.Name "NoKind" p4)) AF [.Return (AA (.Constant (.bool AE) j2 p5)) p6] p7] [] [] pos) X.env) (SP X [] D) X.xe s:=by
 let{env,st,Qd,L,F,{r,t,G},v}:=h;let{C,p,o,_,n}:=(E r).ex;have fin:=λH' tb=>v _ _ H' tb (.bl AE) G;apply LC ?_;have m:=B (λe s'=>∃pins f H g,Inv X pins f H g/\CXe X.prog X.w X.K "NoKind" A9 X.stack H g E0 e s') λpins f H s e s' J c=>⟨pins,f,H,s,J.unwish,c.2⟩;apply Be (aa7 (bq3 m (aa7 (ag0 ah2)) bz8) [] s f H {nx:=λ_ _=>False,rt:=D.rt,bk:=λ_ _=>False,ct:=λ_ _=>False} (I.wish _) {env,st,_,L,F,t,λd H' st' ev rs e=>?_}) (λfl g h1=>?_) λe s' z43=>?_
 ·subst e;show fin H' rs.tb
 ·cases fl with
  |next=>let{_,_,_,z}:=h1;show z.elim
  |brk=>let{_,_,_,z}:=h1;show z.elim
  |cont=>let{_,_,_,z}:=h1;show z.elim
  |ret u=>show h1.unwish
 ·let{pins,k,H',g,J,c}:=z43;show b20 S.stk S.fr y o ∅ p n (Inv.unpin J) c fin
end
end
section
variable [Tbs]
variable{H:Hp}
theorem be1:∀{bs:List Bool}{a},i5 (bs.map V.bl) a->∀(i:Nat)v,a[i]?=AA v->∃b,bs[i]?=AA b/\v=.bool b
 |[],a,r,i,v,h=>by cases r;simp at h
 |b::bs,a,r,i,v,h=>by
  cases r with
  |cons g f=>
   cases i with
   |zero=>simp at h;subst h;show⟨b,rfl,g⟩
   |succ i=>show be1 f i v (by simpa using h)
section
variable {X:Cx} {a o i v:AT} {ta to ti tv:DT} {p pos pos':Pos}
def b05(t:X.calm=AD):G8 X (.builtin "any") λxs H Q=>∃(p:AI)(bs:List Bool),xs=[.ref p]/\SqL X.K H p (bs.map V.bl)/\Q (.bl (bs.any id)) H:=by
 intro g s y H xs us Q I r h;let{p,bs,rfl,m,q}:=h;let{u,rfl,k}:=r.one;cases k;let{a,f,l,hz}:=I.list m;have d:=l.isList;have hsz:a.length=bs.length:=by rw[<-f.length,AV]
 have n:p<s.heap.objs.size:=by let{_,e,_}:=d;show Az e
 apply call_any_walk (HH d {s.heap.objs.size,[s.heap.objs.size,p],[s.heap.objs.size],a.toArray.size,_,_,λi=>(bs[i]?).getD AE,rfl,Walks.list (A:=X.A.in1) (I.ok.hd t) _ p (Bd n) a.toArray,{{_,Ae _ rfl,rfl,rfl},d.push _},?_,?_})
 ·intro i v s' x z w c;let{b,e,rfl}:=be1 f i v (by simpa using w);have c:x ((bs[i]?).getD AE) s':=c;rw[e]at c;show CU c
 ·intro h' tk o;rw[Ac,hsz,LSm.range_any bs];show{.bl (bs.any id),H,I.kept (LSm.kept_iter o),rfl,q}
def cb2:BK "any"=AA (.builtin "any"):=by decide+kernel
theorem IsDs.bools{K}:∀{bs:List Bool}{vs},IsDs K H (bs.map D.bl) vs->vs=bs.map V.bl
 |[],vs,r=>r.inv_nil
 |b::bs,vs,r=>by
  let{v,d,rfl,c,a}:=IsDs.inv_cons (by simpa using r);rw[c.bl_inv,IsDs.bools a];rfl
def cr0(i:X.calm=AD)(h:Gl X "any")(g:X.mg "any"=AF)(j:PE X a (up X.K ta))(c:∀e p,a≠.Starred e p):PE X (.Call (.Name "any" p) [a] [] pos) (up X.K λenv st Q=>ta env st λx st1=>ax3 x st1 Q):=
 bp2 (b05 i) h g cb2 j c (λv d H' st' Qd Q is rs b hq=>by
  cases d<;>first|show AU b|skip
  let{bs,f,b}:=b;let{vs,c,r}:=rs.rd f;show{_,bs,by rw[is.ref_inv],r.bools▸c,hq.here (.bl _) rs b}) ∅ ∅
def cw2:PE X (.Dict [] [] pos) (up X.K λenv st Q=>∀p,st p=AF->Q (.ref p) (b0 st p (.dct []))):=
 PE.imp b57 λσ H Q q=>by
  let{env,st,e,d,a,b,c}:=q;show λp hp=>c _ (.ref p) _ (b0 st p (.dct [])) (Ev.newS hp) (.ref p) (a.putNewD hp {rfl,.nil}) (b p (a.free hp))
def IsKs.snoc{K}{kvs}{vs}{d}{v}(h:IsKs K H kvs vs)(i:IsD K H d v)k:IsKs K H (kvs++[(k,d)]) (vs++[(k,v)]):=
 {by simp[h.ks],by simpa using h.ds.append (.cons i .nil)}
def TK.putKd{K}{p}{u}{xs}(h:H p=AA (.dK xs)):TK K H (upd H p u):=TK.upd' (by simp_all) (by grind)
def cl6(B:X.A.units+200<CO)(q:PE X v (up X.K tv))(t:PE X o (up X.K to))(hi:PE X i (up X.K ti))(s:Cj v (AA (.Subscript o i pos')) pos.line X.env=pure AE):
  PS X (.Assign [.Subscript o i pos'] v pos) (upS X.K λF env st=>tv env st λd st1=>to env st1 λx st2=>ti env st2 λy st3=>aw2 x y d st3 λst4=>F.nx env st4):=
 PS.imp (bh0 ⋯ t hi q s) λF σ H⟨env,st,Fd,hE,hS,ht,hq⟩=>{env,st,_,hE,hS,ht,λw d H1 st1 ev1 is1 rs1 q1=>
  {env,st1,_,hE.mono (ev1.tk hS),rs1,q1,λov x H2 st2 ev2 is2 rs2 q2=>⟨env,st2,_,(hE.mono (ev1.tk hS)).mono (ev2.tk rs1),rs2,q2,λiv y H3 st3 ev3 is3 rs3 e=>by
   cases x<;>cases y<;>first|show e.elim|skip
   rename_i p j;let{a,m,z,u,e}:=e;let{vs,f,r}:=rs3.dct m;have h:v4 vs (.inl j)=AF:=by
    rcases r.look (.inl j)with⟨_,n⟩|⟨_,_,l,_⟩
    ·show n
    ·rw[z]at l;cases l
   have b:=(is1.mono (ev2.tk rs1)).mono (ev3.tk rs2);have c:a.length=vs.length:=by simpa using congrArg Cf r.ks
   have g:O1 H3 p iv w (upd H3 p (.dK (vs++[(.inl j,w)]))):=by
    rw[is3.int_inv,<-ca3 w h];show O1.k (k:=.inl j) f (by rw[<-c];show u)
   apply{_,_,(is2.mono (ev3.tk rs2)).ref_inv,g,?_};show hq.nx env σ _ _ (((ev1.trans ev2).trans ev3).trans (Ev.put m)) ((((hE.mono (ev1.tk hS)).mono (ev2.tk rs1)).mono (ev3.tk rs2)).mono (TK.putKd f)) (rs3.putAny (ob:=.dct (a++[(.inl j,d)])) (TK.putKd f) {_,t4,(r.snoc b _).mono (TK.putKd f)} ⋯) e⟩}}
end
end
end Ek
namespace PySem
end PySem
namespace Ek
open PySem PySem.Spec PyProof.Rows L2
section
variable [Tbs]
end
section
variable [Tbs]
end
section
variable [Tbs]
@[reducible]noncomputable def Fz:HO:=.ext λ_=>True
def av0:∀vs,Fz≠.lst vs:=λ_=>nofun
def ah6{P}{w}{H}{h}{a}{o}(e:h.get? a=AA o):o5 P w H h a (.frz o Fz):={e,trivial,⟨o,e⟩,λ_ _ _ _=>trivial}
section
variable {X:Cx} {pins:List (AI×Obj)} {σ:L2.St} {H H':Hp} {s:AK}
def bx0{x:Str}{c:AI}{o:Obj}{v:Option AG}(I:L2.Inv X pins σ H s)(i:X.env.cells.lookup x=AA c)(f:X.fn x=AE)(g:X.s₀.heap.objs.size<=c)(w:H c=AF)(h:s.heap.get? c=AA o)(y:o.data=.cell v):
  L2.Inv X pins σ (upd H c (.frz o Fz)) s:=by
 have nn:∀{b:AI}{u:HO},H b=AA u->b≠c:=λe=>z6 e w;apply{I.ok,I.os,I.bare,{I.base.keep,I.base.slot,λb ob e n hx=>?_,I.base.there,λb xs e=>?_,λb ob u e=>?_,λb ps e=>?_},I.loc,I.cell,?_,λx' c' e=>?_,λp hp=>?_,λb u e=>?_,I.len}
 ·rw[j6 (Bd (Ai (Az e) g))];show I.base.free b ob e n hx
 ·have:=I.base.tups b xs e;rw[j6 (nn this)];show this
 ·have:=I.base.frzs b ob u e;rw[j6 (nn this)];show this
 ·let{m,q}:=I.base.tbls b ps e;show{m,by rw[j6 (nn q)];show q}
 ·rw[j6 (Ax (I.cne x c i))];show I.free
 ·by_cases j:c'=c
  ·subst j;have:=I.ok.inj x' x c' e i;subst this;show .inr ⟨f,o,Fz,t4⟩
  ·rw[j6 j];show I.freeC x' c' e
 ·let{e,n,t,l,d}:=I.pin p hp;apply{e,?_,t,l,d};rw[j6 λz=>?_]
  ·show n
  ·rw[z,h]at e;show d v (by rw[<-At e];show y)
 ·by_cases k:b=c
  ·subst k;rw[t4]at e;cases e;show ah6 h
  ·rw[j6 k]at e;show(I.hok b u e).stay (λ_ _ _ q=>q) (λa r=>by rw[j6 (nn r)];show r) λa xs r=>by rw[j6 (nn r)];show r
def bf4{K}(e:F8 H H'):TK K H H':={{λa xs q=>by
 rcases q with(q|⟨a,q⟩)|q
 ·show .inl (.inl (e _ _ q))
 ·show .inl (.inr {a,e _ _ q})
 ·show .inr q,λa xs=>e _ _},λa o u q _=>e _ _ q}
def bd0{K}{a}{o}(z:ObR K H a o):∃u,H a=AA u/\∀e,u≠.tbl e:=by
 cases o with
 |lst j=>let{vs,b,_}:=z;show{_,b,λ_=>nofun}
 |fro j=>
  obtain⟨vs,b|⟨u,b⟩,_⟩:=z
  ·show{_,b,λ_=>nofun}
  ·show{_,b,λ_=>nofun}
 |dct d=>let{vs,b,_}:=z;show{_,b,λ_=>nofun}
 |dtt d=>let{vs,b,_}:=z;show{_,b,λ_=>nofun}
 |ins c l=>let{C,m,vs,b,_}:=z;show{_,b,λ_=>nofun}
def b45{K}{st}(r:RelS K st H)(e:F8 H H'):=r.stay (bf4 e) λa o h=>by
 let{u,b,_}:=bd0 (r.ob a o h);rw[b,e _ _ b] λa ps=>e _ _
def cf7{st}(e:F8 H H'):Ev st H st H':=λa o h k=>{{o,e _ _ h,.inl rfl},k}
theorem a68(I:L2.Inv X pins σ H s):∀(e:List Str),(∀x∈e,X.fn x=AE/\X.ow x=AD/\∃c,X.env.cells.lookup x=AA c) ->
  ∃H',L2.Inv X pins σ H' s/\F8 H H'/\∀x∈e,∃c o u,X.env.cells.lookup x=AA c/\H' c=AA (.frz o u)/\(∀vs,u≠.lst vs)/\s.heap.get? c=AA o
 |[],_=>{H,I,F8.refl H,λx h=>absurd h AX}
 |x::e,h=>by
  let{k,d,z,r}:=a68 I e λy a=>h y (Ar _ a);let{j,g,c,b}:=h x CB;let{v,o,i,p}:=d.cell x c b
  rcases d.freeC x c b with m|⟨_,f,u,hz⟩
  ·have L:=bx0 d b j (d.ok.cab x c (.inr g) b) m i p;have t:F8 k (upd k c (.frz o Fz)):=λb u q=>by rw[j6 (z6 q m)];show q
   apply{_,L,z.trans t,λy a=>?_}
   rcases AQ.mp a with rfl|a
   ·show⟨c,o,Fz,b,t4,av0,i⟩
   ·let{E,f,C,K,J,G,F}:=r y a;show{E,f,C,K,t _ _ J,G,F}
  ·apply{k,d,z,λy a=>?_}
   rcases AQ.mp a with rfl|a
   ·let{B,A}:=d.hok c _ hz;apply{c,f,u,b,hz,λvs w=>?_,B};subst w;let{_,D,n,_,l}:=A;rw[i]at l;cases l;cases p
   ·show r y a
end
def az6{l}(h:EY l):l=[]\/∃i s j t v r,l=.int i s::.int j t::v::r/\EY r:=by
 unfold EY at h
 split at h
 ·show .inl rfl
 ·show .inr ⟨_,_,_,_,_,_,rfl,h⟩
 ·show h.elim
theorem ay9{a b}{s t}{c}:∀(n:Nat)l,l.length<=n->EY l->EY (l++[.int a s,.int b t,c])
 |0,l,d,_=>by
  have:l=[]:=Bj ⋯;subst this;show trivial
 |n+1,l,d,h=>by
  rcases az6 h with rfl|⟨i,s',j,t',v,r,rfl,e⟩
  ·show trivial
  ·erw[AW]at d;show(ay9 n r ⋯ e)
theorem a02{d:Pos}{e:AG}{a b:Int}{s t:Tok}{c:AG}:∀(n:Nat)(l:List AG),l.length<=n->EY l->GR d (l++[.int a s,.int b t,c])=AA e->GR d l=AA e\/e=c
 |n,l,o,h,q=>by
  rcases az6 h with rfl|⟨i,s',j,t',v,r,rfl,p⟩
  ·have h':(if a==d.line&&b==d.col then AA c else AF)=AA e:=q
   split at h'
   ·simp_all
   ·cases h'
  ·cases n with
   |zero=>simp at o
   |succ n=>
    erw[AW]at o;have f:(if i==d.line&&j==d.col then AA v else GR d (r++[.int a s,.int b t,c]))=AA e:=q;change(if i==d.line&&j==d.col then AA v else GR d r)=AA e\/e=c
    split at f
    ·rename_i g;rw[if_pos g];show .inl f
    ·rename_i g;rw[if_neg g];show a02 n r ⋯ p f
end
section
variable [Tbs]
abbrev M3(name qual:Str)(params:DM)(fb:Dp)(scope:BE)(cl:List (Str×AI))(doc pm cv ct:AG):BS:=
 {name,qualname:=qual,params,body:=fb,scope,globals:=AN,closure:=cl,defaults:=.none,kwdefaults:=.none,doc:=doc,pyModule:=pm,annotations:=AF,code:=cv,closureTuple:=ct,builtins:=Cb}
abbrev Q5(fd:BS):Obj:={cls:=.type "function",data:=.func fd}
abbrev X3(mg:Str->Option AG)(h:BA):Prop:=∃bm ob,mg "__builtins__"=AA (.ref bm)/\bm≠Cb/\h.get? bm=AA ob/\ob.cls=.type "module"/\ob.dict=AA Cb/\ob.data=.plain
structure LamOk(X:Cx):Prop where
 tab:∃c P,X.env.code=.ref c/\W.CodeHd X.base c P/\P∈Tbs.ps
 bm:X3 X.mg X.base
section
variable {X:Cx} {pins:List (AI×Obj)} {σ:L2.St} {H:Hp} {s:AK} {st:Sto}
structure Made(X:Cx)(pins:List (AI×Obj))(σ:L2.St)(H:Hp)(st:Sto)(f:AI)(fd:BS)(H':Hp)(s':AK):Prop where
 inv:L2.Inv X pins σ H' s'
 tk:TK X.K H H'
 ev:Ev st H st H'
 rs:RelS X.K st H'
 fn:H' f=AA (.frz (Q5 fd) Fz)
 cd:G7 H' fd.code
def be0{fd}{h':BA}{tk}(I:L2.Inv X pins σ H s)(c:RelS X.K st H)(d:∀b o,s.heap.get? b=AA o->h'.get? b=AA o)(hsz:s.heap.objs.size<=h'.objs.size)(f:G7 H fd.code):
  Made X pins σ H st h'.objs.size fd (upd H h'.objs.size (.frz (Q5 fd) Fz)) {s with heap:=h'.push (Q5 fd),toks:=tk}:=by
 have a:=I.hok.fresh hsz;show{I.laid (λb o e=>AM _ (d b o e)) hsz (ah6 (Ae _ rfl)),TK.new a,Ev.new a,c.new a,t4,f.mono (K:=X.K) (TK.new a)}
def bc4{P d:AI}{p:Array AG}{fd:BS}{h':BA}{tk:Nat}{i j:Int}{E D:Tok}{q:Str}(I:L2.Inv X pins σ H s)(Q:RelS X.K st H)(h:H P=AA (.tbl p))(N:TabOk H p)
  (hx:Gp P s.heap h') (M:s.heap.objs.size<=d) (x:d<h'.objs.size) (hr:h'.CodeRec (.ref d) q) (V:h'.get? P=AA (Hr (p++#[.int i E,.int j D,.ref d]))) (L:fd.code=.ref d) :
  ∃H',Made X pins σ H st h'.objs.size fd H' {s with heap:=h'.push (Q5 fd),toks:=tk}:=by
 let{c2,F,vs,t,e2,J,hd,hv}:=hr;cases e2;have hsz:s.heap.objs.size<=h'.objs.size:=Gy (JG M x);have T:H d=AF:=I.hok.fresh M;have S:H h'.objs.size=AF:=I.hok.fresh hsz;have cf:d≠h'.objs.size:=Bd x;have cP:P≠d:=λz=>by rw[z,T]at h;cases h
 have fP:P≠h'.objs.size:=λz=>by rw[z,S]at h;cases h
 let H':Hp:=upd (upd (upd H d (.frz F Fz)) h'.objs.size (.frz (Q5 fd) Fz)) P (.tbl (p++#[.int i E,.int j D,.ref d]))
 have A:H' P=AA (.tbl (p++#[.int i E,.int j D,.ref d])):=t4;have Y:H' h'.objs.size=AA (.frz (Q5 fd) Fz):=by change upd _ _ _ _=_;rw[j6 (Ax fP)];show t4
 have Z:H' d=AA (.frz F Fz):=by change upd _ _ _ _=_;rw[j6 (Ax cP),j6 cf];show t4
 have O:∀b,b≠P->b≠h'.objs.size->b≠d->H' b=H b:=λb w C B=>by change upd _ _ _ _=_;rw[j6 w,j6 C,j6 B]
 have f:∀b u,H b=AA u->b≠P->H' b=AA u:=λb u e w=>by rw[O b w (z6 e S) (z6 e T)];show e
 have g:∀b u,H b=AA u->(∀p,u≠.tbl p)->b≠P:=λb u e n z=>by rw[z,h]at e;cases e;show n _ rfl
 have y:∀b o,b≠P->s.heap.get? b=AA o->(h'.push (Q5 fd)).get? b=AA o:=λb o n e=>AM _ (hx b o n e);have l:TK X.K H H':={{λa xs z=>by
  rcases z with(z|⟨o',z⟩)|z
  ·show .inl (.inl (f _ _ z (g _ _ z λ_=>nofun)))
  ·show .inl (.inr {o',f _ _ z (g _ _ z λ_=>nofun)})
  ·show .inr z,λa xs z=>f _ _ z (g _ _ z λ_=>nofun)},λa o u z _=>f _ _ z (g _ _ z λ_=>nofun)}
 have CF:G7 H' (.ref d):=⟨d,F,Fz,vs,q,t,rfl,Z,av0,hd,hv⟩;apply{H',I.un (h':=h'.push (Q5 fd)) {λb o e n _ _=>?_,λb o e n _ _=>?_,λb o e n _=>?_,λb o e _=>?_,λb xs e=>?_,λb o u e=>?_,λb R e=>?_} (λb u e=>?_),l,λa o e k=>?_,{λa o e=>?_,λP0 hP0=>?_},Y,by rw[L];show CF}
 ·show y b o (λz=>by rw[z,h]at n;cases n) e
 ·show{o.slots,y b o (λz=>by rw[z,h]at n;cases n) e}
 ·have U:=Az e;rw[O b (λz=>by rw[z,h]at n;cases n) (Bd (Ai U hsz)) (Bd (Ai U M))];show n
 ·by_cases m:b=P
  ·subst m;show{_,AM _ V}
  ·show{o,y b o m e}
 ·show f _ _ e (g _ _ e λ_=>nofun)
 ·show f _ _ e (g _ _ e λ_=>nofun)
 ·by_cases m:b=P
  ·subst m;rw[h]at e;cases e;show⟨_,A⟩
  ·show{#[],by rw[f _ _ e m];simp}
 ·by_cases w:b=P
  ·subst w;rw[A]at e;cases e;show AM _ V
  by_cases C:b=h'.objs.size
  ·subst C;rw[Y]at e;cases e;show ah6 (Ae _ rfl)
  by_cases B:b=d
  ·subst B;rw[Z]at e;cases e;show ah6 (AM _ J)
  rw[O b w C B]at e;apply(I.hok b u e).stay (λc v r z=>y c v ?_ z) (λa z=>f _ _ z (g _ _ z λ_=>nofun)) λa xs z=>f _ _ z (g _ _ z λ_=>nofun)
  rcases r with rfl|r
  ·show w
  ·show g _ _ r λ_=>nofun
 ·by_cases W:a=P
  ·subst W;rw[h]at e;cases e;show{{_,A,.inr ⟨_,_,rfl,rfl⟩},k}
  ·show{{o,f _ _ e W,.inl rfl},k}
 ·have z:=Q.ob a o e;let{u,G,hn}:=bd0 z;have ea:H' a=H a:=by rw[G];show f _ _ G (g _ _ G hn)
  show z.stay l ea
 ·by_cases m:P0=P
  ·subst m;apply{_,A,?_,λpos cv hcv=>?_}
   ·rw[Fb];show ay9 _ _ (AS _) N.tr
   ·rw[Fb]at hcv
    rcases a02 _ _ (AS _) N.tr hcv with z|z
    ·show(N.co pos cv z).mono l
    ·rw[z];show CF
  ·let{R,e,o}:=Q.tb P0 hP0;show{R,f _ _ e m,o.tr,λpos cv hcv=>(o.co pos cv hcv).mono l}
def cf0{name qual}{params}{fb}{scope}{pos}{line}{cl}{Q}(I:L2.Inv X pins σ H s)(n:RelS X.K st H)(L:LamOk X)(i:IP scope X.env=pure cl)
  (h:∀f g G r ct H' s',Made X pins σ H st f (M3 name qual params fb scope cl g G r ct) H' s'->Q (.ref f) s') :
  AR (model X.prog X.w) X.A (makeFunction name qual params fb scope X.env [] [] [] pos line) Q X.xe s:=by
 let{c,P,a,C,y}:=L.tab;let{D,B,k}:=n.tb P y;have d:s.heap.get? P=AA (Hr D):=I.hok P _ B;have m:=I.mod.glob.keeps I.bk;have p:AN≠P:=λz=>by
  let{o,J,N,e,u,_}:=m;rw[z,d]at e;cases e;cases u
 have v:s.heap.BuiltinsAt X.mg P:=by
  let{O,ob,V,U,T,S,R,F}:=L.bm;have t:=I.bk _ _ T;apply{O,ob,V,U,λz=>?_,λz=>?_,t,S,R,F}
  ·let{o,J,N,e,u,_}:=m;rw[<-z,t]at e;cases e;rw[F]at u;cases u
  ·lia
 have x:=C.keeps I.bk;cases hh:GR pos D.toList with
 |none=>
  cases fb with
  |stmts b=>
   apply W.makeFunction_K i I.ok.glob m a x d k.tr hh p v λc' ct g h' tk hx hc hlt hr ht=>?_;let{H',M}:=bc4 (fd:=M3 name qual params (.stmts b) scope cl g ((X.mg "__name__").getD .none) (.ref c') ct) I n B k hx hc hlt hr ht rfl;show h _ _ _ _ _ _ _ M
  |expr b=>
   apply W.kla_makeFunction i I.ok.glob m a x d k.tr hh p v λc' ct h' tk hx hc hlt hr ht=>?_;let{H',M}:=bc4 (fd:=M3 name qual params (.expr b) scope cl .none ((X.mg "__name__").getD .none) (.ref c') ct) I n B k hx hc hlt hr ht rfl;show h _ _ _ _ _ _ _ M
 |some r=>
  have E:=k.co pos r hh;cases fb with
  |stmts b=>
   apply W.makeFunction_hit i I.ok.glob m a x d k.tr hh v λct g h' tk hk hsz=>?_;show h _ g ((X.mg "__name__").getD .none) r ct _ _ (be0 I n hk hsz E)
  |expr b=>
   apply W.kla_makeFunctionHit i I.ok.glob m a x d k.tr hh v λct h' tk hk hsz=>?_;show h _ .none ((X.mg "__name__").getD .none) r ct _ _ (be0 I n hk hsz E)
end
end
section
variable [Tbs]
theorem ba7{K}{H}{env}{σ}(g:RelE K H env σ):∀{c}{b},O4 env c=AA b ->
  ∃us:List V,IsDs K H b us/\us.length=c.length/\∀(i:Nat)v,us[i]?=AA v->∃j,c[i]?=AA j/\σ[j]?=AA (AA v)
 |[],b,h=>by
  cases h;show{[],.nil,rfl,λi v z=>by simp at z}
 |j::c,b,h=>by
  unfold O4 at h
  split at h
  ·rename_i d p o n;cases h;let{us,r,l,a}:=ba7 g n;let{v,m,k}:=g.at' j d o;apply{v::us,.cons k r,by simp[l],λi w z=>?_};cases i with
   |zero=>simp at z;subst z;show⟨j,rfl,m⟩
   |succ i=>simp_all
  ·cases h
structure NestOk(X:Cx)(params:DM)(fb:Dp)(scope:BE)(np:Nat)(N ps:List Str)(cp:List Nat)(b:Ss):Prop where
 sc:FnScC N ps scope
 lp:ps.length=np
 mt:Tbs.mt b scope N fb
 bind:∀(name qual:Str)(cl:List (Str×AI))(doc pm cv ct:AG)(us:List AG),us.length=ps.length->Ef (M3 name qual params fb scope cl doc pm cv ct) {us,[]}=pure (ps.zip us)
 cap:∀(i j:Nat),cp[i]?=AA j->∃x,X.N[j]?=AA x/\N[np+i]?=AA x/\(x,BC)∈scope.names
 fre:∀x,(x,BC)∈scope.names->(∃i:Nat,∃j:Nat,cp[i]?=AA j/\X.N[j]?=AA x)/\X.env.scope.names.lookup x=AA .cell/\X.fn x=AE/\X.ow x=AD
section
variable {X:Cx} {pins:List (AI×Obj)} {σ:L2.St} {H:Hp} {s:AK} {st:Sto}
def cl1{name d:Str}{a:DM}{Y:Dp}{scope:BE}{G:Pos}{q:Nat}{np:Nat}{N ps:List Str}{cp:List Nat}{b:Ss}{env:i9}{cs:List D}{Q:AG->AK->Prop}
  (I:L2.Inv X pins σ H s) (rs:RelS X.K st H) (hE:RelE X.K H env σ) (L:LamOk X) (S:NestOk X a Y scope np N ps cp b) (E:O4 env cp=AA cs)
  (h:∀f H' s',L2.Inv X pins σ H' s'->TK X.K H H'->Ev st H st H'->RelS X.K st H'->IsD X.K H' (.clo np N b cs) (.ref f)->Q (.ref f) s') :
  AR (model X.prog X.w) X.A (makeFunction name d a Y scope X.env [] [] [] G q) Q X.xe s:=by
 let{us,z,J,F}:=ba7 hE E
 let W:List Str:=(scope.names.filter λy=>y.2==.free).map (·.1)
 have g:∀x,x∈W↔(x,BC)∈scope.names:=λx=>by
  erw[W,DN,mem_filter,beq_iff_eq];constructor
  ·rintro⟨⟨y,k⟩,⟨V,h2⟩,rfl⟩;subst h2;show V
  ·intro V;show{(x,.free),⟨V,rfl⟩,rfl}
 have e:∀x,(x,BC)∈scope.names->∃c,X.env.cells.lookup x=AA c:=λx hx=>I.ok.has x (.inl (S.fre x hx).2.1);let{H1,I1,Z,f1}:=a68 I W λx hx=>{(S.fre x ((g x).mp hx)).2.2.1,(S.fre x ((g x).mp hx)).2.2.2,e x ((g x).mp hx)};have U:IP scope X.env=pure (v6 X.env.cells scope.names []):=ao5 λy hy hk=>by
  let{y,k}:=y;subst hk;let{c,E}:=e y hy;erw[E,IU]
 apply cf0 I1 (b45 rs Z) L U λf doc pm cv ct H2 s2 M=>?_;have tk:TK X.K H H2:=(bf4 Z).trans M.tk;have n:∀(j:Nat)x v,X.N[j]?=AA x->σ[j]?=AA (AA v)->(x,BC)∈scope.names->∃c o u w,(v6 X.env.cells scope.names []).lookup x=AA c/\H2 c=AA (.frz o u)/\(∀vs,u≠.lst vs)/\o.data=.cell (AA w)/\i7 v w:=λj x v hN P hx=>by
  let{m,hn,hl}:=I1.loc;let{w,r,l}:=hl j x v hN P (.inr (.inl (S.fre x hx).2.1));let{c,o,u,a1,a2,a3,a4}:=f1 x ((g x).mpr hx)
  rcases l with⟨k1,_⟩|⟨_,c2,l1,o2,l2,l3⟩
  ·have t:X.env.scope.names.lookup x=AA .local:=k1;rw[(S.fre x hx).2.1]at t;cases t
  ·rw[a1]at l1;cases l1;rw[a4]at l2;cases l2;show{c,o,u,w,af1 a1 hx,M.tk.2 _ _ _ a2 a3,a3,l3,r}
 have p:∀x c,(v6 X.env.cells scope.names []).lookup x=AA c->X.env.cells.lookup x=AA c/\(x,BC)∈scope.names:=λx c hx=>O7 hx;apply h f H2 s2 M.inv tk ((cf7 Z).trans M.ev) M.rs (.clo (us:=us) {M3 name d a Y scope (v6 X.env.cells scope.names []) doc pm cv ct,ps,{S.sc,S.lp,S.mt,S.bind name d _ doc pm cv ct,rfl,rfl,λx hx=>?_,λx c hx=>(p x c hx).2,λx y c hx hy=>I.ok.inj x y c (p x c hx).1 (p y c hy).1},{⟨_,_,M.fn,av0,rfl⟩,M.cd,λx c hx=>?_,λi v hv=>?_}} (by rw[z.len]) (z.mono tk).at')
 ·let{c,E}:=e x hx;show{c,af1 E hx}
 ·let{{i,j,hi,R},_}:=S.fre x (p x c hx).2;have T:i<us.length:=by rw[J];show(AY.mp hi).1
  let{j',C,O}:=F i _ (AJ T);rw[hi]at C;cases C;let{c',o,u,w,b1,b2,b3,b4,b5}:=n j x _ R O (p x c hx).2;have B:(v6 X.env.cells scope.names []).lookup x=AA c:=hx;rw[b1]at B;cases B;show⟨o,u,w,b2,b3,b4⟩
 ·let{j,R,P}:=F i v hv;let{x,n1,n2,n3}:=S.cap i j R;let{c,o,u,w,b1,b2,b3,b4,b5}:=n j x v n1 P n3;show⟨x,c,o,u,w,n2,b1,b2,b3,b4,b5⟩
def cv3{name}{params}{body}{scope}{pos}{i np}{N ps}{cp}{b}(m:X.N.Nodup)(hi:X.N[i]?=AA name)(e:Loc X.env.scope name)(j:X.fn name=AD\/X.env.scope.names.lookup name=AA .local)
  (p:params.defaults=[]) (o:params.kw_defaults=[]) (n:∀env,annTrees params AF env=[]) (L:LamOk X) (S:NestOk X params (.stmts body) scope np N ps cp b) :
  PS X (.FunctionDef name params body [] AF [] scope AF name pos) (upS X.K λF env st=>∃a,O4 env cp=AA a/\F.nx (env.set i (AA (.clo np N b a))) st):=by
 intro c s r H F I q;let{env,st,t,d,l,{a,k,g},h}:=q;show W.nestDef_K p o (n _) (cl1 I l d L S k λf H' s' I' tk ev rs is=>ae9 I' m hi e (v:=.ref f) rfl (λs2 I2=>{_,H',I2,h.nx _ _ H' st ev ((d.mono tk).set is i) rs g}) j)
end
end
section
variable [Tbs]
variable{A:BR}{s:AK}{fd:BS}{vs:List V}{q:Str}{P:Ag}{mg:Str->Option AG}{base:BA}{N:List Str}{H:Hp}
abbrev b68(fb:Dp)(env:Env):Code:=match fb with
 |.stmts b=>.func b env
 |.expr e=>.expr e env
def b84{prog:Ag}{w:Aw}{R:IK->AK->Prop}{a c:AI}{d:Args}{o r:Obj}{vs:Array AG}{t:Tok}(f:A.depth<IL)(y:s.heap.get? a=AA o)(n:o.data=.func fd)
  (p:fd.scope.isCoroutine=AE) (g:fd.scope.isGenerator=AE) (u:fd.code=.ref c) (k:s.heap.get? c=AA r) (l:r.data=.fields vs) (x:vs[1]?=AA (.str q t))
  (h:AR (model prog w) A.in1 (Ef fd d) (λbinds s₁=>
   AR (model prog w) A.in1 (Li fd.scope fd.globals fd.closure binds (q++".<locals>.") (AA a) fd.code AF fd.builtins)
    (λenv s₂=>s₂.heap.NoLimit/\Dy (model prog w) A (b68 fd.body env) R s₂) (λe s'=>R (.error e) s') s₁) (λe s'=>R (.error e) s') s) :
  Dy (model prog w) A (.call (.ref a) d) R s:=by
 apply codeAny_of_tree ?_;change AR _ A.in1 (callAny (.ref a) d) _ _ s;erw[callAny];apply AC (wpAny_load y ?_);erw[n,callFunction,p,g,u];rw[u]at h;apply AC (m:=field (.ref c) 1) (As k l x (AC (AL ?_)));apply AC (Be h (λbinds s₁ h₁=>AC (Be h₁ (λenv s₂ h₂=>AC (wpAny_enterFrame h₂.1 f
  ?_)) λ_ _ h'=>h')) λ_ _ h'=>h')
 have i:=h₂.2;cases hb:fd.body with
 |stmts b=>rw[hb]at i;show AL (And.intro rfl i)
 |expr e=>rw[hb]at i;show AL (And.intro rfl i)
theorem a03{x:Str}{u:AG}:∀{a:List Str}{us:List AG}{i:Nat},a.Nodup->a[i]?=AA x->us[i]?=AA u->(a.zip us).reverse.lookup x=AA u
 |[],_,_,_,h,_=>by simp at h
 |_::_,[],_,_,_,h=>by simp at h
 |p::a,w::us,i,f,c,b=>by
  rw[FF,Dn,List.lookup_append];cases i with
  |zero=>
   simp at c b;subst c b;have:(a.zip us).reverse.lookup p=AF:=by
    rw[List.lookup_eq_none_iff];intro y j;have:=(FX (List.mem_reverse.mp j)).1;have g:p≠y.1:=λz=>(BU.mp f).1 (z▸this);simpa using g
   rw[this];simp[DQ]
  |succ i=>
   rw[a03 (i:=i) (BU.mp f).2 (by simpa using c) (by simpa using b)];rfl
abbrev cxC(bX:Bool)(P:Ag)(w:Aw)(K:AO)(mg:Str->Option AG)(base:BA)(N:List Str)(scope:BE)(cl:List (Str×AI))(q:Str)(f:AI)(cd:AG)(A:BR)(outer:List Env)(s:AK)(H:Hp):Cx where
 prog:=P
 w:=w
 K:=K
 mg:=mg
 base:=base
 A:=A.deeper (KN scope s.heap.objs.size AN cl (q++".<locals>.") (AA f) cd AF Cb)
 N:=N
 s₀:=s
 H₀:=H
 env:=KN scope s.heap.objs.size AN cl (q++".<locals>.") (AA f) cd AF Cb
 outer:=outer
 stack:=KN scope s.heap.objs.size AN cl (q++".<locals>.") (AA f) cd AF Cb::outer
 ex:=[]
 calm:=AD
 fn:=λy=>!(scope.names.any λz=>z.1==y&&z.2==.free)
 pn:=[]
 xe:=λe s'=>AR (model P w) (A.deeper (KN scope s.heap.objs.size AN cl (q++".<locals>.") (AA f) cd AF Cb)) (leaving (KN scope s.heap.objs.size AN cl (q++".<locals>.") (AA f) cd AF Cb) e) (λ_ s''=>CXk P w K bX outer H s E0 e s'') (λe' s''=>CXk P w K bX outer H s E0 e' s'') s'
def bl2{bX:Bool}{w:Aw}{K:AO}{scope:BE}{cl:List (Str×AI)}{f:AI}{a:AG}{outer:List Env}:FrX (cxC bX P w K mg base N scope cl q f a A outer s H) "NoKind" A9 bX:=⟨rfl,rfl,rfl,rfl⟩
def bz1{bX:Bool}{w:Aw}{K:AO}{B:List Str}{R:Nat}{b:Ss}{f:AI}{outer:List Env}{j:BA}{tk:Nat}{us:List AG}{d:List V}
  (t:CloF fd R N B b) (O:CloR H f fd R N d) (hd:A.handled=AF) (g:Env0 P w K mg base A outer s H) (hl:vs.length=B.length) (r:i5 vs us)
  (U:j.Ns s.heap.objs.size (λx=>(B.zip us).reverse.lookup x)) (X:∀b o,s.heap.get? b=AA o->j.get? b=AA o) :
  Inv (cxC bX P w K mg base N fd.scope fd.closure q f fd.code A outer s H) [] (B2 N (vs++d)) H {s with heap:=j,toks:=tk}:=by
 have S:=t.sc;have l:∀b:AI,b∉(cxC bX P w K mg base N fd.scope fd.closure q f fd.code A outer s H).ex:=λb z=>absurd (show b∈([]:List AI) from z) ∎;have hpl:B.length<=N.length:=by have:=congrArg Cf S.pre;rw[Bu]at this;lia
 have hful:(vs++d).length<=N.length:=by
  rw[Ad,hl];cases hu:d.length with
  |zero=>lia
  |succ m=>
   have W:m<d.length:=by lia
   let{x,_,_,_,_,J,_}:=O.at' m _ (AJ W);have:=(AY.mp J).1;have:=t.np;lia
 have F:∀x c,fd.closure.lookup x=AA c->(!(fd.scope.names.any λz=>z.1==x&&z.2==.free))=AE:=λx c h=>by
  have W:=t.fre x c h;have:(fd.scope.names.any λz=>z.1==x&&z.2==.free)=AD:=Hn.mpr {(x,.free),W,∎};rw[this];rfl
 have k:∀{c:AI}{o:Obj}{u:HO},H c=AA (.frz o u)->j.get? c=AA o:=λ{c o u}e=>by
  let{z,_}:=g.hok c _ e;show X _ _ z
 apply{{g.mod,S.kind,rfl,rfl,AS _,λy z c j h2=>t.inj y z c j h2,λy n=>?_,λy c h hc=>?_,λ_=>hd,Hx g.frames,.inr ⟨rfl,rfl⟩,λb z=>absurd z (l b),g.bs,g.bsz,λb _ _=>l b,λb z=>absurd z (l b),g.funs,g.frf},
  rfl,g.bare,Un.kept X,{_,U,λi y v j h2 h3=>?_},λy c h=>?_,g.hok.fresh (AS _),λy c h=>?_,λp L=>absurd (show p ∈ ([]:List (AI × Obj)) from L) ∎,g.hok.kept X,?_}
 ·have n:fd.scope.names.lookup y=AA .cell\/fd.scope.names.lookup y=AA .free:=n
  rcases n with n|n
  ·show absurd rfl (S.nocell _ (PySem.mem_of_lookup n))
  ·show t.has y (PySem.mem_of_lookup n)
 ·have Y:fd.closure.lookup y=AA c:=hc
  rcases h with h|h
  ·have h':(!(fd.scope.names.any λz=>z.1==y&&z.2==.free))=AD:=h;rw[F y c Y]at h';cases h'
  ·cases h
 ·have hi:i<(vs++d).length:=by
   unfold L2.B2 at h2
   by_cases hi:i<(vs++d).length
   ·show hi
   ·rw[Af (by simpa using hi)]at h2;rw[Da]at h2
    split at h2<;>cases h2
  have M:(vs++d)[i]?=AA v:=by
   unfold L2.B2 at h2;rw[Ab (by simpa using hi),Ah]at h2;cases e:(vs++d)[i]? with
   |none=>rw[e]at h2;cases h2
   |some a=>rw[e]at h2;cases h2;rfl
  have E:N[i]?=AA y:=j
  by_cases hv:i<vs.length
  ·rw[Ab hv]at M;let{u,hu,rv}:=r.get M;have L:B[i]?=AA y:=by
    rw[<-S.pre,He ⋯];show E
   have T:B.Nodup:=by rw[<-S.pre];show S.nd.sublist (JA _ _)
   show{u,rv,.inl {S.par y (BX L),a03 T L hu}}
  ·rw[Af ⋯]at M;let{x,c,C,Q,G,J,n2,D,n4,I,n6}:=O.at' _ v M;have e:R+(i-vs.length)=i:=by have:=t.np;lia
   rw[e,E]at J;cases J;show{G,n6,.inr {.inr (S.fre _ (t.fre y c n2) rfl),c,n2,C,k D,I}}
 ·let{C,Q,G,D,n4,I}:=O.cl y c h;show{AA G,C,k D,I}
 ·let{C,Q,G,D,n4,I}:=O.cl y c h;show .inr {F y c h,C,Q,D}
 ·unfold L2.B2;change _=N.length;rw[Ad,AV,DL];lia
abbrev c33(X:Cx)(fb:Dp)(Z:Sg)(b:Ss):Prop:=match fb with
 |.stmts l=>PSs X l (upS X.K (j7 Z b))
 |.expr x=>∃e,b=.cons (.ret e) .nil/\PE X x (up X.K (wpE Z e))
def a06{K}{ds}(r:IsDs K H ds vs):RelE K H (ds.map AA++Al (N.length-ds.length) AF) (L2.B2 N vs):=by
 apply{by simp[L2.B2,r.len],λi x h=>?_};unfold L2.B2
 by_cases hi:i<ds.length
 ·rw[Ab (by simp_all),Ah,AJ hi]at h;erw[Gg,CJ]at h;let{v,a,b}:=r.get (AJ hi);apply{v,?_,by simp_all};rw[Ab (by rw[AV,<-r.len];show hi),Ah,a];rfl
 ·rw[Af (by simp_all),Da]at h
  split at h<;>cases h
def bz0{K}{ds cs}{us}(r:IsDs K H ds vs)(a:IsDs K H cs us):RelE K H (G4 N ds cs) (L2.B2 N (vs++us)):=a06 (r.append a)
def cw5{bX:Bool}{w:Aw}{K:AO}{n np:Nat}{m:AI}{G:List Str}{b:Ss}{p:List D}{Z:Sg}(B:CloF fd np N G b)
  (i:∀(q:Str)(A:BR)(outer:List Env)(s:AK)(H:Hp),Room n (cxC bX P w K mg base N fd.scope fd.closure q m fd.code A outer s H).A->c33 (cxC bX P w K mg base N fd.scope fd.closure q m fd.code A outer s H) fd.body Z b) :
  FnOk P w K mg base (CXk P w K bX) (n+1) m fd G (X7 K m fd np N p λds st Q=>ds.length=np/\j7 Z b {nx:=λ_ a=>∃g,Sub g a/\Q .non g,rt:=λd a=>∃g,Sub g a/\Q d g} (G4 N ds p) st):=by
 apply{λvs H Q E hsp=>?_,λA outer s H args us vs Q E hr e0 hb r hsp=>?_}
 ·let{C,ds,st,Qd,U,L,T,rs,f,hq}:=hsp;rw[<-T.len,f.1,B.np]
 ·let{C,ds,st,Qd,U,L,T,rs,{O,f},hq}:=hsp;have S:=B.sc;have hl:vs.length=G.length:=by rw[<-T.len,O,B.np]
  have lim:s.heap.NoLimit:=e0.mod.nolimit.keeps λb o e=>(e0.bs b o e).1;let{o,u,f1,f2,f3}:=U.ex;let{c,oc,uc,vc,q,t,c1,c2,c3,c4,c5}:=U.cd;let{ho,_}:=e0.hok m _ f1;let{hoc,_}:=e0.hok c _ c2;have M:∀y∈G.zip us,fd.scope.names.lookup y.1=AA .local:=λ⟨x,v⟩hy=>S.par x (FX hy).1;apply b84 hr.depth ho f3 S.co S.gen c1 hoc c4 c5 (hb _ _ _ _ ?_);rw[B.gl,B.bl];apply Jc S.nocell M (λh1 hns hsb=>?_) S.kind;have hk:∀b o,s.heap.get? b=AA o->h1.get? b=AA o:=λb o e=>hsb.extBut b o (Bd (Az e)) (AM _ e);apply{lim.keeps hk,?_};have I:=bz1 (bX:=bX) (q:=q) (tk:=s.toks+(G.zip us).length) B U hr.hd e0 hl r hns hk;have k:=i q A outer s H (hr.deeper _);have R:RelE K H (G4 N ds p) (B2 N (vs++C)):=bz0 T L;have fin:∀{h:L2.St}{H':Hp}{v:V}{u:AG}{s':AK},Inv (cxC bX P w K mg base N fd.scope fd.closure q m fd.code A outer s H) [] h H' s'->i7 v u->Q v H'->CE outer P w H s Q u s':=
   λ{h H' v u s'}J F q=>⟨v,H',J.os,J.bare,J.base,J.hok,F,q⟩
  have Y:∀v d H' a,Ev st H a H'->IsD K H' d v->RelS K a H'->(∃g,Sub g a/\Qd d g)->Q v H':=λv d H' a ev is' rs'⟨g,sub,q⟩=>hq v d H' g (ev.drop sub) is' (rs'.sub sub) q;cases hfb:fd.body with
  |stmts l=>
   rw[hfb]at k;apply codeAny_func (Be (k [] _ _ H {nx:=λ_ H'=>Q .non H',rt:=Q} I {G4 N ds p,st,_,R,rs,f,λenv σ H' a ev R hS q=>Y _ .non H' a ev .non hS q,λenv σ H' a ev R hS q=>q.elim,λenv σ H' a ev R hS q=>q.elim,λv e H' a ev is' rs' q=>Y v e H' a ev is' rs' q}) (λfl s' f=>?_) λe s' z=>z);cases fl with
   |ret u=>
    let{v,h,H',J,F,q}:=f;show fin J F q
   |next=>
    let{h,H',J,q}:=f;show fin (v:=V.non) (u:=BQ) J rfl q
   |brk=>
    let{_,_,_,q}:=f;show AU q
   |cont=>
    let{_,_,_,q}:=f;show AU q
  |expr x=>
   rw[hfb]at k;let{e,rfl,k}:=k;apply W.kla_codeExpr (Be (k [] _ _ H Q I {G4 N ds p,st,_,R,rs,(show wpE Z e (G4 N ds p) st _ from f),λv d H' a ev is' rs' q=>Y v d H' a ev is' rs' q}) (λu s' f=>?_) λe s' z=>z);let{v,H',J,F,q}:=f;show fin J F q
end
section
variable [Tbs]
variable{x:AT}{C:AT->Prop}{g m:Str}{sc:BE}
abbrev V6:List Str:=["len","abs","int","sum","list","tuple","isinstance","max","range","enumerate","reversed","str","bool","min","sorted","zip","any","dict"]
abbrev isM(f:Str):Bool:=f.cps.contains 46
structure FOk(X:Cx)(b:Bool)(f:Str)(sp:Spec):Prop where
 ex:∃k a fd ps,FnOk X.prog X.w X.K X.mg X.base (CXz X b) k a fd ps (u0 X.K sp)/\Room k X.A/\X.mg f=AA (.ref a)/\Bm X.K (.ref a)=AD/\r6 X.K fd ps []/\Av X.K AN f=AA (AA (.ref a))
abbrev t6:Str:=⟨#[33]⟩
abbrev A7(x:Str):Str:=⟨#[33]++x.cps⟩
abbrev ae7(p:DM):Option (List Str):=if p.posonlyargs.isEmpty&&p.vararg.isNone&&p.kwonlyargs.isEmpty&&p.kw_defaults.isEmpty&&p.kwarg.isNone&&p.defaults.isEmpty&&p.args.all (·.annotation.isNone)&&AB (p.args.map (·.arg)).Nodup&&!p.args.isEmpty&&AB (p.args.length<=3)then AA (p.args.map (·.arg))else AF
abbrev av3(sc:BE)(N:List Str)(scope:BE)(Nl ps:List Str)(np:Nat)(cp:List Nat):Bool:=
 (ps.length==np)&&(scope.kind==.function)&&!scope.isCoroutine&&!scope.isGenerator&&decide Nl.Nodup&&(Nl.take ps.length==ps)&&ps.all (λx=>scope.names.lookup x==AA .local)&&scope.names.all (λy=>!(y.2==.cell))&&
 scope.names.all (λy=>!(y.2==.free)||(scope.names.lookup y.1==AA .free&&sc.names.lookup y.1==AA .cell&&N.contains (A7 y.1)&&(Dk cp.length).any λi=>match cp[i]? with|some j=>N[j]?==AA y.1|none=>AE))&&
 (Dk cp.length).all (λi=>match cp[i]? with|some j=>(match N[j]? with|some x=>(Nl[np+i]?==AA x)&&scope.names.any (λz=>z.1==x&&z.2==.free)|none=>AE)|none=>AE)
abbrev glb(sc:BE)(f:Str):Bool:=sc.names.lookup f==AA .globalImplicit
abbrev ai7(sc:BE)(x:Str):Bool:=match sc.names.lookup x with
 |some .local=>AD|some .cell=>AD|some .free=>AD|_=>AE
abbrev O6(sc:BE)(x:Str):Bool:=match sc.names.lookup x with
 |some .local=>AD|some .cell=>AD|_=>AE
abbrev lcl(sc:BE)(x:Str):Bool:=sc.names.lookup x==AA .local
abbrev okN(x:Str):Bool:=!(x==("__debug__":Str))&&!(x==("__classdict__":Str))
abbrev bo3(x:AT):Bool:=!([22,26,7].contains x.ctorIdx)
abbrev D7(x:AT):Bool:=!(x.ctorIdx==5)
abbrev O0(x:AT):Bool:=!([8,9,10].contains x.ctorIdx)
abbrev ay4(scope sc:BE):BE:=
 {scope with names:=scope.names.map λ(n,k)=>if(k==.free&&sc.kind==.function&&sc.names.lookup n==AA .cell)then(n,.cell)else(n,k)}
abbrev ab4(sc scope:BE)(N Nc:List Str)(fr:List Nat)(k:Nat):Bool:=
 (scope.kind==.function)&&scope.names.all (λy=>!(y.2==.cell))&&scope.names.all (λy=>!(y.2==.local)||scope.names.lookup y.1==AA .local)&&
 scope.names.all (λy=>!(y.2==.free)||sc.names.lookup y.1==AA .cell||sc.names.lookup y.1==AA .free)&&scope.names.all (λy=>!(y.2==.free)||!(scope.names.any λz=>z.1==y.1&&z.2==.local))&&
 decide Nc.Nodup&&!(Nc.contains t6)&&(Nc.length==fr.length+k)&&((Dk fr.length).all λi=>match Nc[i]?,fr[i]? with
  |some x,AA j=>(N[j]?==AA x)&&scope.names.any (λz=>z.1==x&&z.2==.free)|_,_=>AE)
def an{a b:Bool}(h:(a&&b)=AD):a=AD/\b=AD:=FR.1 h
def nt{b}(h:(!b)=AD):b=AE:=by grind
def dE{p}[Decidable p]{f:p->Bool}{C:Prop}(h:(if h:p then f h else AE)=AD)(H:∀e,f e=AD->C):C:=by
 lia
abbrev xBo(x:AT)(k:Lp->List AT->Pos->Bool):Bool:=if h:x.ctorIdx=0 then Fc x h k else AE
def bs4{k}(h:xBo x k=AD)(H:∀o l p,k o l p=AD->C (.BoolOp o l p)):C x:=
 dE h λe=>Fc x e (λo l p _=>H o l p) e
abbrev xBi(x:AT)(k:AT->FM->AT->Pos->Bool):Bool:=if h:x.ctorIdx=2 then Fx x h k else AE
def di4{k}(h:xBi x k=AD)(H:∀a o b p,k a o b p=AD->C (.BinOp a o b p)):C x:=
 dE h λe=>Fx x e (λa o b p _=>H a o b p) e
abbrev xU(x:AT)(k:UnaryOp->AT->Pos->Bool):Bool:=if h:x.ctorIdx=3 then FI x h k else AE
def xU_{k}(h:xU x k=AD)(H:∀o a p,k o a p=AD->C (.UnaryOp o a p)):C x:=
 dE h λe=>FI x e (λo a p _=>H o a p) e
abbrev xIf(x:AT)(k:AT->AT->AT->Pos->Bool):Bool:=if h:x.ctorIdx=5 then Fy x h k else AE
def dj0{k}(h:xIf x k=AD)(H:∀a b c p,k a b c p=AD->C (.IfExp a b c p)):C x:=
 dE h λe=>Fy x e (λa b c p _=>H a b c p) e
abbrev xD(x:AT)(k:List (Option AT)->List AT->Pos->Bool):Bool:=if h:x.ctorIdx=6 then GY x h k else AE
def xD_{k}(h:xD x k=AD)(H:∀a b p,k a b p=AD->C (.Dict a b p)):C x:=
 dE h λe=>GY x e (λa b p _=>H a b p) e
abbrev xLC(x:AT)(k:AT->List Ig->BE->Pos->Bool):Bool:=if h:x.ctorIdx=8 then Eo x h k else AE
def dg4{k}(h:xLC x k=AD)(H:∀a g s p,k a g s p=AD->C (.ListComp a g s p)):C x:=
 dE h λe=>Eo x e (λa g s p _=>H a g s p) e
abbrev xCm(x:AT)(k:AT->List EO->List AT->Pos->Bool):Bool:=if h:x.ctorIdx=15 then FJ x h k else AE
def dm3{k}(h:xCm x k=AD)(H:∀a o b p,k a o b p=AD->C (.Compare a o b p)):C x:=
 dE h λe=>FJ x e (λa o b p _=>H a o b p) e
abbrev xCa(x:AT)(k:AT->List AT->List Hy->Pos->Bool):Bool:=if h:x.ctorIdx=16 then GZ x h k else AE
def dg8{k}(h:xCa x k=AD)(H:∀f a w p,k f a w p=AD->C (.Call f a w p)):C x:=
 dE h λe=>GZ x e (λf a w p _=>H f a w p) e
abbrev xK(x:AT)(k:Const->Nat->Pos->Bool):Bool:=if h:x.ctorIdx=19 then Ep x h k else AE
def xK_{k}(h:xK x k=AD)(H:∀c n p,k c n p=AD->C (.Constant c n p)):C x:=
 dE h λe=>Ep x e (λc n p _=>H c n p) e
abbrev xA(x:AT)(k:AT->Str->Pos->Bool):Bool:=if h:x.ctorIdx=20 then EZ x h k else AE
def xA_{k}(h:xA x k=AD)(H:∀a f p,k a f p=AD->C (.Attribute a f p)):C x:=
 dE h λe=>EZ x e (λa f p _=>H a f p) e
abbrev xS(x:AT)(k:AT->AT->Pos->Bool):Bool:=if h:x.ctorIdx=21 then Ea x h k else AE
def xS_{k}(h:xS x k=AD)(H:∀a b p,k a b p=AD->C (.Subscript a b p)):C x:=
 dE h λe=>Ea x e (λa b p _=>H a b p) e
abbrev xN(x:AT)(k:Str->Pos->Bool):Bool:=if h:x.ctorIdx=23 then Ga x h k else AE
def xN_{k}(h:xN x k=AD)(H:∀y p,k y p=AD->C (.Name y p)):C x:=
 dE h λe=>Ga x e (λy p _=>H y p) e
abbrev xL(x:AT)(k:List AT->Pos->Bool):Bool:=if h:x.ctorIdx=24 then Gb x h k else AE
def xL_{k}(h:xL x k=AD)(H:∀l p,k l p=AD->C (.List l p)):C x:=
 dE h λe=>Gb x e (λl p _=>H l p) e
abbrev xT(x:AT)(k:List AT->Nat->Pos->Bool):Bool:=if h:x.ctorIdx=25 then GA x h k else AE
def xT_{k}(h:xT x k=AD)(H:∀l n p,k l n p=AD->C (.Tuple l n p)):C x:=
 dE h λe=>GA x e (λl n p _=>H l n p) e
abbrev xSl(x:AT)(k:Option AT->Option AT->Option AT->Pos->Bool):Bool:=if h:x.ctorIdx=26 then GB x h k else AE
def bs7{k}(h:xSl x k=AD)(H:∀l u s p,k l u s p=AD->C (.Slice l u s p)):C x:=
 dE h λe=>GB x e (λl u s p _=>H l u s p) e
abbrev l1{α:Type}(l:List α)(k:α->Bool):Bool:=EA (motive:=λ_=>Bool) l AE λp r=>r.isEmpty&&k p
def l1_{α}{l}{k}{C:List α->Prop}(h:l1 l k=AD)(H:∀p,k p=AD->C [p]):C l:=
 match l,h with
 |[p],h=>H p h
abbrev l2{α:Type}(l:List α)(k:α->α->Bool):Bool:=EA (motive:=λ_=>Bool) l AE λp r=>l1 r (k p)
def l2_{α}{l}{k}{C:List α->Prop}(h:l2 l k=AD)(H:∀p q,k p q=AD->C [p,q]):C l:=
 match l,h with
 |p::r,h=>l1_ (C:=λr=>C (p::r)) h λq=>H p q
abbrev lb(l:List AT)(k:AT->AT->Bool)(m:AT->List AT->Bool):Bool:=EA (motive:=λ_=>Bool) l AE λp r=>if r.length=1 then l1 r (k p)else AB (2<=r.length)&&m p r
abbrev xKc(x:AT)(c:Const):Bool:=xK x λd _ _=>d==c
def U7{c}(h:xKc x c=AD)(H:∀n p,C (.Constant c n p)):=
 xK_ h λd n p e=>beq_iff_eq.1 e▸H n p
abbrev O2(x:AT)(g:Str):Bool:=xN x λy _=>y==g
def U2(h:O2 x g=AD)(H:∀p,C (.Name g p)):=
 xN_ h λy p e=>beq_iff_eq.1 e▸H p
abbrev xCl(x:AT)(k:AT->List AT->Pos->Bool):Bool:=xCa x λf a w p=>w.isEmpty&&k f a p
def ai0{k}(h:xCl x k=AD)(H:∀f a p,k f a p=AD->C (.Call f a [] p)):C x:=
 dg8 h λf a w p h=>by
  simp_all
abbrev Q9(x:AT):Bool:=!(xCl x λf a _=>a.isEmpty&&xN f λ_ _=>AD)
abbrev xG(g:Str)(sc:BE)(x:AT)(k:List AT->Bool):Bool:=xCl x λf a _=>O2 f g&&(glb sc g&&k a)
def xG_{k}{C:AT->Prop}(h:xG g sc x k=AD)(H:∀q a p,glb sc g=AD->k a=AD->C (.Call (.Name g q) a [] p)):=
 ai0 h λf a p h=>U2 (C:=λf=>C (.Call f a [] p)) (an h).1 λq=>H q a p (an (an h).2).1 (an (an h).2).2
abbrev xC1(g:Str)(sc:BE)(x:AT)(k:AT->Bool):Bool:=xG g sc x λa=>l1 a k
def L9{k}{C:AT->Prop}(h:xC1 g sc x k=AD)(H:∀q a p,glb sc g=AD->k a=AD->C (.Call (.Name g q) [a] [] p)):=
 xG_ h λq a p h1 h=>l1_ (C:=λa=>C (.Call (.Name g q) a [] p)) h λa=>H q a p h1
abbrev xC2(g:Str)(sc:BE)(x:AT)(k:AT->AT->Bool):Bool:=xG g sc x λa=>l2 a k
def ac7{k}{C:AT->Prop}(h:xC2 g sc x k=AD)(H:∀q a b p,glb sc g=AD->k a b=AD->C (.Call (.Name g q) [a,b] [] p)):=
 xG_ h λq a p h1 h=>l2_ (C:=λa=>C (.Call (.Name g q) a [] p)) h λa b=>H q a b p h1
abbrev xM(m:Str)(x:AT)(k:AT->List AT->Bool):Bool:=xCl x λf a cp=>xA f λo n ap=>(n==m)&&((ap.endLine==cp.line)&&k o a)
def xM_{k}{C:AT->Prop}(h:xM m x k=AD)(H:∀o c a b,(c.endLine==b.line)=AD->k o a=AD->C (.Call (.Attribute o m c) a [] b)):=
 ai0 h λf a b h=>xA_ (C:=λf=>C (.Call f a [] b)) h λo n c h=>beq_iff_eq.1 (an h).1▸H o c a b (an (an h).2).1 (an (an h).2).2
abbrev xM0(m:Str)(x:AT)(k:AT->Bool):Bool:=xM m x λo a=>a.isEmpty&&(Q9 o&&k o)
def br8{k}(h:xM0 m x k=AD)(H:∀o c b,(c.endLine==b.line)=AD->Q9 o=AD->k o=AD->C (.Call (.Attribute o m c) [] [] b)):=
 xM_ h λo c a b e h=>by
  cases a with
  |nil=>show H o c b e (an (an h).2).1 (an (an h).2).2
  |cons=>show(AH h).elim
abbrev xM1(m:Str)(x:AT)(k j:AT->Bool):Bool:=xM m x λo a=>l1 a λp=>Q9 o&&(k o&&j p)
def ai9{k j}{C:AT->Prop}(h:xM1 m x k j=AD)(H:∀o c p b,(c.endLine==b.line)=AD->Q9 o=AD->k o=AD->j p=AD->C (.Call (.Attribute o m c) [p] [] b)):=
 xM_ h λo c a b e h=>l1_ (C:=λa=>C (.Call (.Attribute o m c) a [] b)) h λp h=>H o c p b e (an h).1 (an (an h).2).1 (an (an h).2).2
abbrev xCo(x:AT)(k:EO->AT->AT->Bool):Bool:=xCm x λa o b _=>l1 o λo=>l1 b λb=>k o a b
def ai3{k}{C:AT->Prop}(h:xCo x k=AD)(H:∀o a b p,k o a b=AD->C (.Compare a [o] [b] p)):=
 dm3 h λa o b p h=>l1_ (C:=λo=>C (.Compare a o b p)) h λo h=>l1_ (C:=λb=>C (.Compare a [o] b p)) h λb=>H o a b p
abbrev mTg(ow:Bool)(t:Tg)(sc:BE)(N:List Str)(x:AT):Bool:=match t with
 |.n i=>xN x λy _=>(N[i]?==AA y)&&O6 sc y&&((ow&&!(N.contains (A7 y)))||lcl sc y)
 |.tup is=>xT x λes _ _=>(is.length==es.length)&&((is.zip es).all λp=>xN p.2 λy _=>(N[p.1]?==AA y)&&O6 sc y&&((ow&&!(N.contains (A7 y)))||lcl sc y))
abbrev oE(lo:E)(m:AT->Bool)(l:Option AT):Bool:=EC (motive:=λ_=>Bool) l lo.isNon λl=>!lo.isNon&&m l
abbrev cE(c:E)(m:AT->Bool)(l:List AT):Bool:=if l.isEmpty then c.isNon else l1 l λx=>!c.isNon&&(D7 x&&m x)
mutual
noncomputable def mE:E->BE->List Str->AT->Bool
 |.non,_,_,x=>xKc x .none
 |.bl b,_,_,x=>xKc x (.bool b)
 |.int i,_,_,x=>xKc x (.int i)
 |.str y,_,_,x=>xKc x (.str y)
 |.v i,sc,N,x=>xN x λy _=>(N[i]?==AA y)&&(ai7 sc y&&okN y)
 |.tup es,sc,N,x=>xT x λxs _ _=>mEs es sc N xs&&AB (es.len<=1000)
 |.lst es,sc,N,x=>xL x λxs _=>mEs es sc N xs&&AB (es.len<=1000)
 |.bin o a b,sc,N,x=>xBi x λp q r _=>(q==o)&&(mE a sc N p&&mE b sc N r)
 |.neg a,sc,N,x=>xU x λo p _=>(o==.USub)&&mE a sc N p
 |.cmp o a b,sc,N,x=>xCo x λq p r=>(q==o)&&(mE a sc N p&&mE b sc N r)
 |.isN a,sc,N,x=>xCo x λq p r=>(q==.Is)&&(xKc r .none&&mE a sc N p)
 |.notN a,sc,N,x=>xCo x λq p r=>(q==.IsNot)&&(xKc r .none&&mE a sc N p)
 |.and a b,sc,N,x=>xBo x λo l ps=>(o==.And)&&lb l (λp q=>mE a sc N p&&mE b sc N q&&D7 p&&D7 q) (λp r=>mE a sc N p&&mE b sc N (.BoolOp .And r ps)&&D7 p)
 |.or a b,sc,N,x=>xBo x λo l ps=>(o==.Or)&&lb l (λp q=>mE a sc N p&&mE b sc N q&&D7 p&&D7 q) (λp r=>mE a sc N p&&mE b sc N (.BoolOp .Or r ps)&&D7 p)
 |.not a,sc,N,x=>xU x λo p _=>(o==.Not)&&(mE a sc N p&&D7 p)
 |.ite c a b,sc,N,x=>xIf x λp q r _=>(mE c sc N p&&D7 p)&&(mE a sc N q&&mE b sc N r)
 |.ix a b,sc,N,x=>xS x λp q _=>mE a sc N p&&mE b sc N q
 |.sl a lo hi,sc,N,x=>xS x λp s _=>mE a sc N p&&xSl s λl h st _=>st.isNone&&(oE lo (mE lo sc N) l&&oE hi (mE hi sc N) h)
 |.slw a lo hi,sc,N,x=>xS x λp s _=>mE a sc N p&&xSl s λl h st _=>st.isNone&&(oE lo (mE lo sc N) l&&oE hi (mE hi sc N) h)
 |.gget g k d,sc,N,x=>xM "get" x λo a=>O2 o g&&(glb sc g&&(okN g&&l2 a λp q=>mE k sc N p&&mE d sc N q))
 |.gsel g k,sc,N,x=>xS x λn q _=>O2 n g&&(glb sc g&&(okN g&&mE k sc N q))
 |.len a,sc,N,x=>xC1 "len" sc x (mE a sc N)
 |.toInt a,sc,N,x=>xC1 "int" sc x (mE a sc N)
 |.list a,sc,N,x=>xC1 "list" sc x (mE a sc N)
 |.tuple a,sc,N,x=>xC1 "tuple" sc x (mE a sc N)
 |.max a b,sc,N,x=>xC2 "max" sc x λp q=>mE a sc N p&&mE b sc N q
 |.min a b,sc,N,x=>xC2 "min" sc x λp q=>mE a sc N p&&mE b sc N q
 |.lzip a b,sc,N,x=>xC1 "list" sc x λz=>xC2 "zip" sc z λp q=>mE a sc N p&&mE b sc N q
 |.call f es,sc,N,x=>xG f sc x λl=>okN f&&(!isM f&&(!l.isEmpty&&mEs es sc N l))
 |.callw f es,sc,N,x=>xG f sc x λl=>okN f&&(!isM f&&(!l.isEmpty&&mEs es sc N l))
 |.gf f,sc,_,x=>O2 x f&&(glb sc f&&(okN f&&!isM f))
 |.callx c es,sc,N,x=>xCl x λf l _=>xS f (λp q s=>mE c sc N (.Subscript p q s))&&(!l.isEmpty&&mEs es sc N l)
 |.callv i es,sc,N,x=>xCl x λf l _=>xN f (λy _=>(N[i]?==AA y)&&(ai7 sc y&&okN y))&&(!l.isEmpty&&mEs es sc N l)
 |.isT t a,sc,N,x=>xC2 "isinstance" sc x λp g=>O2 g (Aa t)&&(glb sc (Aa t)&&(P9.contains t&&mE a sc N p))
 |.fld a f,sc,N,x=>xA x λo g _=>(g==f)&&(Q9 o&&mE a sc N o)
 |.methd a m es,sc,N,x=>xM m x λo l=>(Q9 o&&mE a sc N o)&&(!l.isEmpty&&(mEs es sc N l&&AB (l.length<29)))
 |.meth a m es,sc,N,x=>xM m x λo l=>(Q9 o&&mE a sc N o)&&(mEs es sc N l&&AB (l.length<29))
 |.make c es,sc,N,x=>xG c sc x λl=>okN c&&mEs es sc N l
 |.app a b,sc,N,x=>xM1 "append" x (mE a sc N) (mE b sc N)
 |.ext a b,sc,N,x=>xM1 "extend" x (mE a sc N) (mE b sc N)
 |.popAt a b,sc,N,x=>xM1 "pop" x (mE a sc N) (mE b sc N)
 |.pop a,sc,N,x=>xM0 "pop" x (mE a sc N)
 |.any a,sc,N,x=>xC1 "any" sc x (mE a sc N)
 |.dnt,sc,N,x=>xD x λl r _=>l.isEmpty&&r.isEmpty
 |.dgt a b,sc,N,x=>xM1 "get" x (mE a sc N) (mE b sc N)
 |.din ne a b,sc,N,x=>xCo x λq p r=>(q==(if ne then II else .In))&&(mE a sc N p&&mE b sc N r)
 |.lrev a,sc,N,x=>xM0 "reverse" x (mE a sc N)
 |.gc g,sc,_,x=>O2 x g&&(glb sc g&&okN g)
 |.comp Nc fr k t it c e,sc,N,x=>xLC x λel g scope _=>l1 g λg=>(g.is_async==0)&&(ab4 sc scope N Nc fr k&&(mIt it sc N g.target g.iter&&(mTg AE t (ay4 scope sc) Nc g.target&&(mE e (ay4 scope sc) Nc el&&cE c (mE c (ay4 scope sc) Nc) g.ifs))))
noncomputable def mEs:Es->BE->List Str->List AT->Bool
 |.nil,_,_,xs=>xs.isEmpty
 |.cons e r,sc,N,xs=>EA (motive:=λ_=>Bool) xs AE λx xs=>mE e sc N x&&mEs r sc N xs
noncomputable def mIt:It->BE->List Str->AT->AT->Bool
 |.seq e,sc,N,_,x=>mE e sc N x
 |.rng a,sc,N,_,x=>xC1 "range" sc x (mE a sc N)
 |.rng2 a b,sc,N,_,x=>xC2 "range" sc x λp q=>mE a sc N p&&mE b sc N q
 |.enum e,sc,N,tg,x=>xT tg (λ_ _ _=>AD)&&xC1 "enumerate" sc x (mE e sc N)
 |.revt e,sc,N,_,x=>xC1 "reversed" sc x (mE e sc N)
 |.rev e,sc,N,_,x=>xC1 "reversed" sc x (mE e sc N)
end
structure XOk(Z:Sg)(X:Cx):Prop where
 calm:X.calm=AD
 psx:y6 (CXz X Z.X) X E0
 units:X.A.units+200<CO
 nd:X.N.Nodup
 blt:∀b∈V6,X.mg b=AF
 fns:∀f,isM f=AE->Z.F f=AD->FOk X Z.X f (Z.Phi f)
 tf:∀f,isM f=AE->Z.F f=AD->FnW X f (Z.T f)
 tr:Z.C "!ix"≠[]->TryOk X
 fnd:∀f,isM f=AE->Z.F f=AD->A0 Z.C f=AA 0->∃k a fd ps,FnOk X.prog X.w X.K X.mg X.base (CXz X Z.X) k a fd ps (u0 X.K (Z.Phi f))/\Room k X.A/\X.mg f=AA (.ref a)/\Bm X.K (.ref a)=AD/\r6 X.K fd ps [.none]
 nom:∀f fa,Z.F f=AD->Av X.K AN f=AA (AA (.ref fa))->isM f=AE
 cls:∀f c Ca,Av X.K AN c=AA (AA (.ref Ca))->f∈Z.C c->Cls X.K Ca/\L0 X.K Ca f
 mth:∀m c Ca,Av X.K AN c=AA (AA (.ref Ca))->Z.F (f6 c m)=AD->∃k f fd ps,Cls X.K Ca/\Meth X.K Ca m f/\FnOk X.prog X.w X.K X.mg X.base (CXz X Z.X) k f fd ps (u0 X.K (Z.Phi (f6 c m)))/\Room k X.A/\r6 X.K fd ps []
 mthd:∀m c Ca i,Av X.K AN c=AA (AA (.ref Ca))->Z.F (f6 c m)=AD->A0 Z.C (f6 c m)=AA i->∃k f fd ps tk,Cls X.K Ca/\Meth X.K Ca m f/\FnOk X.prog X.w X.K X.mg X.base (CXz X Z.X) k f fd ps (u0 X.K (Z.Phi (f6 c m)))/\Room k X.A/\r6 X.K fd ps [.int i tk]
 mks:∀c,Z.MF (f6 c "__init__")=AD->∃Ca k f fd ps,Av X.K AN c=AA (AA (.ref Ca))/\Mk X.K Ca f/\FnOk X.prog X.w X.K X.mg X.base (CXz X Z.X) k f fd ps (u0 X.K (Z.Mk (f6 c "__init__")))/\Room (k+1) X.A/\X.mg c=AA (.ref Ca)/\r6 X.K fd ps []
 tabs:∀g,Z.G g≠[]->GTab X.prog X.w X.K X.mg g (Z.G g)
 cst:∀g d,Z.Kc g=AA d->∃u,X.mg g=AA u/\N7 X.K d u=AD
 isc:∀c∈Z.C "!is",∃Ca,X.mg c=AA (.ref Ca)/\IscOk X.K c Ca
 kt:Tbs.kt=(Z.C "!kt").isEmpty
 lam:X.N.contains t6=AD->LamOk X/\∀x,X.N.contains (A7 x)=AD->X.fn x=AE/\X.ow x=AD
 mtE:∀(e:E)(sc:BE)(N:List Str)(x:AT),mE e sc N x=AD->N.contains t6=AE->Tbs.mt (.cons (.ret e) .nil) sc N (.expr x)
 clo:∀np N b cs fa fd ps,CloF fd np N ps b->∃k,FnOk X.prog X.w X.K X.mg X.base (CXz X Z.X) k fa fd ps (X7 X.K fa fd np N cs (Z.PhiC np N b cs))/\Room k X.A
end
section
variable [Tbs]
variable{x:AT}{Z:Sg}{X:Cx}{f:Str}{scope:BE}{Nc:List Str}{fr:List Nat}
structure Snd(Z:Sg)(X:Cx)(e:E)(x:AT):Prop where
 v:PE X x (up X.K (wpE Z e))
 t:D7 x=AD->PT X x (upB X.K (wpT Z e))
 w:∀op vs p,x=.BoolOp op vs p->PW X x (upB X.K (wpT Z e))
 st:∀y p,x≠.Starred y p
 sl:∀l u s p,x≠.Slice l u s p
 se:∀l k p,x≠.Set l k p
def ay0(h:bo3 x=AD):(∀y p,x≠.Starred y p)/\(∀l u s p,x≠.Slice l u s p)/\∀l k p,x≠.Set l k p:=
 {λ_ _ z=>(by rw[z]at h;cases h),λ_ _ _ _ z=>(by rw[z]at h;cases h),λ_ _ _ z=>by rw[z]at h;cases h}
def Snd.plain{e}(c:PE X x (up X.K (wpE Z e)))(hi:∀a,IH x X.env a=do let v <-a;Hv x.pos;holding [v] (truthy v))(b:bo3 x=AD)(d:∀op vs p,x≠.BoolOp op vs p):Snd Z X e x:=
 {c,λ_=>c86 c hi,λop vs p z=>absurd z (d op vs p),(ay0 b).1,(ay0 b).2.1,(ay0 b).2.2}
abbrev c11(x:AT):Bool:=[2,4,6,8,16,19,20,21,23,24,25].contains x.ctorIdx
def Snd.pl{e:E}(b:PE X x (up X.K (wpE Z e)))(h:c11 x=AD):Snd Z X e x:=by
 cases x<;>first|show(AH h).elim|show Snd.plain b (λ_=>rfl) rfl (by intros;show nofun)
def p9(h:glb X.env.scope f=AD):Gl X f:=by
 have:=by simpa[glb]using h
 show this
def bn6{sc}(h:ai7 sc f=AD):Vis sc f:=by
 unfold ai7 at h
 split at h
 ·show .inl (by assumption)
 ·show .inr (.inl (by assumption))
 ·show .inr (.inr (by assumption))
 ·cases h
def W5{sc}(h:O6 sc f=AD):Loc sc f:=by
 unfold O6 at h
 split at h
 ·show .inl (by assumption)
 ·show .inr (by assumption)
 ·cases h
def D8{x}(h:okN x=AD):(x=="__debug__")=AE/\(x=="__classdict__")=AE:=by
 simpa[okN]using h
def N9{o}(h:Q9 o=AD):∀i p a,o≠.Call (.Name i p) [] [] a:=λ_ _ _ z=>by rw[z]at h;cases h
def XOk.blt'(h:XOk Z X)(b:Str)(a:V6.contains b=AD:=by decide):X.mg b=AF:=h.blt b (by simpa using a)
def ah5{ow:Bool}{t:Tg}(D:X.calm=AD)(w:X.N.Nodup)(o:ow=AD->∀y,Loc X.env.scope y->X.N.contains (A7 y)=AE->X.fn y=AD\/X.env.scope.names.lookup y=AA .local)(h:mTg ow t X.env.scope X.N x=AD):PG X x (upG X.K t):=by
 have l:∀(i:Nat)(y:Str)(p:Pos),((X.N[i]?==AA y)&&O6 X.env.scope y&&((ow&&!(X.N.contains (A7 y)))||lcl X.env.scope y))=AD->X.N[i]?=AA y/\Loc X.env.scope y/\(X.fn y=AD\/X.env.scope.names.lookup y=AA .local):=λi y p h=>by
  erw[BJ,beq_iff_eq,Jl,Fa]at h;apply{h.1.1,W5 h.1.2,?_}
  rcases h.2 with z|z
  ·show o z.1 y (W5 h.1.2) z.2
  ·show .inr (by simpa[lcl]using z)
 cases t with
 |n i=>
  apply xN_ (C:=λx=>PG X x (upG X.K (.n i))) h λy p h=>?_;let{a,b,c}:=l _ _ p h;show cl5 w a b c
 |tup f=>
  apply xT_ (C:=λx=>PG X x (upG X.K (.tup f))) h λes k p h=>?_;let{j,E}:=an h;have v:∀(f:List Nat)(es:List AT),f.length=es.length->((f.zip es).all λp=>xN p.2 λy _=>(X.N[p.1]?==AA y)&&O6 X.env.scope y&&((ow&&!(X.N.contains (A7 y)))||lcl X.env.scope y))=AD->PGs X es (ad2 f)/\(CG es X.env).length=f.length/\(CG es X.env).findIdx? (·.1)=AF:=by
   intro f
   induction f with
   |nil=>
    intro es j _;cases es with
    |nil=>show⟨cn3,rfl,rfl⟩
    |cons a b=>cases j
   |cons i f B=>
    intro es j h;cases es with
    |nil=>cases j
    |cons e es=>
     let{q,F}:=an h;let{u,s,r}:=B es (HM j) F;apply xN_ (C:=λe=>PGs X (e::es) (ad2 (i::f))/\(CG (e::es) X.env).length=(i::f).length/\(CG (e::es) X.env).findIdx? (·.1)=AF) q λy py q=>?_;let{a,b,c}:=l i y py q;apply{cc1 (bf9 w a b c) u rfl,congrArg (·+1) s,?_};change List.findIdx? _ ((AE,assign (.Name y py) X.env)::CG es X.env)=AF;rw[List.findIdx?_cons];erw[BD,if_false];rw[r];rfl
  let{u,s,r}:=v f es (beq_iff_eq.1 j) E;show ct9 D u s r
def a72{k:Nat}(h:ab4 X.env.scope scope X.N Nc fr k=AD):CompScope X scope Nc fr k:=by
 unfold ab4 at h;erw[BJ,beq_iff_eq,decide_eq_true_eq,EI]at h;let{{{{{{{{r,p},o},m},l},g},_},f},e}:=h;apply{r,λy hy=>?_,λy hy hl=>?_,λy hy hf=>?_,λy hy hf b=>?_,g,f,λi x hx hi=>?_}
 ·simpa using p y hy
 ·have:=o y hy;rw[hl]at this;simpa using this
 ·have:=m y hy;rw[hf]at this;simpa using this
 ·have:=l y hy;rw[hf]at this;have:(scope.names.any λz=>z.1==y.1&&z.2==.local)=AE:=by simpa using this
  rw[HA]at this;show absurd ∎ (this _ b)
 ·have:=e i (by simpa using hi);rw[hx]at this;cases q:fr[i]? with
  |none=>rw[q]at this;cases this
  |some j=>
   rw[q]at this;erw[BJ,beq_iff_eq,Hn]at this;let{a,{n,kd},b,d,c}:=this;simp only at d c;subst d c;show⟨j,rfl,a,b⟩
def ae4{k}(h:ab4 X.env.scope scope X.N Nc fr k=AD):=by
 unfold ab4 at h;erw[BJ,Fa]at h;show h.1.1.2
theorem XOk.comp{k}(h:XOk Z X)(hz:Z.X=AE)(j:Nc.contains t6=AE)(S:CompScope X scope Nc fr k)C(fp)pins(s)H:XOk Z (X.comp scope Nc C fp pins s H) where
 calm:=h.calm
 psx:=λ_ _ _ _ _ _ _ c=>absurd (hz▸c.1) AH
 tf:=λf a b=>⟨(h.tf f a b).ex⟩
 tr:=λz=>⟨(h.tr z).ex⟩
 units:=h.units
 nd:=S.nd
 blt:=h.blt
 fns:=λf hm hf=>let⟨k,a,fd,e,x⟩:=(h.fns f hm hf).ex;⟨k,a,fd,e,x⟩
 fnd:=λf hm=>h.fnd f hm
 nom:=λf fa=>h.nom f fa
 cls:=λf c Ca=>h.cls f c Ca
 mth:=λm c Ca=>h.mth m c Ca
 mthd:=λm c Ca i a=>h.mthd m c Ca i a
 mks:=h.mks
 tabs:=λg hg=>⟨(h.tabs g hg).ex⟩
 lam:=λz=>by
  have d:Nc.contains t6=AD:=z;rw[j]at d;cases d
 cst:=h.cst
 isc:=h.isc
 kt:=h.kt
 mtE:=h.mtE
 clo:=λnp N b cs fa fd=>h.clo np N b cs fa fd
theorem XOk.wish(h:XOk Z X){EE}(e:y6 (CXz X Z.X) (X.wish EE) E0):XOk Z (X.wish EE) where
 calm:=h.calm
 psx:=e
 tf:=λf a b=>⟨(h.tf f a b).ex⟩
 tr:=λz=>⟨(h.tr z).ex⟩
 units:=h.units
 nd:=h.nd
 blt:=h.blt
 fns:=λf hm hf=>let⟨k,a,fd,d,x⟩:=(h.fns f hm hf).ex;⟨k,a,fd,d,x⟩
 fnd:=λf=>h.fnd f
 nom:=λf=>h.nom f
 cls:=λf c=>h.cls f c
 mth:=λm c=>h.mth m c
 mthd:=λm c Ca i=>h.mthd m c Ca i
 mks:=h.mks
 tabs:=λg hg=>⟨(h.tabs g hg).ex⟩
 lam:=λz=>{{(h.lam z).1.1,(h.lam z).1.2},(h.lam z).2}
 cst:=h.cst
 isc:=h.isc
 kt:=h.kt
 mtE:=h.mtE
 clo:=λnp N b cs fa=>h.clo np N b cs fa
theorem fmc{b c:Type}{f g:b->Option c}:∀{l:List b},(∀n∈l,f n=g n)->l.filterMap f=l.filterMap g
 |[],_=>rfl
 |a::l,h=>by rw[Ci,Ci,h a (.head _),fmc λn hn=>h n (.tail _ hn)]
theorem bd7:∀(ns:List Str)(us:List AG),ns.Nodup->us.length=ns.length->(ns.filterMap λn=>((ns.zip us).lookup n).map (n,·))=ns.zip us/\∀n∈ns,((ns.zip us).lookup n).isNone=AE
 |[],us,_,_=>⟨rfl,nofun⟩
 |a::ns,u::us,b,c=>by
  let{d,f}:=bd7 ns us (BU.1 b).2 (HM c);apply{?_,λn hn=>?_}
  ·rw[FF,Ci,EG,beq_self_eq_true];apply congrArg ((a,u)::·) (Ki (fmc λn hn=>?_) d);rw[EG,beq_false_of_ne λe:n=a=>(BU.1 b).1 (e▸hn)]
  ·rw[FF,EG];cases e:n==a with
   |true=>rfl
   |false=>grind
def fz{c b a:Type}{z:List c}{i}{f}{g:b->Sem a}(hz:z=[]):forIn z i f>>=g=g i:=by subst hz;rfl
def da5(name a:Str)(l:List Arg)(k:Dp)(scope:BE)(cl:List (Str×AI))(b f m o:AG)(us:List AG)(h:us.length=(l.map Eb).length)(g:(l.map Eb).Nodup):Ef (M3 name a {[],l,AF,[],[],AF,[]} k scope cl b f m o) {us,[]}=pure ((l.map Eb).zip us):=by
 let{e,d}:=bd7 (l.map Eb) us g h;have j:¬(AB (us.length>(l.map Eb).length)&&AD)=AD:=by rw[h];simp
 have c:(Lq (0-(l.map Eb).length) ([]:List AG))=[]:=List.drop_nil;have i:¬(!(((l.map Eb).take ((l.map Eb).length-(Lq (0-(l.map Eb).length) ([]:List AG)).length)).filter (λn=>(((l.map Eb).zip us).lookup n).isNone)).isEmpty)=AD:=by
  rw[c,Ap,LD,Ew,List.filter_eq_nil_iff.2 λn hn=>by rw[d n hn];show AH];show AH
 unfold Ef;apply(if_neg j).trans ((if_neg i).trans ((fz ?_).trans ?_))
 ·show(congrArg _ c).trans List.zip_nil_right
 ·show congrArg (pure:List (Str×AG)->Sem _) ((congrArg _ (BL _)).trans e)
theorem br4 env:∀l,(l.all λa=>a.annotation.isNone)=AD->annotationsOf (l++[]++[]++[]++[]) env=[]
 |[],_=>rfl
 |⟨_,AF,_⟩::l,h=>br4 env l h
def bx8{p:DM}{b:List Str}(h:ae7 p=AA b):p.defaults=[]/\p.kw_defaults=[]/\(∀env,defaultsOf p env=([],[]))/\(∀env,annTrees p AF env=[]) /\
  ∀(name a:Str)(q:Dp)(scope:BE)(cl:List (Str×AI))(c d r s:AG)(us:List AG),us.length=b.length->Ef (M3 name a p q scope cl c d r s) {us,[]}=pure (b.zip us):=by
 let{u,l,t,v,kd,w,x}:=p;unfold ae7 at h
 split at h
 ·rename_i e;cases h;let{{{{{{{{{o,n},m},k},j},i},g},f},_},_}:=by simpa only[BJ,Ex,Option.isNone_iff_eq_none,decide_eq_true_eq]using e
  subst o n m k j i;show{rfl,rfl,λ_=>rfl,λenv=>(BL _).trans (br4 env l g),λ_ _ _ _ _ _ _ _ _ us hl=>da5 _ _ l _ _ _ _ _ _ _ us hl f}
 ·cases h
def cn5{e:DM}{p:Dp}{t:Nat}{s l:List Str}{r:List Nat}{b:Ss}(h:av3 X.env.scope X.N scope s l t r=AD)(M:∀x,X.N.contains (A7 x)=AD->X.fn x=AE/\X.ow x=AD)(z:Tbs.mt b scope s p)
  (g:∀(name f:Str)(cl:List (Str×AI))(q w K L:AG)(us:List AG),us.length=l.length->Ef (M3 name f e p scope cl q w K L) {us,[]}=pure (l.zip us)):NestOk X e p scope t s l r b:=by
 unfold av3 at h;erw[BJ,beq_iff_eq,Fa,decide_eq_true_eq,EI]at h;let{{{{{{{{{J,I},H},G},F},E},D},C},B},o}:=h;have key:∀x,(x,BC)∈scope.names->scope.names.lookup x=AA .free/\X.env.scope.names.lookup x=AA .cell/\X.N.contains (A7 x)=AD/\∃i:Nat,∃j:Nat,r[i]?=AA j/\X.N[j]?=AA x:=λx m=>by
  have:=B _ m;erw[beq_self_eq_true,EX,Hg,BJ,beq_iff_eq,Hn]at this;let{{{a,b},c},i,_,d}:=this;apply{a,b,c,i,?_}
  split at d
  ·rename_i j n;show{j,n,by simpa using d}
  ·cases d
 apply{{I,H,G,F,E,D,λy hy=>by simpa using C y hy,λy hy hk=>?_},J,z,g,λi j n=>?_,λx m=>?_}
 ·let{y,k}:=y;subst hk;show(key y hy).1
 ·have hi:=(AY.mp n).1;have:=o i (by simpa using hi);rw[n]at this;simp only at this
  split at this
  ·rename_i x m;erw[BJ,beq_iff_eq,Hn]at this;let{a,{y,k},A,v,u}:=this;simp only at v u;subst v u;show⟨_,m,a,A⟩
  ·cases this
 ·simp_all
end
section
variable [Tbs]
variable{X:Cx}{Z:Sg}{e:E}{l:List AT}
structure SndA(Z:Sg)(X:Cx)(es:Es)(xs:List AT):Prop where
 a:PA X xs (upA X.K es.len (u4 Z es))
 pl:∀pos:Pos,(Bx pos (Ao xs X.env)).any (·.1)=AE
def bk3{o}{q}{pos}{t}(h:PT X q (upB X.K (tst t))):PW X (.BoolOp o [q] pos) (upB X.K (tst t)):=by
 cases o with
 |And=>show cl7 h
 |Or=>show c07 h
def cb4:∀e(a)N(l)(k)p,mE e a N (.Set l k p)=AE:=by
 intro e a N l k p;cases e<;>rfl
def co7{t}(h:t∈P9):BK (Aa t)=AA (.type t)/\Aa t≠"__name__"/\(Aa t=="__debug__")=AE/\V6.contains (Aa t)=AD:=by
 erw[P9,AQ,AX,or_false]at h
 rcases h with rfl|rfl|rfl|rfl|rfl<;>show⟨rfl,∅,∅,∅⟩
def au7{env:Env}{b:It}{a:BE}{N:List Str}{d x:AT}(h:mIt b a N d x=AD):∀v,Dl x env v=pure v:=by
 have g:∀l k p,x≠.Set l k p:=λl k p z=>by
  subst z;cases b with
  |seq e=>show(AH ((cb4 e a N l k p).symm.trans h)).elim
  |enum e=>show(AH (an h).2).elim
  |_=>show(AH h).elim
 intro v;cases x<;>first|rfl|show absurd rfl (g _ _ _)
def R9{K}{t t'}{σ}{H}{Q}(h:∀env st Q,t env st Q->t' env st Q)(q:up K t σ H Q):up K t' σ H Q:=by
 let{env,st,e,d,c,a,b}:=q;show{env,st,e,d,c,h _ _ _ a,b}
def ac9{x}{P}(h:¬P)(w:∀env st Q,wpE Z e env st Q->P):PE X x (up X.K (wpE Z e)):=λ_ _ _ _ _ _ q=>by
 let{env,st,_,_,_,a,_}:=q;show absurd (w env st _ a) h
def ai6{lo:E}{l:Option AT}(h:oE lo (mE lo X.env.scope X.N) l=AD)(H:∀x,mE lo X.env.scope X.N x=AD->Snd Z X lo x):PO X l (upO X.K λenv st k=>(if lo.isNon=AD then λk=>k AF st else λ(k:Option Int->Sto->Prop)=>wpE Z lo env st λd st'=>∃i,d=.int i/\k (AA i) st') k):=by
 cases l with
 |none=>rw[show lo.isNon=AD from h];show cf8
 |some l=>
  let{b,a}:=an h;rw[show lo.isNon=AE from nt b];show ck8 (H l a).v
def bs5{c:E}(h:cE c (mE c X.env.scope X.N) l=AD)(H:∀x,mE c X.env.scope X.N x=AD->Snd Z X c x):PCs X l (upB X.K (if c.isNon=AD then λ_ st Q=>Q AD st else λenv st Q=>wpE Z c env st λd st'=>∃b,d=.bl b/\Q b st')):=by
 cases l with
 |nil=>
  rw[show c.isNon=AD from h];show λpins' s' σ' H' Q' I'⟨env,st,Qd,hE,hS,ht,hq⟩=>cm9 pins' s' σ' H' Q' I' (hq AD H' st Ev.refl hS ht)
 |cons a l=>
  apply l1_ (C:=λl=>PCs X l _) (show l1 (a::l) (λx=>!c.isNon&&(D7 x&&mE c X.env.scope X.N x))=AD from h) λx h=>?_;let{i,e}:=an h;rw[show c.isNon=AE from nt i];show cd1 ((H x (an e).2).t (an e).1)
def mcF{cp}(a:(Bx cp (Ao l X.env)).any (·.1)=AE)(h:l.length<29):Eh (l.length+0) (Bx cp (Ao l X.env)) (FN cp (De [] X.env))=AD:=by
 unfold Eh;rw[show(Bx cp (Ao l X.env)).all (λx=>!x.1)=AD from by
  rw[EI];intro w b;rw[HA]at a;simpa using a w b]
 show decide_eq_true (JP h)
def Snd.cm{a}{o}{b}{p}(d:PE X (.Compare a o b p) (up X.K (wpE Z e)))(c:PT X (.Compare a o b p) (upB X.K (wpT Z e))):Snd Z X e (.Compare a o b p):={d,λ_=>c,nofun,nofun,nofun,nofun}
def Snd.bo{o}{b}{p}(c:PE X (.BoolOp o b p) (up X.K (wpE Z e)))(a:PW X (.BoolOp o b p) (upB X.K (wpT Z e))):Snd Z X e (.BoolOp o b p):={c,λ_=>a.pt,λ_ _ _ _=>a,nofun,nofun,nofun}
def lb_{k}{m}{C:List AT->Prop}(h:lb l k m=AD)(H:∀p q,k p q=AD->C [p,q])(J:∀p q r s,m p (q::r::s)=AD->C (p::q::r::s)):C l:=
 match l,h with
 |[p,q],h=>H p q h
 |p::q::r::s,h=>J p q r s h
def XOk.fnx(d:XOk Z X)(f)fa(e:Z.F f=AD)(b:Av X.K AN f=AA (AA (.ref fa))):∃k fd c,FnOk X.prog X.w X.K X.mg X.base (CXz X Z.X) k fa fd c (u0 X.K (Z.Phi f))/\Room k X.A/\Bm X.K (.ref fa)=AD/\r6 X.K fd c []:=by
 let{k,a,fd,c,F,g,l,i,j,h}:=(d.fns f (d.nom f fa e b) e).ex;rw[h]at b;cases b;show⟨k,fd,c,F,g,i,j⟩
mutual
theorem g9(Z:Sg):∀(e:E)(X:Cx)(x:AT),XOk Z X->mE e X.env.scope X.N x=AD->Snd Z X e x
 |.non,X,x,hX,h=>U7 h λn p=>Snd.pl (by show ad1 c25 λ_=>.non) rfl
 |.bl b,X,x,hX,h=>U7 h λn p=>Snd.pl (by show ad1 ah2 λ_=>.bl _) rfl
 |.int i,X,x,hX,h=>U7 h λn p=>Snd.pl (by show ad1 c35 λ_=>.int _) rfl
 |.str y,X,x,hX,h=>U7 h λn p=>Snd.pl (by show ad1 c26 λ_=>.str _) rfl
 |.v i,X,x,hX,h=>xN_ h λy p h=>Snd.pl (by show cw9 (beq_iff_eq.1 (an h).1) (bn6 (an (an h).2).1) (D8 (an (an h).2).2).1 (D8 (an (an h).2).2).2) rfl
 |.tup es,X,x,hX,h=>xT_ h λl n p h=>Snd.pl (by show cp8 (D4 Z es X _ hX (an h).1).a (of_decide_eq_true (an h).2)) rfl
 |.lst es,X,x,hX,h=>xL_ h λl p h=>Snd.pl (by show cz4 (D4 Z es X _ hX (an h).1).a (of_decide_eq_true (an h).2)) rfl
 |.bin o a b,X,x,hX,h=>di4 h λp q r ps h=>by
  cases beq_iff_eq.1 (an h).1;show Snd.pl (by show cq7 (g9 Z a X _ hX (an (an h).2).1).v (g9 Z b X _ hX (an (an h).2).2).v) rfl
 |.neg a,X,x,hX,h=>xU_ h λo p ps h=>by
  cases beq_iff_eq.1 (an h).1;show Snd.plain (by show cu7 (g9 Z a X _ hX (an h).2).v) (λ_=>rfl) rfl (by intros;show nofun)
 |.cmp o a b,X,x,hX,h=>ai3 h λq p r ps h=>by
  cases beq_iff_eq.1 (an h).1;have ia:=g9 Z a X _ hX (an (an h).2).1;have ib:=g9 Z b X _ hX (an (an h).2).2;show Snd.cm (by show cy8 hX.units ia.v ib.v ib.se) (by unfold wpT;show cy5 hX.units ia.v ib.v ib.se)
 |.isN a,X,x,hX,h=>ai3 h λq p r ps h=>by
  cases beq_iff_eq.1 (an h).1;apply U7 (C:=λr=>Snd Z X (.isN a) (.Compare p [.Is] [r] ps)) (an (an h).2).1 λn pp=>?_;have ia:=g9 Z a X _ hX (an (an h).2).2;show Snd.cm (by show cu5 ia.v) (by unfold wpT;show cr4 ia.v)
 |.notN a,X,x,hX,h=>ai3 h λq p r ps h=>by
  cases beq_iff_eq.1 (an h).1;apply U7 (C:=λr=>Snd Z X (.notN a) (.Compare p [.IsNot] [r] ps)) (an (an h).2).1 λn pp=>?_;have ia:=g9 Z a X _ hX (an (an h).2).2;show Snd.cm (by show co5 ia.v) (by unfold wpT;show cm4 ia.v)
 |.and a b,X,x,hX,h=>bs4 h λo l ps h=>by
  cases beq_iff_eq.1 (an h).1;apply lb_ (C:=λl=>Snd Z X (.and a b) (.BoolOp .And l ps)) (an h).2 (λp q h=>?_) λp q r j8 h=>?_
  ·have ia:=g9 Z a X _ hX (an (an (an h).1).1).1;have ib:=g9 Z b X _ hX (an (an (an h).1).1).2;show Snd.bo (by show bo0 ia.v (bl6 ib.v)) (by unfold wpT;show bl7 (ia.t (an (an h).1).2) (bk3 (ib.t (an h).2)))
  ·have ia:=g9 Z a X _ hX (an (an h).1).1;have ib:=g9 Z b X _ hX (an (an h).1).2;show Snd.bo (by show bo0 ia.v ib.v) (by unfold wpT;show bl7 (ia.t (an h).2) (ib.w _ _ _ rfl))
 |.or a b,X,x,hX,h=>bs4 h λo l ps h=>by
  cases beq_iff_eq.1 (an h).1;apply lb_ (C:=λl=>Snd Z X (.or a b) (.BoolOp .Or l ps)) (an h).2 (λp q h=>?_) λp q r j8 h=>?_
  ·have ia:=g9 Z a X _ hX (an (an (an h).1).1).1;have ib:=g9 Z b X _ hX (an (an (an h).1).1).2;show Snd.bo (by show bq7 ia.v (bl6 ib.v)) (by unfold wpT;show bp3 (ia.t (an (an h).1).2) (bk3 (ib.t (an h).2)))
  ·have ia:=g9 Z a X _ hX (an (an h).1).1;have ib:=g9 Z b X _ hX (an (an h).1).2;show Snd.bo (by show bq7 ia.v ib.v) (by unfold wpT;show bp3 (ia.t (an h).2) (ib.w _ _ _ rfl))
 |.not a,X,x,hX,h=>xU_ h λo p ps h=>by
  cases beq_iff_eq.1 (an h).1;have ia:=g9 Z a X _ hX (an (an h).2).1;show{by show c29 ia.v,λ_=>(by unfold wpT;show c05 (ia.t (an (an h).2).2)),nofun,nofun,nofun,nofun}
 |.ite c a b,X,x,hX,h=>dj0 h λp q r ps h=>
  {by show c18 ((g9 Z c X _ hX (an (an h).1).1).t (an (an h).1).2) (g9 Z a X _ hX (an (an h).2).1).v (g9 Z b X _ hX (an (an h).2).2).v,nofun,nofun,nofun,nofun,nofun}
 |.ix a b,X,x,hX,h=>xS_ h λp q ps h=>
  have ib:=g9 Z b X _ hX (an h).2
  Snd.pl (by show db2 hX.units (g9 Z a X _ hX (an h).1).v ib.v ib.sl) rfl
 |.sl a lo hi,X,x,hX,h=>xS_ h λp s ps h=>bs7 (C:=λs=>Snd Z X (.sl a lo hi) (.Subscript p s ps)) (an h).2 λl u st p2 h2=>by
  cases st with
  |some _=>show(AH h2).elim
  |none=>show Snd.pl (by show c51 (g9 Z a X _ hX (an h).1).v (ai6 (an (an h2).2).1 λx=>g9 Z lo X x hX) (ai6 (an (an h2).2).2 λx=>g9 Z hi X x hX)) rfl
 |.slw a lo hi,X,x,hX,h=>xS_ h λp s ps h=>bs7 (C:=λs=>Snd Z X (.slw a lo hi) (.Subscript p s ps)) (an h).2 λl u st p2 h2=>by
  cases st with
  |some _=>show(AH h2).elim
  |none=>show Snd.pl (by show cz9 (g9 Z a X _ hX (an h).1).v (ai6 (an (an h2).2).1 λx=>g9 Z lo X x hX) (ai6 (an (an h2).2).2 λx=>g9 Z hi X x hX)) rfl
 |.gget g k d,X,x,hX,h=>xM_ h λo ap l cp hl h=>U2 (C:=λo=>Snd Z X (.gget g k d) (.Call (.Attribute o "get" ap) l [] cp)) (an h).1 λnp=>l2_ (C:=λl=>Snd Z X (.gget g k d) (.Call (.Attribute (.Name g np) "get" ap) l [] cp)) (an (an (an h).2).2).2 λp q h2=>
  have ik:=g9 Z k X _ hX (an h2).1;have id:=g9 Z d X _ hX (an h2).2
  Snd.pl (by show cg5 (hX.tabs g) (p9 (an (an h).2).1) ik.v id.v ik.st id.st hl (D8 (an (an (an h).2).2).1).1) rfl
 |.gsel g k,X,x,hX,h=>xS_ h λn q ps h=>U2 (C:=λn=>Snd Z X (.gsel g k) (.Subscript n q ps)) (an h).1 λnp=>
  have ik:=g9 Z k X _ hX (an (an (an h).2).2).2
  Snd.pl (by show cj3 (hX.tabs g) (p9 (an (an h).2).1) ik.v ik.sl (D8 (an (an (an h).2).2).1).1) rfl
 |.len a,X,x,hX,h=>L9 h λq p ps h1 h2=>
  have ia:=g9 Z a X _ hX h2
  Snd.pl (by show ct5 (p9 h1) (hX.blt' _) ia.v ia.st) rfl
 |.toInt a,X,x,hX,h=>L9 h λq p ps h1 h2=>
  have ia:=g9 Z a X _ hX h2
  Snd.pl (by show b58 (p9 h1) (hX.blt' _) ia.v ia.st) rfl
 |.list a,X,x,hX,h=>L9 h λq p ps h1 h2=>
  have ia:=g9 Z a X _ hX h2
  Snd.pl (by show cj8 (p9 h1) (hX.blt' _) ia.v ia.st) rfl
 |.tuple a,X,x,hX,h=>L9 h λq p ps h1 h2=>
  have ia:=g9 Z a X _ hX h2
  Snd.pl (by show ca8 (p9 h1) (hX.blt' _) ia.v ia.st) rfl
 |.max a b,X,x,hX,h=>ac7 h λq p r ps h1 h2=>
  have ia:=g9 Z a X _ hX (an h2).1;have ib:=g9 Z b X _ hX (an h2).2
  Snd.pl (by show cp7 hX.calm (p9 h1) (hX.blt' _) ia.v ib.v ia.st ib.st) rfl
 |.min a b,X,x,hX,h=>ac7 h λq p r ps h1 h2=>
  have ia:=g9 Z a X _ hX (an h2).1;have ib:=g9 Z b X _ hX (an h2).2
  Snd.pl (by show c21 hX.calm (p9 h1) (hX.blt' _) ia.v ib.v ia.st ib.st) rfl
 |.lzip a b,X,x,hX,h=>L9 h λq z ps h1 h=>ac7 (C:=λz=>Snd Z X (.lzip a b) (.Call (.Name "list" q) [z] [] ps)) h λq2 p r ps2 h2 h3=>
  have ia:=g9 Z a X _ hX (an h3).1;have ib:=g9 Z b X _ hX (an h3).2
  Snd.pl (by show ck7 hX.calm (p9 h1) (hX.blt' _) (p9 h2) (hX.blt' _) ia.v ib.v ia.st ib.st) rfl
 |.call f es,X,x,hX,h=>xG_ h λq l ps h1 h=>by
  cases l with
  |nil=>show(AH (an (an (an h).2).2).1).elim
  |cons y ys=>cases es with
   |nil=>show(AH (an (an (an h).2).2).2).elim
   |cons e0 er=>
    have i0:=g9 Z e0 X _ hX (an (an (an (an h).2).2).2).1;have ir:=D4 Z er X _ hX (an (an (an (an h).2).2).2).2;apply Snd.pl ?_ rfl
    by_cases hF:Z.F f=AD
    ·let{k,a,fd,ps,F,hr,hm,hk,hb,_}:=(hX.fns f (nt (an (an h).2).1) hF).ex;show PE.imp (ce7 hX.psx F hr (p9 h1) hm hk hb (P6 i0.v ir.a i0.st) (D8 (an h).1).1 i0.st (ir.pl _)) λ_ _ _=>R9 λ_ _ _ ht=>ht.2
    ·show ac9 hF λ_ _ _ ht=>ht.1
 |.callw f es,X,x,hX,h=>xG_ h λq l ps h1 h=>by
  cases l with
  |nil=>show(AH (an (an (an h).2).2).1).elim
  |cons y ys=>cases es with
   |nil=>show(AH (an (an (an h).2).2).2).elim
   |cons e0 er=>
    have i0:=g9 Z e0 X _ hX (an (an (an (an h).2).2).2).1;have ir:=D4 Z er X _ hX (an (an (an (an h).2).2).2).2;apply Snd.pl ?_ rfl
    by_cases hF:Z.F f=AD
    ·show PE.imp (b62 (hX.tf f (nt (an (an h).2).1) hF) (p9 h1) (P6 i0.v ir.a i0.st) (D8 (an h).1).1 i0.st (ir.pl _)) λ_ _ _=>R9 λ_ _ _ ht=>ht.2
    ·show ac9 hF λ_ _ _ ht=>ht.1
 |.gf f,X,x,hX,h=>U2 (C:=λx=>Snd Z X (.gf f) x) (an h).1 λp=>by
  apply Snd.pl ?_ rfl
  by_cases hF:Z.F f=AD
  ·let{k,a,fd,ps,F,hr,hm,hk,hb,hn}:=(hX.fns f (nt (an (an (an h).2).2).2) hF).ex;show PE.imp (db9 (p9 (an (an h).2).1) hm hn (D8 (an (an (an h).2).2).1).1) λ_ _ _=>R9 λ_ _ _ ht=>ht.2
  ·show ac9 hF λ_ _ _ ht=>ht.1
 |.callx c es,X,x,hX,h=>ai0 h λf l ps h=>by
  apply xS_ (C:=λf=>Snd Z X (.callx c es) (.Call f l [] ps)) (an h).1 λp q sp h1=>?_;cases l with
  |nil=>show(AH (an (an h).2).1).elim
  |cons y ys=>cases es with
   |nil=>show(AH (an (an h).2).2).elim
   |cons e0 er=>
    have i0:=g9 Z e0 X _ hX (an (an (an h).2).2).1;have ir:=D4 Z er X _ hX (an (an (an h).2).2).2;apply Snd.pl ?_ rfl;show b67 hX.psx (F:=Z.F) (Ph:=Z.Phi) (g9 Z c X _ hX h1).v hX.fnx (P6 i0.v ir.a i0.st) i0.st (ir.pl _)
 |.gc g,X,x,hX,h=>U2 (C:=λx=>Snd Z X (.gc g) x) (an h).1 λp=>by
  apply Snd.pl ?_ rfl;cases hk:Z.Kc g with
  |none=>show λ_ _ _ _ _ _⟨env,st,Qd,hE,hS,⟨i,hi,_⟩,hq⟩=>nomatch hk.symm.trans hi
  |some i=>
   let{t,hm,hv}:=hX.cst g i hk;let{v,rv,is}:=N7.is hv;show PE.imp (bh1 (v:=v) (p9 (an (an h).2).1) hm rv (D8 (an (an h).2).2).1) λσ H Q q=>by
    let{env,st,Qd,hE,hS,{i',hi,ht},hq}:=q;cases hk.symm.trans hi;show hq.here (is H) hS ht
 |.callv i es,X,x,hX,h=>ai0 h λf l ps h=>by
  apply xN_ (C:=λf=>Snd Z X (.callv i es) (.Call f l [] ps)) (an h).1 λy p h1=>?_;cases l with
  |nil=>show(AH (an (an h).2).1).elim
  |cons z zs=>cases es with
   |nil=>show(AH (an (an h).2).2).elim
   |cons e0 er=>
    have i0:=g9 Z e0 X _ hX (an (an (an h).2).2).1;have ir:=D4 Z er X _ hX (an (an (an h).2).2).2;apply Snd.pl ?_ rfl;show b76 hX.psx (Z:=Z) (beq_iff_eq.1 (an h1).1) (bn6 (an (an h1).2).1) (D8 (an (an h1).2).2).1 (D8 (an (an h1).2).2).2 hX.fnx hX.clo (P6 i0.v ir.a i0.st) i0.st (ir.pl _)
 |.isT t a,X,x,hX,h=>ac7 h λq p r ps h1 h2=>U2 (C:=λr=>Snd Z X (.isT t a) (.Call (.Name "isinstance" q) [p,r] [] ps)) (an h2).1 λnp=>by
  have hin:t∈P9:=List.contains_iff_mem.1 (an (an (an h2).2).2).1;let{b1,b2,b3,b4}:=co7 hin;have ia:=g9 Z a X _ hX (an (an (an h2).2).2).2;show Snd.pl (by show cs4 hin (p9 h1) (hX.blt' _) (p9 (an (an h2).2).1) (hX.blt' _ b4) b1 b2 b3 ia.v ia.st) rfl
 |.fld a f,X,x,hX,h=>xA_ h λo g ap h=>by
  cases beq_iff_eq.1 (an h).1;show Snd.pl (by show c10 (C:=Z.C) (λc Ca=>hX.cls _ c Ca) (g9 Z a X _ hX (an (an h).2).2).v (G1 (N9 (an (an h).2).1))) rfl
 |.meth a m es,X,x,hX,h=>xM_ h λo ap l cp hl h=>by
  have hbo:=N9 (an (an h).1).1;have ia:=g9 Z a X _ hX (an (an h).1).2;have iall:=D4 Z es X _ hX (an (an h).2).1;apply Snd.pl ?_ rfl;cases l with
  |nil=>
   cases es with
   |nil=>show PE.imp (b89 hX.psx (F:=Z.F) (Ph:=Z.Phi) (λc Ca=>hX.mth m c Ca) hl hbo ia.v) λ_ _ _=>R9 λ_ _ _ ht=>(by show ht)
   |cons _ _=>show(AH (an (an h).2).1).elim
  |cons z zs=>
   cases es with
   |nil=>show(AH (an (an h).2).1).elim
   |cons e0 er=>
    show ci7 hX.psx (F:=Z.F) (Ph:=Z.Phi) (λc Ca=>hX.mth m c Ca) (mcF (iall.pl cp) (of_decide_eq_true (an (an h).2).2)) hl hbo ia.v iall.a (g9 Z e0 X _ hX (an (an (an h).2).1).1).st ((D4 Z er X _ hX (an (an (an h).2).1).2).pl _)
 |.methd a m es,X,x,hX,h=>xM_ h λo ap l cp hl h=>by
  have hbo:=N9 (an (an h).1).1;have ia:=g9 Z a X _ hX (an (an h).1).2;have h2:=an (an (an h).2).2;have iall:=D4 Z es X _ hX h2.1;apply Snd.pl ?_ rfl;cases l with
  |nil=>show(AH (an (an h).2).1).elim
  |cons z zs=>cases es with
   |nil=>show(AH h2.1).elim
   |cons e0 er=>
    show cb8 hX.psx (F:=Z.F) (Ph:=Z.Phi) (C:=Z.C) (λc Ca i=>hX.mthd m c Ca i) (mcF (iall.pl cp) (of_decide_eq_true h2.2)) hl hbo ia.v iall.a (g9 Z e0 X _ hX (an h2.1).1).st ((D4 Z er X _ hX (an h2.1).2).pl _)
 |.make c es,X,x,hX,h=>xG_ h λq l ps h1 h=>by
  have iall:=D4 Z es X _ hX (an h).2;apply Snd.pl ?_ rfl
  by_cases hF:Z.MF (f6 c "__init__")=AD
  ·let{Ca,k,f,fd,ps,hn,M,Fo,hr,hm,hb}:=hX.mks c hF;cases l with
   |nil=>
    cases es with
    |nil=>show PE.imp (b90 hX.psx hn M Fo hr (p9 h1) hm hb (D8 (an h).1).1) λ_ _ _=>R9 λ_ _ _ ht=>(by show ht.2)
    |cons _ _=>show(AH (an h).2).elim
   |cons z zs=>
    cases es with
    |nil=>show(AH (an h).2).elim
    |cons e0 er=>
     show PE.imp (ce5 hX.psx hn M Fo hr (p9 h1) hm hb iall.a (D8 (an h).1).1 (g9 Z e0 X _ hX (an (an h).2).1).st ((D4 Z er X _ hX (an (an h).2).2).pl _)) λ_ _ _=>R9 λ_ _ _ ht=>ht.2
  ·show ac9 hF λ_ _ _ ht=>ht.1
 |.app a b,X,x,hX,h=>ai9 h λo ap p cp hl h1 h2 h3=>
  have ib:=g9 Z b X _ hX h3
  Snd.pl (by show c24 (g9 Z a X _ hX h2).v ib.v (N9 h1) ib.st hl) rfl
 |.ext a b,X,x,hX,h=>ai9 h λo ap p cp hl h1 h2 h3=>
  have ib:=g9 Z b X _ hX h3
  Snd.pl (by show cq2 (g9 Z a X _ hX h2).v ib.v (N9 h1) ib.st hl) rfl
 |.popAt a b,X,x,hX,h=>ai9 h λo ap p cp hl h1 h2 h3=>
  have ib:=g9 Z b X _ hX h3
  Snd.pl (by show ca9 (g9 Z a X _ hX h2).v ib.v (N9 h1) ib.st hl) rfl
 |.pop a,X,x,hX,h=>br8 h λo ap cp hl h1 h2=>Snd.pl (by show cx4 (g9 Z a X _ hX h2).v (N9 h1) hl) rfl
 |.any a,X,x,hX,h=>L9 h λq p ps h1 h2=>
  have ia:=g9 Z a X _ hX h2
  Snd.pl (by show cr0 hX.calm (p9 h1) (hX.blt' _) ia.v ia.st) rfl
 |.dnt,X,x,hX,h=>xD_ h λl r p h=>by
  cases l with
  |cons=>show(AH h).elim
  |nil=>cases r with
   |cons=>show(AH h).elim
   |nil=>show Snd.pl (by show cx3 (c:=Z.C "!kt") λhz=>by rw[hX.kt];cases e:Z.C "!kt" with|nil=>show absurd e hz|cons _ _=>rfl) rfl
 |.dgt a b,X,x,hX,h=>ai9 h λo ap p cp hl h1 h2 h3=>
  have ib:=g9 Z b X _ hX h3
  Snd.pl (by show cq8 hX.units (g9 Z a X _ hX h2).v ib.v (N9 h1) ib.st hl) rfl
 |.din ne a b,X,x,hX,h=>ai3 h λq p r ps h=>by
  have e:=beq_iff_eq.1 (an h).1;have ia:=g9 Z a X _ hX (an (an h).2).1;have ib:=g9 Z b X _ hX (an (an h).2).2;show Snd.cm (by show cz7 e hX.units ia.v ib.v ib.se) (by unfold wpT;show cv6 e hX.units ia.v ib.v ib.se)
 |.lrev a,X,x,hX,h=>br8 h λo ap cp hl h1 h2=>Snd.pl (by show cf4 (g9 Z a X _ hX h2).v (N9 h1) hl) rfl
 |.comp Nc fr k t it c e,X,x,hX,h=>dg4 h λel g scope pos h=>by
  apply l1_ (C:=λg=>Snd Z X (.comp Nc fr k t it c e) (.ListComp el g scope pos)) h λg h=>?_;let{tg,itx,ifs,n}:=g;let{h0,h}:=an h;cases(beq_iff_eq.1 h0:n=0);let{h1,h}:=an h;let{h2,h}:=an h;let{h3,h}:=an h;have Sc:=a72 h1;apply Snd.pl ?_ rfl
  by_cases hz:Z.X=AE
  case neg=>show ac9 hz λ_ _ _ ht=>ht.1
  show(PE.imp (cf2 hX.calm Sc (av4 Z it X tg itx hX h2)
   (λC fp pins s H=>ah5 (X:=X.comp scope Nc C fp pins s H) (ow:=AE) hX.calm Sc.nd nofun h3)
   (λC fp pins s H=>bs5 (X:=X.comp scope Nc C fp pins s H) (an h).2 λx h=>g9 Z c (X.comp scope Nc C fp pins s H) x (hX.comp hz (ae4 h1) Sc C fp pins s H) h)
   (λC fp pins s H=>(g9 Z e (X.comp scope Nc C fp pins s H) el (hX.comp hz (ae4 h1) Sc C fp pins s H) (an h).1).v) (au7 h2)) λσ H Q q=>a93 (R9 (λ_ _ _ ht=>ht.2) q))
theorem D4(Z:Sg):∀(es:Es)(X:Cx)(xs:List AT),XOk Z X->mEs es X.env.scope X.N xs=AD->SndA Z X es xs
 |.nil,X,xs,hX,h=>by
  cases xs with
  |nil=>show{by show bk7,λ_=>rfl}
  |cons=>show(AH h).elim
 |.cons e r,X,xs,hX,h=>by
  cases xs with
  |nil=>show(AH h).elim
  |cons x xs=>
   have i0:=g9 Z e X _ hX (an h).1;have ir:=D4 Z r X _ hX (an h).2;apply{by show P6 i0.v ir.a i0.st,λpos=>?_};rw[o7 i0.st];show ir.pl pos
theorem av4(Z:Sg):∀(it:It)(X:Cx)(tg x:AT),XOk Z X->mIt it X.env.scope X.N tg x=AD->PI X tg x (upI X.K (B6 Z it))
 |.seq e,X,tg,x,hX,h=>by show c19 (g9 Z e X x hX h).v
 |.rng a,X,tg,x,hX,h=>L9 (C:=λx=>PI X tg x (upI X.K (B6 Z (.rng a)))) h λq p ps h1 h2=>
  have ia:=g9 Z a X _ hX h2
  (by show ct3 (p9 h1) (hX.blt' _) ia.v ia.st)
 |.rng2 a b,X,tg,x,hX,h=>ac7 (C:=λx=>PI X tg x (upI X.K (B6 Z (.rng2 a b)))) h λq p r ps h1 h2=>
  have ia:=g9 Z a X _ hX (an h2).1;have ib:=g9 Z b X _ hX (an h2).2
  (by show cg0 (p9 h1) (hX.blt' _) ia.v ib.v ia.st ib.st)
 |.enum e,X,tg,x,hX,h=>xT_ (C:=λtg=>PI X tg x (upI X.K (B6 Z (.enum e)))) (an h).1 λl n tp _=>L9 (C:=λx=>PI X _ x (upI X.K (B6 Z (.enum e)))) (an h).2 λq p ps h1 h2=>
  have ia:=g9 Z e X _ hX h2
  (by show co0 (p9 h1) (hX.blt' _) ia.v ia.st)
 |.revt e,X,tg,x,hX,h=>L9 (C:=λx=>PI X tg x (upI X.K (B6 Z (.revt e)))) h λq p ps h1 h2=>
  have ia:=g9 Z e X _ hX h2
  (by show ci9 (p9 h1) (hX.blt' _) ia.v ia.st)
 |.rev e,X,tg,x,hX,h=>L9 (C:=λx=>PI X tg x (upI X.K (B6 Z (.rev e)))) h λq p ps h1 h2=>
  have ia:=g9 Z e X _ hX h2
  (by show cu6 (p9 h1) (hX.blt' _) ia.v ia.st)
end
end
section
variable [Tbs]
variable{x:BG}{C:BG->Prop}{sc scope:BE}{e:E}{N:List Str}{el:AT}{gs:List Ig}{p:Pos}{n:Nat}{env:Env}
abbrev da1(x:AT):Bool:=!(x.ctorIdx==25)
abbrev sA(x:BG)(k:List AT->AT->Pos->Bool):Bool:=if h:x.ctorIdx=5 then Fe x h k else AE
def sA_{k}(h:sA x k=AD)(H:∀l x p,k l x p=AD->C (.Assign l x p)):C x:=
 dE h λe=>Fe x e (λl x p _=>H l x p) e
abbrev sX(x:BG)(k:AT->Pos->Bool):Bool:=if h:x.ctorIdx=24 then Gc x h k else AE
def sX_{k}(h:sX x k=AD)(H:∀x p,k x p=AD->C (.Expr x p)):C x:=
 dE h λe=>Gc x e (λx p _=>H x p) e
abbrev sI(x:BG)(k:AT->List BG->List BG->Pos->Bool):Bool:=if h:x.ctorIdx=12 then HX x h k else AE
def sI_{k}(h:sI x k=AD)(H:∀x a b p,k x a b p=AD->C (.If x a b p)):C x:=
 dE h λe=>HX x e (λx a b p _=>H x a b p) e
abbrev sR(x:BG)(k:Option AT->Pos->Bool):Bool:=if h:x.ctorIdx=3 then Fg x h k else AE
def sR_{k}(h:sR x k=AD)(H:∀x p,k x p=AD->C (.Return x p)):C x:=
 dE h λe=>Fg x e (λx p _=>H x p) e
abbrev sF(x:BG)(k:AT->AT->List BG->List BG->Pos->Bool):Bool:=if h:x.ctorIdx=9 then Gw x h k else AE
def sF_{k}(h:sF x k=AD)(H:∀g x a b p,k g x a b p=AD->C (.For g x a b p)):C x:=
 dE h λe=>Gw x e (λg x a b p _=>H g x a b p) e
abbrev sW(x:BG)(k:AT->List BG->List BG->Pos->Bool):Bool:=if h:x.ctorIdx=11 then GC x h k else AE
def sW_{k}(h:sW x k=AD)(H:∀x a b p,k x a b p=AD->C (.While x a b p)):C x:=
 dE h λe=>GC x e (λx a b p _=>H x a b p) e
abbrev sC(x:BG)(k:Pos->Bool):Bool:=if h:x.ctorIdx=27 then Er x h k else AE
def sC_{k}(h:sC x k=AD)(H:∀p,k p=AD->C (.Continue p)):C x:=
 dE h λe=>Er x e (λp _=>H p) e
abbrev sP(x:BG)(k:Pos->Bool):Bool:=if h:x.ctorIdx=25 then Gd x h k else AE
def sP_{k}(h:sP x k=AD)(H:∀p,k p=AD->C (.Pass p)):C x:=
 dE h λe=>Gd x e (λp _=>H p) e
abbrev sD(x:BG)(k:Str->DM->List BG->List AT->Option AT->List TypeParam->BE->Option BE->Str->Pos->Bool):Bool:=if h:x.ctorIdx=0 then ED x h k else AE
def sD_{k}(h:sD x k=AD)(H:∀name c a dl f d scope ts b p,k name c a dl f d scope ts b p=AD->C (.FunctionDef name c a dl f d scope ts b p)):C x:=
 dE h λe=>ED x e (λname c a dl f d scope ts b p _=>H name c a dl f d scope ts b p) e
abbrev sTr(x:BG)(k:List BG->List Gj->List BG->List BG->Pos->Bool):Bool:=if h:x.ctorIdx=17 then Gx x h k else AE
def dj7{k}(h:sTr x k=AD)(H:∀a b c d p,k a b c d p=AD->C (.Try a b c d p)):C x:=
 dE h λe=>Gx x e (λa b c d p _=>H a b c d p) e
abbrev sRa(x:BG)(k:Option AT->Option AT->Pos->Bool):Bool:=if h:x.ctorIdx=16 then GD x h k else AE
def dj8{k}(h:sRa x k=AD)(H:∀a b p,k a b p=AD->C (.Raise a b p)):C x:=
 dE h λe=>GD x e (λa b p _=>H a b p) e
abbrev sA1(s:BG)(k:AT->AT->Bool):Bool:=sA s λl x _=>l1 l λt=>k t x
def U9{s}{k}{C:BG->Prop}(h:sA1 s k=AD)(H:∀t x p,k t x=AD->C (.Assign [t] x p)):=
 sA_ h λl x p h=>l1_ (C:=λl=>C (.Assign l x p)) h λt=>H t x p
abbrev aw8(l:List BG):Bool:=l1 l λs=>sR s λx _=>EC (motive:=λ_=>Bool) x AE λx=>xKc x (.bool AE)
def bq0{l}{C:List BG->Prop}(h:aw8 l=AD)(H:∀j p q,C [.Return (AA (.Constant (.bool AE) j p)) q]):=
 l1_ h λs h=>sR_ (C:=λs=>C [s]) h λx q h=>by
  cases x with
  |none=>simp_all
  |some x=>show U7 (C:=λx=>C [.Return (AA x) q]) h λj p=>H j p q
abbrev mHd(sc:BE)(hd:Gj):Bool:=match hd with
 |.ExceptHandler ty n b _=>EC (motive:=λ_=>Bool) ty AE λty=>n.isNone&&(O2 ty "NoKind"&&(glb sc "NoKind"&&aw8 b))
abbrev mTr(m:AT->Bool)(sc:BE)(s:BG):Bool:=sTr s λbd hs oe fb _=>(oe.isEmpty&&fb.isEmpty)&&(l1 hs (mHd sc)&&l1 bd λs=>sI s λx p q _=>m x&&(aw8 p&&q.isEmpty))
def bs0{m}{s}{C:BG->Prop}(h:mTr m sc s=AD)(H:∀x j1 j2 p o f p4 k j d c,m x=AD->glb sc "NoKind"=AD ->
  C (.Try [.If x [.Return (AA (.Constant (.bool AE) j1 p)) o] [] f] [.ExceptHandler (AA (.Name "NoKind" p4)) AF [.Return (AA (.Constant (.bool AE) j2 k)) j] d] [] [] c)):=
 dj7 h λbd hs oe fb c h=>by
  let{t,h}:=an h;let{v,u}:=an h;cases Ex.1 (an t).1;cases Ex.1 (an t).2;apply l1_ (C:=λhs=>C (.Try bd hs [] [] c)) v λhd h=>?_;let{ty,n,b,d}:=hd;cases ty with
  |none=>show(AH h).elim
  |some ty=>cases n with
   |some n=>show(AH h).elim
   |none=>
    let{y,g}:=an h;let{w,g}:=an g;apply U2 (C:=λty=>C (.Try bd [.ExceptHandler (AA ty) AF b d] [] [] c)) y λp4=>?_;apply bq0 (C:=λb=>C (.Try bd [.ExceptHandler (AA (.Name "NoKind" p4)) AF b d] [] [] c)) g λj2 k j=>?_;apply l1_ (C:=λbd=>C (.Try bd _ [] [] c)) u λs h=>sI_ (C:=λs=>C (.Try [s] _ [] [] c)) h λx a e f h=>?_;let{k1,h}:=an h;cases Ex.1 (an h).2;show bq0 (C:=λa=>C (.Try [.If x a [] f] _ [] [] c)) (an h).1 λj1 p o=>H x j1 j2 p o f p4 k j d c k1 w
def c47{X:Cx}{x}{tc}{q}{j1}{p1 p2 p3 pos}{h₀}(a:PT (X.wish λ_ _=>False) x (upB X.K tc)):
  PS X (.Try [.If x [.Return (AA (.Constant (.bool AE) j1 p1)) p2] [] p3] [h₀] [] [] pos) (upS X.K λF env st=>q/\tc env st λk st1=>if k=AD then F.rt (.bl AE) st1 else F.nx env st1):=λpins s σ H D I⟨env,st,Fd,hE,hS,ht,hq⟩=>
 LC (Be (aa7 (bq4 a (aa7 (bm9 (ad1 ah2 λ_=>.bl _))) bn2) pins s σ H D (I.wish _) ⟨env,st,Fd,hE,hS,ht.2,hq⟩) (λf s1 h=>by cases f<;>first|show EL h.unwish|show h.unwish) λe s1 h=>h.elim)
mutual
noncomputable def mS:S->BE->List Str->BG->Bool
 |.set i e,sc,N,s=>sA1 s λt x=>mE e sc N x&&xN t λy _=>(N[i]?==AA y)&&(O6 sc y&&!(N.contains (A7 y)))
 |.pre _,_,_,_=>AE
 |.iput o i v,sc,N,s=>sA1 s λt x=>(mE v sc N x&&O0 x)&&xS t λp q _=>mE o sc N p&&mE i sc N q
 |.dput o i v,sc,N,s=>sA1 s λt x=>(mE v sc N x&&O0 x)&&xS t λp q _=>mE o sc N p&&mE i sc N q
 |.put o i v,sc,N,s=>sA1 s λt x=>(mE v sc N x&&O0 x)&&xS t λp q _=>mE o sc N p&&mE i sc N q
 |.fldS o f v,sc,N,s=>sA1 s λt x=>(mE v sc N x&&O0 x)&&xA t λp g _=>(g==f)&&mE o sc N p
 |.unp is e,sc,N,s=>sA1 s λt x=>(mE e sc N x&&(O0 x&&da1 x))&&xT t λes k p=>mTg AD (.tup is) sc N (.Tuple es k p)
 |.ex e,sc,N,s=>sX s λx _=>mE e sc N x&&O0 x
 |.iff c a b,sc,N,s=>sI s λx p q _=>(mE c sc N x&&D7 x)&&(mSs a sc N p&&mSs b sc N q)
 |.ret e,sc,N,s=>sR s λx _=>EC (motive:=λ_=>Bool) x AE (mE e sc N)
 |.retN,_,_,s=>sR s λx _=>x.isNone
 |.for t it b,sc,N,s=>sF s λtg x p q _=>q.isEmpty&&(mTg AD t sc N tg&&(mIt it sc N tg x&&mSs b sc N p))
 |.while c b,sc,N,s=>sW s λx p q _=>q.isEmpty&&((mE c sc N x&&D7 x)&&mSs b sc N p)
 |.tr c,sc,N,s=>mTr (λx=>mE c sc N x&&D7 x) sc s
 |.raise,sc,_,s=>sRa s λx c _=>c.isNone&&(glb sc "NoKind"&&EC (motive:=λ_=>Bool) x AE λx=>xG "NoKind" sc x (·.isEmpty))
 |.cont,_,_,s=>sC s λ_=>AD
 |.dead,_,_,_=>AD
 |.dfn i np Nl cp b,sc,N,s=>sD s λname args body dl rt tp scope ts bind _=>(dl.isEmpty&&rt.isNone&&tp.isEmpty&&ts.isNone)&&(ae7 args).any λps=>(name==bind)&&((N[i]?==AA name)&&(O6 sc name&&(!(N.contains (A7 name))&&(N.contains t6&&(av3 sc N scope Nl ps np cp&&(!(Nl.contains t6)&&mSs b scope Nl body))))))
 |.pass,_,_,s=>sP s λ_=>AD
noncomputable def mSs:Ss->BE->List Str->List BG->Bool
 |.nil,_,_,l=>l.isEmpty
 |.cons s r,sc,N,l=>EA (motive:=λ_=>Bool) l AE λx xs=>mS s sc N x&&mSs r sc N xs
end
abbrev mFB(b:Ss)(sc:BE)(N:List Str)(fb:Dp):Prop:=N.contains t6=AE/\match fb with
 |.stmts l=>mSs b sc N l=AD
 |.expr x=>∃e,b=.cons (.ret e) .nil/\mE e sc N x=AD
@[reducible]noncomputable def HF(X:Cx):Prop:=∀y,Loc X.env.scope y->X.N.contains (A7 y)=AE->X.fn y=AD\/X.env.scope.names.lookup y=AA .local
def db6:mE e sc N (.SetComp el gs scope p)=AE:=by cases e<;>rfl
def c81{a b}:mE e sc N (.DictComp a b gs scope p)=AE:=by cases e<;>rfl
def df0(h:mE e sc N (.ListComp el gs scope p)=AD):∃d fr k t a c b,e=.comp d fr k t a c b:=by
 cases e<;>first|show⟨_,_,_,_,_,_,_,rfl⟩|show absurd h AH
def V5{x}{t}(h:O0 x=AD):Cj x t n env=pure AE:=by
 cases x<;>first|rfl|cases h
def bg0{x t}(h:O0 x=AD):FA [t] x n env=pure AE:=V5 h
def by8{py}{y}:∃b,Cj (.ListComp el gs scope p) (AA (.Name y py)) n env=pure b:=⟨_,rfl⟩
mutual
theorem bq9(Z:Sg)(hm:∀(b:Ss)(sc:BE)(N:List Str)(l:List BG),mSs b sc N l=AD->N.contains t6=AE->Tbs.mt b sc N (.stmts l)):∀(s:S)(X:Cx)(x:BG),XOk Z X->HF X->FrS X Z.X->mS s X.env.scope X.N x=AD->PS X x (upS X.K (wpS Z s))
 |.set i e,X,x,hX,hf,hR,h=>U9 (C:=λx=>PS X x (upS X.K (wpS Z (.set i e)))) h λtx v pos h=>xN_ (C:=λtx=>PS X (.Assign [tx] v pos) (upS X.K (wpS Z (.set i e)))) (an h).2 λy py h2=>by
  have h3:=(an h).1;have ie:=g9 Z e X v hX h3;have h1:=beq_iff_eq.1 (an h2).1;have hl:=W5 (an (an h2).2).1;have hf:=hf y hl (nt (an (an h2).2).2)
  by_cases hc:O0 v=AD
  ·show at9 hX.nd h1 hl ie.v (V5 hc) hf
  ·cases v with
   |ListComp el gs scope p=>
    let{b,hb}:=by8 (el:=el) (gs:=gs) (scope:=scope) (p:=p) (py:=py) (y:=y) (n:=pos.line) (env:=X.env);cases b with
    |false=>show at9 hX.nd h1 hl ie.v hb hf
    |true=>
     let{Nc,fr,k,t,it,c,e,rfl}:=df0 h3;revert hb;apply l1_ (C:=λgs=>Cj (.ListComp el gs scope p) (AA (.Name y py)) pos.line X.env=pure AD->PS X (.Assign [.Name y py] (.ListComp el gs scope p) pos) (upS X.K (wpS Z (.set i (.comp Nc fr k t it c e))))) h3 λg h hb=>?_;let{tg,itx,ifs,n}:=g;let{h0,h}:=an h;cases(beq_iff_eq.1 h0:n=0);let{g1,h}:=an h;let{g2,h}:=an h;let{g3,h}:=an h;have Sc:=a72 g1
     by_cases hz:Z.X=AE
     case neg=>show λ_ _ _ _ _ _⟨_,_,_,_,_,ht,_⟩=>absurd ht.1 hz
     show PS.imp (bx9 hX.calm hX.nd h1 hl hf Sc (av4 Z it X tg itx hX g2)
      (λC fp pins s H=>ah5 (X:=X.comp scope Nc C fp pins s H) (ow:=AE) hX.calm Sc.nd nofun g3)
      (λC fp pins s H=>bs5 (X:=X.comp scope Nc C fp pins s H) (an h).2 λx h=>g9 Z c (X.comp scope Nc C fp pins s H) x (hX.comp hz (ae4 g1) Sc C fp pins s H) h)
      (λC fp pins s H=>(g9 Z e (X.comp scope Nc C fp pins s H) el (hX.comp hz (ae4 g1) Sc C fp pins s H) (an h).1).v) hb (au7 g2)) λF σ H⟨env,st,Fd,hE,hS,ht',hq⟩=>
      a93 {env,st,(λd st'=>Fd.nx (env.set i (AA d)) st'),hE,hS,ht'.2,λv d H' st' ev is rs q=>hq.nx _ _ H' st' ev ((hE.mono (ev.tk hS)).set is i) rs q}
   |SetComp el gs scope p=>show(AH (db6.symm.trans h3)).elim
   |DictComp a b gs scope p=>show(AH (c81.symm.trans h3)).elim
   |_=>show absurd rfl hc
 |.pre i,X,x,hX,hf,hR,h=>(AH h).elim
 |.iput o i v,X,x,hX,hf,hR,h=>U9 (C:=λx=>PS X x (upS X.K (wpS Z (.iput o i v)))) h λtx y pos h=>xS_ (C:=λtx=>PS X (.Assign [tx] y pos) (upS X.K (wpS Z (.iput o i v)))) (an h).2 λp q ps h2=>
  (by show cl6 hX.units (g9 Z v X y hX (an (an h).1).1).v (g9 Z o X p hX (an h2).1).v (g9 Z i X q hX (an h2).2).v (V5 (an (an h).1).2))
 |.dput o i v,X,x,hX,hf,hR,h=>U9 (C:=λx=>PS X x (upS X.K (wpS Z (.dput o i v)))) h λtx y pos h=>xS_ (C:=λtx=>PS X (.Assign [tx] y pos) (upS X.K (wpS Z (.dput o i v)))) (an h).2 λp q ps h2=>
  (by show cg2 hX.units (g9 Z v X y hX (an (an h).1).1).v (g9 Z o X p hX (an h2).1).v (g9 Z i X q hX (an h2).2).v (V5 (an (an h).1).2))
 |.put o i v,X,x,hX,hf,hR,h=>U9 (C:=λx=>PS X x (upS X.K (wpS Z (.put o i v)))) h λtx y pos h=>xS_ (C:=λtx=>PS X (.Assign [tx] y pos) (upS X.K (wpS Z (.put o i v)))) (an h).2 λp q ps h2=>by
  have iq:=g9 Z i X q hX (an h2).2;apply c16 (g9 Z v X y hX (an (an h).1).1).v (g9 Z o X p hX (an h2).1).v iq.v (λw=>?_) (bg0 (an (an h).1).2) rfl;cases q<;>first|rfl|show absurd rfl (iq.sl _ _ _ _)
 |.fldS o f v,X,x,hX,hf,hR,h=>U9 (C:=λx=>PS X x (upS X.K (wpS Z (.fldS o f v)))) h λtx y pos h=>xA_ (C:=λtx=>PS X (.Assign [tx] y pos) (upS X.K (wpS Z (.fldS o f v)))) (an h).2 λp g ps h2=>by
  cases beq_iff_eq.1 (an h2).1;show cd0 (hX.cls _) (g9 Z v X y hX (an (an h).1).1).v (g9 Z o X p hX (an h2).2).v (V5 (an (an h).1).2)
 |.unp is e,X,x,hX,hf,hR,h=>U9 (C:=λx=>PS X x (upS X.K (wpS Z (.unp is e)))) h λtx y pos h=>xT_ (C:=λtx=>PS X (.Assign [tx] y pos) (upS X.K (wpS Z (.unp is e)))) (an h).2 λes k p h2=>by
  apply cy0 (g9 Z e X y hX (an (an h).1).1).v (ah5 hX.calm hX.nd (λ_=>hf) h2) (bg0 (an (an (an h).1).2).1) ?_ rfl;have h4:=(an (an (an h).1).2).2;cases y<;>first|rfl|show(AH h4).elim
 |.ex e,X,x,hX,hf,hR,h=>sX_ (C:=λx=>PS X x (upS X.K (wpS Z (.ex e)))) h λx p h=>(by show c64 (g9 Z e X _ hX (an h).1).v (V5 (an h).2))
 |.iff c a b,X,x,hX,hf,hR,h=>sI_ (C:=λx=>PS X x (upS X.K (wpS Z (.iff c a b)))) h λx p q ps h=>
  (by show bq4 ((g9 Z c X _ hX (an (an h).1).1).t (an (an h).1).2) (Q8 Z hm a X _ hX hf hR (an (an h).2).1) (Q8 Z hm b X _ hX hf hR (an (an h).2).2))
 |.ret e,X,x,hX,hf,hR,h=>sR_ (C:=λx=>PS X x (upS X.K (wpS Z (.ret e)))) h λx p h=>by
  cases x with
  |none=>show(AH h).elim
  |some x=>show bm9 (g9 Z e X _ hX h).v
 |.retN,X,x,hX,hf,hR,h=>sR_ (C:=λx=>PS X x (upS X.K (wpS Z .retN))) h λx p h=>by
  cases x with
  |some _=>show(AH h).elim
  |none=>show cm3
 |.for t it b,X,x,hX,hf,hR,h=>sF_ (C:=λx=>PS X x (upS X.K (wpS Z (.for t it b)))) h λtg x p q ps h=>by
  cases q with
  |cons=>show(AH h).elim
  |nil=>show ct0 hR.pass hX.calm (av4 Z it X _ _ hX (an (an (an h).2).2).1) (ah5 hX.calm hX.nd (λ_=>hf) (an (an h).2).1) (Q8 Z hm b X _ hX hf hR (an (an (an h).2).2).2) (au7 (an (an (an h).2).2).1)
 |.while c b,X,x,hX,hf,hR,h=>sW_ (C:=λx=>PS X x (upS X.K (wpS Z (.while c b)))) h λx p q ps h=>by
  cases q with
  |cons=>show(AH h).elim
  |nil=>show b85 hR.pass ((g9 Z c X _ hX (an (an (an h).2).1).1).t (an (an (an h).2).1).2) (Q8 Z hm b X _ hX hf hR (an (an h).2).2)
 |.tr c,X,x,hX,hf,hR,h=>bs0 (C:=λx=>PS X x (upS X.K (wpS Z (.tr c)))) h λx j1 j2 p1 p2 p3 p4 p5 p6 p7 pos h _=>by
  by_cases hz:Z.X=AE
  case neg=>show λ_ _ _ _ _ _⟨_,_,_,_,_,ht,_⟩=>absurd ht.1 hz
  show c47 ((g9 Z c (X.wish λ_ _=>False) x (hX.wish λ_ _ _ _ _ _ _ c=>absurd (hz▸c.1) AH) (an h).1).t (an h).2)
 |.raise,X,x,hX,hf,hR,h=>dj8 (C:=λx=>PS X x (upS X.K (wpS Z .raise))) h λa c p h=>by
  let{h1,k1}:=an h;let{h2,k2}:=an k1;clear h k1;cases c with
  |some=>show(AH h1).elim
  |none=>
   cases a with
   |none=>show(AH k2).elim
   |some a=>
    apply xG_ (C:=λa=>PS X (.Raise (AA a) AF p) (upS X.K (wpS Z .raise))) k2 λq l cp h1 h=>?_;cases l with
    |cons=>show(AH h).elim
    |nil=>show ca7 hR hX.tr hX.calm (p9 h1)
 |.cont,X,x,hX,hf,hR,h=>sC_ (C:=λx=>PS X x (upS X.K (wpS Z .cont))) h λ_ _=>(by show ci5)
 |.dfn i np Nl cp b,X,x,hX,hf,hR,h=>sD_ (C:=λx=>PS X x (upS X.K (wpS Z (.dfn i np Nl cp b)))) h λname args body dl rt tp scope ts bind p h=>by
  cases hp:ae7 args with
  |none=>rw[hp]at h;show(AH (an h).2).elim
  |some ps=>
   rw[hp]at h;let{z,j}:=an h;let{h0,j0}:=an (show(_&&_)=AD from j);let{h1,j1}:=an j0;let{h2,j2}:=an j1;let{h3,j3}:=an j2;let{h4,j4}:=an j3;let{h5,j5}:=an j4;clear h j j0 j1 j2 j3 j4;cases beq_iff_eq.1 h0;cases dl with
   |cons=>show(AH z).elim
   |nil=>cases rt with
    |some=>show(AH z).elim
    |none=>cases tp with
     |cons=>show(AH z).elim
     |nil=>cases ts with
      |some=>show(AH z).elim
      |none=>
       let{L,hc}:=hX.lam h4;let{a1,a2,a3,a4,a5}:=bx8 hp;show cv3 hX.nd (beq_iff_eq.1 h1) (W5 h2) (hf _ (W5 h2) (nt h3)) a1 a2 a4 L (cn5 h5 hc (hm b scope Nl body (an j5).2 (nt (an j5).1)) (λname qual cl doc pm cv ct us hl=>a5 name qual _ scope cl doc pm cv ct us hl))
 |.dead,X,x,hX,hf,hR,h=>λ_ _ _ _ _ _⟨_,_,_,_,_,ht,_⟩=>ht.elim
 |.pass,X,x,hX,hf,hR,h=>sP_ (C:=λx=>PS X x (upS X.K (wpS Z .pass))) h λ_ _=>(by show cd7)
theorem Q8(Z:Sg)(hm:∀(b:Ss)(sc:BE)(N:List Str)(l:List BG),mSs b sc N l=AD->N.contains t6=AE->Tbs.mt b sc N (.stmts l)):∀(l:Ss)(X:Cx)(xs:List BG),XOk Z X->HF X->FrS X Z.X->mSs l X.env.scope X.N xs=AD->PSs X xs (upS X.K (j7 Z l))
 |.nil,X,xs,hX,hf,hR,h=>by
  cases xs with
  |nil=>show bn2
  |cons=>show(AH h).elim
 |.cons s r,X,xs,hX,hf,hR,h=>by
  cases xs with
  |nil=>show(AH h).elim
  |cons x xs=>
   rw[j7];show cf3 (bq9 Z hm s X _ hX hf hR (an h).1) (Q8 Z hm r X _ hX hf hR (an h).2)
end
theorem br0(Z n:Sg)(S:∀(b:Ss)(P:BE)(N:List Str)(l:List BG),mSs b P N l=AD->N.contains t6=AE->Tbs.mt b P N (.stmts l))(X:Cx)(k:XOk Z X)(hz:Z.X=AE)(R:∀EE,y6 (CXz X AD) (X.wish EE) E0->XOk n (X.wish EE))(U:HF X)(L:FrS X Z.X):
  ∀(l:Ss)(m:List BG),mSs l X.env.scope X.N m=AD->∀(s:AK)(u:L2.St)(H:Hp)(D:Ends),Inv X [] u H s->ah7 X.K (R3 Z n l) D u H->AR (model X.prog X.w) X.A (execs m X.env) (SP X [] D) X.xe s
 |.nil,_,_,_,_,_,_,_,⟨_,_,_,_,_,h,_⟩=>h.elim
 |.cons c r,m,h,s,u,H,D,I,⟨env,st,O,M,J,i,E⟩=>by
  cases m with
  |nil=>show(AH h).elim
  |cons x m=>
   rcases i with i|i
   ·apply Dw (thn (bq9 Z S c X x k U L (an h).1 [] s u H {nx:=ah7 X.K (R3 Z n r) D,rt:=D.rt,bk:=λ_ _=>False,ct:=λ_ _=>False} I {env,st,_,M,J,i,λenv' o H' st' ev hE' hS' q=>⟨env',st',O,hE',hS',q,E⟩,λ_ _ _ _ _ _ _ q=>q.elim,λ_ _ _ _ _ _ _ q=>q.elim,λv d H' st' ev is rs q=>E v d H' rs.tb is q}) λf s1 q=>?_);cases f with
    |next=>let{o,H',I',q}:=q;show br0 Z n S X k hz R U L r m (an h).2 s1 o H' D I' q
    |ret v=>show q
    |brk=>let{_,_,_,q}:=q;show q.elim
    |cont=>let{_,_,_,q}:=q;show q.elim
   ·suffices nn:AR (model X.prog X.w) X.A (exec x X.env) (SP X [] {nx:=λ_ _=>False,rt:=D.rt,bk:=λ_ _=>False,ct:=λ_ _=>False}) X.xe s from Dw (thn nn λf s1 q=>by
     cases f with
     |ret v=>show q
     |_=>let{_,_,_,q}:=q;show q.elim)
    cases c with
    |tr c=>show bs0 (C:=λx=>AR (model X.prog X.w) X.A (exec x X.env) (SP X [] _) X.xe s) (an h).1 λx j1 j2 p1 p2 p3 p4 p5 p6 p7 pos h g=>c97 (tc:=wpT n c) L k.tr (p9 g) (λEE hp=>(g9 n c (X.wish EE) x (R EE hp) (an h).1).t (an h).2) I ⟨env,st,O,M,J,i,E⟩
    |ret e=>
     apply sR_ (C:=λx=>AR (model X.prog X.w) X.A (exec x X.env) (SP X [] _) X.xe s) (an h).1 λx p h=>?_;cases x with
     |none=>show(AH h).elim
     |some x=>cases e with
      |call f es=>
       apply xG_ (C:=λx=>AR (model X.prog X.w) X.A (exec (.Return (AA x) p) X.env) (SP X [] _) X.xe s) h λq l ps h1 h=>?_;cases l with
       |nil=>show(AH (an (an (an h).2).2).1).elim
       |cons y ys=>cases es with
        |nil=>show(AH (an (an (an h).2).2).2).elim
        |cons e0 er=>
         have G:=g9 Z e0 X _ k (an (an (an (an h).2).2).2).1;have Q:=D4 Z er X _ k (an (an (an (an h).2).2).2).2;show c04 (sp:=Z.T f) (k.tf f (nt (an (an h).2).1) i.1) (hz▸k.psx) (p9 h1) (P6 G.v Q.a G.st) (D8 (an h).1).1 G.st (Q.pl _) [] s u H _ I ⟨env,st,O,M,J,i.2,E⟩
      |_=>show i.elim
    |_=>show i.elim
end
section
variable [Tbs]
variable{mg:Str->Option AG}{h base:BA}{f c m:Str}{st:BG}{ps N:List Str}{fa a:AI}{od:Option AI}{sl:Array (Option AG)}{dc pm cd ct:AG}{n:Nat}{fd:BS}{H:Hp}{X:Cx}{s:AK}{bX:Bool}
abbrev mP(i:Nat)(sc:BE)(N:List Str)(s:BG):Bool:=sA1 s λt x=>(xD x λl r _=>l.isEmpty&&r.isEmpty)&&xN t λy _=>(N[i]?==AA y)&&O6 sc y
abbrev mB:Ss->BE->List Str->List BG->Bool
 |.cons (.pre i) r,sc,N,s::l=>mP i sc N s&&mB r sc N l
 |b,sc,N,l=>mSs b sc N l
structure Stat0(st:BG)(d:Def)(ps:List Str):Prop where
 sc:FnScope d.N ps (n8 st)
 np:ps.length=d.np
 body:mB d.body (n8 st) d.N (u5 st)=AD
structure Stat(st:BG)(d:Def)(ps:List Str)(x f:Str):Prop extends Stat0 st d ps where
 bind:∀(kV doc pm:AG)(an:Option AI)(cdv ct:AG)(us:List AG),us.length=ps.length->Ef (Cw x f (z7 st) (u5 st) (n8 st) .none kV doc pm an cdv ct) {us,[]}=pure (ps.zip us)
structure FunD(K:AO)(x qual:Str)(st:BG)(f:AI)(fd:BS):Prop where
 ex:∃(oc:AG)(od:Option AI)(dV kV doc pm:AG)(an:Option AI)(cdv ct:AG)(osl:Array (Option AG)),
  fd=Cw x qual (z7 st) (u5 st) (n8 st) dV kV doc pm an cdv ct/\K.lookup f=AA {oc,od,.func fd,osl}/\DD K cdv qual=AD
 kp:Bm K (.ref f)=AD
structure DefAt(K:AO)(f:Str)(d:Def)(a:AI)(fd:BS)(ps:List Str):Prop where
 ex:∃(st:BG)(x:Str),FunD K x f st a fd/\Stat0 st d ps
 bd:r6 K fd ps []
 lam:d.N.contains t6=AD->∃c P,fd.code=.ref c/\CW K c P=AD/\P∈Tbs.ps
structure DefOk(K:AO)(mg:Str->Option AG)(df:Option Int)(f:Str)(d:Def):Prop where
 ex:∃(a:AI)(fd:BS)(ps:List Str),DefAt K f d a fd ps/\mg f=AA (.ref a)/\Av K AN f=AA (AA (.ref a))/\(df=AA 0->r6 K fd ps [.none])
structure MthOk(K:AO)(mg:Str->Option AG)(df:Option Int)(c m:Str)(d:Def):Prop where
 ex:∃(Ca a:AI)(fd:BS)(ps:List Str),DefAt K (f6 c m) d a fd ps/\Av K AN c=AA (AA (.ref Ca))/\mg c=AA (.ref Ca)/\Cls K Ca/\Meth K Ca m a/\(m="__init__"->Mk K Ca a)/\∀i,df=AA i->∃tk,r6 K fd ps [.int i tk]
 nom:Av K AN (f6 c m)=AA AF
theorem N6:∀{a b d c:List Nat},(46:Nat)∉d->(46:Nat)∉c->a++46::b=d++46::c->a=d/\b=c
 |[],b,[],c,_,_,h=>{rfl,by simpa using h}
 |[],b,x::d,c,i,_,h=>by
  erw[Dd,CT,An]at h;show absurd (h.1▸CB) i
 |x::a,b,[],c,_,g,h=>by
  erw[Dd,CT,An]at h;show absurd (h.2▸BI _ CB) g
 |x::a,b,y::d,c,i,g,h=>by
  erw[CT,An]at h;let{e,f}:=N6 (λz=>i (Ar _ z)) g h.2;show{by rw[h.1,e],f}
def c12{K:AO}{e:Option Int}{d:Def}{g:Option AI}{j b:AG}(X:K.In h)(G:h.Ns AN mg)(S:Stat st d ps f f)
  (i:Av K AN f=AA (AA (.ref fa))) (k:K.lookup fa=AA {j,od,.func (Cw f f (z7 st) (u5 st) (n8 st) .none b dc pm g cd ct),sl}) (l:DD K cd f=AD) (k1:Bm K (.ref fa)=AD)
  (m1:d.N.contains t6=AD->∃c P,cd=.ref c/\CW K c P=AD/\P∈Tbs.ps:=by show λh=>absurd h (by decide+kernel)) (a:e=AF:=by decide+kernel):DefOk K mg e f d:=
 {fa,_,ps,{{st,f,{⟨_,_,_,_,_,_,_,_,_,_,rfl,k,l⟩,k1},S.toStat0},.all (S.bind b dc pm g cd ct),m1},Fw X G i,i,λh=>by rw[a]at h;cases h}
def cq5{K:AO}{d:Def}{a:AI}{i:Option AI}{k e:AG}{g:Option Int}(X:K.In h)(G:h.Ns AN mg)(S:Stat st d ps m (f6 c m))
  (p:Av K AN (f6 c m)=AA AF) (j:Av K AN c=AA (AA (.ref a))) (n:Cls K a) (f:Meth K a m fa) (hi:m="__init__"->Mk K a fa)
  (l:K.lookup fa=AA {k,od,.func (Cw m (f6 c m) (z7 st) (u5 st) (n8 st) .none e dc pm i cd ct),sl}) (o:DD K cd (f6 c m)=AD)
  (m1:d.N.contains t6=AD->∃c P,cd=.ref c/\CW K c P=AD/\P∈Tbs.ps:=by show λh=>absurd h (by decide+kernel)) (b:g=AF:=by decide+kernel):MthOk K mg g c m d:=
 {{a,fa,_,ps,{{st,m,{⟨_,_,_,_,_,_,_,_,_,_,rfl,l,o⟩,f.kp},S.toStat0},.all (S.bind e dc pm i cd ct),m1},j,Fw X G j,n,f,hi,λi h=>by rw[b]at h;cases h},p}
def cl4{K:AO}{d:Def}{a T:AI}{g r:Option AI}{b:Array (Option AG)}{t e tc:AG}{p:Option Int}{i:Int}{tk:Tok}(X:K.In h)(G:h.Ns AN mg)(S:Stat0 st d ps)
  (l:∀(s:AK)(o:Obj)(n:Nat),s.heap.get? T=AA o->o.data=.seq #[.int i tk] n->(∀us:List AG,us.length=ps.length->FW s (Cw m (f6 c m) (z7 st) (u5 st) (n8 st) (.ref T) e dc pm g cd ct) {us,[]} (ps.zip us))/\∀us:List AG,us.length+1=ps.length->FW s (Cw m (f6 c m) (z7 st) (u5 st) (n8 st) (.ref T) e dc pm g cd ct) {us,[]} (ps.zip (us++[.int i tk])))
  (x:Av K AN (f6 c m)=AA AF) (q:Av K AN c=AA (AA (.ref a))) (v:Cls K a) (k:Meth K a m fa) (hi:m="__init__"->Mk K a fa)
  (u:K.lookup fa=AA {t,od,.func (Cw m (f6 c m) (z7 st) (u5 st) (n8 st) (.ref T) e dc pm g cd ct),sl}) (w:DD K cd (f6 c m)=AD) (j:K.lookup T=AA {tc,r,.seq #[.int i tk] n,b})
  (m1:d.N.contains t6=AD->∃c P,cd=.ref c/\CW K c P=AD/\P∈Tbs.ps:=by show λh=>absurd h (by decide+kernel)) (f:p=AA i:=by decide+kernel):MthOk K mg p c m d:=
 {{a,fa,_,ps,{{st,m,{⟨_,_,_,_,_,_,_,_,_,_,rfl,u,w⟩,k.kp},S},λs us hK hl=>by
   rw[BL]at hl ⊢;show(l s _ _ (hK _ _ j) rfl).1 us hl,m1},q,Fw X G q,v,k,hi,λj h=>by
   rw[f]at h;cases h;show{tk,λs us hK hl=>(l s _ _ (hK _ _ j) rfl).2 us (by simpa using hl)}},x}
def DefAt.binds{K}{d}(D:DefAt K f d a fd ps):=D.bd
theorem DefAt.kp{K}{d}(D:DefAt K f d a fd ps):Bm K (.ref a)=AD:=by
 let{st,x,F,S}:=D.ex;show F.kp
structure AllOk(Pr:Ag)(w:Aw)(K:AO)(mg:Str->Option AG)(P:f9)(G:Gs):Prop where
 fns:∀f d,P f=AA d->isM f=AE->DefOk K mg (A0 G.cls f) f d
 mts:∀f d,P f=AA d->isM f=AD->∃c m,f=f6 c m/\isM c=AE/\isM m=AE/\MthOk K mg (A0 G.cls (f6 c m)) c m d
 cls:∀f c Ca,Av K AN c=AA (AA (.ref Ca))->f∈G.cls c->Cls K Ca/\L0 K Ca f
 blt:∀b∈V6,mg b=AF
 tabs:∀g,G.tab g≠[]->GTab Pr w K mg g (G.tab g)
 cst:∀g d,G.cst g=AA d->∃u,mg g=AA u/\N7 K d u=AD
 isc:∀c∈G.cls "!is",∃Ca,mg c=AA (.ref Ca)/\IscOk K c Ca
 kt:Tbs.kt=(G.cls "!kt").isEmpty
 tr:G.cls "!ix"≠[]->∃C,Av K AN "NoKind"=AA (AA (.ref C))/\mg "NoKind"=AA (.ref C)/\Hj K C vB "ValueError.__new__"=AD/\JK K (.ref C) (.ref C)=AA AD
def b59:isM (f6 c m)=AD:=by
 unfold isM f6;simp
def b80{c' m'}(b:isM c'=AE)(a:isM m'=AE)(h:f6 c m=f6 c' m'):c=c'/\m=m':=by
 unfold isM at b a;unfold f6 at h;have h':=congrArg (λs=>s.cps.toList) h;erw[Fb,Cq]at h';have e:=N6 (by simp_all) (by simp_all) h';show{by cases c;cases c';simpa using e.1,by cases m;cases m';simpa using e.2}
def AllOk.mth{g:Ag}{w:Aw}{K:AO}{P:f9}{G:Gs}(h:AllOk g w K mg P G){d:Def}(e:P (f6 c m)=AA d):MthOk K mg (A0 G.cls (f6 c m)) c m d:=by
 let{j,i,f,b,a,M}:=h.mts _ d e b59;let{rfl,rfl}:=b80 b a f;show M
def a80{K}{d}{ds}{vs}(r:IsDs K H ds vs):RelE K H (G3 d ds) (L2.B2 d.N vs):=a06 r
def ba9{pins}{b:L2.St}(I:L2.Inv X pins b H s)(a:∀x,X.fn x=AD)(g k)e:L2.Inv {X with fn:=g,ow:=k,xe:=e} pins b H s:=
 {{I.ok.mod,I.ok.kind,I.ok.glob,I.ok.blt,I.ok.above,I.ok.inj,I.ok.has,λx c _=>I.ok.cab x c (.inl (a x)),I.ok.hd,I.ok.frames,I.ok.stk,I.ok.exf,I.ok.bs,I.ok.bsz,I.ok.noex,I.ok.exfs,I.ok.funs,I.ok.frf},I.os,I.bare,I.base,I.loc,I.cell,I.free,
  λx c h=>.inl ((I.freeC x c h).resolve_right λz=>by simp_all),I.pin,I.hok,I.len}
abbrev Cxa(X:Cx):Cx:={X with fn:=λ_=>AD}
def W3{pins}{a:L2.St}(I:L2.Inv (Cxa X) pins a H s):L2.Inv X pins a H s:=ba9 I (λ_=>rfl) X.fn X.ow X.xe
abbrev M0(X:Cx)(l:List BG)(t:TS):Prop:=∀(s:AK)(σ:L2.St)(H:Hp)(D:Ends),Inv (Cxa X) [] σ H s->t D σ H->AR (model X.prog X.w) X.A (execs l X.env) (SP X [] D) X.xe s
def M0.cons{x}{j8}{t u}(r:PS (Cxa X) x (upS X.K t))(p:M0 X j8 (upS X.K u)):M0 X (x::j8) (upS X.K λF env st=>t {F with nx:=u F} env st):=by
 intro s j H D I h;let{env,st,g,o,n,m,e}:=h;apply Dw (thn (r [] s j H {D with nx:=λσ' H'=>∃env' c,RelE X.K H' env' σ'/\RelS X.K c H'/\u g env' c/\EndsR X.K c H' g D} I {env,st,_,o,n,m,λenv' σ' H' c ev hE' hS' q=>{env',c,hE',hS',q,e.after ev},e.bk,e.ct,e.rt}) λf s1 q=>?_);cases f with
 |next=>
  let{σ',H',d,env',c,A,z,y,w}:=q;show p s1 σ' H' D d ⟨env',c,g,A,z,y,w⟩
 |ret v=>let{k,σ',H',d,q}:=q;show{k,σ',H',W3 d,q}
 |brk=>let{σ',H',d,q}:=q;show{σ',H',W3 d,q}
 |cont=>let{σ',H',d,q}:=q;show{σ',H',W3 d,q}
theorem bs6 Z(e:∀b(j)N(l),mSs b j N l=AD->N.contains t6=AE->Tbs.mt b j N (.stmts l)){X}(d:XOk Z X)(g:HF X)(f:FrS X Z.X):∀(l)a,mB l X.env.scope X.N a=AD->M0 X a (upS X.K (j7 Z l))
 |.nil,a,h=>λs σ H D I=>Q8 Z e .nil X a d g f h [] s σ H D (W3 I)
 |.cons x r,a,h=>by
  have c:mSs (.cons x r) X.env.scope X.N a=AD->M0 X a (upS X.K (j7 Z (.cons x r))):=λh s σ H D I=>Q8 Z e (.cons x r) X a d g f h [] s σ H D (W3 I);cases x with
  |pre i=>
   cases a with
   |nil=>show c h
   |cons s l=>
    have h':=an ((h));apply U9 (C:=λs=>M0 X (s::l) (upS X.K (j7 Z (.cons (.pre i) r)))) h'.1 λt x p h1=>xN_ (C:=λt=>M0 X (.Assign [t] x p::l) (upS X.K (j7 Z (.cons (.pre i) r)))) (an h1).2 λy py h2=>?_;apply xD_ (C:=λx=>M0 X (.Assign [.Name y py] x p::l) (upS X.K (j7 Z (.cons (.pre i) r)))) (an h1).1 λl1 l2 p2 h3=>?_;have u:=Ex.1 (an h3).1;have o:=Ex.1 (an h3).2;subst u o;show M0.cons (t:=λF env st=>∀p,st p=AF->F.nx (env.set i (AA (.ref p))) (b0 st p (.dct []))) (PS.imp (at9 d.nd (beq_iff_eq.1 (an h2).1) (W5 (an h2).2) cw2 rfl (.inl rfl)) λF σ H q=>q) (bs6 Z e d g f r l h'.2)
  |_=>show c h
abbrev cxF(bX:Bool)(P:Ag)(w:Aw)(K:AO)(mg:Str->Option AG)(base:BA)(N:List Str)(qual:Str)(scope:BE)(f:AI)(cd:AG)(A:BR)(outer:List Env)(s:AK)(H:Hp):Cx:=
 {aj0 (CXk P w K bX) P w K mg base N qual scope f cd A outer s H E0 with fn:=λy=>!(N.contains (A7 y)),ow:=λ_=>AD}
def ag3{P:Ag}{w:Aw}{K:AO}{a:Str}{scope:BE}{f:AI}{A:BR}{outer:List Env}:FrX (cxF bX P w K mg base N a scope f cd A outer s H) "NoKind" A9 bX:=⟨rfl,rfl,rfl,rfl⟩
def au2{b}(F:FrX X "NoKind" A9 b):FrS X b:={F.stk,F.fr,F.pass,λe=>e▸F}
def bk6{P}{w}{K}{k}{f}{x qual}{sp:Sp}(F:FunD K x qual st f fd)(S:FnScope N ps (n8 st))
  (h:∀vs H Q E,sp vs H Q E->vs.length=ps.length)
  (d:∀(A:BR)(outer:List Env)(s)H(vs:List V)(Q)E,Room k (A.deeper (HR qual (n8 st) s.heap.objs.size f fd.code))->sp vs H Q E ->
   ∃t,M0 (cxF bX P w K mg base N qual (n8 st) f fd.code A outer s H) (u5 st) t/\t {nx:=λ_ H'=>Q .non H',rt:=Q} (L2.B2 N vs) H) :
  FnOk P w K mg base (CXk P w K bX) (k+1) f fd ps sp:=by
 let{Y,X,dV,Z,O,U,an,g,ct,B,rfl,C,l}:=F.ex;apply{h,λA outer s H args us vs Q E hr e0 hb r hsp=>?_};have M:=h _ _ _ _ hsp;have p:=e0.mod.kin.keeps λb o e=>(e0.bs b o e).1;have j:=e0.mod.nolimit.keeps λb o e=>(e0.bs b o e).1;have c:∀y∈ps.zip us,(n8 st).names.lookup y.1=AA .local\/(n8 st).names.lookup y.1=AA .cell/\((Ks (s.heap.objs.size+1) (n8 st).names []).lookup y.1).isSome=AD:=λ⟨n,v⟩D=>by
  rcases S.par n (FX D).1 with q|q
  ·show .inl q
  ·show .inr {q,KF _ _ _ (.inl q)}
 apply codeAny_call_function hr.depth (p _ _ C) rfl S.co S.gen rfl (W.codeRec_of p l) (hb _ _ _ _ ?_);apply wpAny_newFunctionEnv_cells S.kind c λenv he s1 x=>?_;subst he;apply{j.keeps x.toInCall.keep,codeAny_func ?_};let{t,G,L}:=d A outer s H vs Q E (hr.deeper _) hsp;have T:Inv (aj0 (CXk P w K bX) P w K mg base N qual (n8 st) f g A outer s H E0) [] (L2.B2 N vs) H s1:=bz7 S hr.hd e0 M r x;have I:Inv (Cxa (cxF bX P w K mg base N qual (n8 st) f g A outer s H)) [] (L2.B2 N vs) H s1:=ba9 T (λ_=>rfl) _ _ _;apply Be (G s1 (L2.B2 N vs) H _ I L) (λfl s' hs=>?_) λe s' hs=>hs;have fin:∀{a}{H'}{v}{u},Inv (cxF bX P w K mg base N qual (n8 st) f g A outer s H) [] a H' s'->i7 v u->Q v H'->CE outer P w H s Q u s':=
  λ{a H' v u}J i q=>⟨v,H',J.os,J.bare,J.base,J.hok,i,q⟩
 cases fl with
 |ret u=>
  let{v,a,H',J,i,q}:=hs;show fin J i q
 |next=>
  let{a,H',J,q}:=hs;show fin (v:=V.non) J rfl q
 |brk=>
  let{_,_,_,q}:=hs;show AU q
 |cont=>
  let{_,_,_,q}:=hs;show AU q
section
variable {Pr:Ag} {w:Aw} {K:AO} {P:f9} {G:Gs}
def cz6{K}{sp:Spec}{vs:List V}{Q}{E}(h:upW K (λds st Q=>sp ds st λd _=>Q d S0) vs H Q E):u0 K sp vs H Q E:=by
 let{ds,st,f,c,b,h,e}:=h;show{ds,st,_,c,b,h,λv d H' st' ev i r=>e v d H' r.tb i}
structure LvOk(Pr:Ag)(w:Aw)(K:AO)(mg:Str->Option AG)(base:BA)(P:f9)(G:Gs)(n:Nat):Prop where
 fn:∀bX m,m<=n->∀(f:Str)(d:Def),P f=AA d->∀(a:AI)(fd:BS)(ps:List Str),DefAt K f d a fd ps->FnOk Pr w K mg base (CXk Pr w K bX) m a fd ps (u0 K (J4 bX P G m f))
 clo:∀bX np N b cs fa fd ps,CloF fd np N ps b->FnOk Pr w K mg base (CXk Pr w K bX) n fa fd ps (X7 K fa fd np N cs (ab7 bX P G n np N b cs))
 wk:∀(f:Str)(d:Def),P f=AA d->∀(a:AI)(fd:BS)(ps:List Str),DefAt K f d a fd ps->FnOk Pr w K mg base (CXk Pr w K AE) n a fd ps (upW K (D2 P G n f))
def LvOk.ph(L:LvOk Pr w K mg base P G n)bX{d}(b:P f=AA d)(D:DefAt K f d a fd ps):FnOk Pr w K mg base (CXk Pr w K bX) n a fd ps (u0 K (pF bX P G n f)):=by
 cases bX with
 |false=>show L.fn AE n (AS _) f d b a fd ps D
 |true=>show L2.FnOk.imp (Ek.FnOk.or (L.fn AD n (AS _) f d b a fd ps D) (Ek.FnOk.calm (L.fn AE n (AS _) f d b a fd ps D))) λvs H Q E=>ch9
def LvOk.phC(L:LvOk Pr w K mg base P G n)bX{np}{b}{cs}(a:CloF fd np N ps b):FnOk Pr w K mg base (CXk Pr w K bX) n fa fd ps (X7 K fa fd np N cs (pC bX P G n np N b cs)):=by
 cases bX with
 |false=>show L.clo AE np N b cs fa fd ps a
 |true=>show L2.FnOk.imp (Ek.FnOk.or (L.clo AD np N b cs fa fd ps a) (Ek.FnOk.calm (L.clo AE np N b cs fa fd ps a))) λvs H Q E⟨us,ds,st,Qd,h1,h2,h3,h4,h5,h6⟩=>h5.elim (λq=>.inl ⟨us,ds,st,Qd,h1,h2,h3,h4,q,h6⟩) λq=>.inr ⟨us,ds,st,Qd,h1,h2,h3,h4,q,h6⟩
def ah0(k:AllOk Pr w K mg P G)(L:LvOk Pr w K mg base P G n)(u:X.prog=Pr)(t:X.w=w)(d:X.K=K)(j:X.mg=mg)(C:X.base=base)(s:Room n X.A)(calm:X.calm=AD)(psx:y6 (CXz X bX) X E0)(nd:X.N.Nodup)
  (lam:X.N.contains t6=AD->LamOk X/\∀x,X.N.contains (A7 x)=AD->X.fn x=AE/\X.ow x=AD)
  (mt:∀b J N fb,mFB b J N fb->Tbs.mt b J N fb):XOk (Zl bX P G n) X where
 calm:=calm
 psx:=psx
 tf:=λg hi hg=>by
  let{p,a}:=BH.mp hg;let{o,f,l,h,r,y,_}:=(k.fns g p a hi).ex;apply{n,o,f,l,?_,s,by rw[j];show r,by rw[d];show h.kp,by rw[d];show h.binds};rw[CXz,u,t,d,j,C];show L.wk g p a o f l h
 tr:=λz=>⟨by rw[d,j];show k.tr z⟩
 units:=by have:=s.un;lia
 nd:=nd
 blt:=by rw[j];show k.blt
 fns:=λg hi hg=>by
  let{p,a}:=BH.mp hg;let{o,f,l,h,r,y,_}:=(k.fns g p a hi).ex;apply{n,o,f,l,?_,s,by rw[j];show r,by rw[d];show h.kp,by rw[d];show h.binds,by rw[d];show y};rw[CXz,u,t,d,j,C];show L.ph bX a h
 fnd:=λg hi hg hd=>by
  let{p,a}:=BH.mp hg;let{o,f,l,h,r,y,O}:=(k.fns g p a hi).ex;apply{n,o,f,l,?_,s,by rw[j];show r,by rw[d];show h.kp,by rw[d];show O hd};rw[CXz,u,t,d,j,C];show L.ph bX a h
 nom:=λg ga hg hn=>by
  let{p,a}:=BH.mp hg;cases e:isM g with
  |false=>rfl
  |true=>
   let{c,m,rfl,_,_,M}:=k.mts g p a e;rw[d,M.nom]at hn;cases hn
 cls:=by rw[d];show k.cls
 mth:=λm c Ca hc hg=>by
  let{p,a}:=BH.mp hg;let{D,o,f,l,h,q,B,I,H,Q,_}:=(k.mth a).ex;rw[d,q]at hc;cases hc;apply{n,o,f,l,by rw[d];show I,by rw[d];show H,?_,s,by rw[d];show h.binds};rw[CXz,u,t,d,j,C];show L.ph bX a h
 mthd:=λm c Ca i hc hg hi=>by
  let{p,a}:=BH.mp hg;let{D,o,f,l,h,q,B,I,H,Q,D1}:=(k.mth a).ex;rw[d,q]at hc;cases hc;let{tk,O}:=D1 i hi;apply{n,o,f,l,tk,by rw[d];show I,by rw[d];show H,?_,s,by rw[d];show O};rw[CXz,u,t,d,j,C];show L.ph bX a h
 mks:=λc hg=>by
  erw[BJ]at hg;let{p,a}:=BH.mp hg.2;let{D,o,f,l,h,q,B,I,H,Q,_}:=(k.mth a).ex;cases n with
  |zero=>show absurd hg.1 AH
  |succ m=>
   apply{D,m,o,f,l,by rw[d];show q,by rw[d];show Q rfl,?_,s,by rw[j];show B,by rw[d];show h.binds};rw[CXz,u,t,d,j,C];show Ek.FnOk.calm (L.fn AE m (Iz _) _ p a o f l h)
 tabs:=by rw[u,t,d,j];show k.tabs
 cst:=by rw[d,j];show k.cst
 isc:=by rw[d,j];show k.isc
 kt:=k.kt
 lam:=lam
 mtE:=λe J N x h1 h2=>mt _ _ _ _ ⟨h2,e,rfl,h1⟩
 clo:=λnp N b cs fa fd ps cf=>{n,by rw[CXz,u,t,d,j,C];show L.phC bX cf,s}
def a79{b:List D}{st}{Q}(h:J4 bX P G (n+1) f b st Q):∃fd,P f=AA fd/\b.length=fd.np/\j7 (Zl bX P G n) fd.body {nx:=λ_ st'=>∃a,Sub a st'/\Q .non a,rt:=λd st'=>∃a,Sub a st'/\Q d a} (G3 fd b) st:=by cases bX<;>show h
def bx5{np}{b}{c:List D}:ab7 bX P G (n+1) np N b c=λds st Q=>ds.length=np/\j7 (Zl bX P G n) b {nx:=λ_ st'=>∃a,Sub a st'/\Q .non a,rt:=λd st'=>∃a,Sub a st'/\Q d a} (G4 N ds c) st:=by cases bX<;>rfl
def ce9:LvOk Pr w K mg base P G 0:=by
 apply{λbX m hm f d hf a fd ps D=>?_,λbX np N b cs fa fd ps cf=>?_,λf d hf a fd ps D=>?_}
 ·obtain rfl:m=0:=by lia
  have c:∀vs H Q E,¬u0 K (J4 bX P G 0 f) vs H Q E:=λvs H Q E h=>by
   let{g,s0,i,_,_,h,_}:=h;cases bX<;>show h
  show{λvs H Q E h=>absurd h (c vs H Q E),λA outer s H args us vs Q E _ _ _ _ h=>absurd h (c vs H Q E)}
 ·have c:∀vs H Q E,¬X7 K fa fd np N cs (ab7 bX P G 0 np N b cs) vs H Q E:=λvs H Q E h=>by
   let{e,g,st,i,_,_,_,_,h,_}:=h;cases bX<;>show h
  show{λvs H Q E h=>absurd h (c vs H Q E),λA outer s H args us vs Q E _ _ _ _ h=>absurd h (c vs H Q E)}
 ·have c:∀vs H Q E,¬upW K (D2 P G 0 f) vs H Q E:=λvs H Q E⟨_,_,_,_,_,h,_⟩=>h;show{λvs H Q E h=>absurd h (c vs H Q E),λA outer s H args us vs Q E _ _ _ _ h=>absurd h (c vs H Q E)}
def ck5(hA:AllOk Pr w K mg P G)(W:X3 mg base)(hK0:K.In base)(O:∀b i N o,mFB b i N o↔Tbs.mt b i N o)(L:LvOk Pr w K mg base P G n):LvOk Pr w K mg base P G (n+1):=by
 have J:∀(b:Ss)(i:BE)(N:List Str)(l:List BG),mSs b i N l=AD->N.contains t6=AE->Tbs.mt b i N (.stmts l):=λb i N l h1 h2=>(O _ _ _ _).mp ⟨h2,h1⟩;have u:∀{bX:Bool}{f:Str}{d:Def}{a:AI}{fd:BS}{j:List Str}{st:BG}{A:BR}{outer:List Env}{s:AK}{H:Hp},DefAt K f d a fd j->d.N.contains t6=AD->LamOk (cxF bX Pr w K mg base d.N f (n8 st) a fd.code A outer s H)/\∀x,d.N.contains (A7 x)=AD->(!(d.N.contains (A7 x)))=AE/\AD=AD:=λD hl=>by
  let{c,P',e1,e2,e3}:=D.lam hl;show{{{c,P',e1,LS hK0 e2,e3},W},λx hx=>{by rw[hx];rfl,rfl}}
 have X:∀{bX:Bool}{f:Str}{d:Def}{a:AI}{fd:BS}{st:BG}{A:BR}{outer:List Env}{s:AK}{H:Hp},HF (cxF bX Pr w K mg base d.N f (n8 st) a fd.code A outer s H):=λ{bX f d a fd st A outer s H}y _ hy=>.inl (by
  change(!(d.N.contains (A7 y)))=AD;have C:d.N.contains (A7 y)=AE:=hy;rw[C];rfl)
 have V:∀bX(f:Str)(d:Def),P f=AA d->∀(a:AI)(fd:BS)(j:List Str),DefAt K f d a fd j->FnOk Pr w K mg base (CXk Pr w K bX) (n+1) a fd j (u0 K (J4 bX P G (n+1) f)):=λbX f d hf a fd j D=>by
  let{st,x,F,S}:=D.ex;apply bk6 F S.sc (λvs H Q E h=>?_) (λA outer s H vs Q E hr h=>?_)
  ·let{ds,s0,M,B,_,hs,_}:=h;let{d',g,hl,_}:=a79 hs;rw[hf]at g;cases g;rw[<-B.len,hl,S.np]
  ·let{ds,s0,M,B,rs,hs,Y}:=h;let{d',g,hl,R}:=a79 hs;rw[hf]at g;cases g;have T:XOk (Zl bX P G n) (cxF bX Pr w K mg base d.N f (n8 st) a fd.code A outer s H):=ah0 hA L rfl rfl rfl rfl rfl hr rfl ag3.passes S.sc.nd (u D) λb i N o=>(O b i N o).mp;apply{_,bs6 _ J T X (au2 ag3) d.body _ S.body,G3 d ds,s0,_,a80 B,rs,R,λenv σ H' st' ev hE hS q=>?_,λenv σ H' st' ev hE hS q=>q.elim,λenv σ H' st' ev hE hS q=>q.elim,λv e H' st' ev is' rs' q=>?_}
   ·let{s2,sub,q}:=q;show Y _ .non H' s2 (ev.drop sub) .non (hS.sub sub) q
   ·let{s2,sub,q}:=q;show Y v e H' s2 (ev.drop sub) is' (rs'.sub sub) q
 apply{λbX m hm f d hf a fd j D=>?_,λbX np N b cs fa fd j cf=>?_,λf d hf a fd j D=>?_}
 ·by_cases hmn:m<=n
  ·show L.fn bX m hmn f d hf a fd j D
  obtain rfl:m=n+1:=by lia
  show V bX f d hf a fd j D
 ·rw[bx5];apply cw5 (bX:=bX) (Z:=Zl bX P G n) cf λq A outer s H hr=>?_;let{hnl,t}:=(O _ _ _ _).mpr cf.mt;have T:XOk (Zl bX P G n) (cxC bX Pr w K mg base N fd.scope fd.closure q fa fd.code A outer s H):=ah0 hA L rfl rfl rfl rfl rfl hr rfl bl2.passes cf.sc.nd (λhl=>by
   have U:N.contains t6=AD:=hl;rw[hnl]at U;cases U) λb i N o=>(O b i N o).mp
  have hF:HF (cxC bX Pr w K mg base N fd.scope fd.closure q fa fd.code A outer s H):=λy hy _=>by
   have C:fd.scope.names.lookup y=AA .local\/fd.scope.names.lookup y=AA .cell:=hy
   rcases C with z|z
   ·show .inr z
   ·show absurd rfl (cf.sc.nocell _ (PySem.mem_of_lookup z))
  cases R:fd.body with
  |stmts l=>rw[R]at t;show Q8 _ J b _ l T hF (au2 bl2) t
  |expr x=>
   rw[R]at t;let{e,rfl,he}:=t;show{e,rfl,(g9 _ e _ x T he).v}
 ·apply L2.FnOk.imp (Ek.FnOk.or (L2.FnOk.imp (V AE f d hf a fd j D) λvs H Q E h=>cz6 h) (sp':=upW K λds st Q=>∃fd,P f=AA fd/\ds.length=fd.np/\fd.body.isPre=AE/\R3 (Zl AE P G n) (Zl AD P G n) fd.body (G3 fd ds) st Q) ?_) λvs H Q E⟨ds,st,M,h1,h2,h3,h4⟩=>h3.elim (λq=>.inl ⟨ds,st,M,h1,h2,q,h4⟩) λq=>.inr ⟨ds,st,M,h1,h2,q,h4⟩;let{st,x,F,S}:=D.ex;apply bk6 F S.sc (λvs H Q E h=>?_) (λA outer s H vs Q E hr h=>?_)
  ·let{ds,s0,M,B,_,{d',g,hl,_},_}:=h;rw[hf]at g;cases g;rw[<-B.len,hl,S.np]
  ·let{ds,s0,M,B,rs,{d',g,hl,hp,R},Y}:=h;rw[hf]at g;cases g;have hB:mSs d.body (n8 st) d.N (u5 st)=AD:=by
    have:=S.body;revert this hp;cases d.body with
    |nil=>show λ_ h=>h
    |cons c r=>cases c<;>first|show λ_ h=>h|show λh=>(AH h.symm).elim
   have T:XOk (Zl AE P G n) (cxF AE Pr w K mg base d.N f (n8 st) a fd.code A outer s H):=ah0 hA L rfl rfl rfl rfl rfl hr rfl ag3.passes S.sc.nd (u D) λb i N o=>(O b i N o).mp;have hY:∀EE,y6 (CXz (cxF AE Pr w K mg base d.N f (n8 st) a fd.code A outer s H) AD) ((cxF AE Pr w K mg base d.N f (n8 st) a fd.code A outer s H).wish EE) E0->XOk (Zl AD P G n) ((cxF AE Pr w K mg base d.N f (n8 st) a fd.code A outer s H).wish EE):=λEE hp=>ah0 hA L rfl rfl rfl rfl rfl hr rfl hp S.sc.nd (λhl=>{{(u (bX:=AE) (st:=st) (A:=A) (outer:=outer) (s:=s) (H:=H) D hl).1.1,W},(u (bX:=AE) (st:=st) (A:=A) (outer:=outer) (s:=s) (H:=H) D hl).2}) λb i N o=>(O b i N o).mp;show{_,λs1 σ H1 D1 I q=>br0 _ _ J _ T rfl hY X (au2 ag3) d.body _ hB s1 σ H1 D1 (W3 I) q,G3 d ds,s0,M,a80 B,rs,R,Y}
theorem bn3(f:AllOk Pr w K mg P G)(a:X3 mg base)(c:K.In base)(e:∀b d N g,mFB b d N g↔Tbs.mt b d N g):∀n,LvOk Pr w K mg base P G n
 |0=>ce9
 |n+1=>ck5 f a c e (bn3 f a c e n)
end
abbrev st0(a:AI)(ns:List Int):Sto:=λb=>if b=a then AA (.fro (ns.map D.int))else AF
theorem a87{K}:∀ns:List Int,IsDs K H (ns.map D.int) (ns.map V.int)
 |[]=>.nil
 |n::r=>.cons (.int n) (a87 r)
abbrev V8(K:AO):Bool:=K.all λp=>!(p.2.cls==.type "list")
def a66{K}{o}(h:V8 K=AD)(e:K.lookup a=AA o):o.cls≠.type "list":=by
 unfold V8 at h;rw[EI]at h;have g:(a,o)∈K:=by
  induction K with
  |nil=>cases e
  |cons p r f=>
   let{b,x}:=p;rw[EG]at e;cases q:a==b with
   |true=>simp_all
   |false=>rw[q]at e;show Ar _ (f (λp hp=>h p (Ar _ hp)) e)
 have:=h _ g;simpa using this
end
def b19{P:Ag}{w:Aw}{K:AO}{l Q:Str->Option AG}{k:Nat}{fa a:AI}{fd:BS}{x:Str}{sp:Sp}{c:AK}{vs:List AG}{ns:List Int}{ts:List AI}
  (KX:K.In c.heap) (y:c.heap.Ns AN l) (i:c.heap.Ns Cb Q) (U:∀x:Str,x≠"__name__"->Q x=BK x) (A:c.heap.NoLimit) (T:X3 l c.heap) (hg:c.gens=#[])
  (B:c.heap.get? a=AA {cls:=.type "list",data:=.seq vs.toArray}) (hi:JF vs ns) (hl:ns.length<=sizeLine) (hr:Room k IA)
  (G:∀P∈ts,c.heap.get? P=AA (Hr #[])/\isCodeTable c.heap P) (W:∀P∈ts,K.lookup P=AF) (X:K.lookup a=AF)
  (F:∀g:BA,K.In g->g.Ns AN l->X3 l g->FnOk P w K l g CX0 k fa fd [x] sp) (s:FW c fd {[.ref a],[]} [(x,.ref a)])
  (R:∀H:Hp,(∀P∈ts,H P=AA (.tbl #[]))->SqL K H a (ns.map V.int)->sp [.ref a] H (λv _=>v=.bl AD) λ_ _ _=>False) :
  Dy (model P w) IA (.call (.ref fa) {[.ref a],[]}) (λr s'=>r=.ok (.ret (.bool AD))/\OldK c.heap s'.heap/\s'.os=c.os/\ER s'.gens) c:=by
 have rv:=a84 hi;have O:a∉ts:=λz=>by
  have:=(G a z).1;rw[B]at this;cases this
 let H:Hp:=λb=>if b=a then AA (.frz {cls:=.type "list",data:=.seq vs.toArray} (.lst (ns.map V.int)))else if b∈ts then AA (.tbl #[])else AF
 have M:H a=AA (.frz {cls:=.type "list",data:=.seq vs.toArray} (.lst (ns.map V.int))):=if_pos rfl;have Ht:∀P∈ts,H P=AA (.tbl #[]):=λP hP=>by
  have ne:P≠a:=λz=>O (z▸hP);change(if P=a then _ else if P∈ts then _ else _)=_;rw[if_neg ne,if_pos hP]
 have L:∀b u,H b=AA u->b=a\/b∈ts:=λb u e=>by
  by_cases J:b=a
  ·show .inl J
  ·by_cases I:b∈ts
   ·show .inr I
   ·have e':(if b=a then AA (HO.frz {cls:=.type "list",data:=.seq vs.toArray} (.lst (ns.map V.int)))else if b∈ts then AA (.tbl #[])else AF)=AA u:=e;rw[if_neg J,if_neg I]at e';cases e'
 have S:HOk P w H c.heap:=λb u e=>by
  rcases L b u e with rfl|i
  ·rw[M]at e;cases e;show{B,by rw[AV];show hl,vs,_,rv,B}
  ·rw[Ht b i]at e;cases e;show(G b i).1
 have G1:∀{b:AI}{o:Obj},c.heap.get? b=AA o->H b=AF->(J3 c.heap H).get? b=AA o:=λe n=>bb8 e n;have f:∀b o,c.heap.get? b=AA o->(∀N n,o.data≠.seq N n)->(∀N,o.data≠.fields N)->H b=AF:=λb o e n1 n2=>by
  cases q:H b with
  |none=>rfl
  |some u=>
   rcases L b u q with rfl|i
   ·rw[B]at e;cases e;show absurd rfl (n1 _ _)
   ·rw[(G b i).1]at e;cases e;show absurd rfl (n2 _)
 have j:∀{b:AI}{m:Str->Option AG},c.heap.Ns b m->(J3 c.heap H).Ns b m:=λ{b m}⟨o,es,ep,e,d,r⟩=>{o,es,ep,G1 e (f b o e (by rw[d];show λ_ _=>nofun) (by rw[d];show λ_=>nofun)),d,r};have C:K.In (J3 c.heap H):=λb o e=>G1 (KX b o e) (by
  cases q:H b with
  |none=>rfl
  |some u=>
   rcases L b u q with rfl|i
   ·rw[X]at e;cases e
   ·rw[W b i]at e;cases e)
 have Y:X3 l (J3 c.heap H):=by
  let{bm,ob,b1,b2,b3,b4,b5,b6}:=T;show{bm,ob,b1,b2,G1 b3 (f bm ob b3 (by rw[b6];show λ_ _=>nofun) (by rw[b6];show λ_=>nofun)),b4,b5,b6}
 have hM:Mod K l (J3 c.heap H):=⟨C,j y,{Q,j i,U},let⟨mc,J,I⟩:=A;{mc,j J,I}⟩;have e0:Env0 P w K l (J3 c.heap H) IA [] c H:={rfl,hM,λb o e=>bh8 e,Kq (b26 _ _),trivial,λb i=>absurd (show b∈([]:List AI) from i) ∎,S,.of_eq hg};apply ES ((F _ C (j y) Y).run IA [] c H {[.ref a],[]} [.ref a] [.ref a] _ _ hr e0 s (.cons rfl .nil) (R H Ht (.inl (.inr ⟨_,M⟩)))) λr s' h=>?_;cases r with
 |error e=>show AU h
 |ok fl=>
  cases fl with
  |next=>show AU h
  |brk=>show AU h
  |cont=>show AU h
  |ret u=>
   let{v,H',os,D,E,p,r',q}:=h;have q':v=.bl AD:=q;subst q';obtain rfl:u=Fn AD:=r';apply{rfl,{λb o e=>?_,λb o e=>E.there b o e ∎},os,D};cases q:H b with
   |none=>show .inl (E.keep b o e q (by intro z;show absurd (show b∈([]:List AI) from z) ∎) ∎)
   |some u=>
    rcases L b u q with rfl|i
    ·rw[M]at q;cases q;have z2:=E.frzs b _ _ M;let{e2,_}:=p b _ z2;rw[B]at e;cases e;show .inl e2
    ·let{t1,t2}:=G b i;rw[t1]at e;cases e;let{t,z}:=E.tbls b _ (Ht b i);have e2:=p b _ z;show .inr (.inl {t2,rfl,#[],t,rfl,e2})
def bu7 [Tbs]{K}{h}{a}{o}(X:K.In h)(c:V8 K=AD)(e:h.get? a=AA o)(d:o.cls=.type "list"):K.lookup a=AF:=by
 cases q:K.lookup a with
 |none=>rfl
 |some b=>
  have:=X a b q;rw[e]at this;cases this;show absurd d (a66 c q)
def cd6{l:W.OpenLaw}{q:Ag}{i:List Str}{XP:(Str->Option AG)->BA->Prop}{M:Aw->BA->Prop}{d:DefRec}{K:Params->AO}{P:f9}{G:Gs}{n:Nat}{x:Str}{dl:Def}{ts:List AI}
  (S:l.most=AA 63) (B:d.params.defaults=[]) (A:d.name="law") (R:Room n IA) (V:∀(w:Aw)(h:BA),M w h->(K w.params).In h/\∀P∈ts,h.get? P=AA (Hr #[])) (J:P "law"=AA dl)
  (v:∀st t,Stat0 st dl t->t=[x])
  (F:∀(w:Aw)(u:Str->Option AG)(h:BA),(K w.params).In h->h.Ns AN u->(letI:Tbs:={ts,mFB,(G.cls "!kt").isEmpty};AllOk l.prog w (K w.params) u P G)/\V8 (K w.params)=AD/\JL (K w.params)=AD/\∀P∈ts,∃c,CW (K w.params) c P=AD)
  (s:∀(a:AI)(ns:List Int),ns.length<=63->sem P G n "law" [.ref a] (st0 a ns) λd _=>d=.bl AD) :
  W.WalkO q i XP M l.row.toRowW d [] (λf vs=>PySem.call f vs):=by
 letI:Tbs:={ts,mFB,(G.cls "!kt").isEmpty}
 apply Att.attach_call S B λw s₀ s₁ u mb fa o pm cd doc a vs ns GG Y ho hd hcd hmg hobj hints hlen hg=>?_;let{p,j}:=V w _ Y;let{L,r,k,X}:=F w u _ p GG.T.g;let{ad,fd,t,I,mf,_,_}:=(L.fns "law" dl J (by decide+kernel)).ex;let{st,y,Ff,Sf}:=I.ex;have e:=v st t Sf;subst e;rw[A]at hmg;have Z:fa=ad:=by lia
 subst Z;have H:(K w.params).lookup a=AF:=bu7 p r hobj rfl;apply b19 (ts:=ts) (sp:=u0 (K w.params) (sem P G n "law")) p GG.T.g GG.T.b GG.T.builtins GG.T.nolimit GG.T.bmain hg hobj hints (BB hlen ∅) R (λP hP=>{j P hP,?_}) (λP hP=>?_) H (λbase D hbg hbm=>Ek.FnOk.calm ((bn3 L hbm D (λ_ _ _ _=>Iff.rfl) n).fn AE n (AS _) "law" dl J fa fd [x] I)) (I.bd _ [.ref a] p rfl) (λH hH E=>?_)
 ·let{c,C}:=X P hP;show((LS p C).tab (j P hP)).isCodeTable
 ·cases qq:(K w.params).lookup P with
  |none=>rfl
  |some O=>
   have z:=p P O qq;rw[j P hP]at z;cases z;unfold JL at k;rw[EI]at k;show absurd (k _ (W.mem_of_lookupK qq)) AH
 ·apply{[.ref a],st0 a ns,_,.cons (.ref a) .nil,{λb o e=>?_,λP hP=>{#[],hH P hP,trivial,λpos cv z=>by cases z}},s a ns hlen,λv d' H' st' ev is rs q=>?_}
  ·unfold st0 at e
   split at e
   ·rename_i D;cases e;subst D
    rcases E with E|⟨ob,Q,m,U,C,_⟩
    ·show{_,E,a87 ns}
    ·show absurd C (a66 r U)
   ·cases e
  ·have N:d'=.bl AD:=q;subst N;cases is;rfl
abbrev co8(P:AI)(o:Obj):Bool:=match o with
 |⟨.type "code",_,.fields vs,_⟩=>(match(vs[11]?:Option AG)with|some (.ref P')=>P'==P|_=>AE)
 |_=>AE
abbrev aw3(K:AO)(ts:List AI):Bool:=ts.all λP=>match K.find? λp=>co8 P p.2 with
 |some p=>CW K p.1 P
 |none=>AE
def ck6{K}{ts}(h:aw3 K ts=AD):∀P∈ts,∃c,CW K c P=AD:=λP hP=>by
 unfold aw3 at h;rw[EI]at h;have:=h P hP
 split at this
 ·show⟨_,this⟩
 ·cases this
abbrev aw1(K:AO)(cd:AG):Option (AI×AI):=match cd with
 |.ref c=>(match K.lookup c with
  |some ⟨_,_,.fields vs,_⟩=>(match(vs[11]?:Option AG)with|some (.ref P)=>AA (c,P)|_=>AF)
  |_=>AF)
 |_=>AF
def cr7{K}{cd}{c P}{ts:List AI}(h:aw1 K cd=AA (c,P))(a:CW K c P=AD)(b:ts.contains P=AD):∃c P,cd=.ref c/\CW K c P=AD/\P∈ts:=by
 unfold aw1 at h
 split at h
 ·split at h
  ·split at h
   ·cases h;show{_,_,rfl,a,by simp_all}
   ·cases h
  ·cases h
 ·cases h
end Ek
namespace Ek
open PySem L2
section
def ao1 s:Aa s=⟨(s.toList.map GE).toArray⟩:=by
 unfold Aa;rw[cpsOfBytes_string]
def bv8:∀(x y:Char),x.toNat=y.toNat->x=y:=λx y h=>Char.ext (UInt32.toNat_inj.mp h)
theorem az9:∀(a b:List Char),a.map GE=b.map GE->a=b
 |[],[],_=>rfl
 |[],_::_,h=>by simp at h
 |_::_,[],h=>by simp at h
 |x::a,y::b,h=>by
  simp at h;rw[bv8 x y h.1,az9 a b h.2]
def v5{a b}:(Aa a=Aa b)=(a=b):=by
 apply propext {λh=>?_,λh=>by rw[h]};rw[ao1,ao1]at h;have h':=by simpa using h
 show String.toList_inj.mp (az9 _ _ h')
def t0 s:(D.str (Aa s)).pure=AD:=by
 change Jw (Aa s)=AD;unfold Jw;rw[ao1];simp;intro c _;have h:=c.valid;change c.val.toNat<1114112;lia
variable{L:List AI}{st st':Sto}{a b c e v:E}{p:AI}{o u:Ob}{Q:DK}{P:f9}{G:Gs}{n np i:Nat}{f g:Str}{fd:Def}{ds cs:List D}{N:List Str}{bX:Bool}{es:Es}
abbrev Kp(L:List AI)(st st':Sto):Prop:=∀b o,b∉L->st b=AA o->st' b=AA o
def Kp.refl:Kp L st st:=λ_ _ _ h=>h
def Kp.trans{a b c}(x:Kp L a b)(y:Kp L b c):Kp L a c:=λd o n h=>y d o n (x d o n h)
def Kp.more{M}{a b}(x:Kp L a b)(s:∀d∈L,d∈M):Kp M a b:=λd o n=>x d o λz=>n (s d z)
def Kp.new(x:Kp L st st')(h:st' p=AF):Kp L st (b0 st' p o):=λd u n e=>by
 have a:=x d u n e;rwa[G0 λz=>by grind]
def Kp.put(x:Kp L st st')(h:p∈L):Kp L st (b0 st' p o):=λd u n e=>by
 rw[G0 λz=>n (by rwa[z])];show x d u n e
def Kp.at'{b}(x:Kp L st st')h(n):=x b o n h
def l0{a}(h:st a=AA o)(b:st p=AF):b0 st p u a=AA o:=by
 rwa[G0 λz=>by grind]
def l5{a}(h:st a=AA o)(b:st p=AF):a≠p:=λz=>by grind
def f7{a}(h:st a=AA o)(n:a≠p):b0 st p u a=AA o:=G0 n▸h
def R8{a}:b0 (b0 st a o) a u=b0 st a u:=by
 funext b;unfold b0;split<;>rfl
abbrev o4(st:Sto)(a:AI):Prop:=∃l:List Int,st a=AA (.lst (l.map .int))
def o4.keep{b}(h:o4 st b)(x:Kp L st st')(n:b∉L):o4 st' b:=let⟨l,e⟩:=h;{l,x.at' e n}
def o4.new{b}(h:o4 st b)(a:st p=AF):o4 (b0 st p u) b:=let⟨l,e⟩:=h;{l,l0 e a}
def o4.ne{b}(h:o4 st b)(a:st p=AF):=let⟨l,e⟩:=h;l5 e a
abbrev l9(Q:DK):DEnds:={nx:=λ_ st'=>∃s2,Sub s2 st'/\Q .non s2,rt:=λd st'=>∃s2,Sub s2 st'/\Q d s2}
def c9{d:D}(h:Q d st):(l9 Q).rt d st:={st,Sub.refl st,h}
def bi2{env}(h:Q .non st):(l9 Q).nx env st:={st,Sub.refl st,h}
@[reducible]noncomputable def Zg(P:f9)(G:Gs)(n:Nat):Sg:={λf=>(P f).isSome,sem P G n,G.tab,G.cls,(z5 P G n).mf,λf=>(z5 P G n).po&&(P f).isSome,F7 P G n,G.cst,AE,D2 P G n}
@[reducible]noncomputable def Zr(P:f9)(G:Gs)(n:Nat):Sg:={λf=>(P f).isSome,orF (J5 P G n) (sem P G n),G.tab,G.cls,(z5 P G n).mf,λf=>(z5 P G n).po&&(P f).isSome,orC (T4 P G n) (F7 P G n),G.cst,AD,D2 P G n}
def aa4(c:P f=AA fd)(a:ds.length=fd.np)env(b:G3 fd ds=env)
  (h:j7 (Zr P G n) fd.body (l9 Q) env st):J5 P G (n+1) f ds st Q:={fd,c,a,by rwa[b]}
def b49{b}(a:ds.length=np)env(c:G4 N ds cs=env)
  (h:j7 (Zr P G n) b (l9 Q) env st):T4 P G (n+1) np N b cs ds st Q:={a,c▸h}
def i6(c:P f=AA fd)(a:ds.length=fd.np)env(b:G3 fd ds=env)
  (h:j7 (Zg P G n) fd.body (l9 Q) env st):sem P G (n+1) f ds st Q:={fd,c,a,by rwa[b]}
def W4{b}(a:ds.length=np)env(c:G4 N ds cs=env)
  (h:j7 (Zg P G n) b (l9 Q) env st):F7 P G (n+1) np N b cs ds st Q:={a,c▸h}
section
variable {Z:Sg} {F:DEnds} {env:i9} 
def as8(c:P f=AA fd)(a:ds.length=fd.np)env(b:G3 fd ds=env)(h:j7 (Zl bX P G n) fd.body (l9 Q) env st):J4 bX P G (n+1) f ds st Q:=by
 cases bX
 ·show i6 c a env b h
 ·show aa4 c a env b h
def bd6{b}(a:ds.length=np)env(c:G4 N ds cs=env)(h:j7 (Zl bX P G n) b (l9 Q) env st):ab7 bX P G (n+1) np N b cs ds st Q:=by
 cases bX
 ·show W4 a env c h
 ·show b49 a env c h
def ad0(h:sem P G n f ds st Q):pF bX P G n f ds st Q:=by
 cases bX
 ·show h
 ·show .inr h
def br3(h:J4 bX P G n f ds st Q):pF bX P G n f ds st Q:=by
 cases bX
 ·show h
 ·show .inl h
def br7{b}(h:ab7 bX P G n np N b cs ds st Q):pC bX P G n np N b cs ds st Q:=by
 cases bX
 ·show h
 ·show .inl h
def c37{s}{r}:j7 Z (.cons s r) F env st=wpS Z s {j7 Z r F,F.rt,F.bk,F.ct} env st:=rfl
def c54:j7 Z .nil F env st=F.nx env st:=rfl
def c80:wpS Z (.set i e) F env st=wpE Z e env st λd st1=>F.nx (env.set i (AA d)) st1:=rfl
def c83:wpS Z (.pre i) F env st=∀p,st p=AF->F.nx (env.set i (AA (.ref p))) (b0 st p (.dct [])):=rfl
def cq4{o i}:wpS Z (.iput o i v) F env st=wpE Z v env st λd st1=>wpE Z o env st1 λx st2=>wpE Z i env st2 λy st3=>aw2 x y d st3 λst4=>F.nx env st4:=rfl
def cz0{o i}:wpS Z (.dput o i v) F env st=wpE Z v env st λd st1=>wpE Z o env st1 λx st2=>wpE Z i env st2 λy st3=>av7 x y d st3 λst4=>F.nx env st4:=rfl
def da7{o i}:wpS Z (.put o i v) F env st=wpE Z v env st λd st1=>wpE Z o env st1 λx st2=>wpE Z i env st2 λy st3=>∃a j k b,x=.ref a/\y=.int j/\st3 a=AA (.lst b)/\ixN b.length j=AA k/\F.nx env (b0 st3 a (.lst (b.set k d))):=rfl
def c94{is}:wpS Z (.unp is e) F env st=wpE Z e env st λd st1=>E9 (.tup is) d env λenv'=>F.nx env' st1:=rfl
def df8:wpS Z (.ex e) F env st=wpE Z e env st λ_ st1=>F.nx env st1:=rfl
def c52{a b}:wpS Z (.iff c a b) F env st=wpE Z c env st λd st1=>∃k,d=.bl k/\if k=AD then j7 Z a F env st1 else j7 Z b F env st1:=rfl
def c74:wpS Z (.ret e) F env st=wpE Z e env st F.rt:=rfl
def cz8:wpS Z .retN F env st=F.rt .non st:=rfl
def c93{t}{it}{b}:wpS Z (.for t it b) F env st=B6 Z it env st λitems chk st1=>A4 chk t (j7 Z b) F items env st1:=rfl
def cu0:wpS Z .cont F env st=F.ct env st:=rfl
def dk4:wpS (Zg P G n) (.tr c) F env st=wpE (Zg P G n) c env st λd st1=>∃k,d=.bl k/\if k=AD then F.rt (.bl AE) st1 else F.nx env st1:=propext {λh=>h.2,λh=>⟨rfl,h⟩}
def cy3:wpS Z .pass F env st=F.nx env st:=rfl
def db7:wpE Z .non env st Q=Q .non st:=rfl
def dj1{b:Bool}:wpE Z (.bl b) env st Q=Q (.bl b) st:=rfl
def bq8{i:Int}:wpE Z (.int i) env st Q=Q (.int i) st:=rfl
def da8{x:Str}:wpE Z (.str x) env st Q=Q (.str x) st:=rfl
def e_v:wpE Z (.v i) env st Q=∃d,env[i]?=AA (AA d)/\Q d st:=rfl
def dc9:wpE Z (.tup es) env st Q=u4 Z es env st λds st1=>Q (.tup ds) st1:=rfl
def dc3:wpE Z (.lst es) env st Q=u4 Z es env st λds st1=>∀p,st1 p=AF->Q (.ref p) (b0 st1 p (.lst ds)):=rfl
def c77{o}:wpE Z (.bin o a b) env st Q=wpE Z a env st λx st1=>wpE Z b env st1 λy st2=>C5 o x y st2 Q:=rfl
def c45:wpE Z (.neg a) env st Q=wpE Z a env st λx st1=>∃i,x=.int i/\Q (.int (-i)) st1:=rfl
def c73{o}:wpE Z (.cmp o a b) env st Q=wpE Z a env st λx st1=>wpE Z b env st1 λy st2=>o9 o x y st2 Q:=rfl
def db5:wpE Z (.isN a) env st Q=wpE Z a env st λx st1=>x=.non/\Q (.bl AD) st1\/x≠.non/\Q (.bl AE) st1:=rfl
def c28:wpE Z (.notN a) env st Q=wpE Z a env st λx st1=>x=.non/\Q (.bl AE) st1\/x≠.non/\Q (.bl AD) st1:=rfl
def c70:wpE Z (.and a b) env st Q=wpE Z a env st λx st1=>∃c,x=.bl c/\if c=AD then wpE Z b env st1 Q else Q (.bl AE) st1:=rfl
def dh3:wpE Z (.or a b) env st Q=wpE Z a env st λx st1=>∃c,x=.bl c/\if c=AD then Q (.bl AD) st1 else wpE Z b env st1 Q:=rfl
def c57:wpE Z (.not a) env st Q=wpE Z a env st λx st1=>∃c,x=.bl c/\Q (.bl !c) st1:=rfl
def dc4:wpE Z (.ite c a b) env st Q=wpE Z c env st λx st1=>∃k,x=.bl k/\if k=AD then wpE Z a env st1 Q else wpE Z b env st1 Q:=rfl
def dj4:wpE Z (.ix a b) env st Q=wpE Z a env st λx st1=>wpE Z b env st1 λy st2=>ixR x y st2 Q:=rfl
abbrev bnd(Z:Sg)(e:E)(env:i9)(st:Sto):(Option Int->Sto->Prop)->Prop:=if e.isNon=AD then λk=>k AF st else λk=>wpE Z e env st λd st'=>∃i,d=.int i/\k (AA i) st'
def cg6{k}:bnd Z .non env st k=k AF st:=rfl
def P1{k}(h:e.isNon=AE):bnd Z e env st k=wpE Z e env st λd st'=>∃i,d=.int i/\k (AA i) st':=by
 unfold bnd;rw[h];rfl
def ck9{i}{k}:bnd Z (.int i) env st k=k (AA i) st:=propext {λ⟨_,h,q⟩=>by simp_all,λq=>⟨_,rfl,q⟩}
def c44{lo hi}:wpE Z (.slw a lo hi) env st Q=wpE Z a env st λx st1=>bnd Z lo env st1 λl st2=>bnd Z hi env st2 λh st3=>ai5 x l h st3 Q:=rfl
def dl6{lo hi}:wpE Z (.sl a lo hi) env st Q=wpE Z a env st λx st1=>bnd Z lo env st1 λl st2=>bnd Z hi env st2 λh st3=>slR x l h st3 Q:=rfl
def cq0{k}:wpE Z (.gsel g k) env st Q=(Z.G g≠[]/\wpE Z k env st λx st1=>∃w d,x=.str w/\u6 (Z.G g) w=AA d/\Q d st1):=rfl
def df2:wpE Z (.len a) env st Q=wpE Z a env st λx st1=>U8 x st1 Q:=rfl
def ch4:wpE Z (.toInt a) env st Q=wpE Z a env st λx st1=>ab0 x st1 Q:=rfl
def cs3:wpE Z (.list a) env st Q=wpE Z a env st λx st1=>Q7 x st1 Q:=rfl
def cf9:wpE Z (.tuple a) env st Q=wpE Z a env st λx st1=>W7 x st1 Q:=rfl
def c48:wpE Z (.min a b) env st Q=wpE Z a env st λx st1=>wpE Z b env st1 λy st2=>∃i j,x=.int i/\y=.int j/\Q (.int (if j<i then j else i)) st2:=rfl
def c32:wpE Z (.lzip a b) env st Q=wpE Z a env st λx st1=>wpE Z b env st1 λy st2=>∃d c,x=.tup d/\y=.tup c/\min d.length c.length<=1000000/\∀p,st2 p=AF->Q (.ref p) (b0 st2 p (.lst (J0 d c))):=rfl
def de5:wpE Z (.max a b) env st Q=wpE Z a env st λx st1=>wpE Z b env st1 λy st2=>∃i j,x=.int i/\y=.int j/\Q (.int (if j>i then j else i)) st2:=rfl
def c09:wpE Z (.call f es) env st Q=(Z.F f=AD/\u4 Z es env st λds st1=>Z.Phi f ds st1 Q):=rfl
def dg2:wpE Z (.gf f) env st Q=(Z.F f=AD/\Q (.fn f) st):=rfl
def ce8:wpE Z (.callx c es) env st Q=wpE Z c env st λx st1=>∃f,x=.fn f/\Z.F f=AD/\u4 Z es env st1 λds st2=>Z.Phi f ds st2 Q:=rfl
def c02{k d}:wpE Z (.gget g k d) env st Q=(Z.G g≠[]/\wpE Z k env st λx st1=>wpE Z d env st1 λy st2=>∃w,x=.str w/\Q ((u6 (Z.G g) w).getD y) st2):=rfl
def c59:wpE Z (.fld a f) env st Q=wpE Z a env st λx st1=>∃p c b d,x=.ref p/\st1 p=AA (.ins c b)/\f∈Z.C c/\b.lookup f=AA d/\Q d st1:=rfl
def cz2{m}:wpE Z (.meth a m es) env st Q=wpE Z a env st λx st1=>∃p c b,x=.ref p/\st1 p=AA (.ins c b)/\b.lookup m=AF/\Z.F (f6 c m)=AD/\u4 Z es env st1 λds st2=>Z.Phi (f6 c m) (.ref p::ds) st2 Q:=rfl
def cu3{c}:wpE Z (.make c es) env st Q=(Z.MF (f6 c "__init__")=AD/\u4 Z es env st λds st1=>∀p,st1 p=AF->Z.Mk (f6 c "__init__") (.ref p::ds) (b0 st1 p (.ins c [])) λv st2=>v=.non/\Q (.ref p) st2):=rfl
def cz3{o}:wpS Z (.fldS o f v) F env st=wpE Z v env st λd st1=>wpE Z o env st1 λx st2=>∃p c a,x=.ref p/\st2 p=AA (.ins c a)/\f∈Z.C c/\a.length<1000/\F.nx env (b0 st2 p (.ins c (j9 f d a))):=rfl
def cs9:wpS Z .dead F env st=False:=rfl
def cn9:wpE Z (.callv i es) env st Q=∃x,env[i]?=AA (AA x)/\U1 Z (u4 Z es env) st Q x:=rfl
def c46{ta}:U1 Z ta st Q (.fn f)=(Z.F f=AD/\ta st λds st1=>Z.Phi f ds st1 Q):=rfl
def cq3{ta}{b}:U1 Z ta st Q (.clo np N b cs)=ta st λds st1=>Z.PhiC np N b cs ds st1 Q:=rfl
abbrev Y4(env:i9):List Nat->(List D->Prop)->Prop
 |[],k=>k []
 |i::is,k=>∃d,env[i]?=AA (AA d)/\Y4 env is λds=>k (d::ds)
def b79{k:List D->Prop}:Y4 env [] k=k []:=rfl
def a94{is}{k}:Y4 env (i::is) k=∃d,env[i]?=AA (AA d)/\Y4 env is λds=>k (d::ds):=rfl
theorem av8:∀{e}{k},(∃c,O4 env e=AA c/\k c)=Y4 env e k
 |[],k=>propext {λ⟨_,h,q⟩=>by cases h;show q,λq=>⟨_,rfl,q⟩}
 |i::j,k=>by
  apply propext {λ⟨c,h,q⟩=>?_,λ⟨d,f,q⟩=>?_}
  ·unfold O4 at h
   split at h
   ·rename_i d b g a;cases h;show{d,g,(av8)▸⟨b,a,q⟩}
   ·cases h
  ·rw[<-av8]at q;let{b,a,q}:=q;show{d::b,by unfold O4;rw[f,a],q}
def dd8{cp}{b}:wpS Z (.dfn i np N cp b) F env st=Y4 env cp λcs=>F.nx (env.set i (AA (.clo np N b cs))) st:=av8
def di0:wpE Z (.gc g) env st Q=∃d,Z.Kc g=AA d/\Q d st:=rfl
def da3{t}:wpE Z (.isT t a) env st Q=wpE Z a env st λx st1=>ac2 t x st1 Q:=rfl
def c68:wpE Z (.app a b) env st Q=wpE Z a env st λx st1=>E4 x st1/\wpE Z b env st1 λy st2=>ad4 x y st2 Q:=rfl
def dc2:wpE Z (.ext a b) env st Q=wpE Z a env st λx st1=>E4 x st1/\wpE Z b env st1 λy st2=>Y3 x y st2 Q:=rfl
def cm2:wpE Z (.popAt a b) env st Q=wpE Z a env st λx st1=>E4 x st1/\wpE Z b env st1 λy st2=>au3 x y st2 Q:=rfl
def da4:wpE Z (.pop a) env st Q=wpE Z a env st λx st1=>ad3 x st1 Q:=rfl
def ce0:wpE Z (.callw f es) env st Q=(Z.F f=AD/\u4 Z es env st λds st1=>Z.T f ds S0 λd _=>Q d st1):=rfl
def cd4{m}:wpE Z (.methd a m es) env st Q=wpE Z a env st λx st1=>∃p c b i,x=.ref p/\st1 p=AA (.ins c b)/\b.lookup m=AF/\Z.F (f6 c m)=AD/\A0 Z.C (f6 c m)=AA i/\u4 Z es env st1 λds st2=>Z.Phi (f6 c m) (.ref p::(ds++[.int i])) st2 Q:=rfl
def c78:wpE Z (.any a) env st Q=wpE Z a env st λx st1=>ax3 x st1 Q:=rfl
def c89:wpE Z .dnt env st Q=(Z.C "!kt"≠[]/\∀p,st p=AF->Q (.ref p) (b0 st p (.dtt []))):=rfl
def dc0:wpE Z (.dgt a b) env st Q=wpE Z a env st λx st1=>ax0 x st1/\wpE Z b env st1 λy st2=>ax5 x y st2 Q:=rfl
def de2{ne}:wpE Z (.din ne a b) env st Q=wpE Z a env st λx st1=>wpE Z b env st1 λy st2=>U6 ne x y st2 Q:=rfl
def c14:wpE Z (.lrev a) env st Q=wpE Z a env st λx st1=>ac6 x st1 Q:=rfl
def cr2{Q:List D->Sto->Prop}:u4 Z .nil env st Q=Q [] st:=rfl
def cd9{r}{Q}:u4 Z (.cons e r) env st Q=wpE Z e env st λd st1=>u4 Z r env st1 λds st2=>Q (d::ds) st2:=rfl
abbrev O3(Z:Sg)(c:E):DB:=if c.isNon=AD then λ_ st Q=>Q AD st else λenv st Q=>wpE Z c env st λd st'=>∃b,d=.bl b/\Q b st'
def c01{Nc}{fr}{k}{t}{it}:wpE (Zg P G n) (.comp Nc fr k t it c e) env st Q=B6 (Zg P G n) it env st λitems chk st1=>items.length<=1000000/\B0 chk t (O3 (Zg P G n) c) (λenv st Q=>wpE (Zg P G n) e env st Q) (λacc st'=>∀p,st' p=AF->Q (.ref p) (b0 st' p (.lst acc))) items [] (S5 fr k env) st1:=propext {λh=>h.2,λh=>⟨rfl,h⟩}
variable {k:ItK}
def c67:B6 Z (.seq e) env st k=wpE Z e env st λd st1=>(∃b,d=.tup b/\k b (λ_=>True) st1)\/∃a b,d=.ref a/\rdS st1 a b/\k b (λst'=>rdS st' a b) st1:=rfl
def c85:B6 Z (.rng a) env st k=wpE Z a env st λd st1=>∃j:Int,d=.int j/\(-2^62<=j/\j<2^62)/\k (p8 0 j.toNat) (λ_=>True) st1:=rfl
def cv9:B6 Z (.rng2 a b) env st k=wpE Z a env st λd st1=>wpE Z b env st1 λe st2=>∃i j:Int,d=.int i/\e=.int j/\(-2^62<=i/\i<2^62/\-2^62<=j/\j<2^62)/\k (p8 i (j-i).toNat) (λ_=>True) st2:=rfl
def cz1:B6 Z (.revt e) env st k=wpE Z e env st λd st1=>∃a,d=.tup a/\k a.reverse (λ_=>True) st1:=rfl
def cz5:B6 Z (.enum e) env st k=wpE Z e env st λd st1=>(∃b,d=.tup b/\k (t9 0 b) (λ_=>True) st1)\/∃a b,d=.ref a/\rdS st1 a b/\k (t9 0 b) (λst'=>rdS st' a b) st1:=rfl
def c79:B6 Z (.rev e) env st k=wpE Z e env st λd st1=>∃a b,d=.ref a/\rdS st1 a b/\k b.reverse (λst'=>rdS st' a b) st1:=rfl
end
end
section
variable{i:Int}{b:Bool}{lo hi:Option Int}{chk:Sto->Prop}{env:i9}
section
variable {st:Sto} {Q:DK} {j:Int} {a p:AI} {ds es xs ys:List D} {x y d:D}
def dk1{a}{r:i9}{Q:D->Prop}:(∃d,(AA a::r)[0]?=AA (AA d)/\Q d)=Q a:=propext {λ⟨_,h,q⟩=>by simp_all,λq=>⟨a,rfl,q⟩}
def dg6{a}{r:i9}{i}{Q:D->Prop}:(∃d,(a::r)[i+1]?=AA (AA d)/\Q d)=∃d,r[i]?=AA (AA d)/\Q d:=rfl
def dg0{a}{Q:D->Prop}:(∃d,AA (AA a)=AA (AA d)/\Q d)=Q a:=propext {λ⟨_,h,q⟩=>by grind,λq=>⟨a,rfl,q⟩}
def c41{Q:Int->Prop}:(∃d,D.int i=.int d/\Q d)=Q i:=propext {λ⟨_,h,q⟩=>⋯,λq=>⟨i,rfl,q⟩}
def ax1{i}{Q:Bool->Prop}:(∃d,D.bl i=.bl d/\Q d)=Q i:=propext {λ⟨_,h,q⟩=>⋯,λq=>⟨i,rfl,q⟩}
def dc8{Q:List D->Prop}:(∃d,D.tup ds=.tup d/\Q d)=Q ds:=propext {λ⟨_,h,q⟩=>⋯,λq=>⟨_,rfl,q⟩}
def cp0{b:Type}{a}{Q:b->Prop}:(∃d,AA a=AA d/\Q d)=Q a:=propext {λ⟨_,h,q⟩=>by grind,λq=>⟨a,rfl,q⟩}
def dd6{i}{l}{Q:D->Prop}:(∃w d,D.str i=.str w/\u6 l w=AA d/\Q d)=∃d,u6 l i=AA d/\Q d:=propext {λ⟨_,d,h,e,q⟩=>by simp_all,λ⟨d,e,q⟩=>⟨_,d,rfl,e,q⟩}
def cu4{j}{Q:Int->Int->Prop}:(∃a b,D.int i=.int a/\D.int j=.int b/\Q a b)=Q i j:=propext {λ⟨_,_,h,h',q⟩=>by grind,λq=>⟨_,_,rfl,rfl,q⟩}
def cp3:C5 .Add (.int i) (.int j) st Q=Q (.int (i+j)) st:=rfl
def c22:C5 .Add (.tup xs) (.tup ys) st Q=(xs.length+ys.length<=sizeLine/\Q (.tup (xs++ys)) st):=rfl
def c13:C5 .Sub (.int i) (.int j) st Q=Q (.int (i-j)) st:=rfl
def cs6:C5 .Mult (.int i) (.int j) st Q=(T9 i j/\Q (.int (i*j)) st):=rfl
def bj8:C5 .Mod (.int i) (.int j) st Q=(0<j/\Q (.int (i % j)) st):=rfl
def c08:C5 .FloorDiv (.int i) (.int j) st Q=(au9 i j/\Q (.int (i / j)) st):=rfl
def cs2:C5 .Pow (.int i) (.int j) st Q=(aw7 i j/\Q (.int (i^j.toNat)) st):=rfl
def as6:deq (.int i) (.int j)=AB (i=j):=rfl
def M8{x y}:deq (.str x) (.str y)=AB (x=y):=rfl
abbrev E6:List D->List D->Bool
 |[],[]=>AD
 |x::xs,y::ys=>deq x y&&E6 xs ys
 |_,_=>AE
theorem be4:∀b a,DE (D.pys b) (D.pys a)=E6 b a
 |[],[]=>rfl
 |[],_::_=>rfl
 |_::_,[]=>rfl
 |x::b,y::a=>by change(Ay x.py y.py&&DE (D.pys b) (D.pys a))=_;rw[be4 b a];rfl
def V9:deq (.tup xs) (.tup ys)=E6 xs ys:=by
 change Ay (.tuple (D.pys xs)) (.tuple (D.pys ys))=_;rw[Ay,be4]
def ab2:o6 (.int i)=0:=rfl
def G5{x:Str}:o6 (.str x)=0:=rfl
def db8:o9 .Eq (.int i) (.int j) st Q=Q (.bl (AB (i=j))) st:=propext {λh=>h.2.2.2,λh=>{rfl,rfl,(BM _),h}}
def ah4:o9 .NotEq (.int i) (.int j) st Q=Q (.bl !decide (i=j)) st:=propext {λh=>h.2.2.2,λh=>{rfl,rfl,(BM _),h}}
def au8{x y}:o9 .Eq (.str (Aa x)) (.str (Aa y)) st Q=Q (.bl (AB (x=y))) st:=by
 change(_/\_/\_/\_)=_;erw[M8,v5];show propext {λh=>h.2.2.2,λh=>{t0 _,t0 _,BM _,h}}
def ac3{x y}:o9 .NotEq (.str (Aa x)) (.str (Aa y)) st Q=Q (.bl !decide (x=y)) st:=by
 change(_/\_/\_/\_)=_;erw[M8,v5];show propext {λh=>h.2.2.2,λh=>{t0 _,t0 _,BM _,h}}
def bp1:o9 .Eq x y st Q=(x.pure=AD/\y.pure=AD/\FB (o6 x) (o6 y)<=150/\Q (.bl (deq x y)) st):=rfl
def c58:o9 .NotEq x y st Q=(x.pure=AD/\y.pure=AD/\FB (o6 x) (o6 y)<=150/\Q (.bl !deq x y) st):=rfl
def c40{c}:o9 .Is (.bl b) (.bl c) st Q=Q (.bl (b==c)) st:=rfl
def ci8{c}:o9 .IsNot (.bl b) (.bl c) st Q=Q (.bl (b != c)) st:=rfl
def dc7:o9 .Lt (.int i) (.int j) st Q=Q (.bl (AB (i<j))) st:=rfl
def c50:o9 .LtE (.int i) (.int j) st Q=Q (.bl (AB (i<=j))) st:=rfl
def dd1:o9 .Gt (.int i) (.int j) st Q=Q (.bl (AB (j<i))) st:=rfl
def dd5:o9 .GtE (.int i) (.int j) st Q=Q (.bl (AB (j<=i))) st:=rfl
def br6:o9 .In x (.tup ys) st Q=(x.pure=AD/\D.pures ys=AD/\o6 x<=150/\Q (.bl (ys.any λy=>deq y x)) st):=rfl
def ax4{ks}:o9 .In (.int i) (.ktup ks) st Q=Q (.bl (ks.any λk=>AB (k=.inl i))) st:=rfl
def c75:o9 .NotIn x (.tup ys) st Q=(x.pure=AD/\D.pures ys=AD/\o6 x<=150/\Q (.bl !ys.any λy=>deq y x) st):=rfl
def dh2:ixR (.tup ds) (.int i) st Q=∃d,atI ds i=AA d/\Q d st:=rfl
def dm0:ixR (.ref a) (.int i) st Q=((∃c d,rdS st a c/\atI c i=AA d/\Q d st)\/∃b d,st a=AA (.dct b)/\F5 b (.inl i)=AA d/\Q d st):=rfl
def cu8{kvs}(h:rdS st a ds)(h':st a=AA (.dct kvs)):False:=by rcases h with h|h<;>rw[h]at h'<;>cases h'
def ag1(h:rdS st a xs)(h':rdS st a ys):xs=ys:=by
 rcases h with h|h<;>rcases h' with h'|h'<;>rw[h]at h'<;>cases h'<;>rfl
def l7(h:rdS st a ds):ixR (.ref a) (.int i) st Q=∃d,atI ds i=AA d/\Q d st:=propext {λz=>z.elim (λ⟨b,d,r,q⟩=>ag1 h r▸⟨d,q⟩) λ⟨_,_,e,_⟩=>(cu8 h e).elim,λ⟨d,q⟩=>.inl ⟨ds,d,h,q⟩}
def ac0:rdS (b0 st p (.lst ds)) p ds:=.inl f8
def c91:ixR (.ref p) (.int i) (b0 st p (.lst ds)) Q=∃d,atI ds i=AA d/\Q d (b0 st p (.lst ds)):=l7 ac0
def ax9{α}{a:List α}:atI a 0=a[0]?:=by
 unfold atI ixN;simp;split
 ·rfl
 ·simp_all
def z8{α}{a:List α}{k:Nat}:atI a k=a[k]?:=by
 unfold atI ixN;rw[if_pos ⋯];split
 ·rfl
 ·simp_all
def df5{b:Type}{a:List b}:atI a 1=a[1]?:=z8 (k:=1)
def dj3{b:Type}{a:List b}:atI a 2=a[2]?:=z8 (k:=2)
def dl5{b:Type}{a:List b}:atI a 3=a[3]?:=z8 (k:=3)
def c49:ai5 (.tup ds) lo hi st Q=Q (.tup (A6 ds lo hi)) st:=rfl
def dg7:slR (.tup ds) lo hi st Q=(¬(HT.sIx ds.length 0 lo=0/\HT.sIx ds.length ds.length hi=ds.length)/\Q (.tup (A6 ds lo hi)) st):=rfl
def dk6(h:rdS st a ds):slR (.ref a) lo hi st Q=∀p,st p=AF->Q (.ref p) (b0 st p (.lst (A6 ds lo hi))):=propext {λ⟨b,r,q⟩=>ag1 h r▸q,λq=>⟨ds,h,q⟩}
def c55:U8 (.tup ds) st Q=Q (.int ds.length) st:=rfl
def r9(h:rdS st a ds):U8 (.ref a) st Q=Q (.int ds.length) st:=propext {λ⟨b,r,q⟩=>ag1 h r▸q,λq=>⟨ds,h,q⟩}
def cp6:U8 (.ref p) (b0 st p (.lst ds)) Q=Q (.int ds.length) (b0 st p (.lst ds)):=r9 ac0
def db1:ab0 (.bl b) st Q=Q (.int (if b then 1 else 0)) st:=rfl
def c99:ab0 (.int i) st Q=Q (.int i) st:=rfl
def cv5:Q7 (.tup ds) st Q=∀p,st p=AF->Q (.ref p) (b0 st p (.lst ds)):=rfl
def cl9:W7 (.tup ds) st Q=Q (.tup ds) st:=rfl
def bi0(h:rdS st a ds):W7 (.ref a) st Q=Q (.tup ds) st:=propext {λ⟨b,r,q⟩=>ag1 h r▸q,λq=>⟨ds,h,q⟩}
def ca2:W7 (.ref p) (b0 st p (.lst ds)) Q=Q (.tup ds) (b0 st p (.lst ds)):=bi0 ac0
def da6(h:rdS st a ds):bh4 (.ref a) st Q=Q (.bl AD) st:=propext {λ⟨b,r,q⟩=>q,λq=>⟨ds,h,q⟩}
def cp5:bh4 (.ref p) (b0 st p (.lst ds)) Q=Q (.bl AD) (b0 st p (.lst ds)):=da6 ac0
def B5(h:rdS st a ds):E4 (.ref a) st=True:=propext {λ_=>trivial,λ_=>⟨ds,h⟩}
def ch7:E4 (.ref p) (b0 st p (.lst ds))=True:=B5 ac0
def c30:di5 (.tup ds) st=True:=rfl
def E1(h:st a=AA (.lst ds)):ad4 (.ref a) d st Q=(ds.length<sizeLine/\Q .non (b0 st a (.lst (ds++[d])))):=propext {λ⟨b,r,q⟩=>by simp_all,λq=>⟨ds,h,q⟩}
def bp8{b}(h:st a=AA (.lst ds))(h':st b=AA (.lst es)):Y3 (.ref a) (.ref b) st Q=(ds.length+es.length<=sizeLine/\Q .non (b0 st a (.lst (ds++es)))):=(propext {λ⟨_,_,r,c,q⟩=>by simp_all,λq=>⟨ds,es,h,h',q⟩})
def ch6{t}{tb}{F}:A4 chk t tb F [] env st=(chk st/\F.nx env st):=by rw[A4]
def b53{t}{tb}{F}:A4 chk t tb F (d::ds) env st=(chk st/\E9 t d env λenv'=>tb {F with nx:=A4 chk t tb F ds,ct:=A4 chk t tb F ds,bk:=F.nx} env' st):=by rw[A4]
def bo2{k}{K}:E9 (.n k) d env K=K (env.set k (AA d)):=rfl
def cr5{is}{K}:E9 (.tup is) (.tup ds) env K=(ds.length=is.length/\K (T2 env is ds)):=propext {λ⟨a,r,q⟩=>by simp_all,λq=>⟨ds,rfl,q⟩}
def bv5{k}{is}:T2 env (k::is) (d::ds)=T2 (env.set k (AA d)) is ds:=rfl
def bw4:T2 env [] []=env:=rfl
def bc8{t}{tc}{te}{R}{acc}:B0 chk t tc te R [] acc env st=(chk st/\R acc st):=by rw[B0]
def a89{t}{tc}{te}{R}{acc}:B0 chk t tc te R (d::ds) acc env st=(chk st/\E9 t d env λenv'=>tc env' st λb st1=>if b=AD then te env' st1 λv st2=>B0 chk t tc te R ds (acc++[v]) env' st2 else B0 chk t tc te R ds acc env' st1):=by rw[B0]
def c95{k:ItK}:((∃b,D.tup ds=.tup b/\k b (λ_=>True) st)\/(∃a b,D.tup ds=.ref a/\rdS st a b/\k b (λst'=>rdS st' a b) st))=k ds (λ_=>True) st:=
 propext {λh=>by
  simp_all,λq=>.inl ⟨ds,rfl,q⟩}
def c17{k:ItK}:((∃b,D.tup ds=.tup b/\k (t9 0 b) (λ_=>True) st)\/(∃a b,D.tup ds=.ref a/\rdS st a b/\k (t9 0 b) (λst'=>rdS st' a b) st))=k (t9 0 ds) (λ_=>True) st:=
 propext {λh=>by
  simp_all,λq=>.inl ⟨ds,rfl,q⟩}
end
end
theorem J9{chk}{t}{tb}{F}(I:List D->i9->Sto->Prop)(c:∀env st,I [] env st->chk st/\F.nx env st)
  (b:∀d a env st,(∀env st,I a env st->A4 chk t tb F a env st)->I (d::a) env st->chk st/\E9 t d env λenv'=>tb {F with nx:=A4 chk t tb F a,ct:=A4 chk t tb F a,bk:=F.nx} env' st):∀a env st,I a env st->A4 chk t tb F a env st
 |[],env,st,h=>c env st h
 |d::a,env,st,h=>b d a env st (J9 I c b a) h
theorem R5{chk}{t}{tc}{te}{R}(I:List D->List D->i9->Sto->Prop)(f:∀a env st,I [] a env st->chk st/\R a st)
  (e:∀d c a env st,(∀a env st,I c a env st->B0 chk t tc te R c a env st)->I (d::c) a env st->chk st/\E9 t d env λenv'=>tc env' st λb st1=>if b=AD then te env' st1 λv st2=>B0 chk t tc te R c (a++[v]) env' st2 else B0 chk t tc te R c a env' st1):∀c a env st,I c a env st->B0 chk t tc te R c a env st
 |[],a,env,st,h=>f a env st h
 |d::c,a,env,st,h=>e d c a env st (R5 I f e c) h
def cj4{Z}{env}{st}{K}:O3 Z .non env st K=K AD st:=rfl
def aa3{Z}{c}{env}{st}{K}(h:c.isNon=AE):O3 Z c env st K=wpE Z c env st λd st'=>∃b,d=.bl b/\K b st':=by unfold O3;rw[h];rfl
def T3{i j:Int}(h:-(2^64)<j/\j<2^64):T9 i j:=.inl (.inr h)
def X0{i j:Int}(h:-(2^64)<i/\i<2^64):T9 i j:=.inl (.inl h)
def C7{n:Nat}(h:n<=16000000):n<=sizeLine:=BB h ∅
def C8{n:Nat}(h:n<16000000):n<sizeLine:=Ai h ∅
end Ek
namespace Ek
abbrev Ss.drop:Nat->Ss->Ss
 |0,s=>s
 |_+1,.nil=>.nil
 |k+1,.cons _ r=>Ss.drop k r
def dh0{ds}{R:PySem.Addr->List D->Prop}:(∃a b,D.tup ds=.ref a/\R a b)=False:=propext {λ⟨_,_,h,_⟩=>(by cases h),AU}
def dj9{a}{R:List D->Prop}:(∃b,D.ref a=.tup b/\R b)=False:=propext {λ⟨_,h,_⟩=>(by cases h),AU}
def dl9{a}{R:PySem.Addr->List D->Prop}:(∃b c,D.ref a=.ref b/\R b c)=∃c,R a c:=propext {λ⟨_,c,h,q⟩=>by cases h;show⟨c,q⟩,λ⟨c,q⟩=>⟨a,c,rfl,q⟩}
end Ek
namespace Ek
open PySem L2
section
section
variable {Z:Sg} {env:i9} {st:Sto} {k:Option Int->Sto->Prop} {K:Bool->Sto->Prop} {a b:E}
def cm6{o}:bnd Z (.bin o a b) env st k=wpE Z (.bin o a b) env st λd st'=>∃i,d=.int i/\k (AA i) st':=P1 rfl
def c72{j}:bnd Z (.v j) env st k=wpE Z (.v j) env st λd st'=>∃i,d=.int i/\k (AA i) st':=P1 rfl
def b50{g}:bnd Z (.gsel g a) env st k=wpE Z (.gsel g a) env st λd st'=>∃i,d=.int i/\k (AA i) st':=P1 rfl
def cj0:bnd Z (.len a) env st k=wpE Z (.len a) env st λd st'=>∃i,d=.int i/\k (AA i) st':=P1 rfl
def cm8:bnd Z (.neg a) env st k=wpE Z (.neg a) env st λd st'=>∃i,d=.int i/\k (AA i) st':=P1 rfl
def cs1:bnd Z (.ix a b) env st k=wpE Z (.ix a b) env st λd st'=>∃i,d=.int i/\k (AA i) st':=P1 rfl
def cb9{f}{es}:bnd Z (.call f es) env st k=wpE Z (.call f es) env st λd st'=>∃i,d=.int i/\k (AA i) st':=P1 rfl
def ci3{o}:O3 Z (.cmp o a b) env st K=wpE Z (.cmp o a b) env st λd st'=>∃b,d=.bl b/\K b st':=aa3 rfl
def cg4:O3 Z (.and a b) env st K=wpE Z (.and a b) env st λd st'=>∃b,d=.bl b/\K b st':=aa3 rfl
def ct2:O3 Z (.or a b) env st K=wpE Z (.or a b) env st λd st'=>∃b,d=.bl b/\K b st':=aa3 rfl
def cl0:O3 Z (.not a) env st K=wpE Z (.not a) env st λd st'=>∃b,d=.bl b/\K b st':=aa3 rfl
def b52{f}{es}:O3 Z (.call f es) env st K=wpE Z (.call f es) env st λd st'=>∃b,d=.bl b/\K b st':=aa3 rfl
end
def bf3{n d:Nat}:HT.sIx n d AF=d:=rfl
def bn0{n d k:Nat}:HT.sIx n d (AA k)=min k n:=rfl
def cu9{ds}{k:Nat}:A6 ds AF (AA k)=ds.take k:=by
 unfold A6;rw[bf3,bn0]
 simp_all
def b61{ds}{k:Nat}:A6 ds (AA k) AF=ds.drop k:=by
 unfold A6;rw[bf3,bn0]
 by_cases h:k<=ds.length
 ·rw[Hm h,DY (by rw[Bv];lia)]
 ·rw[Gq ⋯,Ey (AS _),Ey ⋯,List.take_nil]
variable{st:Sto}{a:AI}{ds:List D}{Q:DK}
def c82{es}(h:st a=AA (.lst ds)):Y3 (.ref a) (.tup es) st Q=(ds.length+es.length<=sizeLine/\Q .non (b0 st a (.lst (ds++es)))):=propext {λ⟨_,r,q⟩=>by simp_all,λq=>⟨ds,h,q⟩}
def cm5{Z}{F}{env}{c}{b}:wpS Z (.while c b) F env st=∃n,A8 (wpT Z c) (j7 Z b) F n env st:=rfl
def cg8{Z}{e}{env}{K}:wpT Z e env st K=wpE Z e env st λd st'=>∃b,d=.bl b/\K b st':=rfl
def b02{tc}{tb}{F}(I:Nat->i9->Sto->Prop)(d:∀m env st W,I m env st->(∀m' a c,m'<m->I m' a c->W a c)->tc env st λb st1=>if b=AD then tb {F with nx:=W,ct:=W,bk:=F.nx} env st1 else F.nx env st1):∀m env st,I m env st->∃n,A8 tc tb F n env st:=by
 have e:∀k m env st,m<=k->I m env st->A8 tc tb F (k+1) env st:=by
  intro k
  induction k with
  |zero=>
   intro m env st l f;show d m env st _ f λm' a c hlt _=>by lia
  |succ k j=>
   intro m env st l f;show d m env st _ f λm' a c hlt=>j m' a c ⋯
 show λm env st f=>{m+1,e m m env st (AS _) f}
def X4{d}(h:st a=AA (.lst (ds++[d]))):ad3 (.ref a) st Q=Q d (b0 st a (.lst ds)):=by
 apply propext {λ b=>?_,λq=>⟨ds,d,h,q⟩};let{c,e,r,q}:=b;simp_all
def dd3(h:st a=AA (.lst ds)):ac6 (.ref a) st Q=Q .non (b0 st a (.lst ds.reverse)):=propext {λ⟨_,r,q⟩=>by grind,λq=>⟨ds,h,q⟩}
def dj2{f}{Q:Str->Prop}:(∃g,AA (AA (D.fn f))=AA (AA (.fn g))/\Q g)=Q f:=propext {λ⟨_,h,q⟩=>by grind,λq=>⟨f,rfl,q⟩}
end
section
variable{x:String}
section
variable {Z:Sg} {F:DEnds} {env:i9} {st:Sto} {Q:DK} {a b c e:D} {l:List D} {A B:Prop} {i:Nat} {s:S} {t u:Ss}
def ai1{n:Nat}{k:Int}(e:k=n)(h:l[n]?=AA a):ixR (.tup l) (.int k) st Q=Q a st:=by
 subst e;show propext {λ⟨_,h',q⟩=>by rw[z8,h]at h';cases h';show q,λq=>{a,z8▸h,q}}
def di6:ixR (.tup (a::l)) (.int 0) st Q=Q a st:=ai1 rfl rfl
def dl4:ixR (.tup (b::a::l)) (.int 1) st Q=Q a st:=ai1 rfl rfl
def dk2:ixR (.tup (b::c::a::l)) (.int 2) st Q=Q a st:=ai1 rfl rfl
def dj5:ixR (.tup (b::c::e::a::l)) (.int 3) st Q=Q a st:=ai1 rfl rfl
def dk5:(∃k,D.bl AD=.bl k/\if k=AD then A else B)=A:=propext {λ⟨_,h,q⟩=>by simp_all,λq=>⟨_,rfl,q⟩}
def dk3:(∃k,D.bl AE=.bl k/\if k=AD then A else B)=B:=propext {λ⟨_,h,q⟩=>by simp_all,λq=>⟨_,rfl,q⟩}
def de7:o9 .Eq (.str (Aa x)) (.str (Aa x)) st Q=Q (.bl AD) st:=by rw[au8,decide_eq_true rfl]
def c42{y}(h:AB (x=y)=AE):o9 .Eq (.str (Aa x)) (.str (Aa y)) st Q=Q (.bl AE) st:=by rw[au8,h]
def c61:o9 .NotEq (.str (Aa x)) (.str (Aa x)) st Q=Q (.bl AE) st:=by rw[ac3,decide_eq_true rfl];rfl
def bp0{y}(h:AB (x=y)=AE):o9 .NotEq (.str (Aa x)) (.str (Aa y)) st Q=Q (.bl AD) st:=by rw[ac3,h];rfl
def dm6(h:wpS Z s {j7 Z t F,F.rt,F.bk,F.ct} env st):j7 Z (.cons s t) F env st:=h
end
end
inductive Kd where
 |non|one|eith (a b:Kd)|both (a b:Kd)|way (a b:Kd)
 deriving DecidableEq
abbrev Kd.d:Kd->D
 |.non=>.tup [.str "none"]
 |.one=>.tup [.str "one"]
 |.eith a b=>.tup [.str "either",a.d,b.d]
 |.both a b=>.tup [.str "both",a.d,b.d]
 |.way a b=>.tup [.str "way",a.d,b.d]
abbrev Kd.cnt:Kd->Nat
 |.non=>0|.one=>1
 |.eith a b=>a.cnt+b.cnt
 |.both a b=>a.cnt*b.cnt
 |.way a b=>b.cnt^a.cnt
abbrev Kd.nest:Kd->Nat
 |.non=>0|.one=>0
 |.eith a b=>1+max a.nest b.nest
 |.both a b=>1+max a.nest b.nest
 |.way a b=>1+max a.nest b.nest
abbrev Kd.bd(m:Nat):Kd->Prop
 |.non=>True|.one=>1<=m
 |.eith a b=>a.bd m/\b.bd m/\a.cnt+b.cnt<=m
 |.both a b=>a.bd m/\b.bd m/\a.cnt*b.cnt<=m
 |.way a b=>a.bd m/\b.bd m/\b.cnt^a.cnt<=m
def Kd.bd_le{m:Nat}:∀{k:Kd},k.bd m->k.cnt<=m
 |.non,_=>BM _
 |.one,h=>h
 |.eith _ _,h=>h.2.2
 |.both _ _,h=>h.2.2
 |.way _ _,h=>h.2.2
def at2:∀a b:Kd,deq a.d b.d=AB (a=b):=by
 intro a
 induction a with
 |non=>intro b;cases b<;>simp[Kd.d,V9,E6,M8,v5]
 |one=>intro b;cases b<;>simp[Kd.d,V9,E6,M8,v5]
 |eith a c f e=>intro b;cases b<;>simp[Kd.d,V9,E6,M8,v5,f,e]
 |both a c f e=>intro b;cases b<;>simp[Kd.d,V9,E6,M8,v5,f,e]
 |way a c f e=>intro b;cases b<;>simp[Kd.d,V9,E6,M8,v5,f,e]
def F9{d}{r}:D.pures (d::r)=(d.pure&&D.pures r):=rfl
def M7:D.pures []=AD:=rfl
def R7{r:List D}:(D.tup r).pure=D.pures r:=rfl
def cb1{i:Int}:(D.int i).pure=AD:=rfl
theorem N0:∀k:Kd,k.d.pure=AD
 |.non=>by erw[Kd.d,R7,F9,M7,t0,Bw]
 |.one=>by erw[Kd.d,R7,F9,M7,t0,Bw]
 |.eith a b=>by erw[Kd.d,R7,F9,M7,t0,N0 a,N0 b,Bw]
 |.both a b=>by erw[Kd.d,R7,F9,M7,t0,N0 a,N0 b,Bw]
 |.way a b=>by erw[Kd.d,R7,F9,M7,t0,N0 a,N0 b,Bw]
abbrev D9:List D->Nat
 |[]=>0
 |d::r=>max (o6 d) (D9 r)
theorem a98:∀l,Cg (D.pys l)=D9 l
 |[]=>rfl
 |d::r=>by change max (Fs d.py) (Cg (D.pys r))=_;rw[a98 r];rfl
def N4{l}:o6 (.tup l)=D9 l+1:=by
 change Fs (.tuple (D.pys l))=_;rw[Fs,a98]
theorem U0:∀k:Kd,o6 k.d=k.nest+1
 |.non=>by rfl
 |.one=>by rfl
 |.eith a b=>by erw[Kd.d,N4,D9,G5,Kd.nest,U0 a,U0 b,Ls];lia
 |.both a b=>by erw[Kd.d,N4,D9,G5,Kd.nest,U0 a,U0 b,Ls];lia
 |.way a b=>by erw[Kd.d,N4,D9,G5,Kd.nest,U0 a,U0 b,Ls];lia
inductive Pg where
 |name (n:Nat)|star|pair (t u:Pg)|first (t:Pg)|second (t:Pg)|left (b:Kd) (t:Pg)|right (a:Kd) (t:Pg)
 |case (t u v:Pg)|way (a:Kd) (t:Pg)|give (t u:Pg)|lets (t u:Pg)|never (k:Kd) (t:Pg)
 deriving DecidableEq
abbrev Pg.d:Pg->D
 |.name n=>.tup [.str "name",.int n]
 |.star=>.tup [.str "star"]
 |.pair t u=>.tup [.str "pair",t.d,u.d]
 |.first t=>.tup [.str "first",t.d]
 |.second t=>.tup [.str "second",t.d]
 |.left b t=>.tup [.str "left",b.d,t.d]
 |.right a t=>.tup [.str "right",a.d,t.d]
 |.case t u v=>.tup [.str "case",t.d,u.d,v.d]
 |.way a t=>.tup [.str "way",a.d,t.d]
 |.give t u=>.tup [.str "give",t.d,u.d]
 |.lets t u=>.tup [.str "let",t.d,u.d]
 |.never k t=>.tup [.str "never",k.d,t.d]
abbrev Pg.kind(Γ:List Kd):Pg->Option Kd
 |.name n=>Γ[n]?
 |.star=>AA .one
 |.pair t u=>match t.kind Γ,u.kind Γ with
  |some a,AA b=>AA (.both a b)
  |_,_=>AF
 |.first t=>match t.kind Γ with
  |some (.both a _)=>AA a
  |_=>AF
 |.second t=>match t.kind Γ with
  |some (.both _ b)=>AA b
  |_=>AF
 |.left b t=>match t.kind Γ with
  |some a=>AA (.eith a b)
  |_=>AF
 |.right a t=>match t.kind Γ with
  |some b=>AA (.eith a b)
  |_=>AF
 |.case t u v=>match t.kind Γ with
  |some (.eith a b)=>match u.kind (a::Γ),v.kind (b::Γ)with
   |some k,AA l=>if k=l then AA k else AF
   |_,_=>AF
  |_=>AF
 |.way a t=>match t.kind (a::Γ)with
  |some b=>AA (.way a b)
  |_=>AF
 |.give t u=>match t.kind Γ,u.kind Γ with
  |some (.way a b),AA c=>if a=c then AA b else AF
  |_,_=>AF
 |.lets t u=>match t.kind Γ with
  |some a=>u.kind (a::Γ)
  |_=>AF
 |.never k t=>match t.kind Γ with
  |some .non=>AA k
  |_=>AF
abbrev Pg.kids:Pg->List Pg
 |.name _=>[]|.star=>[]
 |.pair t u=>[t,u]|.first t=>[t]|.second t=>[t]|.left _ t=>[t]|.right _ t=>[t]
 |.case t u v=>[t,u,v]|.way _ t=>[t]|.give t u=>[t,u]|.lets t u=>[t,u]|.never _ t=>[t]
abbrev Pg.hgt:Pg->Nat
 |.name _=>1|.star=>1
 |.pair t u=>1+max t.hgt u.hgt|.first t=>1+t.hgt|.second t=>1+t.hgt|.left _ t=>1+t.hgt|.right _ t=>1+t.hgt
 |.case t u v=>1+max t.hgt (max u.hgt v.hgt)|.way _ t=>1+t.hgt|.give t u=>1+max t.hgt u.hgt|.lets t u=>1+max t.hgt u.hgt|.never _ t=>1+t.hgt
abbrev Pg.parts:Pg->Nat
 |.name _=>1|.star=>1
 |.pair t u=>1+t.parts+u.parts|.first t=>1+t.parts|.second t=>1+t.parts|.left _ t=>1+t.parts|.right _ t=>1+t.parts
 |.case t u v=>1+t.parts+u.parts+v.parts|.way _ t=>1+t.parts|.give t u=>1+t.parts+u.parts|.lets t u=>1+t.parts+u.parts|.never _ t=>1+t.parts
abbrev Pg.kn(m:Nat):Pg->Prop
 |.name _=>True|.star=>True
 |.pair t u=>t.kn m/\u.kn m|.first t=>t.kn m|.second t=>t.kn m|.left b t=>b.nest<=m/\t.kn m|.right a t=>a.nest<=m/\t.kn m
 |.case t u v=>t.kn m/\u.kn m/\v.kn m|.way a t=>a.nest<=m/\t.kn m|.give t u=>t.kn m/\u.kn m|.lets t u=>t.kn m/\u.kn m|.never k t=>k.nest<=m/\t.kn m
def be6(p:Pg):p.d.pure=AD:=by
 induction p<;>simp only[Pg.d,R7,F9,M7,t0,cb1,N0,Bw, *]
inductive Kn:List Kd->Pg->Kd->Prop
 |name {Γ n k}:Γ[n]?=AA k->Kn Γ (.name n) k
 |star {Γ}:Kn Γ .star .one
 |pair {Γ t u a b}:Kn Γ t a->Kn Γ u b->Kn Γ (.pair t u) (.both a b)
 |first {Γ t a b}:Kn Γ t (.both a b)->Kn Γ (.first t) a
 |second {Γ t a b}:Kn Γ t (.both a b)->Kn Γ (.second t) b
 |left {Γ t a b}:Kn Γ t a->Kn Γ (.left b t) (.eith a b)
 |right {Γ t a b}:Kn Γ t b->Kn Γ (.right a t) (.eith a b)
 |case {Γ t u v a b c}:Kn Γ t (.eith a b)->Kn (a::Γ) u c->Kn (b::Γ) v c->Kn Γ (.case t u v) c
 |way {Γ t a b}:Kn (a::Γ) t b->Kn Γ (.way a t) (.way a b)
 |give {Γ t u a b}:Kn Γ t (.way a b)->Kn Γ u a->Kn Γ (.give t u) b
 |lets {Γ t u a b}:Kn Γ t a->Kn (a::Γ) u b->Kn Γ (.lets t u) b
 |never {Γ t b}:Kn Γ t .non->Kn Γ (.never b t) b
theorem Kn.kind{Γ}{p}{k}(h:Kn Γ p k):p.kind Γ=AA k:=by
 induction h with
 |name h=>show h
 |star=>rfl
 |pair _ _ i j=>unfold Pg.kind;rw[i,j]
 |give _ _ i j=>unfold Pg.kind;rw[i,j];show if_pos rfl
 |first _ i|second _ i|left _ i|right _ i|way _ i|never _ i=>unfold Pg.kind;rw[i]
 |lets _ _ i j=>unfold Pg.kind;rw[i];show j
 |case _ _ _ i j l=>unfold Pg.kind;rw[i];change(match Pg.kind _ _,Pg.kind _ _ with|some k,AA l=>if k=l then AA k else AF|_,_=>AF)=_;rw[j,l];show if_pos rfl
def D5:∀{p:Pg}{Γ:List Kd}{k:Kd},p.kind Γ=AA k->Kn Γ p k:=by
 intro p
 induction p with
 |name n=>show λh=>.name h
 |star=>intro Γ k h;cases h;show .star
 |pair t u i j=>
  intro Γ k h;unfold Pg.kind at h;cases e:t.kind Γ with
  |none=>rw[e]at h;cases h
  |some a=>cases f:u.kind Γ with
   |none=>rw[e,f]at h;cases h
   |some b=>rw[e,f]at h;cases h;show .pair (i e) (j f)
 |first t i=>
  intro Γ k h;unfold Pg.kind at h;cases e:t.kind Γ with
  |none=>rw[e]at h;cases h
  |some a=>rw[e]at h;cases a<;>cases h;show .first (i e)
 |second t i=>
  intro Γ k h;unfold Pg.kind at h;cases e:t.kind Γ with
  |none=>rw[e]at h;cases h
  |some a=>rw[e]at h;cases a<;>cases h;show .second (i e)
 |left b t i=>
  intro Γ k h;unfold Pg.kind at h;cases e:t.kind Γ with
  |none=>rw[e]at h;cases h
  |some a=>rw[e]at h;cases h;show .left (i e)
 |right b t i=>
  intro Γ k h;unfold Pg.kind at h;cases e:t.kind Γ with
  |none=>rw[e]at h;cases h
  |some a=>rw[e]at h;cases h;show .right (i e)
 |case t u v i j l=>
  intro Γ k h;unfold Pg.kind at h;cases e:t.kind Γ with
  |none=>rw[e]at h;cases h
  |some a=>
   rw[e]at h;cases a<;>first|cases h;done|skip
   rename_i a b;replace h:(match u.kind (a::Γ),v.kind (b::Γ)with|some k,AA l=>if k=l then AA k else AF|_,_=>AF)=AA k:=h;cases f:u.kind (a::Γ)with
   |none=>rw[f]at h;cases h
   |some c=>cases g:v.kind (b::Γ)with
    |none=>rw[f,g]at h;cases h
    |some d=>
     rw[f,g]at h
     by_cases z:c=d
     ·cases(if_pos z).symm.trans h;cases z;show .case (i e) (j f) (l g)
     ·cases(if_neg z).symm.trans h
 |way a t i=>
  intro Γ k h;unfold Pg.kind at h;cases e:t.kind (a::Γ)with
  |none=>rw[e]at h;cases h
  |some a=>rw[e]at h;cases h;show .way (i e)
 |give t u i j=>
  intro Γ k h;unfold Pg.kind at h;cases e:t.kind Γ with
  |none=>rw[e]at h;cases h
  |some a=>cases f:u.kind Γ with
   |none=>rw[e,f]at h;cases a<;>cases h
   |some c=>
    rw[e,f]at h;cases a<;>first|cases h;done|skip
    rename_i a b
    by_cases z:a=c
    ·cases(if_pos z).symm.trans h;cases z;show .give (i e) (j f)
    ·cases(if_neg z).symm.trans h
 |lets t u i j=>
  intro Γ k h;unfold Pg.kind at h;cases e:t.kind Γ with
  |none=>rw[e]at h;cases h
  |some a=>rw[e]at h;show .lets (i e) (j h)
 |never b t i=>
  intro Γ k h;unfold Pg.kind at h;cases e:t.kind Γ with
  |none=>rw[e]at h;cases h
  |some a=>rw[e]at h;cases a<;>cases h;show .never (i e)
end Ek
namespace Ek
open PySem
abbrev al2:Def:={3,["whole","parts_of","made","order","done","here","many"],#v[.set 3 (.call "order_of_few" #v[.v 0,.v 1]),.iff (.isN (.v 3)) #v[.dead] .nil,.set 4 (.lst .nil),.for (.tup [5,6]) (.rev (.v 3)) #v[.ex (.app (.v 4) (.callv 2 #v[.v 5,.ite (.cmp .Gt (.v 6) (.int 0)) (.call "taken" #v[.v 4,.v 6]) (.lst .nil)]))],.ret (.ix (.v 4) (.int 0))]}
abbrev am5:Def:={2,["whole","parts_of","order","ahead","here","parts"],#v[.set 2 (.lst .nil),.set 3 (.lst #v[.v 0]),.while (.cmp .Gt (.len (.v 3)) (.int 0)) #v[.set 4 (.pop (.v 3)),.set 5 (.callv 1 #v[.v 4]),.ex (.app (.v 2) (.tup #v[.v 4,.len (.v 5)])),.ex (.ext (.v 3) (.v 5)),.iff (.cmp .Gt (.len (.v 2)) (.gc "FEW")) #v[.ret .non] .nil],.ret (.v 2)]}
abbrev ar6:Def:={2,["done","many","parts","number"],#v[.set 2 (.lst .nil),.for (.n 3) (.rng (.v 1)) #v[.ex (.app (.v 2) (.pop (.v 0)))],.ex (.lrev (.v 2)),.ret (.v 2)]}
abbrev ak0:Def:={1,["self"],#v[.fldS (.v 0) "numbers" .dnt,.fldS (.v 0) "stored" (.lst .nil),.fldS (.v 0) "parts" (.lst .nil),.fldS (.v 0) "waiting" (.lst .nil)]}
abbrev Y5:Def:={3,["self","kind","deep"],#v[.iff (.cmp .Eq (.len (.v 1)) (.int 1)) #v[.ret (.meth (.v 0) "numbered" #v[.v 1,.tup .nil])] .nil,.iff (.cmp .Eq (.v 2) (.int 0)) #v[.ret (.meth (.v 0) "laid" #v[.v 1])] .nil,.ret (.meth (.v 0) "built" #v[.ix (.v 1) (.int 0),.meth (.v 0) "laid_kind" #v[.ix (.v 1) (.int 1),.bin .Sub (.v 2) (.int 1)],.meth (.v 0) "laid_kind" #v[.ix (.v 1) (.int 2),.bin .Sub (.v 2) (.int 1)]])]}
abbrev an3:Def:={4,["self","word","first","second"],#v[.ret (.meth (.v 0) "numbered" #v[.tup #v[.v 1],.tup #v[.v 2,.v 3]])]}
abbrev aj9:Def:={3,["self","front","numbers","key","number"],#v[.set 3 (.tup #v[.v 1,.v 2]),.set 4 (.dgt (.fld (.v 0) "numbers") (.v 3)),.iff (.isN (.v 4)) #v[.set 4 (.len (.fld (.v 0) "stored")),.dput (.fld (.v 0) "numbers") (.v 3) (.v 4),.ex (.app (.fld (.v 0) "stored") (.bin .Add (.v 1) (.tuple (.comp ["self","part"] [0] 1 (.n 1) (.seq (.v 2)) .non (.ix (.fld (.v 0) "stored") (.v 1)))))),.ex (.app (.fld (.v 0) "parts") (.v 2))] .nil,.ret (.v 4)]}
abbrev am2:Def:={2,["self","kind"],#v[.ex (.app (.fld (.v 0) "waiting") (.tup #v[.v 1,.non])),.ret (.neg (.len (.fld (.v 0) "waiting")))]}
abbrev ak1:Def:={2,["self","number","waited"],#v[.iff (.cmp .GtE (.v 1) (.int 0)) #v[.ret (.v 1)] .nil,.set 2 (.ix (.fld (.v 0) "waiting") (.bin .Sub (.neg (.int 1)) (.v 1))),.iff (.isN (.ix (.v 2) (.int 1))) #v[.set 2 (.tup #v[.ix (.v 2) (.int 0),.methd (.v 0) "laid_kind" #v[.ix (.v 2) (.int 0)]]),.put (.fld (.v 0) "waiting") (.bin .Sub (.neg (.int 1)) (.v 1)) (.v 2)] .nil,.ret (.ix (.v 2) (.int 1))]}
abbrev ak2:Def:={2,["self","number"],#v[.ret (.ix (.fld (.v 0) "stored") (.v 1))]}
abbrev ak7:Def:={2,["self","number"],#v[.ret (.ix (.ix (.fld (.v 0) "stored") (.v 1)) (.int 0))]}
abbrev am6:Def:={2,["self","number"],#v[.ret (.ix (.fld (.v 0) "parts") (.v 1))]}
abbrev al1:Def:={4,["self","program","inside","number"],#v[.fldS (.v 0) "program" (.v 1),.fldS (.v 0) "inside" (.v 2),.fldS (.v 0) "number" (.v 3),.fldS (.v 0) "holders" (.int 0),.fldS (.v 0) "ways" (.int 0),.fldS (.v 0) "used" .non,.fldS (.v 0) "kind" .non]}
abbrev at1:Def:={1,["program"],#v[.ret (.list (.sl (.v 0) (.gsel "INNER_FROM" (.ix (.v 0) (.int 0))) .non))]}
abbrev Y9:Def:={2,["program","parts"],#v[.ret (.bin .Add (.sl (.v 0) .non (.gsel "INNER_FROM" (.ix (.v 0) (.int 0)))) (.tuple (.v 1)))]}
abbrev an9:Def:={2,["program","number"],#v[.ret (.ite (.cmp .In (.v 1) (.gget "UNDER_ONE_MORE" (.ix (.v 0) (.int 0)) (.tup .nil))) (.int 1) (.int 0))]}
abbrev at0:Def:={2,["program","nodes","made","!nodes","!"],#v[.dfn 2 2 ["here","inside","nodes","node","part"] [1] #v[.set 3 (.make "Node" #v[.v 0,.v 1,.len (.v 2)]),.ex (.app (.v 2) (.v 3)),.for (.n 4) (.seq (.v 1)) #v[.fldS (.v 4) "holders" (.bin .Add (.fld (.v 4) "holders") (.int 1)),.fldS (.v 3) "ways" (.max (.fld (.v 3) "ways") (.fld (.v 4) "ways"))],.iff (.cmp .Eq (.ix (.v 0) (.int 0)) (.str "way")) #v[.fldS (.v 3) "ways" (.bin .Add (.fld (.v 3) "ways") (.int 1))] .nil,.ret (.v 3)],.ret (.call "made_of_parts" #v[.v 0,.gf "inner",.v 2])]}
abbrev O9:Def:={4,["node","known","named","made","begun","answers","before","here","number","key","answer"],#v[.set 4 (.lst #v[.v 0]),.set 5 (.lst #v[.lst .nil]),.set 6 .dnt,.while (.bl AD) #v[.set 7 (.ix (.v 4) (.neg (.int 1))),.set 8 (.len (.ix (.v 5) (.neg (.int 1)))),.set 9 (.ite (.cmp .Gt (.fld (.v 7) "holders") (.int 1)) (.call "known_for" #v[.v 7,.v 1]) .non),.iff (.and (.din AD (.v 9) (.v 6)) (.cmp .Lt (.v 8) (.len (.fld (.v 7) "inside")))) #v[.iff (.cmp .Eq (.call "names_more" #v[.fld (.v 7) "program",.v 8]) (.int 1)) #v[.ex (.app (.v 1) (.callv 2 #v[.fld (.v 7) "program",.ix (.v 5) (.neg (.int 1)),.v 8]))] .nil,.ex (.app (.v 4) (.ix (.fld (.v 7) "inside") (.v 8))),.ex (.app (.v 5) (.lst .nil)),.cont] .nil,.set 10 (.ite (.din AE (.v 9) (.v 6)) (.ix (.v 6) (.v 9)) (.callv 3 #v[.v 7,.ix (.v 5) (.neg (.int 1)),.v 1])),.iff (.notN (.v 9)) #v[.dput (.v 6) (.v 9) (.v 10)] .nil,.ex (.pop (.v 4)),.ex (.pop (.v 5)),.iff (.cmp .Eq (.len (.v 4)) (.int 0)) #v[.ret (.v 10)] .nil,.iff (.cmp .Eq (.call "names_more" #v[.fld (.ix (.v 4) (.neg (.int 1))) "program",.len (.ix (.v 5) (.neg (.int 1)))]) (.int 1)) #v[.ex (.pop (.v 1))] .nil,.ex (.app (.ix (.v 5) (.neg (.int 1))) (.v 10))]]}
abbrev al0:Def:={2,["names","shelf"],#v[.ret (.comp ["shelf","kind"] [1] 1 (.n 1) (.revt (.v 0)) .non (.meth (.v 0) "put_by" #v[.v 1]))]}
abbrev an2:Def:={3,["program","known","shelf"],#v[.ret (.call "kind_of_node" #v[.call "noded" #v[.v 0,.lst .nil],.v 1,.v 2])]}
abbrev am1:Def:={3,["node","known","shelf","named","made","!shelf","!"],#v[.dfn 3 3 ["here","kinds","number","shelf"] [2] #v[.ret (.call "new_name" #v[.v 0,.v 1,.v 2,.v 3])],.dfn 4 3 ["here","kinds","known_here","shelf","kind"] [2] #v[.set 4 (.call "kind_by_parts" #v[.fld (.v 0) "program",.v 1,.v 2,.v 3]),.fldS (.v 0) "kind" (.ite (.or (.isN (.fld (.v 0) "kind")) (.cmp .Eq (.fld (.v 0) "kind") (.v 4))) (.v 4) (.neg (.int 1))),.ret (.v 4)],.ret (.call "folded" #v[.v 0,.v 1,.v 3,.v 4])]}
abbrev ad8:Def:={4,["program","kinds","known","shelf"],#v[.ret (.callx (.gsel "BY_WORD" (.ix (.v 0) (.int 0))) #v[.v 0,.v 1,.v 2,.v 3])]}
abbrev ao9:Def:={4,["program","kinds","number","shelf"],#v[.iff (.cmp .Eq (.ix (.v 0) (.int 0)) (.str "way")) #v[.ret (.methd (.v 3) "laid_kind" #v[.ix (.v 0) (.int 1)])] .nil,.iff (.cmp .Eq (.ix (.v 0) (.int 0)) (.str "let")) #v[.ret (.ix (.v 1) (.int 0))] .nil,.ret (.ix (.call "halves_of" #v[.str "either",.ix (.v 1) (.int 0),.v 3]) (.bin .Sub (.v 2) (.int 1)))]}
abbrev ae2:Def:={3,["word","kind","shelf"],#v[.iff (.cmp .NotEq (.meth (.v 2) "word_at" #v[.v 1]) (.v 0)) #v[.raise] .nil,.ret (.meth (.v 2) "within" #v[.v 1])]}
abbrev ae0:Def:={4,["program","kinds","known","shelf","number"],#v[.set 4 (.ix (.v 0) (.int 1)),.iff (.or (.cmp .Lt (.v 4) (.int 0)) (.cmp .GtE (.v 4) (.len (.v 2)))) #v[.raise] .nil,.ret (.meth (.v 3) "taken_up" #v[.ix (.v 2) (.bin .Sub (.bin .Sub (.len (.v 2)) (.int 1)) (.v 4))])]}
abbrev an1:Def:={4,["program","kinds","known","shelf"],#v[.ret (.meth (.v 3) "numbered" #v[.tup #v[.str "one"],.tup .nil])]}
abbrev am0:Def:={4,["program","kinds","known","shelf"],#v[.ret (.meth (.v 3) "built" #v[.str "both",.ix (.v 1) (.int 0),.ix (.v 1) (.int 1)])]}
abbrev al5:Def:={4,["program","kinds","known","shelf"],#v[.ret (.ix (.call "halves_of" #v[.str "both",.ix (.v 1) (.int 0),.v 3]) (.int 0))]}
abbrev ak3:Def:={4,["program","kinds","known","shelf"],#v[.ret (.ix (.call "halves_of" #v[.str "both",.ix (.v 1) (.int 0),.v 3]) (.int 1))]}
abbrev am9:Def:={4,["program","kinds","known","shelf"],#v[.ret (.meth (.v 3) "built" #v[.str "either",.ix (.v 1) (.int 0),.methd (.v 3) "laid_kind" #v[.ix (.v 0) (.int 1)]])]}
abbrev al4:Def:={4,["program","kinds","known","shelf"],#v[.ret (.meth (.v 3) "built" #v[.str "either",.methd (.v 3) "laid_kind" #v[.ix (.v 0) (.int 1)],.ix (.v 1) (.int 0)])]}
abbrev al8:Def:={4,["program","kinds","known","shelf"],#v[.iff (.cmp .NotEq (.ix (.v 1) (.int 1)) (.ix (.v 1) (.int 2))) #v[.raise] .nil,.ret (.ix (.v 1) (.int 1))]}
abbrev an6:Def:={4,["program","kinds","known","shelf"],#v[.ret (.meth (.v 3) "built" #v[.str "way",.methd (.v 3) "laid_kind" #v[.ix (.v 0) (.int 1)],.ix (.v 1) (.int 0)])]}
abbrev ae1:Def:={4,["program","kinds","known","shelf","ends"],#v[.set 4 (.call "halves_of" #v[.str "way",.ix (.v 1) (.int 0),.v 3]),.iff (.cmp .NotEq (.ix (.v 4) (.int 0)) (.ix (.v 1) (.int 1))) #v[.raise] .nil,.ret (.ix (.v 4) (.int 1))]}
abbrev an7:Def:={4,["program","kinds","known","shelf"],#v[.ret (.ix (.v 1) (.int 1))]}
abbrev ak8:Def:={4,["program","kinds","known","shelf"],#v[.iff (.cmp .NotEq (.meth (.v 3) "word_at" #v[.ix (.v 1) (.int 0)]) (.str "none")) #v[.raise] .nil,.ret (.methd (.v 3) "laid_kind" #v[.ix (.v 0) (.int 1)])]}
abbrev aq2:Def:={3,["program","many","least","changed","!least","!many","!"],#v[.iff (.cmp .Eq (.v 1) (.int 0)) #v[.ret (.v 0)] .nil,.dfn 3 2 ["part","under","least","many"] [2,1] #v[.iff (.and (.cmp .Eq (.ix (.v 0) (.int 0)) (.str "name")) (.and (.cmp .GtE (.ix (.v 0) (.int 1)) (.v 1)) (.cmp .GtE (.bin .Sub (.ix (.v 0) (.int 1)) (.v 1)) (.v 2)))) #v[.ret (.tup #v[.str "name",.bin .Add (.ix (.v 0) (.int 1)) (.v 3)])] .nil,.ret .non],.ret (.call "with_parts" #v[.v 0,.v 3])]}
abbrev ap8:Def:={2,["program","other","copies","changed","!copies","!other","!"],#v[.pre 2,.dfn 3 2 ["part","under","copies","other"] [2,1] #v[.iff (.or (.cmp .NotEq (.ix (.v 0) (.int 0)) (.str "name")) (.cmp .Lt (.ix (.v 0) (.int 1)) (.v 1))) #v[.ret .non] .nil,.iff (.cmp .Eq (.ix (.v 0) (.int 1)) (.v 1)) #v[.ret (.call "copy_under" #v[.v 2,.v 3,.v 1])] .nil,.ret (.tup #v[.str "name",.bin .Sub (.ix (.v 0) (.int 1)) (.int 1)])],.ret (.call "with_parts" #v[.v 0,.v 3])]}
abbrev ao2:Def:={3,["copies","program","under"],#v[.iff (.cmp .NotIn (.v 2) (.v 0)) #v[.iput (.v 0) (.v 2) (.call "lifted" #v[.v 1,.v 2,.int 0])] .nil,.ret (.ix (.v 0) (.v 2))]}
abbrev ao0:Def:={2,["program","changed","parts_of","made","!changed","!"],#v[.dfn 2 1 ["here","changed"] [1] #v[.ret (.ite (.notN (.callv 1 #v[.ix (.v 0) (.int 0),.ix (.v 0) (.int 1)])) (.lst .nil) (.call "inner_under" #v[.v 0]))],.dfn 3 2 ["here","parts","changed","other"] [1] #v[.set 3 (.ite (.cmp .Eq (.len (.v 1)) (.int 0)) (.callv 2 #v[.ix (.v 0) (.int 0),.ix (.v 0) (.int 1)]) .non),.iff (.any (.comp ["part"] [] 1 (.n 0) (.seq (.v 1)) .non (.ix (.v 0) (.int 1)))) #v[.set 3 (.call "with_inner" #v[.ix (.v 0) (.int 0),.comp ["part"] [] 1 (.n 0) (.seq (.v 1)) .non (.ix (.v 0) (.int 0))])] .nil,.ret (.ite (.isN (.v 3)) (.tup #v[.ix (.v 0) (.int 0),.bl AE]) (.tup #v[.v 3,.bl AD]))],.ret (.ix (.call "made_of_parts" #v[.tup #v[.v 0,.int 0],.v 2,.v 3]) (.int 0))]}
abbrev an5:Def:={1,["here","part"],#v[.set 1 (.ix (.v 0) (.int 0)),.ret (.comp ["here","part","number","one"] [0,1] 2 (.tup [2,3]) (.enum (.call "inner" #v[.v 1])) .non (.tup #v[.v 3,.bin .Add (.ix (.v 0) (.int 1)) (.call "names_more" #v[.v 1,.v 2])]))]}
abbrev ad7:Def:={2,["one","other","ahead","turn","here","shelf"],#v[.set 2 (.lst #v[.tup #v[.v 0,.v 1]]),.for (.n 3) (.rng (.gc "FEW")) #v[.iff (.cmp .Eq (.len (.v 2)) (.int 0)) #v[.ret (.bl AD)] .nil,.set 4 (.pop (.v 2)),.iff (.and (.isT "tuple" (.ix (.v 4) (.int 0))) (.isT "tuple" (.ix (.v 4) (.int 1)))) #v[.iff (.cmp .NotEq (.len (.ix (.v 4) (.int 0))) (.len (.ix (.v 4) (.int 1)))) #v[.ret (.bl AE)] .nil,.ex (.ext (.v 2) (.lzip (.ix (.v 4) (.int 0)) (.ix (.v 4) (.int 1))))] #v[.iff (.cmp .NotEq (.ix (.v 4) (.int 0)) (.ix (.v 4) (.int 1))) #v[.ret (.bl AE)] .nil]],.dead,.dead]}
abbrev Y8:Def:={5,["word","one","other","names","through","shelf"],#v[.set 5 (.make "Shelf" .nil),.ret (.call "is_step_over" #v[.call "shelved_names" #v[.v 3,.v 5],.v 5,.tup #v[.v 0,.v 1,.v 2,.v 4]])]}
abbrev M4:Def:={3,["known","shelf","step","word","one","other"],#v[.set 3 (.ix (.v 2) (.int 0)),.set 4 (.ix (.v 2) (.int 1)),.set 5 (.ix (.v 2) (.int 2)),.iff (.cmp .NotIn (.v 3) (.gc "WORDS")) #v[.ret (.bl AE)] .nil,.tr (.cmp .NotEq (.call "shelved_kind" #v[.v 4,.list (.v 0),.v 1]) (.call "shelved_kind" #v[.v 5,.list (.v 0),.v 1])),.iff (.cmp .Eq (.v 3) (.str "split")) #v[.ret (.or (.call "forth_split" #v[.v 4,.v 5,.v 0,.v 1,.ix (.v 2) (.int 3)]) (.call "forth_split" #v[.v 5,.v 4,.v 0,.v 1,.ix (.v 2) (.int 3)]))] .nil,.ret (.or (.callx (.gsel "FORTH" (.v 3)) #v[.v 4,.v 5]) (.callx (.gsel "FORTH" (.v 3)) #v[.v 5,.v 4]))]}
abbrev al6:Def:={2,["one","other"],#v[.ret (.and (.cmp .Eq (.ix (.v 0) (.int 0)) (.str "let")) (.call "are_alike" #v[.v 1,.call "put_in" #v[.ix (.v 0) (.int 2),.ix (.v 0) (.int 1)]]))]}
abbrev aj7:Def:={2,["one","other"],#v[.ret (.and (.cmp .Eq (.ix (.v 0) (.int 0)) (.str "give")) (.and (.cmp .Eq (.ix (.ix (.v 0) (.int 1)) (.int 0)) (.str "way")) (.call "are_alike" #v[.v 1,.call "put_in" #v[.ix (.ix (.v 0) (.int 1)) (.int 2),.ix (.v 0) (.int 2)]])))]}
abbrev aj3:Def:={2,["one","other"],#v[.ret (.and (.cmp .Eq (.ix (.v 0) (.int 0)) (.str "first")) (.and (.cmp .Eq (.ix (.ix (.v 0) (.int 1)) (.int 0)) (.str "pair")) (.call "are_alike" #v[.v 1,.ix (.ix (.v 0) (.int 1)) (.int 1)])))]}
abbrev aj1:Def:={2,["one","other"],#v[.ret (.and (.cmp .Eq (.ix (.v 0) (.int 0)) (.str "second")) (.and (.cmp .Eq (.ix (.ix (.v 0) (.int 1)) (.int 0)) (.str "pair")) (.call "are_alike" #v[.v 1,.ix (.ix (.v 0) (.int 1)) (.int 2)])))]}
abbrev ak5:Def:={2,["one","other"],#v[.ret (.and (.cmp .Eq (.ix (.v 0) (.int 0)) (.str "case")) (.and (.cmp .Eq (.ix (.ix (.v 0) (.int 1)) (.int 0)) (.str "left")) (.call "are_alike" #v[.v 1,.call "put_in" #v[.ix (.v 0) (.int 2),.ix (.ix (.v 0) (.int 1)) (.int 2)]])))]}
abbrev aj4:Def:={2,["one","other"],#v[.ret (.and (.cmp .Eq (.ix (.v 0) (.int 0)) (.str "case")) (.and (.cmp .Eq (.ix (.ix (.v 0) (.int 1)) (.int 0)) (.str "right")) (.call "are_alike" #v[.v 1,.call "put_in" #v[.ix (.v 0) (.int 3),.ix (.ix (.v 0) (.int 1)) (.int 2)]])))]}
abbrev ak4:Def:={2,["one","other"],#v[.ret (.cmp .Eq (.v 1) (.tup #v[.str "star"]))]}
abbrev aj8:Def:={2,["one","other"],#v[.ret (.and (.cmp .Eq (.ix (.v 1) (.int 0)) (.str "pair")) (.call "are_alike" #v[.v 1,.tup #v[.str "pair",.tup #v[.str "first",.v 0],.tup #v[.str "second",.v 0]]]))]}
abbrev ak6:Def:={2,["one","other"],#v[.ret (.and (.cmp .Eq (.ix (.v 1) (.int 0)) (.str "way")) (.call "are_alike" #v[.ix (.v 1) (.int 2),.tup #v[.str "give",.call "lifted" #v[.v 0,.int 1,.int 0],.tup #v[.str "name",.int 0]]]))]}
abbrev ad5:Def:={5,["one","other","known","shelf","through","halves"],#v[.iff (.or (.isN (.v 4)) (.or (.cmp .NotEq (.ix (.v 1) (.int 0)) (.str "case")) (.not (.call "are_alike" #v[.v 0,.call "put_in" #v[.v 4,.ix (.v 1) (.int 1)]])))) #v[.ret (.bl AE)] .nil,.set 5 (.meth (.v 3) "tuple_at" #v[.call "shelved_kind" #v[.ix (.v 1) (.int 1),.list (.v 2),.v 3]]),.ret (.call "are_alike" #v[.v 1,.call "split" #v[.v 4,.ix (.v 1) (.int 1),.v 5]])]}
abbrev ao3:Def:={3,["through","asked","halves","deeper","left"],#v[.set 3 (.call "lifted" #v[.v 0,.int 1,.int 1]),.set 4 (.call "put_in" #v[.v 3,.tup #v[.str "left",.ix (.v 2) (.int 2),.tup #v[.str "name",.int 0]]]),.ret (.tup #v[.str "case",.v 1,.v 4,.call "put_in" #v[.v 3,.tup #v[.str "right",.ix (.v 2) (.int 1),.tup #v[.str "name",.int 0]]]])]}
abbrev aj2:Def:={2,["one","other"],#v[.ret (.cmp .Eq (.ix (.v 1) (.int 0)) (.str "never"))]}
abbrev J6:Def:={1,["_law_script","_law_deck_here","_law_k","_law_cell","_law_j","_law_number"],#v[.set 1 (.lst .nil),.for (.n 2) (.rng (.min (.int 63) (.len (.v 0)))) #v[.set 3 (.ix (.v 0) (.v 2)),.iff (.cmp .GtE (.v 3) (.bin .Pow (.int 10) (.int 18))) #v[.for (.n 4) (.rng (.int 60)) #v[.iff (.cmp .Gt (.v 3) (.int 0)) #v[.ex (.app (.v 1) (.bin .Mod (.v 3) (.int 720720))),.set 3 (.bin .FloorDiv (.v 3) (.int 720720))] .nil]] #v[.set 5 (.bin .Mod (.bin .Add (.bin .Add (.bin .Mult (.bin .Mod (.v 3) (.int 2147483629)) (.int 48271)) (.bin .Mult (.int 7919) (.v 2))) (.int 13)) (.int 2147483629)),.set 5 (.bin .Mod (.bin .Add (.bin .Mult (.v 5) (.bin .Add (.bin .FloorDiv (.v 5) (.int 5)) (.int 16807))) (.bin .Mult (.int 69621) (.v 2))) (.int 2147483587)),.ex (.ext (.v 1) (.lst #v[.bin .Mod (.v 5) (.int 720720),.bin .Mod (.bin .Mod (.bin .Mult (.v 5) (.int 40692)) (.int 2147483399)) (.int 720720)]))]],.for (.n 2) (.rng2 (.len (.v 1)) (.int 150)) #v[.set 5 (.int 11),.iff (.cmp .Gt (.len (.v 0)) (.int 0)) #v[.set 5 (.bin .Mod (.ix (.v 0) (.bin .Mod (.v 2) (.min (.int 63) (.len (.v 0))))) (.int 2147483629))] .nil,.set 5 (.bin .Mod (.bin .Add (.bin .Add (.bin .Mult (.v 5) (.int 48271)) (.bin .Mult (.int 7919) (.v 2))) (.int 13)) (.int 2147483629)),.set 5 (.bin .Mod (.bin .Add (.bin .Mult (.v 5) (.bin .Add (.bin .FloorDiv (.v 5) (.int 5)) (.int 16807))) (.bin .Mult (.int 69621) (.v 2))) (.int 2147483587)),.ex (.app (.v 1) (.bin .Mod (.bin .Mod (.bin .Mult (.v 5) (.int 40692)) (.int 2147483399)) (.int 720720)))],.ret (.sl (.v 1) .non (.int 150))]}
abbrev al7:Def:={2,["_law_deck_here","_law_many_here"],#v[.iff (.cmp .Eq (.len (.v 0)) (.int 0)) #v[.ret (.int 0)] .nil,.ret (.bin .Mod (.popAt (.v 0) (.int 0)) (.v 1))]}
abbrev am7:Def:={2,["_law_deck_here","_law_deep","_law_two_here","_law_way","_law_one"],#v[.set 2 (.tup #v[.str "either",.tup #v[.str "one"],.tup #v[.str "one"]]),.set 3 (.call "_law_next" #v[.v 0,.ix (.lst #v[.int 3,.int 9]) (.toInt (.cmp .Gt (.v 1) (.int 0)))]),.iff (.cmp .Lt (.v 3) (.int 3)) #v[.ret (.ix (.lst #v[.tup #v[.str "one"],.v 2,.v 2]) (.v 3))] .nil,.iff (.cmp .Eq (.v 3) (.int 3)) #v[.ret (.tup #v[.str "way",.tup #v[.str "none"],.v 2])] .nil,.iff (.cmp .Eq (.v 3) (.int 8)) #v[.ret (.tup #v[.str "either",.tup #v[.str "none"],.call "_law_kind" #v[.v 0,.bin .Sub (.v 1) (.int 1)]])] .nil,.set 4 (.call "_law_kind" #v[.v 0,.bin .Sub (.v 1) (.int 1)]),.ret (.tup #v[.ix (.lst #v[.str "either",.str "both",.str "way",.str "both"]) (.bin .Sub (.v 3) (.int 4)),.v 4,.call "_law_kind" #v[.v 0,.int 0]])]}
abbrev ad9:Def:={1,["_law_kind_here","_law_one","_law_other","_law_found","_law_turn"],#v[.iff (.cmp .In (.ix (.v 0) (.int 0)) (.tup #v[.str "none",.str "one"])) #v[.ret (.toInt (.cmp .Eq (.ix (.v 0) (.int 0)) (.str "one")))] .nil,.set 1 (.call "_law_many" #v[.ix (.v 0) (.int 1)]),.set 2 (.call "_law_many" #v[.ix (.v 0) (.int 2)]),.iff (.cmp .Eq (.ix (.v 0) (.int 0)) (.str "either")) #v[.ret (.bin .Add (.v 1) (.v 2))] .nil,.iff (.cmp .Eq (.ix (.v 0) (.int 0)) (.str "both")) #v[.ret (.bin .Mult (.v 1) (.v 2))] .nil,.set 3 (.int 1),.for (.n 4) (.rng (.v 1)) #v[.set 3 (.bin .Mult (.v 3) (.v 2))],.ret (.v 3)]}
abbrev V0:Def:={1,["_law_kind_here"],#v[.iff (.cmp .Eq (.ix (.v 0) (.int 0)) (.str "one")) #v[.ret (.tup #v[.str "star"])] .nil,.iff (.cmp .Eq (.ix (.v 0) (.int 0)) (.str "both")) #v[.ret (.tup #v[.str "pair",.call "_law_plain" #v[.ix (.v 0) (.int 1)],.call "_law_plain" #v[.ix (.v 0) (.int 2)]])] .nil,.iff (.and (.cmp .Eq (.ix (.v 0) (.int 0)) (.str "either")) (.cmp .Gt (.call "_law_many" #v[.ix (.v 0) (.int 1)]) (.int 0))) #v[.ret (.tup #v[.str "left",.ix (.v 0) (.int 2),.call "_law_plain" #v[.ix (.v 0) (.int 1)]])] .nil,.iff (.cmp .Eq (.ix (.v 0) (.int 0)) (.str "either")) #v[.ret (.tup #v[.str "right",.ix (.v 0) (.int 1),.call "_law_plain" #v[.ix (.v 0) (.int 2)]])] .nil,.iff (.cmp .Eq (.call "_law_many" #v[.ix (.v 0) (.int 1)]) (.int 0)) #v[.ret (.tup #v[.str "way",.ix (.v 0) (.int 1),.tup #v[.str "never",.ix (.v 0) (.int 2),.tup #v[.str "name",.int 0]]])] .nil,.ret (.tup #v[.str "way",.ix (.v 0) (.int 1),.call "_law_plain" #v[.ix (.v 0) (.int 2)]])]}
abbrev am8:Def:={4,["_law_deck_here","_law_kind_here","_law_names_here","_law_room","_law_one"],#v[.iff (.cmp .Eq (.ix (.v 1) (.int 0)) (.str "one")) #v[.ret (.tup #v[.str "star"])] .nil,.iff (.cmp .Eq (.ix (.v 1) (.int 0)) (.str "both")) #v[.set 4 (.call "_law_term" #v[.v 0,.ix (.v 1) (.int 1),.v 2,.bin .FloorDiv (.v 3) (.int 2)]),.ret (.tup #v[.str "pair",.v 4,.call "_law_term" #v[.v 0,.ix (.v 1) (.int 2),.v 2,.bin .FloorDiv (.v 3) (.int 2)]])] .nil,.iff (.and (.cmp .Eq (.ix (.v 1) (.int 0)) (.str "way")) (.cmp .Gt (.call "_law_many" #v[.ix (.v 1) (.int 1)]) (.int 0))) #v[.ret (.tup #v[.str "way",.ix (.v 1) (.int 1),.call "_law_term" #v[.v 0,.ix (.v 1) (.int 2),.bin .Add (.tup #v[.ix (.v 1) (.int 1)]) (.v 2),.bin .Sub (.v 3) (.int 1)]])] .nil,.iff (.cmp .Eq (.ix (.v 1) (.int 0)) (.str "way")) #v[.ret (.tup #v[.str "way",.ix (.v 1) (.int 1),.tup #v[.str "never",.ix (.v 1) (.int 2),.tup #v[.str "name",.int 0]]])] .nil,.iff (.or (.cmp .Eq (.call "_law_many" #v[.ix (.v 1) (.int 2)]) (.int 0)) (.and (.cmp .Gt (.call "_law_many" #v[.ix (.v 1) (.int 1)]) (.int 0)) (.cmp .Eq (.call "_law_next" #v[.v 0,.int 2]) (.int 0)))) #v[.ret (.tup #v[.str "left",.ix (.v 1) (.int 2),.call "_law_term" #v[.v 0,.ix (.v 1) (.int 1),.v 2,.bin .Sub (.v 3) (.int 1)]])] .nil,.ret (.tup #v[.str "right",.ix (.v 1) (.int 1),.call "_law_term" #v[.v 0,.ix (.v 1) (.int 2),.v 2,.bin .Sub (.v 3) (.int 1)]])]}
abbrev al3:Def:={4,["_law_deck_here","_law_kind_here","_law_names_here","_law_room","_law_way","_law_more","_law_half","_law_one","_law_other","_law_third","_law_yes"],#v[.set 4 (.call "_law_next" #v[.v 0,.int 5]),.set 5 (.call "_law_kind" #v[.v 0,.bin .Sub (.int 1) (.toInt (.cmp .Lt (.v 3) (.int 6)))]),.set 6 (.bin .FloorDiv (.bin .Sub (.v 3) (.int 1)) (.int 2)),.iff (.cmp .Eq (.v 4) (.int 0)) #v[.ret (.tup #v[.str "first",.call "_law_term" #v[.v 0,.tup #v[.str "both",.v 1,.v 5],.v 2,.bin .Sub (.v 3) (.int 1)]])] .nil,.iff (.cmp .Eq (.v 4) (.int 1)) #v[.ret (.tup #v[.str "second",.call "_law_term" #v[.v 0,.tup #v[.str "both",.v 5,.v 1],.v 2,.bin .Sub (.v 3) (.int 1)]])] .nil,.iff (.cmp .Eq (.v 4) (.int 2)) #v[.set 7 (.call "_law_term" #v[.v 0,.tup #v[.str "way",.v 5,.v 1],.v 2,.v 6]),.ret (.tup #v[.str "give",.v 7,.call "_law_term" #v[.v 0,.v 5,.v 2,.v 6]])] .nil,.iff (.cmp .Eq (.v 4) (.int 3)) #v[.set 7 (.call "_law_term" #v[.v 0,.v 5,.v 2,.v 6]),.ret (.tup #v[.str "let",.v 7,.call "_law_term" #v[.v 0,.v 1,.bin .Add (.tup #v[.v 5]) (.v 2),.v 6]])] .nil,.set 8 (.call "_law_kind" #v[.v 0,.int 0]),.set 9 (.bin .FloorDiv (.bin .Sub (.v 3) (.int 1)) (.int 3)),.set 7 (.call "_law_term" #v[.v 0,.tup #v[.str "either",.v 5,.v 8],.v 2,.v 9]),.set 10 (.call "_law_term" #v[.v 0,.v 1,.bin .Add (.tup #v[.v 5]) (.v 2),.v 9]),.ret (.tup #v[.str "case",.v 7,.v 10,.call "_law_term" #v[.v 0,.v 1,.bin .Add (.tup #v[.v 8]) (.v 2),.v 9]])]}
abbrev Y7:Def:={4,["_law_deck_here","_law_kind_here","_law_names_here","_law_room","_law_some","_law_form"],#v[.set 4 (.comp ["_law_kind_here","_law_names_here","_law_k"] [1,2] 1 (.n 2) (.rng (.len (.v 2))) (.cmp .Eq (.ix (.v 1) (.v 2)) (.v 0)) (.v 2)),.set 5 (.call "_law_next" #v[.v 0,.int 4]),.iff (.and (.cmp .Gt (.len (.v 4)) (.int 0)) (.or (.cmp .Lt (.v 5) (.int 2)) (.cmp .Lt (.v 3) (.int 3)))) #v[.ret (.tup #v[.str "name",.ix (.v 4) (.call "_law_next" #v[.v 0,.len (.v 4)])])] .nil,.iff (.cmp .Lt (.v 3) (.int 3)) #v[.ret (.call "_law_plain" #v[.v 1])] .nil,.iff (.cmp .Eq (.v 5) (.int 3)) #v[.ret (.call "_law_taken" #v[.v 0,.v 1,.v 2,.v 3])] .nil,.ret (.call "_law_made" #v[.v 0,.v 1,.v 2,.v 3])]}
abbrev ak9:Def:={1,["_law_program","_law_form"],#v[.set 1 (.ix (.v 0) (.int 0)),.iff (.cmp .In (.v 1) (.tup #v[.str "name",.str "star"])) #v[.ret (.lst .nil)] .nil,.iff (.cmp .In (.v 1) (.tup #v[.str "pair",.str "give"])) #v[.ret (.lst #v[.tup #v[.int 1,.int 0],.tup #v[.int 2,.int 0]])] .nil,.iff (.cmp .In (.v 1) (.tup #v[.str "first",.str "second"])) #v[.ret (.lst #v[.tup #v[.int 1,.int 0]])] .nil,.iff (.cmp .In (.v 1) (.tup #v[.str "left",.str "right",.str "never"])) #v[.ret (.lst #v[.tup #v[.int 2,.int 0]])] .nil,.iff (.cmp .Eq (.v 1) (.str "way")) #v[.ret (.lst #v[.tup #v[.int 2,.int 1]])] .nil,.iff (.cmp .Eq (.v 1) (.str "let")) #v[.ret (.lst #v[.tup #v[.int 1,.int 0],.tup #v[.int 2,.int 1]])] .nil,.ret (.lst #v[.tup #v[.int 1,.int 0],.tup #v[.int 2,.int 1],.tup #v[.int 3,.int 1]])]}
abbrev am4:Def:={3,["_law_program","_law_many_here","_law_least","_law_found","_law_at","_law_more"],#v[.iff (.cmp .Eq (.ix (.v 0) (.int 0)) (.str "name")) #v[.ret (.tup #v[.str "name",.bin .Add (.ix (.v 0) (.int 1)) (.bin .Mult (.v 1) (.toInt (.cmp .GtE (.ix (.v 0) (.int 1)) (.v 2))))])] .nil,.set 3 (.list (.v 0)),.for (.tup [4,5]) (.seq (.call "_law_under" #v[.v 0])) #v[.put (.v 3) (.v 4) (.call "_law_lift" #v[.ix (.v 0) (.v 4),.v 1,.bin .Add (.v 2) (.v 5)])],.ret (.tuple (.v 3))]}
abbrev an8:Def:={3,["_law_program","_law_other","_law_deep","_law_found","_law_at","_law_more"],#v[.iff (.and (.cmp .Eq (.ix (.v 0) (.int 0)) (.str "name")) (.cmp .Eq (.ix (.v 0) (.int 1)) (.v 2))) #v[.ret (.call "_law_lift" #v[.v 1,.v 2,.int 0])] .nil,.iff (.cmp .Eq (.ix (.v 0) (.int 0)) (.str "name")) #v[.ret (.tup #v[.str "name",.bin .Sub (.ix (.v 0) (.int 1)) (.toInt (.cmp .Gt (.ix (.v 0) (.int 1)) (.v 2)))])] .nil,.set 3 (.list (.v 0)),.for (.tup [4,5]) (.seq (.call "_law_under" #v[.v 0])) #v[.put (.v 3) (.v 4) (.call "_law_put" #v[.ix (.v 0) (.v 4),.v 1,.bin .Add (.v 2) (.v 5)])],.ret (.tuple (.v 3))]}
abbrev an4:Def:={4,["_law_deck_here","_law_word_here","_law_kind_here","_law_names_here","_law_more","_law_under_here","_law_one","_law_body","_law_other","_law_next_kind","_law_yes","_law_no"],#v[.set 4 (.call "_law_kind" #v[.v 0,.int 1]),.set 5 (.bin .Add (.tup #v[.v 4]) (.v 3)),.iff (.cmp .Eq (.v 1) (.str "let")) #v[.set 6 (.call "_law_term" #v[.v 0,.v 4,.v 3,.int 5]),.set 7 (.call "_law_term" #v[.v 0,.v 2,.v 5,.int 6]),.ret (.tup #v[.tup #v[.str "let",.v 6,.v 7],.call "_law_put" #v[.v 7,.v 6,.int 0],.non])] .nil,.iff (.cmp .Eq (.v 1) (.str "give")) #v[.set 6 (.call "_law_term" #v[.v 0,.v 4,.v 3,.int 5]),.set 7 (.call "_law_term" #v[.v 0,.v 2,.v 5,.int 6]),.ret (.tup #v[.tup #v[.str "give",.tup #v[.str "way",.v 4,.v 7],.v 6],.call "_law_put" #v[.v 7,.v 6,.int 0],.non])] .nil,.set 6 (.call "_law_term" #v[.v 0,.v 2,.v 3,.int 7]),.set 8 (.call "_law_term" #v[.v 0,.v 4,.v 3,.int 4]),.iff (.cmp .Eq (.v 1) (.str "first")) #v[.ret (.tup #v[.tup #v[.str "first",.tup #v[.str "pair",.v 6,.v 8]],.v 6,.non])] .nil,.iff (.cmp .Eq (.v 1) (.str "second")) #v[.ret (.tup #v[.tup #v[.str "second",.tup #v[.str "pair",.v 8,.v 6]],.v 6,.non])] .nil,.set 9 (.call "_law_kind" #v[.v 0,.int 0]),.set 10 (.call "_law_term" #v[.v 0,.v 2,.v 5,.int 6]),.set 11 (.call "_law_term" #v[.v 0,.v 2,.bin .Add (.tup #v[.v 9]) (.v 3),.int 5]),.iff (.cmp .Eq (.v 1) (.str "left")) #v[.ret (.tup #v[.tup #v[.str "case",.tup #v[.str "left",.v 9,.v 8],.v 10,.v 11],.call "_law_put" #v[.v 10,.v 8,.int 0],.non])] .nil,.ret (.tup #v[.tup #v[.str "case",.tup #v[.str "right",.v 9,.v 8],.v 11,.v 10],.call "_law_put" #v[.v 10,.v 8,.int 0],.non])]}
abbrev an0:Def:={1,["_law_deck_here","_law_two_here","_law_none","_law_some"],#v[.set 1 (.tup #v[.str "either",.tup #v[.str "one"],.tup #v[.str "one"]]),.set 2 (.tup #v[.str "none"]),.set 3 (.lst #v[.v 2,.v 2,.tup #v[.str "both",.v 1,.v 2],.tup #v[.str "either",.v 2,.v 2],.tup #v[.str "way",.v 1,.v 2]]),.ret (.ix (.v 3) (.call "_law_next" #v[.v 0,.int 5]))]}
abbrev aj5:Def:={2,["_law_kind_here","_law_one"],#v[.iff (.cmp .Eq (.ix (.v 0) (.int 0)) (.str "both")) #v[.ret (.tup #v[.str "second",.v 1])] .nil,.iff (.cmp .Eq (.ix (.v 0) (.int 0)) (.str "either")) #v[.ret (.tup #v[.str "case",.v 1,.tup #v[.str "name",.int 0],.tup #v[.str "name",.int 0]])] .nil,.iff (.cmp .Eq (.ix (.v 0) (.int 0)) (.str "way")) #v[.ret (.tup #v[.str "give",.v 1,.tup #v[.str "left",.tup #v[.str "one"],.tup #v[.str "star"]]])] .nil,.ret (.v 1)]}
abbrev aj6:Def:={4,["_law_deck_here","_law_word_here","_law_kind_here","_law_names_here","_law_one","_law_more","_law_at","_law_either","_law_asked","_law_through","_law_wide","_law_yes","_law_no"],#v[.iff (.cmp .Eq (.v 1) (.str "star")) #v[.ret (.tup #v[.call "_law_taken" #v[.v 0,.tup #v[.str "one"],.v 3,.int 8],.tup #v[.str "star"],.non])] .nil,.iff (.cmp .Eq (.v 1) (.str "pair")) #v[.set 4 (.call "_law_term" #v[.v 0,.tup #v[.str "both",.v 2,.call "_law_kind" #v[.v 0,.int 0]],.v 3,.int 8]),.ret (.tup #v[.v 4,.tup #v[.str "pair",.tup #v[.str "first",.v 4],.tup #v[.str "second",.v 4]],.non])] .nil,.iff (.cmp .Eq (.v 1) (.str "way")) #v[.set 5 (.call "_law_kind" #v[.v 0,.int 1]),.set 4 (.call "_law_term" #v[.v 0,.tup #v[.str "way",.v 5,.v 2],.v 3,.int 8]),.ret (.tup #v[.v 4,.tup #v[.str "way",.v 5,.tup #v[.str "give",.call "_law_lift" #v[.v 4,.int 1,.int 0],.tup #v[.str "name",.int 0]]],.non])] .nil,.iff (.cmp .Eq (.v 1) (.str "never")) #v[.set 6 (.ix (.comp ["_law_names_here","_law_k"] [3] 1 (.n 1) (.rng (.len (.v 3))) (.cmp .Eq (.call "_law_many" #v[.ix (.v 0) (.v 1)]) (.int 0)) (.v 1)) (.int 0)),.set 4 (.call "_law_term" #v[.v 0,.v 2,.v 3,.int 8]),.ret (.tup #v[.v 4,.tup #v[.str "never",.v 2,.call "_law_nothing" #v[.ix (.v 3) (.v 6),.tup #v[.str "name",.v 6]]],.non])] .nil,.set 7 (.tup #v[.str "either",.call "_law_kind" #v[.v 0,.int 1],.call "_law_kind" #v[.v 0,.int 0]]),.set 8 (.call "_law_term" #v[.v 0,.v 7,.v 3,.int 6]),.set 9 (.call "_law_term" #v[.v 0,.v 2,.bin .Add (.tup #v[.v 7]) (.v 3),.int 8]),.set 10 (.call "_law_lift" #v[.v 9,.int 1,.int 1]),.set 11 (.call "_law_put" #v[.v 10,.tup #v[.str "left",.ix (.v 7) (.int 2),.tup #v[.str "name",.int 0]],.int 0]),.set 12 (.call "_law_put" #v[.v 10,.tup #v[.str "right",.ix (.v 7) (.int 1),.tup #v[.str "name",.int 0]],.int 0]),.ret (.tup #v[.call "_law_put" #v[.v 9,.v 8,.int 0],.tup #v[.str "case",.v 8,.v 11,.v 12],.v 9])]}
abbrev al9:Def:={4,["_law_deck_here","_law_word_here","_law_kind_here","_law_names_here"],#v[.iff (.cmp .In (.v 1) (.tup #v[.str "let",.str "give",.str "first",.str "second",.str "left",.str "right"])) #v[.ret (.call "_law_two" #v[.v 0,.v 1,.v 2,.v 3])] .nil,.ret (.call "_law_spread" #v[.v 0,.v 1,.v 2,.v 3])]}
abbrev am3:Def:={1,["_law_deck_here","_law_words"],#v[.set 1 (.lst #v[.str "let",.str "give",.str "first",.str "second",.str "left",.str "right",.str "star",.str "pair",.str "way",.str "split",.str "never",.str "split"]),.ret (.ix (.v 1) (.call "_law_next" #v[.v 0,.int 12]))]}
abbrev Y6:Def:={2,["_law_deck_here","_law_word_here","_law_names_here","_law_at"],#v[.set 2 (.tuple (.comp ["_law_deck_here","_law_k"] [0] 1 (.n 1) (.rng (.call "_law_next" #v[.v 0,.int 3])) .non (.call "_law_kind" #v[.v 0,.int 1]))),.iff (.cmp .Eq (.call "_law_next" #v[.v 0,.int 8]) (.int 0)) #v[.set 2 (.bin .Add (.bin .Mult (.tup #v[.tup #v[.str "one"]]) (.bin .Add (.int 7) (.call "_law_next" #v[.v 0,.int 3]))) (.v 2))] .nil,.iff (.cmp .Eq (.v 1) (.str "never")) #v[.set 3 (.call "_law_next" #v[.v 0,.bin .Add (.len (.v 2)) (.int 1)]),.set 2 (.bin .Add (.bin .Add (.slw (.v 2) .non (.v 3)) (.tup #v[.call "_law_void" #v[.v 0]])) (.slw (.v 2) (.v 3) .non))] .nil,.ret (.v 2)]}
abbrev ad6:Def:={5,["_law_deck_here","_law_word_here","_law_kind_here","_law_names_here","_law_other","_law_way"],#v[.set 5 (.call "_law_next" #v[.v 0,.int 4]),.iff (.and (.cmp .Eq (.v 5) (.int 0)) (.cmp .Eq (.v 1) (.str "let"))) #v[.ret (.tup #v[.str "first",.tup #v[.str "pair",.v 4,.tup #v[.str "star"]]])] .nil,.iff (.cmp .Eq (.v 5) (.int 0)) #v[.ret (.tup #v[.str "let",.tup #v[.str "star"],.call "_law_lift" #v[.v 4,.int 1,.int 0]])] .nil,.iff (.cmp .Eq (.v 5) (.int 1)) #v[.ret (.tup #v[.str "pair",.v 4,.v 4])] .nil,.iff (.cmp .Eq (.v 5) (.int 2)) #v[.ret (.tup #v[.str "first",.tup #v[.str "pair",.v 4,.tup #v[.str "name",.bin .Add (.len (.v 3)) (.call "_law_next" #v[.v 0,.int 4])]]])] .nil,.ret (.tup #v[.str "give",.v 4,.v 4])]}
abbrev V2:Def:={1,["_law_script","_law_deck_here","_law_word_here","_law_names_here","_law_kind_here","_law_one","_law_other","_law_through","_law_bad","_law_hole"],#v[.set 1 (.call "_law_deck" #v[.v 0]),.set 2 (.call "_law_word" #v[.v 1]),.set 3 (.call "_law_names" #v[.v 1,.v 2]),.set 4 (.call "_law_kind" #v[.v 1,.int 2]),.unp [5,6,7] (.call "_law_step" #v[.v 1,.v 2,.v 4,.v 3]),.iff (.cmp .IsNot (.callw "is_step" #v[.v 2,.v 5,.v 6,.v 3,.v 7]) (.bl AD)) #v[.ret (.bl AE)] .nil,.set 8 (.call "_law_spoilt" #v[.v 1,.v 2,.v 4,.v 3,.v 6]),.set 9 (.v 7),.iff (.cmp .Eq (.v 2) (.str "split")) #v[.set 9 .non,.set 8 (.ix (.lst #v[.v 6,.v 8]) (.call "_law_next" #v[.v 1,.int 2]))] .nil,.iff (.or (.cmp .IsNot (.callw "is_step" #v[.v 2,.v 5,.v 8,.v 3,.v 9]) (.bl AE)) (.cmp .IsNot (.callw "is_step" #v[.v 2,.v 8,.v 5,.v 3,.v 9]) (.bl AE))) #v[.ret (.bl AE)] .nil,.ret (.cmp .Is (.callw "is_step" #v[.v 2,.v 6,.v 5,.v 3,.v 7]) (.bl AD))]}
abbrev aa6:List (Str×Def):=[(("Shelf.__init__":Str),ak0),(("Shelf.laid_kind":Str),Y5),(("Shelf.built":Str),an3),(("Shelf.numbered":Str),aj9),(("Shelf.put_by":Str),am2),(("Shelf.taken_up":Str),ak1),(("Shelf.tuple_at":Str),ak2),(("Shelf.word_at":Str),ak7),(("Shelf.within":Str),am6),(("Node.__init__":Str),al1),(("made_of_parts":Str),al2),(("order_of_few":Str),am5),(("taken":Str),ar6),(("are_alike":Str),ad7),(("inner":Str),at1),(("with_inner":Str),Y9),(("names_more":Str),an9),(("noded":Str),at0),(("folded":Str),O9),(("shelved_names":Str),al0),(("shelved_kind":Str),an2),(("kind_of_node":Str),am1),(("kind_by_parts":Str),ad8),(("new_name":Str),ao9),(("halves_of":Str),ae2),(("kind_of_name":Str),ae0),(("kind_of_star":Str),an1),(("kind_of_pair":Str),am0),(("kind_of_first":Str),al5),(("kind_of_second":Str),ak3),(("kind_of_left":Str),am9),(("kind_of_right":Str),al4),(("kind_of_case":Str),al8),(("kind_of_way":Str),an6),(("kind_of_give":Str),ae1),(("kind_of_let":Str),an7),(("kind_of_never":Str),ak8),(("lifted":Str),aq2),(("put_in":Str),ap8),(("copy_under":Str),ao2),(("with_parts":Str),ao0),(("inner_under":Str),an5),(("is_step":Str),Y8),(("is_step_over":Str),M4),(("forth_let":Str),al6),(("forth_give":Str),aj7),(("forth_first":Str),aj3),(("forth_second":Str),aj1),(("forth_left":Str),ak5),(("forth_right":Str),aj4),(("forth_star":Str),ak4),(("forth_pair":Str),aj8),(("forth_way":Str),ak6),(("forth_split":Str),ad5),(("split":Str),ao3),(("forth_never":Str),aj2),(("_law_deck":Str),J6),(("_law_next":Str),al7),(("_law_kind":Str),am7),(("_law_many":Str),ad9),(("_law_plain":Str),V0),(("_law_made":Str),am8),(("_law_taken":Str),al3),(("_law_term":Str),Y7),(("_law_under":Str),ak9),(("_law_lift":Str),am4),(("_law_put":Str),an8),(("_law_two":Str),an4),(("_law_void":Str),an0),(("_law_nothing":Str),aj5),(("_law_spread":Str),aj6),(("_law_step":Str),al9),(("_law_word":Str),am3),(("_law_names":Str),Y6),(("_law_spoilt":Str),ad6),(("law":Str),V2)]
abbrev S6:f9:=λf=>aa6.lookup f
abbrev t5:Gs:={λg=>if g="INNER_FROM" then [("name",.int 2),("star",.int 1),("pair",.int 1),("first",.int 1),("second",.int 1),("left",.int 2),("right",.int 2),("case",.int 1),("way",.int 2),("give",.int 1),("let",.int 1),("never",.int 2)]else if g="UNDER_ONE_MORE" then [("case",.ktup [.inl 1,.inl 2]),("way",.ktup [.inl 0]),("let",.ktup [.inl 1])]else if g="BY_WORD" then [("name",.fn "kind_of_name"),("star",.fn "kind_of_star"),("pair",.fn "kind_of_pair"),("first",.fn "kind_of_first"),("second",.fn "kind_of_second"),("left",.fn "kind_of_left"),("right",.fn "kind_of_right"),("case",.fn "kind_of_case"),("way",.fn "kind_of_way"),("give",.fn "kind_of_give"),("let",.fn "kind_of_let"),("never",.fn "kind_of_never")]else if g="FORTH" then [("let",.fn "forth_let"),("give",.fn "forth_give"),("first",.fn "forth_first"),("second",.fn "forth_second"),("left",.fn "forth_left"),("right",.fn "forth_right"),("star",.fn "forth_star"),("pair",.fn "forth_pair"),("way",.fn "forth_way"),("never",.fn "forth_never")]else [],λc=>if c="!kt" then ["n"]else if c="!ix" then ["n"]else if c="!Shelf.laid_kind" then ["d","d","d","d"]else if c="!is_step" then ["d"]else if c="Shelf" then ["numbers","stored","parts","waiting"]else if c="Node" then ["program","inside","number","holders","ways","used","kind"]else [],λg=>if g="FEW" then AA (.int 2000)else if g="WORDS" then AA (.ktup [.inr "let",.inr "give",.inr "first",.inr "second",.inr "left",.inr "right",.inr "star",.inr "pair",.inr "way",.inr "split",.inr "never"])else AF}
end Ek
namespace Ek
open PySem L2
section
variable{n:Nat}
@[reducible]noncomputable def bq2(K:AO)(cd:AG)(ts:List AI):Prop:=∃c P,cd=.ref c/\CW K c P=AD/\P∈ts
abbrev FnA(K:AO)(ts:List AI)(m:Bool)(f:Str)(st:BG):Prop:=∃(fa:AI)(od an:Option AI)(sl:Array (Option AG))(oc kV dc pm cd ct:AG),
 Av K AN f=AA (AA (.ref fa))/\K.lookup fa=AA {oc,od,.func (Cw f f (z7 st) (u5 st) (n8 st) .none kV dc pm an cd ct),sl}/\DD K cd f=AD/\Bm K (.ref fa)=AD/\(m=AD->bq2 K cd ts)
abbrev FnD(K:AO)(f:Str)(st:BG):Prop:=∃(fa T:AI)(od an td:Option AI)(sl tsl:Array (Option AG))(oc kV dc pm cd ct tc:AG)(n:Nat),
 Av K AN f=AA (AA (.ref fa))/\K.lookup fa=AA {oc,od,.func (Cw f f (z7 st) (u5 st) (n8 st) (.ref T) kV dc pm an cd ct),sl}/\DD K cd f=AD/\Bm K (.ref fa)=AD/\K.lookup T=AA {tc,td,.seq #[.none] n,tsl}
section
variable {K:AO} {ts:List AI} {f c m:Str} {st:BG} {fa Ca:AI} {od an:Option AI} {sl:Array (Option AG)} {oc kV dc pm cd ct:AG} {hc hp:AI}
def fnA(c:Av K AN f=AA (AA (.ref fa)))(a:K.lookup fa=AA {oc,od,.func (Cw f f (z7 st) (u5 st) (n8 st) .none kV dc pm an cd ct),sl})(b:DD K cd f=AD)(k1:Bm K (.ref fa)=AD):FnA K ts AE f st:=
 ⟨_,_,_,_,_,_,_,_,_,_,c,a,b,k1,nofun⟩
def fnM(g:Av K AN f=AA (AA (.ref fa)))(a:K.lookup fa=AA {oc,od,.func (Cw f f (z7 st) (u5 st) (n8 st) .none kV dc pm an cd ct),sl})(e:DD K cd f=AD)(k1:Bm K (.ref fa)=AD)
  (d:aw1 K cd=AA (hc,hp)) (c:CW K hc hp=AD) (b:ts.contains hp=AD):FnA K ts AD f st:=
 {_,_,_,_,_,_,_,_,_,_,g,a,e,k1,λ_=>cr7 d c b}
def fnD{T}{td}{tsl}{tc}(d:Av K AN f=AA (AA (.ref fa)))(b:K.lookup fa=AA {oc,od,.func (Cw f f (z7 st) (u5 st) (n8 st) (.ref T) kV dc pm an cd ct),sl})(c:DD K cd f=AD)(k1:Bm K (.ref fa)=AD)(a:K.lookup T=AA {tc,td,.seq #[.none] n,tsl}):FnD K f st:=
 ⟨_,_,_,_,_,_,_,_,_,_,_,_,_,_,_,d,b,c,k1,a⟩
structure ClA(K:AO)(c:Str)(Ca:AI):Prop where
 a:Av K AN c=AA (AA (.ref Ca))
 cl:Cls K Ca
 ms:IT K Ca=AD
 kp:Bm K (.ref Ca)=AD
def clA(h:Av K AN c=AA (AA (.ref Ca)))(g:GV K Ca Str.empty=AD)(f:HL K Ca=AD)(e:Iy K Ca=AD)(d:Bc K (.ref Ca) "__setattr__"=AA (AA (.builtin "object.__setattr__")))(b:IT K Ca=AD)(a:Bm K (.ref Ca)=AD):ClA K c Ca:={h,⟨g,f,e,d⟩,b,a}
abbrev MtA(K:AO)(ts:List AI)(b:Bool)(c:Str)(Ca:AI)(m:Str)(st:BG):Prop:=∃(fa:AI)(od an:Option AI)(sl:Array (Option AG))(oc kV dc pm cd ct:AG),
 Av K AN (f6 c m)=AA AF/\Meth K Ca m fa/\K.lookup fa=AA {oc,od,.func (Cw m (f6 c m) (z7 st) (u5 st) (n8 st) .none kV dc pm an cd ct),sl}/\DD K cd (f6 c m)=AD/\(b=AD->bq2 K cd ts)
def mtA(g:Av K AN (f6 c m)=AA AF)(f:Bc K (.ref Ca) m=AA (AA (.ref fa)))(e:JX K (.ref fa)=AD)(d:Bm K (.ref fa)=AD)
  (a:K.lookup fa=AA {oc,od,.func (Cw m (f6 c m) (z7 st) (u5 st) (n8 st) .none kV dc pm an cd ct),sl}) (b:DD K cd (f6 c m)=AD):MtA K ts AE c Ca m st:={_,_,_,_,_,_,_,_,_,_,g,⟨f,e,d⟩,a,b,nofun}
abbrev MtD(K:AO)(c:Str)(Ca:AI)(m:Str)(st:BG)(i:Int):Prop:=∃(fa T:AI)(od an td:Option AI)(sl tsl:Array (Option AG))(oc kV dc pm cd ct tc:AG)(tk:Tok)(n:Nat),
 Av K AN (f6 c m)=AA AF/\Meth K Ca m fa/\K.lookup fa=AA {oc,od,.func (Cw m (f6 c m) (z7 st) (u5 st) (n8 st) (.ref T) kV dc pm an cd ct),sl}/\DD K cd (f6 c m)=AD/\K.lookup T=AA {tc,td,.seq #[.int i tk] n,tsl}
def mtD{T:AI}{b:Option AI}{a:Array (Option AG)}{tc:AG}{tk:Tok}{i:Int}(k:Av K AN (f6 c m)=AA AF)(j:Bc K (.ref Ca) m=AA (AA (.ref fa)))(h:JX K (.ref fa)=AD)(g:Bm K (.ref fa)=AD)
  (e:K.lookup fa=AA {oc,od,.func (Cw m (f6 c m) (z7 st) (u5 st) (n8 st) (.ref T) kV dc pm an cd ct),sl}) (f:DD K cd (f6 c m)=AD) (d:K.lookup T=AA {tc,b,.seq #[.int i tk] n,a}):MtD K c Ca m st i:=
 {_,_,_,_,_,_,_,_,_,_,_,_,_,_,_,_,k,⟨j,h,g⟩,e,f,d}
end
def bdT{c:Type}{P:List c->Prop}(h:∀us,us.length=n->P us):∀us,us.length+1=n+1->P us:=λus e=>h us (Nat.succ.inj e)
def bdS{c:Type}{P:List c->Prop}(h:∀a us,us.length=n->P (a::us)):∀us,us.length=n+1->P us:=λus hl=>by
 cases us with
 |nil=>cases hl
 |cons a us=>show h a us (HM hl)
def bdZ{a:Type}{P:List a->Prop}(h:P []):∀us,us.length=0->P us:=λus hl=>by
 grind
theorem zl1:∀{ns:List Str}{us:List AG}{n:Str},us.length=ns.length->n∈ns->((ns.zip us).lookup n).isNone=AE
 |m::ns,u::us,n,hl,h=>by
  change(match n==m with|.true=>AA u|.false=>(ns.zip us).lookup n).isNone=AE
  cases e:n==m with
  |true=>rfl
  |false=>show zl1 (HM hl) ((AQ.1 h).resolve_left λz=>by rw[z]at e;simp at e)
theorem zl2:∀{ns:List Str}{us:List AG}{l:List (Str×AG)},us.length=ns.length->ns.Nodup->(∀n∈ns,∀s,(l++s).lookup n=s.lookup n)->ns.filterMap (λn=>((l++ns.zip us).lookup n).map (n,·))=ns.zip us
 |[],_,_,_,_,_=>rfl
 |m::ns,u::us,l,hl,nd,h=>by
  have a:(l++(m::ns).zip (u::us)).lookup m=AA u:=by
   rw[h m (.head _)];change(match m==m with|.true=>AA u|.false=>_)=_;rw[beq_self_eq_true]
  rw[List.filterMap_cons,a];have b:=zl2 (ns:=ns) (us:=us) (l:=l++[(m,u)]) (HM hl) (List.nodup_cons.1 nd).2 λn hn s=>by
   rw[List.append_assoc,h n (.tail _ hn)];change(match n==m with|.true=>AA u|.false=>s.lookup n)=_
   cases e:n==m with
   |true=>show absurd (LawfulBEq.eq_of_beq e▸hn) (List.nodup_cons.1 nd).1
   |false=>rfl
  rw[List.append_assoc]at b;show congrArg _ b
theorem bnd_pl{A:Arguments}{x f:Str}{b:List BG}{sc:BE}{kV dc pm:AG}{an:Option AI}{cd ct:AG}{us:List AG}(hp:A.posonlyargs=[])(hk:A.kwonlyargs=[])(hv:A.vararg=AF)(hw:A.kwarg=AF)(nd:(A.args.map (·.arg)).Nodup)(hl:us.length=(A.args.map (·.arg)).length):Ef (Cw x f A b sc .none kV dc pm an cd ct) {us,[]}=pure ((A.args.map (·.arg)).zip us):=by
 let{po,ar,va,ko,kd,kw,df}:=A
 dsimp only at hp hk hv hw nd hl ⊢
 subst hp hk hv hw
 generalize e:ar.map (·.arg)=ns at *
 have m0:(ns.filter λn=>((ns.zip us).lookup n).isNone)=[]:=List.filter_eq_nil_iff.2 λn hn=>by rw[zl1 hl hn];nofun
 have m1:=zl2 (l:=[]) hl nd λ_ _ _=>rfl
 rw[List.nil_append]at m1
 have c1:¬((decide (us.length>ns.length)&&(none:Option Arg).isNone)=AD):=by rw[decide_eq_false (by omega)];nofun
 subst e
 apply(if_neg c1).trans ?_
 generalize hD:List.drop _ ((none:Option (Array AG)).getD #[]).toList=dl
 have hE:dl=[]:=hD▸List.drop_nil
 subst hE
 apply(if_neg (c:=(!List.isEmpty (((ar.map (·.arg)).take ((ar.map (·.arg)).length-0)).filter λn=>(((ar.map (·.arg)).zip us).lookup n).isNone))=AD) (by rw[Nat.sub_zero,List.take_length,m0];nofun)).trans ?_
 generalize hZ:List.zip _ ([]:List AG)=zl
 have hY:zl=[]:=hZ▸List.zip_nil_right
 subst hY
 show congrArg (pure:_->Sem (List (Str×AG))) ((congrArg (List.filterMap λn=>(((ar.map (·.arg)).zip us).lookup n).map (n,·)) (List.append_nil _)).trans m1)
def stC(st:BG)(d:Def):Bool:=decide (((n8 st).kind=.function/\(n8 st).isCoroutine=AE/\(n8 st).isGenerator=AE/\d.N.Nodup/\(∀x∈d.N.take d.np,(n8 st).names.lookup x=AA .local∨(n8 st).names.lookup x=AA .cell)/\(∀y∈(n8 st).names,y.2≠.free)/\d.np<=d.N.length)/\mB d.body (n8 st) d.N (u5 st)=AD/\(z7 st).args.map (·.arg)=d.N.take d.np/\(z7 st).posonlyargs.isEmpty=AD/\(z7 st).kwonlyargs.isEmpty=AD/\(z7 st).vararg.isNone=AD/\(z7 st).kwarg.isNone=AD)
theorem stat_of{st:BG}{d:Def}{x f:Str}(h:stC st d=AD):Stat st d (d.N.take d.np) x f:=by
 let{{h1,h2,h3,h4,h5,h6,h7},h8,h9,h10,h11,h12,h13}:=of_decide_eq_true h
 have hl:(d.N.take d.np).length=d.np:=by rw[List.length_take];omega
 apply{{{h1,h2,h3,h4,by rw[hl],h5,h6},hl,h8},λkV dc pm an cd ct us hu=>?_}
 rw[←h9]at hu ⊢
 show bnd_pl (List.isEmpty_iff.1 h10) (List.isEmpty_iff.1 h11) (Option.isNone_iff_eq_none.1 h12) (Option.isNone_iff_eq_none.1 h13) (h9▸(List.take_sublist _ _).nodup h4) hu
def fnC(U:Str->List Str)(st:BG)(d:Def)(f:Str)(b:Bool):Bool:=stC st d&&(!d.N.contains t6||b)&&(A0 U f).isNone
def mtC(U:Str->List Str)(st:BG)(d:Def)(c m:Str)(b:Bool):Bool:=fnC U st d (f6 c m) b&&(!isM c&&!isM m)
theorem fnC_of{U:Str->List Str}{st:BG}{d:Def}{f:Str}{b:Bool}(h:fnC U st d f b=AD):stC st d=AD/\(d.N.contains t6=AD->b=AD)/\A0 U f=AF:=by
 erw[fnC,Bool.and_eq_true,Bool.or_eq_true,Bool.not_eq_true',Option.isNone_iff_eq_none]at h
 show{h.1.1,λz=>h.1.2.resolve_left (by rw[z];nofun),h.2}
section
variable [Tbs] {K:AO} {mg:Str->Option AG} {h:BA} {f c m:Str} {d:Def} {st:BG} {Ca:AI} {b:Bool} {U:Str->List Str}
def FnA.ok(A:FnA K Tbs.ps b f st)(X:K.In h)(G:h.Ns AN mg)(C:fnC U st d f b=AD:=by decide+kernel):DefOk K mg (A0 U f) f d:=by
 let{o,l,s,j,m,n,p,k,r,q,i,c,g,k1,m1}:=A;let{S,e,a}:=fnC_of C;show c12 X G (stat_of S) i c g k1 (λz=>m1 (e z)) a
def FnD.ok{a:List Str}(A:FnD K f st)(X:K.In h)(G:h.Ns AN mg)(S:Stat0 st d a)
  (l:∀(T:AI)(c g b:AG)(k:Option AI)(j i:AG)(s:AK)(o:Obj)(n:Nat),s.heap.get? T=AA o->o.data=.seq #[.none] n->(∀us:List AG,us.length=a.length->FW s (Cw f f (z7 st) (u5 st) (n8 st) (.ref T) c g b k j i) {us,[]} (a.zip us))/\∀us:List AG,us.length+1=a.length->FW s (Cw f f (z7 st) (u5 st) (n8 st) (.ref T) c g b k j i) {us,[]} (a.zip (us++[.none])))
  (t:(d.N.contains t6=AE):=by decide+kernel):DefOk K mg (A0 U f) f d:=by
 let{u,T,y,k,w,x,p,B,c,g,b,j,i,tc,n,m,r,v,k1,q}:=A;have e:=λs(hK:K.In s.heap)=>l T c g b k j i s _ _ (hK _ _ q) rfl;show{u,_,a,{{st,f,{⟨_,_,_,_,_,_,_,_,_,_,rfl,r,v⟩,k1},S},λs us hK hl=>by
  rw[BL]at hl ⊢;show(e s hK).1 us hl,λz=>by rw[t]at z;cases z},Fw X G m,m,λ_ s us hK hl=>(e s hK).2 us (by simpa using hl)}
def MtA.ok(A:MtA K Tbs.ps b c Ca m st)(C:ClA K c Ca)(X:K.In h)(G:h.Ns AN mg)(W:mtC U st d c m b=AD:=by decide+kernel)(i:f=f6 c m:=by decide+kernel):∃c m,f=f6 c m/\isM c=AE/\isM m=AE/\MthOk K mg (A0 U (f6 c m)) c m d:=by
 let{u,r,y,p,s,t,v,q,x,w,o,M,g,n,m1}:=A;subst i;erw[mtC,Bool.and_eq_true,Bool.not_eq_true']at W;let{S,j,e}:=fnC_of W.1;show{c,m,rfl,W.2.1,W.2.2,cq5 X G (stat_of S) o C.a C.cl M (λz=>by subst z;show⟨C.ms,M.at_,M.fn,C.kp⟩) g n (λz=>m1 (j z)) e}
def MtD.ok{i:Int}{b:List Str}(A:MtD K c Ca m st i)(C:ClA K c Ca)(X:K.In h)(G:h.Ns AN mg)(S:Stat0 st d b)
  (r:∀(T:AI)(g j e:AG)(p:Option AI)(l k:AG)(tk:Tok)(s:AK)(o:Obj)(n:Nat),s.heap.get? T=AA o->o.data=.seq #[.int i tk] n->(∀us:List AG,us.length=b.length->FW s (Cw m (f6 c m) (z7 st) (u5 st) (n8 st) (.ref T) g j e p l k) {us,[]} (b.zip us))/\∀us:List AG,us.length+1=b.length->FW s (Cw m (f6 c m) (z7 st) (u5 st) (n8 st) (.ref T) g j e p l k) {us,[]} (b.zip (us++[.int i tk])))
  (y:(d.N.contains t6=AE):=by decide+kernel) (q:A0 U (f6 c m)=AA i:=by decide+kernel) (D:isM c=AE:=by decide+kernel) (B:isM m=AE:=by decide+kernel) (w:m≠"__init__":=by decide+kernel) (x:f=f6 c m:=by decide+kernel):∃c m,f=f6 c m/\isM c=AE/\isM m=AE/\MthOk K mg (A0 U (f6 c m)) c m d:=by
 let{O,T,J,p,H,I,t,L,g,j,e,l,k,tc,tk,n,F,M,v,E,u}:=A;subst x;show{c,m,rfl,D,B,cl4 X G S (λs o n=>r T g j e p l k tk s o n) F C.a C.cl M (λz=>absurd z w) v E u (λz=>by rw[y]at z;cases z) q}
end
def i8{e c:Type}{P:e->c->Prop}{a}{b}{l}(h:P a b)(t:∀f d,(f,d)∈l->P f d):∀f d,(f,d)∈(a,b)::l->P f d:=λf d hx=>(AQ.1 hx).elim λe=>by grind (t f d)
def bo9{b a:Type}{P:b->a->Prop}:∀f d,(f,d)∈[]->P f d:=nofun
end
section
local macro_rules|`(tactic|rfl')=>do
 let l:=("c80 da7 cz0 cq4 c83 c94 df8 c52 c74 cz8 c93 cm5 cu0 cy3 dk4 c54 db7 dj1 bq8 da8 e_v dc9 dc3 c77 c45 c73 db5 c28 c70 dh3 c57 dc4 dj4 dl6 c44 c49 cg6 ck9 cm6 c72 b50 cj0 cm8 cs1 cb9 cj4 ci3 cg4 ct2 cl0 b52 cq0 df2 ch4 cs3 cf9 de5 c48 c32 c09 ce0 dg2 cn9 c46 cq3 dd8 b79 a94 di0 ce8 c02 c59 cz2 cu3 cz3 cs9 da3 c68 dc2 cm2 da4 c89 c78 cd4 dc0 de2 c14 c01 cr2 cd9 c67 c85 cv9 cz1 cz5 c79 dk1 dg6 dk5 dk3 dg0 dj2 c41 ax1 dc8 cp0 dd6 cu4 dh0 dj9 dl9 or_false false_or cp3 c22 c13 cs6 bj8 c08 cs2 db8 ah4 de7 c42 c61 bp0 au8 ac3 c40 ci8 dc7 c50 dd1 dd5 br6 c75 dh2 c91 ax9 df5 dj3 dl5 dg7 c55 cp6 db1 c99 cv5 cl9 ca2 cp5 ch7 c30 bo2 cr5 bv5 bw4 c95 c17 List.set_cons_zero List.set_cons_succ List.getElem?_cons_zero List.getElem?_cons_succ decide_eq_true_eq not_eq_true' decide_eq_false_iff_not if_true if_false true_and and_true false_eq_true Bool.true_eq_false length_cons length_nil String.reduceEq decide_true decide_false Bool.not_true Bool.not_false".splitOn " ").toArray.map fun n=>Lean.mkIdent n.toName
 `(tactic|try simp only[↓di6,↓dl4,↓dk2,↓dj5,$[$l:ident],*])
set_option hygiene false
local macro_rules | `(tactic| ∎)=>`(tactic| ((try dsimp only);(first | refine dm6 ?_ | rw [c37]);rfl'))
set_option hygiene true
variable{n l r m i u m1:Nat}{P:f9}{G:Gs}{st st':Sto}{Q:DK}{x p y o c q:Pg}{L X R:List AI}{dn sh sa pa wa ca ka la ba aa da:AI}{ds fr A:List D}{M kd' nd kd nm md tt:D}{f:Nat->Nat->Option Pg}{h h' w':Int}{a b:Kd}{ws ws':List (Kd×Bool)}{Γ ks Δ:List Kd}{bX:Bool}
structure PB0(P:f9):Prop where
 mixed:P "_law_mixed"=AA d_law_mixed
 deck:P "_law_deck"=AA d_law_deck
 next:P "_law_next"=AA d_law_next
 power:P "_law_power"=AA d_law_power
 count:P "_law_count"=AA d_law_count
 kind:P "_law_kind"=AA d_law_kind
structure PB(P:f9):Prop extends PB0 P where
 least:P "_law_least"=AA d_law_least
 made:P "_law_made"=AA d_law_made
 nest:P "_law_nest"=AA d_law_nest
 asked:P "_law_asked"=AA d_law_asked
 grown:P "_law_grown"=AA d_law_grown
 inner:P "_law_inner"=AA d_law_inner
 parts:P "_law_parts"=AA d_law_parts
 program:P "_law_program"=AA d_law_program
 names:P "_law_names"=AA d_law_names
def b73{ns:List Int}{lo hi:Option Int}:∃a:List Int,A6 (ns.map D.int) lo hi=a.map D.int/\a.length<=ns.length:=by
 apply{(ns.drop (HT.sIx (ns.map D.int).length 0 lo)).take (HT.sIx (ns.map D.int).length (ns.map D.int).length hi-HT.sIx (ns.map D.int).length 0 lo),by unfold A6;rw[Lu,Lv],?_};rw[Bu,Bv];lia
def E7{lo:Int}:(p8 lo n).length=n:=by simp[p8]
def ao7{b:Type}(l:List b):l=[]\/∃a c,l=a++[c]:=by
 rcases List.eq_nil_or_concat l with h|⟨a,c,h⟩
 ·show .inl h
 ·show .inr {a,c,by simp_all}
abbrev L7(P:f9)(G:Gs)(n:Nat):D->Spec
 |.fn f=>sem P G n f
 |.clo np N b cs=>F7 P G n np N b cs
 |_=>λ_ _ _=>False
abbrev Cok(P:f9):D->Prop
 |.fn f=>(P f).isSome=AD
 |.clo _ _ _ _=>True
 |_=>False
def af3{ta}{x}(h:Cok P x)(q:ta st λds st1=>L7 P G n x ds st1 Q):U1 (Zg P G n) ta st Q x:=by
 cases x<;>first|show h.elim|show⟨h,q⟩|show q
section
variable {T:Type} (subs:T->List T)
inductive Ord:List T->List T->Prop where
 |nil:Ord [] []
 |cons {S l:List T} {c:T}:Ord (S++subs c) l->Ord (S++[c]) (c::l)
inductive Rn:List T->List T->T->Prop where
 |done (t:T):Rn [] [t] t
 |step {h r:T} {l S:List T}:Rn l (S++[h]) r->Rn (h::l) (S++subs h) r
def c34{S l}(h:Ord subs S l):∀{a S0}{r},Rn subs a (S0++S) r->Rn subs (l.reverse++a) S0 r:=by
 induction h with
 |nil=>simp_all
 |@cons S l c _ d=>
  intro a S0 r q;rw[Dn,Cq];apply d ?_;rw[<-Cq];apply .step ?_;rwa[Cq]
end
def none_of{p}(K:Kp [] st st')(h:st' p=AF):st p=AF:=by
 cases z:st p with
 |none=>rfl
 |some u=>rw[K.at' z ∎]at h;cases h
def ba4{W:Type}{J:W->Sto->Prop}{p}{s}(K:Kp L st st')(f:∀a∈L,∃o,st a=AA o)(h:st' p=AF)(d:J s st')(b:∀{s st},J s st->∀a∈L,∃o,st a=AA o):st p=AF:=by
 cases z:st p with
 |none=>rfl
 |some u=>
  by_cases c:p∈L
  ·let{o,e}:=b d p c;rw[h]at e;cases e
  ·rw[K.at' z c]at h;cases h
abbrev ag8(st st':Sto)(d:D)(xs:List D):Prop:=d=.tup xs\/∃a,d=.ref a/\st a=AF/\st' a=AA (.lst xs)
theorem ar0{T:Type}(f:T->Nat):∀{l:List T}{c},c∈l->f c<=(l.map f).sum
 |a::l,c,h=>by
  rw[Au,DV]
  rcases AQ.mp h with rfl|h
  ·lia
  ·have:=ar0 f h;lia
theorem as0{T:Type}{size:T->Nat}{subs:T->List T}(hsz:∀t,size t=1+((subs t).map size).sum):∀l:List T,l.length<=(l.map size).sum
 |[]=>by simp
 |a::l=>by have:=hsz a;have:=as0 hsz l;erw[Au,DV,AW];lia
def cl2{T}{subs}{size}(hsz:∀t,size t=1+((subs t).map size).sum){l S}{r:T}(h:Rn subs l S r):(S.map size).sum<=size r:=by
 induction h with
 |done t=>simp
 |@step h r l S _ a=>
  have:=hsz h;erw[Aj,DH,Au,Eu,DV,HI]at a ⊢;lia
structure PM(P:f9)(G:Gs):Prop where
 mop:P "made_of_parts"=AA al2
 few:P "order_of_few"=AA am5
 taken:P "taken"=AA ar6
 cst:G.cst "FEW"=AA (.int 2000)
section
variable (T0:PM P G) {T:Type} {enc:T->D} {subs:T->List T} {size:T->Nat} {Dq:T->Prop}
include T0
def cs7{J:Sto->Prop}(M:∀{C g i},J C->st i=AF->i∉L->Kp [i] C g->J g)(j0:J st)(Z:∀{st},J st->∀a∈L,∃o,st a=AA o)(hsz:∀t,size t=1+((subs t).map size).sum)(hg:∀t,Dq t->∀c∈subs t,Dq c){F:D}(hF:Cok P F)(t:T)(hs:size t<=2000)(X:Dq t)
  (W:∀c f Q,Dq c->J f->Kp L st f->(∀d g,ag8 f g d ((subs c).map enc)->J g->Kp L f g->Q d g)->L7 P G n F [enc c] f Q)
  (q:∀a f l,st a=AF->Ord subs [t] l->(∀c∈l,Dq c)->f a=AA (.lst (l.map λc=>.tup [enc c,.int (subs c).length]))->J f->Kp L st f->l.length<=size t->Q (.ref a) f):sem P G (n+1) "order_of_few" [enc t,F] st Q:=by
 have E:∀{p:AI},st p=AF->p∉L:=λ{p}W z=>by
  let{o,e}:=Z j0 p z;rw[W]at e;cases e
 apply i6 T0.few rfl [AA (enc t),AA F,AF,AF,AF,AF] rfl ?_;intro o s;∎;intro h B;have k:o≠h:=l5 f8 B;have j:st h=AF:=by
  cases z:st h with
  |none=>rfl
  |some u=>rw[l0 z s]at B;cases B
 have w:=E s;have r:=E j;apply b02 (λm env f=>∃(i S:List T)(x y:Option D),env=[AA (enc t),AA F,AA (.ref o),AA (.ref h),x,y]/\f o=AA (.lst (i.map λc=>.tup [enc c,.int (subs c).length]))/\f h=AA (.lst (S.map enc))/\(∀l,Ord subs S l->Ord subs [t] (i++l))/\(∀c∈i,Dq c)/\(∀c∈S,Dq c)/\(S.map size).sum=m/\i.length+m=size t/\J f/\Kp L st f) ?_ _ _ _ {[],[t],AF,AF,rfl,l0 f8 B,f8,λl z=>z,∎,by simpa using X,rfl,∎,M (M j0 s w (Kp.refl.new s)) j r (Kp.refl.new B),(Kp.refl.new s).new B};rintro m env f _ ⟨i,S,x,y,rfl,h1,h2,h3,gd,gS,h4,h5,Js,K⟩ ih;rw[cg8];rfl';rw[r9 (.inl h2)];rfl'
 rcases ao7 S with rfl|⟨S,c,rfl⟩
 ·∎;apply c9 (q o f i s ?_ gd h1 Js K ⋯);have:=h3 [] .nil;simpa using this
 ·rw[if_pos (by erw[Aj,Au,Eu,Ad,AV,AW,Ap];lia)];rw[Aj,Au,Eu]at h2;erw[Aj,Au,Eu,DH,DV,HI]at h4;have sc:=hsz c;have gc:Dq c:=gS c ∎;have v:∀l:List T,l.length<=(l.map size).sum:=λl=>by
   induction l with
   |nil=>simp
   |cons a l ih=>have:=hsz a;erw[Au,DV,AW];lia
  have hl3:=v S;have hl4:=v (subs c);∎;rw[X4 h2];have N:b0 f h (.lst (S.map enc)) o=AA (.lst (i.map λc=>.tup [enc c,.int (subs c).length])):=f7 h1 k;∎;apply af3 hF ?_;rfl';have K1:Kp L st (b0 f h (.lst (S.map enc))):=λb u O e=>f7 (K b u O e) (λz=>by rw[z,j]at e;cases e);have J1:J (b0 f h (.lst (S.map enc))):=M Js j r (Kp.refl.put ∎);apply W c _ _ gc J1 K1 λd g hd Js2 K2=>?_;have o2:=K2.at' N w;have s2:=K2.at' (f8 (st:=f) (a:=h) (o:=.lst (S.map enc))) r;∎;rw[B5 (.inl o2)];have A:∀{R:DK},R (.int (subs c).length) g->U8 d g R:=λ{R}z=>by
   rcases hd with rfl|⟨a,rfl,_,Y⟩
   ·change R _ g;simpa using z
   ·rw[r9 (.inl Y)];simpa using z
  apply{trivial,A ?_};rw[E1 o2];apply{C8 (by erw[AV];lia),?_};∎;have U:b0 g o (.lst ((i.map λc=>D.tup [enc c,.int (subs c).length])++[.tup [enc c,.int (subs c).length]])) h=AA (.lst (S.map enc)):=f7 s2 k.symm;rw[B5 (.inl U)];have H:∀{R:DK},R .non (b0 (b0 g o (.lst ((i.map λc=>D.tup [enc c,.int (subs c).length])++[.tup [enc c,.int (subs c).length]]))) h (.lst (S.map enc++(subs c).map enc)))->Y3 (.ref h) d (b0 g o (.lst ((i.map λc=>D.tup [enc c,.int (subs c).length])++[.tup [enc c,.int (subs c).length]]))) R:=λ{R}z=>by
   rcases hd with rfl|⟨a,rfl,I,Y⟩
   ·rw[c82 U];show{C7 (by erw[AV];lia),z}
   ·have V:a≠o:=λz=>by rw[z,N]at I;cases I
    rw[bp8 U (f7 Y V)];show{C7 (by erw[AV];lia),z}
  apply{trivial,H ?_};∎;rw[r9 (.inl (f7 f8 k))];rfl';apply{.int 2000,T0.cst,?_};rfl';rw[if_neg (by erw[Ad,AV,AW,Ap];lia)];rfl';apply ih ((S++subs c).map size).sum _ _ (by erw[Aj,DH];lia) {i++[c],S++subs c,_,_,rfl,?_,?_,?_,?_,?_,rfl,?_,M (M Js2 s w (Kp.refl.put ∎)) j r (Kp.refl.put ∎),?_}
  ·rw[Aj];show f7 f8 k
  ·rw[Aj];show f8
  ·intro l hl;have:=h3 (c::l) (.cons hl);simpa using this
  ·intro z hz
   rcases BO.mp hz with hz|hz
   ·show gd z hz
   ·simp at hz;rw[hz];show gc
  ·intro z hz
   rcases BO.mp hz with hz|hz
   ·show gS z (by simp[hz])
   ·show hg c gc z hz
  ·erw[Ad,AW,Ap,Aj,DH];lia
  ·intro b u O e;have eh:b≠h:=λz=>by rw[z,j]at e;cases e
   have eo:b≠o:=λz=>by rw[z,s]at e;cases e
   show f7 (f7 (K2.at' (K1 b u O e) O) eo) eh
def b74{j:List D}(t:j.length=m)(p:st dn=AA (.lst (ds++j)))(w:j.length<=2000)
  (q:∀a f,st a=AF->a≠dn->f a=AA (.lst j)->f dn=AA (.lst ds)->Kp [dn] st f->Q (.ref a) f):sem P G (n+1) "taken" [.ref dn,.int m] st Q:=by
 subst t;apply i6 T0.taken rfl [AA (.ref dn),AA (.int j.length),AF,AF] rfl ?_;intro o r;have k:dn≠o:=l5 p r;∎;apply{{⋯,⋯},?_};apply J9 (λl env f=>∃(g h:List D)(x:Option D),j=g++h/\l.length=g.length/\(∀d∈l,∃i,d=.int i)/\env=[AA (.ref dn),AA (.int j.length),AA (.ref o),x]/\f dn=AA (.lst (ds++g))/\f o=AA (.lst h.reverse)/\Kp [dn] st f) ?_ ?_ _ _ _ ⟨j,[],AF,∎,by simp[p8],λd p=>by simp[p8]at p;let{i,_,rfl}:=p;show⟨_,rfl⟩,rfl,by rw[l0 p r],f8,Kp.refl.new r⟩
 ·rintro env f ⟨g,h,x,e,hl,_,rfl,h1,h2,K⟩;have:g=[]:=by simpa using hl.symm
  subst this;subst e;∎;rw[dd3 h2];∎;apply c9 (q o _ r (λz=>k z.symm) ?_ (f7 (by simpa using h1) k) λb u nb e=>f7 (K b u nb e) (λz=>by rw[z,r]at e;cases e));rw[f8,IW]
 ·rintro d0 dl env f ih ⟨g,h,x,e,hl,hi,rfl,h1,h2,K⟩;rcases ao7 g with rfl|⟨g,c,rfl⟩
  ·simp at hl
  rfl';∎;rw[B5 (.inl h2),X4 (by rw[h1,Cq]:f dn=AA (.lst ((ds++g)++[c])))];have s:b0 f dn (.lst (ds++g)) o=AA (.lst h.reverse):=f7 h2 k.symm;rw[E1 s];have v:h.length<=j.length:=by rw[e];simp;lia
  apply{trivial,C8 (by rw[Ie];lia),?_};rfl';apply ih _ _ {g,c::h,_,by rw[e];simp,by simp at hl ⊢;lia,λd p=>hi d (by simp[p]),rfl,f7 f8 k,by rw[f8,Dn],λb u nb e=>f7 (f7 (K b u nb e) (λz=>nb (by simp[z]))) (λz=>by rw[z,r]at e;cases e)}
abbrev KpN(L:List AI)(st st':Sto):Prop:=∀b o,b∉L->(∀c fs,o≠.ins c fs)->st b=AA o->st' b=AA o
def bg9{J:Sto->Prop}{L:List AI}(hJ:∀{r g i},J r->st i=AF->i∉L->Kp [i] r g->J g)(j0:J st)(C:∀{st},J st->∀a∈L,∃o,st a=AA o)(hsz:∀t,size t=1+((subs t).map size).sum)(hg:∀t,Dq t->∀c∈subs t,Dq c){F:D}(hF:Cok P F)(hM:Cok P M)(t:T)(hs:size t<=2000)(hgt:Dq t){Y:AI->List T->List D->Sto->Prop}(hYL:∀{i S k r},Y i S k r->∀a∈L,∃o,r a=AA o)
  (hY0:∀i st',st i=AF->J st'->Kp L st st'->Y i [] [] st') (U:∀{i S k r g},st i=AF->Y i S k r->Kp [i] r g->Y i S k g)
  (H:∀c st' Q,Dq c->J st'->Kp L st st'->(∀d g,ag8 st' g d ((subs c).map enc)->J g->Kp L st' g->Q d g)->L7 P G n F [enc c] st' Q)
  (hm:∀c i la st' Q S k y,Dq c->Kp L st st'->st i=AF->la∉L->la≠i->st la=AF->st' la=AA (.lst y)->y.length=(subs c).length->k.length=S.length->Y i (S++subs c) (k++y) st'->st' i=AA (.lst k)->(S.map size).sum+size c<=size t->(∀d g,Y i (S++[c]) (k++[d]) g->KpN L st' g->Kp L st g->Q d g)->L7 P G (n+1) M [enc c,.ref la] st' Q)
  (q:∀i d st',st i=AF->Y i [t] [d] st'->Kp L st st'->Q d st'):sem P G (n+2) "made_of_parts" [enc t,F,M] st Q:=by
 apply i6 T0.mop rfl [AA (enc t),AA F,AA M,AF,AF,AF,AF] rfl ?_;∎;apply{by rw[T0.few];rfl,cs7 T0 (Dq:=λc=>Dq c/\size c<=2000) (J:=J) (L:=L) hJ j0 C hsz (λc gc c' hc'=>{hg c gc.1 c' hc',BB (ar0 size hc') (by have:=hsz c;lia)}) hF t hs ⟨hgt,hs⟩ (λc st' Q gc=>H c st' Q gc.1) λoa r l hoa0 hord gl hoa Js1 K1 hl=>?_};have hL:=C j0;∎;apply .inr {nofun,?_};intro i s;have I:oa≠i:=l5 hoa s;have j:st i=AF:=by
  cases e:st i with
  |none=>rfl
  |some u=>
   by_cases z:i∈L
   ·let{o,e}:=C Js1 i z;rw[s]at e;cases e
   ·rw[K1.at' e z]at s;cases s
 have R:i∉L:=λz=>by let{o,e}:=hL i z;rw[j]at e;cases e
 have hoL:oa∉L:=λz=>by let{o,e}:=hL oa z;rw[hoa0]at e;cases e
 ∎;apply{_,.inl (l0 hoa s),?_};rw[<-JU];have Z:∀(u:Ob)(g:Sto),Kp L st g->Kp L st (b0 g i u):=λu g K b o nb e=>f7 (K b o nb e) (λz=>by rw[z,j]at e;cases e);apply J9 (λll env st'=>∃(x S:List T)(k:List D)(X W:Option D),ll=x.map (λc=>D.tup [enc c,.int (subs c).length])/\(∀c∈x,Dq c/\size c<=2000)/\Rn subs x S t/\env=[AA (enc t),AA F,AA M,AA (.ref oa),AA (.ref i),X,W]/\st' i=AA (.lst k)/\k.length=S.length/\S.length+x.length<=100000/\Y i S k st'/\st' oa=AA (.lst (l.map λc=>.tup [enc c,.int (subs c).length]))/\Kp L st st') ?_ ?_ _ _ _ {l.reverse,[],[],AF,AF,rfl,λc hc=>gl c (by simpa using hc),by simpa using c34 subs hord (.done t) (S0:=[]) ,rfl,f8,rfl,by simp;lia,hY0 i _ j (hJ Js1 j R (Kp.refl.new s)) (K1.new s),l0 hoa s,(K1.new s).more ∎}
 ·rintro env st' ⟨x,S,k,X,W,el,_,E,rfl,hd,hl',_,hv,hoa',K⟩;have es:x=[]:=by simpa using el.symm
  subst es;apply{.inl hoa',?_};cases E;obtain⟨d,rfl⟩:∃d,k=[d]:=by match k,hl' with|[d],_=>show⟨d,rfl⟩
  ∎;rw[l7 (.inl hd)];show{d,rfl,c9 (q i d st' j hv K)}
 ·rintro d0 dl env st' ih ⟨x,S,k,X,W,el,hin,E,rfl,hd,hl',hb,hv,hoa',K⟩;apply{.inl hoa',?_};cases x with
  |nil=>simp at el
  |cons h x=>
   erw[Au,An]at el;let{rfl,rfl}:=el;erw[AW]at hb;have gh:Dq h:=(hin h ∎).1;cases E with
   |@step _ _ _ S E=>
   erw[Ad]at hl' hb;obtain⟨k,y,rfl,O,N⟩:∃V y,k=V++y/\V.length=S.length/\y.length=(subs h).length:={k.take S.length,k.drop S.length,(FQ _ _).symm,by rw[Bu];lia,by rw[Bv];lia};have hss:(subs h).length<=2000:=by
    have h1:=(hin h ∎).2;have h2:=hsz h;have h3:=as0 hsz (subs h);lia
   have B:∀la g,la∉L->la≠i->st la=AF->g la=AA (.lst y)->g i=AA (.lst k)->Kp [i] st' g->L7 P G (n+1) M [enc h,.ref la] g λd st3=>ad4 (.ref i) d st3 λ_ st4=>A4 (λst'=>rdS st' oa (l.map λc=>.tup [enc c,.int (subs c).length])) (.tup [5,6]) (j7 (Zg P G (n+1)) (.cons (.ex (.app (.v 4) (.callv 2 (.cons (.v 5) (.cons (.ite (.cmp .Gt (.v 6) (.int 0)) (.call "taken" (.cons (.v 4) (.cons (.v 6) .nil))) (.lst .nil)) .nil))))) .nil)) {j7 (Zg P G (n+1)) (.cons (.ret (.ix (.v 4) (.int 0))) .nil) (l9 Q),(l9 Q).rt,(l9 Q).bk,(l9 Q).ct} (x.map λc=>D.tup [enc c,.int (subs c).length]) [AA (enc t),AA F,AA M,AA (.ref oa),AA (.ref i),AA (enc h),AA (.int (subs h).length)] st4:=λla g m hne hl0 hl2 hd2 K2=>by
    have KK:Kp L st g:=λb u nb e=>K2.at' (K b u nb e) (by simp;show λz=>by rw[z,j]at e;cases e);apply hm h i la g _ S k y gh KK j m hne hl0 hl2 N O (U j hv K2) hd2 (by have:=cl2 hsz E;simpa using this) λd st3 vd N3 K3=>?_;have hd3:=N3 i _ R (λ_ _ z=>by cases z) hd2;rw[E1 hd3];apply{C8 ⋯,?_};show ih _ _ {x,S++[h],k++[d],_,_,rfl,λc hc=>hin c (by simp[hc]),E,rfl,f8,by simp[O],by simp;lia,U j vd (Kp.refl.put ∎),f7 (N3 oa _ hoL (λ_ _ z=>by cases z) (K2.at' hoa' (by simpa using I))) I,Z _ _ K3}
   have A:∀{p:AI},st' p=AF->p∉L/\st p=AF:=λ{p}H=>by
    by_cases z:p∈L
    ·let{o,e}:=hYL hv p z;rw[H]at e;cases e
    ·apply{z,?_};cases e:st p with
     |none=>rfl
     |some u=>rw[K.at' e z]at H;cases H
   rfl';∎;rw[B5 (.inl hd)];apply{trivial,af3 hM ?_};rfl'
   by_cases h0:(subs h).length=0
   ·rw[if_neg ⋯];intro la m;have exs:y=[]:=Bj ⋯;subst exs;show B la _ (A m).1 (l5 hd m).symm (A m).2 f8 (l0 (by simpa using hd) m) (Kp.refl.new m)
   ·rw[if_pos ⋯];apply{by rw[T0.taken];rfl,?_};show b74 T0 N hd ⋯ λla g m hne hl2 hd2 K2=>B la g (A m).1 hne (A m).2 hl2 hd2 K2
def cf5{W:Type}{J:W->Sto->Prop}{le:W->W->Prop}{L:List AI}(N:∀s,le s s)(I:∀{s t u},le s t->le t u->le s u)(U:∀{s st st' dn},J s st->dn∉L->Kp [dn] st st'->J s st')(hsz:∀t,size t=1+((subs t).map size).sum)(hg:∀t,Dq t->∀c∈subs t,Dq c){F:D}(hF:Cok P F)(hM:Cok P M)(t:T)(Z:size t<=2000)(H:Dq t){V:AI->W->T->D->Sto->Prop}(R:∀{dn s s' k d st st'},V dn s k d st->le s s'->Kp (dn::L) st st'->V dn s' k d st')
  {s0:W} {μ:W->Nat} {B:Nat} (hB:μ s0+size t<=B) (O:J s0 st) (m:∀{s st},J s st->∀a∈L,∃o,st a=AA o)
  (hp:∀c st' Q s,Dq c->μ s+1<=B->J s st'->Kp L st st'->(∀d s' g,ag8 st' g d ((subs c).map enc)->le s s'->μ s'<=μ s->J s' g->Kp L st' g->Q d g)->L7 P G n F [enc c] st' Q)
  (hm:∀c dn l st' Q w s,Dq c->μ s+1<=B->J s st'->Kp L st st'->st dn=AF->l∉L->l≠dn->st l=AF->st' l=AA (.lst w)->w.length=(subs c).length->(∀(i:Nat)A d,(subs c)[i]?=AA A->w[i]?=AA d->V dn s A d st')->(∃C,st' dn=AA (.lst C))->(∀d s' g,V dn s' c d g->le s s'->μ s'<=μ s+1->J s' g->Kp L st' g->Q d g)->L7 P G (n+1) M [enc c,.ref l] st' Q)
  (q:∀dn d s' st',st dn=AF->V dn s' t d st'->le s0 s'->μ s'<=B->J s' st'->Kp L st st'->Q d st'):sem P G (n+2) "made_of_parts" [enc t,F,M] st Q:=by
 apply bg9 T0 (J:=λst'=>∃s,J s st'/\le s0 s/\μ s<=μ s0) (L:=L) (λ⟨s,r,p⟩_ a b=>{s,U r a b,p}) {s0,O,N s0,AS _} (λ⟨s,h,_⟩=>m h) hsz hg hF hM t Z H (Y:=λdn S w st'=>∃s,J s st'/\le s0 s/\μ s<=μ s0+(S.map size).sum/\dn∉L/\∀(i:Nat)c d,S[i]?=AA c->w[i]?=AA d->V dn s c d st') (λ⟨s,h,_⟩=>m h)
  (λdn st' h⟨s,a,b,c⟩_=>{s,a,b,c,(λz=>by let{o,e}:=m O dn z;rw[h]at e;cases e),nofun}) (λ_⟨s,a,b,c,d,e⟩K=>{s,U a d K,b,c,d,λi x y r p=>R (e i x y r p) (N s) (K.more ∎)})
  (λc st' Q gc⟨s,a,b,e⟩K k=>hp c st' Q s gc (by have:=hsz t;lia) a K λd s' g r p h3 h4=>k d g r {s',h4,I b p,⋯})
  (λc dn l st' Q S w C gc K h0 r p h3 h4 h5 h6 hY h7 h8 k=>?_) λdn d st' h0⟨s,a,b,e,_,v⟩K=>q dn d s st' h0 (v 0 t d rfl rfl) b (by simp at e;lia) a K
 let{s,a,b,e,dL,v}:=hY;have sc:=hsz c;rw[Aj,DH]at e;apply hm c dn l st' Q C s gc ⋯ a K h0 r p h3 h4 h5 (λi A d e1 e2=>v (S.length+i) A d (by rw[Af ⋯,ID];show e1) (by rw[Af ⋯,h6,ID];show e2)) ⟨_,h7⟩ λd s' g vd hle hμ Js K2=>k d g {s',Js,I b hle,by erw[Aj,Au,Eu,DH,DV,HI];lia,dL,λi A d' e1 e2=>?_} (λb o nb _ e=>K2 b o nb e) (K.trans K2)
 by_cases hi:i<S.length
 ·rw[Ab hi]at e1;rw[Ab ⋯]at e2;show R (v i A d' (by rw[Ab hi];show e1) (by rw[Ab ⋯];show e2)) hle (K2.more (by intro x X;simp[X]))
 ·rw[Af ⋯]at e1;rw[Af ⋯]at e2;have E:i-S.length=0:=by
   have:=(AY.mp e1).1;simp at this;lia
  rw[E]at e1;rw[show i-w.length=0 by lia]at e2;cases e1;cases e2;show vd
end
abbrev Kd.size:Kd->Nat
 |.non=>1|.one=>1
 |.eith a b=>1+a.size+b.size
 |.both a b=>1+a.size+b.size
 |.way a b=>1+a.size+b.size
def b39(k:Kd):k.size+1<=2^(k.nest+1):=by
 have e:∀a b:Kd,a.size+1<=2^(a.nest+1)->b.size+1<=2^(b.nest+1)->1+a.size+b.size+1<=2^(1+max a.nest b.nest+1):=λa b ha hb=>by
  have m:2^(a.nest+1)<=2^(max a.nest b.nest+1):=Fh ∅ ⋯;have l:2^(b.nest+1)<=2^(max a.nest b.nest+1):=Fh ∅ ⋯;lia
 induction k with
 |non=>decide
 |one=>decide
 |eith a b d c=>show e a b d c
 |both a b d c=>show e a b d c
 |way a b d c=>show e a b d c
structure PT0(P:f9)(G:Gs):Prop extends PM P G where
 bu:P "built_up"=AA d_built_up
mutual
noncomputable def D.lit:D->Bool
 |.int _=>AD
 |.str x=>FG (.str x)
 |.tup ds=>D.lits ds
 |_=>AE
noncomputable def D.lits:List D->Bool
 |[]=>AD
 |d::r=>d.lit&&D.lits r
end
mutual
theorem aq4:∀d:D,d.lit=AD->d.pure=AD
 |.int _,_=>rfl
 |.str _,h=>h
 |.tup ds,h=>by rw[R7];show az8 ds h
 |.non,h=>nomatch h
 |.bl _,h=>nomatch h
 |.ref _,h=>nomatch h
 |.fn _,h=>nomatch h
theorem az8:∀ds:List D,D.lits ds=AD->D.pures ds=AD
 |[],_=>rfl
 |d::r,h=>by
  have h':d.lit=AD/\D.lits r=AD:=by simpa[D.lits]using h
  rw[F9,aq4 d h'.1,az8 r h'.2];rfl
end
mutual
theorem aa5:∀x y:D,x.lit=AD->y.lit=AD->(deq x y=AD↔x=y)
 |.int i,y,hx,hy=>by
  cases y<;>first|(simp[D.lit]at hy;done)|skip
  ·rw[as6];simp
  ·constructor
   ·intro h;simp[deq,D.py,Ay]at h
   ·intro h;cases h
  ·constructor
   ·intro h;simp[deq,D.py,Ay]at h
   ·intro h;cases h
 |.str x,y,hx,hy=>by
  cases y<;>first|(simp[D.lit]at hy;done)|skip
  ·constructor
   ·intro h;simp[deq,D.py,Ay]at h
   ·intro h;cases h
  ·rw[M8];simp
  ·constructor
   ·intro h;simp[deq,D.py,Ay]at h
   ·intro h;cases h
 |.tup xs,y,hx,hy=>by
  cases y<;>first|(simp[D.lit]at hy;done)|skip
  ·constructor
   ·intro h;simp[deq,D.py,Ay]at h
   ·intro h;cases h
  ·constructor
   ·intro h;simp[deq,D.py,Ay]at h
   ·intro h;cases h
  ·rename_i ys;rw[V9,ba5 xs ys hx hy];simp
 |.non,y,hx,hy=>nomatch hx
 |.bl _,y,hx,hy=>nomatch hx
 |.ref _,y,hx,hy=>nomatch hx
 |.fn _,y,hx,hy=>nomatch hx
theorem ba5:∀xs ys:List D,D.lits xs=AD->D.lits ys=AD->(E6 xs ys=AD↔xs=ys)
 |[],[],_,_=>by simp[E6]
 |[],y::ys,_,_=>by simp[E6]
 |x::xs,[],_,_=>by simp[E6]
 |x::xs,y::ys,hx,hy=>by
  have h1:x.lit=AD/\D.lits xs=AD:=by simpa[D.lits]using hx
  have h2:y.lit=AD/\D.lits ys=AD:=by simpa[D.lits]using hy
  rw[E6,BJ,aa5 x y h1.1 h2.1,ba5 xs ys h1.2 h2.2,An]
end
def b70{x}(a:x.lit=AD):deq x x=AD:=(aa5 x x a a).mpr rfl
def af4:D.lits ds=AD↔∀d∈ds,d.lit=AD:=by
 induction ds with
 |nil=>simp[D.lits]
 |cons d r c=>simp[D.lits,c]
def bu8(s:String):(D.str (Aa s)).lit=AD:=t0 s
def aq9:(D.tup ds).lit=D.lits ds:=rfl
def ae6{d:D}{r:List D}:D.lits (d::r)=(d.lit&&D.lits r):=rfl
def b98:D.lits []=AD:=rfl
theorem ap3{f:Type}:∀{l:List f},l.Nodup->∀(i j:Nat)(x:f),l[i]?=AA x->l[j]?=AA x->i=j
 |[],_,i,j,x,h,_=>by simp at h
 |a::l,g,i,j,x,hi,e=>by
  have d:=BU.mp g;cases i with
  |zero=>
   cases j with
   |zero=>rfl
   |succ j=>
    simp at hi;subst hi;show absurd (BX (by simpa using e)) d.1
  |succ i=>
   cases j with
   |zero=>
    simp at e;subst e;show absurd (BX (by simpa using hi)) d.1
   |succ j=>rw[ap3 d.2 i j x (by simpa using hi) (by simpa using e)]
structure PSh(P:f9)(G:Gs):Prop extends PM P G where
 init:P (f6 "Shelf" "__init__")=AA ak0
 numb:P (f6 "Shelf" "numbered")=AA aj9
 tup:P (f6 "Shelf" "tuple_at")=AA ak2
 word:P (f6 "Shelf" "word_at")=AA ak7
 wthn:P (f6 "Shelf" "within")=AA am6
 cls:G.cls "Shelf"=[("numbers":Str),("stored":Str),("parts":Str),("waiting":Str)]
 kt:G.cls "!kt"≠[]
abbrev B8(ns:List Nat):D:=.tup (ns.map λ(n:Nat)=>D.int (n:Int))
structure It3 where
 fr:List D
 ns:List Nat
 t:D
variable{e:It3}{S':List It3}
abbrev It3.key(e:It3):D:=.tup [.tup e.fr,B8 e.ns]
structure Wf(S:List It3):Prop where
 wh:∀(i:Nat)(e:It3),S[i]?=AA e->(∀d∈e.fr,∃s:String,d=.str s)/\∃inn,e.t=.tup (e.fr++inn)/\inn.length=e.ns.length/\∀(j n:Nat),e.ns[j]?=AA n->n<i/\∃e',S[n]?=AA e'/\inn[j]?=AA e'.t
 nd:(S.map It3.key).Nodup
structure ShA(sh dn sa pa wa:AI)(S:List It3)(st:Sto):Prop where
 ins:st sh=AA (.ins "Shelf" [(("numbers":Str),D.ref dn),(("stored":Str),D.ref sa),(("parts":Str),D.ref pa),(("waiting":Str),D.ref wa)])
 num:st dn=AA (.dtt (S.mapIdx λi e=>(e.key.py,.int i)))
 sto:st sa=AA (.lst (S.map It3.t))
 par:st pa=AA (.lst (S.map λe=>B8 e.ns))
 wai:∃o,st wa=AA o
 wf:Wf S
 ml:S.length<=1000000
 fl:∀e∈S,e.fr.length<=10/\e.ns.length<=1000
def bh9{a inn inn'}(g:∀d∈fr,∃s:String,d=.str s)(f:∀d∈a,∃s:String,d=.str s)(k:∀d∈inn,∃l,d=.tup l)(j:∀d∈inn',∃l,d=.tup l)(h:fr++inn=a++inn'):fr=a/\inn=inn':=by
 induction fr generalizing a with
 |nil=>
  cases a with
  |nil=>show⟨rfl,h⟩
  |cons x a=>
   let{s,rfl}:=f x ∎;rw[Dd,CT]at h;let{l,e}:=k (.str s) (by rw[h];simp);cases e
 |cons x fr i=>
  cases a with
  |nil=>
   let{s,rfl}:=g x ∎;rw[Dd]at h;let{l,e}:=j (.str s) (by rw[<-h];simp);cases e
  |cons y a=>
   rw[CT,CT,An]at h;let{rfl,h}:=h;let{rfl,rfl}:=i (λd hd=>g d (by simp[hd])) (λd hd=>f d (by simp[hd])) h;show⟨rfl,rfl⟩
theorem Wf.inn{S}(w:Wf S)(h:S[i]?=AA e):∃inn,e.t=.tup (e.fr++inn)/\inn.length=e.ns.length/\(∀d∈inn,∃l,d=.tup l)/\∀(j n:Nat),e.ns[j]?=AA n->n<i/\∃a,S[n]?=AA a/\inn[j]?=AA a.t:=by
 let{_,inn,p,o,m}:=w.wh i e h;apply{inn,p,o,λd hd=>?_,m};let{j,k}:=Cn.mp hd;have b:j<e.ns.length:=(o▸(AY.mp k).1)
 let{_,a,c,hi}:=m j _ (AJ b);rw[k]at hi;let{_,g,f,_}:=w.wh _ a c;cases hi;show⟨_,f⟩
def Wf.inj{S:List It3}(w:Wf S):∀(m:Nat){i j:Nat}{e a:It3},i<=m->S[i]?=AA e->S[j]?=AA a->e.t=a.t->i=j:=by
 intro m
 induction m using HJ with
 |ind m x=>
 intro i j e a y hi l r;let{inn,C,s,B,A}:=w.inn hi;let{b,q,d,p,o}:=w.inn l;rw[C,q]at r;have g:e.fr++inn=a.fr++b:=by injection r
 let{H,G}:=bh9 (w.wh i e hi).1 (w.wh j a l).1 B p g;subst G;have E:e.ns=a.ns:=by
  apply ET λk=>?_
  by_cases h:k<e.ns.length
  ·have c:k<a.ns.length:=by rw[<-d,s];show h
   let{J,f,z,D}:=A k _ (AJ h);let{I,K,n,u}:=o k _ (AJ c);rw[D]at u;have:=x e.ns[k] ⋯ (AS _) z n (by injection u);rw[AJ h,AJ c,this]
  ·rw[BY ⋯,BY (by rw[<-d,s];lia)]
 have F:e.key=a.key:=by unfold It3.key;rw[H,E]
 show ap3 w.nd i j e.key (by rw[Ah,hi];rfl) (by rw[Ah,l,F];rfl)
mutual
theorem ag7:∀d:D,d.lit=AD->NK.lit d.py=AD
 |.int _,_=>rfl
 |.str _,h=>h
 |.tup ds,h=>bf6 ds h
 |.non,h=>nomatch h
 |.bl _,h=>nomatch h
 |.ref _,h=>nomatch h
 |.fn _,h=>nomatch h
theorem bf6:∀ds:List D,D.lits ds=AD->NK.lits (D.pys ds)=AD
 |[],_=>rfl
 |d::r,h=>by
  have h':d.lit=AD/\D.lits r=AD:=by simpa[D.lits]using h
  change(NK.lit d.py&&NK.lits (D.pys r))=AD;rw[ag7 d h'.1,bf6 r h'.2];rfl
end
def bm2{x y:D}(hx)hy(h:x.py=y.py):=by
 apply(aa5 x y hx hy).mp ?_;unfold deq;rw[h];show(NK.eqv_lit _ _ (ag7 y hy) (ag7 y hy)).mpr rfl
def bf8(h:∀d∈e.fr,∃s:String,d=.str s):e.key.lit=AD:=by
 have b:=af4.mpr λd hd=>by let{s,rfl}:=h d hd;show bu8 s
 have a:(B8 e.ns).lit=AD:=af4.mpr λd hd=>by
  let{n,_,rfl}:=DN.mp hd;rfl
 change D.lits [.tup e.fr,B8 e.ns]=AD;rw[ae6,ae6,aq9,b,a];rfl
def cx2(h:∀d∈e.fr,∃s:String,d=.str s):o6 e.key<=2:=by
 unfold It3.key;have i:D9 e.fr<=0:=by
  generalize e.fr=l at h
  induction l with
  |nil=>show AS _
  |cons d l c=>
   let{s,rfl}:=h d ∎;have:=c λd hd=>h d (by simp[hd]);change max (o6 (.str s)) (D9 l)<=0;rw[G5];lia
 have f:∀ns:List Nat,D9 (ns.map λ(n:Nat)=>D.int (n:Int))<=0:=λns=>by
  induction ns with
  |nil=>show AS _
  |cons n ns c=>
   change max (o6 (.int n)) (D9 _)<=0;rw[ab2];lia
 have g:=f e.ns;change max (o6 (.tup e.fr)) (max (o6 (B8 e.ns)) 0)+1<=2;unfold B8;rw[N4,N4];lia
theorem a88:∀(S:List It3)(k:D)o,(∀e∈S,e.key.py≠k.py)->E2 (S.mapIdx λi e=>(e.key.py,D.int ((o+i:Nat)))) k.py=AF
 |[],k,o,_=>rfl
 |e::S,k,o,h=>by
  have:=a88 S k (o+1) λe' he=>h e' (by simp[he]);rw[Jm];unfold E2 at this ⊢;rw[CH,decide_eq_false (h e ∎)];simpa[EW,Lb 1]using this
theorem a95:∀(S:List It3)(k:D)(o i:Nat)(e:It3),S[i]?=AA e->e.key.py=k.py->(∀j a,j<i->S[j]?=AA a->a.key.py≠k.py)->E2 (S.mapIdx λi e=>(e.key.py,D.int ((o+i:Nat):Int))) k.py=AA (.int ((o+i:Nat):Int))
 |[],k,o,i,e,h,_,_=>by simp at h
 |x::S,k,o,0,e,h,b,_=>by
  simp at h;subst h;rw[Jm];unfold E2;rw[CH,decide_eq_true b];rfl
 |x::S,k,o,i+1,e,h,b,c=>by
  have:=a95 S k (o+1) i e (by simpa using h) b λj a hji he'=>c (j+1) a ⋯ (by simpa using he');rw[Jm];unfold E2 at this ⊢;rw[CH,decide_eq_false (c 0 x ⋯ rfl)];simpa[EW,Lb 1]using this
def b96:∀{a b},B8 a=B8 b->a=b:=by
 intro a b h;injection h with h
 induction a generalizing b with
 |nil=>simp_all
 |cons x a e=>cases b with
  |nil=>simp at h
  |cons y b=>
   grind
def cp2{S:List It3}{ns:List Nat}{x y:List D}(k:x.length=ns.length)(i:y.length=ns.length)(f:∀(j n:Nat),ns[j]?=AA n->∃e,S[n]?=AA e/\x[j]?=AA e.t)(d:∀(j n:Nat),ns[j]?=AA n->∃e,S[n]?=AA e/\y[j]?=AA e.t):x=y:=by
 apply ET λj=>?_
 by_cases b:j<ns.length
 ·let{e,c,h}:=f j _ (AJ b);let{l,a,g}:=d j _ (AJ b);rw[c]at a;cases a;rw[h,g]
 ·simp_all
section
variable (T:PSh P G)
include T
def bw0{S:List It3}(A:ShA sh dn sa pa wa S st)(hd:[sh,dn,sa,pa].Nodup){inn:List D}{ns:List Nat}(O:∀d∈fr,∃s:String,d=.str s)(F:inn.length=ns.length)(L:∀(j n:Nat),ns[j]?=AA n->∃e,S[n]?=AA e/\inn[j]?=AA e.t)(b1:fr.length<=10)(b2:ns.length<=1000)(b3:S.length<1000000)
  (q:∀m S' h,ShA sh dn sa pa wa S' h->S <+: S'->S'.length<=S.length+1->S'[m]?=AA {fr,ns,.tup (fr++inn)}->Kp [dn,sa,pa] st h->Q (.int (m:Nat)) h):sem P G (n+1) (f6 "Shelf" "numbered") [.ref sh,.tup fr,B8 ns] st Q:=by
 obtain⟨E,K⟩:∃E:It3,E=⟨fr,ns,.tup (fr++inn)⟩:=⟨_,rfl⟩;have X:E.key=.tup [.tup fr,B8 ns]:=by rw[K];rfl
 have N:=bf8 (e:=E) (by rw[K];show O);have hdE:=cx2 (e:=E) (by rw[K];show O);have I:D.key (.tup [.tup fr,B8 ns]):=by
  rw[<-X];show{ag7 _ N,BB hdE ∅}
 have W:∀e∈S,e.key.lit=AD:=λe v=>by
  let{i,hi}:=Cn.mp v;show bf8 (A.wf.wh i e hi).1
 have J:(S.mapIdx λi e=>(e.key.py,D.int i))=S.mapIdx λi e=>(e.key.py,D.int ((0+i:Nat):Int)):=by
  congr 1;funext i e;rw[LH]
 apply i6 T.numb rfl [AA (.ref sh),AA (.tup fr),AA (B8 ns),AF,AF] rfl ?_;unfold aj9;(iterate 2 ∎);apply{sh,"Shelf",_,.ref dn,rfl,A.ins,by change _∈G.cls "Shelf";rw[T.cls];simp,rfl,⟨_,A.num⟩,_,A.num,I,?_};rw[<-X]
 by_cases Y:∃(i:Nat)(e:It3),S[i]?=AA e/\e.key=E.key
 ·let{i,e,hi,v}:=Y;have hl:E2 (S.mapIdx λi e=>(e.key.py,D.int i)) E.key.py=AA (.int i):=by
   rw[J,a95 S E.key 0 i e hi (by rw[v]) λj R hj k z=>?_,LH];have hz:=bm2 (W R (BX k)) N z;have:=ap3 A.wf.nd j i E.key (by rw[Ah,k];show congrArg AA hz) (by rw[Ah,hi];show congrArg AA v);lia
  rw[hl];∎;apply .inr {nofun,?_};rfl';∎;apply c9 (q i S st A (DI S) ⋯ ?_ Kp.refl);rw[hi];have H:e.key=.tup [.tup fr,B8 ns]:=by rw[v,X]
  unfold It3.key at H;injection H with H
  erw[An,and_true]at H;let{k1,k2}:=H;injection k1 with k1
  have k3:e.ns=ns:=b96 k2;let{C,h1,h2,_,h4}:=A.wf.inn hi;have:C=inn:=cp2 h2 (by rw[k3];show F) (λj n hj=>(h4 j n hj).2) (by rw[k3];show L);let{a,b,c}:=e;simp only at k1 k3 h1;subst k1;subst k3;subst this;rw[h1]
 ·have M:∀e∈S,e.key.py≠E.key.py:=λe v z=>Y (by
   let{i,hi}:=Cn.mp v;show{i,e,hi,bm2 (W e v) N z})
  have hl:E2 (S.mapIdx λi e=>(e.key.py,D.int i)) E.key.py=AF:=by rw[J];show a88 S E.key 0 M
  rw[hl];∎;apply .inl {rfl,?_};rfl';∎;have Z:∀f∈[("numbers":Str),("stored":Str),("parts":Str),("waiting":Str)],f∈G.cls "Shelf":=λf hf=>by rw[T.cls];show hf
  apply{sh,"Shelf",_,.ref sa,rfl,A.ins,Z _ ∎,rfl,?_};rw[r9 (.inl A.sto),AV];∎;apply{sh,"Shelf",_,.ref dn,rfl,A.ins,Z _ ∎,rfl,?_};rw[X];apply{_,A.num,I,C8 (by rw[Gk];lia),?_};rw[<-X];erw[BU,AQ,AX,or_false,not_or]at hd;let{{d1,d2,d3},{d4,d5},d6,_}:=hd;have V:Y2 (S.mapIdx λi e=>(e.key.py,D.int i)) E.key.py (.int S.length)=(S++[E]).mapIdx λi e=>(e.key.py,D.int i):=by
   unfold Y2;rw[if_neg,Ir]
   ·simp
   ·rw[Bool.not_eq_true,HA];intro x hx;rw[List.mem_mapIdx]at hx;let{i,hi,rfl}:=hx;simpa using M _ (Ez hi)
  rw[V];have a1:∀u,b0 st dn u sh=AA (.ins "Shelf" [(("numbers":Str),D.ref dn),(("stored":Str),D.ref sa),(("parts":Str),D.ref pa),(("waiting":Str),D.ref wa)]):=λu=>f7 A.ins d1;∎;have U:=f7 (u:=.dtt ((S++[E]).mapIdx λi e=>(e.key.py,D.int i))) A.sto (λz=>d4 z.symm);have n2:=f7 (u:=.dtt ((S++[E]).mapIdx λi e=>(e.key.py,D.int i))) A.par (λz=>d5 z.symm);have n0:b0 st dn (.dtt ((S++[E]).mapIdx λi e=>(e.key.py,D.int i))) dn=_:=f8;have a0:=a1 (.dtt ((S++[E]).mapIdx λi e=>(e.key.py,D.int i)));have nw:∃o,b0 st dn (.dtt ((S++[E]).mapIdx λi e=>(e.key.py,D.int i))) wa=AA o:=by
   by_cases z:wa=dn
   ·show{_,by rw[z];show f8}
   ·let{o,e}:=A.wai;show{o,f7 e z}
  have K0:Kp [dn,sa,pa] st (b0 st dn (.dtt ((S++[E]).mapIdx λi e=>(e.key.py,D.int i)))):=Kp.refl.put ∎;revert U n2 n0 a0 nw K0;generalize b0 st dn (.dtt ((S++[E]).mapIdx λi e=>(e.key.py,D.int i)))=st1;intro U n2 n0 a0 nw K0;apply{sh,"Shelf",_,.ref sa,rfl,a0,Z _ ∎,rfl,by rw[B5 (.inl U)];trivial,.inl {_,rfl,by erw[AV];lia,?_}};apply R5 (λl acc env' h=>h=st1/\∃(w r:List Nat)(x:Option D),ns=w++r/\l=r.map (λ(n:Nat)=>D.int (n:Int))/\acc=inn.take w.length/\env'=[AA (.ref sh),x]) ?_ ?_ _ _ _ _ {rfl,[],ns,AF,rfl,rfl,∎,rfl}
  ·rintro acc env' h ⟨rfl,w,r,x,e,el,rfl,rfl⟩;have:r=[]:=by simpa using el.symm
   subst this;rw[BL]at e;subst e;rw[<-F,Ew];apply{trivial,λp hp=>{C7 ⋯,?_}};have g1:=l0 (u:=.lst inn) U hp;rw[E1 g1];apply{C8 (by rw[AV];lia),?_};have g2:=f7 (u:=.lst (S.map It3.t++[.tup (fr++inn)])) (l0 (u:=.lst inn) n2 hp) (λz=>d6 z.symm);have g3:=f7 (u:=.lst (S.map It3.t++[.tup (fr++inn)])) (l0 (u:=.lst inn) n0 hp) d4;have g4:=f7 (u:=.lst (S.map It3.t++[.tup (fr++inn)])) (l0 (u:=.lst inn) a0 hp) d2;have g5:b0 (b0 h p (.lst inn)) sa (.lst (S.map It3.t++[.tup (fr++inn)])) sa=_:=f8;have gw:∃o,b0 (b0 h p (.lst inn)) sa (.lst (S.map It3.t++[.tup (fr++inn)])) wa=AA o:=by
    by_cases z:wa=sa
    ·show{_,by rw[z];show f8}
    ·let{o,e}:=nw;show{o,f7 (l0 e hp) z}
   have K1:Kp [dn,sa,pa] st (b0 (b0 h p (.lst inn)) sa (.lst (S.map It3.t++[.tup (fr++inn)]))):=(K0.new hp).put ∎;revert g2 g3 g4 g5 gw K1;generalize b0 (b0 h p (.lst inn)) sa (.lst (S.map It3.t++[.tup (fr++inn)]))=st2;intro g2 g3 g4 g5 gw K1;∎;apply{sh,"Shelf",_,.ref pa,rfl,g4,Z _ ∎,rfl,by rw[B5 (.inl g2)];trivial,?_};rw[E1 g2];apply{C8 (by rw[AV];lia),?_};rfl';∎;apply c9 (q S.length (S++[E]) _ {f7 g4 d3,f7 g3 d5,?_,?_,?_,{λi e hi=>?_,?_},by simp;lia,λe v=>?_} (List.prefix_append S [E]) ∎ (by rw[Af (AS _),LI,K];rfl) (K1.put ∎))
   ·rw[Aj,K];show f7 g5 d6
   ·rw[f8,Aj,K];rfl
   ·by_cases z:wa=pa
    ·show{_,by rw[z];show f8}
    ·let{o,e}:=gw;show{o,f7 e z}
   ·by_cases hil:i<S.length
    ·rw[Ab hil]at hi;let{h1,C,h2,h3,h4}:=A.wf.wh i e hi;apply{h1,C,h2,h3,λj n hj=>?_};let{l1,R,k,g}:=h4 j n hj;show{l1,R,by rw[Ab ⋯];show k,g}
    ·rw[Af ⋯]at hi;have hi0:i-S.length=0:=by have:=(AY.mp hi).1;simp at this;lia
     rw[hi0]at hi;simp at hi;subst hi;rw[K];apply{O,inn,rfl,F,λj n hj=>?_};let{R,k,g}:=L j n hj;have:=(AY.mp k).1;show{⋯,R,by rw[Ab this];show k,g}
   ·rw[Aj,EU];apply{A.wf.nd,∎,λx hx y hy z=>?_};simp at hy;subst hy;let{e,v,rfl}:=DN.mp hx;show M e v (by rw[z])
   ·rcases BO.mp v with v|v
    ·show A.fl e v
    ·rw[Br]at v;subst v;rw[K];show⟨b1,b2⟩
  ·rintro d ds acc env' h ih ⟨rfl,w,r,x,e,el,rfl,rfl⟩;apply{trivial,?_};cases r with
   |nil=>simp at el
   |cons m r=>
    erw[Au,An]at el;let{rfl,rfl}:=el;let{R,k,g}:=L w.length m (by rw[e];simp);rfl';apply{sh,"Shelf",_,.ref sa,rfl,a0,Z _ ∎,rfl,?_};rw[l7 (.inl U)];apply{R.t,by rw[z8,Ah,k];rfl,ih _ _ _ {rfl,w++[m],r,_,by rw[e];simp,rfl,?_,rfl}};rw[Ad,AW,Ap,List.take_add_one,g];rfl
end
section
variable (T:PSh P G)
include T
omit T in
theorem ShA.keepL{S:List It3}(A:ShA sh dn sa pa wa S st)(K:Kp L st st')(h:∀x∈L,x∉[sh,dn,sa,pa,wa]):ShA sh dn sa pa wa S st':=
 {K.at' A.ins (λz=>h _ z ∎),K.at' A.num (λz=>h _ z ∎),K.at' A.sto (λz=>h _ z ∎),K.at' A.par (λz=>h _ z ∎),(by let{o,e}:=A.wai;show{o,K.at' e (λz=>h _ z ∎)}),A.wf,A.ml,A.fl}
end
abbrev Has(S:List It3)(t:D):Prop:=∃(m:Nat)(e:It3),S[m]?=AA e/\e.t=t
open Classical in
abbrev nb(S:List It3)(t:D):Nat:=if h:Has S t then Classical.choose h else 0
def Q4{S}{t}(h:Has S t):∃e,S[nb S t]?=AA e/\e.t=t:=by
 unfold nb;rw[dif_pos h];show Classical.choose_spec h
def au5{S}(w:Wf S){t}(h:S[m]?=AA e)(a:e.t=t):nb S t=m:=by
 let{d,c,b}:=Q4 ⟨m,e,h,a⟩;show w.inj _ (AS _) c h (b.trans a.symm)
def bn9{S}{t u}(c:Has S t)(b:Has S u)(h:nb S t=nb S u):t=u:=by
 let{e,a,rfl}:=Q4 c;let{f,d,rfl}:=Q4 b;rw[h,d]at a;cases a;rfl
def Has.mono{S}{t}(h:Has S t)(b:S <+: S'):Has S' t:=by
 let{m,e,a,c}:=h;let{r,rfl}:=b;show{m,e,Ab (AY.mp a).1▸a,c}
def bk8{S:List It3}(w:Wf S){inn:List D}(h:Has S (.tup (fr++inn)))(o:∀d∈fr,∃s:String,d=.str s)(n:∀d∈inn,∃l,d=.tup l):(∀d∈inn,Has S d)/\∃e,S[nb S (.tup (fr++inn))]?=AA e/\e.ns=inn.map (nb S):=by
 let{e,g,r}:=Q4 h;let{b,u,q,p,k}:=w.inn g;have m:e.fr++b=fr++inn:=by simp_all
 let{_,rfl}:=bh9 (w.wh _ e g).1 o p n m;apply{λd hd=>?_,e,g,?_}
 ·let{j,c}:=Cn.mp hd;have f:j<e.ns.length:=by rw[<-q];show(AY.mp c).1
  let{_,i,a,hi}:=k j _ (AJ f);rw[c]at hi;cases hi;show⟨_,i,a,rfl⟩
 ·apply ET λj=>?_
  by_cases c:j<e.ns.length
  ·let{_,i,a,hi}:=k j _ (AJ c);rw[AJ c,Ah,hi];change AA _=AA (nb S i.t);rw[au5 w a rfl]
  ·simp_all
def ax6{w:String}:∀d∈([.str w]:List D),∃s:String,d=.str s:=λd hd=>by simp at hd;subst hd;show⟨w,rfl⟩
def cv1:∀k:Kd,∃l,k.d=.tup l
 |.non=>⟨_,rfl⟩
 |.one=>⟨_,rfl⟩
 |.eith _ _=>⟨_,rfl⟩
 |.both _ _=>⟨_,rfl⟩
 |.way _ _=>⟨_,rfl⟩
section
variable (T:PSh P G)
include T
def bz4{S}(A:ShA sh dn sa pa wa S st){inn}(h:Has S (.tup (fr++inn)))(f:∀d∈fr,∃s:String,d=.str s)(c:∀d∈inn,∃l,d=.tup l)(q:Q (B8 (inn.map (nb S))) st):sem P G (n+1) (f6 "Shelf" "within") [.ref sh,.int (nb S (.tup (fr++inn)))] st Q:=by
 let{_,e,b,a}:=bk8 A.wf h f c;apply i6 T.wthn rfl [AA (.ref sh),AA (.int (nb S (.tup (fr++inn))))] rfl ?_;∎;apply{sh,"Shelf",_,.ref pa,rfl,A.ins,by rw[T.cls];simp,rfl,?_};rw[l7 (.inl A.par)];apply{B8 e.ns,by rw[z8,Ah,b];rfl,c9 ?_};rwa[a]
def b93{S}(A:ShA sh dn sa pa wa S st){t}(h:Has S t)(q:Q t st):sem P G (n+1) (f6 "Shelf" "tuple_at") [.ref sh,.int (nb S t)] st Q:=by
 let{e,b,a}:=Q4 h;apply i6 T.tup rfl [AA (.ref sh),AA (.int (nb S t))] rfl ?_;∎;apply{sh,"Shelf",_,.ref sa,rfl,A.ins,by rw[T.cls];simp,rfl,?_};rw[l7 (.inl A.sto)];show{t,by rw[z8,Ah,b,<-a];rfl,c9 q}
def aq8{S}(A:ShA sh dn sa pa wa S st){d}{r}(h:Has S (.tup (d::r)))(q:Q d st):sem P G (n+1) (f6 "Shelf" "word_at") [.ref sh,.int (nb S (.tup (d::r)))] st Q:=by
 let{e,b,a}:=Q4 h;apply i6 T.word rfl [AA (.ref sh),AA (.int (nb S (.tup (d::r))))] rfl ?_;∎;apply{sh,"Shelf",_,.ref sa,rfl,A.ins,by rw[T.cls];simp,rfl,?_};rw[l7 (.inl A.sto)];apply{.tup (d::r),by rw[z8,Ah,b,<-a];rfl,?_};rfl';show c9 q
def a81(J:st sh=AF)(q:∀dn sa pa wa i,ShA sh dn sa pa wa [] i->[sh,dn,sa,pa].Nodup->(∀a∈[sh,dn,sa,pa,wa],st a=AF)->wa∉[dn,sa,pa]->wa≠sh->i wa=AA (.lst [])->Kp [] st i->Q .non i):sem P G (n+1) (f6 "Shelf" "__init__") [.ref sh] (b0 st sh (.ins "Shelf" [])) Q:=by
 apply i6 T.init rfl [AA (.ref sh)] rfl ?_;have p:∀f∈([("numbers":Str),("stored":Str),("parts":Str),("waiting":Str)]:List Str),f∈G.cls "Shelf":=λf hf=>by rw[T.cls];show hf
 ∎;apply{T.kt,λdn hdn=>{sh,"Shelf",[],rfl,l0 f8 hdn,p _ ∎,∅,?_}};have k:sh≠dn:=l5 f8 hdn;have R:st dn=AF:=by rw[G0 k.symm]at hdn;show hdn
 have l:∀{i:Sto}{u:Ob},Kp [] st i->Kp [] st (b0 i sh u):=λK b o nb e=>f7 (K b o nb e) (l5 e J);have A:b0 (b0 (b0 st sh (.ins "Shelf" [])) dn (.dtt [])) sh (.ins "Shelf" (j9 "numbers" (.ref dn) [])) sh=AA (.ins "Shelf" [(("numbers":Str),D.ref dn)]):=by rw[f8];rfl
 have z:b0 (b0 (b0 st sh (.ins "Shelf" [])) dn (.dtt [])) sh (.ins "Shelf" (j9 "numbers" (.ref dn) [])) dn=AA (.dtt []):=f7 f8 k.symm;have E:Kp [] st (b0 (b0 (b0 st sh (.ins "Shelf" [])) dn (.dtt [])) sh (.ins "Shelf" (j9 "numbers" (.ref dn) []))):=l ((l Kp.refl).new hdn);revert A z E;generalize b0 (b0 (b0 st sh (.ins "Shelf" [])) dn (.dtt [])) sh (.ins "Shelf" (j9 "numbers" (.ref dn) []))=s1;intro A z E;∎;apply λsa hsa=>{sh,"Shelf",_,rfl,l0 A hsa,p _ ∎,∎,?_};have m:sh≠sa:=l5 A hsa;have O:dn≠sa:=l5 z hsa;have y:b0 (b0 s1 sa (.lst [])) sh (.ins "Shelf" (j9 "stored" (.ref sa) [(("numbers":Str),D.ref dn)])) sh=AA (.ins "Shelf" [(("numbers":Str),D.ref dn),(("stored":Str),D.ref sa)]):=by rw[f8];simp[j9,v5]
 have x:b0 (b0 s1 sa (.lst [])) sh (.ins "Shelf" (j9 "stored" (.ref sa) [(("numbers":Str),D.ref dn)])) dn=AA (.dtt []):=f7 (l0 z hsa) k.symm;have w:b0 (b0 s1 sa (.lst [])) sh (.ins "Shelf" (j9 "stored" (.ref sa) [(("numbers":Str),D.ref dn)])) sa=AA (.lst []):=f7 f8 m.symm;have C:Kp [] st (b0 (b0 s1 sa (.lst [])) sh (.ins "Shelf" (j9 "stored" (.ref sa) [(("numbers":Str),D.ref dn)]))):=l (E.new hsa);have s0:st sa=AF:=none_of E hsa;revert y x w C;generalize b0 (b0 s1 sa (.lst [])) sh (.ins "Shelf" (j9 "stored" (.ref sa) [(("numbers":Str),D.ref dn)]))=s2;intro y x w C;∎;apply λpa hpa=>{sh,"Shelf",_,rfl,l0 y hpa,p _ ∎,∎,?_};have H:sh≠pa:=l5 y hpa;have N:dn≠pa:=l5 x hpa;have M:sa≠pa:=l5 w hpa;have v:b0 (b0 s2 pa (.lst [])) sh (.ins "Shelf" (j9 "parts" (.ref pa) [(("numbers":Str),D.ref dn),(("stored":Str),D.ref sa)])) sh=AA (.ins "Shelf" [(("numbers":Str),D.ref dn),(("stored":Str),D.ref sa),(("parts":Str),D.ref pa)]):=by rw[f8];simp[j9,v5]
 have t:b0 (b0 s2 pa (.lst [])) sh (.ins "Shelf" (j9 "parts" (.ref pa) [(("numbers":Str),D.ref dn),(("stored":Str),D.ref sa)])) dn=AA (.dtt []):=f7 (l0 x hpa) k.symm;have s:b0 (b0 s2 pa (.lst [])) sh (.ins "Shelf" (j9 "parts" (.ref pa) [(("numbers":Str),D.ref dn),(("stored":Str),D.ref sa)])) sa=AA (.lst []):=f7 (l0 w hpa) m.symm;have r:b0 (b0 s2 pa (.lst [])) sh (.ins "Shelf" (j9 "parts" (.ref pa) [(("numbers":Str),D.ref dn),(("stored":Str),D.ref sa)])) pa=AA (.lst []):=f7 f8 H.symm;have B:Kp [] st (b0 (b0 s2 pa (.lst [])) sh (.ins "Shelf" (j9 "parts" (.ref pa) [(("numbers":Str),D.ref dn),(("stored":Str),D.ref sa)]))):=l (C.new hpa);have L:st pa=AF:=none_of C hpa;revert v t s r B;generalize b0 (b0 s2 pa (.lst [])) sh (.ins "Shelf" (j9 "parts" (.ref pa) [(("numbers":Str),D.ref dn),(("stored":Str),D.ref sa)]))=s3;intro v t s r B;∎;apply λwa hwa=>{sh,"Shelf",_,rfl,l0 v hwa,p _ ∎,∎,?_};have F:sh≠wa:=l5 v hwa;apply bi2 (q dn sa pa wa _ {by rw[f8];simp[j9,v5],f7 (l0 t hwa) k.symm,f7 (l0 s hwa) m.symm,f7 (l0 r hwa) H.symm,{_,f7 f8 F.symm},{∎,∎},∎,∎} ?_ ?_ ?_ F.symm (f7 f8 F.symm) (l (B.new hwa)))
 ·simp[k,m,H,O,N,M]
 ·intro a I;erw[AQ,AX,or_false]at I
  rcases I with rfl|rfl|rfl|rfl|rfl
  ·show J
  ·show R
  ·show s0
  ·show L
  ·show none_of B hwa
 ·erw[AQ,AX,or_false,not_or];show{(l5 t hwa).symm,(l5 s hwa).symm,(l5 r hwa).symm}
end
abbrev Pg.oc:Nat->Pg->Nat
 |i,.name n=>if n=i then 1 else 0
 |_,.star=>0
 |i,.pair t u=>t.oc i+u.oc i
 |i,.first t=>t.oc i
 |i,.second t=>t.oc i
 |i,.left _ t=>t.oc i
 |i,.right _ t=>t.oc i
 |i,.case t u v=>t.oc i+u.oc (i+1)+v.oc (i+1)
 |i,.way _ t=>t.oc (i+1)
 |i,.give t u=>t.oc i+u.oc i
 |i,.lets t u=>t.oc i+u.oc (i+1)
 |i,.never _ t=>t.oc i
abbrev Pg.withKids:Pg->List Pg->Pg
 |.pair a b,l=>match l with|[t,u]=>.pair t u|_=>.pair a b
 |.first a,l=>match l with|[t]=>.first t|_=>.first a
 |.second a,l=>match l with|[t]=>.second t|_=>.second a
 |.left b a,l=>match l with|[t]=>.left b t|_=>.left b a
 |.right b a,l=>match l with|[t]=>.right b t|_=>.right b a
 |.case a b c,l=>match l with|[t,u,v]=>.case t u v|_=>.case a b c
 |.way b a,l=>match l with|[t]=>.way b t|_=>.way b a
 |.give a b,l=>match l with|[t,u]=>.give t u|_=>.give a b
 |.lets a b,l=>match l with|[t,u]=>.lets t u|_=>.lets a b
 |.never b a,l=>match l with|[t]=>.never b t|_=>.never b a
 |.name n,_=>.name n
 |.star,_=>.star
def Pg.with_cases{motive:Pg->List Pg->Prop}(w:∀n,motive (.name n) [])(s:motive .star [])(r:∀a b t u,motive (.pair a b) [t,u])(q:∀a t,motive (.first a) [t])(o:∀a t,motive (.second a) [t])
  (m:∀k a t,motive (.left k a) [t]) (j:∀k a t,motive (.right k a) [t]) (i:∀a b c t u v,motive (.case a b c) [t,u,v]) (g:∀k a t,motive (.way k a) [t]) (f:∀a b t u,motive (.give a b) [t,u]) (e:∀a b t u,motive (.lets a b) [t,u]) (d:∀k a t,motive (.never k a) [t]) :
  ∀(p:Pg)(l:List Pg),l.length=p.kids.length->motive p l:=by
 intro p l h;cases p<;>erw[Pg.kids,AW,Ap]at h
 case name=>simp_all
 case star=>simp_all
 case pair=>
  obtain⟨a,b,rfl⟩:∃a b,l=[a,b]:=by match l,h with|[a,b],_=>show⟨a,b,rfl⟩
  show r _ _ _ _
 case give=>
  obtain⟨a,b,rfl⟩:∃a b,l=[a,b]:=by match l,h with|[a,b],_=>show⟨a,b,rfl⟩
  show f _ _ _ _
 case lets=>
  obtain⟨a,b,rfl⟩:∃a b,l=[a,b]:=by match l,h with|[a,b],_=>show⟨a,b,rfl⟩
  show e _ _ _ _
 case case=>
  obtain⟨a,b,c,rfl⟩:∃a b c,l=[a,b,c]:=by match l,h with|[a,b,c],_=>show⟨a,b,c,rfl⟩
  show i _ _ _ _ _ _
 case first=>
  obtain⟨a,rfl⟩:∃a,l=[a]:=by match l,h with|[a],_=>show⟨a,rfl⟩
  show q _ _
 case second=>
  obtain⟨a,rfl⟩:∃a,l=[a]:=by match l,h with|[a],_=>show⟨a,rfl⟩
  show o _ _
 case left=>
  obtain⟨a,rfl⟩:∃a,l=[a]:=by match l,h with|[a],_=>show⟨a,rfl⟩
  show m _ _ _
 case right=>
  obtain⟨a,rfl⟩:∃a,l=[a]:=by match l,h with|[a],_=>show⟨a,rfl⟩
  show j _ _ _
 case way=>
  obtain⟨a,rfl⟩:∃a,l=[a]:=by match l,h with|[a],_=>show⟨a,rfl⟩
  show g _ _ _
 case never=>
  obtain⟨a,rfl⟩:∃a,l=[a]:=by match l,h with|[a],_=>show⟨a,rfl⟩
  show d _ _ _
abbrev c56:List (Str×D):=[("name",.int 2),("star",.int 1),("pair",.int 1),("first",.int 1),("second",.int 1),("left",.int 2),("right",.int 2),("case",.int 1),("way",.int 2),("give",.int 1),("let",.int 1),("never",.int 2)]
def cj2{lo hi}:(A6 ds lo hi).length<=ds.length:=by
 unfold A6;rw[Bu,Bv];lia
abbrev dd9:List (Str×D):=[("case",.ktup [.inl 1,.inl 2]),("way",.ktup [.inl 0]),("let",.ktup [.inl 1])]
abbrev Pg.mp(f:Nat->Nat->Option Pg):Nat->Pg->Pg
 |u,.name n=>(f n u).getD (.name n)
 |_,.star=>.star
 |u,.pair t v=>.pair (t.mp f u) (v.mp f u)
 |u,.first t=>.first (t.mp f u)
 |u,.second t=>.second (t.mp f u)
 |u,.left b t=>.left b (t.mp f u)
 |u,.right b t=>.right b (t.mp f u)
 |u,.case t v w=>.case (t.mp f u) (v.mp f (u+1)) (w.mp f (u+1))
 |u,.way b t=>.way b (t.mp f (u+1))
 |u,.give t v=>.give (t.mp f u) (v.mp f u)
 |u,.lets t v=>.lets (t.mp f u) (v.mp f (u+1))
 |u,.never b t=>.never b (t.mp f u)
abbrev Pg.chd(f:Nat->Nat->Option Pg):Nat->Pg->Bool
 |u,.name n=>(f n u).isSome
 |_,.star=>AE
 |u,.pair t v=>t.chd f u||v.chd f u
 |u,.first t=>t.chd f u
 |u,.second t=>t.chd f u
 |u,.left _ t=>t.chd f u
 |u,.right _ t=>t.chd f u
 |u,.case t v w=>t.chd f u||(v.chd f (u+1)||w.chd f (u+1))
 |u,.way _ t=>t.chd f (u+1)
 |u,.give t v=>t.chd f u||v.chd f u
 |u,.lets t v=>t.chd f u||v.chd f (u+1)
 |u,.never _ t=>t.chd f u
def Pg.mp_same(p:Pg):∀{u},p.chd f u=AE->p.mp f u=p:=by
 induction p with
 |name n=>intro u h;erw[Pg.chd]at h;erw[Pg.mp];cases e:f n u with|none=>rfl|some r=>simp_all
 |star=>intro u _;rfl
 |pair t v a c=>intro u h;erw[Pg.chd,Fm]at h;erw[Pg.mp,a h.1,c h.2]
 |give t v a c=>intro u h;erw[Pg.chd,Fm]at h;erw[Pg.mp,a h.1,c h.2]
 |lets t v a c=>intro u h;erw[Pg.chd,Fm]at h;erw[Pg.mp,a h.1,c h.2]
 |case t v w a c i=>intro u h;erw[Pg.chd,Fm]at h;erw[Pg.mp,a h.1,c h.2.1,i h.2.2]
 |first t a=>intro u h;erw[Pg.mp,a h]
 |second t a=>intro u h;erw[Pg.mp,a h]
 |left b t a=>intro u h;erw[Pg.mp,a h]
 |right b t a=>intro u h;erw[Pg.mp,a h]
 |way b t a=>intro u h;erw[Pg.mp,a h]
 |never b t a=>intro u h;erw[Pg.mp,a h]
abbrev Pg.more:Pg->Nat->Nat
 |.case _ _ _,i=>if i=1\/i=2 then 1 else 0
 |.way _ _,i=>if i=0 then 1 else 0
 |.lets _ _,i=>if i=1 then 1 else 0
 |_,_=>0
abbrev Pg.kidsU(u:Nat)(p:Pg):List (Pg×Nat):=p.kids.mapIdx λi c=>(c,u+p.more i)
def Pg.mp_kids(h:p.kids≠[]):p.mp f u=p.withKids ((p.kidsU u).map λc=>c.1.mp f c.2):=by
 cases p<;>first|rfl|show absurd rfl h
def Pg.chd_kids(h:p.kids≠[]):p.chd f u=((p.kidsU u).map λc=>c.1.chd f c.2).any id:=by
 cases p<;>first|show absurd rfl h|(simp[Pg.chd,Pg.kidsU,Pg.kids,Pg.more,Dr])
def Pg.parts_U(p:Pg)u:p.parts=1+((p.kidsU u).map λc=>c.1.parts).sum:=by
 cases p<;>simp[Pg.parts,Pg.kidsU,Pg.kids,Pg.more,Dr]<;>lia
def Pg.hgt_U(p:Pg)u:∀c∈p.kidsU u,c.2+c.1.hgt<=u+p.hgt:=by
 cases p<;>simp[Pg.hgt,Pg.kidsU,Pg.kids,Pg.more,Dr]<;>lia
def Pg.mp_hgt(q:∀n u r,f n u=AA r->r.hgt<=m)(x:1<=m)(p:Pg):∀{u:Nat},(p.mp f u).hgt+1<=p.hgt+m:=by
 induction p with
 |name n=>intro u;erw[Pg.mp,Pg.hgt];cases e:f n u with|none=>erw[KO,Pg.hgt];lia|some r=>have:=q n u r e;erw[KO];lia
 |star=>intro u;erw[Pg.mp,Pg.hgt];lia
 |pair t v a c=>intro u;have:=@a u;have:=@c u;erw[Pg.mp,Pg.hgt];lia
 |give t v a c=>intro u;have:=@a u;have:=@c u;erw[Pg.mp,Pg.hgt];lia
 |lets t v a c=>intro u;have:=@a u;have:=@c (u+1);erw[Pg.mp,Pg.hgt];lia
 |case t v w a c h=>intro u;have:=@a u;have:=@c (u+1);have:=@h (u+1);erw[Pg.mp,Pg.hgt];lia
 |first t a=>intro u;have:=@a u;erw[Pg.mp,Pg.hgt];lia
 |second t a=>intro u;have:=@a u;erw[Pg.mp,Pg.hgt];lia
 |left b t a=>intro u;have:=@a u;erw[Pg.mp,Pg.hgt];lia
 |right b t a=>intro u;have:=@a u;erw[Pg.mp,Pg.hgt];lia
 |way b t a=>intro u;have:=@a (u+1);erw[Pg.mp,Pg.hgt];lia
 |never b t a=>intro u;have:=@a u;erw[Pg.mp,Pg.hgt];lia
def Pg.mp_kn(s:∀n u r,f n u=AA r->r.kn m)(p:Pg):∀{u},p.kn m->(p.mp f u).kn m:=by
 induction p with
 |name n=>intro u _;erw[Pg.mp];cases e:f n u with|none=>trivial|some r=>show s n u r e
 |star=>intro u h;show h
 |pair t v a c=>show λh=>{a h.1,c h.2}
 |give t v a c=>show λh=>{a h.1,c h.2}
 |lets t v a c=>show λh=>{a h.1,c h.2}
 |case t v w a c i=>show λh=>{a h.1,c h.2.1,i h.2.2}
 |first t a=>show a
 |second t a=>show a
 |left b t a=>show λh=>{h.1,a h.2}
 |right b t a=>show λh=>{h.1,a h.2}
 |way b t a=>show λh=>{h.1,a h.2}
 |never b t a=>show λh=>{h.1,a h.2}
abbrev lfF(m l n u:Nat):Option Pg:=if u+l<=n then AA (.name (n+m))else AF
abbrev Pg.lf(m l:Nat)(p:Pg):Pg:=p.mp (lfF m l) 0
abbrev sbF(o:Pg)(n u:Nat):Option Pg:=if n<u then AF else if n=u then AA (o.lf u 0)else AA (.name (n-1))
abbrev Pg.sb(p o:Pg):Pg:=p.mp (sbF o) 0
def ag9{m}:(p.lf m l).hgt<=p.hgt:=by
 have:=Pg.mp_hgt (f:=lfF m l) (λn u r h=>by unfold lfF at h;split at h<;>cases h;show AS _) (AS _) p (u:=0);unfold Pg.lf;lia
def ab9{k}(h:p.kn k):(p.lf m l).kn k:=Pg.mp_kn λn u r h=>by unfold lfF at h;split at h<;>cases h;trivial p h
def W8:(p.sb o).hgt<=p.hgt+o.hgt:=by
 have a:∀q:Pg,1<=q.hgt:=λq=>by cases q<;>erw[Pg.hgt]<;>lia
 have:=Pg.mp_hgt (f:=sbF o) (λn u r h=>by
  unfold sbF at h
  split at h
  ·cases h
  ·split at h<;>cases h
   ·show ag9
   ·show a o) (a o) p (u:=0)
 unfold Pg.sb;lia
def bo8{k}(a:o.kn k)(h:p.kn k):(p.sb o).kn k:=Pg.mp_kn λn u r h=>by
 unfold sbF at h
 split at h
 ·cases h
 ·split at h<;>cases h
  ·show ab9 a
  ·trivial p h
def ba2(p:Pg):∀{u},(p.mp (lfF m l) u).parts=p.parts:=by
 induction p with
 |name n=>intro u;erw[Pg.mp,lfF];split<;>rfl
 |star=>intro u;rfl
 |pair t v a c=>intro u;erw[Pg.mp,Pg.parts,@a u,@c u]
 |give t v a c=>intro u;erw[Pg.mp,Pg.parts,@a u,@c u]
 |lets t v a c=>intro u;erw[Pg.mp,Pg.parts,@a u,@c (u+1)]
 |case t v w a c f=>intro u;erw[Pg.mp,Pg.parts,@a u,@c (u+1),@f (u+1)]
 |first t a=>intro u;erw[Pg.mp,Pg.parts,@a u]
 |second t a=>intro u;erw[Pg.mp,Pg.parts,@a u]
 |left b t a=>intro u;erw[Pg.mp,Pg.parts,@a u]
 |right b t a=>intro u;erw[Pg.mp,Pg.parts,@a u]
 |way b t a=>intro u;erw[Pg.mp,Pg.parts,@a (u+1)]
 |never b t a=>intro u;erw[Pg.mp,Pg.parts,@a u]
def dd7{g h}{a b c:Nat->Nat}(o:∀u,a (u+1)=a u+1)(m:∀u,b (u+1)=b u+1)(l:∀u,c (u+1)=c u+1)
  (H:∀n u,((Pg.name n).mp f (a u)).mp g (b u)=(Pg.name n).mp h (c u)) (p:Pg):∀u,(p.mp f (a u)).mp g (b u)=p.mp h (c u):=by
 induction p with
 |name n=>show H n
 |star=>intro u;rfl
 |pair t v d e=>intro u;erw[Pg.mp,d u,e u]
 |give t v d e=>intro u;erw[Pg.mp,d u,e u]
 |lets t v d e=>intro u;erw[Pg.mp,d u];rw[<-o,<-m,<-l,e]
 |case t v w d e k=>intro u;erw[Pg.mp,d u];rw[<-o,<-m,<-l,e,k]
 |first t d=>intro u;erw[Pg.mp,d u]
 |second t d=>intro u;erw[Pg.mp,d u]
 |left b t d=>intro u;erw[Pg.mp,d u]
 |right b t d=>intro u;erw[Pg.mp,d u]
 |way b t d=>intro u;erw[Pg.mp];rw[<-o,<-m,<-l,d]
 |never b t d=>intro u;erw[Pg.mp,d u]
def de6(p:Pg)u:p.mp (λ_ _=>AF) u=p:=Pg.mp_same p (by
 induction p generalizing u with
 |name n=>rfl
 |star=>rfl
 |_=>simp only[Pg.chd, *,Bool.or_self])
def bc6:(Pg.name n).mp (lfF m l) u=.name (if u+l<=n then n+m else n):=by
 erw[Pg.mp,lfF];split<;>rfl
theorem az0:∀a(i),(t9 i a).length=a.length
 |[],_=>rfl
 |_::a,i=>by change(t9 (i+1) a).length+1=a.length+1;rw[az0 a]
def Pg.parts_kids(p:Pg):p.parts=1+(p.kids.map Pg.parts).sum:=by
 cases p<;>erw[Pg.parts,Pg.kids,Au,Eu,DV,HI]<;>lia
def Pg.kn_kids(p:Pg)(h:p.kn m):∀c∈p.kids,c.kn m:=by
 cases p<;>erw[Pg.kids,AQ,AX,or_false,false_imp_iff,implies_true,forall_eq_or_imp,forall_eq]at h ⊢<;>first|show h|show h.2
structure PIn(P:f9)(G:Gs):Prop where
 inner:P "inner"=AA at1
 more:P "names_more"=AA an9
 tab:G.tab "INNER_FROM"=c56
 tab2:G.tab "UNDER_ONE_MORE"=dd9
structure PNm(P:f9)(G:Gs):Prop extends PM P G,PIn P G where
 winner:P "with_inner"=AA Y9
 lift:P "lifted"=AA aq2
 put:P "put_in"=AA ap8
 copy:P "copy_under"=AA ao2
 wparts:P "with_parts"=AA ao0
 under:P "inner_under"=AA an5
abbrev C9(c:Pg×Nat):D:=.tup [c.1.d,.int c.2]
abbrev R1(f:Nat->Nat->Option Pg):Pg->Nat->D
 |.name n,u=>match f n u with
  |some r=>r.d
  |none=>.non
 |_,_=>.non
def au0:p.d≠.non:=by cases p<;>show nofun
def b92(h:R1 f p u≠.non):p.kids=[]:=by
 cases p<;>first|rfl|show absurd rfl h
def b66(h:p.kids=[]):R1 f p u=.non/\p.mp f u=p/\p.chd f u=AE\/R1 f p u=(p.mp f u).d/\p.chd f u=AD:=by
 cases p<;>first|(cases h;done)|skip
 case name n=>
  erw[R1,Pg.mp,Pg.chd];cases f n u with
  |none=>show .inl ⟨rfl,rfl,rfl⟩
  |some r=>show .inr ⟨rfl,rfl⟩
 case star=>show .inl ⟨rfl,rfl,rfl⟩
section
variable (J:PIn P G) 
include J
def a91(p:Pg)(q:∀a,st a=AF->Q (.ref a) (b0 st a (.lst (p.kids.map Pg.d)))):sem P G (n+1) "inner" [p.d] st Q:=by
 apply i6 J.inner rfl [AA p.d] rfl ?_;cases p<;>erw[Pg.d]
 all_goals
  ∎;apply{by change G.tab "INNER_FROM"≠[];rw[J.tab];show λz=>(by cases z),?_};erw[J.tab];apply{_,rfl,_,rfl,∅,λa ha=>c9 (q a ha)}
def as2(p:Pg)(i:Nat)(q:Q (.int (p.more i:Nat)) st):sem P G (n+1) "names_more" [p.d,.int i] st Q:=by
 apply i6 J.more rfl [AA p.d,AA (.int i)] rfl ?_;cases p<;>erw[Pg.d]
 all_goals
  ∎;apply{by change G.tab "UNDER_ONE_MORE"≠[];rw[J.tab2];show λz=>(by cases z),?_};erw[J.tab2];apply{_,rfl,?_}
 case case=>
  change o9 .In (.int i) (.ktup [.inl 1,.inl 2]) _ _;rw[ax4];rfl'
  by_cases h:i=1\/i=2
  ·rw[if_pos (by simp;lia)];erw[Pg.more,if_pos h]at q;show c9 q
  ·rw[if_neg (by simp;lia)];erw[Pg.more,if_neg h]at q;show c9 q
 case way=>
  change o9 .In (.int i) (.ktup [.inl 0]) _ _;rw[ax4];rfl'
  by_cases h:i=0
  ·rw[if_pos (by simp;lia)];erw[Pg.more,if_pos h]at q;show c9 q
  ·rw[if_neg (by simp;lia)];erw[Pg.more,if_neg h]at q;show c9 q
 case lets=>
  change o9 .In (.int i) (.ktup [.inl 1]) _ _;rw[ax4];rfl'
  by_cases h:i=1
  ·rw[if_pos (by simp;lia)];erw[Pg.more,if_pos h]at q;show c9 q
  ·rw[if_neg (by simp;lia)];erw[Pg.more,if_neg h]at q;show c9 q
 all_goals
  change o9 .In (.int i) (.tup []) _ _;apply{rfl,rfl,BM _,?_};rfl';show c9 q
end
section
variable (J:PNm P G) 
include J
def ca6{l:List Pg}{a:AI}(h:rdS st a (l.map Pg.d))(c:l.length=p.kids.length)(b:p.kids≠[])(q:Q (p.withKids l).d st):sem P G (n+1) "with_inner" [p.d,.ref a] st Q:=by
 apply i6 J.winner rfl [AA p.d,AA (.ref a)] rfl ?_;revert b h q;apply Pg.with_cases (motive:=λp l=>rdS st a (l.map Pg.d)->p.kids≠[]->Q (p.withKids l).d st->j7 (Zg P G n) Y9.body (l9 Q) [AA p.d,AA (.ref a)] st) ?_ ?_ ?_ ?_ ?_ ?_ ?_ ?_ ?_ ?_ ?_ ?_ p l c
 ·intro k h b q;show absurd rfl b
 ·intro h b q;show absurd rfl b
 all_goals
  intros
  rename_i h b q;erw[Pg.d,Y9];∎;apply{by change G.tab "INNER_FROM"≠[];rw[J.tab];show λz=>(by cases z),?_};erw[J.tab];apply{_,rfl,_,rfl,∅,?_};rw[bi0 h];rfl';show{C7 (BB (Nat.add_le_add_right cj2 _) (by erw[AW,Ap,AV];decide)),c9 q}
def b86(p:Pg)(u:Nat)(k:2<=n)(q:∀a f,st a=AF->f a=AA (.lst ((p.kidsU u).map C9))->Kp [] st f->Q (.ref a) f):sem P G n "inner_under" [C9 (p,u)] st Q:=by
 obtain⟨n,rfl⟩:∃m,n=m+2:={n-2,⋯};apply i6 J.under rfl [AA (C9 (p,u)),AF] rfl ?_;unfold an5 C9;(iterate 2 ∎);apply{oy J.inner,a91 J.toPIn p λa ha=>?_};rfl';apply{_,.inl f8,by rw[az0,AV];cases p<;>erw[Pg.kids,AW,Ap]<;>decide,?_};apply R5 (λl acc env' f=>f=b0 st a (.lst (p.kids.map Pg.d))/\∃(g e:List Pg)(x y:Option D),p.kids=g++e/\l=t9 g.length (e.map Pg.d)/\env'=[AA (.tup [p.d,.int u]),AA p.d,x,y]/\acc=(g.mapIdx λi c=>C9 (c,u+p.more i))) ?_ ?_ _ _ _ _ {rfl,[],p.kids,AF,AF,rfl,rfl,rfl,rfl}
 ·rintro acc env' f ⟨rfl,g,e,x,y,ek,el,rfl,rfl⟩;apply{.inl f8,λb hb=>c9 (q b _ ?_ ?_ ((Kp.refl.new ha).new hb))}
  ·show none_of (Kp.refl.new ha) hb
  ·cases e with
   |cons c e=>simp[t9]at el
   |nil=>
    rw[BL]at ek;rw[f8,<-ek];unfold Pg.kidsU;show congrArg (λl=>AA (Ob.lst l)) (ET λi=>by erw[Ah,List.getElem?_mapIdx,Option.map_map];rfl)
 ·rintro d ds acc env' f ih ⟨rfl,g,e,x,y,ek,el,rfl,rfl⟩;apply{.inl f8,?_};cases e with
  |nil=>simp[t9]at el
  |cons c e=>
   erw[Au,t9,An]at el;let{rfl,rfl}:=el;rfl';apply{oy J.more,as2 J.toPIn p g.length ?_};apply ih _ _ _ {rfl,g++[c],e,_,_,by rw[ek];simp,∎,rfl,?_};simp[C9]
end
structure PKd(P:f9)(G:Gs):Prop extends PSh P G where
 lkd:P (f6 "Shelf" "laid_kind")=AA Y5
 blt:P (f6 "Shelf" "built")=AA an3
 ptb:P (f6 "Shelf" "put_by")=AA am2
 tku:P (f6 "Shelf" "taken_up")=AA ak1
 dfl:A0 G.cls (f6 "Shelf" "laid_kind")=AA 3
structure ShD(sh dn sa pa wa:AI):Prop where
 nd:[sh,dn,sa,pa].Nodup
 wd:wa∉[dn,sa,pa]
 ws:wa≠sh
@[reducible]noncomputable def shL(sh dn sa pa wa:AI):List AI:=[sh,dn,sa,pa,wa]
def N8{S}{t}(w:Wf S')(h:Has S t)(b:S <+: S'):nb S' t=nb S t:=by
 let{e,a,c}:=Q4 h;let{l,rfl}:=b;show au5 w (Ab (AY.mp a).1▸a) c
section
variable (T:PKd P G) {S:List It3} {wo:Ob}
include T
def ar3{w:String}{inn:List D}(A:ShA sh dn sa pa wa S st)(c:ShD sh dn sa pa wa)(f:st wa=AA wo)(hi:∀d∈inn,Has S d)(h:inn.length<=1000)(o:S.length<900000)
  (q:∀b a,Has b (.tup (.str w::inn))->S <+: b->b.length<=S.length+1->ShA sh dn sa pa wa b a->a wa=AA wo->Kp (shL sh dn sa pa wa) st a->Q (.int (nb b (.tup (.str w::inn)):Nat)) a):sem P G (n+1) (f6 "Shelf" "numbered") [.ref sh,.tup [.str w],B8 (inn.map (nb S))] st Q:=by
 apply bw0 T.toPSh A c.nd (fr:=[.str w]) (inn:=inn) (ns:=inn.map (nb S)) ax6 ∎ (λj m hm=>?_) ∎ (by simpa using h) ⋯ λm b a A' hp hl' hm K=>?_
 ·rw[Ah]at hm;cases e:inn[j]? with
  |none=>rw[e]at hm;cases hm
  |some d=>
   rw[e]at hm;cases hm;let{l,k,i}:=Q4 (hi d (BX e));show{l,k,by rw[i]}
 ·have g:=au5 A'.wf hm (t:=.tup (.str w::inn)) rfl;rw[<-g];show q b a ⟨m,_,hm,rfl⟩ hp hl' A' (K.at' f c.wd) (K.more ∎)
def Z3{w:String}(A:ShA sh dn sa pa wa S st)(j:ShD sh dn sa pa wa)(f:st wa=AA wo)(h:Has S a.d)(g:Has S b.d)(i:S.length<900000)
  (q:∀S' c,Has S' (.tup [.str w,a.d,b.d])->S <+: S'->S'.length<=S.length+1->ShA sh dn sa pa wa S' c->c wa=AA wo->Kp (shL sh dn sa pa wa) st c->Q (.int (nb S' (.tup [.str w,a.d,b.d]):Nat)) c):sem P G (n+2) (f6 "Shelf" "built") [.ref sh,.str w,.int (nb S a.d:Nat),.int (nb S b.d:Nat)] st Q:=by
 apply i6 T.blt rfl [AA (.ref sh),AA (.str w),AA (.int (nb S a.d:Nat)),AA (.int (nb S b.d:Nat))] rfl ?_;unfold an3;∎;apply{sh,"Shelf",_,rfl,A.ins,rfl,oy T.numb,?_};show ar3 T (inn:=[a.d,b.d]) A j f (by simp[h,g]) ∎ i λS' c h1 h2 h3 h4 h5 h6=>c9 (q S' c h1 h2 h3 h4 h5 h6)
abbrev LdQ(sh dn sa pa wa:AI)(S:List It3)(wo:Ob)(st:Sto)(k:Kd)(Q:DK):Prop:=∀S' st',Has S' k.d->S <+: S'->S'.length<=S.length+k.size->ShA sh dn sa pa wa S' st'->st' wa=AA wo->Kp (shL sh dn sa pa wa) st st'->Q (.int (nb S' k.d:Nat)) st'
abbrev LkS(P:f9)(G:Gs)(sh dn sa pa wa:AI)(wo:Ob)(k:Kd):Prop:=∀(deep:Nat){n:Nat}{st:Sto}{Q:DK}{S:List It3},deep+8<=n->k.nest<=deep->ShA sh dn sa pa wa S st->ShD sh dn sa pa wa->st wa=AA wo->S.length+k.size<=900000->LdQ sh dn sa pa wa S wo st k Q->sem P G n (f6 "Shelf" "laid_kind") [.ref sh,k.d,.int deep] st Q
def bn7{w:String}{k}(c:k.d=.tup [.str w])(b:k.size=1):LkS P G sh dn sa pa wa wo k:=by
 intro a n st Q S g _ A f e h q;unfold LdQ at q;rw[c,b]at q;rw[c];obtain⟨n,rfl⟩:∃m,n=m+2:={n-2,⋯};apply i6 T.lkd rfl [AA (.ref sh),AA (.tup [.str w]),AA (.int a)] rfl ?_;∎;∎;apply{sh,"Shelf",_,rfl,A.ins,rfl,oy T.numb,?_};show ar3 T A f e ∎ ∎ ⋯ λS' st' b h2 h3 h4 h5 h6=>c9 (q S' st' b h2 h3 h4 h5 h6)
def cw3{w:String}{k:Kd}(h:k.d=.tup [.str w,a.d,b.d])(s:k.nest=1+max a.nest b.nest)(j:k.size=1+(a.size+b.size))(f:LkS P G sh dn sa pa wa wo a)(e:LkS P G sh dn sa pa wa wo b):LkS P G sh dn sa pa wa wo k:=by
 intro c n st Q S o p A g i r q;unfold LdQ at q;rw[h,j]at q;rw[h];obtain⟨n,rfl⟩:∃m,n=m+3:={n-3,⋯};apply i6 T.lkd rfl [AA (.ref sh),AA (.tup [.str w,a.d,b.d]),AA (.int c)] rfl ?_;∎;∎;have t:¬(c:Int)=0:=by lia
 obtain⟨c,rfl⟩:∃m,c=m+1:={c-1,⋯};have l:((c+1:Nat):Int)-1=(c:Nat):=by lia
 ∎;apply{sh,"Shelf",_,rfl,A.ins,rfl,oy T.blt,sh,"Shelf",_,rfl,A.ins,rfl,oy T.lkd,?_};rw[l];apply f c ⋯ ⋯ A g i ⋯ λS1 st1 a1 a2 a3 A1 a5 a6=>?_;apply{sh,"Shelf",_,rfl,A1.ins,rfl,oy T.lkd,?_};apply e c ⋯ ⋯ A1 g a5 ⋯ λS2 st2 b1 b2 b3 A2 b5 b6=>?_;rw[<-N8 A2.wf a1 b2];show Z3 T A2 g b5 (a1.mono b2) b1 ⋯ λS3 st3 c1 c2 c3 c4 c5 c6=>c9 (q S3 st3 c1 ((a2.trans b2).trans c2) ⋯ c4 c5 ((a6.trans b6).trans c6))
def b97 k:LkS P G sh dn sa pa wa wo k:=by
 induction k with
 |non=>show bn7 T rfl rfl
 |one=>show bn7 T rfl rfl
 |eith a b d c|both a b d c|way a b d c=>show cw3 T rfl rfl (EW _ _ _) d c
end
def X8{k:Kd}(h:k.nest<=3):k.size<=127:=by
 have:=b39 k;have:2^(k.nest+1)<=2^4:=Fh ∅ ⋯;lia
abbrev C4(S:List It3)(w:Kd×Bool):D:=.tup [w.1.d,if w.2=AD then .int (nb S w.1.d:Nat)else .non]
structure KA(sh dn sa pa wa:AI)(S:List It3)(ws:List (Kd×Bool))(st:Sto):Prop where
 A:ShA sh dn sa pa wa S st
 D0:ShD sh dn sa pa wa
 W:st wa=AA (.lst (ws.map (C4 S)))
 H:∀w∈ws,w.2=AD->Has S w.1.d
 N:∀w∈ws,w.1.nest<=3
 L:ws.length<=2000
section
variable {S:List It3} 
def cl8(b:Wf S')(c:S <+: S'){w}(h:w.2=AD->Has S w.1.d):C4 S' w=C4 S w:=by
 unfold C4
 by_cases a:w.2=AD
 ·rw[if_pos a,if_pos a,N8 b (h a) c]
 ·rw[if_neg a,if_neg a]
def KA.up(k:KA sh dn sa pa wa S ws st)(b:ShA sh dn sa pa wa S' st')(a:S <+: S')(c:st' wa=AA (.lst (ws.map (C4 S)))):KA sh dn sa pa wa S' ws st':=
 {b,k.D0,(c▸congrArg (λl=>AA (Ob.lst l)) (Ih λw hm=>(cl8 b.wf a (k.H w hm)).symm)),λw hm hb=>(k.H w hm hb).mono a,k.N,k.L}
theorem KA.keepL(k:KA sh dn sa pa wa S ws st)(K:Kp L st st')(h:∀x∈L,x∉shL sh dn sa pa wa):KA sh dn sa pa wa S ws st':=
 {k.A.keepL K h,k.D0,K.at' k.W (λz=>h wa z ∎),k.H,k.N,k.L}
def KA.keep(k:KA sh dn sa pa wa S ws st)(K:Kp [] st st'):=k.keepL K ∎
abbrev En(S:List It3)(ws:List (Kd×Bool))(e:Int)(k:Kd):Prop:=(e=(nb S k.d:Nat)/\Has S k.d)\/∃(j:Nat)(b:Bool),e=-((j:Int)+1)/\ws[j]?=AA (k,b)
abbrev WUp(ws ws':List (Kd×Bool)):Prop:=ws'.map (·.1)=ws.map (·.1)
def En.up{e}{k}(h:En S ws e k)(d:Wf S')(c:S <+: S')(f:WUp ws ws'):En S' ws' e k:=by
 rcases h with⟨rfl,h⟩|⟨j,b,rfl,h⟩
 ·show .inl {by rw[N8 d h c],h.mono c}
 ·have a:(ws'.map (·.1))[j]?=AA k:=by rw[f,Ah,h];rfl
  rw[Ah]at a;cases e2:ws'[j]? with
  |none=>simp_all
  |some x=>
   rw[e2]at a;cases a;show .inr ⟨j,x.2,rfl,e2⟩
structure KnOk(S:List It3)(ws:List (Kd×Bool))(Γ:List Kd)(kn:List Int):Prop where
 len:kn.length=Γ.length
 at':∀(m:Nat)k,Γ[m]?=AA k->∃e,kn.reverse[m]?=AA e/\En S ws e k
theorem KnOk.up{kn}(h:KnOk S ws Γ kn)(a:Wf S')(c:S <+: S')(b:WUp ws ws'):KnOk S' ws' Γ kn:=
 ⟨h.len,λm k hk=>let⟨e,f,d⟩:=h.at' m k hk;{e,f,d.up a c b}⟩
def KnOk.cons{kn}{k}{e}(h:KnOk S ws Γ kn)(d:En S ws e k):KnOk S ws (k::Γ) (kn++[e]):=
 {by simp[h.len],λm c hc=>by
  rw[Ii];cases m with
  |zero=>cases hc;show⟨e,rfl,d⟩
  |succ m=>show h.at' m c hc}
abbrev Up(S:List It3)(ws:List (Kd×Bool))(S':List It3)(ws':List (Kd×Bool))(p:Pg):Prop:=S <+: S'/\S'.length<=S.length+256*p.parts/\WUp ws ws'
theorem WUp.trans{w1 w2 w3}(a:WUp w1 w2)(b:WUp w2 w3):WUp w1 w3:=Ki b a
end
section
variable (T:PKd P G) {S:List It3} 
include T
def W6{k:Kd}(f:11<=n)(c:k.nest<=3)(K:KA sh dn sa pa wa S ws st)(e:S.length+k.size<=900000)
  (q:∀S' a,Has S' k.d->S <+: S'->S'.length<=S.length+k.size->KA sh dn sa pa wa S' ws a->Kp (shL sh dn sa pa wa) st a->Q (.int (nb S' k.d)) a):sem P G n (f6 "Shelf" "laid_kind") [.ref sh,k.d,.int 3] st Q:=
 b97 T k 3 ⋯ c K.A K.D0 K.W e λS' a h1 h2 h3 h4 h5=>q S' a h1 h2 h3 (K.up h4 h2 h5)
def b88{k:Kd}(K:KA sh dn sa pa wa S ws st)(h:k.nest<=3)(l:ws.length<2000)(q:∀b,KA sh dn sa pa wa S (ws++[(k,AE)]) b->Kp [wa] st b->Q (.int (-((ws.length:Int)+1))) b):sem P G (n+1) (f6 "Shelf" "put_by") [.ref sh,k.d] st Q:=by
 apply i6 T.ptb rfl [AA (.ref sh),AA k.d] rfl ?_;have c:(("waiting":Str))∈G.cls "Shelf":=by rw[T.cls];simp
 ∎;apply{sh,"Shelf",_,.ref wa,rfl,K.A.ins,c,rfl,?_};rw[B5 (.inl K.W)];apply{trivial,?_};rw[E1 K.W];apply{C8 (by erw[AV];lia),?_};have j:Kp [wa] st (b0 st wa (.lst (ws.map (C4 S)++[.tup [k.d,.non]]))):=Kp.refl.put ∎;have f:b0 st wa (.lst (ws.map (C4 S)++[.tup [k.d,.non]])) wa=AA (.lst ((ws++[(k,AE)]).map (C4 S))):=by rw[f8,Aj];rfl
 have g:ShA sh dn sa pa wa S (b0 st wa (.lst (ws.map (C4 S)++[.tup [k.d,.non]]))):=by
  have d:=K.D0;have w:=d.wd;erw[AQ,AX,or_false,not_or]at w;show{f7 K.A.ins (λz=>d.ws z.symm),f7 K.A.num (λz=>w.1 z.symm),f7 K.A.sto (λz=>w.2.1 z.symm),f7 K.A.par (λz=>w.2.2 z.symm),⟨_,f8⟩,K.A.wf,K.A.ml,K.A.fl}
 have i:KA sh dn sa pa wa S (ws++[(k,AE)]) (b0 st wa (.lst (ws.map (C4 S)++[.tup [k.d,.non]]))):=by
  apply{g,K.D0,f,λw a hb=>?_,λw a=>?_,by simp;lia}
  ·rcases BO.mp a with a|a
   ·show K.H w a hb
   ·simp at a;subst a;cases hb
  ·rcases BO.mp a with a|a
   ·show K.N w a
   ·simp at a;subst a;show h
 ∎;apply{sh,"Shelf",_,.ref wa,rfl,g.ins,c,rfl,?_};rw[r9 (.inl f)];rfl';have e:-(((ws++[(k,AE)]).map (C4 S)).length:Int)=-((ws.length:Int)+1):=by simp
 rw[e];show c9 (q _ i j)
def bx7{k:Kd}{e:Int}(x:12<=n)(K:KA sh dn sa pa wa S ws st)(h:En S ws e k)(y:S.length+128<=900000)
  (q:∀S' g a,Has S' k.d->S <+: S'->S'.length<=S.length+128->KA sh dn sa pa wa S' g a->WUp ws g->Kp (shL sh dn sa pa wa) st a->Q (.int (nb S' k.d:Nat)) a):sem P G n (f6 "Shelf" "taken_up") [.ref sh,.int e] st Q:=by
 obtain⟨n,rfl⟩:∃m,n=m+1:={n-1,⋯};apply i6 T.tku rfl [AA (.ref sh),AA (.int e),AF] rfl ?_;have r:(("waiting":Str))∈G.cls "Shelf":=by rw[T.cls];simp
 ∎
 rcases h with⟨rfl,h⟩|⟨j,b,rfl,h⟩
 ·∎;show c9 (q S ws st h (DI _) ⋯ K rfl Kp.refl)
 ∎;apply{sh,"Shelf",_,.ref wa,rfl,K.A.ins,r,rfl,?_};have s:(-1:Int) - -((j:Int)+1)=(j:Nat):=by lia
 rw[s,l7 (.inl K.W)];apply{C4 S (k,b),by rw[z8,Ah,h];rfl,?_};have l:=K.N _ (BX h);have t:=(AY.mp h).1;cases b with
 |true=>
  have p:C4 S (k,AD)=.tup [k.d,.int (nb S k.d:Nat)]:=rfl;have u:=K.H _ (BX h) rfl;rw[p];∎;apply .inr {nofun,?_};∎;show c9 (q S ws st u (DI _) ⋯ K rfl Kp.refl)
 |false=>
  have p:C4 S (k,AE)=.tup [k.d,.non]:=rfl;rw[p];∎;apply .inl ?_;∎;apply{sh,"Shelf",_,3,rfl,K.A.ins,rfl,oy T.lkd,T.dfl,?_};have hz:k.size<=127:=X8 (k:=k) l;apply W6 T ⋯ l K ⋯ λS' a h1 h2 h3 K' K2=>?_;∎;apply{sh,"Shelf",_,.ref wa,rfl,K'.A.ins,r,rfl,?_};rw[s];apply{wa,(j:Nat),j,_,rfl,rfl,K'.W,?_,?_}
  ·unfold ixN;rw[if_pos ⋯,if_pos (by simp;lia)];simp
  have i:wa∉[dn,sa,pa]/\wa≠sh:=⟨K.D0.wd,K.D0.ws⟩;erw[AQ,AX,or_false,not_or]at i;have v:∀o,ShA sh dn sa pa wa S' (b0 a wa o):=λo=>{f7 K'.A.ins (λz=>i.2 z.symm),f7 K'.A.num (λz=>i.1.1 z.symm),f7 K'.A.sto (λz=>i.1.2.1 z.symm),f7 K'.A.par (λz=>i.1.2.2 z.symm),⟨_,f8⟩,K'.A.wf,K'.A.ml,K'.A.fl};have el:(ws.map (C4 S')).set j (.tup [k.d,.int (nb S' k.d:Nat)])=(ws.set j (k,AD)).map (C4 S'):=by rw[Kj];rfl
  rw[el];∎;apply c9 (q S' (ws.set j (k,AD)) _ h1 h2 ⋯ {v _,K.D0,f8,λw f hb=>?_,λw f=>?_,by simpa using K.L} ?_ (K2.put ∎))
  ·rcases HY f with f|rfl
   ·show K'.H w f hb
   ·show h1
  ·rcases HY f with f|rfl
   ·show K.N w f
   ·show l
  ·unfold WUp;rw[Kj];apply ET λi=>?_;rw[GQ]
   split
   ·rename_i hi;subst hi;rw[Ah,h,if_pos (by simpa using t)];rfl
   ·rfl
end
abbrev Pg.kk(Γ:List Kd):Pg->List Kd->Option Kd
 |.name n,[]=>Γ[n]?
 |.star,[]=>AA .one
 |.pair _ _,[a,b]=>AA (.both a b)
 |.first _,[.both a _]=>AA a
 |.second _,[.both _ b]=>AA b
 |.left b _,[a]=>AA (.eith a b)
 |.right a _,[b]=>AA (.eith a b)
 |.case _ _ _,[.eith _ _,k,l]=>if k=l then AA k else AF
 |.way a _,[b]=>AA (.way a b)
 |.give _ _,[.way a b,c]=>if a=c then AA b else AF
 |.lets _ _,[_,k]=>AA k
 |.never k _,[.non]=>AA k
 |_,_=>AF
abbrev Pg.nw:Pg->List Kd->Nat->Option Kd
 |.way a _,_,_=>AA a
 |.lets _ _,ks,_=>ks.head?
 |.case _ _ _,.eith a b::_,i=>AA (if i=1 then a else b)
 |_,_,_=>AF
abbrev Cxt(p:Pg)(ks:List Kd)(i:Nat)(Γ Δ:List Kd):Prop:=(p.more i=0/\Δ=Γ)\/(p.more i=1/\∃a,p.nw ks i=AA a/\Δ=a::Γ)
def Pg.kind_inv{k:Kd}(h:p.kind Γ=AA k):∃ks:List Kd,ks.length=p.kids.length/\p.kk Γ ks=AA k/\∀(i:Nat)c,p.kids[i]?=AA c->∃a Δ,ks[i]?=AA a/\Cxt p (ks.take i) i Γ Δ/\c.kind Δ=AA a:=by
 cases D5 h
 case name=>show{[],rfl,h,λi c d=>nomatch d}
 case star=>show{[],rfl,h,λi c d=>nomatch d}
 case first t b h1=>show{[.both k b],rfl,rfl,λi c d=>match i,d with
  |0,d=>by cases d;show{_,Γ,rfl,.inl ⟨rfl,rfl⟩,h1.kind}
  |i+1,d=>nomatch d}
 case second t a h1=>show{[.both a k],rfl,rfl,λi c d=>match i,d with
  |0,d=>by cases d;show{_,Γ,rfl,.inl ⟨rfl,rfl⟩,h1.kind}
  |i+1,d=>nomatch d}
 case left t a b h1=>show{[a],rfl,rfl,λi c d=>match i,d with
  |0,d=>by cases d;show{_,Γ,rfl,.inl ⟨rfl,rfl⟩,h1.kind}
  |i+1,d=>nomatch d}
 case right t a b h1=>show{[b],rfl,rfl,λi c d=>match i,d with
  |0,d=>by cases d;show{_,Γ,rfl,.inl ⟨rfl,rfl⟩,h1.kind}
  |i+1,d=>nomatch d}
 case never t h1=>show{[.non],rfl,rfl,λi c d=>match i,d with
  |0,d=>by cases d;show{_,Γ,rfl,.inl ⟨rfl,rfl⟩,h1.kind}
  |i+1,d=>nomatch d}
 case way t a b h1=>show{[b],rfl,rfl,λi c d=>match i,d with
  |0,d=>by cases d;show{_,a::Γ,rfl,.inr ⟨rfl,a,rfl,rfl⟩,h1.kind}
  |i+1,d=>nomatch d}
 case pair t u a b h1 h2=>show{[a,b],rfl,rfl,λi c d=>match i,d with
  |0,d=>by cases d;show{_,Γ,rfl,.inl ⟨rfl,rfl⟩,h1.kind}
  |1,d=>by cases d;show{_,Γ,rfl,.inl ⟨rfl,rfl⟩,h2.kind}
  |i+2,d=>nomatch d}
 case give t u a h2 h1=>show{[.way a k,a],rfl,if_pos rfl,λi c d=>match i,d with
  |0,d=>by cases d;show{_,Γ,rfl,.inl ⟨rfl,rfl⟩,h1.kind}
  |1,d=>by cases d;show{_,Γ,rfl,.inl ⟨rfl,rfl⟩,h2.kind}
  |i+2,d=>nomatch d}
 case lets t u a h1 h2=>show{[a,k],rfl,rfl,λi c d=>match i,d with
  |0,d=>by cases d;show{_,Γ,rfl,.inl ⟨rfl,rfl⟩,h1.kind}
  |1,d=>by cases d;show{_,a::Γ,rfl,.inr ⟨rfl,a,rfl,rfl⟩,h2.kind}
  |i+2,d=>nomatch d}
 case case t u v a b h1 h2 h3=>show{[.eith a b,k,k],rfl,if_pos rfl,λi c d=>match i,d with
  |0,d=>by cases d;show{_,Γ,rfl,.inl ⟨rfl,rfl⟩,h1.kind}
  |1,d=>by cases d;show{_,a::Γ,rfl,.inr ⟨rfl,a,rfl,rfl⟩,h2.kind}
  |2,d=>by cases d;show{_,b::Γ,rfl,.inr ⟨rfl,b,rfl,rfl⟩,h3.kind}
  |i+3,d=>nomatch d}
abbrev c96:List (Str×D):=[("name",.fn "kind_of_name"),("star",.fn "kind_of_star"),("pair",.fn "kind_of_pair"),("first",.fn "kind_of_first"),("second",.fn "kind_of_second"),("left",.fn "kind_of_left"),("right",.fn "kind_of_right"),("case",.fn "kind_of_case"),("way",.fn "kind_of_way"),("give",.fn "kind_of_give"),("let",.fn "kind_of_let"),("never",.fn "kind_of_never")]
structure PKo(P:f9)(G:Gs):Prop extends PKd P G,PIn P G where
 kbp:P "kind_by_parts"=AA ad8
 nnm:P "new_name"=AA ao9
 hvs:P "halves_of"=AA ae2
 k0:P "kind_of_name"=AA ae0
 k1:P "kind_of_star"=AA an1
 k2:P "kind_of_pair"=AA am0
 k3:P "kind_of_first"=AA al5
 k4:P "kind_of_second"=AA ak3
 k5:P "kind_of_left"=AA am9
 k6:P "kind_of_right"=AA al4
 k7:P "kind_of_case"=AA al8
 k8:P "kind_of_way"=AA an6
 k9:P "kind_of_give"=AA ae1
 k10:P "kind_of_let"=AA an7
 k11:P "kind_of_never"=AA ak8
 tbw:G.tab "BY_WORD"=c96
abbrev w8(S:List It3)(ks:List Kd):List D:=ks.map λk=>.int (nb S k.d:Nat)
section
variable (T:PKo P G) {S:List It3} 
include T
def Z9{w:String}{k:Kd}(f:k.d=.tup [.str w,a.d,b.d])(K:KA sh dn sa pa wa S ws st)(h:Has S k.d)(q:Has S a.d->Has S b.d->Q (.tup [.int (nb S a.d:Nat),.int (nb S b.d:Nat)]) st):sem P G (n+2) "halves_of" [.str w,.int (nb S k.d:Nat),.ref sh] st Q:=by
 apply i6 T.hvs rfl [AA (.str w),AA (.int (nb S k.d:Nat)),AA (.ref sh)] rfl ?_;unfold ae2;rw[f]at h ⊢;have c:∀d∈[a.d,b.d],∃l,d=.tup l:=λd hd=>by simp at hd;rcases hd with rfl|rfl<;>show cv1 _
 let{e,_}:=bk8 K.A.wf (fr:=[.str w]) (inn:=[a.d,b.d]) h ax6 c;∎;apply{sh,"Shelf",_,rfl,K.A.ins,rfl,oy T.word,aq8 T.toPSh K.A h ?_};rw[ac3];rfl';∎;apply{sh,"Shelf",_,rfl,K.A.ins,rfl,oy T.wthn,bz4 T.toPSh K.A (fr:=[.str w]) (inn:=[a.d,b.d]) h ax6 c ?_};show c9 (q (e _ ∎) (e _ ∎))
end
abbrev Pg.told(m:Nat):Pg->Prop
 |.left b _=>b.nest<=m
 |.right b _=>b.nest<=m
 |.way b _=>b.nest<=m
 |.never b _=>b.nest<=m
 |_=>True
def Pg.told_kn(h:p.kn m):p.told m:=by cases p<;>first|trivial|show h.1
abbrev StQ(sh dn sa pa wa:AI)(S:List It3)(ws:List (Kd×Bool))(st:Sto)(k:Kd)(Q:DK):Prop:=∀S' ws' st',Has S' k.d->S <+: S'->S'.length<=S.length+128->KA sh dn sa pa wa S' ws' st'->WUp ws ws'->Kp (shL sh dn sa pa wa) st st'->Q (.int (nb S' k.d:Nat)) st'
section
variable (T:PKo P G) {S:List It3} 
include T
def by0(r:14<=n)(K:KA sh dn sa pa wa S ws st)(h:p.told 3)(g:p.more i=1)(c:p.nw ks i=AA a)(l:st ca=AA (.lst (w8 S ks)))(j:∀k∈ks,Has S k.d)(s:S.length+128<=900000)
  (q:StQ sh dn sa pa wa S ws st a Q):sem P G n "new_name" [p.d,.ref ca,.int i,.ref sh] st Q:=by
 obtain⟨n,rfl⟩:∃m,n=m+3:={n-3,⋯};apply i6 T.nnm rfl [AA p.d,AA (.ref ca),AA (.int i),AA (.ref sh)] rfl ?_;cases p<;>first|(cases c;done)|skip
 case case t u v=>
  cases ks with
  |nil=>cases c
  |cons k0 ks=>
   cases k0<;>first|(cases c;done)|skip
   rename_i x y;erw[Pg.d];(iterate 3 ∎);apply{oy T.hvs,?_};rw[l7 (.inl l)];apply{.int (nb S (Kd.eith x y).d:Nat),by rw[ax9];rfl,?_};apply Z9 T (w:="either") (k:=.eith x y) rfl K (j _ ∎) λh1 h2=>?_;erw[Pg.more]at g;have hi:i=1\/i=2:=by
    split at g
    ·assumption
    ·cases g
   rcases hi with rfl|rfl
   ·cases c;show{_,rfl,c9 (q S ws st h1 (DI _) ⋯ K rfl Kp.refl)}
   ·cases c;show{_,rfl,c9 (q S ws st h2 (DI _) ⋯ K rfl Kp.refl)}
 case way b t=>
  cases(c);erw[Pg.d];(iterate 2 ∎);apply{sh,"Shelf",_,3,rfl,K.A.ins,rfl,oy T.lkd,T.dfl,?_};have hz:=X8 h;have o:a.nest<=3:=h;show W6 T.toPKd ⋯ ⋯ K ⋯ λS' st' h1 h2 h3 h4 h5=>c9 (q S' ws st' h1 h2 ⋯ h4 rfl h5)
 case lets t u=>
  cases ks with
  |nil=>cases c
  |cons k0 ks=>
   cases(c);erw[Pg.d];(iterate 3 ∎);rw[l7 (.inl l)];show{.int (nb S a.d:Nat),by rw[ax9];rfl,c9 (q S ws st (j _ ∎) (DI _) ⋯ K rfl Kp.refl)}
def cv7{k:Kd}{C:List Int}(M:16<=n)(K:KA sh dn sa pa wa S ws st)(E:p.told 3)(f:p.kk Γ ks=AA k)(l:st ca=AA (.lst (w8 S ks)))(j:∀k∈ks,Has S k.d)(o:st ka=AA (.lst (C.map D.int)))(x:KnOk S ws Γ C)(y:ca∉shL sh dn sa pa wa)(R:S.length+128<=900000)
  (q:StQ sh dn sa pa wa S ws st k Q):sem P G n "kind_by_parts" [p.d,.ref ca,.ref ka,.ref sh] st Q:=by
 obtain⟨n,rfl⟩:∃m,n=m+5:={n-5,⋯};have J:(Zg P G (n+4)).G "BY_WORD"≠[]:=by change G.tab "BY_WORD"≠[];rw[T.tbw];show λz=>by cases z
 have g:∀{k:Kd},StQ sh dn sa pa wa S ws st k Q->Has S k.d->Q (.int (nb S k.d:Nat)) st:=λq h=>q S ws st h (DI _) ⋯ K rfl Kp.refl;apply i6 T.kbp rfl [AA p.d,AA (.ref ca),AA (.ref ka),AA (.ref sh)] rfl ?_;cases p<;>erw[Pg.d]
 all_goals
  ∎;apply{J,?_};erw[T.tbw];apply{_,rfl,?_}
 case name m=>
  cases ks with
  |cons _ _=>cases f
  |nil=>
   apply{_,rfl,oy T.k0,?_};apply i6 T.k0 rfl [AA (.tup [.str "name",.int m]),AA (.ref ca),AA (.ref ka),AA (.ref sh),AF] rfl ?_;unfold ae0;have f:Γ[m]?=AA k:=f;have N:=(AY.mp f).1;let{e,I,H}:=x.at' m k f;have O:=x.len;(iterate 2 ∎);rw[r9 (.inl o)];rfl';rw[if_neg ⋯,if_neg (by erw[AV];lia)];∎;apply{sh,"Shelf",_,rfl,K.A.ins,rfl,oy T.tku,?_};rw[r9 (.inl o)];rfl';rw[l7 (.inl o)];have L:(((C.map D.int).length:Nat):Int)-1-(m:Int)=((C.length-1-m:Nat):Int):=by rw[AV];lia
   rw[L];apply{.int e,by rw[z8,Ah];rw[FH ⋯]at I;rw[I];rfl,?_};show bx7 T.toPKd ⋯ K H ⋯ λS' ws' st' h1 h2 h3 h4 h5 h6=>c9 (c9 (q S' ws' st' h1 h2 ⋯ h4 h5 h6))
 case star=>
  cases ks with
  |cons _ _=>cases f
  |nil=>
   cases f;apply{_,rfl,oy T.k1,?_};apply i6 T.k1 rfl [AA (.tup [.str "star"]),AA (.ref ca),AA (.ref ka),AA (.ref sh)] rfl ?_;unfold an1;∎;apply{sh,"Shelf",_,rfl,K.A.ins,rfl,oy T.numb,?_};show ar3 T.toPKd (w:="one") (inn:=[]) K.A K.D0 K.W ∎ ∎ ⋯ λS' st' h1 h2 h3 h4 h5 h6=>c9 (c9 (q S' ws st' h1 h2 ⋯ (K.up h4 h2 h5) rfl h6))
 case pair t u=>
  match ks,f with
  |[a,b],f=>
   cases f;apply{_,rfl,oy T.k2,?_};apply i6 T.k2 rfl [AA (.tup [.str "pair",t.d,u.d]),AA (.ref ca),AA (.ref ka),AA (.ref sh)] rfl ?_;unfold am0;∎;apply{sh,"Shelf",_,rfl,K.A.ins,rfl,oy T.blt,?_};rw[l7 (.inl l)];apply{_,rfl,?_};rw[l7 (.inl l)];apply{_,rfl,?_};show Z3 T.toPKd (w:="both") K.A K.D0 K.W (j _ ∎) (j _ ∎) ⋯ λS' st' h1 h2 h3 h4 h5 h6=>c9 (c9 (q S' ws st' h1 h2 ⋯ (K.up h4 h2 h5) rfl h6))
 case first t=>
  match ks,f with
  |[.both a b],f=>
   cases(f);apply{_,rfl,oy T.k3,?_};apply i6 T.k3 rfl [AA (.tup [.str "first",t.d]),AA (.ref ca),AA (.ref ka),AA (.ref sh)] rfl ?_;unfold al5;∎;apply{oy T.hvs,?_};rw[l7 (.inl l)];apply{_,rfl,Z9 T (w:="both") (k:=.both k b) rfl K (j _ ∎) λh1 h2=>?_};rfl';show c9 (c9 (g q h1))
 case second t=>
  match ks,f with
  |[.both a b],f=>
   cases(f);apply{_,rfl,oy T.k4,?_};apply i6 T.k4 rfl [AA (.tup [.str "second",t.d]),AA (.ref ca),AA (.ref ka),AA (.ref sh)] rfl ?_;unfold ak3;∎;apply{oy T.hvs,?_};rw[l7 (.inl l)];apply{_,rfl,Z9 T (w:="both") (k:=.both a k) rfl K (j _ ∎) λh1 h2=>?_};rfl';show c9 (c9 (g q h2))
 case case t u v=>
  match ks,f with
  |[.eith a b,c,d],f=>
   have f:(if c=d then AA c else AF)=AA k:=f
   split at f
   ·rename_i s;cases f;subst s;apply{_,rfl,oy T.k7,?_};apply i6 T.k7 rfl [AA (.tup [.str "case",t.d,u.d,v.d]),AA (.ref ca),AA (.ref ka),AA (.ref sh)] rfl ?_;unfold al8;∎;rw[l7 (.inl l)];apply{_,rfl,?_};rw[l7 (.inl l)];apply{_,rfl,?_};rw[ah4];rfl';∎;rw[l7 (.inl l)];show{_,rfl,c9 (c9 (g q (j _ ∎)))}
   ·cases f
 case lets t u=>
  match ks,f with
  |[a,c],f=>
   cases f;apply{_,rfl,oy T.k10,?_};apply i6 T.k10 rfl [AA (.tup [.str "let",t.d,u.d]),AA (.ref ca),AA (.ref ka),AA (.ref sh)] rfl ?_;unfold an7;∎;rw[l7 (.inl l)];show{_,rfl,c9 (c9 (g q (j _ ∎)))}
 case give t u=>
  match ks,f with
  |[.way a b,c],f=>
   have f:(if a=c then AA b else AF)=AA k:=f
   split at f
   ·rename_i s;cases(f);subst s;apply{_,rfl,oy T.k9,?_};apply i6 T.k9 rfl [AA (.tup [.str "give",t.d,u.d]),AA (.ref ca),AA (.ref ka),AA (.ref sh),AF] rfl ?_;unfold ae1;∎;apply{oy T.hvs,?_};rw[l7 (.inl l)];apply{_,rfl,Z9 T (w:="way") (k:=.way a k) rfl K (j _ ∎) λh1 h2=>?_};∎;rw[l7 (.inl l)];apply{_,rfl,?_};rw[ah4];rfl';∎;show c9 (c9 (g q h2))
   ·cases f
 case left b t=>
  match ks,f with
  |[a],f=>
   cases f;have i:b.nest<=3:=E;have hz:=X8 i;apply{_,rfl,oy T.k5,?_};apply i6 T.k5 rfl [AA (.tup [.str "left",b.d,t.d]),AA (.ref ca),AA (.ref ka),AA (.ref sh)] rfl ?_;unfold am9;∎;apply{sh,"Shelf",_,rfl,K.A.ins,rfl,oy T.blt,?_};rw[l7 (.inl l)];apply{_,rfl,sh,"Shelf",_,3,rfl,K.A.ins,rfl,oy T.lkd,T.dfl,?_};apply W6 T.toPKd ⋯ ⋯ K ⋯ λS1 st1 a1 a2 a3 K1 a5=>?_;rfl';rw[<-N8 K1.A.wf (j a ∎) a2];show Z3 T.toPKd (w:="either") K1.A K1.D0 K1.W ((j _ ∎).mono a2) a1 ⋯ λS' st' h1 h2 h3 h4 h5 h6=>c9 (c9 (q S' ws st' h1 (a2.trans h2) ⋯ (K1.up h4 h2 h5) rfl (a5.trans h6)))
 case right b t=>
  match ks,f with
  |[a],f=>
   cases f;have i:b.nest<=3:=E;have hz:=X8 i;apply{_,rfl,oy T.k6,?_};apply i6 T.k6 rfl [AA (.tup [.str "right",b.d,t.d]),AA (.ref ca),AA (.ref ka),AA (.ref sh)] rfl ?_;unfold al4;∎;apply{sh,"Shelf",_,rfl,K.A.ins,rfl,oy T.blt,sh,"Shelf",_,3,rfl,K.A.ins,rfl,oy T.lkd,T.dfl,?_};apply W6 T.toPKd ⋯ ⋯ K ⋯ λS1 st1 a1 a2 a3 K1 a5=>?_;rfl';rw[l7 (.inl (a5.at' l y))];apply{.int (nb S a.d:Nat),rfl,?_};rw[<-N8 K1.A.wf (j a ∎) a2];show Z3 T.toPKd (w:="either") K1.A K1.D0 K1.W a1 ((j _ ∎).mono a2) ⋯ λS' st' h1 h2 h3 h4 h5 h6=>c9 (c9 (q S' ws st' h1 (a2.trans h2) ⋯ (K1.up h4 h2 h5) rfl (a5.trans h6)))
 case way b t=>
  match ks,f with
  |[a],f=>
   cases f;have i:b.nest<=3:=E;have hz:=X8 i;apply{_,rfl,oy T.k8,?_};apply i6 T.k8 rfl [AA (.tup [.str "way",b.d,t.d]),AA (.ref ca),AA (.ref ka),AA (.ref sh)] rfl ?_;unfold an6;∎;apply{sh,"Shelf",_,rfl,K.A.ins,rfl,oy T.blt,sh,"Shelf",_,3,rfl,K.A.ins,rfl,oy T.lkd,T.dfl,?_};apply W6 T.toPKd ⋯ ⋯ K ⋯ λS1 st1 a1 a2 a3 K1 a5=>?_;rfl';rw[l7 (.inl (a5.at' l y))];apply{.int (nb S a.d:Nat),rfl,?_};rw[<-N8 K1.A.wf (j a ∎) a2];show Z3 T.toPKd (w:="way") K1.A K1.D0 K1.W a1 ((j _ ∎).mono a2) ⋯ λS' st' h1 h2 h3 h4 h5 h6=>c9 (c9 (q S' ws st' h1 (a2.trans h2) ⋯ (K1.up h4 h2 h5) rfl (a5.trans h6)))
 case never b t=>
  match ks,f with
  |[.non],f=>
   cases(f);have i:k.nest<=3:=E;have hz:=X8 i;apply{_,rfl,oy T.k11,?_};apply i6 T.k11 rfl [AA (.tup [.str "never",k.d,t.d]),AA (.ref ca),AA (.ref ka),AA (.ref sh)] rfl ?_;∎;apply{sh,"Shelf",_,rfl,K.A.ins,rfl,oy T.word,?_};rw[l7 (.inl l)];apply{.int (nb S (D.tup [.str "none"]):Nat),rfl,aq8 T.toPSh K.A (d:=.str "none") (r:=[]) (j .non ∎) ?_};rfl';∎;apply{sh,"Shelf",_,3,rfl,K.A.ins,rfl,oy T.lkd,T.dfl,?_};show W6 T.toPKd ⋯ ⋯ K ⋯ λS' st' h1 h2 h3 h4 h5=>c9 (c9 (q S' ws st' h1 h2 ⋯ h4 rfl h5))
end
def aw0{f}(h:sem P G n f ds st Q):(z5 P G (n+1)).mf f ds st Q:=h
section
variable (T0:PM P G) {T:Type} {enc:T->D} {subs:T->List T} {size:T->Nat} {Dq:T->Prop}
include T0
def ck4{L}hsz(r:∀t,Dq t->∀c∈subs t,Dq c){F}hF(s:Cok P M)t(m:size t<=2000)hgt(u:∀a∈L,∃o,st a=AA o){Y:AI->List T->List D->Sto->Prop}hYL
  (l:∀dn f,st dn=AF->Kp [] st f->Y dn [] [] f) hYk
  (p:∀c f Q,Dq c->Kp [] st f->(∀d g,ag8 f g d ((subs c).map enc)->Kp [] f g->Q d g)->L7 P G n F [enc c] f Q)
  hm
  (q:∀dn d f,st dn=AF->Y dn [t] [d] f->Kp L st f->Q d f):=
 bg9 T0 (λa h0 _ K b o nb e=>K b o (by grind) (a b o nb e)) Kp.refl (λK a h=>(u a h).elim λo e=>{o,K a o ∎ e}) hsz r hF s t m hgt hYL (λdn f h j _=>l dn f h j) hYk (λc f Q gc j K k=>p c f Q gc j λd g h K2=>k d g h (j.trans K2) (K2.more ∎)) hm q
end
abbrev ndF(p:Pg)(la:AI)(x h w:Int)(kd:D):List (Str×D):=[(("program":Str),p.d),(("inside":Str),.ref la),(("number":Str),.int x),(("holders":Str),.int h),(("ways":Str),.int w),(("used":Str),.non),(("kind":Str),kd)]
abbrev ndO(p:Pg)(la:AI)(x h w:Int)(kd:D):Ob:=.ins "Node" (ndF p la x h w kd)
abbrev E5(d:D):Prop:=d=.non\/∃j:Int,d=.int j
inductive Nd(st0:Sto)(X:List AI)(st:Sto):Int->Pg->AI->List AI->Prop where
 |mk {h:Int} {p:Pg} {a la:AI} {x w:Int} {kd:D} {as:List AI} {fs:List (List AI)}:st a=AA (ndO p la x h w kd)->E5 kd->st la=AA (.lst (as.map D.ref))->la∉X->st0 la=AF->st0 a=AF->as.length=p.kids.length->fs.length=p.kids.length->(∀(i:Nat)c b f,p.kids[i]?=AA c->as[i]?=AA b->fs[i]?=AA f->Nd st0 X st 1 c b f)->Nd st0 X st h p a (a::fs.flatten)
section
variable {st0:Sto} {a:AI} {f:List AI}
def Nd.stay(n:Nd st0 X st h p a f)(hi:∀b∈f,∀o,st b=AA o->st' b=AA o)(j:KpN X st st'):Nd st0 X st' h p a f:=by
 induction n with
 |@mk h p a e x w kd v u t s r d q m l k _ g=>
  show .mk (hi a ∎ _ t) s (j e _ d (λ_ _ z=>by cases z) r) d q m l k λi c b f e1 e2 e3=>g i c b f e1 e2 e3 λb' hb=>hi b' (Ar _ (CY.mpr {f,BX e3,hb}))
theorem Nd.ins(n:Nd st0 X st h p a f):∀b∈f,∃k,st b=AA (.ins "Node" k):=by
 induction n with
 |@mk h p a m x w kd l j g y v u t s r q o d=>
  intro b c
  rcases AQ.mp c with rfl|c
  ·show⟨_,g⟩
  ·let{f,e,c}:=CY.mp c;let{i,hi,rfl}:=FT.mp e;show d i p.kids[i] l[i] j[i] (AJ ⋯) (AJ ⋯) (AJ hi) b c
def Nd.root(n:Nd st0 X st h p a f):∃b x w kd,st a=AA (ndO p b x h w kd)/\E5 kd/\a∈f/\st0 a=AF:=by
 cases n with
 |mk e d o m l c k j i=>show{_,_,_,_,e,d,∎,c}
def Nd.upd(n:Nd st0 X st h p a f)(m:f.Nodup){x w kd}(j:st a=AA (ndO p la x h w kd))(s:E5 kd'):Nd st0 X (b0 st a (ndO p la x h' w' kd')) h' p a f:=by
 cases n with
 |@mk _ _ _ q C E r H G l F k B A y v u g=>
  rw[j]at l;erw[ndO,ndF,CJ,Ob.ins.injEq,An,JV,D.ref.injEq,D.int.injEq,true_and,and_true]at l;let{rfl,rfl,rfl,rfl}:=l;have d:la≠a:=λz=>by rw[z,j]at k;cases k
  have t:KpN X st (b0 st a (ndO p la x h' w' kd')):=λb o _ ho e=>f7 e (λz=>by rw[z,j]at e;cases e;show ho _ _ rfl);apply .mk f8 s (f7 k d) B A y v u λi c b f e1 e2 e3=>(g i c b f e1 e2 e3).stay (λb' hb o ho=>f7 ho λz=>?_) t;subst z;show(BU.mp m).1 (CY.mpr {f,BX e3,hb})
end
structure PNo(P:f9)(G:Gs):Prop extends PKo P G where
 nin:P (f6 "Node" "__init__")=AA al1
 ncl:G.cls "Node"=[("program":Str),("inside":Str),("number":Str),("holders":Str),("ways":Str),("used":Str),("kind":Str)]
 nod:P "noded"=AA at0
 fol:P "folded"=AA O9
 kon:P "kind_of_node"=AA am1
 shn:P "shelved_names"=AA al0
 shk:P "shelved_kind"=AA an2
 ix:G.cls "!ix"≠[]
section
variable (T:PNo P G) 
include T
def cn8{a:AI}{x:Int}(q:Q .non (b0 st a (ndO p la x 0 0 .non))):sem P G (n+1) (f6 "Node" "__init__") [.ref a,p.d,.ref la,.int x] (b0 st a (.ins "Node" [])) Q:=by
 apply i6 T.nin rfl [AA (.ref a),AA p.d,AA (.ref la),AA (.int x)] rfl ?_;unfold al1;have b:∀f∈([("program":Str),("inside":Str),("number":Str),("holders":Str),("ways":Str),("used":Str),("kind":Str)]:List Str),f∈G.cls "Node":=λf hf=>by rw[T.ncl];show hf
 ∎;apply{a,"Node",_,rfl,f8,b _ ∎,∅,?_};rw[R8];∎;apply{a,"Node",_,rfl,f8,b _ ∎,by simp[j9],?_};rw[R8];∎;apply{a,"Node",_,rfl,f8,b _ ∎,by simp[j9,v5],?_};rw[R8];∎;apply{a,"Node",_,rfl,f8,b _ ∎,by simp[j9,v5],?_};rw[R8];∎;apply{a,"Node",_,rfl,f8,b _ ∎,by simp[j9,v5],?_};rw[R8];∎;apply{a,"Node",_,rfl,f8,b _ ∎,by simp[j9,v5],?_};rw[R8];∎;apply{a,"Node",_,rfl,f8,b _ ∎,by simp[j9,v5],?_};rw[R8];rfl';apply bi2 ?_;have e:j9 "kind" .non (j9 "used" .non (j9 "ways" (.int 0) (j9 "holders" (.int 0) (j9 "number" (.int x) (j9 "inside" (.ref la) (j9 "program" p.d []))))))=ndF p la x 0 0 .non:=by simp[j9,v5,ndF]
 rw[e];show q
end
@[reducible]noncomputable def Tre:=Int×Pg×AI×List AI
structure FO(st0:Sto)(X:List AI)(l:List Tre)(st:Sto):Prop where
 nd:∀e∈l,Nd st0 X st e.1 e.2.1 e.2.2.1 e.2.2.2
 dj:(l.map (·.2.2.2)).flatten.Nodup
section
variable {st0:Sto} {l l1 l2:List Tre}
theorem FO.stay(h:FO st0 X l st)(hi:∀b∈(l.map (·.2.2.2)).flatten,∀o,st b=AA o->st' b=AA o)(a:KpN X st st'):FO st0 X l st':=
 {λe he=>(h.nd e he).stay (λb hb=>hi b (CY.mpr {_,DN.mpr ⟨e,he,rfl⟩,hb})) a,h.dj}
theorem FO.upd{w x:Int}{b g:AI}{f:List AI}(F:FO st0 X (l1++(h,c,b,f)::l2) st)(j:st b=AA (ndO c g x h w kd))(p:E5 kd'):FO st0 X (l1++(h',c,b,f)::l2) (b0 st b (ndO c g x h' w' kd')):=by
 have n:=F.nd (h,c,b,f) ∎;let{_,_,_,_,_,_,d,_}:=n.root;have i:=F.dj;erw[Aj,Au,Ds,Do]at i;have m:=EU.mp i;have l:=EU.mp m.2.1;have k:KpN X st (b0 st b (ndO c g x h' w' kd')):=λb' o _ ho e=>f7 e (λz=>by rw[z,j]at e;cases e;show ho _ _ rfl);apply{λe he=>?_,by simpa using i}
 rcases BO.mp he with a|a
 ·apply(F.nd e (by simp[a])).stay (λb' hb' o ho=>f7 ho (λz=>?_)) k;show m.2.2 b' (CY.mpr {_,DN.mpr ⟨e,a,rfl⟩,hb'}) b (DW _ d) z
 ·rcases AQ.mp a with rfl|a
  ·show n.upd l.1 j p
  ·apply(F.nd e (by simp[a])).stay (λb' hb' o ho=>f7 ho (λz=>?_)) k;show l.2.2 b d b' (CY.mpr {_,DN.mpr ⟨e,a,rfl⟩,hb'}) z.symm
def Nd.monoX{Y:List AI}{a:AI}{f:List AI}(n:Nd st0 X st h p a f)(c:∀y∈Y,y∈X):Nd st0 Y st h p a f:=by
 induction n with
 |mk m l k j i g e d _ b=>show .mk m l k (λz=>j (c _ z)) i g e d b
end
def b48{x w:Int}:j9 "holders" (.int h') (ndF p la x h w kd)=ndF p la x h' w kd:=by simp[j9,v5,ndF]
def bc7{x w:Int}:j9 "ways" (.int w') (ndF p la x h w kd)=ndF p la x h w' kd:=by simp[j9,v5,ndF]
def b69{x w:Int}:j9 "kind" kd' (ndF p la x h w kd)=ndF p la x h w kd':=by simp[j9,v5,ndF]
section
variable (T:PNo P G) 
include T
def cb3{s:AI}(hn:5<=n)(hp:p.parts<=2000)(hna:st s=AA (.lst []))(hX:∀x∈X,∃o,st x=AA o)
  (q:∀a f j,Nd st X j 0 p a f->Kp [s] st j->Q (.ref a) j):sem P G n "noded" [p.d,.ref s] st Q:=by
 obtain⟨n,rfl⟩:∃m,n=m+5:={n-5,⋯};have hc:∀f∈([("program":Str),("inside":Str),("number":Str),("holders":Str),("ways":Str),("used":Str),("kind":Str)]:List Str),f∈G.cls "Node":=λf N=>by rw[T.ncl];show N
 apply i6 T.nod rfl [AA p.d,AA (.ref s),AF,AF,AF] rfl ?_;(iterate 2 ∎);apply{oy T.mop,by rw[T.inner];rfl,?_};apply ck4 T.toPM (n:=n+2) (T:=Pg) (enc:=Pg.d) (subs:=Pg.kids) (size:=Pg.parts) (Dq:=λ_=>True) (L:=[s]) Pg.parts_kids (λ_ _ _ _=>trivial) (F:=.fn "inner") (show(P _).isSome=AD by rw[T.inner];rfl) (show Cok P (.clo _ _ _ _) from trivial) p hp trivial (by simp;show⟨_,hna⟩)
  (Y:=λdn S ds j=>∃(l:List Tre)(B:List D),FO st (dn::s::X) l j/\l.map (·.2.1)=S/\ds=l.map (λe=>D.ref e.2.2.1)/\(∀e∈l,e.1=0)/\dn∉(l.map (·.2.2.2)).flatten/\j s=AA (.lst B)/\B.length=(S.map Pg.parts).sum) ?_ ?_ ?_ ?_ ?_ ?_
 ·rintro dn S ds st1 ⟨l,B,_,_,_,_,_,h,_⟩ a ha;simp at ha;subst ha;show⟨_,h⟩
 ·intro dn j hdn K;show{[],[],{∎,∎},rfl,rfl,∎,∎,K.at' hna ∎,∎}
 ·rintro dn S ds st1 st2 hdn ⟨l,B,F,e1,e2,e3,e4,e5,e6⟩ K;apply{l,B,F.stay (λb t o ho=>K.at' ho (by simp;show λz=>e4 (z▸t))) (λb o t _ ho=>K.at' ho (by simp at t ⊢;show t.1)),e1,e2,e3,e4,K.at' e5 (by simp;show λz=>by rw[z,hdn]at hna;cases hna),e6}
 ·intro c j Q _ K k;apply a91 T.toPIn c λa ha=>k _ _ (.inr ⟨a,rfl,ha,f8⟩) (Kp.refl.new ha)
 ·rintro c dn la j Q S ds xs _ K hdn hlaL hne hl0 hla hlx hlS ⟨l,B,F,e1,e2,e3,e4,e5,e6⟩ hd hsum k;obtain⟨E,M,rfl,m1,m2⟩:∃E M:List Tre,l=E++M/\E.map (·.2.1)=S/\M.map (·.2.1)=c.kids:=by
   apply{l.take S.length,l.drop S.length,(FQ _ _).symm,?_,?_}
   ·rw[Lu,e1,Jh];rfl
   ·rw[Lv,e1,List.drop_left'];rfl
  rw[Aj]at e2;have hl1:E.length=S.length:=by rw[<-m1,AV]
  let{x1,x2}:=List.append_inj e2 (by rw[hlS,AV,hl1]);subst x1 x2;have hpc:=Pg.parts_kids c;rw[Aj,DH]at e6;apply W4 rfl [AA c.d,AA (.ref la),AA (.ref s),AF,AF] rfl ?_;∎;apply{by change(AD&&_)=AD;rw[T.nin];rfl,?_};rw[r9 (.inl e5)];intro r C;apply aw0 (n:=n+1) ?_;apply cn8 T ?_;have H:s≠r:=l5 e5 C;have W:st r=AF:=by
   cases z:st r with
   |none=>rfl
   |some u=>
    by_cases hz:r=s
    ·show absurd hz.symm H
    ·rw[K.at' z (by simpa using hz)]at C;cases C
  have fr:∀b∈((E++M).map (·.2.2.2)).flatten,b≠r:=λb t z=>by
   let{f,N,t}:=CY.mp t;let{e,v,rfl}:=DN.mp N;let{fl,h}:=(F.nd e v).ins b t;rw[z,C]at h;cases h
  have fna:∀b∈((E++M).map (·.2.2.2)).flatten,b≠s:=λb t z=>by
   let{f,N,t}:=CY.mp t;let{e,v,rfl}:=DN.mp N;let{fl,h}:=(F.nd e v).ins b t;rw[z,e5]at h;cases h
  ∎;have e5':b0 j r (ndO c la B.length 0 0 .non) s=AA (.lst B):=l0 e5 C;rw[B5 (.inl e5'),E1 e5'];apply{trivial,C8 ⋯,?_};have N1:KpN [s] j (b0 (b0 j r (ndO c la B.length 0 0 .non)) s (.lst (B++[.ref r]))):=λb o t _ ho=>f7 (l0 ho C) (by simpa using t);have K1:Kp [s] st (b0 (b0 j r (ndO c la B.length 0 0 .non)) s (.lst (B++[.ref r]))):=(K.new C).put ∎;have F1:FO st (dn::s::X) (E++M) (b0 (b0 j r (ndO c la B.length 0 0 .non)) s (.lst (B++[.ref r]))):=F.stay (λb t o ho=>f7 (l0 ho C) (fna b t)) (λb o t _ ho=>f7 (l0 ho C) (by simp at t;show t.2.1));have d1:(b0 (b0 j r (ndO c la B.length 0 0 .non)) s (.lst (B++[.ref r]))) r=AA (ndO c la B.length 0 0 .non):=f7 f8 H.symm;have na1:(b0 (b0 j r (ndO c la B.length 0 0 .non)) s (.lst (B++[.ref r]))) s=AA (.lst (B++[.ref r])):=f8;have la1:=N1 la _ hlaL (λ_ _ z=>by cases z) hla;revert N1 K1 F1 d1 na1 la1;generalize b0 (b0 j r (ndO c la B.length 0 0 .non)) s (.lst (B++[.ref r]))=s1;intro N1 K1 F1 d1 na1 la1;have e3':∀e∈E,e.1=0:=λe v=>e3 e (by simp[v]);have e32:∀e∈M,e.1=0:=λe v=>e3 e (by simp[v]);∎;apply{_,.inl la1,?_};apply J9 (λll env s2=>∃(g A:List Tre)(w:Int)(x4:Option D),ll=A.map (λe=>D.ref e.2.2.1)/\(g++A).map (·.2)=M.map (·.2)/\(∀e∈g,e.1=1)/\(∀e∈A,e.1=0)/\env=[AA c.d,AA (.ref la),AA (.ref s),AA (.ref r),x4]/\FO st (dn::s::X) (E++(g++A)) s2/\s2 r=AA (ndO c la B.length 0 w .non)/\KpN [s] j s2/\Kp [s] st s2/\s2 s=AA (.lst (B++[.ref r]))) ?_ ?_ _ _ _ {[],M,0,AF,rfl,rfl,∎,e32,rfl,F1,d1,N1,K1,na1}
  ·rintro env s2 ⟨g,A,w,x4,el,em,hp1,_,rfl,F2,d2,N2,K2,na2⟩;have es:A=[]:=by simpa using el.symm
   subst es;rw[BL]at em F2;apply{.inl (N2 la _ hlaL (λ_ _ z=>by cases z) hla),?_};have fin:∀(w:Int)(U:Sto),FO st (dn::s::X) (E++g) U->U r=AA (ndO c la B.length 0 w .non)->KpN [s] j U->Kp [s] st U->U s=AA (.lst (B++[.ref r]))->Q (.ref r) U:=by
    intro w U F3 d3 N3 K3 V;have hk:g.map (·.2.1)=c.kids:=by
     have:=congrArg (FU (λz:Pg×AI×List AI=>z.1)) em;rw[Cs,Cs]at this;rw[<-m2];show this
    have N:g.map (·.2.2.2)=M.map (·.2.2.2):=by
     have:=congrArg (FU (λz:Pg×AI×List AI=>z.2.2)) em;rw[Cs,Cs]at this;show this
    have hr:g.map (λe=>D.ref e.2.2.1)=M.map (λe=>D.ref e.2.2.1):=by
     have:=congrArg (FU (λz:Pg×AI×List AI=>D.ref z.2.1)) em;rw[Cs,Cs]at this;show this
    have hla3:U la=AA (.lst ((g.map (·.2.2.1)).map D.ref)):=by
     rw[N3 la _ hlaL (λ_ _ z=>by cases z) hla,Cs,<-hr];rfl
    have hkl:g.length=c.kids.length:=by rw[<-hk,AV]
    have hf2:((E++g).map (·.2.2.2)).flatten=((E++M).map (·.2.2.2)).flatten:=by rw[Aj,Aj,N]
    have hfl:((E++[((0:Int),c,r,r::(g.map (·.2.2.2)).flatten)]).map (·.2.2.2)).flatten=(E.map (·.2.2.2)).flatten++r::(g.map (·.2.2.2)).flatten:=by simp
    apply k (.ref r) U {E++[(0,c,r,r::(g.map (·.2.2.2)).flatten)],B++[.ref r],{λe v=>?_,?_},by rw[Aj,m1];rfl,by rw[Aj];rfl,λe v=>?_,?_,V,by erw[Ad,AW,Ap,Aj,Au,Eu,DH,DV,HI];lia} N3 K3
    ·rcases BO.mp v with v|v
     ·show F3.nd e (by simp[v])
     ·erw[Br]at v;subst v;apply .mk d3 (.inl rfl) hla3 ?_ hl0 W (by rw[AV,hkl]) (by rw[AV,hkl]) λi c' b' f' x1 x2 x3=>?_
      ·erw[AQ,not_or];apply{hne,by simpa using hlaL,λz=>?_};let{o,h}:=hX la z;rw[hl0]at h;cases h
      ·rw[Ah]at x2 x3;rw[<-hk,Ah]at x1;cases hi:g[i]? with
       |none=>rw[hi]at x1;cases x1
       |some e=>
        rw[hi]at x1 x2 x3;cases x1;cases x2;cases x3;have hm:=BX hi;have:=F3.nd e (by simp[hm]);rw[hp1 e hm]at this;show this
    ·rw[hfl];have dj:=F3.dj;rw[Aj,Ds]at dj;let{g1,g2,g3}:=EU.mp dj;have gn:∀x∈((E++g).map (·.2.2.2)).flatten,x≠r:=λx hx=>fr x (by rw[<-hf2];show hx);rw[EU];apply{g1,BU.mpr {λz=>gn r (by rw[Aj,Ds];show BI _ z) rfl,g2},λx hx y hy=>?_}
     rcases AQ.mp hy with rfl|hy
     ·show gn x (by rw[Aj,Ds];show DW _ hx)
     ·show g3 x hx y hy
    ·rcases BO.mp v with v|v
     ·show e3' e v
     ·erw[Br]at v;subst v;rfl
    ·rw[hfl];intro z;have hdnd:dn≠r:=l5 hd C
     rcases BO.mp z with z|z
     ·show e4 (by rw[Aj,Ds];show DW _ z)
     ·rcases AQ.mp z with z|z
      ·show hdnd z
      ·show e4 (by rw[Aj,Ds,<-N];show BI _ z)
   obtain⟨w0,r0,hcd⟩:∃(w0:String)(r0:List D),c.d=.tup (.str w0::r0):=by cases c<;>show⟨_,_,rfl⟩
   rw[hcd];∎
   by_cases hw:w0="way"
   ·erw[hw,if_true];∎;apply{r,"Node",_,.int w,rfl,d2,hc _ ∎,rfl,?_};rfl';apply{r,"Node",_,rfl,d2,hc _ ∎,by simp[ndF],?_};rw[bc7];∎;have hx:∀b∈((E++g).map (·.2.2.2)).flatten,b≠r:=λb t=>fr b (by
     have N:g.map (·.2.2.2)=M.map (·.2.2.2):=by
      have:=congrArg (FU (λz:Pg×AI×List AI=>z.2.2)) em;rw[Cs,Cs]at this;show this
     rw[Aj,<-N,<-Aj];show t)
    apply c9 (fin (w+1) _ (F2.stay (λb t o ho=>f7 ho (hx b t)) λb o _ ho h=>f7 h (λz=>by rw[z,d2]at h;cases h;show ho _ _ rfl)) f8 (λb o t ho h=>f7 (N2 b o t ho h) (λz=>by rw[z,C]at h;cases h)) (λb o t h=>f7 (K2 b o t h) (λz=>by rw[z,W]at h;cases h)) (f7 na2 H))
   ·erw[hw,if_false];∎;show c9 (fin w s2 F2 d2 N2 K2 na2)
  ·rintro d0 dl env s2 ih ⟨g,A,w,x4,el,em,hp1,hs0,rfl,F2,d2,N2,K2,na2⟩;apply{.inl (N2 la _ hlaL (λ_ _ z=>by cases z) hla),?_};cases A with
   |nil=>simp at el
   |cons e A=>
    erw[Au,An]at el;let{rfl,rfl}:=el;let{h0,J,b,f}:=e;have hh:h0=0:=hs0 (h0,J,b,f) ∎;subst hh;have ne:=F2.nd (0,J,b,f) ∎;let{lb,xb,R,Z,t,hkb,hbf,_}:=ne.root;have hbn:b≠r:=fr b (by
     have N:(g++(0,J,b,f)::A).map (·.2.2.2)=M.map (·.2.2.2):=by
      have:=congrArg (FU (λz:Pg×AI×List AI=>z.2.2)) em;rw[Cs,Cs]at this;show this
     rw[Aj,<-N,<-Aj];show CY.mpr {f,DN.mpr {(0,J,b,f),∎,rfl},hbf})
    have hbna:b≠s:=λz=>by rw[z,na2]at t;cases t
    have hb0:st b=AF:=by
     let{_,_,_,_,_,_,_,h}:=ne.root;show h
    have hbst:∀o,(∀c fs,o≠.ins c fs)->j b≠AA o:=λo ho h=>by
     have:=N2 b o (by simpa using hbna) ho h;rw[t]at this;cases this;show ho _ _ rfl
    rfl';∎;apply{b,"Node",_,.int 0,rfl,t,hc _ ∎,rfl,?_};rfl';apply{b,"Node",_,rfl,t,hc _ ∎,by simp[ndF],?_};rw[b48];have F3:FO st (dn::s::X) ((E++g)++(1,J,b,f)::A) (b0 s2 b (ndO J lb xb 1 R Z)):=FO.upd (h:=0) (w:=R) (kd:=Z) (by rw[Cq];show F2) t hkb;have d3:(b0 s2 b (ndO J lb xb 1 R Z)) r=AA (ndO c la B.length 0 w .non):=f7 d2 hbn.symm;have b3:(b0 s2 b (ndO J lb xb 1 R Z)) b=AA (ndO J lb xb 1 R Z):=f8;have N3:KpN [s] j (b0 s2 b (ndO J lb xb 1 R Z)):=λb' o hb' ho h=>f7 (N2 b' o hb' ho h) (λz=>hbst o ho (z▸h));have K3:Kp [s] st (b0 s2 b (ndO J lb xb 1 R Z)):=λb' o hb' h=>f7 (K2 b' o hb' h) (λz=>by rw[z,hb0]at h;cases h);have V:=f7 (u:=ndO J lb xb 1 R Z) na2 hbna.symm;have e01:((0:Int)+1)=1:=by decide
    rw[e01];change j7 _ _ _ _ (b0 s2 b (ndO J lb xb 1 R Z));revert F3 d3 b3 N3 K3 V;generalize b0 s2 b (ndO J lb xb 1 R Z)=U;intro F3 d3 b3 N3 K3 V;∎;apply{r,"Node",_,.int w,rfl,d3,hc _ ∎,rfl,?_};rfl';apply{b,"Node",_,.int R,rfl,b3,hc _ ∎,rfl,?_};rfl';apply{r,"Node",_,rfl,d3,hc _ ∎,by simp[ndF],?_};rw[bc7];rfl';apply ih _ _ {g++[(1,J,b,f)],A,_,_,rfl,by rw[<-em];simp,λe v=>?_,λe v=>hs0 e (by simp[v]),rfl,?_,f8,λb' o hb' ho h=>f7 (N3 b' o hb' ho h) (λz=>by rw[z,C]at h;cases h),λb' o hb' h=>f7 (K3 b' o hb' h) (λz=>by rw[z,W]at h;cases h),f7 V H}
    ·rcases BO.mp v with v|v
     ·show hp1 e v
     ·erw[Br]at v;subst v;rfl
    ·have F4:FO st (dn::s::X) (E++((g++[(1,J,b,f)])++A)) U:=by simpa using F3
     apply F4.stay (λb' hb' o ho=>f7 ho (fr b' ?_)) λb' o _ ho h=>f7 h (λz=>by rw[z,d3]at h;cases h;show ho _ _ rfl);have N:((g++[((1:Int),J,b,f)])++A).map (·.2.2.2)=M.map (·.2.2.2):=by
      have:=congrArg (FU (λz:Pg×AI×List AI=>z.2.2)) em;rw[Cs,Cs]at this;apply Ki ?_ this;simp[Function.comp_def]
     rw[Aj,<-N,<-Aj];show hb'
 ·rintro dn d j hdn ⟨l,B,F,e1,e2,e3,e4,e5,e6⟩ K
  match l,e1 with
  |[e],e1=>
   have e1:e.2.1=p:=by simpa using e1
   have n:=F.nd e ∎;rw[e3 e ∎,e1]at n;have:d=.ref e.2.2.1:=by simpa using e2
   subst this;show c9 (q _ _ j (n.monoX (by intro y hy;simp[hy])) K)
end
abbrev Pg.ng:Pg->Bool
 |.name _=>AD
 |.give _ _=>AD
 |_=>AE
inductive Rz(Γ:List Kd):Pg->Prop
 |name {n:Nat}:Rz Γ (.name n)
 |give {t u:Pg} {a b:Kd}:t.kind Γ=AA a->u.kind Γ=AA b->Rz Γ (.give t u)
 |first {t:Pg}:t.kind Γ=AF->Rz Γ t->Rz Γ (.first t)
 |pair {t u:Pg} {a:Kd}:t.kind Γ=AA a->u.kind Γ=AF->Rz Γ u->Rz Γ (.pair t u)
abbrev Kd.wd:Kd->String
 |.non=>"none"|.one=>"one"|.eith _ _=>"either"|.both _ _=>"both"|.way _ _=>"way"
def Kd.d_wd(k:Kd):∃r,k.d=.tup (.str k.wd::r):=by cases k<;>show⟨_,rfl⟩
def bl1(h:a.d=b.d):a=b:=by
 have:=at2 a b;rw[h,at2]at this;simpa using this.symm
section
variable (T:PKo P G) (hx:G.cls "!ix"≠[]) {S:List It3} 
include T hx
def b18{w:String}{k:Kd}(e:w≠k.wd)(K:KA sh dn sa pa wa S ws st)(h:Has S k.d):J5 P G (n+2) "halves_of" [.str w,.int (nb S k.d:Nat),.ref sh] st Q:=by
 apply aa4 T.hvs rfl [AA (.str w),AA (.int (nb S k.d:Nat)),AA (.ref sh)] rfl ?_;unfold ae2;let{r,a}:=k.d_wd;rw[a]at h ⊢;∎;apply{sh,"Shelf",_,rfl,K.A.ins,rfl,oy T.word,.inr (aq8 T.toPSh K.A h ?_)};rw[bp0 (decide_eq_false (Ax e))];show⟨_,rfl,rfl,hx⟩
def cv4{kn:List Int}(hn:8<=n)(K:KA sh dn sa pa wa S ws st)(hl:ks.length=p.kids.length)(ho:p.ng=AD)(hk:p.kk Γ ks=AF)(hc:st ca=AA (.lst (w8 S ks)))(hh:∀k∈ks,Has S k.d)(hka:st ka=AA (.lst (kn.map D.int)))(hkl:kn.length=Γ.length):J5 P G n "kind_by_parts" [p.d,.ref ca,.ref ka,.ref sh] st Q:=by
 obtain⟨n,rfl⟩:∃m,n=m+5:={n-5,⋯};have tb:(Zr P G (n+4)).G "BY_WORD"≠[]:=by change G.tab "BY_WORD"≠[];rw[T.tbw];show λz=>by cases z
 apply aa4 T.kbp rfl [AA p.d,AA (.ref ca),AA (.ref ka),AA (.ref sh)] rfl ?_;have no2:∀{w:String}{k:Kd},w≠k.wd->Has S k.d->∀{Q:DK},orF (J5 P G (n+3)) (sem P G (n+3)) "halves_of" [.str w,.int (nb S k.d:Nat),.ref sh] st Q:=λe h=>.inl (b18 T hx e K h);cases p<;>first|show(AH ho).elim|erw[Pg.d]
 all_goals
  ∎;apply{tb,?_};erw[T.tbw];apply{_,rfl,?_}
 case name m=>
  match ks,hl with
  |[],_=>
   have hm:=List.getElem?_eq_none_iff.mp hk;apply{_,rfl,oy T.k0,.inl ?_};apply aa4 T.k0 rfl [AA (.tup [.str "name",.int m]),AA (.ref ca),AA (.ref ka),AA (.ref sh),AF] rfl ?_;(iterate 2 ∎);rw[r9 (.inl hka)];rfl';rw[if_neg ⋯,if_pos (by erw[AV];lia)];show⟨rfl,hx⟩
 case give t u=>
  match ks,hl with
  |[x,c],_=>
   apply{_,rfl,oy T.k9,.inl ?_};apply aa4 T.k9 rfl [AA (.tup [.str "give",t.d,u.d]),AA (.ref ca),AA (.ref ka),AA (.ref sh),AF] rfl ?_;∎;apply{oy T.hvs,?_};rw[l7 (.inl hc)];apply{_,rfl,?_};cases x<;>first|(show no2 (by erw[Kd.wd];decide) (hh _ ∎))|skip
   rename_i a b _;apply .inr (Z9 T (w:="way") (k:=.way a b) rfl K (hh _ ∎) λh1 h2=>?_);have hk:(if a=c then AA b else AF)=AF:=hk;have hcd:a≠c:=λz=>by rw[if_pos z]at hk;cases hk
   ∎;rw[l7 (.inl hc)];apply{_,rfl,?_};rfl';rw[if_pos (show ¬(nb S a.d:Int)=(nb S c.d:Int) from λz=>hcd (bl1 (bn9 h1 (hh c ∎) (Int.ofNat.inj z))))];show⟨rfl,hx⟩
end
structure KpI(R L:List AI)(st st':Sto):Prop where
 n:KpN L st st'
 i:∀b c la x h w kd,st b=AA (ndO c la x h w kd)->E5 kd->∃kd',E5 kd'/\st' b=AA (ndO c la x h w kd')
 e:∀b,st' b=AF->st b=AF
 k:∀b o,b∉L->b∉R->st b=AA o->st' b=AA o
section
variable {M:List AI} {s1 s2 s3:Sto} {p:AI} {o:Ob} {es:List D}
def M6{q}(h:b0 st p o q=AF):st q=AF:=by
 by_cases z:q=p
 ·rw[z,f8]at h;cases h
 ·cases e:st q with
  |none=>rfl
  |some u=>rw[f7 e z]at h;cases h
def KpI.refl:KpI R L st st:={λ_ _ _ _ h=>h,λ_ _ _ _ _ _ kd h k=>⟨kd,k,h⟩,λ_ h=>h,λ_ _ _ _ h=>h}
def KpI.trans(a:KpI R L s1 s2)(b:KpI R L s2 s3):KpI R L s1 s3:=⟨λx o n ho h=>b.n x o n ho (a.n x o n ho h),λx c la y h w kd e k=>by
 let{d,k1,f}:=a.i x c la y h w kd e k;show b.i x c la y h w d f k1,λx h=>a.e x (b.e x h),λx o n m h=>b.k x o n m (a.k x o n m h)⟩
def KpI.more(a:KpI R L s1 s2)(s:∀d∈L,d∈M):KpI R M s1 s2:={λx o n ho=>a.n x o (λz=>n (s x z)) ho,a.i,a.e,λx o n m=>a.k x o (λz=>n (s x z)) m}
def KpI.new(a:KpI R L st st')(h:st' p=AF):KpI R L st (b0 st' p o):=a.trans {λx o n ho e=>l0 e h,λx c la y h' w kd e k=>{kd,k,l0 e h},λ_=>M6,λ_ _ _ _ e=>l0 e h}
def KpI.put(a:KpI R L st st')(h:p∈L)(b:st' p=AA (.lst ds)):KpI R L st (b0 st' p o):=a.trans {λx o n ho e=>f7 e λz=>n (z▸h),λx c la y h' w kd e k=>{kd,k,f7 e λz=>by rw[z,b]at e;cases e},λ_=>M6,λx o n _ e=>f7 e λz=>n (z▸h)}
def KpI.drop(a:KpI R (p::L) st st')(h:st p=AF):KpI R L st st':={λx o n ho e=>a.n x o (λz=>by rcases AQ.mp z with z|z;show l5 e h z;show n z) ho e,a.i,a.e,λx o n m e=>a.k x o (λz=>by rcases AQ.mp z with z|z;show l5 e h z;show n z) m e}
theorem KpI.lst(a:KpI R L st st')(h:st p=AA (.lst ds))(n:p∉L):st' p=AA (.lst ds):=a.n p _ n (λ_ _ z=>by cases z) h
def KA.noNode{b}{S}(K:KA sh dn sa pa wa S ws st){fl}(h:st b=AA (.ins "Node" fl)):b∉shL sh dn sa pa wa:=by
 intro z;erw[AQ,AX,or_false]at z
 rcases z with rfl|rfl|rfl|rfl|rfl
 ·have:=K.A.ins;rw[h]at this;simp[v5]at this
 ·have:=K.A.num;rw[h]at this;simp at this
 ·have:=K.A.sto;rw[h]at this;simp at this
 ·have:=K.A.par;rw[h]at this;simp at this
 ·have:=K.W;rw[h]at this;simp at this
def KpI.ofKp{S}(K:KA sh dn sa pa wa S ws st)(a:KA sh dn sa pa wa S' ws' st')(x:Kp (shL sh dn sa pa wa) st st'):KpI R (shL sh dn sa pa wa) st st':={λb o n _=>x b o n,λb c la y h w kd e k=>{kd,k,x b _ (K.noNode e) e},λb hb=>(by
 by_cases z:b∈shL sh dn sa pa wa
 ·erw[AQ,AX,or_false]at z
  rcases z with rfl|rfl|rfl|rfl|rfl
  ·have:=a.A.ins;rw[hb]at this;cases this
  ·have:=a.A.num;rw[hb]at this;cases this
  ·have:=a.A.sto;rw[hb]at this;cases this
  ·have:=a.A.par;rw[hb]at this;cases this
  ·have:=a.W;rw[hb]at this;cases this
 ·cases e:st b with
  |none=>rfl
  |some u=>rw[x b u z e]at hb;cases hb),λb o n _=>x b o n}
def Nd.kpi{b:Sto}{p:Pg}{a:AI}{f:List AI}(n:Nd b X st h p a f)(K:KpI R L st st')(k:∀y∈L,y∈X):Nd b X st' h p a f:=by
 induction n with
 |@mk h p a d x w kd A v t s r c q o m l _ j=>
  let{e,g,u}:=K.i a p d x h w kd t s;show .mk u g (K.lst r λz=>c (k _ z)) c q o m l j
def Nd.addX{b:Sto}{p:Pg}{a:AI}{f:List AI}{x:AI}(n:Nd b X st h p a f)(e:st x=AF):Nd b (x::X) st h p a f:=by
 induction n with
 |mk o m c l k j i g _ d=>show .mk o m c (λz=>by rcases AQ.mp z with z|z;show l5 c e z;show l z) k j i g d
end
abbrev au6(bX:Bool)(P:f9)(G:Gs)(n:Nat):D->Spec
 |.fn f=>pF bX P G n f
 |.clo np N b cs=>pC bX P G n np N b cs
 |_=>λ_ _ _=>False
def a99{ta}{x}(h:Cok P x)(q:ta st λds st1=>au6 bX P G n x ds st1 Q):U1 (Zl bX P G n) ta st Q x:=by
 cases x<;>first|show h.elim|show⟨h,q⟩|show q
abbrev aw9(bX:Bool)(P:f9)(G:Gs)(n:Nat)(sh dn sa pa wa:AI)(nm:D):Prop:=∀(st:Sto)(S:List It3)(ws:List (Kd×Bool))(ca:AI)(p:Pg)(i:Nat)(ks:List Kd)(Q:DK),KA sh dn sa pa wa S ws st->p.told 3->p.more i=1->ks.length=i->(p.nw ks i≠AF)->st ca=AA (.lst (w8 S ks))->(∀k∈ks,Has S k.d)->S.length+128<=900000->(∀a,p.nw ks i=AA a->StQ sh dn sa pa wa S ws st a Q)->au6 bX P G n nm [p.d,.ref ca,.int i] st Q
abbrev ay2(bX:Bool)(P:f9)(G:Gs)(n:Nat)(sh dn sa pa wa:AI)(md:D):Prop:=∀(st:Sto)(S:List It3)(ws:List (Kd×Bool))(ca ka b la:AI)(p:Pg)(Γ:List Kd)(ks:List Kd)(kn:List Int)(x h w:Int)(kd:D)(Q:DK),KA sh dn sa pa wa S ws st->p.told 3->ks.length=p.kids.length->(p.kk Γ ks=AF->bX=AD/\p.ng=AD)->st ca=AA (.lst (w8 S ks))->(∀k∈ks,Has S k.d)->st ka=AA (.lst (kn.map D.int))->KnOk S ws Γ kn->ca∉shL sh dn sa pa wa->S.length+128<=900000->st b=AA (ndO p la x h w kd)->E5 kd->(∀k,p.kk Γ ks=AA k->∀S' ws' st' kd',Has S' k.d->S <+: S'->S'.length<=S.length+128->KA sh dn sa pa wa S' ws' st'->WUp ws ws'->Kp (b::shL sh dn sa pa wa) st st'->st' b=AA (ndO p la x h w kd')->E5 kd'->Q (.int (nb S' k.d:Nat)) st')->au6 bX P G n md [.ref b,.ref ca,.ref ka] st Q
structure FS(sh dn sa pa wa ka ba aa da:AI)(S:List It3)(ws:List (Kd×Bool))(kn:List Int)(B A:List D)(st:Sto):Prop where
 K:KA sh dn sa pa wa S ws st
 k:st ka=AA (.lst (kn.map D.int))
 b:st ba=AA (.lst B)
 a:st aa=AA (.lst A)
 d:st da=AA (.dtt [])
@[reducible]noncomputable def fL(sh dn sa pa wa ka ba aa:AI):List AI:=ka::ba::aa::shL sh dn sa pa wa
abbrev G6:Ss:=match O9.body with
 |.cons _ (.cons _ (.cons _ (.cons (.while _ b) _)))=>b
 |_=>.nil
def N5{α}{xs}{x:α}:atI (xs++[x]) (-1)=AA x:=by
 unfold atI ixN;rw[if_neg ∅,if_pos (by simp;lia)];have:(-1+((xs.length:Int)+1)).toNat=xs.length:=by lia
 simp[this]
def aq7(p:Pg)(i:Nat):p.more i=0\/p.more i=1:=by
 cases p<;>first|show .inl rfl|(erw[Pg.more];split<;>simp)
section
variable (T:PNo P G) {S:List It3} 
include T
def b01(hnm:Cok P nm)(N:aw9 bX P G (n+1) sh dn sa pa wa nm)(dj:(ka::ba::aa::da::shL sh dn sa pa wa).Nodup){F:DEnds}{kn:List Int}{B:List D}{a:AI}{x w:Int}{as:List AI}{x7 x8 x9 x10:Option D}{b:AI}
  (H:FS sh dn sa pa wa ka ba aa da S ws kn (B++[.ref a]) (A++[.ref ca]) st) (hc:st ca=AA (.lst (w8 S ks))) (hh:∀k∈ks,Has S k.d) (ha:st a=AA (ndO p la x h w kd)) (hkd:E5 kd) (h1:h<=1) (hl:st la=AA (.lst (as.map D.ref))) (hi:p.kids[ks.length]?=AA c) (hb:as[ks.length]?=AA b) (ht:p.told 3) (hC:p.more ks.length=1->p.nw ks ks.length≠AF) (hkn:KnOk S ws Γ kn) (hS:S.length+128<=900000) (hB:B.length+1<100000) (hA:A.length+1<100000) (hK:kn.length<100000) (hcl:ca∉ka::ba::aa::da::shL sh dn sa pa wa) (hll:la∉ka::ba::aa::da::shL sh dn sa pa wa)
  (q:∀Δ S' ws' st' kn' cb y7 y8 y9 y10,Cxt p ks ks.length Γ Δ->FS sh dn sa pa wa ka ba aa da S' ws' kn' (B++[.ref a]++[.ref b]) (A++[.ref ca]++[.ref cb]) st'->st' cb=AA (.lst [])->st cb=AF->S <+: S'->S'.length<=S.length+128->WUp ws ws'->KnOk S' ws' Δ kn'->kn'.take kn.length=kn->kn'.length=kn.length+p.more ks.length->KpI R (fL sh dn sa pa wa ka ba aa) st st'->F.ct [AA nd,AA (.ref ka),AA nm,AA md,AA (.ref ba),AA (.ref aa),AA (.ref da),y7,y8,y9,y10] st') :
  j7 (Zl bX P G (n+1)) G6 F [AA nd,AA (.ref ka),AA nm,AA md,AA (.ref ba),AA (.ref aa),AA (.ref da),x7,x8,x9,x10] st:=by
 have hcl':∀f∈([("program":Str),("inside":Str),("number":Str),("holders":Str),("ways":Str),("used":Str),("kind":Str)]:List Str),f∈G.cls "Node":=λf hf=>by rw[T.ncl];show hf
 unfold G6 O9;simp only;∎;rw[l7 (.inl H.b)];apply{_,N5,?_};∎;rw[l7 (.inl H.a)];apply{_,N5,?_};rw[r9 (.inl hc)];∎;apply{a,"Node",_,.int h,rfl,ha,hcl' _ ∎,rfl,?_};rfl';rw[if_neg ⋯];∎;apply{H.d,?_};rfl';apply{a,"Node",_,.ref la,rfl,ha,hcl' _ ∎,rfl,?_};rw[r9 (.inl hl)];rfl';have hlen:(w8 S ks).length=ks.length:=by simp[w8]
 have hlt:=(AY.mp hb).1;rw[if_pos (by rw[hlen,AV];lia),hlen];erw[BU,AQ,AX,or_false,not_or]at dj;let{{d1,d2,d3,d4},{d5,d6,d7},{d8,d9},d10,_}:=dj;erw[AQ,AX,or_false,not_or]at hcl hll;have j8:∀(F':DEnds)Δ S' ws' st' kn',Cxt p ks ks.length Γ Δ->F'.ct=F.ct->FS sh dn sa pa wa ka ba aa da S' ws' kn' (B++[.ref a]) (A++[.ref ca]) st'->S <+: S'->S'.length<=S.length+128->WUp ws ws'->KnOk S' ws' Δ kn'->kn'.take kn.length=kn->kn'.length=kn.length+p.more ks.length->KpI R (fL sh dn sa pa wa ka ba aa) st st' ->
   j7 (Zl bX P G (n+1)) (.cons (.ex (.app (.v 4) (.ix (.fld (.v 7) "inside") (.v 8)))) (.cons (.ex (.app (.v 5) (.lst .nil))) (.cons .cont .nil))) F' [AA nd,AA (.ref ka),AA nm,AA md,AA (.ref ba),AA (.ref aa),AA (.ref da),AA (.ref a),AA (.int ks.length),AA .non,x10] st':=by
  intro F' Δ S' ws' st' kn' hC eF H' e1 e2 e3 e4 e5 e6 e7;let{kd',_,ha'}:=e7.i a p la x h w kd ha hkd;have hl':=e7.lst hl (by simp[hll]);∎;rw[B5 (.inl H'.b)];apply{trivial,a,"Node",_,.ref la,rfl,ha',hcl' _ ∎,rfl,?_};rw[l7 (.inl hl')];apply{.ref b,by rw[z8,Ah,hb];rfl,?_};rw[E1 H'.b];apply{C8 (by simp;lia),?_};∎;rw[B5 (.inl (f7 H'.a (Ax d5)))];apply{trivial,λcb hcb=>?_};have ncb:=M6 hcb;have cbb:ba≠cb:=l5 H'.b ncb;have cba:aa≠cb:=l5 H'.a ncb;rw[E1 (l0 (f7 H'.a (Ax d5)) hcb)];apply{C8 (by simp;lia),?_};∎;rw[eF];have K1:Kp [ba,aa] st' (b0 (b0 (b0 st' ba (.lst (B++[.ref a]++[.ref b]))) cb (.lst [])) aa (.lst (A++[.ref ca]++[.ref cb]))):=((Kp.refl.put ∎).new hcb).put ∎;apply q Δ S' ws' _ kn' cb _ _ _ _ hC {H'.K.keepL K1 ?_,K1.at' H'.k (by simp[d1,d2]),f7 (f7 f8 cbb) d5,f8,K1.at' H'.d (by simp[Ax d6,Ax d8])} (f7 f8 (Ax cba)) (e7.e _ ncb) e1 e2 e3 e4 e5 e6 (((e7.put ∎ H'.b).new hcb).put ∎ (l0 (f7 H'.a (Ax d5)) hcb));intro y hy;erw[AQ,AX,or_false]at hy ⊢
  rcases hy with rfl|rfl
  ·simp[d7]
  ·simp[d9]
 ∎;apply{oy T.more,a,"Node",_,p.d,rfl,ha,hcl' _ ∎,rfl,ad0 (as2 T.toPIn p ks.length ?_)};rfl'
 rcases aq7 p ks.length with m0|m1
 ·erw[m0];rw[if_neg ∅];show j8 _ Γ S ws st kn (.inl ⟨m0,rfl⟩) rfl H (DI _) ⋯ rfl hkn (Ew ..) ⋯ KpI.refl
 ·erw[m1];∎;rw[B5 (.inl H.k)];apply{trivial,a99 hnm ?_};rfl';apply{a,"Node",_,p.d,rfl,ha,hcl' _ ∎,rfl,?_};rw[l7 (.inl H.a)];apply{_,N5,?_};apply N st S ws ca p ks.length ks _ H.K ht m1 rfl (hC m1) hc hh hS λa0 hw S' ws' st' g1 g2 g3 g4 g5 g6=>?_;have hk':=g6.at' H.k (by simp[d4]);rw[E1 hk'];apply{C8 (by simp;lia),?_};have ek:kn.map D.int++[D.int (nb S' a0.d:Nat)]=(kn++[((nb S' a0.d:Nat):Int)]).map D.int:=by simp
  rw[ek];have K1:Kp [ka] st' (b0 st' ka (.lst ((kn++[((nb S' a0.d:Nat):Int)]).map D.int))):=Kp.refl.put ∎;apply j8 _ (a0::Γ) S' ws' _ (kn++[((nb S' a0.d:Nat):Int)]) (.inr ⟨m1,a0,hw,rfl⟩) rfl {g4.keepL K1 (by simp[d4]),f8,f7 (g6.at' H.b (by simp[d7])) (Ax d1),f7 (g6.at' H.a (by simp[d9])) (Ax d2),f7 (g6.at' H.d (by simp[d10])) (Ax d3)} g2 g3 g5 ((hkn.up g4.A.wf g2 g5).cons (.inl ⟨rfl,g1⟩)) ∎ (by simp[m1]) (((KpI.ofKp H.K g4 g6).more (by intro y hy;erw[AQ,AX,or_false]at hy ⊢;simp[hy])).put ∎ hk')
end
def KpI.ofMd{b:AI}{S:List It3}{x w:Int}(K:KA sh dn sa pa wa S ws st)(d:KA sh dn sa pa wa S' ws' st')(y:Kp (b::shL sh dn sa pa wa) st st')(g:st b=AA (ndO c la x h w kd))(a:st' b=AA (ndO c la x h w kd'))(i:E5 kd')(f:b∈R):KpI R (shL sh dn sa pa wa) st st':=by
 apply{λz o n ho e=>y z o (λq=>?_) e,λz c2 la2 x2 h2 w2 kd2 e k=>?_,λz hz=>?_,λz o n m e=>y z o (λq=>by rcases AQ.mp q with rfl|q;show m f;show n q) e}
 ·rcases AQ.mp q with rfl|q
  ·rw[g]at e;cases e;show ho _ _ rfl
  ·show n q
 ·by_cases q:z=b
  ·subst q;rw[g]at e;apply{kd',i,?_};rw[a];erw[ndO,ndF,CJ,Ob.ins.injEq,An,JV,true_and,and_true]at e ⊢;show⟨e.1,e.2.1,e.2.2.1,e.2.2.2.1,e.2.2.2.2.1⟩
  ·apply{kd2,k,y z _ (λt=>?_) e}
   rcases AQ.mp t with t|t
   ·show q t
   ·show K.noNode e t
 ·by_cases q:z∈shL sh dn sa pa wa
  ·exfalso;erw[AQ,AX,or_false]at q
   rcases q with rfl|rfl|rfl|rfl|rfl
   ·have:=d.A.ins;rw[hz]at this;cases this
   ·have:=d.A.num;rw[hz]at this;cases this
   ·have:=d.A.sto;rw[hz]at this;cases this
   ·have:=d.A.par;rw[hz]at this;cases this
   ·have:=d.W;rw[hz]at this;cases this
  ·cases e:st z with
   |none=>rfl
   |some u=>
    by_cases t:z=b
    ·subst t;rw[a]at hz;cases hz
    ·rw[y z u (by erw[AQ,not_or];show{t,by simpa using q}) e]at hz;cases hz
abbrev Ss.tl:Ss->Ss
 |.cons _ r=>r
 |.nil=>.nil
abbrev ab6:Ss:=G6.tl.tl.tl.tl.tl.tl.tl.tl
section
variable (T:PNo P G) {S:List It3} 
include T
def bb7(hmd:Cok P md)(M:ay2 bX P G (n+1) sh dn sa pa wa md)(dj:(ka::ba::aa::da::shL sh dn sa pa wa).Nodup){F:DEnds}{kn:List Int}{B:List D}{b cb:AI}{x w:Int}{as:List AI}{x7 x8 x9 x10:Option D}
  (H:FS sh dn sa pa wa ka ba aa da S ws kn (B++[.ref b]) (A++[.ref cb]) st) (hc:st cb=AA (.lst (w8 S ks))) (hh:∀k∈ks,Has S k.d) (hb:st b=AA (ndO c la x h w kd)) (hkd:E5 kd) (h1:h<=1) (hl:st la=AA (.lst (as.map D.ref))) (hn:as.length=ks.length) (ht:c.told 3) (hkl:ks.length=c.kids.length) (hk:c.kk Δ ks=AF->bX=AD/\c.ng=AD) (hkn:KnOk S ws Δ kn) (hS:S.length+128<=900000) (hcl:cb∉shL sh dn sa pa wa) (hbR:b∈R)
  (q:∀k,c.kk Δ ks=AA k->∀S' ws' st' y7 y8,FS sh dn sa pa wa ka ba aa da S' ws' kn B A st'->Has S' k.d->S <+: S'->S'.length<=S.length+128->WUp ws ws'->KpI R (fL sh dn sa pa wa ka ba aa) st st'->j7 (Zl bX P G (n+1)) ab6 F [AA nd,AA (.ref ka),AA nm,AA md,AA (.ref ba),AA (.ref aa),AA (.ref da),y7,y8,AA .non,AA (.int (nb S' k.d:Nat))] st') :
  j7 (Zl bX P G (n+1)) G6 F [AA nd,AA (.ref ka),AA nm,AA md,AA (.ref ba),AA (.ref aa),AA (.ref da),x7,x8,x9,x10] st:=by
 have hcl':∀f∈([("program":Str),("inside":Str),("number":Str),("holders":Str),("ways":Str),("used":Str),("kind":Str)]:List Str),f∈G.cls "Node":=λf hf=>by rw[T.ncl];show hf
 unfold G6 O9;simp only;∎;rw[l7 (.inl H.b)];apply{_,N5,?_};∎;rw[l7 (.inl H.a)];apply{_,N5,?_};rw[r9 (.inl hc)];∎;apply{b,"Node",_,.int h,rfl,hb,hcl' _ ∎,rfl,?_};rfl';rw[if_neg ⋯];∎;apply{H.d,?_};rfl';apply{b,"Node",_,.ref la,rfl,hb,hcl' _ ∎,rfl,?_};rw[r9 (.inl hl)];rfl';have hlen:(w8 S ks).length=ks.length:=by simp[w8]
 rw[if_neg (by rw[hlen,AV];lia),hlen];erw[BU,AQ,AX,or_false,not_or]at dj;let{{d1,d2,d3,d4},{d5,d6,d7},{d8,d9},d10,_}:=dj;∎;apply{H.d,?_};rfl';apply a99 hmd ?_;rfl';rw[l7 (.inl H.a)];apply{_,N5,?_};apply M st S ws cb ka b la c Δ ks kn x h w kd _ H.K ht hkl hk hc hh H.k hkn hcl hS hb hkd λk hk0 S' ws' st' kd' g1 g2 g3 g4 g5 g6 g7 g8=>?_;have nb0:∀{y:AI}{ds:List D},st y=AA (.lst ds)->y≠b:=λe z=>by rw[z,hb]at e;cases e
 have hb1:=g6.at' H.b (by erw[AQ,AX,or_false,not_or];show{nb0 H.b,d7});have ha1:=g6.at' H.a (by erw[AQ,AX,or_false,not_or];show{nb0 H.a,d9});have hk1:=g6.at' H.k (by erw[AQ,AX,or_false,not_or];show{nb0 H.k,d4});have hd1:=g6.at' H.d (by erw[AQ,AX,or_false,not_or];show{λz=>(by have:=H.d;rw[z,hb]at this;cases this),d10});∎;apply .inl ?_;∎;rw[X4 hb1];∎;rw[X4 (f7 ha1 (Ax d5))];have K1:Kp [ba,aa] st' (b0 (b0 st' ba (.lst B)) aa (.lst A)):=(Kp.refl.put ∎).put ∎;apply q k hk0 S' ws' _ _ _ {g4.keepL K1 ?_,K1.at' hk1 (by simp[d1,d2]),f7 f8 d5,f8,K1.at' hd1 (by simp[Ax d6,Ax d8])} g1 g2 g3 g5 ((((KpI.ofMd H.K g4 g6 hb g7 g8 hbR).more (by intro y hy;erw[AQ,AX,or_false]at hy ⊢;simp[hy])).put ∎ hb1).put ∎ (f7 ha1 (Ax d5)));intro y hy;erw[AQ,AX,or_false]at hy ⊢
 rcases hy with rfl|rfl
 ·simp[d7]
 ·simp[d9]
theorem cb6{F}{kn}{y7 y8 y9}{r}(H:FS sh dn sa pa wa ka ba aa da S ws kn [] A st)(q:F.rt r st):j7 (Zl bX P G (n+1)) ab6 F [AA nd,AA (.ref ka),AA nm,AA md,AA (.ref ba),AA (.ref aa),AA (.ref da),y7,y8,y9,AA r] st:=by
 ∎;rw[r9 (.inl H.b)];rfl';∎;show q
def co3(z:(ka::ba::aa::da::shL sh dn sa pa wa).Nodup){F:DEnds}{j kn0:List Int}{B:List D}{a:AI}{x w:Int}{y7 y8 y9:Option D}{r:D}{i:List D}(H:FS sh dn sa pa wa ka ba aa da S ws j (B++[.ref a]) (A++[.ref ca]) st)(u:st ca=AA (.lst i))(Y:i.length<100000)(E:st a=AA (ndO p la x h w kd))(s:ca∉ka::ba::aa::da::shL sh dn sa pa wa)(k1:j.take kn0.length=kn0)(k2:j.length=kn0.length+p.more i.length)
  (q:∀c,FS sh dn sa pa wa ka ba aa da S ws kn0 (B++[.ref a]) (A++[.ref ca]) c->c ca=AA (.lst (i++[r]))->KpI R (ca::fL sh dn sa pa wa ka ba aa) st c->F.nx [AA nd,AA (.ref ka),AA nm,AA md,AA (.ref ba),AA (.ref aa),AA (.ref da),y7,y8,y9,AA r] c):j7 (Zl bX P G (n+1)) ab6 F [AA nd,AA (.ref ka),AA nm,AA md,AA (.ref ba),AA (.ref aa),AA (.ref da),y7,y8,y9,AA r] st:=by
 have o:∀f∈([("program":Str),("inside":Str),("number":Str),("holders":Str),("ways":Str),("used":Str),("kind":Str)]:List Str),f∈G.cls "Node":=λf hf=>by rw[T.ncl];show hf
 erw[BU,AQ,AX,or_false,not_or]at z s;let{{O,M,L,J},{d5,d6,d7},{d8,Z},N,_}:=z;let{C,W,V,U,Q}:=s;∎;rw[r9 (.inl H.b)];rfl';rw[if_neg (by erw[Ad,AW,Ap];lia)];have y:∀c,FS sh dn sa pa wa ka ba aa da S ws kn0 (B++[.ref a]) (A++[.ref ca]) c->c ca=AA (.lst i)->KpI R (ca::fL sh dn sa pa wa ka ba aa) st c->j7 (Zl bX P G (n+1)) (.cons (.ex (.app (.ix (.v 5) (.neg (.int 1))) (.v 10))) .nil) F [AA nd,AA (.ref ka),AA nm,AA md,AA (.ref ba),AA (.ref aa),AA (.ref da),y7,y8,y9,AA r] c:=by
  intro c H' l X;∎;rw[l7 (.inl H'.a)];apply{_,N5,?_};rw[B5 (.inl l)];apply{trivial,?_};rw[E1 l];apply{C8 ⋯,?_};have g:Kp [ca] c (b0 c ca (.lst (i++[r]))):=Kp.refl.put ∎;show q _ {H'.K.keepL g (by simp[Q]),g.at' H'.k (by simp[Ax C]),g.at' H'.b (by simp[Ax W]),g.at' H'.a (by simp[Ax V]),g.at' H'.d (by simp[Ax U])} f8 (X.put ∎ l)
 ∎;apply{oy T.more,?_};rw[l7 (.inl H.b)];apply{_,N5,a,"Node",_,p.d,rfl,E,o _ ∎,rfl,?_};rw[l7 (.inl H.a)];apply{_,N5,?_};rw[r9 (.inl u)];apply ad0 (as2 T.toPIn p i.length ?_);rfl';have m:=aq7 p i.length
 rcases m with m|m
 ·rw[m]at k2 ⊢;have e:j=kn0:=by rw[DY ⋯]at k1;show k1
  subst e;show y st H u KpI.refl
 ·rw[m]at k2 ⊢;rw[if_pos ∅];obtain⟨e,rfl⟩:∃e,j=kn0++[e]:=by
   have I:(j.drop kn0.length).length=1:=by rw[Bv];lia
   match h4:j.drop kn0.length,I with
   |[e],_=>show⟨e,by have:=FQ kn0.length j;rw[k1,h4]at this;show this.symm⟩
  have t:=H.k;rw[Aj]at t;∎;rw[X4 t];have g:Kp [ka] st (b0 st ka (.lst (kn0.map D.int))):=Kp.refl.put ∎;show y _ {H.K.keepL g (by simp[J]),f8,g.at' H.b (by simp[Ax O]),g.at' H.a (by simp[Ax M]),g.at' H.d (by simp[Ax L])} (g.at' u (by simp[C])) (KpI.refl.put ∎ t)
end
def FS.fresh{cb}{S}{kn}{B}(H:FS sh dn sa pa wa ka ba aa da S ws kn B A st)(h:st cb=AF):cb∉ka::ba::aa::da::shL sh dn sa pa wa:=by
 intro z;simp at z
 rcases z with rfl|rfl|rfl|rfl|rfl|rfl|rfl|rfl|rfl
 ·have:=H.k;rw[h]at this;cases this
 ·have:=H.b;rw[h]at this;cases this
 ·have:=H.a;rw[h]at this;cases this
 ·have:=H.d;rw[h]at this;cases this
 ·have:=H.K.A.ins;rw[h]at this;cases this
 ·have:=H.K.A.num;rw[h]at this;cases this
 ·have:=H.K.A.sto;rw[h]at this;cases this
 ·have:=H.K.A.par;rw[h]at this;cases this
 ·have:=H.K.W;rw[h]at this;cases this
def wl{Z}{tb}{F}{t}{env}(h:tb {F with nx:=A8 (wpT Z (.bl AD)) tb F t,ct:=A8 (wpT Z (.bl AD)) tb F t,bk:=F.nx} env st):A8 (wpT Z (.bl AD)) tb F (t+1) env st:=⟨AD,rfl,h⟩
def ci1{S}(w:Wf S')(a:S <+: S')(h:∀k∈ks,Has S k.d):w8 S' ks=w8 S ks:=Ih λk hk=>by rw[N8 w (h k hk) a]
abbrev B7(p:Pg)(Γ ks:List Kd)(i:Nat):Prop:=∀(j:Nat)c,j<i->p.kids[j]?=AA c->∃a Δ,ks[j]?=AA a/\Cxt p (ks.take j) j Γ Δ/\c.kind Δ=AA a
def Cxt.det{Δ'}(h:Cxt p ks i Γ Δ)(h':Cxt p ks i Γ Δ'):Δ=Δ':=by
 rcases h with⟨d,rfl⟩|⟨d,a,e,rfl⟩<;>rcases h' with⟨b,rfl⟩|⟨b,f,c,rfl⟩
 ·rfl
 ·lia
 ·lia
 ·grind
def B7.snoc(h:B7 p Γ ks ks.length)(e:p.kids[ks.length]?=AA c)(f:Cxt p ks ks.length Γ Δ)(b:c.kind Δ=AA a):B7 p Γ (ks++[a]) (ks.length+1):=λj d hj hd=>by
 by_cases z:j<ks.length
 ·let{a,Δ,k,i,g}:=h j d z hd;show{a,Δ,by rw[Ab z];show k,by rw[Dt ⋯];show i,g}
 ·obtain rfl:j=ks.length:=by lia
  rw[e]at hd;cases hd;show{a,Δ,∎,by simpa using f,b}
def B7.eq{k:Kd}(h:B7 p Γ ks ks.length)(B:ks.length<=p.kids.length)(w:p.kind Γ=AA k):∃r,p.kk Γ (ks++r)=AA k/\B7 p Γ (ks++r) p.kids.length/\(ks++r).length=p.kids.length:=by
 let{b,A,z,u}:=Pg.kind_inv w;have l:∀i,i<=ks.length->ks.take i=b.take i:=by
  intro i
  induction i with
  |zero=>intro _;rfl
  |succ i f=>
   intro hi;have f:=f ⋯;obtain⟨c,g⟩:∃c,p.kids[i]?=AA c:={_,AJ ⋯};let{a,Δ,y,t,x}:=h i c ⋯ g;let{C,v,n,m,d}:=u i c g;rw[f]at t;cases t.det m;rw[x]at d;cases d;rw[Jx,Jx,f,y,n]
 have e:=l ks.length (AS _);rw[Ew]at e;have o:ks++b.drop ks.length=b:=by rw[e,Bu,Hm ⋯,FQ]
 show{b.drop ks.length,by rw[o];show z,by rw[o];show λj c _ g=>u j c g,by rw[o];show A}
def aq6(h:B7 p Γ ks ks.length)(b:p.kids[ks.length]?=AA c)(j:Cxt p ks ks.length Γ Δ)(g:c.kind Δ=AF):p.kind Γ=AF:=by
 cases hk:p.kind Γ with
 |none=>rfl
 |some k=>
  have i:=(AY.mp b).1;let{r,_,l,_}:=h.eq ⋯ hk;let{a,f,_,e,d}:=l ks.length c i b;rw[Dt (AS _),Ew]at e;cases e.det j;rw[g]at d;cases d
def ck3(h:B7 p Γ ks ks.length)(b:ks.length<p.kids.length)(j:p.more ks.length=1)(i:p.nw ks ks.length=AF):p.kind Γ=AF:=by
 cases hk:p.kind Γ with
 |none=>rfl
 |some k=>
  let{r,_,g,_}:=h.eq ⋯ hk;obtain⟨c,f⟩:∃c,p.kids[ks.length]?=AA c:={_,AJ b};let{a,e,_,d,l}:=g ks.length c b f;rw[Dt (AS _),Ew]at d
  rcases d with⟨z,_⟩|⟨_,a,z,_⟩
  ·lia
  ·grind
def be9(h:B7 p Γ ks ks.length)(d:ks.length=p.kids.length)(b:p.kk Γ ks=AF):p.kind Γ=AF:=by
 cases hk:p.kind Γ with
 |none=>rfl
 |some k=>
  let{r,a,_,c}:=h.eq ⋯ hk;have:r=[]:=Em.mp (by simp at c;lia);subst this;rw[BL,b]at a;cases a
def B7.kid(h:B7 p Γ ks m){j:Nat}(d:j<m)(e:p.kids[j]?=AA c)(f:ks[j]?=AA a)(k:p.more j=0):Kn Γ c a:=by
 let{l,Δ,b,i,g}:=h j c d e;rw[f]at b;cases b
 rcases i with⟨_,rfl⟩|⟨z,_⟩
 ·show D5 g
 ·lia
def B7.kid1(h:B7 p Γ ks m){j:Nat}(e:j<m)(f:p.kids[j]?=AA c)(i:ks[j]?=AA a)(n:p.more j=1)(g:p.nw (ks.take j) j=AA b):Kn (b::Γ) c a:=by
 let{q,Δ,d,l,k}:=h j c e f;rw[i]at d;cases d
 rcases l with⟨z,_⟩|⟨_,o,z,rfl⟩
 ·lia
 ·rw[g]at z;cases z;show D5 k
def bk4(h:Rz Γ p)(hc:p.kids[ks.length]?=AA c)(hC:Cxt p ks ks.length Γ Δ)(hn:c.kind Δ=AF):Rz Δ c:=by
 have e:p.more ks.length=0:=by cases h<;>rfl
 obtain rfl:Δ=Γ:=by
  rcases hC with⟨_,e⟩|⟨z,_⟩
  ·show e
  ·simp_all
 generalize ks.length=i at hc;cases h with
 |name=>cases hc
 |give h1 h2=>match i,hc with
  |0,hc=>cases hc;rw[h1]at hn;cases hn
  |1,hc=>cases hc;rw[h2]at hn;cases hn
 |first _ r=>match i,hc with
  |0,hc=>cases hc;show r
 |pair h1 _ r=>match i,hc with
  |0,hc=>cases hc;rw[h1]at hn;cases hn
  |1,hc=>cases hc;show r
def bo7(h:Rz Γ p)(ok:B7 p Γ ks ks.length)(hl:ks.length=p.kids.length):p.ng=AD:=by
 have z:∀{i}{c},p.more i=0->p.kids[i]?=AA c->c.kind Γ≠AF:=λ{i c}m hc e=>by
  have hi:=hl▸(AY.mp hc).1
  have:=ok.kid hi hc (AJ hi) m;rw[this.kind]at e;cases e
 cases h with
 |name=>rfl
 |give=>rfl
 |first h1 _=>show absurd h1 (z (i:=0) rfl rfl)
 |pair _ h1 _=>show absurd h1 (z (i:=1) rfl rfl)
def bj3{k:Kd}(h:B7 p Γ ks ks.length)(f:ks.length=p.kids.length)(e:p.kk Γ ks=AA k):p.kind Γ=AA k:=by
 apply Kn.kind ?_;cases p
 case name=>match ks,f with|[],_=>show .name e
 case star=>match ks,f with|[],_=>cases e;show .star
 case pair t u=>match ks,f with|[a,b],_=>cases e;show .pair (h.kid (j:=0) ∎ rfl rfl rfl) (h.kid (j:=1) ∎ rfl rfl rfl)
 case first t=>match ks,f with|[a],_=>cases a<;>cases e;show .first (h.kid (j:=0) ∎ rfl rfl rfl)
 case second t=>match ks,f with|[a],_=>cases a<;>cases e;show .second (h.kid (j:=0) ∎ rfl rfl rfl)
 case left b t=>match ks,f with|[a],_=>cases e;show .left (h.kid (j:=0) ∎ rfl rfl rfl)
 case right b t=>match ks,f with|[a],_=>cases e;show .right (h.kid (j:=0) ∎ rfl rfl rfl)
 case way b t=>match ks,f with|[a],_=>cases e;show .way (h.kid1 (j:=0) ∎ rfl rfl rfl rfl)
 case lets t u=>match ks,f with|[a,b],_=>cases e;show .lets (h.kid (j:=0) ∎ rfl rfl rfl) (h.kid1 (j:=1) ∎ rfl rfl rfl rfl)
 case never b t=>match ks,f with|[a],_=>cases a<;>cases e;show .never (h.kid (j:=0) ∎ rfl rfl rfl)
 case give t u=>
  match ks,f with
  |[x,c],_=>
   cases x<;>first|(cases e;done)|skip
   rename_i a b _;replace e:(if a=c then AA b else AF)=AA k:=e
   by_cases z:a=c
   ·rw[if_pos z]at e;subst z;cases e;show .give (h.kid (j:=0) ∎ rfl rfl rfl) (h.kid (j:=1) ∎ rfl rfl rfl)
   ·rw[if_neg z]at e;cases e
 case case t u v=>
  match ks,f with
  |[x,c,d],_=>
   cases x<;>first|(cases e;done)|skip
   rename_i a b _;replace e:(if c=d then AA c else AF)=AA k:=e
   by_cases z:c=d
   ·rw[if_pos z]at e;subst z;cases e;show .case (h.kid (j:=0) ∎ rfl rfl rfl) (h.kid1 (j:=1) ∎ rfl rfl rfl rfl) (h.kid1 (j:=2) ∎ rfl rfl rfl rfl)
   ·rw[if_neg z]at e;cases e
section
variable (T:PNo P G) 
include T
def b94(hnm:Cok P nm)(N:aw9 bX P G (n+1) sh dn sa pa wa nm)(hmd:Cok P md)(M:ay2 bX P G (n+1) sh dn sa pa wa md)(dj:(ka::ba::aa::da::shL sh dn sa pa wa).Nodup){F:DEnds}:∀(z:Nat)(p:Pg),p.parts<=z->p.kn 3->∀{Γ:List Kd}{h:Int}{st0 st:Sto}{X:List AI}{S:List It3}{ws:List (Kd×Bool)}{kn:List Int}{B A:List D}{a ca:AI}{f:List AI}{x7 x8 x9 x10:Option D}{m:Nat},
  (p.kind Γ=AF->bX=AD/\Rz Γ p)->h<=1->Nd st0 X st h p a f->(∀y∈f,y∈R)->(∀y∈ca::da::fL sh dn sa pa wa ka ba aa,y∈X)->FS sh dn sa pa wa ka ba aa da S ws kn (B++[.ref a]) (A++[.ref ca]) st->st ca=AA (.lst [])->KnOk S ws Γ kn->S.length+256*p.parts<=900000->B.length+p.parts<100000->A.length+p.parts<100000->kn.length+p.parts<100000->ca∉ka::ba::aa::da::shL sh dn sa pa wa ->
  (∀S' ws' st' ks y7 y8 y9 y10,FS sh dn sa pa wa ka ba aa da S' ws' kn (B++[.ref a]) (A++[.ref ca]) st'->st' ca=AA (.lst (w8 S' ks))->ks.length=p.kids.length->(∀k∈ks,Has S' k.d)->B7 p Γ ks ks.length->S <+: S'->S'.length+256<=S.length+256*p.parts->WUp ws ws'->KpI R (ca::fL sh dn sa pa wa ka ba aa) st st'->A8 (wpT (Zl bX P G (n+1)) (.bl AD)) (j7 (Zl bX P G (n+1)) G6) F m [AA nd,AA (.ref ka),AA nm,AA md,AA (.ref ba),AA (.ref aa),AA (.ref da),y7,y8,y9,y10] st') ->
  A8 (wpT (Zl bX P G (n+1)) (.bl AD)) (j7 (Zl bX P G (n+1)) G6) F (m+2*(p.parts-1)) [AA nd,AA (.ref ka),AA nm,AA md,AA (.ref ba),AA (.ref aa),AA (.ref da),x7,x8,x9,x10] st:=by
 intro z
 induction z with
 |zero=>intro p hz;have:=Pg.parts_kids p;lia
 |succ z ih=>
  intro p hz hkn7 Γ h st0 st X S ws kn B A a ca f x7 x8 x9 x10 m hk h1 nd0 hR hX H hc hkn hS hB hA hK hcl q;have hpk:=Pg.parts_kids p;have inner:∀(j i:Nat),i+j=p.kids.length->∀{ks:List Kd}{S1:List It3}{ws1:List (Kd×Bool)}{st1:Sto}{y7 y8 y9 y10:Option D},FS sh dn sa pa wa ka ba aa da S1 ws1 kn (B++[.ref a]) (A++[.ref ca]) st1->ks.length=i->B7 p Γ ks ks.length->st1 ca=AA (.lst (w8 S1 ks))->(∀k∈ks,Has S1 k.d)->S <+: S1->S1.length+256*((p.kids.drop i).map Pg.parts).sum+256<=S.length+256*p.parts->WUp ws ws1->KpI R (ca::fL sh dn sa pa wa ka ba aa) st st1->A8 (wpT (Zl bX P G (n+1)) (.bl AD)) (j7 (Zl bX P G (n+1)) G6) F (m+2*((p.kids.drop i).map Pg.parts).sum) [AA nd,AA (.ref ka),AA nm,AA md,AA (.ref ba),AA (.ref aa),AA (.ref da),y7,y8,y9,y10] st1:=by
   intro j
   induction j with
   |zero=>
    intro i hi ks S1 ws1 st1 y7 y8 y9 y10 H1 htl hok hc1 hh1 p1 l1 w1 K1;rw[Ey ⋯]at l1 ⊢;erw[Eu,HI,Nat.mul_zero,Nat.add_zero]at l1 ⊢;show q S1 ws1 st1 ks _ _ _ _ H1 hc1 ⋯ hh1 hok p1 l1 w1 K1
   |succ j ihj=>
    intro i hi ks S1 ws1 st1 y7 y8 y9 y10 H1 htl hok hc1 hh1 p1 l1 w1 K1;have hil:i<p.kids.length:=by lia
    obtain⟨c,hci⟩:∃c,p.kids[i]?=AA c:={_,AJ hil};have hdr:p.kids.drop i=c::p.kids.drop (i+1):=by
     rw[CV hil];rw[AJ hil]at hci;cases hci;rfl
    rw[hdr]at l1 ⊢;erw[Au,DV]at l1 ⊢;have cpos:=Pg.parts_kids c;have hcm:c∈p.kids:=BX hci;have hcs:=ar0 Pg.parts hcm;have hci2:p.kids[ks.length]?=AA c:=by rw[htl];show hci
    have n1:=nd0.kpi K1 (λy hy=>hX y (by erw[AQ]at hy ⊢;rcases hy with h|h;show .inl h;show .inr (.inr h)));obtain⟨hkX⟩:Nonempty (p.told 3):=⟨Pg.told_kn hkn7⟩;generalize hr:((p.kids.drop (i+1)).map Pg.parts).sum=r at l1 ⊢;rw[show m+2*(c.parts+r)=((m+2*r+1)+2*(c.parts-1))+1 by lia];apply wl ?_;cases n1 with
    |@mk _ _ _ la x w kd as fs e1 e2 e3 e4 e5 e6 e7 e8 e9=>
    obtain⟨b,hbi⟩:∃b,as[i]?=AA b:={_,AJ ⋯};obtain⟨fb,hfi⟩:∃b,fs[i]?=AA b:={_,AJ ⋯};have nb1:=e9 i c b fb hci hbi hfi;have hRb:∀y∈fb,y∈R:=λy hy=>hR y (Ar _ (CY.mpr {fb,BX hfi,hy}));have hla:la∉ka::ba::aa::da::shL sh dn sa pa wa:=λz=>e4 (hX _ (by erw[AQ,AX,or_false]at z ⊢;rcases z with z|z|z|z|z|z|z|z|z<;>simp[z]));apply b01 (R:=R) T hnm N dj (ks:=ks) (Γ:=Γ) H1 hc1 hh1 e1 e2 h1 e3 hci2 (by rw[htl];show hbi) hkX (λm1 z=>by cases(hk (ck3 hok ⋯ m1 z)).2<;>cases m1) (hkn.up H1.K.A.wf p1 w1) ⋯ ⋯ ⋯ ⋯ hcl hla λΔ S2 ws2 st2 kn2 cb v7 v8 v9 v10 hC H2 hcb hcb0 p2 l2 w2 k2 k3 k4 K2=>?_;rw[htl]at k4;have cbf:=H1.fresh hcb0;have hm01:=aq7 p i;have nb2:=(nb1.addX hcb0).kpi K2 (λy hy=>Ar _ (hX y (by erw[AQ]at hy ⊢;show .inr (.inr hy))));apply ih c ⋯ (Pg.kn_kids p hkn7 c hcm) (λz=>⟨(hk (aq6 hok hci2 hC z)).1,bk4 (hk (aq6 hok hci2 hC z)).2 hci2 hC z⟩) ∅ nb2 hRb (λy hy=>by
     rcases AQ.mp hy with rfl|hy
     ·simp
     ·show Ar _ (hX y (Ar _ hy))) H2 hcb k2 ⋯ (by simp;lia) (by simp;lia) ⋯ cbf λS3 ws3 st3 ks3 u7 u8 u9 u10 H3 hc3 kl3 hh3 hok3 p3 l3 w3 K3=>?_
    apply wl ?_;have nb3:=nb2.kpi K3 (λy hy=>by
     rcases AQ.mp hy with rfl|hy
     ·simp
     ·show Ar _ (hX y (by erw[AQ]at hy ⊢;show .inr (.inr hy))))
    cases nb3 with
    |@mk _ _ _ lb xb wb kdb asb fsb b1 b2 b3 b4 b5 b6 b7 b8 b9=>
    apply bb7 (R:=R) T hmd M dj H3 hc3 hh3 b1 b2 ∅ b3 ⋯ (Pg.told_kn (Pg.kn_kids p hkn7 c hcm)) kl3 (λz=>have z:=be9 hok3 kl3 z;have y:=hk (aq6 hok hci2 hC z);{y.1,bo7 (bk4 y.2 hci2 hC z) hok3 kl3}) (k2.up H3.K.A.wf p3 w3) ⋯ (by erw[AQ,AX,or_false,not_or]at cbf ⊢;simp[cbf]) (hRb b (by let{_,_,_,_,_,_,h,_}:=nb1.root;show h)) λa0 hk0 S4 ws4 st4 t7 t8 H4 g1 p4 l4 w4 K4=>?_;have K14:KpI R (ca::fL sh dn sa pa wa ka ba aa) st1 st4:=by
     apply KpI.drop (p:=cb) ?_ hcb0;show((K2.more (λd hd=>by erw[AQ]at hd ⊢;show .inr (.inr hd))).trans (K3.more (λd hd=>by erw[AQ]at hd ⊢;rcases hd with h|h;show .inl h;show .inr (.inr h)))).trans (K4.more (λd hd=>by erw[AQ]at hd ⊢;show .inr (.inr hd)))
    have hcaf:ca∉fL sh dn sa pa wa ka ba aa:=by erw[AQ,AX,or_false,not_or]at hcl ⊢;simp[hcl]
    have hcab:ca≠cb:=l5 hc1 hcb0;have hca4:st4 ca=AA (.lst (w8 S1 ks)):=K4.lst (K3.lst (K2.lst hc1 hcaf) (by erw[AQ,not_or];erw[AQ,not_or]at hcaf;show⟨hcab,hcaf⟩)) hcaf;let{kd4,_,ha4}:=K14.i a p la x h w kd e1 e2;have hp14:S1 <+: S4:=p2.trans (p3.trans p4);apply co3 (R:=R) T dj (p:=p) (kn0:=kn) H4 hca4 (by have:=as0 Pg.parts_kids p.kids;erw[w8,AV,htl];lia) ha4 hcl k3 (by rw[k4];erw[w8,AV,htl]) λst5 H5 hc5 K5=>?_;rw[<-hr];apply ihj (i+1) ⋯ (ks:=ks++[a0]) H5 (by simp[htl]) (by have:=hok.snoc hci2 hC (bj3 hok3 kl3 hk0);simpa using this) ?_ ?_ (p1.trans hp14) (by rw[hr];lia) (w1.trans (w2.trans (w3.trans w4))) (K1.trans (K14.trans K5))
    ·rw[hc5];have:w8 S4 (ks++[a0])=w8 S4 ks++[.int (nb S4 a0.d:Nat)]:=by simp[w8]
     rw[this,ci1 H4.K.A.wf hp14 hh1]
    ·intro y hy
     rcases BO.mp hy with hy|hy
     ·show(hh1 y hy).mono hp14
     ·erw[Br]at hy;subst hy;show g1
  have:=inner p.kids.length 0 ⋯ (ks:=[]) (y7:=x7) (y8:=x8) (y9:=x9) (y10:=x10) H rfl (λ_ _ hj=>absurd hj (Nat.not_lt_zero _)) (by simpa[w8]using hc) ∎ (DI _) (by erw[LF];lia) rfl KpI.refl;rw[show p.parts-1=(p.kids.map Pg.parts).sum by lia];show this
end
def KA.fresh{x}{S}(K:KA sh dn sa pa wa S ws st)(h:st x=AF):x∉shL sh dn sa pa wa:=by
 intro z;erw[AQ,AX,or_false]at z
 rcases z with rfl|rfl|rfl|rfl|rfl
 ·have:=K.A.ins;rw[h]at this;cases this
 ·have:=K.A.num;rw[h]at this;cases this
 ·have:=K.A.sto;rw[h]at this;cases this
 ·have:=K.A.par;rw[h]at this;cases this
 ·have:=K.W;rw[h]at this;cases this
def ShD.all(h:ShD sh dn sa pa wa):(shL sh dn sa pa wa).Nodup:=by
 have c:=h.nd;have b:=h.wd;have a:=h.ws;grind
section
variable (T:PNo P G) {S:List It3} 
include T
def b23(hnm:Cok P nm)(N:aw9 bX P G (n+1) sh dn sa pa wa nm)(hmd:Cok P md)(M:ay2 bX P G (n+1) sh dn sa pa wa md){p:Pg}{st0:Sto}{f:List AI}{kn:List Int}{a:AI}(hkt:G.cls "!kt"≠[])(hk:p.kind Γ=AF->bX=AD/\Rz Γ p)(h7:p.kn 3)(nd:Nd st0 X st 0 p a f)(K:KA sh dn sa pa wa S ws st)(hka:st ka=AA (.lst (kn.map D.int)))(hkn:KnOk S ws Γ kn)(hS:S.length+256*p.parts<=900000)(hkl:kn.length<=50000)(hks:ka∉shL sh dn sa pa wa)(hX:∀y∈ka::shL sh dn sa pa wa,y∈X)
  (q:∀k,p.kind Γ=AA k->∀S' ws' st',Has S' k.d->KA sh dn sa pa wa S' ws' st'->Up S ws S' ws' p->KpI f (ka::shL sh dn sa pa wa) st st'->Q (.int (nb S' k.d:Nat)) st'):J4 bX P G (n+2) "folded" [.ref a,.ref ka,nm,md] st Q:=by
 apply as8 T.fol rfl [AA (.ref a),AA (.ref ka),AA nm,AA md,AF,AF,AF,AF,AF,AF,AF] rfl ?_;∎;intro ba hba;intro ca hca;intro aa haa;apply{hkt,λda hda=>?_};have ba0:st ba=AF:=hba;have ca0:st ca=AF:=M6 hca;have aa0:st aa=AF:=M6 (M6 haa);have da0:st da=AF:=M6 (M6 (M6 hda));have cb:ba≠ca:=l5 f8 hca;have ab:ba≠aa:=l5 (f7 f8 cb) haa;have ac:ca≠aa:=l5 f8 haa;have db:ba≠da:=l5 (f7 (f7 f8 cb) ab) hda;have dc:ca≠da:=l5 (f7 f8 ac) hda;have dA:aa≠da:=l5 f8 hda;have kb:ka≠ba:=l5 hka ba0;have kc:ka≠ca:=l5 hka ca0;have kA:ka≠aa:=l5 hka aa0;have kD:ka≠da:=l5 hka da0;have I4:KpI f (ka::shL sh dn sa pa wa) st (b0 (b0 (b0 (b0 st ba (.lst [.ref a])) ca (.lst [])) aa (.lst [.ref ca])) da (.dtt [])):=((((KpI.refl.new hba).new hca).new haa).new hda);have K4:Kp [] st (b0 (b0 (b0 (b0 st ba (.lst [.ref a])) ca (.lst [])) aa (.lst [.ref ca])) da (.dtt [])):=((((Kp.refl.new hba).new hca).new haa).new hda);have nd4:Nd st0 (da::aa::ca::ba::X) (b0 (b0 (b0 (b0 st ba (.lst [.ref a])) ca (.lst [])) aa (.lst [.ref ca])) da (.dtt [])) 0 p a f:=(((nd.addX ba0).addX ca0).addX aa0 |>.addX da0).kpi I4 (λy hy=>by simp[hX y hy]);have H4:FS sh dn sa pa wa ka ba aa da S ws kn ([]++[.ref a]) ([]++[.ref ca]) (b0 (b0 (b0 (b0 st ba (.lst [.ref a])) ca (.lst [])) aa (.lst [.ref ca])) da (.dtt [])):={K.keep K4,K4.at' hka ∎,f7 (f7 (f7 f8 cb) ab) db,f7 f8 dA,f8};have hc4:(b0 (b0 (b0 (b0 st ba (.lst [.ref a])) ca (.lst [])) aa (.lst [.ref ca])) da (.dtt [])) ca=AA (.lst []):=f7 (f7 f8 ac) dc;have dj:(ka::ba::aa::da::shL sh dn sa pa wa).Nodup:=by
  apply BU.mpr {?_,BU.mpr {?_,BU.mpr {?_,BU.mpr {K.fresh da0,K.D0.all}}}}
  ·erw[AQ,not_or];erw[AQ,not_or]at hks;show⟨kb,kA,kD,hks⟩
  ·have:=K.fresh ba0;erw[AQ,not_or]at this ⊢;show⟨ab,db,this⟩
  ·have:=K.fresh aa0;erw[AQ,not_or]at this ⊢;show⟨dA,this⟩
 have hcl:ca∉ka::ba::aa::da::shL sh dn sa pa wa:=by
  have:=K.fresh ca0;erw[AQ,not_or]at this ⊢;show{Ax kc,Ax cb,ac,dc,this}
 apply{1+2*(p.parts-1),?_};revert I4 K4 nd4 H4 hc4;generalize b0 (b0 (b0 (b0 st ba (.lst [.ref a])) ca (.lst [])) aa (.lst [.ref ca])) da (.dtt [])=st4;intro I4 K4 nd4 H4 hc4;have hX4:∀y∈ca::da::fL sh dn sa pa wa ka ba aa,y∈da::aa::ca::ba::X:=by
  intro y hy
  rcases AQ.mp hy with rfl|hy
  ·simp
  rcases AQ.mp hy with rfl|hy
  ·simp
  rcases AQ.mp hy with rfl|hy
  ·simp[hX y ∎]
  rcases AQ.mp hy with rfl|hy
  ·simp
  rcases AQ.mp hy with rfl|hy
  ·simp
  ·simp[hX y (Ar _ hy)]
 apply b94 (R:=f) T hnm N hmd M dj p.parts p (AS _) h7 hk ∅ nd4 (λy hy=>hy) hX4 H4 hc4 hkn hS (by simp;lia) (by simp;lia) ⋯ hcl λS1 ws1 st1 ks y7 y8 y9 y10 H1 hc1 kl hh1 hok p1 l1 w1 K1=>?_;apply wl ?_;have nd1:=nd4.kpi K1 (λy hy=>hX4 y (by erw[AQ]at hy ⊢;rcases hy with h|h;show .inl h;show .inr (.inr h)));have har:a∈f:=by let{_,_,_,_,_,_,h,_}:=nd4.root;show h
 cases nd1 with
 |@mk _ _ _ lb xb wb kdb asb fsb b1 b2 b3 b4 b5 b6 b7 b8 b9=>
 apply bb7 (R:=a::fsb.flatten) T hmd M dj H1 hc1 hh1 b1 b2 ∅ b3 ⋯ (Pg.told_kn h7) kl (λz=>have y:=hk (be9 hok kl z);{y.1,bo7 y.2 hok kl}) (hkn.up H1.K.A.wf p1 w1) ⋯ (by erw[AQ,not_or]at hcl ⊢;show hcl.2.2.2.2) har λk hk0 S2 ws2 st2 t7 t8 H2 g1 p2 l2 w2 K2=>?_;apply cb6 T H2 (c9 (q k (bj3 hok kl hk0) S2 ws2 st2 g1 H2.K {p1.trans p2,⋯,w1.trans w2} ?_));apply KpI.drop (p:=ba) (KpI.drop (p:=aa) (KpI.drop (p:=ca) ?_ ca0) aa0) ba0;apply((I4.more λy hy=>?_).trans (K1.more λy hy=>?_)).trans (K2.more λy hy=>?_)
 ·erw[AQ]at hy ⊢;show .inr (.inr (.inr hy))
 ·erw[AQ]at hy ⊢
  rcases hy with h|h|h|h|h
  ·show .inl h
  ·show .inr (.inr (.inr (.inl h)))
  ·show .inr (.inr (.inl h))
  ·show .inr (.inl h)
  ·show .inr (.inr (.inr (.inr h)))
 ·erw[AQ]at hy ⊢
  rcases hy with h|h|h|h
  ·show .inr (.inr (.inr (.inl h)))
  ·show .inr (.inr (.inl h))
  ·show .inr (.inl h)
  ·show .inr (.inr (.inr (.inr h)))
end
def Nd.fresh{c:Sto}{f:List AI}{a:AI}(n:Nd c X st h p a f):∀b∈f,c b=AF:=by
 induction n with
 |@mk h p a m x w kd l k y v u t s j r q o e=>
  intro b d
  rcases AQ.mp d with rfl|d
  ·show j
  ·let{f,g,d}:=CY.mp d;let{i,hi,rfl}:=FT.mp g;show e i p.kids[i] l[i] k[i] (AJ ⋯) (AJ ⋯) (AJ hi) b d
section
variable (T:PNo P G) (hx:G.cls "!ix"≠[]) {S:List It3} 
include T hx
def b40(hn:19<=n){st0:Sto}{f:List AI}{kn:List Int}{a:AI}(hk:p.kind Γ=AF->bX=AD/\Rz Γ p)(h7:p.kn 3)(nd:Nd st0 X st 0 p a f)(K:KA sh dn sa pa wa S ws st)(hka:st ka=AA (.lst (kn.map D.int)))(hkn:KnOk S ws Γ kn)(hS:S.length+256*p.parts<=900000)(hkl:kn.length<=50000)(hks:ka∉shL sh dn sa pa wa)(hX:∀y∈ka::shL sh dn sa pa wa,y∈X)
  (q:∀k,p.kind Γ=AA k->∀S' ws' st',Has S' k.d->KA sh dn sa pa wa S' ws' st'->Up S ws S' ws' p->KpI f (ka::shL sh dn sa pa wa) st st'->Q (.int (nb S' k.d:Nat)) st'):J4 bX P G n "kind_of_node" [.ref a,.ref ka,.ref sh] st Q:=by
 obtain⟨n,rfl⟩:∃m,n=m+3:={n-3,⋯};have hc:∀f∈([("program":Str),("inside":Str),("number":Str),("holders":Str),("ways":Str),("used":Str),("kind":Str)]:List Str),f∈G.cls "Node":=λf hf=>by rw[T.ncl];show hf
 apply as8 T.kon rfl [AA (.ref a),AA (.ref ka),AA (.ref sh),AF,AF,AF,AF] rfl ?_;(iterate 3 ∎);apply{oy T.fol,br3 (b23 T (show Cok P (.clo _ _ _ _) from trivial) ?_ (show Cok P (.clo _ _ _ _) from trivial) ?_ T.kt hk h7 nd K hka hkn hS hkl hks hX λk hk S' ws' st' h1 h2 h3 h4=>c9 (q k hk S' ws' st' h1 h2 h3 h4))}
 ·intro st S ws ca p i ks Q K ht hm hi hk hc hh hS q;apply br7 (bd6 rfl [AA p.d,AA (.ref ca),AA (.int i),AA (.ref sh)] rfl ?_);∎;apply{oy T.nnm,?_};cases e:p.nw ks i with
  |some a=>show ad0 (by0 T.toPKo ⋯ K ht hm e hc hh hS λS' ws' st' h1 h2 h3 h4 h5 h6=>c9 (q a e S' ws' st' h1 h2 h3 h4 h5 h6))
  |none=>show absurd e hk
 ·intro st S ws ca ka b la p Γ ks kn x h w kd Q K ht hl hk hca hh hka hkn hcl hS hb hkd q;apply br7 (bd6 rfl [AA (.ref b),AA (.ref ca),AA (.ref ka),AA (.ref sh),AF] rfl ?_);∎;apply{oy T.kbp,b,"Node",_,p.d,rfl,hb,hc _ ∎,rfl,?_};cases e:p.kk Γ ks with
  |none=>
   let{rfl,ho}:=hk e;show .inl (cv4 T.toPKo hx ⋯ K hl ho e hca hh hka hkn.len)
  |some k=>
  apply ad0 (cv7 T.toPKo ⋯ K ht e hca hh hka hkn hcl hS λS' ws' st' h1 h2 h3 h4 h5 h6=>?_);have hb':=h6.at' hb (K.noNode hb);have fin:∀kd',E5 kd'->Q (.int (nb S' k.d:Nat)) (b0 st' b (ndO p la x h w kd')):=λkd' hk'=>q k e S' ws' _ kd' h1 h2 h3 (h4.keepL (Kp.refl.put (L:=[b]) ∎) (by intro y hy;erw[Br]at hy;subst hy;show K.noNode hb)) h5 ((h6.more (by intro y hy;show Ar _ hy)).put ∎) f8 hk';∎;apply{b,"Node",_,kd,rfl,hb',hc _ ∎,rfl,?_};have tail:∀kd',E5 kd'->∃p c fs,D.ref b=D.ref p/\st' p=AA (.ins c fs)/\("kind":Str)∈G.cls c/\fs.length<1000/\j7 (Zl bX P G n) (.cons (.ret (.v 4)) .nil) (l9 Q) [AA (.ref b),AA (.ref ca),AA (.ref ka),AA (.ref sh),AA (.int (nb S' k.d:Nat))] (b0 st' p (.ins c (j9 "kind" kd' fs))):=λkd' hk'=>{b,"Node",_,rfl,hb',hc _ ∎,by simp[ndF],by
   ∎;show c9 (fin kd' hk')}
  rcases hkd with rfl|⟨j,rfl⟩
  ·show .inl {rfl,tail _ (.inr ⟨_,rfl⟩)}
  ·apply .inr {nofun,b,"Node",_,.int j,rfl,hb',hc _ ∎,rfl,?_};rfl'
   split
   ·show tail _ (.inr ⟨_,rfl⟩)
   ·show tail _ (.inr ⟨_,rfl⟩)
def b08(hn:20<=n){kn:List Int}(hp:p.parts<=2000)(hk:p.kind Γ=AF->bX=AD/\Rz Γ p)(h7:p.kn 3)(K:KA sh dn sa pa wa S ws st)(hka:st ka=AA (.lst (kn.map D.int)))(hkn:KnOk S ws Γ kn)(hS:S.length+256*p.parts<=900000)(hkl:kn.length<=50000)(hks:ka∉shL sh dn sa pa wa)
  (q:∀k,p.kind Γ=AA k->∀S' ws' st',Has S' k.d->KA sh dn sa pa wa S' ws' st'->Up S ws S' ws' p->Kp (ka::shL sh dn sa pa wa) st st'->Q (.int (nb S' k.d:Nat)) st'):J4 bX P G n "shelved_kind" [p.d,.ref ka,.ref sh] st Q:=by
 obtain⟨n,rfl⟩:∃m,n=m+1:={n-1,⋯};apply as8 T.shk rfl [AA p.d,AA (.ref ka),AA (.ref sh)] rfl ?_;∎;apply{oy T.kon,by rw[T.nod];rfl,?_};intro na hna;have K0:Kp [] st (b0 st na (.lst [])):=Kp.refl.new hna;have KA0:=K.keep K0;have hxx:∀x∈ka::shL sh dn sa pa wa,∃o,b0 st na (.lst []) x=AA o:=by
  intro x hx;erw[AQ,AX,or_false]at hx
  rcases hx with rfl|rfl|rfl|rfl|rfl|rfl
  ·show{_,l0 hka hna}
  ·show⟨_,KA0.A.ins⟩
  ·show⟨_,KA0.A.num⟩
  ·show⟨_,KA0.A.sto⟩
  ·show⟨_,KA0.A.par⟩
  ·show⟨_,KA0.W⟩
 apply ad0 (cb3 T (X:=ka::shL sh dn sa pa wa) ⋯ hp f8 hxx λa f st' nd K1=>?_);have hnk:ka≠na:=l5 hka hna;apply br3 (b40 T hx ⋯ hk h7 nd (KA0.keepL K1 (by intro y hy;erw[Br]at hy;subst hy;show K.fresh hna)) (K1.at' (l0 hka hna) (by simpa using hnk)) hkn hS hkl hks (λy hy=>hy) λk hk0 S' ws' st2 h1 h2 hu h3=>c9 (q k hk0 S' ws' st2 h1 h2 hu λb o nb e=>?_));have e1:=l0 (u:=.lst []) e hna;show h3.k b o nb (λz=>by rw[nd.fresh b z]at e1;cases e1) (K1.at' e1 (by simpa using l5 e hna))
end
def En.app{S}{l}{e}{k}(h:En S ws e k):En S (ws++l) e k:=by
 rcases h with h|⟨j,b,e,h⟩
 ·show .inl h
 ·show .inr {j,b,e,Ab (AY.mp h).1▸h}
theorem KnOk.app{S}{l}{kn}(h:KnOk S ws Γ kn):KnOk S (ws++l) Γ kn:=
 ⟨h.len,λm k hk=>let⟨e,b,a⟩:=h.at' m k hk;⟨e,b,a.app⟩⟩
section
variable (T:PNo P G) {S:List It3}
include T
def a69(j:∀k∈Γ,k.nest<=3)(v:Γ.length<2000)(K:KA sh dn sa pa wa S [] st)
  (q:∀h f ka b,KA sh dn sa pa wa S h b->st ka=AF->b ka=AA (.lst (f.map D.int))->KnOk S h Γ f->f.length=Γ.length->Kp [wa] st b->Q (.ref ka) b):sem P G (n+2) "shelved_names" [.tup (Γ.map Kd.d),.ref sh] st Q:=by
 apply i6 T.shn rfl [AA (.tup (Γ.map Kd.d)),AA (.ref sh)] rfl ?_;∎;apply{by simp;lia,?_};apply R5 (λl acc env' b=>∃(a c:List Kd)(x:Option D)(f:List Int),Γ.reverse=a++c/\l=c.map Kd.d/\acc=f.map D.int/\env'=[AA (.ref sh),x]/\KA sh dn sa pa wa S (a.map λk=>(k,AE)) b/\KnOk S (a.map λk=>(k,AE)) a.reverse f/\Kp [wa] st b) ?_ ?_ _ _ _ _ {[],Γ.reverse,AF,[],rfl,by rw[JU],rfl,rfl,K,{rfl,λm k hk=>(by simp at hk)},Kp.refl}
 ·rintro acc env' b ⟨a,c,x,f,e1,e2,rfl,rfl,K1,k1,K2⟩;have t:c=[]:=by simp_all
  subst t;rw[BL]at e1;apply{trivial,λka hka=>?_};have u:a.reverse=Γ:=by rw[<-e1,IW]
  rw[u]at k1;have i:st ka=AF:=by
   cases e:st ka with
   |none=>rfl
   |some o=>
    by_cases z:ka=wa
    ·have:=K1.W;rw[<-z,hka]at this;cases this
    ·rw[K2.at' e (by simpa using z)]at hka;cases hka
  show c9 (q _ f ka _ (K1.keep (Kp.refl.new hka)) i f8 k1 k1.len (K2.new hka))
 ·rintro d ds acc env' b ih ⟨a,c,x,f,e1,e2,rfl,rfl,K1,k1,K2⟩;apply{trivial,?_};cases c with
  |nil=>simp at e2
  |cons k c=>
   erw[Au,An]at e2;let{rfl,rfl}:=e2;have p:k∈Γ:=by
    have:k∈Γ.reverse:=by rw[e1];simp
    simpa using this
   have m:a.length<2000:=by
    have:=congrArg Cf e1;simp at this;lia
   apply{.ref sh,rfl,sh,"Shelf",_,rfl,K1.A.ins,rfl,oy T.ptb,k.d,rfl,?_};apply b88 T.toPKd K1 (j k p) (by simpa using m) λst2 K3 K4=>?_;apply ih _ _ _ {a++[k],c,_,f++[-(((a.map λk=>(k,AE)).length:Int)+1)],by rw[e1];simp,rfl,∎,rfl,by simpa using K3,?_,K2.trans K4};rw[Ii,Aj];show(k1.app).cons (.inr {a.length,AE,∎,∎})
end
theorem ap7{chk}{tc}{te}{R}{f}(h:i9->Prop){M:List D}(b:∀env d,h env->h (env.set i (AA d)))(e:∀env K,K AD st->tc env st K)(c:∀env d K,d∈M->h env->K (f d) st->te (env.set i (AA d)) st K)(j:chk st):
  ∀g a(env),(∀d∈g,d∈M)->h env->R (a++g.map f) st->B0 chk (.n i) tc te R g a env st
 |[],a,env,_,k,m=>{j,by simp_all}
 |d::g,a,env,l,k,m=>({j,e _ _ (c env d _ (l d ∎) k (ap7 h b e c j g (a++[f d]) _ (λx hx=>l x (by simp[hx])) (b env d k) (by simp_all)))})
def cu1{T:Type}{l:List T}{g}(b:ds.length=l.length)(a:∀(i:Nat)c d,l[i]?=AA c->ds[i]?=AA d->d=g c):ds=l.map g:=by
 apply ET λi=>?_;rw[Ah]
 by_cases h:i<l.length
 ·rw[AJ h,AJ (show i<ds.length by lia)];show congrArg AA (a i _ _ (AJ h) (AJ ⋯))
 ·simp_all
section
variable (J:PNm P G) 
include J
def a92{C:D}{f:Nat->Nat->Option Pg}{L:List AI}{Jv:Sto->Prop}(hC:Cok P C)(hJ:∀{st e:Sto}{K:List AI},Jv st->(∀a∈L,a∉K)->Kp K st e->Jv e)(E:∀{st},Jv st->∀a∈L,∃o,st a=AA o){p:Pg}(hp:p.parts<=2000)(hm:p.hgt<=m)(hn:6<=n)(j0:Jv st)
  (hc:∀(k:Nat)(c:Pg)(u:Nat)e Q,n<=k+4->u+c.hgt<=m->Jv e->Kp L st e->(∀st2,Jv st2->Kp L e st2->Q (R1 f c u) st2)->L7 P G k C [c.d,.int u] e Q)
  (q:∀e,Jv e->Kp L st e->Q (p.mp f 0).d e):sem P G n "with_parts" [p.d,C] st Q:=by
 obtain⟨n,rfl⟩:∃m,n=m+4:={n-4,⋯};have S:∀{st:Sto}{a:AI}{o:Ob},Jv st->st a=AF->Jv (b0 st a o):=λh F=>hJ (K:=[]) h ∎ (Kp.refl.new F);apply i6 J.wparts rfl [AA p.d,AA C,AF,AF,AF,AF] rfl ?_;(iterate 3 ∎);apply{oy J.mop,?_};apply cf5 J.toPM (n:=n+1) (T:=Pg×Nat) (enc:=C9) (subs:=λc=>c.1.kidsU c.2) (size:=λc=>c.1.parts) (Dq:=λc=>c.2+c.1.hgt<=m) (W:=Unit) (J:=λ_=>Jv) (le:=λ_ _=>True) (L:=L) (λ_=>trivial) (λ_ _=>trivial) (λ{_ _ _ dn}h I K=>hJ h (λa F z=>by simp at z;subst z;show I F) K) (λc=>Pg.parts_U c.1 c.2) (λc gc c' hc'=>BB (Pg.hgt_U c.1 c.2 c' hc') gc) (show Cok P (.clo _ _ _ _) from trivial) (show Cok P (.clo _ _ _ _) from trivial) (p,0) hp ⋯ (V:=λ_ _ c d _=>d=.tup [(c.1.mp f c.2).d,.bl (c.1.chd f c.2)]) (λv _ _=>v) (s0:=()) (μ:=λ_=>0) (B:=2000) ⋯ j0 E ?_ ?_ ?_
 ·rintro⟨c,u⟩ e Q _ gc _ M K k;apply W4 rfl [AA (C9 (c,u)),AA C] rfl ?_;∎;apply af3 hC ?_;unfold C9;rfl';apply hc n c u e _ ⋯ gc M K λst2 w r=>?_
  by_cases hz:R1 f c u=.non
  ·apply .inl {hz,?_};rfl';apply{oy J.under,b86 J c u ⋯ λa st3 F h3 K3=>c9 (k _ () _ (.inr {a,rfl,?_,h3}) trivial (AS _) (hJ (K:=[]) w ∎ K3) (r.trans (K3.more ∎)))};show ba4 (J:=λ(_:Unit)=>Jv) (s:=()) r (E M) F w E
  ·apply .inr {hz,?_};intro a F;have hk:c.kidsU u=[]:=by unfold Pg.kidsU;rw[b92 hz];rfl
   apply c9 (k _ () _ (.inr {a,rfl,ba4 (J:=λ(_:Unit)=>Jv) (s:=()) r (E M) F w E,?_}) trivial (AS _) (S w F) (r.new F));rw[f8,hk];rfl
 ·rintro⟨c,u⟩ dn la e Q ds _ gc _ M K hdn hlaL hne hl0 hla hlen hv hx k;have N:ds=(c.kidsU u).map λc=>D.tup [(c.1.mp f c.2).d,.bl (c.1.chd f c.2)]:=cu1 hlen hv;apply W4 rfl [AA (C9 (c,u)),AA (.ref la),AA C,AF] rfl ?_;have fin:∀(x:D)(st2:Sto),(x=.non/\c.mp f u=c/\c.chd f u=AE\/x=(c.mp f u).d/\c.chd f u=AD)->Jv st2->Kp L e st2->j7 (Zg P G (n+1)) (.cons (.ret (.ite (.isN (.v 3)) (.tup (.cons (.ix (.v 0) (.int 0)) (.cons (.bl AE) .nil))) (.tup (.cons (.v 3) (.cons (.bl AD) .nil))))) .nil) (l9 Q) [AA (C9 (c,u)),AA (.ref la),AA C,AA x] st2:=by
   intro x st2 hx2 w r;unfold C9;∎
   rcases hx2 with⟨rfl,e1,Z⟩|⟨rfl,Z⟩
   ·apply .inl {rfl,?_};rfl';show c9 (k _ () _ (by erw[e1,Z]) trivial (BM _) w r)
   ·apply .inr {au0,?_};rfl';show c9 (k _ () _ (by erw[Z]) trivial (BM _) w r)
  have R:∀(x:D)(st2:Sto),Jv st2->Kp L e st2->(c.kids=[]->(x=.non/\c.mp f u=c/\c.chd f u=AE\/x=(c.mp f u).d/\c.chd f u=AD))->(c.kids≠[]->x=.non)->j7 (Zg P G (n+1)) (.cons (.iff (.any (.comp ["part"] [] 1 (.n 0) (.seq (.v 1)) .non (.ix (.v 0) (.int 1))))
    (.cons (.set 3 (.call "with_inner" (.cons (.ix (.v 0) (.int 0)) (.cons (.comp ["part"] [] 1 (.n 0) (.seq (.v 1)) .non (.ix (.v 0) (.int 0))) .nil))))
   .nil)
    .nil)
  (.cons (.ret (.ite (.isN (.v 3)) (.tup (.cons (.ix (.v 0) (.int 0)) (.cons (.bl AE) .nil))) (.tup (.cons (.v 3) (.cons (.bl AD) .nil)))))
  .nil)) (l9 Q) [AA (C9 (c,u)),AA (.ref la),AA C,AA x] st2:=by
   intro x st2 w r hx0 hx1;have A:st2 la=AA (.lst ds):=r.at' hla hlaL;have hds:ds.length<=3:=by
    rw[hlen];change(c.kidsU u).length<=3;unfold Pg.kidsU;rw[Gk];cases c<;>erw[Pg.kids,AW,Ap]<;>lia
   ∎;apply{_,.inl A,⋯,?_}
   let sn:D->D:=λd=>match d with|.tup [_,b]=>b|_=>.non
   let fs:D->D:=λd=>match d with|.tup [a,_]=>a|_=>.non
   have e1:ds.map sn=((c.kidsU u).map λc=>c.1.chd f c.2).map D.bl:=by rw[N,Cs,Cs];rfl
   have Z:ds.map fs=((c.kidsU u).map λc=>c.1.mp f c.2).map Pg.d:=by rw[N,Cs,Cs];rfl
   have O:∀d∈ds,∃a b,d=.tup [a,b]:=λd I=>by
    rw[N]at I;let{c',_,rfl}:=DN.mp I;show⟨_,_,rfl⟩
   apply ap7 (f:=sn) (λenv=>env.length=1) (λenv d h=>by simpa using h) (λenv K hK=>hK) (λenv d K I hE hK=>?_) (.inl A) ds [] [AF] (λ_ h=>h) rfl ?_
   ·let{a,b,rfl}:=O d I
    match env,hE with
    |[y],_=>
     rfl';show hK
   intro fa i;rw[Dd,e1];apply{_,.inl f8,?_};rfl'
   by_cases t:c.kids=[]
   ·have hk:c.kidsU u=[]:=by unfold Pg.kidsU;rw[t];rfl
    rw[hk,if_neg ∎];rfl';show fin x _ (hx0 t) (S w i) (r.new i)
   ·have hxn:=hx1 t;subst hxn
    by_cases j:((c.kidsU u).map λc=>c.1.chd f c.2).any id=AD
    ·rw[if_pos j];∎;apply{oy J.winner,?_};unfold C9;rfl';have H:=l0 (u:=.lst (((c.kidsU u).map λc=>c.1.chd f c.2).map D.bl)) A i;apply{_,.inl H,⋯,?_};apply ap7 (f:=fs) (λenv=>env.length=1) (λenv d h=>by simpa using h) (λenv K hK=>hK) (λenv d K I hE hK=>?_) (.inl H) ds [] [AF] (λ_ h=>h) rfl ?_
     ·let{a,b,rfl}:=O d I
      match env,hE with
      |[y],_=>
       rfl';show hK
     intro ga X;rw[Dd,Z];apply ca6 J (p:=c) (l:=(c.kidsU u).map λc=>c.1.mp f c.2) (.inl f8) (by unfold Pg.kidsU;rw[AV,Gk]) t ?_;rw[<-Pg.mp_kids t];rfl';show fin _ _ (.inr {rfl,(Pg.chd_kids t).trans j}) (S (S w i) X) ((r.new i).new X)
    ·rw[if_neg j];rfl';have Y:c.chd f u=AE:=by rw[Pg.chd_kids t];simpa using j
     show fin .non _ (.inl {rfl,Pg.mp_same c Y,Y}) (S w i) (r.new i)
  ∎;rw[r9 (.inl hla)];rfl';have U:ds.length=c.kids.length:=by rw[hlen];change(c.kidsU u).length=_;unfold Pg.kidsU;rw[Gk]
  by_cases t:c.kids=[]
  ·rw[if_pos (by rw[U,t];rfl)];apply af3 hC ?_;unfold C9;rfl';apply hc (n+1) c u e _ ⋯ gc M K λst2 w r=>?_;show R _ st2 w r (λ_=>(b66 t).elim (λ⟨a,b,d⟩=>.inl ⟨a,b,d⟩) .inr) (λh=>absurd t h)
  ·rw[if_neg (by rw[U];have:=List.length_pos_iff.mpr t;lia)];show R .non e M Kp.refl (λh=>absurd h t) λ_=>rfl
 ·intro dn d _ e _ v _ _ M K;subst v;rfl';show c9 (q e M K)
end
def ch1(p:Pg)l:p.lf 0 l=p:=by
 have:=dd7 (f:=λ_ _=>AF) (h:=λ_ _=>AF) (b:=id) (λ_=>rfl) (λ_=>rfl) (λ_=>rfl) λn u=>by
  change(Pg.name n).mp (lfF 0 l) u=.name n;rw[bc6];split<;>lia p 0
 rwa[de6]at this
section
variable (J:PNm P G) 
include J
def ap1(h:p.parts<=2000)(r:7<=n)(q:∀st',Kp [] st st'->Q (p.lf m l).d st'):sem P G n "lifted" [p.d,.int m,.int l] st Q:=by
 obtain⟨n,rfl⟩:∃k,n=k+1:={n-1,⋯};apply i6 J.lift rfl [AA p.d,AA (.int m),AA (.int l),AF,AF,AF,AF] rfl ?_;∎
 by_cases i:(m:Int)=0
 ·∎;obtain rfl:m=0:=by lia
  have:=q st Kp.refl;rw[ch1]at this;show c9 this
 erw[i,if_false];(iterate 2 ∎);apply{oy J.wparts,a92 J (f:=lfF m l) (L:=[]) (Jv:=λ_=>True) (show Cok P (.clo _ _ _ _) from trivial) (λ_ _ _=>trivial) (λ_=>∎) h (AS _) ⋯ trivial ?_ λst' _ K=>c9 (q st' K)};intro k c u st' Q s o _ K b;obtain⟨k,rfl⟩:∃j,k=j+1:={k-1,⋯};apply W4 rfl [AA c.d,AA (.int u),AA (.int l),AA (.int m)] rfl ?_;replace b:=b st' trivial Kp.refl;cases c<;>erw[Pg.d]
 case name x=>
  ∎;erw[R1,lfF]at b
  by_cases g:(u:Int)<=(x:Int)
  ·erw[g,if_true]
   by_cases e:(l:Int)<=(x:Int)-(u:Int)
   ·erw[e,if_true];∎;rw[if_pos ⋯]at b;show c9 b
   ·erw[e,if_false];∎;rw[if_neg ⋯]at b;show c9 b
  ·erw[g,if_false];∎;rw[if_neg ⋯]at b;show c9 b
 all_goals
  (iterate 2 ∎);show c9 b
abbrev Y1(o:Pg)(us:List Nat):List (Key×D):=us.map λ(u:Nat)=>(.inl (u:Int),(o.lf u 0).d)
abbrev Cps(o:Pg)(m:Nat)(a:AI)(st:Sto):Prop:=∃us:List Nat,us.Nodup/\(∀u∈us,u<=m)/\st a=AA (.dct (Y1 o us))
omit J in
theorem af0{o:Pg}(u:Nat):∀(us:List Nat),F5 (Y1 o us) (.inl (u:Int))=if u∈us then AA (o.lf u 0).d else AF
 |[]=>rfl
 |v::us=>by
  have ih:=af0 (o:=o) u us;unfold F5 Y1 at ih ⊢;rw[Au,CH]
  by_cases h:v=u
  ·subst h;simp
  ·have e:AB ((Fj (v:Int):Key)=.inl (u:Int))=AE:=by simp;lia
   erw[e];rw[ih]
   by_cases h2:u∈us
   ·rw[if_pos h2,if_pos (by simp[h2])]
   ·rw[if_neg h2,if_neg (by simp[h2];lia)]
omit J in
theorem a75:∀(m:Nat){us:List Nat},us.Nodup->(∀u∈us,u<m)->us.length<=m
 |0,us,_,h=>by
  cases us with
  |nil=>show AS _
  |cons a us=>show absurd (h a ∎) ⋯
 |m+1,us,hn,h=>by
  have h1:=a75 m (hn.erase m) (λu hu=>by
   let{a,b}:=hn.mem_erase_iff.mp hu;have:=h u b;lia)
  have h2:=List.length_erase (a:=m) (l:=us)
  split at h2<;>lia
def cj5{a:AI}(s:o.parts<=2000)(w:8<=n)(r:u<=m)(y:m<=1000)(C:Cps o m a st)(q:∀e,Cps o m a e->Kp [a] st e->Q (o.lf u 0).d e):sem P G n "copy_under" [.ref a,o.d,.int u] st Q:=by
 obtain⟨n,rfl⟩:∃k,n=k+1:={n-1,⋯};apply i6 J.copy rfl [AA (.ref a),AA o.d,AA (.int u)] rfl ?_;have p:∀(us:List Nat)(c:Sto),u∈us->us.Nodup->(∀u∈us,u<=m)->c a=AA (.dct (Y1 o us))->Kp [a] st c->j7 (Zg P G n) (.cons (.ret (.ix (.v 0) (.v 2))) .nil) (l9 Q) [AA (.ref a),AA o.d,AA (.int u)] c:=by
  intro us c b i h g j;∎;apply .inr {_,(o.lf u 0).d,g,?_,c9 (q c ⟨us,i,h,g⟩ j)};rw[af0,if_pos b]
 let{us,i,h,g}:=C;∎;apply{_,g,?_};rw[af0];rfl'
 by_cases b:u∈us
 ·rw[if_pos b];show p us st b i h g Kp.refl
 ·rw[if_neg b];∎;apply{oy J.lift,?_};apply ap1 J (l:=0) s ⋯ λst2 j=>?_;have t:=j.at' g ∎;apply{_,t,by rw[af0,if_neg b],C8 (by unfold Y1;rw[AV];have:=a75 (m+1) i (λu r=>by have:=h u r;lia);lia),?_};apply p (us++[u]) _ ∎ ?_ ?_ ?_ ((j.more ∎).put ∎)
  ·rw[EU];show{i,∎,by simp;show λx f z=>b (z▸f)}
  ·intro x f
   rcases BO.mp f with f|f
   ·show h x f
   ·simp at f;lia
  ·rw[f8];unfold Y1;rw[Aj];rfl
def R6(s:p.parts<=2000)(t:o.parts<=2000)(v:p.hgt<=1000)(A:14<=n)(q:∀st',Kp [] st st'->Q (p.sb o).d st'):sem P G n "put_in" [p.d,o.d] st Q:=by
 obtain⟨n,rfl⟩:∃k,n=k+1:={n-1,⋯};apply i6 J.put rfl [AA p.d,AA o.d,AF,AF,AF,AF,AF] rfl ?_;intro r i;(iterate 2 ∎);apply{oy J.wparts,a92 J (f:=sbF o) (L:=[r]) (Jv:=Cps o 1000 r) (show Cok P (.clo _ _ _ _) from trivial) ?_ ?_ s v ⋯ {[],Kx,∎,f8} ?_ λst' _ K=>c9 (q st' ?_)}
 ·rintro st st' K ⟨us,h,l,h3⟩ hK K1;show{us,h,l,K1.at' h3 (hK r ∎)}
 ·rintro st ⟨us,h,l,h3⟩ a ha;simp at ha;subst ha;show⟨_,h3⟩
 ·intro k c u st' Q B y C K m;obtain⟨k,rfl⟩:∃j,k=j+1:={k-1,⋯};have h:∀q:Pg,1<=q.hgt:=λq=>by cases q<;>erw[Pg.hgt]<;>lia
  apply W4 rfl [AA c.d,AA (.int u),AA (.ref r),AA o.d] rfl ?_;have k0:=m st' C Kp.refl;cases c<;>erw[Pg.d]
  case name x=>
   erw[R1,sbF]at m k0;∎
   by_cases h:(x:Int)<(u:Int)
   ·erw[h,if_true];rw[if_pos ⋯]at k0;show c9 k0
   ·erw[h,if_false];∎
    by_cases l:(x:Int)=(u:Int)
    ·erw[l,if_true];∎;rw[if_neg ⋯,if_pos ⋯]at m;show{oy J.copy,cj5 J t ⋯ ⋯ (AS _) C λst2 C2 K2=>c9 (m st2 C2 K2)}
    ·erw[l,if_false];∎;rw[if_neg ⋯,if_neg ⋯]at k0;have e:(x:Int)-1=((x-1:Nat):Int):=by lia
     rw[e];show c9 k0
  all_goals
   (iterate 2 ∎);show c9 k0
 ·intro b u w e;apply K b u (by simp;show λz=>by rw[z,i]at e;cases e) ?_;show l0 e i
end
def mp_kn{Γ'}(q:∀Δ(n)k,(Δ++Γ)[n]?=AA k->((Pg.name n).mp f Δ.length).kind (Δ++Γ')=AA k){Θ}{k}(h:Kn Θ p k):∀Δ,Θ=Δ++Γ->Kn (Δ++Γ') (p.mp f Δ.length) k:=by
 induction h with
 |name h=>intro Δ e;subst e;show D5 (q Δ _ _ h)
 |star=>intro Δ e;show .star
 |pair _ _ i j=>show λΔ e=>.pair (i Δ e) (j Δ e)
 |first _ i=>show λΔ e=>.first (i Δ e)
 |second _ i=>show λΔ e=>.second (i Δ e)
 |left _ i=>show λΔ e=>.left (i Δ e)
 |right _ i=>show λΔ e=>.right (i Δ e)
 |case _ _ _ i j l=>show λΔ e=>.case (i Δ e) (j (_::Δ) (congrArg _ e)) (l (_::Δ) (congrArg _ e))
 |way _ i=>show λΔ e=>.way (i (_::Δ) (congrArg _ e))
 |give _ _ i j=>show λΔ e=>.give (i Δ e) (j Δ e)
 |lets _ _ i j=>show λΔ e=>.lets (i Δ e) (j (_::Δ) (congrArg _ e))
 |never _ i=>show λΔ e=>.never (i Δ e)
def bg2{Γ'}(a:∀Δ(n)k,(Δ++Γ)[n]?=AA k->((Pg.name n).mp f Δ.length).kind (Δ++Γ')=AA k)(p:Pg){k}(h:p.kind (Δ++Γ)=AA k):=(mp_kn a (D5 h) Δ rfl).kind
def af5{Γ₁ Γ₂ M}{k}(h:p.kind (Γ₁++Γ₂)=AA k):(p.lf M.length Γ₁.length).kind (Γ₁++(M++Γ₂))=AA k:=by
 apply bg2 (Γ:=Γ₁++Γ₂) (Γ':=Γ₁++(M++Γ₂)) (λΔ n k h=>?_) p (Δ:=[]) h;rw[bc6];erw[Pg.kind];rw[<-Cq]at h ⊢
 split
 ·rw[Af (by rw[Ad];lia)]at h ⊢;rw[Af (by rw[Ad];lia)];rw[<-h]
  congr 1
  lia
 ·rwa[Ab (by rw[Ad];lia)]at h ⊢
def bb1{Γ}{k}(h:p.kind (a::Γ)=AA k)(d:o.kind Γ=AA a):(p.sb o).kind Γ=AA k:=by
 apply bg2 (λΔ n k h=>?_) p (Δ:=[]) h;erw[Pg.mp,sbF]
 by_cases b:n<Δ.length
 ·rw[if_pos b];rw[Ab b]at h;erw[GO,Pg.kind];rwa[Ab b]
 ·rw[if_neg b];rw[Af ⋯]at h
  by_cases c:n=Δ.length
  ·rw[if_pos c];rw[c,LI]at h;cases h;show af5 (Γ₁:=[]) d
  ·rw[if_neg c];erw[Iu,Pg.kind];rw[Af ⋯];rw[show n-Δ.length=n-1-Δ.length+1 by lia]at h;show h
structure P41(P:f9)(G:Gs):Prop where
 deck:P "_law_deck"=AA J6
 next:P "_law_next"=AA al7
 kind:P "_law_kind"=AA am7
 many:P "_law_many"=AA ad9
 plain:P "_law_plain"=AA V0
 made:P "_law_made"=AA am8
 taken:P "_law_taken"=AA al3
 term:P "_law_term"=AA Y7
 under:P "_law_under"=AA ak9
 lift:P "_law_lift"=AA am4
 put:P "_law_put"=AA an8
 two:P "_law_two"=AA an4
 void:P "_law_void"=AA an0
 nothing:P "_law_nothing"=AA aj5
 spread:P "_law_spread"=AA aj6
 step:P "_law_step"=AA al9
 word:P "_law_word"=AA am3
 names:P "_law_names"=AA Y6
abbrev Kd.gd:Kd->Prop
 |.non=>False|.one=>True
 |.eith a b=>(a=.non\/a.gd)/\b.gd
 |.both a b=>a.gd/\b.gd
 |.way a b=>(a=.non\/a.gd)/\b.gd
theorem Kd.gd_pos:∀{k:Kd},k.gd->0<k.cnt
 |.one,_=>Nat.one_pos
 |.eith a b,h=>Ai (gd_pos h.2) (Jy _ _)
 |.both a b,h=>Nat.mul_pos (gd_pos h.1) (gd_pos h.2)
 |.way a b,h=>Nat.pow_pos (gd_pos h.2)
@[reducible]noncomputable def Kd.sm(k:Kd):Prop:=k.gd/\k.nest<=2
@[reducible]noncomputable def Kd.smn(k:Kd):Prop:=k=.non\/k.sm
abbrev Kd.gw:Kd->Prop
 |.non=>False|.one=>True
 |.eith a b=>a.smn/\b.sm
 |.both a b=>a.gw/\b.gw
 |.way a b=>a.smn/\(a=.non->b.nest<=3)/\b.gw
def aa9(h:1+max a.nest b.nest<=m+1):a.nest<=m:=BB (Nat.le_max_left a.nest b.nest) ⋯
def W9(h:1+max a.nest b.nest<=m+1):b.nest<=m:=BB (Nat.le_max_right a.nest b.nest) ⋯
theorem Kd.gd_gw:∀{k:Kd},k.gd->k.nest<=3->k.gw
 |.one,_,_=>trivial
 |.eith a b,h,c=>{h.1.imp_right λz=>{z,aa9 c},h.2,W9 c}
 |.both a b,h,c=>{gd_gw h.1 (CC (aa9 c)),gd_gw h.2 (CC (W9 c))}
 |.way a b,h,c=>{h.1.imp_right λz=>{z,aa9 c},λ_=>CC (W9 c),gd_gw h.2 (CC (W9 c))}
theorem Kd.sm.gw{k:Kd}(h:k.sm):k.gw:=gd_gw h.1 (CC h.2)
theorem Kd.few:∀(m:Nat){k:Kd},k.nest<=m->m<=2->k.cnt<=2^m/\k.bd 4
 |_,.non,_,_=>{BM _,trivial}
 |m,.one,_,_=>{Nat.one_le_two_pow,by change 1<=4;decide}
 |0,.eith a b,h,_|0,.both a b,h,_|0,.way a b,h,_=>by erw[Kd.nest]at h;lia
 |1,.eith a b,h,_|1,.both a b,h,_|1,.way a b,h,_=>by
  let{l,i}:=few 0 (aa9 h) ∅;let{j,g}:=few 0 (W9 h) ∅;have d:a.cnt=0\/a.cnt=1:=by lia
  have c:b.cnt=0\/b.cnt=1:=by lia
  apply{?_,i,g,?_}<;>(try erw[Kd.cnt])<;>(rcases d with e|e<;>rcases c with f|f<;>rw[e,f]<;>decide)
 |2,.eith a b,h,_|2,.both a b,h,_|2,.way a b,h,_=>by
  let{l,i}:=few 1 (aa9 h) ∅;let{j,g}:=few 1 (W9 h) ∅;have d:a.cnt=0\/a.cnt=1\/a.cnt=2:=by lia
  have c:b.cnt=0\/b.cnt=1\/b.cnt=2:=by lia
  apply{?_,i,g,?_}<;>(try erw[Kd.cnt])<;>(rcases d with e|e|e<;>rcases c with f|f|f<;>rw[e,f]<;>decide)
 |m+3,_,_,h=>by lia
abbrev Kd.ms:Kd->Nat
 |.non=>7|.one=>3
 |.eith a b=>2+a.ms+b.ms
 |.both a b=>2+a.ms+b.ms
 |.way a b=>2+a.ms+b.ms
abbrev Kd.pl:Kd->Pg
 |.non=>.star|.one=>.star
 |.eith a b=>if 0<a.cnt then .left b a.pl else .right a b.pl
 |.both a b=>.pair a.pl b.pl
 |.way a b=>if a.cnt=0 then .way a (.never b (.name 0))else .way a b.pl
section
variable (T:P41 P G)
include T
def D3{a}{m}(c:0<m)(h:o4 st a)(q:∀r b,0<=r->r<m->o4 b a->Kp [a] st b->Q (.int r) b):sem P G (n+1) "_law_next" [.ref a,.int m] st Q:=by
 let{l,h}:=h;apply i6 T.next rfl [AA (.ref a),AA (.int m)] rfl ?_;∎;rw[r9 (.inl h)];rfl';cases l with
 |nil=>
  show c9 (q 0 st (LU _) c {[],h} Kp.refl)
 |cons x l=>
  ∎;rw[B5 (.inl h)];apply{trivial,{∅,∅},_,0,.int x,h,by simp[ixN],rfl,?_};apply{c,c9 (q _ _ (HK _ ⋯) (GM _ c) {l,?_} (Kp.refl.put ∎))};rw[f8];rfl
def V4:∀(k:Kd){n:Nat}{st:Sto}{Q:DK},k.nest+1<=n->k.bd 4->Q (.int k.cnt) st->sem P G n "_law_many" [k.d] st Q:=by
 have c:∀(w:String)(n:Nat)(st:Sto)(Q:DK),(w="none"\/w="one")->Q (.int (if w="one" then 1 else 0)) st->sem P G (n+1) "_law_many" [.tup [.str w]] st Q:=λw n st Q hw q=>by
  apply i6 T.many rfl [AA (.tup [.str w]),AF,AF,AF,AF] rfl ?_;∎;apply{t0 _,by erw[F9,M7,t0,Bw],BM _,?_};∎
  rcases hw with rfl|rfl<;>show c9 q
 have j:∀(w:String)(a b:Kd)(n:Nat)(st:Sto)(Q:DK)(v:Nat),(∀Q:DK,Q (.int a.cnt) st->sem P G n "_law_many" [a.d] st Q)->(∀Q:DK,Q (.int b.cnt) st->sem P G n "_law_many" [b.d] st Q)->a.cnt<=4->b.cnt<=4 ->
   ((w="either"/\v=a.cnt+b.cnt)\/(w="both"/\v=a.cnt*b.cnt)\/(w="way"/\v=b.cnt^a.cnt))->Q (.int v) st->sem P G (n+1) "_law_many" [.tup [.str w,a.d,b.d]] st Q:=λw a b n st Q v ha i la lb hw q=>by
  apply i6 T.many rfl [AA (.tup [.str w,a.d,b.d]),AF,AF,AF,AF] rfl ?_;∎;apply{t0 _,by erw[F9,M7,t0,Bw],BM _,?_};rw[if_neg (by rcases hw with⟨rfl,_⟩|⟨rfl,_⟩|⟨rfl,_⟩<;>decide)];∎;apply⟨oy T.many,ha _ ?_⟩;∎;apply⟨oy T.many,i _ ?_⟩
  rcases hw with⟨rfl,rfl⟩|⟨rfl,rfl⟩|⟨rfl,rfl⟩
  ·(iterate 2 ∎);show c9 (by simpa using q)
  ·(iterate 3 ∎);show{T3 {⋯,⋯},c9 (by simpa using q)}
  ·(iterate 4 ∎);apply{⋯,?_};apply J9 (λl env st'=>st'=st/\∃(f:Nat)(x:Option D),env=[AA (.tup [.str "way",a.d,b.d]),AA (.int a.cnt),AA (.int b.cnt),AA (.int f),x]/\f*b.cnt^l.length=b.cnt^a.cnt) ?_ ?_ _ _ _ {rfl,1,AF,rfl,by simp[p8]}
   ·rintro env st' ⟨rfl,f,x,rfl,e⟩;apply{trivial,?_};∎;have:f=b.cnt^a.cnt:=by rw[<-e];simp
    rw[this];show c9 q
   ·rintro d ds env st' ih ⟨rfl,f,x,rfl,e⟩;apply{trivial,?_};rfl';∎;apply{T3 {⋯,⋯},ih _ _ {rfl,f*b.cnt,_,by rw[Jr],?_}};rw[<-e,AW,LG,Nat.mul_assoc,Jf b.cnt]
 intro k
 induction k with
 |non=>intro n st Q m _ q;obtain⟨n,rfl⟩:∃k,n=k+1:={n-1,⋯};show c "none" n st Q (.inl rfl) q
 |one=>intro n st Q m _ q;obtain⟨n,rfl⟩:∃k,n=k+1:={n-1,⋯};show c "one" n st Q (.inr rfl) q
 |eith a b h g|both a b h g|way a b h g=>
  intro n st Q m i q;obtain⟨n,rfl⟩:∃k,n=k+1:={n-1,⋯};erw[Kd.nest]at m;show j _ a b n st Q _ (λQ q=>h ⋯ i.1 q) (λQ q=>g ⋯ i.2.1 q) (Kd.bd_le i.1) (Kd.bd_le i.2.1) (by first|show .inl ⟨rfl,rfl⟩|show .inr (.inl ⟨rfl,rfl⟩)|show .inr (.inr ⟨rfl,rfl⟩)) q
end
mutual
noncomputable def D.sz:D->Nat
 |.tup ds=>1+D.szs ds
 |_=>1
noncomputable def D.szs:List D->Nat
 |[]=>0
 |d::r=>d.sz+D.szs r
end
def l8:(D.tup ds).sz=1+D.szs ds:=rfl
def o0:D.szs []=0:=rfl
def l6{d:D}{r:List D}:D.szs (d::r)=d.sz+D.szs r:=rfl
theorem bh2:∀a b,D.szs (a++b)=D.szs a+D.szs b
 |[],b=>by simp[o0]
 |d::a,b=>by rw[CT,l6,l6,bh2 a b];lia
def bj5(d:D):1<=d.sz:=by cases d<;>first|show AS _|(rw[l8];lia)
def dl7{a b}{S0}{A E:Sto->Prop}(p:a.lit=AD)(o:b.lit=AD)(r:∀h bs,a=.tup h->b=.tup bs->A S0)(v:(¬∃h bs,a=.tup h/\b=.tup bs)->E S0):
  ac2 "tuple" a S0 λx st1=>∃c,x=D.bl c/\if c=AD then ac2 "tuple" b st1 λd st1=>∃k,d=D.bl k/\if k=AD then A st1 else E st1 else E st1:=by
 have e:∀x,x.lit=AD->(∃g,x=.tup g)\/(∀g,x≠.tup g)/\∃f,(f=="tuple"||(f=="bool"&&"tuple"=="int"))=AE/\∀s,tyD x s=AA f:=λx hx=>by
  cases x with
  |tup g=>show .inl ⟨g,rfl⟩
  |int i=>show .inr {λ_=>nofun,"int",∅,λ_=>rfl}
  |str y=>show .inr {λ_=>nofun,"str",∅,λ_=>rfl}
  |_=>simp[D.lit]at hx
 rcases e a p with⟨h,rfl⟩|⟨u,f,l,j⟩
 ·apply .inl {"tuple",rfl,AD,rfl,?_};rcases e b o with⟨bs,rfl⟩|⟨t,f,l,j⟩
  ·show .inl {"tuple",rfl,AD,rfl,by show r h bs rfl rfl}
  ·apply .inl {f,j _,AE,by rw[l],?_};simp_all
 ·apply .inl {f,j _,AE,by rw[l],?_};simp_all
abbrev pd(l:List (D×D)):List D:=l.map λp=>.tup [p.1,p.2]
def bh5{x:String}:(D.str (Aa x)).lit=AD:=t0 x
def cf1{i:Int}:(D.int i).lit=AD:=rfl
def cq1(k:Kd):k.d.lit=AD:=by
 induction k<;>simp only[Kd.d,aq9,D.lits,bh5,Bw, *]
def ag5(p:Pg):p.d.lit=AD:=by
 induction p<;>simp only[Pg.d,aq9,D.lits,bh5,cq1,cf1,Bw, *]
theorem bo1:∀{c bs:List D},c.length=bs.length->((∀p∈c.zip bs,p.1=p.2)↔c=bs)
 |[],[],_=>{λ_=>rfl,λ_=>nofun}
 |a::c,b::bs,h=>by
  have d:=bo1 (by simpa using h);simp_all
theorem bm1:∀(a bs:List D),a.length=bs.length->((a.zip bs).map λp=>p.1.sz).sum=D.szs a
 |[],_,_=>rfl
 |d::a,e::bs,b=>by erw[FF,Au,DV,l6];rw[bm1 a bs (by simpa using b)]
def bm8(l:List (D×D)):l.length<=(l.map λp=>p.1.sz).sum:=by
 induction l with
 |nil=>show AS _
 |cons p l c=>have:=bj5 p.1;simp;lia
def b03(T:P "are_alike"=AA ad7)(N:G.cst "FEW"=AA (.int 2000)){st:Sto}{t u:D}(I:t.lit=AD)(H:u.lit=AD)(S:t.sz<=1990)(q:∀b c,(b=AD↔t=u)->Kp [] st c->Q (.bl b) c):sem P G (n+1) "are_alike" [t,u] st Q:=by
 apply i6 T rfl [AA t,AA u,AF,AF,AF,AF] rfl ?_;∎;intro h A;apply{.int 2000,N,?_};rfl';apply{{∅,∅},?_};apply J9 (λl env c=>∃(d:List (D×D))(x y:Option D),(t=u↔∀p∈d,p.1=p.2)/\(∀p∈d,p.1.lit=AD/\p.2.lit=AD)/\(d.map λp=>p.1.sz).sum+1<=l.length/\l.length<=2000/\env=[AA t,AA u,AA (.ref h),x,y,AF]/\c h=AA (.lst (pd d))/\Kp [] st c) ?_ ?_ _ _ _ {[(t,u)],AF,AF,∎,λp hp=>by cases Br.mp hp;show⟨I,H⟩,by simp[p8];lia,by simp[p8],rfl,f8,Kp.refl.new A}
 ·rintro env c ⟨d,x,y,_,_,hl,_⟩;simp at hl
 ·rintro d0 dl env c ih ⟨d,x,y,he,hp,hl,hz,rfl,hs',K⟩;erw[AW]at hl hz;rfl';∎;rw[r9 (.inl hs')];rfl'
  rcases ao7 d with rfl|⟨d,⟨a,b⟩,rfl⟩
  ·show c9 (q AD c (by rw[he];simp) K)
  ·rw[if_neg (by simp[pd];lia)];let{m,j}:=hp (a,b) ∎;have i:t=u↔a=b/\∀p∈d,p.1=p.2:=by rw[he,IE,List.forall_mem_singleton,and_comm]
   have r:∀p∈d,p.1.lit=AD/\p.2.lit=AD:=λp z=>hp p (by simp[z]);erw[Aj,Au,Eu,DH,DV,HI]at hl;have R:=bj5 a;have v:c h=AA (.lst (pd d++[.tup [a,b]])):=by rw[hs'];simp[pd]
   have M:=bm8 d;∎;rw[X4 v];∎;have s:∀u:Ob,Kp [] st (b0 c h u):=λu b o nb e=>f7 (K b o nb e) (l5 e A);have B:∀{k},Kp [] st k->¬(a=b)->(l9 Q).rt (.bl AE) k:=λK2 hne=>c9 (q AE _ {nofun,λe=>absurd (i.1 e).1 hne} K2);apply dl7 m j (λas bs ea eb=>?_) λhno=>?_
   ·subst ea eb;∎
    by_cases g:as.length=bs.length
    ·rw[if_neg ⋯];∎;rw[l8]at hl;have hsz:=bm1 as bs g;have J:=bm8 (as.zip bs);have L:(as.zip bs).length=as.length:=by rw[Jk];lia
     apply{_,_,rfl,rfl,⋯,λpz hpz=>?_};have w:=l0 (u:=.lst (J0 as bs)) (f8 (st:=c) (a:=h) (o:=.lst (pd d))) hpz;rw[bp8 w f8];have E:J0 as bs=pd (as.zip bs):=rfl;apply{C7 (by rw[E];erw[pd,AV];lia),?_};rfl';apply ih _ _ {d++as.zip bs,_,_,?_,λp hpz=>?_,?_,⋯,rfl,?_,λb o nb e=>f7 (l0 (s _ b o nb e) hpz) (l5 e A)}
     ·rw[i,IE,bo1 g,D.tup.injEq,and_comm]
     ·rcases BO.mp hpz with z|z
      ·show r p z
      ·let{m1,F}:=FX z;show{af4.mp m _ m1,af4.mp j _ F}
     ·rw[Aj,DH,hsz];lia
     ·rw[f8,E];simp[pd]
    ·rw[if_pos ⋯];∎;show B (s _) λz=>g (by cases z;rfl)
   ·∎;apply{aq4 _ m,aq4 _ j,?_,?_}
    ·have z:∀x:D,x.lit=AD->(∀O,x≠.tup O)->o6 x=0:=λx hx n=>by
      cases x<;>first|rfl|show absurd rfl (n _)
     by_cases C:∃as,a=.tup as
     ·let{as,rfl}:=C;show BB (FY _ _) (by rw[z b j λbs e=>hno ⟨as,bs,rfl,e⟩];lia)
     ·show BB (HZ _ _) (by rw[z a m λas e=>C ⟨as,e⟩];lia)
    cases hde:deq a b with
    |false=>
     rfl';∎;show B (s _) λz=>by rw[z,b70 j]at hde;cases hde
    |true=>
     rfl';show ih _ _ {d,_,_,by rw[i,(aa5 a b m j).mp hde];simp,r,⋯,⋯,rfl,f8,s _}
def W0{k:Kd}(h:k.smn):0<k.cnt/\k.sm\/k.cnt=0/\k=.non:=by
 rcases h with rfl|h
 ·show .inr ⟨rfl,rfl⟩
 ·show .inl {Kd.gd_pos h.1,h}
def V7{k:Kd}(h:k.smn):k.nest<=2:=by
 rcases h with rfl|h
 ·show BM _
 ·show h.2
theorem E3:∀k:Kd,k.d.sz<=k.ms
 |.non=>by decide
 |.one=>by decide
 |.eith a b|.both a b|.way a b=>by have:=E3 a;have:=E3 b;erw[Kd.d,l8,l6,o0,D.sz,Kd.ms];lia
structure Gr(Γ:List Kd)(k:Kd)(o m h:Nat)(p:Pg):Prop where
 kn:Kn Γ p k
 told:p.kn 3
 oc:∀u,p.oc u<=o
 sz:p.d.sz<=m
 hg:p.hgt<=h
theorem X5:∀{k:Kd}{Γ:List Kd},k.gw->Gr Γ k 0 k.ms (k.nest+2) k.pl
 |.one,Γ,_=>{.star,trivial,λ_=>AS _,∅,∅}
 |.both a b,Γ,h=>by
  have x:=X5 (Γ:=Γ) h.1;have y:=X5 (Γ:=Γ) h.2;apply{.pair x.kn y.kn,⟨x.told,y.told⟩,λu=>?_,?_,?_}
  ·have:=x.oc u;have:=y.oc u;erw[Kd.pl,Pg.oc];lia
  ·have:=x.sz;have:=y.sz;erw[Kd.pl,Pg.d,l8,l6,o0,D.sz,Kd.ms];lia
  ·have:=x.hg;have:=y.hg;erw[Kd.pl,Pg.hgt,Kd.nest];lia
 |.eith a b,Γ,h=>by
  have i:=E3 a;have g:=E3 b;have f:=V7 h.1;unfold Kd.pl
  rcases W0 h.1 with⟨e,c⟩|⟨e,c⟩
  ·rw[if_pos e];have x:=X5 (Γ:=Γ) c.gw;have:=x.sz;have:=x.hg;show{.left x.kn,{CC h.2.2,x.told},x.oc,by erw[Pg.d,l8,l6,o0,D.sz,Kd.ms];lia,by erw[Pg.hgt,Kd.nest];lia}
  ·rw[if_neg ⋯];have x:=X5 (Γ:=Γ) (Kd.sm.gw h.2);have:=x.sz;have:=x.hg;show{.right x.kn,{CC f,x.told},x.oc,by erw[Pg.d,l8,l6,o0,D.sz,Kd.ms];lia,by erw[Pg.hgt,Kd.nest];lia}
 |.way a b,Γ,h=>by
  have i:=E3 a;have g:=E3 b;have f:=V7 h.1;unfold Kd.pl
  rcases W0 h.1 with⟨e,c⟩|⟨e,c⟩
  ·rw[if_neg ⋯];have x:=X5 (Γ:=a::Γ) h.2.2;have:=x.sz;have:=x.hg;show{.way x.kn,{CC f,x.told},λu=>x.oc (u+1),by erw[Pg.d,l8,l6,o0,D.sz,Kd.ms];lia,by erw[Pg.hgt,Kd.nest];lia}
  ·rw[if_pos e];subst c;show{.way (.never (.name rfl)),{BM _,h.2.1 rfl,trivial},λu=>by simp[Pg.oc],by erw[Pg.d,Kd.d,l8,l6,o0,D.sz,Kd.ms];lia,by erw[Pg.hgt,Kd.nest];lia}
section
variable (T:P41 P G)
include T
theorem V1:∀{k:Kd}{n:Nat}{st:Sto}{Q:DK},k.gw->k.nest+4<=n->Q k.pl.d st->sem P G n "_law_plain" [k.d] st Q
 |.one,n,st,Q,_,c,q=>by
  obtain⟨n,rfl⟩:∃k,n=k+1:={n-1,⋯};apply i6 T.plain rfl [AA Kd.one.d] rfl ?_;unfold V0;erw[Kd.d];(iterate 2 ∎);show c9 q
 |.both a b,n,st,Q,h,c,q=>by
  obtain⟨n,rfl⟩:∃k,n=k+1:={n-1,⋯};erw[Kd.nest]at c;apply i6 T.plain rfl [AA (Kd.both a b).d] rfl ?_;unfold V0;erw[Kd.d];(iterate 3 ∎);show{oy T.plain,V1 h.1 ⋯ {oy T.plain,V1 h.2 ⋯ (c9 q)}}
 |.eith a b,n,st,Q,h,c,q=>by
  obtain⟨n,rfl⟩:∃k,n=k+1:={n-1,⋯};erw[Kd.nest]at c;have g:=V7 h.1;unfold Kd.pl at q;apply i6 T.plain rfl [AA (Kd.eith a b).d] rfl ?_;unfold V0;erw[Kd.d];(iterate 3 ∎);apply{oy T.many,V4 T a ⋯ (Kd.few 2 g (AS _)).2 ?_};rfl'
  rcases W0 h.1 with⟨e,f⟩|⟨e,f⟩
  ·rw[if_pos ⋯];rw[if_pos e]at q;∎;show{oy T.plain,V1 f.gw ⋯ (c9 q)}
  ·rw[if_neg ⋯];rw[if_neg ⋯]at q;(iterate 2 ∎);show{oy T.plain,V1 (Kd.sm.gw h.2) ⋯ (c9 q)}
 |.way a b,n,st,Q,h,c,q=>by
  obtain⟨n,rfl⟩:∃k,n=k+1:={n-1,⋯};erw[Kd.nest]at c;have g:=V7 h.1;unfold Kd.pl at q;apply i6 T.plain rfl [AA (Kd.way a b).d] rfl ?_;unfold V0;erw[Kd.d];(iterate 5 ∎);apply{oy T.many,V4 T a ⋯ (Kd.few 2 g (AS _)).2 ?_};rfl'
  rcases W0 h.1 with⟨e,f⟩|⟨e,f⟩
  ·rw[if_neg ⋯];rw[if_neg ⋯]at q;∎;show{oy T.plain,V1 h.2.2 ⋯ (c9 q)}
  ·rw[if_pos ⋯];rw[if_pos e]at q;∎;show c9 q
def J8(d:Nat):∀{n:Nat}{st:Sto}{Q:DK}{a:AI},d<=2->d+2<=n->o4 st a->(∀(k:Kd)f,k.gd->k.nest<=d+1->k.ms<=8+10*d->o4 f a->Kp [a] st f->Q k.d f)->sem P G n "_law_kind" [.ref a,.int d] st Q:=by
 induction d using HJ with
 |_ d i=>
 intro n st Q a E C h q;obtain⟨n,rfl⟩:∃k,n=k+2:={n-2,⋯};apply i6 T.kind rfl [AA (.ref a),AA (.int d),AF,AF,AF] rfl ?_;(iterate 2 ∎);apply{oy T.next,λp hp=>?_};obtain⟨m,e,m0,B,t⟩:∃m:Int,atI [D.int 3,D.int 9] (if 0<(d:Int)then 1 else 0)=AA (.int m)/\0<m/\m<=9/\(d=0->m=3):=by
  by_cases v:d=0
  ·rw[if_neg ⋯];show{3,rfl,∅,∅,λ_=>rfl}
  ·rw[if_pos ⋯];show{9,rfl,∅,∅,λz=>absurd z v}
 apply{_,e,D3 T m0 (h.new hp) λr st1 r0 r1 I1 g=>?_};have g:Kp [a] st st1:=(Kp.refl.new hp).trans g;∎
 by_cases s:r<3
 ·rw[if_pos s];∎;intro j b;have fin:∀k:Kd,k.gd->k.nest<=1->k.ms<=8->(l9 Q).rt k.d (b0 st1 j (.lst [Kd.one.d,(Kd.eith .one .one).d,(Kd.eith .one .one).d])):=λk g1 g2 g3=>c9 (q k _ g1 ⋯ ⋯ (I1.new b) (g.new b));obtain rfl|rfl|rfl:r=0\/r=1\/r=2:=by lia
  ·show{_,rfl,fin .one trivial ∅ ∅}
  ·show{_,rfl,fin (.eith .one .one) {.inr trivial,trivial} ∅ ∅}
  ·show{_,rfl,fin (.eith .one .one) {.inr trivial,trivial} ∅ ∅}
 rw[if_neg s];have F:d≠0:=λz=>by have:=t z;lia
 have sub:((d:Int)-1)=((d-1:Nat):Int):=by lia
 ∎
 by_cases p:r=3
 ·rw[if_pos p];∎;show c9 (q (.way .non (.eith .one .one)) _ {.inl rfl,.inr trivial,trivial} (by erw[Kd.nest];lia) (by erw[Kd.ms];lia) I1 g)
 rw[if_neg p];∎
 by_cases o:r=8
 ·rw[if_pos o];∎;rw[sub];show{oy T.kind,i (d-1) ⋯ ⋯ ⋯ I1 λk st2 g1 g2 g3 I2 K2=>c9 (q (.eith .non k) _ {.inl rfl,g1} (by erw[Kd.nest];lia) (by erw[Kd.ms];lia) I2 (g.trans K2))}
 rw[if_neg o];∎;rw[sub];apply{oy T.kind,i (d-1) ⋯ ⋯ ⋯ I1 λk st2 g1 g2 g3 I2 K2=>?_};∎;intro j b;obtain⟨w,x,u⟩:∃w:String,atI [D.str "either",D.str "both",D.str "way",D.str "both"] (r-4)=AA (.str w)/\∀l:Kd,l.gd->∃c:Kd,c.d=.tup [.str w,k.d,l.d]/\c.gd/\c.nest=1+max k.nest l.nest/\c.ms=2+k.ms+l.ms:=by
  obtain rfl|rfl|rfl|rfl:r=4\/r=5\/r=6\/r=7:=by lia
  ·show{"either",rfl,λl gl=>{.eith k l,rfl,{.inr g1,gl},rfl,rfl}}
  ·show{"both",rfl,λl gl=>{.both k l,rfl,⟨g1,gl⟩,rfl,rfl}}
  ·show{"way",rfl,λl gl=>{.way k l,rfl,{.inr g1,gl},rfl,rfl}}
  ·show{"both",rfl,λl gl=>{.both k l,rfl,⟨g1,gl⟩,rfl,rfl}}
 apply{_,x,oy T.kind,i 0 ⋯ ⋯ ⋯ (I2.new b) λl st3 l1 l2 l3 I3 K3=>?_};let{c,y,A,I,H}:=u l l1;have:=c9 (Q:=Q) (q c st3 A ⋯ ⋯ I3 ((g.trans K2).trans ((Kp.refl.new b).trans K3)));rw[y]at this;show this
def b65{a:AI}{ns:List Int}(N:ns.length<=63)(h:rdS st a (ns.map D.int))(q:∀p f,o4 f p->Kp [] st f->Q (.ref p) f):sem P G (n+1) "_law_deck" [.ref a] st Q:=by
 apply i6 T.deck rfl [AA (.ref a),AF,AF,AF,AF,AF] rfl ?_;intro p A;have B:a≠p:=h.elim (λh=>l5 h A) (λh=>l5 h A);have F:rdS (b0 st p (.lst [])) a (ns.map D.int):=h.elim (λh=>.inl (l0 h A)) (λh=>.inr (l0 h A));have m:∀{f:Sto}{u:Ob},rdS f a (ns.map D.int)->rdS (b0 f p u) a (ns.map D.int):=λh=>h.elim (λh=>.inl (f7 h B)) (λh=>.inr (f7 h B));have k:∀{f:Sto}{u:Ob},Kp [] st f->Kp [] st (b0 f p u):=λK b o nb e=>f7 (K b o nb e) (l5 e A);∎;rw[r9 F];rfl';rw[AV];have w:(if(ns.length:Int)<63 then(ns.length:Int)else 63)=(ns.length:Int):=by split<;>lia
 rw[w];have H:∀z:Int,0<=z % 2147483629/\z % 2147483629<2147483629:=λz=>{HK _ ∅,GM _ ∅};apply{⋯,?_};apply J9 (λl env f=>∃(g:List Int)(x v s t:Option D),(∀d∈l,∃i:Nat,d=.int i/\i<ns.length)/\env=[AA (.ref a),AA (.ref p),x,v,s,t]/\f p=AA (.lst (g.map D.int))/\g.length+60*l.length<=3780/\rdS f a (ns.map D.int)/\Kp [] st f) ?_ ?_ _ _ _ ⟨[],AF,AF,AF,AF,λd hd=>by erw[p8,DN,mem_range]at hd;let{i,hi,rfl}:=hd;show{i,∎,by simpa using hi},rfl,f8,by rw[E7];erw[Ap,Bp];lia,F,Kp.refl.new A⟩
 ·rintro env f ⟨g,x,v,s,t,el,rfl,hd,hb,hra,K⟩;∎;rw[r9 (.inl hd)];rfl';rw[AV];erw[Ap]at hb;apply{⋯,?_};apply J9 (λl env f=>∃(g:List Int)(x v s t:Option D),(∀d∈l,∃i:Int,d=.int i/\0<=i)/\env=[AA (.ref a),AA (.ref p),x,v,s,t]/\f p=AA (.lst (g.map D.int))/\g.length+l.length<=10000/\rdS f a (ns.map D.int)/\Kp [] st f) ?_ ?_ _ _ _ ⟨g,_,_,_,_,λd hd=>by erw[p8,DN]at hd;let{i,_,rfl}:=hd;show{_,rfl,⋯},rfl,hd,by rw[E7];lia,hra,K⟩
  ·rintro env f ⟨g,x,v,s,t,el,rfl,hd,hb,hra,K⟩;∎;rw[dk6 (.inl hd)];intro r I;let{ks,M,_}:=b73 (ns:=g) (lo:=AF) (hi:=AA 150);rw[M];show c9 (q r _ ⟨ks,f8⟩ (K.new I))
  ·rintro d ds env f ih ⟨g,x,v,s,t,el,rfl,hd,hb,hra,K⟩;let{i,rfl,L}:=el d ∎;erw[AW]at hb;apply{trivial,?_};rfl';(iterate 2 ∎);rw[r9 hra];rfl';rw[AV];have fin:∀y:Int,j7 (Zg P G n) (match J6.body.drop 2 with|.cons (.for _ _ b) _=>b.drop 2|_=>.nil) ⟨A4 (λ_=>True) (.n 2) (j7 (Zg P G n) (match J6.body.drop 2 with|.cons (.for _ _ b) _=>b|_=>.nil)) ⟨j7 (Zg P G n) (J6.body.drop 3) (l9 Q),(l9 Q).rt,(l9 Q).bk,(l9 Q).ct⟩ ds,(l9 Q).rt,j7 (Zg P G n) (J6.body.drop 3) (l9 Q),A4 (λ_=>True) (.n 2) (j7 (Zg P G n) (match J6.body.drop 2 with|.cons (.for _ _ b) _=>b|_=>.nil)) ⟨j7 (Zg P G n) (J6.body.drop 3) (l9 Q),(l9 Q).rt,(l9 Q).bk,(l9 Q).ct⟩ ds⟩ [AA (.ref a),AA (.ref p),AA (.int i),v,s,AA (.int y)] f:=by
    intro y;erw[J6,Ss.drop];∎;apply{T3 {∅,∅},X0 {∅,∅},∅,?_};∎;apply{{∅,∅},X0 (by have:=H (y*48271+7919*i+13);lia),X0 {∅,∅},∅,?_};∎;rw[B5 (.inl hd)];apply{trivial,T3 {∅,∅},∅,∅,?_};rw[E1 hd];apply{C8 (by erw[AV];lia),?_};show ih _ _ {g++[_],_,_,_,_,λd hd=>el d (by simp[hd]),rfl,by rw[f8,Aj];rfl,by erw[Ad,AW,Ap];lia,m hra,k K}
   by_cases C:(0:Int)<(ns.length:Int)
   ·rw[if_pos C];∎;rw[r9 hra];rfl';rw[AV,w];apply{C,?_};rw[l7 hra];let{j,J}:=Bk (HK i (show(ns.length:Int)≠0 by lia));have E:j<ns.length:=by have:=GM i C;lia
    rw[J];apply{.int ns[j],by rw[z8,Ah,AJ E];rfl,?_};rfl';show{∅,fin _}
   ·rw[if_neg C];rfl';show fin _
 ·rintro d ds env f ih ⟨g,x,v,s,t,el,rfl,hd,hb,hra,K⟩;let{i,rfl,hi}:=el d ∎;erw[AW]at hb;rfl';∎;rw[l7 hra];apply{.int ns[i],by rw[z8,Ah,AJ hi];rfl,?_};∎;apply{{∅,∅,∅},?_};generalize ns[i]=c
  split
  ·∎;apply{∅,?_};apply J9 (λl env f=>∃(g:List Int)(c:Int)(s:Option D),env=[AA (.ref a),AA (.ref p),AA (.int i),AA (.int c),s,t]/\f p=AA (.lst (g.map D.int))/\g.length+l.length+60*ds.length<=3780/\rdS f a (ns.map D.int)/\Kp [] st f) ?_ ?_ _ _ _ ⟨g,c,_,rfl,hd,by rw[E7];have:Jj 60=60:=rfl;lia,hra,K⟩
   ·rintro env f ⟨g,c,s,rfl,hd,hb,hra,K⟩;apply{trivial,?_};rfl';show ih _ _ {g,_,_,_,_,λd hd=>el d (by simp[hd]),rfl,hd,by simpa using hb,hra,K}
   ·rintro d' ds' env f ih2 ⟨g,c,s,rfl,hd,hb,hra,K⟩;erw[AW]at hb;apply{trivial,?_};rfl';∎
    split
    ·∎;rw[B5 (.inl hd)];apply{trivial,∅,?_};rw[E1 hd];apply{C8 (by erw[AV];lia),?_};∎;show{{∅,∅},ih2 _ _ {g++[_],_,_,rfl,by rw[f8,Aj];rfl,by erw[Ad,AW,Ap];lia,m hra,k K}}
    ·rfl';show ih2 _ _ {g,_,_,rfl,hd,⋯,hra,K}
  ·∎;apply{∅,T3 {∅,∅},X0 {∅,∅},∅,?_};∎;apply{{∅,∅},X0 (by have:=H (c % 2147483629*48271+7919*i+13);lia),X0 {∅,∅},∅,?_};∎;rw[B5 (.inl hd)];apply{trivial,∅,T3 {∅,∅},∅,∅,λp2 hp2=>?_};apply{g.map D.int,_,l0 hd hp2,f8,C7 (by erw[AV,AW,Ap];lia),?_};show ih _ _ {g++[_,_],_,_,_,_,λd hd=>el d (by simp[hd]),rfl,by rw[f8,Aj];rfl,by erw[Ad,AW,Ap];lia,m (hra.elim (λh=>.inl (l0 h hp2)) (λh=>.inr (l0 h hp2))),k (K.new hp2)}
end
section
variable {c k:Kd} {t u v:Pg} {o o1 o2 m2 o3 m3 h h':Nat}
def Gr.mono(g:Gr Γ k o m h t)(c:o<=o1)(b:m<=m1)(a:h<=h'):Gr Γ k o1 m1 h' t:={g.kn,g.told,λu=>BB (g.oc u) c,BB g.sz b,BB g.hg a}
theorem Gr.pair(x:Gr Γ a o1 m1 h t)(y:Gr Γ b o2 m2 h u):Gr Γ (.both a b) (o1+o2) (2+m1+m2) (h+1) (.pair t u):=
 ⟨.pair x.kn y.kn,⟨x.told,y.told⟩,λi=>Fi (x.oc i) (y.oc i),by have:=x.sz;have:=y.sz;erw[Pg.d,l8,l6,o0,D.sz];lia,by have:=x.hg;have:=y.hg;erw[Pg.hgt];lia⟩
theorem Gr.give(x:Gr Γ (.way a b) o1 m1 h t)(y:Gr Γ a o2 m2 h u):Gr Γ b (o1+o2) (2+m1+m2) (h+1) (.give t u):=
 ⟨.give x.kn y.kn,⟨x.told,y.told⟩,λi=>Fi (x.oc i) (y.oc i),by have:=x.sz;have:=y.sz;erw[Pg.d,l8,l6,o0,D.sz];lia,by have:=x.hg;have:=y.hg;erw[Pg.hgt];lia⟩
theorem Gr.lets(x:Gr Γ a o1 m1 h t)(y:Gr (a::Γ) b o2 m2 h u):Gr Γ b (o1+o2) (2+m1+m2) (h+1) (.lets t u):=
 ⟨.lets x.kn y.kn,⟨x.told,y.told⟩,λi=>Fi (x.oc i) (y.oc (i+1)),by have:=x.sz;have:=y.sz;erw[Pg.d,l8,l6,o0,D.sz];lia,by have:=x.hg;have:=y.hg;erw[Pg.hgt];lia⟩
theorem Gr.case(x:Gr Γ (.eith a b) o1 m1 h t)(y:Gr (a::Γ) c o2 m2 h u)(z:Gr (b::Γ) c o3 m3 h v):Gr Γ c (o1+o2+o3) (2+m1+m2+m3) (h+1) (.case t u v):=
 ⟨.case x.kn y.kn z.kn,⟨x.told,y.told,z.told⟩,λi=>Fi (Fi (x.oc i) (y.oc (i+1))) (z.oc (i+1)),by have:=x.sz;have:=y.sz;have:=z.sz;erw[Pg.d,l8,l6,o0,D.sz];lia,by have:=x.hg;have:=y.hg;have:=z.hg;erw[Pg.hgt];lia⟩
theorem Gr.first(x:Gr Γ (.both a b) o m h t):Gr Γ a o (2+m) (h+1) (.first t):=⟨.first x.kn,x.told,x.oc,by have:=x.sz;erw[Pg.d,l8,l6,o0,D.sz];lia,by have:=x.hg;erw[Pg.hgt];lia⟩
theorem Gr.second(x:Gr Γ (.both a b) o m h t):Gr Γ b o (2+m) (h+1) (.second t):=⟨.second x.kn,x.told,x.oc,by have:=x.sz;erw[Pg.d,l8,l6,o0,D.sz];lia,by have:=x.hg;erw[Pg.hgt];lia⟩
theorem Gr.left(x:Gr Γ a o m h t)(c:b.nest<=3):Gr Γ (.eith a b) o (2+b.ms+m) (h+1) (.left b t):=⟨.left x.kn,⟨c,x.told⟩,x.oc,by have:=x.sz;have:=E3 b;erw[Pg.d,l8,l6,o0,D.sz];lia,by have:=x.hg;erw[Pg.hgt];lia⟩
theorem Gr.right(x:Gr Γ b o m h t)(c:a.nest<=3):Gr Γ (.eith a b) o (2+a.ms+m) (h+1) (.right a t):=⟨.right x.kn,⟨c,x.told⟩,x.oc,by have:=x.sz;have:=E3 a;erw[Pg.d,l8,l6,o0,D.sz];lia,by have:=x.hg;erw[Pg.hgt];lia⟩
theorem Gr.way(x:Gr (a::Γ) b o m h t)(c:a.nest<=3):Gr Γ (.way a b) o (2+a.ms+m) (h+1) (.way a t):=⟨.way x.kn,⟨c,x.told⟩,λi=>x.oc (i+1),by have:=x.sz;have:=E3 a;erw[Pg.d,l8,l6,o0,D.sz];lia,by have:=x.hg;erw[Pg.hgt];lia⟩
theorem Gr.never(x:Gr Γ .non o m h t)(a:k.nest<=3):Gr Γ k o (2+k.ms+m) (h+1) (.never k t):=⟨.never x.kn,⟨a,x.told⟩,x.oc,by have:=x.sz;have:=E3 k;erw[Pg.d,l8,l6,o0,D.sz];lia,by have:=x.hg;erw[Pg.hgt];lia⟩
theorem Gr.star:Gr Γ .one 0 2 1 .star:={.star,trivial,λ_=>AS _,AS _,AS _}
theorem Gr.name(e:Γ[n]?=AA k):Gr Γ k 1 3 1 (.name n):={.name e,trivial,λi=>by erw[Pg.oc];split<;>lia,AS _,AS _}
end
abbrev Pg.nn(b:Bool):Pg->Prop
 |.never _ _=>False
 |.star=>b=AE
 |_=>True
structure Grt(b:Bool)(Γ:List Kd)(k:Kd)(o m h:Nat)(p:Pg):Prop extends Gr Γ k o m h p where
 nn:p.nn b
def Grt.mk'{b}{k}{o h}(g:Gr Γ k o m h p)(n:p.nn b):Grt b Γ k o m h p:={g with nn:=n}
abbrev Tr(r m:Nat):Nat:=if r<3 then m else 2*m+42*(r-2)
abbrev Lr(r:Nat):Nat:=if r<3 then 1 else if r<6 then 3 else 6
def T7(h:r<3):Tr r m=m:=if_pos h
def G9(h:3<=r):Tr r m=2*m+42*(r-2):=if_neg ⋯
def U3:Tr r m<=2*m+42*(r-2):=by unfold Tr;split<;>lia
def bq6(h:3<=r)(a:r<=8):2*Lr (r / 2)<=Lr r/\2*Lr ((r-1) / 2)<=Lr r/\3*Lr ((r-1) / 3)<=Lr r/\Lr (r-1)<=Lr r/\3<=Lr r:=by
 obtain rfl|rfl|rfl|rfl|rfl|rfl:r=3\/r=4\/r=5\/r=6\/r=7\/r=8:=by lia
 all_goals decide
structure Ask(k:Kd)(Γ:List Kd)(r:Nat):Prop where
 gw:k.gw
 nest:k.nest+r<=16
 all:∀l∈Γ,l.nest<=3
 len:Γ.length+r<=40
abbrev ah3(P:f9)(G:Gs)(r:Nat):Prop:=∀{n:Nat}{st:Sto}{Q:DK}{a:AI}{k:Kd}{Γ:List Kd},3*r+30<=n->Ask k Γ r->o4 st a->(∀(p:Pg)st',Grt AE Γ k (Lr r) (Tr r k.ms) (18+r) p->o4 st' a->Kp [a] st st'->Q p.d st')->sem P G n "_law_term" [.ref a,k.d,.tup (Γ.map Kd.d),.int r] st Q
section
variable (T:P41 P G) 
include T
def b51(h:3<=r)(U:r<=8)(o:∀s,s<r->ah3 P G s):∀{k:Kd},3*r+29<=n->Ask k Γ r->o4 st da->(∀(p:Pg)g,Grt AE Γ k (Lr r) (Tr r k.ms) (18+r) p->o4 g da->Kp [da] st g->Q p.d g)->sem P G n "_law_made" [.ref da,k.d,.tup (Γ.map Kd.d),.int r] st Q:=by
 intro k W A I q;obtain⟨n,rfl⟩:∃k,n=k+1:={n-1,⋯};let{L1,Z,Y,E,X}:=bq6 h U;have R:=A.len;have m:=A.nest;have sub:((r:Int)-1)=((r-1:Nat):Int):=by lia
 have w:((r:Int) / 2)=((r / 2:Nat):Int):=by lia
 apply i6 T.made rfl [AA (.ref da),AA k.d,AA (.tup (Γ.map Kd.d)),AA (.int r),AF] rfl ?_;unfold am8;cases k with
 |non=>show A.gw.elim
 |one=>
  erw[Kd.d];(iterate 2 ∎);show c9 (q .star _ (.mk' (Gr.star.mono (BM _) (by rw[G9 h];lia) ⋯) rfl) I Kp.refl)
 |both a b=>
  erw[Kd.nest]at m;erw[Kd.d];(iterate 3 ∎);rw[w];apply{oy T.term,{∅,∅},o (r / 2) ⋯ ⋯ {A.gw.1,⋯,A.all,⋯} I λt s1 g1 e f=>?_};∎;rw[w];apply{oy T.term,{∅,∅},o (r / 2) ⋯ ⋯ {A.gw.2,⋯,A.all,⋯} e λu s2 g2 I2 K2=>?_};have y:Tr (r / 2) a.ms<=_:=U3;have V:Tr (r / 2) b.ms<=_:=U3;show c9 (q (.pair t u) _ (.mk' ((g1.pair g2.toGr).mono ⋯ (by rw[G9 h];erw[Kd.ms];lia) ⋯) trivial) I2 (f.trans K2))
 |way a b=>
  erw[Kd.nest]at m;erw[Kd.d];have z:=V7 A.gw.1;have S:=A.gw.2.2;(iterate 3 ∎);apply{oy T.many,V4 T a ⋯ (Kd.few 2 z (AS _)).2 ?_};rfl'
  rcases W0 A.gw.1 with⟨D,i⟩|⟨D,i⟩
  ·rw[if_pos ⋯];∎;rw[sub];apply{oy T.term,C7 (by erw[AV,AW,Ap];lia),o (r-1) ⋯ ⋯ (Γ:=a::Γ) {S,⋯,λl C=>?_,by erw[AW];lia} I λt s1 g1 e f=>?_}
   ·rcases AQ.mp C with rfl|C
    ·lia
    ·show A.all l C
   have y:Tr (r-1) b.ms<=_:=U3;show c9 (q (.way a t) _ (.mk' ((g1.way ⋯).mono E (by rw[G9 h];erw[Kd.ms];lia) ⋯) trivial) e f)
  ·rw[if_neg ⋯];(iterate 2 ∎);subst i;have H:=A.gw.2.1 rfl;show c9 (q (.way .non (.never b (.name 0))) _ (.mk' (((Gr.name (k:=.non) rfl).never H).way (BM _) |>.mono ⋯ (by rw[G9 h];erw[Kd.ms];lia) ⋯) trivial) I Kp.refl)
 |eith a b=>
  erw[Kd.d];have z:=V7 A.gw.1;have O:=A.gw.2.2;have H:=Kd.gd_pos A.gw.2.1;have B:∀(c:Sto),a.sm->o4 c da->Kp [da] st c->j7 (Zg P G n) (.cons (.ret (.tup (.cons (.str "left") (.cons (.ix (.v 1) (.int 2)) (.cons (.call "_law_term" (.cons (.v 0) (.cons (.ix (.v 1) (.int 1)) (.cons (.v 2) (.cons (.bin .Sub (.v 3) (.int 1)) .nil))))) .nil))))) .nil) (l9 Q) [AA (.ref da),AA (.tup [.str "either",a.d,b.d]),AA (.tup (Γ.map Kd.d)),AA (.int r),AF] c:=by
   intro c i e f;∎;rw[sub];apply{oy T.term,o (r-1) ⋯ ⋯ {i.gw,⋯,A.all,⋯} e λt s1 g1 e K2=>?_};have y:Tr (r-1) a.ms<=_:=U3;show c9 (q (.left b t) _ (.mk' ((g1.left ⋯).mono E (by rw[G9 h];erw[Kd.ms];lia) ⋯) trivial) e (f.trans K2))
  have j:∀(c:Sto),o4 c da->Kp [da] st c->j7 (Zg P G n) (.cons (.ret (.tup (.cons (.str "right") (.cons (.ix (.v 1) (.int 1)) (.cons (.call "_law_term" (.cons (.v 0) (.cons (.ix (.v 1) (.int 2)) (.cons (.v 2) (.cons (.bin .Sub (.v 3) (.int 1)) .nil))))) .nil))))) .nil) (l9 Q) [AA (.ref da),AA (.tup [.str "either",a.d,b.d]),AA (.tup (Γ.map Kd.d)),AA (.int r),AF] c:=by
   intro c e f;∎;rw[sub];apply{oy T.term,o (r-1) ⋯ ⋯ {Kd.sm.gw A.gw.2,⋯,A.all,⋯} e λt s1 g1 e K2=>?_};have y:Tr (r-1) b.ms<=_:=U3;show c9 (q (.right a t) _ (.mk' ((g1.right ⋯).mono E (by rw[G9 h];erw[Kd.ms];lia) ⋯) trivial) e (f.trans K2))
  (iterate 5 ∎);apply{oy T.many,V4 T b ⋯ (Kd.few 2 O (AS _)).2 ?_};rfl';rw[if_neg ⋯];apply{oy T.many,V4 T a ⋯ (Kd.few 2 z (AS _)).2 ?_};rfl'
  rcases W0 A.gw.1 with⟨D,i⟩|⟨D,i⟩
  ·rw[if_pos ⋯];obtain⟨n,rfl⟩:∃k,n=k+1:={n-1,⋯};apply{oy T.next,D3 T ∅ I λx s1 x0 x1 e f=>?_};rfl'
   by_cases F:x=0
   ·rw[if_pos F];show B s1 i e f
   ·rw[if_neg F];rfl';show j s1 e f
  ·rw[if_neg ⋯];rfl';show j st I Kp.refl
end
def c90:∀{k:Kd},k.gw->k.pl.nn AE
 |.one,_=>rfl
 |.both a b,_=>trivial
 |.eith a b,_=>by unfold Kd.pl;split<;>trivial
 |.way a b,_=>by unfold Kd.pl;split<;>trivial
 |.non,h=>h.elim
def da9(h:p.nn AD):p.nn AE:=by cases p<;>first|show h|rfl
theorem bs3:∀k:Kd,3<=k.ms
 |.non|.one=>by decide
 |.eith a b|.both a b|.way a b=>by have:=bs3 a;erw[Kd.ms];lia
def Ask.cons{k}{s}(A:Ask k Γ r)(c:a.nest<=3)(d:s<r):Ask k (a::Γ) s:=
 ⟨A.gw,by have:=A.nest;lia,λl b=>by
  rcases AQ.mp b with rfl|b
  ·show c
  ·show A.all l b,by have:=A.len;simp;lia⟩
def Ask.sub{k l}{s}(A:Ask k Γ r)(g:l.gw)(a:l.nest+s<=16)(b:s<=r):Ask l Γ s:=⟨g,a,A.all,by have:=A.len;lia⟩
section
variable (T:P41 P G) 
include T
def a76(y:3<=r)(K:r<=8)(a:∀s,s<r->ah3 P G s){k:Kd}(M:3*r+29<=n)(A:Ask k Γ r)(I:o4 st da)(q:∀(p:Pg)e,Grt AD Γ k (Lr r) (Tr r k.ms) (18+r) p->o4 e da->Kp [da] st e->Q p.d e):sem P G n "_law_taken" [.ref da,k.d,.tup (Γ.map Kd.d),.int r] st Q:=by
 obtain⟨n,rfl⟩:∃k,n=k+2:={n-2,⋯};let{U,S,R,E,O}:=bq6 y K;have H:=A.len;have F:=A.nest;have sub:((r:Int)-1)=((r-1:Nat):Int):=by lia
 have w:(((r-1:Nat):Int) / 2)=(((r-1) / 2:Nat):Int):=by lia
 have j:(((r-1:Nat):Int) / 3)=(((r-1) / 3:Nat):Int):=by lia
 have N:=G9 (m:=k.ms) y;have c:∀x:Kd,[x.d].length+(Γ.map Kd.d).length<=sizeLine:=λx=>C7 (by erw[AV,AW,Ap];lia);apply i6 T.taken rfl [AA (.ref da),AA k.d,AA (.tup (Γ.map Kd.d)),AA (.int r),AF,AF,AF,AF,AF,AF,AF] rfl ?_;∎;apply{oy T.next,D3 T ∅ I λx s1 x0 x5 I1 K1=>?_};∎;obtain⟨d,L,J⟩:∃d:Nat,((1:Int)-if(r:Int)<6 then 1 else 0)=(d:Int)/\d<=1:=by
  split
  ·show{0,rfl,∅}
  ·show{1,rfl,∅}
 rw[L];apply{oy T.kind,J8 T d ⋯ ⋯ I1 λm s2 g1 g2 g3 I2 f=>?_};have h:m.sm:={g1,⋯};have f:=K1.trans f;∎;rw[sub,w];apply{{∅,∅},?_};∎
 by_cases D:x=0
 ·rw[if_pos D];∎;rw[sub];apply{oy T.term,a (r-1) ⋯ ⋯ (k:=.both k m) (A.sub ⟨A.gw,h.gw⟩ (by erw[Kd.nest];lia) ⋯) I2 λt s3 g I3 K3=>?_};have o:Tr (r-1) (Kd.both k m).ms<=_:=U3;erw[Kd.ms]at o;show c9 (q (.first t) _ (.mk' (g.first.mono E (by erw[Kd.ms];lia) ⋯) trivial) I3 (f.trans K3))
 rw[if_neg D];∎
 by_cases C:x=1
 ·rw[if_pos C];∎;rw[sub];apply{oy T.term,a (r-1) ⋯ ⋯ (k:=.both m k) (A.sub ⟨h.gw,A.gw⟩ (by erw[Kd.nest];lia) ⋯) I2 λt s3 g I3 K3=>?_};have o:Tr (r-1) (Kd.both m k).ms<=_:=U3;erw[Kd.ms]at o;show c9 (q (.second t) _ (.mk' (g.second.mono E (by erw[Kd.ms];lia) ⋯) trivial) I3 (f.trans K3))
 rw[if_neg C];∎
 by_cases B:x=2
 ·rw[if_pos B];∎;apply{oy T.term,a ((r-1) / 2) ⋯ ⋯ (k:=.way m k) (A.sub {.inr h,λz=>by rw[z]at g1;show g1.elim,A.gw} (by erw[Kd.nest];lia) ⋯) I2 λt s3 gt I3 K3=>?_};∎;apply{oy T.term,a ((r-1) / 2) ⋯ ⋯ (A.sub h.gw ⋯ ⋯) I3 λu s4 gu I4 K4=>?_};apply c9 (q (.give t u) _ (.mk' ((gt.give gu.toGr).mono ⋯ ?_ ⋯) trivial) I4 ((f.trans K3).trans K4))
  by_cases b:(r-1) / 2<3
  ·rw[T7 b,T7 b];erw[Kd.ms];lia
  ·rw[G9 ⋯,G9 ⋯];erw[Kd.ms];lia
 rw[if_neg B];∎
 by_cases i:x=3
 ·rw[if_pos i];∎;apply{oy T.term,a ((r-1) / 2) ⋯ ⋯ (A.sub h.gw ⋯ ⋯) I2 λt s3 gt I3 K3=>?_};∎;apply{oy T.term,c m,a ((r-1) / 2) ⋯ ⋯ (Γ:=m::Γ) (A.cons ⋯ ⋯) I3 λu s4 gu I4 K4=>?_};apply c9 (q (.lets t u) _ (.mk' ((gt.lets gu.toGr).mono ⋯ ?_ ⋯) trivial) I4 ((f.trans K3).trans K4))
  by_cases b:(r-1) / 2<3
  ·rw[T7 b,T7 b];lia
  ·rw[G9 ⋯,G9 ⋯];lia
 rw[if_neg i];∎;apply{oy T.kind,J8 T 0 ⋯ ⋯ I2 λl s3 l1 l2 l3 I3 K3=>?_};∎;rw[sub,j];apply{{∅,∅},?_};have b:(r-1) / 3<3:=by lia
 ∎;apply{oy T.term,a ((r-1) / 3) ⋯ ⋯ (k:=.eith m l) (A.sub {.inr h,l1,⋯} (by erw[Kd.nest];lia) ⋯) I3 λt s4 gt I4 K4=>?_};∎;apply{oy T.term,c m,a ((r-1) / 3) ⋯ ⋯ (Γ:=m::Γ) (A.cons ⋯ ⋯) I4 λu s5 gu I5 K5=>?_};∎;apply{oy T.term,c l,a ((r-1) / 3) ⋯ ⋯ (Γ:=l::Γ) (A.cons ⋯ ⋯) I5 λv s6 gv I6 K6=>?_};apply c9 (q (.case t u v) _ (.mk' ((gt.case gu.toGr gv.toGr).mono ⋯ ?_ ⋯) trivial) I6 ((((f.trans K3).trans K4).trans K5).trans K6));rw[T7 b,T7 b];erw[Kd.ms];lia
def aq3(r:Nat)(C:r<=8):ah3 P G r:=by
 induction r using HJ with
 |_ r o=>
 intro n st Q t k Γ K A I q;have o:∀s,s<r->ah3 P G s:=λs hs=>o s hs ⋯;obtain⟨n,rfl⟩:∃k,n=k+2:={n-2,⋯};have J:=A.len;have H:=A.nest;apply i6 T.term rfl [AA (.ref t),AA k.d,AA (.tup (Γ.map Kd.d)),AA (.int r),AF,AF] rfl ?_;∎;erw[AV];apply{{⋯,⋯},by rw[E7];lia,?_};apply R5 (λl acc env st'=>st'=st/\(∀d∈l,∃i:Nat,d=.int i/\i<Γ.length)/\∃(a:List Nat)(x:Option D),acc=a.map (λj:Nat=>D.int j)/\(∀j∈a,Γ[j]?=AA k)/\env=[AA k.d,AA (.tup (Γ.map Kd.d)),x]/\a.length+l.length<=40) ?_ ?_ _ _ _ _ ⟨rfl,λd hd=>by erw[p8,DN,mem_range]at hd;let{i,hi,rfl}:=hd;show{i,∎,by simpa using hi},[],AF,rfl,nofun,rfl,by rw[E7];erw[Ap,Bp];lia⟩
 ·rintro acc env st' ⟨rfl,_,a,x,rfl,hj,_,hl⟩;apply{trivial,λp hp=>?_};∎;apply{oy T.next,D3 T ∅ (I.new hp) λx s1 x0 x4 I1 c=>?_};have b:s1 p=AA (.lst (a.map λj:Nat=>D.int j)):=c.at' f8 (by simpa using(I.ne hp).symm);have c:Kp [t] st' s1:=(Kp.refl.new hp).trans c;∎;rw[r9 (.inl b)];rfl';rw[AV];have y:j7 (Zg P G (n+1)) (Y7.body.drop 3) (l9 Q) [AA (.ref t),AA k.d,AA (.tup (Γ.map Kd.d)),AA (.int r),AA (.ref p),AA (.int x)] s1:=by
   erw[Y7,Ss.drop];∎
   by_cases E:r<3
   ·rw[if_pos ⋯];∎;show{oy T.plain,V1 T A.gw ⋯ (c9 (q _ _ (.mk' ((X5 A.gw).mono (BM _) (by rw[T7 E];lia) ⋯) (c90 A.gw)) I1 c))}
   ·rw[if_neg ⋯];∎
    by_cases B:x=3
    ·rw[if_pos B];∎;show{oy T.taken,a76 T ⋯ C o ⋯ A I1 λp s2 g I2 K2=>c9 (q p s2 (.mk' g.toGr (da9 g.nn)) I2 (c.trans K2))}
    ·rw[if_neg B];∎;show{oy T.made,b51 T ⋯ C o ⋯ A I1 λp s2 g I2 K2=>c9 (q p s2 g I2 (c.trans K2))}
  have f:0<a.length->j7 (Zg P G (n+1)) (.cons (.ret (.tup (.cons (.str "name") (.cons (.ix (.v 4) (.call "_law_next" (.cons (.v 0) (.cons (.len (.v 4)) .nil)))) .nil)))) .nil) (l9 Q) [AA (.ref t),AA k.d,AA (.tup (Γ.map Kd.d)),AA (.int r),AA (.ref p),AA (.int x)] s1:=by
   intro w;∎;rw[r9 (.inl b)];rfl';rw[AV];apply{oy T.next,D3 T ⋯ I1 λy s2 y0 y1 I2 K2=>?_};have u:s2 p=AA (.lst (a.map λj:Nat=>D.int j)):=K2.at' b (by simpa using(I.ne hp).symm);rw[l7 (.inl u)];let{j,rfl}:=Bk y0;have m:j<a.length:=by lia
   apply{.int a[j],by rw[z8,Ah,AJ m];rfl,c9 (q (.name a[j]) _ (.mk' ((Gr.name (hj _ (Ez m))).mono ?_ ?_ ⋯) trivial) I2 (c.trans K2))}
   ·unfold Lr;split
    ·show AS _
    ·split<;>decide
   ·have:=bs3 k;unfold Tr;split<;>lia
  by_cases w:0<a.length
  ·rw[if_pos ⋯]
   by_cases F:x<2
   ·rw[if_pos F];show f w
   ·rw[if_neg F]
    by_cases E:r<3
    ·rw[if_pos ⋯];show f w
    ·rw[if_neg ⋯];rfl';show y
  ·rw[if_neg ⋯];show y
 ·rintro d ds acc env st' ih2 ⟨rfl,hd,a,x,rfl,hj,rfl,hl⟩;let{i,rfl,hi}:=hd d ∎;erw[AW]at hl;rfl';apply{Γ[i].d,by rw[z8,Ah,AJ hi];rfl,?_};apply{N0 _,N0 _,?_,?_}
  ·have:=A.all _ (Ez hi);show BB (HZ _ _) (by rw[U0];lia)
  rw[at2]
  by_cases e:Γ[i]=k
  ·erw[e,decide_true,ax1,if_true];show ih2 _ _ _ {rfl,λd h=>hd d (by simp[h]),a++[i],_,∎,λj hj'=>by
    rcases BO.mp hj' with z|z
    ·show hj j z
    ·rw[Br.mp z,AJ hi,e],rfl,by erw[Ad,AW,Ap];lia}
  ·erw[e,decide_false,ax1,if_false,BD];show ih2 _ _ _ {rfl,λd h=>hd d (by simp[h]),a,_,rfl,hj,rfl,⋯}
end
abbrev Pg.w:Pg->String
 |.name _=>"name"|.star=>"star"|.pair _ _=>"pair"|.first _=>"first"|.second _=>"second"|.left _ _=>"left"|.right _ _=>"right"
 |.case _ _ _=>"case"|.way _ _=>"way"|.give _ _=>"give"|.lets _ _=>"let"|.never _ _=>"never"
abbrev Pg.frt:Pg->List D
 |.name n=>[.int n]|.left b _=>[b.d]|.right b _=>[b.d]|.way b _=>[b.d]|.never b _=>[b.d]|_=>[]
def Pg.d_w(p:Pg)u:p.d=.tup (.str p.w::(p.frt++(p.kidsU u).map λc=>c.1.d)):=by cases p<;>rfl
def Pg.mp_w u(h:p.w≠"name"):(p.mp f u).d=.tup (.str p.w::(p.frt++(p.kidsU u).map λc=>(c.1.mp f c.2).d)):=by cases p<;>first|rfl|show absurd rfl h
@[reducible]noncomputable def isW(w:String)(l:List D):Prop:=(l.any λy=>deq y (.str w))=AD
abbrev ax7(w:String):List (Nat×Nat):=
 if isW w [.str "name",.str "star"]then []else if isW w [.str "pair",.str "give"]then [(1,0),(2,0)]else if isW w [.str "first",.str "second"]then [(1,0)]
 else if isW w [.str "left",.str "right",.str "never"]then [(2,0)]else if w="way" then [(2,1)]else if w="let" then [(1,0),(2,1)]else [(1,0),(2,1),(3,1)]
@[reducible]noncomputable def aw4(x:Nat×Nat):D:=.tup [.int x.1,.int x.2]
def cq9(p:Pg)u:ax7 p.w=(p.kidsU u).mapIdx λi c=>(1+p.frt.length+i,c.2-u):=by
 cases p<;>simp[Pg.kidsU,Pg.kids,Pg.more,Pg.frt,Pg.w]<;>decide
section
variable (T:P41 P G) 
include T
def b31{w:String}{c:List D}(q:∀a,st a=AF->Q (.ref a) (b0 st a (.lst ((ax7 w).map aw4)))):sem P G (n+1) "_law_under" [.tup (.str w::c)] st Q:=by
 have b:∀l:List String,D.pures (l.map λx=>D.str (Aa x))=AD:=λl=>by
  induction l with
  |nil=>rfl
  |cons x l m=>rw[Au,F9,t0,m];rfl
 unfold ax7 at q;apply i6 T.under rfl [AA (.tup (.str w::c)),AF] rfl ?_;(iterate 2 ∎);apply{t0 _,b ["name","star"],BM _,?_}
 by_cases i:isW w [.str "name",.str "star"]
 ·rw[if_pos i]at q ⊢;∎;show λa ha=>c9 (q a ha)
 rw[if_neg i]at q ⊢;∎;apply{t0 _,b ["pair","give"],BM _,?_}
 by_cases h:isW w [.str "pair",.str "give"]
 ·rw[if_pos h]at q ⊢;∎;show λa ha=>c9 (q a ha)
 rw[if_neg h]at q ⊢;∎;apply{t0 _,b ["first","second"],BM _,?_}
 by_cases g:isW w [.str "first",.str "second"]
 ·rw[if_pos g]at q ⊢;∎;show λa ha=>c9 (q a ha)
 rw[if_neg g]at q ⊢;∎;apply{t0 _,b ["left","right","never"],BM _,?_}
 by_cases f:isW w [.str "left",.str "right",.str "never"]
 ·rw[if_pos f]at q ⊢;∎;show λa ha=>c9 (q a ha)
 rw[if_neg f]at q ⊢;∎
 by_cases e:w="way"
 ·rw[if_pos e]at q ⊢;∎;show λa ha=>c9 (q a ha)
 rw[if_neg e]at q ⊢;∎
 by_cases d:w="let"
 ·rw[if_pos d]at q ⊢;∎;show λa ha=>c9 (q a ha)
 rw[if_neg d]at q ⊢;∎;show λa ha=>c9 (q a ha)
end
def Pg.w_name(h:p.w="name"):∃n,p=.name n:=by cases p<;>simp[Pg.w]at h ⊢
def Pg.hgt_lt(p:Pg)u:∀c∈p.kidsU u,c.1.hgt<p.hgt/\u<=c.2:=by
 cases p<;>simp[Pg.hgt,Pg.kidsU,Pg.kids,Pg.more,Dr]<;>lia
@[reducible]noncomputable def lpB(F:Str):Ss:=.cons (.set 3 (.list (.v 0))) (.cons (.for (.tup [4,5]) (.seq (.call "_law_under" (.cons (.v 0) .nil))) (.cons (.put (.v 3) (.v 4) (.call F (.cons (.ix (.v 0) (.v 4)) (.cons (.v 1) (.cons (.bin .Add (.v 2) (.v 5)) .nil))))) .nil)) (.cons (.ret (.tuple (.v 3))) .nil))
section
variable (T:P41 P G) 
include T
def be7{F:Str}(I:(P F).isSome=AD){x:D}{y:Int}(E:p.w≠"name")
  (B:∀c∈p.kidsU u,∀(st:Sto)(Q:DK),(∀b,Kp [] st b->Q (c.1.mp f c.2).d b)->sem P G (n+1) F [c.1.d,x,.int (y+((c.2-u:Nat):Int))] st Q) (q:∀b,Kp [] st b->Q (p.mp f u).d b) :
  j7 (Zg P G (n+1)) (lpB F) (l9 Q) [AA p.d,AA x,AA (.int y),AF,AF,AF] st:=by
 rw[Pg.mp_w u E]at q;rw[Pg.d_w p u];generalize H:p.kidsU u=ks at B q;have z:=cq9 p u;rw[H]at z;∎;intro h A;∎;apply{oy T.under,b31 T λa ha=>?_};rw[z];rfl';have m:h≠a:=l5 f8 ha;apply{_,.inl f8,?_};generalize C:FU aw4 (EV (λi c=>(1+p.frt.length+i,c.2-u)) ks)=L;have N:L.length=ks.length:=by rw[<-C];simp
 have M:∀(i:Nat)(hi:i<ks.length),L[i]?=AA (aw4 (1+p.frt.length+i,ks[i].2-u)):=λi hi=>by rw[<-C];simp[hi]
 have k:∀{b:Sto}{v:Ob},rdS b a L->rdS (b0 b h v) a L:=λr=>r.elim (λr=>.inl (f7 r m.symm)) (λr=>.inr (f7 r m.symm));apply J9 (λl env b=>∃(i:Nat)(t s:Option D),i<=ks.length/\l=L.drop i/\env=[AA (.tup (.str p.w::(p.frt++ks.map λc=>c.1.d))),AA x,AA (.int y),AA (.ref h),t,s]/\b h=AA (.lst ((.str p.w::p.frt)++((ks.take i).map (λc=>(c.1.mp f c.2).d)++(ks.drop i).map λc=>c.1.d)))/\rdS b a L/\Kp [] st b) ?_ ?_ _ _ _ {0,AF,AF,BM _,rfl,rfl,l0 f8 ha,.inl f8,(Kp.refl.new A).new ha}
 ·rintro env b ⟨i,t,s,hi,el,rfl,h1,h2,K⟩;have e:i=ks.length:=by have:=congrArg Cf el;rw[Bv]at this;erw[Ap]at this;lia
  subst e;apply{h2,?_};∎;apply{_,.inl h1,c9 ?_};have:=q b K;simpa using this
 ·rintro d ds env b ih ⟨i,t,s,hi,el,rfl,h1,h2,K⟩;apply{h2,?_};have j:i<ks.length:=by
   have:=congrArg Cf el;rw[Bv,AW]at this;lia
  rw[CV ⋯]at el;let{rfl,rfl}:=Iv el;have g:=M i j;rw[AJ ⋯]at g;rw[At g];rfl';∎;apply{I,ks[i].1.d,?_,B ks[i] (Ez j) b _ λs2 K2=>?_}
  ·rw[z8,<-CT,Af (by erw[AW];lia),Ah];rw[show 1+p.frt.length+i-(D.str p.w::p.frt).length=i by erw[AW];lia,AJ j];rfl
  have J:=K2.at' h1 ∎;apply{h,_,1+p.frt.length+i,_,rfl,rfl,J,?_,?_}
  ·erw[Ad,AW,AV,Bu,Bv];unfold ixN;rw[if_pos ⋯,if_pos ⋯,Bp]
  apply ih _ _ {i+1,_,_,j,rfl,rfl,?_,?_,λb o nb e=>f7 (K2.at' (K.at' e ∎) ∎) (l5 e A)}
  ·rw[f8]
   congr 2
   rw[IQ _ _ (by erw[AW];lia),IQ _ _ (by erw[AW,AV,Bu];lia)];rw[CV j,Au,show 1+p.frt.length+i-(D.str p.w::p.frt).length-((ks.take i).map λc=>(c.1.mp f c.2).d).length=0 by erw[AW,AV,Bu];lia,List.set_cons_zero];rw[List.take_succ_eq_append_getElem j,Aj,Cq];rfl
  ·show k (h2.elim (λr=>.inl (K2.at' r ∎)) (λr=>.inr (K2.at' r ∎)))
theorem aa2:∀(n:Nat)(p:Pg)(u:Nat){st:Sto}{Q:DK},p.hgt+2<=n->(∀a,Kp [] st a->Q (p.mp (lfF m l) u).d a)->sem P G n "_law_lift" [p.d,.int m,.int (u+l:Nat)] st Q
 |0,p,u,st,Q,g,q=>by lia
 |1,p,u,st,Q,g,q=>by lia
 |n+2,p,u,st,Q,g,q=>by
  apply i6 T.lift rfl [AA p.d,AA (.int m),AA (.int (u+l:Nat)),AF,AF,AF] rfl ?_;by_cases b:p.w="name"
  ·let{k,rfl}:=Pg.w_name b;erw[Pg.d];(iterate 2 ∎);apply{T3 (by split<;>decide),?_};have:=q st Kp.refl;erw[Pg.mp,lfF]at this
   by_cases h:u+l<=k
   ·rw[if_pos h]at this;rw[if_pos ⋯];show c9 (by simpa[Pg.d]using this)
   ·rw[if_neg h]at this;rw[if_neg ⋯];show c9 (by simpa[Pg.d]using this)
  ·have:=be7 T (n:=n) (F:="_law_lift") (oy T.lift) (x:=.int m) (y:=(u+l:Nat)) (f:=lfF m l) (u:=u) b (λc hc st Q k=>by
    have z:=Pg.hgt_lt p u c hc;have e:(((u+l:Nat):Int)+((c.2-u:Nat):Int))=((c.2+l:Nat):Int):=by lia
    rw[e];show aa2 (n+1) c.1 c.2 ⋯ k) q
   rw[Pg.d_w p u]at this ⊢;∎;rw[if_neg b];show this
theorem P8:∀(n:Nat)(p:Pg)(u:Nat){st:Sto}{Q:DK},p.hgt+o.hgt+3<=n->(∀st',Kp [] st st'->Q (p.mp (sbF o) u).d st')->sem P G n "_law_put" [p.d,o.d,.int u] st Q
 |0,p,u,st,Q,g,q=>by lia
 |1,p,u,st,Q,g,q=>by lia
 |n+2,p,u,st,Q,g,q=>by
  apply i6 T.put rfl [AA p.d,AA o.d,AA (.int u),AF,AF,AF] rfl ?_;by_cases b:p.w="name"
  ·let{k,rfl}:=Pg.w_name b;erw[Pg.mp,sbF]at q;erw[Pg.d];∎
   by_cases h:k=u
   ·rw[if_neg ⋯,if_pos h]at q;rw[if_pos ⋯];∎;show{oy T.lift,aa2 T (m:=u) (l:=0) (n+1) o 0 ⋯ λst' K=>c9 (q st' K)}
   ·rw[if_neg ⋯];(iterate 2 ∎);have:=q st Kp.refl
    by_cases i:k<u
    ·rw[if_pos i]at this;rw[if_neg ⋯];show c9 (by simpa[Pg.d]using this)
    ·rw[if_neg i,if_neg h]at this;rw[if_pos ⋯];have e:(k:Int)-1=((k-1:Nat):Int):=by lia
     rw[e];show c9 this
  ·have:=be7 T (n:=n) (F:="_law_put") (oy T.put) (x:=o.d) (y:=u) (f:=sbF o) (u:=u) b (λc hc st Q k=>by
    have z:=Pg.hgt_lt p u c hc;have e:((u:Int)+((c.2-u:Nat):Int))=((c.2:Nat):Int):=by lia
    rw[e];show P8 (n+1) c.1 c.2 ⋯ k) q
   rw[Pg.d_w p u]at this ⊢;∎;rw[if_neg b];∎;rw[if_neg b];show this
end
abbrev ah1:List (Str×D):=[("let",.fn "forth_let"),("give",.fn "forth_give"),("first",.fn "forth_first"),("second",.fn "forth_second"),("left",.fn "forth_left"),("right",.fn "forth_right"),("star",.fn "forth_star"),("pair",.fn "forth_pair"),("way",.fn "forth_way"),("never",.fn "forth_never")]
abbrev Q2:List Key:=[.inr "let",.inr "give",.inr "first",.inr "second",.inr "left",.inr "right",.inr "star",.inr "pair",.inr "way",.inr "split",.inr "never"]
structure PBk(P:f9)(G:Gs):Prop where
 alike:P "are_alike"=AA ad7
 few:G.cst "FEW"=AA (.int 2000)
 words:G.cst "WORDS"=AA (.ktup Q2)
 forth:G.tab "FORTH"=ah1
 is:P "is_step"=AA Y8
 over:P "is_step_over"=AA M4
 flet:P "forth_let"=AA al6
 fgive:P "forth_give"=AA aj7
 ffirst:P "forth_first"=AA aj3
 fsecond:P "forth_second"=AA aj1
 fleft:P "forth_left"=AA ak5
 fright:P "forth_right"=AA aj4
 fstar:P "forth_star"=AA ak4
 fpair:P "forth_pair"=AA aj8
 fway:P "forth_way"=AA ak6
 fsplit:P "forth_split"=AA ad5
 split:P "split"=AA ao3
 fnever:P "forth_never"=AA aj2
section
def cr9(h:p.w="let"):∃t u,p=.lets t u:=by cases p<;>first|show⟨_,_,rfl⟩|show absurd h (of_decide_eq_false rfl)
def c27(h:p.w="give"):∃t u,p=.give t u:=by cases p<;>first|show⟨_,_,rfl⟩|show absurd h (of_decide_eq_false rfl)
def bm5(h:p.w="pair"):∃t u,p=.pair t u:=by cases p<;>first|show⟨_,_,rfl⟩|show absurd h (of_decide_eq_false rfl)
def bp9(h:p.w="way"):∃t u,p=.way t u:=by cases p<;>first|show⟨_,_,rfl⟩|show absurd h (of_decide_eq_false rfl)
def cx9(h:p.w="left"):∃t u,p=.left t u:=by cases p<;>first|show⟨_,_,rfl⟩|show absurd h (of_decide_eq_false rfl)
def co2(h:p.w="right"):∃t u,p=.right t u:=by cases p<;>first|show⟨_,_,rfl⟩|show absurd h (of_decide_eq_false rfl)
def cd8(h:p.w="first"):∃t,p=.first t:=by cases p<;>first|show⟨_,rfl⟩|show absurd h (of_decide_eq_false rfl)
def cc6(h:p.w="second"):∃t,p=.second t:=by cases p<;>first|show⟨_,rfl⟩|show absurd h (of_decide_eq_false rfl)
def cm7(h:p.w="never"):∃t u,p=.never t u:=by cases p<;>first|show⟨_,_,rfl⟩|show absurd h (of_decide_eq_false rfl)
def au1(h:p.w="case"):∃t u v,p=.case t u v:=by cases p<;>first|show⟨_,_,_,rfl⟩|show absurd h (of_decide_eq_false rfl)
structure Ft(p:Pg):Prop where
 kn:p.kn 3
 sz:p.d.sz<=1700
theorem be5{d}:∀{l},d∈l->d.sz<=D.szs l
 |e::l,h=>by
  rw[l6]
  rcases AQ.mp h with rfl|h
  ·lia
  ·have:=be5 h;lia
def Pg.kn_kid(h:p.kn m)(a:c∈p.kids):c.kn m:=by
 cases p<;>erw[Pg.kids,AQ,AX,or_false]at a
 all_goals first|rfl|(subst a;first|show h|show h.2)|(rcases a with rfl|rfl;show h.1;show h.2)|(rcases a with rfl|rfl|rfl;show h.1;show h.2.1;show h.2.2)
def Ft.kid(h:Ft p)(a:c∈p.kids):Ft c:=by
 apply{Pg.kn_kid h.kn a,BB ?_ h.sz};rw[Pg.d_w p 0,l8,l6,bh2];have b:c.d∈(p.kidsU 0).map λc=>c.1.d:=by
  have e:((p.kidsU 0).map λc=>c.1.d)=p.kids.map Pg.d:=by cases p<;>rfl
  rw[e];show List.mem_map_of_mem a
 have:=be5 b;lia
def cc2(p:Pg):2*p.parts<=p.d.sz/\p.hgt<=p.parts:=by
 induction p<;>erw[Pg.parts,Pg.d,Pg.hgt,l8,l6,o0,D.sz]<;>lia
theorem Ft.parts(h:Ft p):p.parts<=850/\p.hgt<=850:=by
 have:=cc2 p;have:=h.sz;lia
end
abbrev Vs(W:Pg->Pg->Prop)(x y:Pg):Prop:=∃z,W x z/\z.d=y.d
abbrev Fok(P:f9)(G:Gs)(n:Nat)(f:Str)(W:Pg->Pg->Prop):Prop:=∀{x y:Pg}{st:Sto}{Q:DK},Ft x->Ft y->(∀b st',(b=AD↔Vs W x y)->Kp [] st st'->Q (.bl b) st')->sem P G n f [x.d,y.d] st Q
def hw_(h:p.d=q.d):=by
 rw[Pg.d_w p 0,Pg.d_w q 0]at h;erw[D.tup.injEq,An,D.str.injEq,v5]at h;show h.1
def Vs.no{W}(h:∀z,W x z->z.d≠y.d):AE=AD↔Vs W x y:={nofun,λ⟨z,a,b⟩=>absurd b (h z a)}
section
variable (B:PBk P G) (J:PNm P G) 
include B
def J7(c:Ft x)(q:∀b a,(b=AD↔x.d=y.d)->Kp [] st a->Q (.bl b) a):sem P G (n+1) "are_alike" [x.d,y.d] st Q:=
 b03 B.alike B.few (ag5 x) (ag5 y) (BB c.sz ∅) q
include J
def bj6(g:14<=n):Fok P G (n+1) "forth_let" λx y=>∃t u,x=.lets t u/\y=u.sb t:=by
 intro x y st Q a f q;apply i6 B.flet rfl [AA x.d,AA y.d] rfl ?_;by_cases h:x.w="let"
 ·let{t,u,rfl}:=cr9 h;have l:=(a.kid (c:=t) (by simp[Pg.kids])).parts;have j:=(a.kid (c:=u) (by simp[Pg.kids])).parts;obtain⟨n,rfl⟩:∃k,n=k+1:={n-1,⋯};erw[Pg.d];∎;show{oy B.alike,by rw[J.put];rfl,R6 J ⋯ ⋯ ⋯ g λs1 K1=>J7 B f λb s2 hb K2=>c9 (q b s2 (hb.trans {λe=>{_,⟨_,_,rfl,rfl⟩,e.symm},λ⟨_,⟨t',i,o,m⟩,e⟩=>by simp_all}) (K1.trans K2))}
 ·rw[Pg.d_w x 0];∎;rw[if_neg h];show c9 (q AE st (Vs.no λ_⟨t,u,e,_⟩=>absurd (by rw[e];rfl) h) Kp.refl)
def bg1(j:14<=n):Fok P G (n+1) "forth_give" λx y=>∃a t u,x=.give (.way a u) t/\y=u.sb t:=by
 intro x y st Q g i q;apply i6 B.fgive rfl [AA x.d,AA y.d] rfl ?_;by_cases h:x.w="give"
 ·let{z,t,rfl}:=c27 h;have hz:=g.kid (c:=z) (by simp[Pg.kids]);have r:=(g.kid (c:=t) (by simp[Pg.kids])).parts
  by_cases f:z.w="way"
  ·let{a,u,rfl}:=bp9 f;have p:=(hz.kid (c:=u) (by simp[Pg.kids])).parts;obtain⟨n,rfl⟩:∃k,n=k+1:={n-1,⋯};erw[Pg.d];∎;show{oy B.alike,by rw[J.put];rfl,R6 J ⋯ ⋯ ⋯ j λs1 K1=>J7 B i λb s2 hb K2=>c9 (q b s2 (hb.trans {λe=>{_,⟨_,_,_,rfl,rfl⟩,e.symm},λ⟨_,⟨s,t',o,m,l⟩,e⟩=>by cases m;subst l;show e.symm}) (K1.trans K2))}
  ·erw[Pg.d];rw[Pg.d_w z 0];∎;rw[if_neg f];show c9 (q AE st (Vs.no λ_⟨a,t,u,e,_⟩=>absurd (by cases e;rfl) f) Kp.refl)
 ·rw[Pg.d_w x 0];∎;rw[if_neg h];show c9 (q AE st (Vs.no λ_⟨a,t,u,e,_⟩=>absurd (by rw[e];rfl) h) Kp.refl)
def bf5(j:14<=n):Fok P G (n+1) "forth_left" λx y=>∃c t u v,x=.case (.left c t) u v/\y=u.sb t:=by
 intro x y st Q g i q;apply i6 B.fleft rfl [AA x.d,AA y.d] rfl ?_;by_cases h:x.w="case"
 ·let{z,u,v,rfl}:=au1 h;have hz:=g.kid (c:=z) (by simp[Pg.kids]);have r:=(g.kid (c:=u) (by simp[Pg.kids])).parts
  by_cases f:z.w="left"
  ·let{a,t,rfl}:=cx9 f;have s:=(hz.kid (c:=t) (by simp[Pg.kids])).parts;obtain⟨n,rfl⟩:∃k,n=k+1:={n-1,⋯};erw[Pg.d];∎;show{oy B.alike,by rw[J.put];rfl,R6 J ⋯ ⋯ ⋯ j λs1 K1=>J7 B i λb s2 hb K2=>c9 (q b s2 (hb.trans {λe=>{_,⟨_,_,_,_,rfl,rfl⟩,e.symm},λ⟨_,⟨A,t',p,o,m,l⟩,e⟩=>by cases m;subst l;show e.symm}) (K1.trans K2))}
  ·erw[Pg.d];rw[Pg.d_w z 0];∎;rw[if_neg f];show c9 (q AE st (Vs.no λ_⟨a,t,u,v,e,_⟩=>absurd (by cases e;rfl) f) Kp.refl)
 ·rw[Pg.d_w x 0];∎;rw[if_neg h];show c9 (q AE st (Vs.no λ_⟨a,t,u,v,e,_⟩=>absurd (by rw[e];rfl) h) Kp.refl)
def bb0(j:14<=n):Fok P G (n+1) "forth_right" λx y=>∃c t u v,x=.case (.right c t) u v/\y=v.sb t:=by
 intro x y st Q g i q;apply i6 B.fright rfl [AA x.d,AA y.d] rfl ?_;by_cases h:x.w="case"
 ·let{z,u,v,rfl}:=au1 h;have hz:=g.kid (c:=z) (by simp[Pg.kids]);have r:=(g.kid (c:=v) (by simp[Pg.kids])).parts
  by_cases f:z.w="right"
  ·let{a,t,rfl}:=co2 f;have s:=(hz.kid (c:=t) (by simp[Pg.kids])).parts;obtain⟨n,rfl⟩:∃k,n=k+1:={n-1,⋯};erw[Pg.d];∎;show{oy B.alike,by rw[J.put];rfl,R6 J ⋯ ⋯ ⋯ j λs1 K1=>J7 B i λb s2 hb K2=>c9 (q b s2 (hb.trans {λe=>{_,⟨_,_,_,_,rfl,rfl⟩,e.symm},λ⟨_,⟨A,t',p,o,m,l⟩,e⟩=>by cases m;subst l;show e.symm}) (K1.trans K2))}
  ·erw[Pg.d];rw[Pg.d_w z 0];∎;rw[if_neg f];show c9 (q AE st (Vs.no λ_⟨a,t,u,v,e,_⟩=>absurd (by cases e;rfl) f) Kp.refl)
 ·rw[Pg.d_w x 0];∎;rw[if_neg h];show c9 (q AE st (Vs.no λ_⟨a,t,u,v,e,_⟩=>absurd (by rw[e];rfl) h) Kp.refl)
def bk5(r:14<=n):Fok P G (n+1) "forth_way" λx y=>∃a,y=.way a (.give (x.lf 1 0) (.name 0)):=by
 intro x y st Q g f q;apply i6 B.fway rfl [AA x.d,AA y.d] rfl ?_;by_cases h:y.w="way"
 ·let{a,u,rfl}:=bp9 h;have i:=f.kid (c:=u) (by simp[Pg.kids]);have o:=g.parts;obtain⟨n,rfl⟩:∃k,n=k+1:={n-1,⋯};erw[Pg.d];∎;show{oy B.alike,by rw[J.lift];rfl,ap1 J (p:=x) (m:=1) (l:=0) ⋯ ⋯ λs1 K1=>J7 B (y:=.give (x.lf 1 0) (.name 0)) i λb s2 hb K2=>c9 (q b s2 (hb.trans {λe=>{_,⟨a,rfl⟩,by erw[Pg.d]at e ⊢;rw[e]},λ⟨_,⟨s,j⟩,e⟩=>by subst j;erw[Pg.d,D.tup.injEq,An]at e ⊢;show e.2.2.1.symm}) (K1.trans K2))}
 ·rw[Pg.d_w y 0];∎;rw[if_neg h];show c9 (q AE st (Vs.no λ_⟨a,e⟩e2=>h (by rw[<-hw_ e2,e];rfl)) Kp.refl)
omit J
theorem bd9:Fok P G (n+2) "forth_first" λx y=>∃t u,x=.first (.pair t u)/\y=t:=by
 intro x y st Q j c q;apply i6 B.ffirst rfl [AA x.d,AA y.d] rfl ?_;by_cases h:x.w="first"
 ·let{z,rfl}:=cd8 h
  by_cases a:z.w="pair"
  ·let{t,u,rfl}:=bm5 a;erw[Pg.d];∎;show{oy B.alike,J7 B c λb s2 hb K2=>c9 (q b s2 (hb.trans {λe=>{_,⟨_,_,rfl,rfl⟩,e.symm},λ⟨_,⟨t',i,g,f⟩,e⟩=>by cases g;subst f;show e.symm}) K2)}
  ·erw[Pg.d];rw[Pg.d_w z 0];∎;rw[if_neg a];show c9 (q AE st (Vs.no λ_⟨t,u,e,_⟩=>absurd (by cases e;rfl) a) Kp.refl)
 ·rw[Pg.d_w x 0];∎;rw[if_neg h];show c9 (q AE st (Vs.no λ_⟨t,u,e,_⟩=>absurd (by rw[e];rfl) h) Kp.refl)
theorem a74:Fok P G (n+2) "forth_second" λx y=>∃t u,x=.second (.pair u t)/\y=t:=by
 intro x y st Q j c q;apply i6 B.fsecond rfl [AA x.d,AA y.d] rfl ?_;by_cases h:x.w="second"
 ·let{z,rfl}:=cc6 h
  by_cases a:z.w="pair"
  ·let{t,u,rfl}:=bm5 a;erw[Pg.d];∎;show{oy B.alike,J7 B c λb s2 hb K2=>c9 (q b s2 (hb.trans {λe=>{_,⟨_,_,rfl,rfl⟩,e.symm},λ⟨_,⟨t',i,g,f⟩,e⟩=>by cases g;subst f;show e.symm}) K2)}
  ·erw[Pg.d];rw[Pg.d_w z 0];∎;rw[if_neg a];show c9 (q AE st (Vs.no λ_⟨t,u,e,_⟩=>absurd (by cases e;rfl) a) Kp.refl)
 ·rw[Pg.d_w x 0];∎;rw[if_neg h];show c9 (q AE st (Vs.no λ_⟨t,u,e,_⟩=>absurd (by rw[e];rfl) h) Kp.refl)
theorem bg6:Fok P G (n+1) "forth_star" λx y=>y=.star:=by
 intro x y st Q b a q;apply i6 B.fstar rfl [AA x.d,AA y.d] rfl ?_;∎;show{be6 y,be6 .star,BB (FY _ _) ∅,c9 (q _ st ((aa5 _ _ (ag5 y) (ag5 .star)).trans {λe=>{.star,rfl,e.symm},λ⟨_,c,e⟩=>by simp_all}) Kp.refl)}
theorem bf0:Fok P G (n+2) "forth_pair" λx y=>y=.pair (.first x) (.second x):=by
 intro x y st Q c a q;apply i6 B.fpair rfl [AA x.d,AA y.d] rfl ?_;rw[Pg.d_w y 0];∎;rw[<-Pg.d_w y 0]
 by_cases h:y.w="pair"
 ·rw[if_pos h];show{oy B.alike,J7 B a λb s2 hb K2=>c9 (q b s2 (hb.trans {λe=>⟨_,rfl,e.symm⟩,λ⟨_,f,e⟩=>by simp_all}) K2)}
 ·rw[if_neg h];show c9 (q AE st (Vs.no λ_ e e2=>h (by rw[<-hw_ e2,e];rfl)) Kp.refl)
theorem ba8:Fok P G (n+1) "forth_never" λx y=>∃k t,y=.never k t:=by
 intro x y st Q c b q;apply i6 B.fnever rfl [AA x.d,AA y.d] rfl ?_;rw[Pg.d_w y 0];∎;show c9 (q _ st (by rw[decide_eq_true_eq];show⟨λh=>let⟨k,t,e⟩:=cm7 h;{y,⟨k,t,e⟩,rfl},λ⟨_,⟨k,t,a⟩,e⟩=>by rw[<-hw_ e,a];rfl⟩) Kp.refl)
end
structure Kw(sh dn sa pa wa ka:AI)(Γ:List Kd)(S:List It3)(st:Sto):Prop where
 ex:∃(ws:List (Kd×Bool))(kn:List Int),KA sh dn sa pa wa S ws st/\st ka=AA (.lst (kn.map D.int))/\KnOk S ws Γ kn/\kn.length<=2000
 out:ka∉shL sh dn sa pa wa
theorem Kw.keep{S}(h:Kw sh dn sa pa wa ka Γ S st)(K:Kp [] st st'):Kw sh dn sa pa wa ka Γ S st':=by
 let{a,b,f,e,d,c}:=h.ex;show{{a,b,f.keep K,K.at' e ∎,d,c},h.out}
section
variable (B:PBk P G) (J:PNm P G) (T:PNo P G) {S:List It3}
include T
def ar2(hn:20<=n)(h7:p.kn 3)(hp:p.parts<=2000)(hk:p.kind Γ=AF->bX=AD/\Rz Γ p)(C:Kw sh dn sa pa wa ka Γ S st)(hS:S.length+256*p.parts<=900000)(q:∀k,p.kind Γ=AA k->∀S' st',Has S' k.d->Kw sh dn sa pa wa ka Γ S' st'->Wf S'->S <+: S'->S'.length<=S.length+256*p.parts->Q (.int (nb S' k.d)) st'):
  Q7 (.ref ka) st λl st1=>J4 bX P G n "shelved_kind" [p.d,l,.ref sh] st1 Q:=by
 let{ws,kn,h1,h2,h3,h4}:=C.ex;apply{_,.inl h2,λl hl=>?_};have K0:Kp [] st (b0 st l (.lst (kn.map D.int))):=Kp.refl.new hl;apply b08 T T.ix hn hp hk h7 (h1.keep K0) f8 h3 hS ⋯ (h1.fresh hl) λk hk S' ws' st' g1 g2 g3 K=>?_;apply q k hk S' st' g1 {{ws',kn,g2,K.at' (l0 h2 hl) ?_,h3.up g2.A.wf g3.1 g3.2.2,h4},C.out} g2.A.wf g3.1 (by have:=g3.2.1;lia);simp;show{l5 h2 hl,by simpa using C.out}
def at7(i:20<=n){k}(h:Ft p)(j:p.kind Γ=AA k)(C:Kw sh dn sa pa wa ka Γ S st)(m:S.length<=660000)(q:∀S' f,Has S' k.d->Kw sh dn sa pa wa ka Γ S' f->Wf S'->S <+: S'->S'.length<=S.length+217600->Q (.int (nb S' k.d)) f):
  Q7 (.ref ka) st λl st1=>sem P G n "shelved_kind" [p.d,l,.ref sh] st1 Q:=(have:=h.parts;ar2 T (bX:=AE) i h.kn ⋯ (λz=>by simp_all) C ⋯ λk' e=>by rw[j]at e;cases e;show λS' f a b c d e=>q S' f a b c d ⋯)
omit T
include B J
theorem cb7{t:Pg}(h:16<=n)(f:Ft c)(q:∀e,Kp [] st e->Q (Pg.case t ((c.lf 1 1).sb (.left b (.name 0))) ((c.lf 1 1).sb (.right a (.name 0)))).d e):sem P G n "split" [c.d,t.d,(Kd.eith a b).d] st Q:=by
 obtain⟨n,rfl⟩:∃k,n=k+1:={n-1,⋯};have g:=f.parts;have j:(c.lf 1 1).parts=c.parts:=ba2 c;have i:(c.lf 1 1).hgt<=c.hgt:=ag9;apply i6 B.split rfl [AA c.d,AA t.d,AA (Kd.eith a b).d,AF,AF] rfl ?_;erw[Kd.d];∎;apply{oy J.lift,ap1 J (p:=c) (m:=1) (l:=1) ⋯ ⋯ λs1 K1=>?_};∎;apply{oy J.put,R6 J (o:=.left b (.name 0)) ⋯ (by erw[Pg.parts];lia) ⋯ ⋯ λs2 K2=>?_};∎;show{oy J.put,R6 J (o:=.right a (.name 0)) ⋯ (by erw[Pg.parts];lia) ⋯ ⋯ λs3 K3=>c9 (q s3 ((K1.trans K2).trans K3))}
include T
@[reducible]noncomputable def Sp(Γ:List Kd)(c x y:Pg):Prop:=∃t a b,t.kind Γ=AA (.eith a b)/\x=c.sb t/\y=.case t ((c.lf 1 1).sb (.left b (.name 0))) ((c.lf 1 1).sb (.right a (.name 0)))
def bc5{c x:Pg}{k:Kd}(U:24<=n)(p:Ft c)(E:Ft x)(m:Ft y)(s:y.kind Γ=AA k)(C:Kw sh dn sa pa wa ka Γ S st)(H:S.length<=660000)(q:∀b S' f,(Sp Γ c x y->b=AD)->Kw sh dn sa pa wa ka Γ S' f->S'.length<=S.length+217600->Q (.bl b) f):
  sem P G n "forth_split" [x.d,y.d,.ref ka,.ref sh,c.d] st Q:=by
 obtain⟨n,rfl⟩:∃k,n=k+2:={n-2,⋯};have R:=p.parts;apply i6 B.fsplit rfl [AA x.d,AA y.d,AA (.ref ka),AA (.ref sh),AA c.d,AF] rfl ?_;by_cases h:y.w="case"
 ·let{t,u,v,rfl}:=au1 h;have o:=m.kid (c:=t) (by simp[Pg.kids]);have F:=o.parts;obtain⟨a,b,g⟩:∃a b,t.kind Γ=AA (.eith a b):=by
   cases D5 s with
   |case i _ _=>show⟨_,_,i.kind⟩
  erw[Pg.d];∎;apply .inr {au0,?_};apply{oy B.alike,by rw[J.put];rfl,R6 J ⋯ ⋯ ⋯ ⋯ λs1 K1=>J7 B E λb1 s2 hb K2=>?_};rfl';cases b1 with
  |false=>
   ∎;show c9 (q AE S s2 (λ⟨t',M,L,_,e,j⟩=>by cases j;show hb.2 (by rw[e])) ((C.keep K1).keep K2) ⋯)
  |true=>
   ∎;let{N,O,K,_}:=((C.keep K1).keep K2).ex;apply{sh,"Shelf",_,rfl,K.A.ins,rfl,oy T.tup,by rw[T.shk];rfl,?_};apply at7 T ⋯ o g ((C.keep K1).keep K2) H λS' s3 i C3 w3 p3 l3=>?_;let{r,z,I,_}:=C3.ex;apply b93 T.toPSh I.A i ?_;∎;apply{oy B.alike,by rw[B.split];rfl,cb7 B J (t:=t) ⋯ p λs4 K4=>?_};apply J7 B (x:=.case t u v) m λb2 s5 hb2 K5=>c9 (q b2 S' s5 (λ⟨t',M,L,D,_,j⟩=>hb2.2 (by cases j;rw[D]at g;cases g;rfl)) ((C3.keep K4).keep K5) l3)
 ·rw[Pg.d_w y 0];∎;apply .inr {au0,?_};rw[if_pos (by simpa using h)];show c9 (q AE S st (λ⟨t,a,b,_,_,e⟩=>absurd (by rw[e];rfl) h) C ⋯)
omit J T
theorem a83(q:Q (.bl AE) st):sem P G (n+1) "forth_split" [x.d,y.d,.ref ka,.ref sh,.non] st Q:=by
 apply i6 B.fsplit rfl [AA x.d,AA y.d,AA (.ref ka),AA (.ref sh),AA .non,AF] rfl ?_;∎;show .inl (c9 q)
end
section
variable (B:PBk P G) (J:PNm P G) (T:PNo P G) {S:List It3}
include B T
def ar8{w}{k}(b:20<=n)(i:(Q2.any λk=>AB (k=.inr (Aa w)))=AD)(h:Ft x)(g:Ft y)(f:x.kind Γ=AA k)(e:y.kind Γ=AA k)(C:Kw sh dn sa pa wa ka Γ S st)(j:S.length<=440000)
  (q:∀c a,Kw sh dn sa pa wa ka Γ c a->c.length<=S.length+435200->j7 (Zg P G n) (M4.body.drop 5) (l9 Q) [AA (.ref ka),AA (.ref sh),AA (.tup [.str w,x.d,y.d,tt]),AA (.str w),AA x.d,AA y.d] a) :
  sem P G (n+1) "is_step_over" [.ref ka,.ref sh,.tup [.str w,x.d,y.d,tt]] st Q:=by
 apply i6 B.over rfl [AA (.ref ka),AA (.ref sh),AA (.tup [.str w,x.d,y.d,tt]),AF,AF,AF] rfl ?_;(iterate 4 ∎);apply{_,B.words,t0 _,?_};rw[i];rfl';∎;apply{oy T.shk,at7 T b h f C ⋯ λS1 s1 h1 C1 w1 p1 l1=>?_};apply{oy T.shk,at7 T b g e C1 ⋯ λS2 s2 h2 C2 w2 p2 l2=>?_};rw[N8 w2 h1 p2];rfl';show q S2 s2 C2 ⋯
def bd5{w}{k}{f}{W}(o:20<=n)(l:(Q2.any λk=>AB (k=.inr (Aa w)))=AD)(m:w≠"split")(g:u6 ah1 w=AA (.fn f))(h:(P f).isSome=AD)(F:Fok P G n f W)(e:Ft x)(c:Ft y)(j:x.kind Γ=AA k)(i:y.kind Γ=AA k)(C:Kw sh dn sa pa wa ka Γ S st)(p:S.length<=440000)
  (q:∀b a,(b=AD↔Vs W x y\/Vs W y x)->Q (.bl b) a):sem P G (n+1) "is_step_over" [.ref ka,.ref sh,.tup [.str w,x.d,y.d,tt]] st Q:=by
 apply ar8 B T o l e c j i C p λS' s1 C1 _=>?_;∎;rw[if_neg m];∎;erw[B.forth];apply{λz=>(by cases z),_,g,f,rfl,h,F e c λb s2 hb K2=>?_};rfl';cases b with
 |true=>show c9 (q AD s2 {λ_=>.inl (hb.1 rfl),λ_=>rfl})
 |false=>
  show {λz=>(by cases z),_,g,f,rfl,h,F c e λb s3 hb3 K3=>(c9 (q b s3 (hb3.trans {.inr,λz=>z.resolve_left λy=>AH (hb.2 y)})))}
def b63{k}(g:20<=n)(f:Ft x)(e:Ft y)(c:x.kind Γ=AA k)(b:y.kind Γ=AA k)(C:Kw sh dn sa pa wa ka Γ S st)(h:S.length<=440000)
  (q:∀a,Q (.bl AE) a):sem P G (n+1) "is_step_over" [.ref ka,.ref sh,.tup [.str "split",x.d,y.d,.non]] st Q:=by
 apply ar8 B T g ∅ f e c b C h λS' s1 C1 l1=>?_;obtain⟨n,rfl⟩:∃m,n=m+1:={n-1,⋯};(iterate 2 ∎);apply{oy B.fsplit,a83 B ?_};rfl';show{oy B.fsplit,a83 B (c9 (q s1))}
def bd3{w}(hn:20<=n)(hw:(Q2.any λk=>AB (k=.inr (Aa w)))=AD)(hx:x.kn 3)(hy:y.kn 3)(hp:x.parts+y.parts<=3000)(hq:x.parts<=2000/\y.parts<=2000)(hk:∀k,x.kind Γ=AA k->y.kind Γ≠AA k)(rx:x.kind Γ=AF->Rz Γ x)(ry:y.kind Γ=AF->Rz Γ y)(C:Kw sh dn sa pa wa ka Γ S st)(hS:S=[])
  (q:Q (.bl AE) S0):D2 P G (n+1) "is_step_over" [.ref ka,.ref sh,.tup [.str w,x.d,y.d,tt]] st Q:=by
 subst hS;apply .inr {_,B.over,rfl,rfl,?_};change R3 (Zg P G n) (Zr P G n) _ [AA (.ref ka),AA (.ref sh),AA (.tup [.str w,x.d,y.d,tt]),AF,AF,AF] st Q;apply .inl ?_;rfl';apply .inl ?_;rfl';apply .inl ?_;rfl';apply .inl ?_;rfl';apply{_,B.words,t0 _,?_};rw[hw];rfl';apply .inr {T.ix,?_,q};change wpE _ _ _ _ λd _=>∃b,d=.bl b/\b=AD;rfl';apply{oy T.shk,?_};have lr:∀{Q1}{s1}{p:Pg},(Q7 (.ref ka) s1 λl st1=>J4 AD P G n "shelved_kind" [p.d,l,.ref sh] st1 Q1)->Q7 (.ref ka) s1 λl st1=>orF (J5 P G n) (sem P G n) "shelved_kind" [p.d,l,.ref sh] st1 Q1:=λ⟨ds,h1,h2⟩=>{ds,h1,λp hp=>.inl (h2 p hp)};apply lr (ar2 T hn hx hq.1 (λz=>{rfl,rx z}) C (by erw[Ap];lia) λk kx S1 s1 h1 C1 w1 p1 l1=>?_);erw[Ap]at l1;apply{oy T.shk,lr (ar2 T hn hy hq.2 (λz=>{rfl,ry z}) C1 ⋯ λk' ky S2 s2 h2 C2 w2 p2 l2=>?_)};rfl';rw[<-N8 w2 h1 p2];show λe=>hk k kx (by rw[ky,bl1 (bn9 (h1.mono p2) h2 ⋯)])
include J
def b83{k}(o:26<=n)(j:Ft c)(l:Sp Γ c x y\/Sp Γ c y x)(g:Ft x)(f:Ft y)(i:x.kind Γ=AA k)(h:y.kind Γ=AA k)(C:Kw sh dn sa pa wa ka Γ S st)(m:S=[])
  (q:∀a,Q (.bl AD) a):sem P G (n+1) "is_step_over" [.ref ka,.ref sh,.tup [.str "split",x.d,y.d,c.d]] st Q:=by
 subst m;apply ar8 B T ⋯ ∅ g f i h C ∅ λS' s1 C1 l1=>?_;erw[Ap]at l1;(iterate 2 ∎);apply{oy B.fsplit,bc5 B J T ⋯ j g f h C1 ⋯ λb S2 s2 hb C2 l2=>?_};rfl';cases b with
 |true=>show c9 (q s2)
 |false=>
  apply{oy B.fsplit,bc5 B J T ⋯ j f g i C2 ⋯ λb S3 s3 hb3 C3 l3=>?_};have e:=hb3 (l.resolve_left λz=>AH (hb z));rw[e];show c9 (q s3)
omit J
theorem a82{x y w}(l:3<=n)(i:∀k∈Γ,k.nest<=3)(o:Γ.length<2000)(q:∀sh dn f g c h a,Kw sh dn f g c h Γ [] a->sem P G n "is_step_over" [.ref h,.ref sh,.tup [w,x,y,tt]] a (l9 Q).rt):sem P G (n+1) "is_step" [w,x,y,.tup (Γ.map Kd.d),tt] st Q:=by
 obtain⟨n,rfl⟩:∃m,n=m+2:={n-2,⋯};apply i6 B.is rfl [AA w,AA x,AA y,AA (.tup (Γ.map Kd.d)),AA tt,AF] rfl ?_;∎;apply{oy T.init,λsh hsh=>?_};apply aw0 ?_;apply a81 T.toPSh hsh λdn f g c s1 A1 hd hfr hw1 hw2 hw3 K1=>{rfl,?_};have b:KA sh dn f g c [] [] s1:={A1,⟨hd,hw1,hw2⟩,hw3,∎,∎,∎};∎;apply{oy B.over,by rw[T.shn];rfl,a69 T i ⋯ b λws2 kn h s2 KA2 hka0 hka hkn hkl K2=>?_};show q sh dn f g c h s2 {{ws2,kn,KA2,hka,hkn,⋯},b.fresh hka0}
theorem bx1{x y w}(l:3<=n)(i:∀k∈Γ,k.nest<=3)(o:Γ.length<2000)(q:∀sh dn f g c h a,Kw sh dn f g c h Γ [] a->D2 P G n "is_step_over" [.ref h,.ref sh,.tup [w,x,y,tt]] a Q):D2 P G (n+1) "is_step" [w,x,y,.tup (Γ.map Kd.d),tt] st Q:=by
 obtain⟨n,rfl⟩:∃m,n=m+2:={n-2,⋯};apply .inr {_,B.is,rfl,rfl,?_};change R3 (Zg P G (n+2)) (Zr P G (n+2)) _ [AA w,AA x,AA y,AA (.tup (Γ.map Kd.d)),AA tt,AF] st Q;apply .inl ?_;rfl';apply{oy T.init,λsh hsh=>?_};apply aw0 ?_;apply a81 T.toPSh hsh λdn f g c s1 A1 hd hfr hw1 hw2 hw3 K1=>{rfl,?_};have b:KA sh dn f g c [] [] s1:={A1,⟨hd,hw1,hw2⟩,hw3,∎,∎,∎};apply .inr {by change(P "is_step_over").isSome=AD;rw[B.over];rfl,?_};rfl';apply{oy T.shn,a69 T i ⋯ b λws2 kn h s2 KA2 hka0 hka hkn hkl K2=>?_};show q sh dn f g c h s2 {{ws2,kn,KA2,hka,hkn,⋯},b.fresh hka0}
end
def X2(p:Pg):∀{u},(p.mp (lfF m l) u).d.sz=p.d.sz:=by
 induction p with
 |name n=>intro u;erw[Pg.mp,lfF];split<;>rfl
 |star=>intro u;rfl
 |pair t v a c|give t v a c=>intro u;erw[Pg.mp,Pg.d,l8,l6,@a u,@c u]
 |lets t v a c=>intro u;erw[Pg.mp,Pg.d,l8,l6,@a u,@c (u+1)]
 |case t v w a c g=>intro u;erw[Pg.mp,Pg.d,l8,l6,@a u,@c (u+1),@g (u+1)]
 |first t a|second t a|left b t a|right b t a|never b t a=>intro u;erw[Pg.mp,Pg.d,l8,l6,@a u]
 |way b t a=>intro u;erw[Pg.mp,Pg.d,l8,l6,@a (u+1)]
def c76(p:Pg):∀{u},(p.mp (lfF 1 1) u).oc u=p.oc u:=by
 induction p with
 |name n=>
  intro u;erw[Pg.mp,lfF]
  split
  ·erw[Iu,Pg.oc];grind
  ·rfl
 |star=>intro u;rfl
 |pair t v a c|give t v a c=>intro u;erw[Pg.mp,Pg.oc,@a u,@c u]
 |lets t v a c=>intro u;erw[Pg.mp,Pg.oc,@a u,@c (u+1)]
 |case t v w a c f=>intro u;erw[Pg.mp,Pg.oc,@a u,@c (u+1),@f (u+1)]
 |first t a|second t a|left b t a|right b t a|never b t a=>intro u;erw[Pg.mp,Pg.oc,@a u]
 |way b t a=>intro u;erw[Pg.mp,Pg.oc,@a (u+1)]
def bq1(p:Pg):∀{u:Nat},(p.mp (sbF o) u).d.sz<=p.d.sz+p.oc u*o.d.sz:=by
 induction p with
 |name n=>
  intro u;erw[Pg.mp,sbF,Pg.oc]
  by_cases l:n<u
  ·rw[if_pos l];show DP _ _
  ·rw[if_neg l]
   by_cases h:n=u
   ·rw[if_pos h,if_pos h,Nat.one_mul];change(o.mp (lfF u 0) 0).d.sz<=_;rw[X2];show Jy _ _
   ·rw[if_neg h];show DP 3 _
 |star=>intro u;show DP _ _
 |pair t v a c|give t v a c=>intro u;have:=@a u;have:=@c u;erw[Pg.mp,Pg.d,l8,l6,o0,Pg.oc,add_mul];lia
 |lets t v a c=>intro u;have:=@a u;have:=@c (u+1);erw[Pg.mp,Pg.d,l8,l6,o0,Pg.oc,add_mul];lia
 |case t v w a c g=>intro u;have:=@a u;have:=@c (u+1);have:=@g (u+1);erw[Pg.mp,Pg.d,l8,l6,o0,Pg.oc,add_mul];lia
 |first t a|second t a|left b t a|right b t a|never b t a=>intro u;have:=@a u;erw[Pg.mp,Pg.d,l8,l6,o0,Pg.oc];lia
 |way b t a=>intro u;have:=@a (u+1);erw[Pg.mp,Pg.d,l8,l6,o0,Pg.oc];lia
structure Okp(Γ:List Kd)(k:Kd)(m:Nat)(p:Pg):Prop where
 kd:p.kind Γ=AA k
 kn:p.kn 3
 sz:p.d.sz<=m
section
variable {k:Kd} {t u v:Pg} {o o1 o2 m2 h h':Nat}
def Gr.ok(g:Gr Γ k o m h t):Okp Γ k m t:=⟨g.kn.kind,g.told,g.sz⟩
def Okp.ft(g:Okp Γ k m t)(a:m<=1700):Ft t:={g.kn,BB g.sz a}
theorem Gr.sb(g:Gr (a::Γ) k o m h t)(x:Okp Γ a m1 u):Okp Γ k (m+o*m1) (t.sb u):=
 {bb1 g.kn.kind x.kd,bo8 x.kn g.told,BB (bq1 t) (Fi g.sz (KP (g.oc 0) x.sz))}
def Gr.wide(g:Gr (a::Γ) k o m h t):Okp (a::b::Γ) k m (t.lf 1 1)/\(t.lf 1 1).oc 0<=o:=
 ⟨⟨af5 (Γ₁:=[a]) (M:=[b]) g.kn.kind,ab9 g.told,by have e:(t.lf 1 1).d.sz=t.d.sz:=X2 t;rw[e];show g.sz⟩,by have e:(t.lf 1 1).oc 0=t.oc 0:=c76 t;rw[e];show g.oc 0⟩
end
inductive Ste(Γ:List Kd):String->Pg->Pg->D->Prop
 |lets (t u:Pg):Ste Γ "let" (.lets t u) (u.sb t) .non
 |give (a:Kd) (t u:Pg):Ste Γ "give" (.give (.way a u) t) (u.sb t) .non
 |first (t u:Pg):Ste Γ "first" (.first (.pair t u)) t .non
 |second (t u:Pg):Ste Γ "second" (.second (.pair u t)) t .non
 |left (c:Kd) (t u v:Pg):Ste Γ "left" (.case (.left c t) u v) (u.sb t) .non
 |right (c:Kd) (t u v:Pg):Ste Γ "right" (.case (.right c t) u v) (v.sb t) .non
 |star (x:Pg):x.nn AD->Ste Γ "star" x .star .non
 |pair (x:Pg):Ste Γ "pair" x (.pair (.first x) (.second x)) .non
 |way (a:Kd) (x:Pg):Ste Γ "way" x (.way a (.give (x.lf 1 0) (.name 0))) .non
 |never (k:Kd) (t x:Pg):x.nn AE->Ste Γ "never" x (.never k t) .non
 |split {c x y:Pg}:Ft c->Sp Γ c x y->Ste Γ "split" x y c.d
structure Stk(Γ:List Kd)(w:String)(x y:Pg)(tt:D):Prop where
 st:Ste Γ w x y tt
 fx:Ft x
 fy:Ft y
 ys:y.d.sz<=1690
 yh:y.hgt<=60
 kd:∃k:Kd,x.kind Γ=AA k/\y.kind Γ=AA k/\k.nest<=10
def Stk.mk'{w}{k}(h:Ste Γ w x y tt)(d:k.nest<=10)(g:Okp Γ k m x)(b:Okp Γ k m1 y)(c:m<=1700)(a:m1<=1690)(e:y.hgt<=60):Stk Γ w x y tt:={h,g.ft c,b.ft ⋯,BB b.sz a,e,k,g.kd,b.kd,d}
section
variable (B:PBk P G) (J:PNm P G) (T:PNo P G) 
include B J T
def co6{w:String}(hn:30<=n)(j:∀k∈Γ,k.nest<=3)(hl:Γ.length<2000)(h:Stk Γ w x y tt)(o:(p=x/\q=y)\/(p=y/\q=x))(k:∀g,Q (.bl AD) g):sem P G n "is_step" [.str w,p.d,q.d,.tup (Γ.map Kd.d),tt] st Q:=by
 obtain⟨n,rfl⟩:∃m,n=m+4:={n-4,⋯};let{hs,fx,fy,_,_,c,kx,ky,_}:=h;have fp:Ft p:=by rcases o with⟨rfl,rfl⟩|⟨rfl,rfl⟩<;>assumption
 have fq:Ft q:=by rcases o with⟨rfl,rfl⟩|⟨rfl,rfl⟩<;>assumption
 have H:p.kind Γ=AA c:=by rcases o with⟨rfl,rfl⟩|⟨rfl,rfl⟩<;>assumption
 have E:q.kind Γ=AA c:=by rcases o with⟨rfl,rfl⟩|⟨rfl,rfl⟩<;>assumption
 have l:∀{W:Pg->Pg->Prop},W x y->W p q\/W q p:=λz=>by
  rcases o with⟨rfl,rfl⟩|⟨rfl,rfl⟩
  ·show .inl z
  ·show .inr z
 apply a82 B T ⋯ j hl λsh dn sa pa wa ka s1 C=>?_;have b:∀{w:String}{f:Str}{W:Pg->Pg->Prop},Fok P G (n+2) f W->W x y->(Q2.any λk=>AB (k=.inr (Aa w)))=AD->w≠"split"->u6 ah1 w=AA (.fn f)->(P f).isSome=AD->sem P G (n+3) "is_step_over" [.ref ka,.ref sh,.tup [.str w,p.d,q.d,tt]] s1 (l9 Q).rt:=
  λF z h1 h2 h3 h4=>bd5 B T ⋯ h1 h2 h3 h4 F fp fq H E C ∅ λb s hb=>c9 (by rw[hb.2 (l ⟨_,z,rfl⟩)];show k s)
 cases hs with
 |lets t u=>show b (bj6 B J ⋯) ⟨t,u,rfl,rfl⟩ ∅ ∅ rfl (oy B.flet)
 |give a t u=>show b (bg1 B J ⋯) ⟨a,t,u,rfl,rfl⟩ ∅ ∅ rfl (oy B.fgive)
 |first t u=>show b (bd9 B) ⟨_,u,rfl,rfl⟩ ∅ ∅ rfl (oy B.ffirst)
 |second t u=>show b (a74 B) ⟨_,u,rfl,rfl⟩ ∅ ∅ rfl (oy B.fsecond)
 |left c t u v=>show b (bf5 B J ⋯) ⟨c,t,u,v,rfl,rfl⟩ ∅ ∅ rfl (oy B.fleft)
 |right c t u v=>show b (bb0 B J ⋯) ⟨c,t,u,v,rfl,rfl⟩ ∅ ∅ rfl (oy B.fright)
 |star _ _=>show b (bg6 B) rfl ∅ ∅ rfl (oy B.fstar)
 |pair=>show b (bf0 B) rfl ∅ ∅ rfl (oy B.fpair)
 |way a=>show b (bk5 B J ⋯) ⟨a,rfl⟩ ∅ ∅ rfl (oy B.fway)
 |never k' t _ _=>show b (ba8 B) ⟨k',t,rfl⟩ ∅ ∅ rfl (oy B.fnever)
 |split fc h=>show b83 B J T ⋯ fc (l (W:=Sp Γ _) h) fp fq H E C rfl λs=>c9 (k s)
structure Spt(Γ:List Kd)(w:String)(k:Kd)(y z:Pg):Prop where
 kn:z.kn 3
 pt:z.parts<=1710
 rz:z.kind Γ=AF->Rz Γ z
 no:z.kind Γ≠AA k\/(Ft z/\z.kind Γ=AA k/\(w="split"\/(y.d.sz<z.d.sz/\z.w=if w="let" then "first" else "let")))
def be3{w:String}{z:Pg}{k:Kd}{t2:D}(hn:30<=n)(hΓ:∀k∈Γ,k.nest<=3)(hl:Γ.length<2000)(hw:(Q2.any λk=>AB (k=.inr (Aa w)))=AD)(h:Stk Γ w x y tt)(kx:x.kind Γ=AA k)(sp:Spt Γ w k y z)(ht:w="split"->t2=.non)(o:(p=x/\q=z)\/(p=z/\q=x))(g:Q (.bl AE) S0):D2 P G n "is_step" [.str w,p.d,q.d,.tup (Γ.map Kd.d),t2] st Q:=by
 obtain⟨n,rfl⟩:∃m,n=m+4:={n-4,⋯};let{hs,fx,fy,_,_,_}:=h;have px:=fx.parts;have pz:=sp.pt
 rcases sp.no with nk|⟨fz,kz,no⟩
 ·apply bx1 B T ⋯ hΓ hl λsh dn sa pa wa ka s1 C=>?_
  rcases o with⟨rfl,rfl⟩|⟨rfl,rfl⟩
  ·show bd3 B T ⋯ hw fx.kn sp.kn ⋯ {⋯,⋯} (λk' e=>by rw[kx]at e;cases e;show nk) (λz=>by rw[kx]at z;cases z) sp.rz C rfl g
  ·show bd3 B T ⋯ hw sp.kn fx.kn ⋯ {⋯,⋯} (λk' e e'=>by rw[kx]at e';cases e';show nk e) sp.rz (λz=>by rw[kx]at z;cases z) C rfl g
 apply .inl (show sem P G (n+3+1) "is_step" _ st (λd _=>Q d S0) from ?_);apply a82 B T ⋯ hΓ hl λsh dn sa pa wa ka s1 C=>?_;have fp:Ft p:=by rcases o with⟨rfl,rfl⟩|⟨rfl,rfl⟩<;>assumption
 have fq:Ft q:=by rcases o with⟨rfl,rfl⟩|⟨rfl,rfl⟩<;>assumption
 have kp:p.kind Γ=AA k:=by rcases o with⟨rfl,rfl⟩|⟨rfl,rfl⟩<;>assumption
 have kq:q.kind Γ=AA k:=by rcases o with⟨rfl,rfl⟩|⟨rfl,rfl⟩<;>assumption
 by_cases hsw:w="split"
 ·subst hsw;rw[ht rfl];show b63 B T ⋯ fp fq kp kq C ∅ λs=>c9 g
 let{lt,wz}:=no.resolve_left hsw;have ov:∀{f:Str}{W:Pg->Pg->Prop},Fok P G (n+2) f W->(∀v,W x v->v.d≠z.d)->(∀v,W z v->v.d≠x.d)->u6 ah1 w=AA (.fn f)->(P f).isSome=AD->sem P G (n+3) "is_step_over" [.ref ka,.ref sh,.tup [.str w,p.d,q.d,t2]] s1 (l9 λd _=>Q d S0).rt:=
  λ{f W}F n1 n2 h3 h4=>bd5 B T ⋯ hw hsw h3 h4 F fp fq kp kq C ∅ λb s hb=>by
   have e:b=AE:=by
    cases b with
    |false=>rfl
    |true=>
     rcases o with⟨rfl,rfl⟩|⟨rfl,rfl⟩
     ·rcases hb.1 rfl with⟨v,a,b⟩|⟨v,a,b⟩
      ·show absurd b (n1 v a)
      ·show absurd b (n2 v a)
     ·rcases hb.1 rfl with⟨v,a,b⟩|⟨v,a,b⟩
      ·show absurd b (n2 v a)
      ·show absurd b (n1 v a)
   rw[e];show c9 g
 have ny:∀v:Pg,v=y->v.d≠z.d:=λv e1 e2=>by rw[<-e2,e1]at lt;lia
 have zw:∀{c:String},z.w=c->c=(if w="let" then "first" else "let"):=λe=>by rw[<-e];show wz
 have sz:∀{v u:Pg},v.d=u.d->v.d.sz=u.d.sz:=λe=>by rw[e]
 cases hs with
 |lets t u=>show ov (bj6 B J ⋯) (λv⟨_,_,e1,e2⟩=>ny v (by cases e1;show e2)) (λv⟨_,_,e1,_⟩=>by subst e1;show absurd (zw (c:="let") rfl) ∅) rfl (oy B.flet)
 |give a t u=>show ov (bg1 B J ⋯) (λv⟨_,_,_,e1,e2⟩=>ny v (by cases e1;show e2)) (λv⟨_,_,_,e1,_⟩=>by subst e1;show absurd (zw (c:="give") rfl) ∅) rfl (oy B.fgive)
 |first t u=>show ov (bd9 B) (λv⟨_,_,e1,e2⟩=>ny v (by cases e1;show e2)) (λv⟨_,_,e1,_⟩=>by subst e1;show absurd (zw (c:="first") rfl) ∅) rfl (oy B.ffirst)
 |second t u=>show ov (a74 B) (λv⟨_,_,e1,e2⟩=>ny v (by cases e1;show e2)) (λv⟨_,_,e1,_⟩=>by subst e1;show absurd (zw (c:="second") rfl) ∅) rfl (oy B.fsecond)
 |left c t u v=>show ov (bf5 B J ⋯) (λv⟨_,_,_,_,e1,e2⟩=>ny v (by cases e1;show e2)) (λv⟨_,_,_,_,e1,_⟩=>by subst e1;show absurd (zw (c:="case") rfl) ∅) rfl (oy B.fleft)
 |right c t u v=>show ov (bb0 B J ⋯) (λv⟨_,_,_,_,e1,e2⟩=>ny v (by cases e1;show e2)) (λv⟨_,_,_,_,e1,_⟩=>by subst e1;show absurd (zw (c:="case") rfl) ∅) rfl (oy B.fright)
 |star _ hx=>show ov (bg6 B) (λv e=>ny v e) (λv e1 e=>by subst e1;have:=hw_ e;cases x<;>first|show AH hx.symm|show absurd this (of_decide_eq_false rfl)) rfl (oy B.fstar)
 |pair=>show ov (bf0 B) (λv e=>ny v e) (λv e1 e=>by subst e1;have:=sz e;erw[Pg.d,l8,l6,o0,D.sz]at this lt;lia) rfl (oy B.fpair)
 |way a=>show ov (bk5 B J ⋯) (λv⟨_,e1⟩e=>by subst e1;show absurd (zw (c:="way") (hw_ e).symm) ∅) (λv⟨_,e1⟩e=>by
   subst e1;have e3:(z.lf 1 0).d.sz=z.d.sz:=X2 z;have e4:(x.lf 1 0).d.sz=x.d.sz:=X2 x;have:=sz e;erw[Pg.d,l8,l6,o0,D.sz,e3,e4]at this lt;lia) rfl (oy B.fway)
 |never k' t _ hx=>show ov (ba8 B) (λv⟨_,_,e1⟩e=>by subst e1;show absurd (zw (c:="never") (hw_ e).symm) ∅) (λv⟨_,_,e1⟩e=>by subst e1;have:=hw_ e;cases x<;>first|show hx|show absurd this (of_decide_eq_false rfl)) rfl (oy B.fnever)
 |split=>show absurd rfl hsw
end
def cd3{a b}(h:a<=b):Tr r a<=Tr r b:=by unfold Tr;split<;>lia
abbrev Kd.vd(k:Kd):Prop:=k=.non\/k=.both (.eith .one .one) .non\/k=.eith .non .non\/k=.way (.eith .one .one) .non
structure Nmk(Γ:List Kd):Prop where
 all:∀l∈Γ,(l.gd\/l.vd)/\l.nest<=2
 len:Γ.length<=20
structure Drw(k:Kd)(c:Nat):Prop where
 gd:k.gd
 nest:k.nest<=3
 ms:k.ms<=c
def Nmk.ask{k}(h:Nmk Γ)(g:k.gw)(b:k.nest<=5)(a:r<=8):Ask k Γ r:=⟨g,⋯,λl hl=>CC (h.all l hl).2,by have:=h.len;lia⟩
def Nmk.askC{k}(h:Nmk Γ)(g:k.gw)(e:k.nest<=5)(d:r<=8)(c:a.nest<=3):Ask k (a::Γ) r:=⟨g,⋯,λl b=>by
 rcases AQ.mp b with rfl|b
 ·show c
 ·show CC (h.all l b).2,by have:=h.len;simp;lia⟩
section
variable (T:P41 P G) 
include T
def F0 r(e:r<=8){k}{c}(f:54<=n)(A:Ask k Γ r)(b:k.ms<=c)(I:o4 st da)(q:∀p a,Gr Γ k (Lr r) (Tr r c) (18+r) p->o4 a da->Kp [da] st a->Q p.d a):sem P G n "_law_term" [.ref da,k.d,.tup (Γ.map Kd.d),.int r] st Q:=
 aq3 T r e ⋯ A I λp s g=>q p s (g.toGr.mono (AS _) (cd3 b) (AS _))
def cx8{w:String}{k:Kd}(C:60<=n)(z:w∈["let","give","first","second","left","right"])(N:Nmk Γ)(D:Drw k 28)(I:o4 st da)(q:∀x y a,Stk Γ w x y .non->o4 a da->Q (.tup [x.d,y.d,.non]) a):sem P G n "_law_two" [.ref da,.str w,k.d,.tup (Γ.map Kd.d)] st Q:=by
 obtain⟨n,rfl⟩:∃m,n=m+1:={n-1,⋯};have g:=Kd.gd_gw D.gd D.nest;have E:=D.nest;have s:=N.len;apply i6 T.two rfl [AA (.ref da),AA (.str w),AA k.d,AA (.tup (Γ.map Kd.d)),AF,AF,AF,AF,AF,AF,AF,AF] rfl ?_;∎;apply{oy T.kind,J8 T 1 ⋯ ⋯ I λm s1 m1 m2 m3 I1 K1=>?_};have r:=Kd.gd_gw m1 ⋯;∎;apply{C7 (by erw[AV];lia),?_};∎
 by_cases o:w="let"
 ·rw[if_pos o];subst o;∎;apply{oy T.term,F0 T 5 ∅ (c:=18) ⋯ (N.ask r ⋯ ∅) m3 I1 λt s2 gt I2 K2=>?_};∎;apply{oy T.term,F0 T 6 ∅ ⋯ (Γ:=m::Γ) (N.askC g ⋯ ∅ ⋯) D.ms I2 λu s3 gu I3 K3=>?_};∎;apply{oy T.put,P8 T n u 0 (by have:=gt.hg;have:=gu.hg;lia) λs4 K4=>?_};show c9 (q (.lets t u) (u.sb t) s4 (.mk' (.lets t u) ⋯ ((gt.mono (AS _) (AS _) ∅).lets gu).ok (gu.sb gt.ok) ∅ ∅ (BB (W8) (by have:=gt.hg;have:=gu.hg;lia))) (I3.keep K4 ∎))
 rw[if_neg o];∎
 by_cases j:w="give"
 ·rw[if_pos j];subst j;∎;apply{oy T.term,F0 T 5 ∅ (c:=18) ⋯ (N.ask r ⋯ ∅) m3 I1 λt s2 gt I2 K2=>?_};∎;apply{oy T.term,F0 T 6 ∅ ⋯ (Γ:=m::Γ) (N.askC g ⋯ ∅ ⋯) D.ms I2 λu s3 gu I3 K3=>?_};∎;apply{oy T.put,P8 T n u 0 (by have:=gt.hg;have:=gu.hg;lia) λs4 K4=>?_};show c9 (q (.give (.way m u) t) (u.sb t) s4 (.mk' (m:=1600) (.give m t u) ⋯ ((gu.way ⋯).give (gt.mono (AS _) (AS _) ∅) |>.mono (AS _) (by have:Tr 6 28=224:=rfl;have:Tr 5 18=162:=rfl;lia) (AS _)).ok (gu.sb gt.ok) ∅ ∅ (BB (W8) (by have:=gt.hg;have:=gu.hg;lia))) (I3.keep K4 ∎))
 rw[if_neg j];∎;apply{oy T.term,F0 T 7 ∅ ⋯ (N.ask g ⋯ ∅) D.ms I1 λt s2 gt I2 K2=>?_};∎;apply{oy T.term,F0 T 4 ∅ (c:=18) ⋯ (N.ask r ⋯ ∅) m3 I2 λu s3 gu I3 K3=>?_};have f:=gu.mono (h':=18+7) (AS _) (AS _) ∅;∎
 by_cases i:w="first"
 ·rw[if_pos i];subst i;∎;show c9 (q (.first (.pair t u)) t s3 (.mk' (.first t u) ⋯ (gt.pair f).first.ok gt.ok ∅ ∅ (by have:=gt.hg;lia)) I3)
 rw[if_neg i];∎
 by_cases h:w="second"
 ·rw[if_pos h];subst h;∎;show c9 (q (.second (.pair u t)) t s3 (.mk' (.second t u) ⋯ (f.pair gt).second.ok gt.ok ∅ ∅ (by have:=gt.hg;lia)) I3)
 rw[if_neg h];∎;apply{oy T.kind,J8 T 0 ⋯ ⋯ I3 λl s4 l1 l2 l3 I4 K4=>?_};∎;apply{oy T.term,F0 T 6 ∅ ⋯ (Γ:=m::Γ) (N.askC g ⋯ ∅ ⋯) D.ms I4 λy s5 gy I5 K5=>?_};∎;apply{oy T.term,C7 (by erw[AV];lia),F0 T 5 ∅ ⋯ (Γ:=l::Γ) (N.askC g ⋯ ∅ ⋯) D.ms I5 λv s6 gv I6 K6=>?_};have b:=gy.mono (h':=18+6) (AS _) (AS _) ∅;have e:=gv.mono (h':=18+6) (AS _) (AS _) ∅;have K:Tr 6 28=224:=rfl;have J:Tr 5 28=182:=rfl;have H:Tr 4 18=120:=rfl;have F:u.hgt<=22:=gu.hg;have B:=gy.hg;∎
 by_cases p:w="left"
 ·rw[if_pos p];subst p;∎;apply{oy T.put,P8 T n y 0 ⋯ λs7 K7=>?_};show c9 (q (.case (.left l u) y v) (y.sb u) s7 (.mk' (m:=1600) (.left l u y v) ⋯ (((gu.left ⋯).mono (h':=18+6) (AS _) (AS _) ∅).case b e |>.mono (AS _) ⋯ (AS _)).ok (gy.sb gu.ok) ∅ ∅ (BB (W8) ⋯)) (I6.keep K7 ∎))
 have A:w="right":=by simpa[o,j,i,h,p]using z
 subst A;∎;apply{oy T.put,P8 T n y 0 ⋯ λs7 K7=>?_};show c9 (q (.case (.right l u) v y) (y.sb u) s7 (.mk' (m:=1600) (.right l u v y) ⋯ (((gu.right ⋯).mono (h':=18+6) (AS _) (AS _) ∅).case e b |>.mono (AS _) ⋯ (AS _)).ok (gy.sb gu.ok) ∅ ∅ (BB (W8) ⋯)) (I6.keep K7 ∎))
def by6{k:Kd}{t:Pg}(a:k.vd)(g:Gr Γ k 1 3 1 t)(q:∀u:Pg,Gr Γ .non 3 20 3 u->Q u.d st):sem P G (n+1) "_law_nothing" [k.d,t.d] st Q:=by
 apply i6 T.nothing rfl [AA k.d,AA t.d] rfl ?_;rcases a with rfl|rfl|rfl|rfl<;>erw[Kd.d]
 ·(iterate 4 ∎);show c9 (q t (g.mono ∅ ∅ ∅))
 ·(iterate 2 ∎);show c9 (q (.second t) (g.second.mono ∅ ∅ ∅))
 ·(iterate 3 ∎);show c9 (q (.case t (.name 0) (.name 0)) ((g.case (Gr.name rfl) (Gr.name rfl)).mono ∅ ∅ ∅))
 ·(iterate 4 ∎);show c9 (q (.give t (.left .one .star)) (((g.mono (o1:=1) (m1:=3) (h':=2) ∅ ∅ ∅).give ((Gr.star (Γ:=Γ)).left (b:=.one) ∅)).mono ∅ ∅ ∅))
end
section
variable (T:P41 P G) 
include T
def bz9{w:String}{k:Kd}(hn:60<=n)(hw:w∈["star","pair","way","split","never"])(N:Nmk Γ)(hv:w="never"->∃l∈Γ,l.vd)(J:Drw k 28)(I:o4 st da)(q:∀x y X f,Stk Γ w x y X->o4 f da->Q (.tup [x.d,y.d,X]) f):sem P G n "_law_spread" [.ref da,.str w,k.d,.tup (Γ.map Kd.d)] st Q:=by
 obtain⟨n,rfl⟩:∃m,n=m+1:={n-1,⋯};have g:=Kd.gd_gw J.gd J.nest;have Y:=J.nest;have R:=J.ms;have len:=N.len;apply i6 T.spread rfl [AA (.ref da),AA (.str w),AA k.d,AA (.tup (Γ.map Kd.d)),AF,AF,AF,AF,AF,AF,AF,AF,AF] rfl ?_;∎
 by_cases E:w="star"
 ·rw[if_pos E];subst E;∎;apply{oy T.taken,a76 T (r:=8) (k:=.one) ∅ ∅ (λs hs=>aq3 T s ⋯) ⋯ (N.ask trivial ∅ ∅) I λx s1 gx I1 K1=>?_};show c9 (q x .star _ s1 (.mk' (.star x gx.nn) ∅ gx.ok Gr.star.ok ∅ ∅ ∅) I1)
 rw[if_neg E];∎
 by_cases C:w="pair"
 ·rw[if_pos C];subst C;∎;apply{oy T.term,by rw[T.kind];rfl,J8 T 0 ⋯ ⋯ I λm s1 m1 m2 m3 I1 K1=>?_};have gm:=Kd.gd_gw m1 ⋯;apply F0 T 8 ∅ (c:=38) (k:=.both k m) ⋯ (N.ask ⟨g,gm⟩ (by erw[Kd.nest];lia) ∅) (by erw[Kd.ms];lia) I1 λx s2 gx I2 K2=>?_;∎;show c9 (q x (.pair (.first x) (.second x)) _ s2 (.mk' (.pair x) (by erw[Kd.nest];lia) gx.ok (gx.first.pair gx.second).ok ∅ ∅ (by have:=gx.hg;erw[Pg.hgt];lia)) I2)
 rw[if_neg C];∎
 by_cases B:w="way"
 ·rw[if_pos B];subst B;∎;apply{oy T.kind,J8 T 1 ⋯ ⋯ I λm s1 m1 m2 m3 I1 K1=>?_};∎;apply{oy T.term,F0 T 8 ∅ (c:=48) (k:=.way m k) ⋯ (N.ask {.inr {m1,⋯},λ_=>Y,g} (by erw[Kd.nest];lia) ∅) (by erw[Kd.ms];lia) I1 λx s2 gx I2 K2=>?_};∎;apply{oy T.lift,aa2 T (m:=1) (l:=0) n x 0 (by have:=gx.hg;lia) λs3 K3=>?_};have S:(x.lf 1 0).kind (m::Γ)=AA (.way m k):=af5 (Γ₁:=[]) (M:=[m]) (Γ₂:=Γ) gx.kn.kind;apply c9 (q x (.way m (.give (x.lf 1 0) (.name 0))) _ s3 (.mk' (m1:=1000) (.way m x) (by erw[Kd.nest];lia) gx.ok {(Kn.way (.give (D5 S) (.name rfl))).kind,{⋯,ab9 gx.told,trivial},?_} ∅ ∅ (by have:=gx.hg;have:(x.lf 1 0).hgt<=x.hgt:=ag9;erw[Pg.hgt];lia)) (I2.keep K3 ∎));have e:(x.lf 1 0).d.sz=x.d.sz:=X2 x;have e2:x.d.sz<=348:=gx.sz;have e3:=E3 m;erw[Pg.d,l8,l6,o0,D.sz,e];lia
 rw[if_neg B];∎
 by_cases H:w="never"
 ·rw[if_pos H];let{l,hl,O}:=hv H;subst H;∎;erw[AV];apply{{⋯,⋯},by rw[E7];lia,?_};apply R5 (λL acc env f=>f=st/\∃(i:Nat)(A:List Nat)(x:Option D),L=(p8 0 Γ.length).drop i/\i<=Γ.length/\acc=A.map (λj:Nat=>D.int j)/\(∀j∈A,∃l,Γ[j]?=AA l/\l.vd)/\(∀(j:Nat)l,j<i->Γ[j]?=AA l->l.vd->A≠[])/\env=[AA (.tup (Γ.map Kd.d)),x]) ?_ ?_ _ _ _ _ {rfl,0,[],AF,∎,BM _,rfl,nofun,λj l h=>⋯,rfl}
  ·rintro acc env f ⟨rfl,i,A,x,el,hi,rfl,hj,hne,_⟩;apply{trivial,λp hp=>?_};have ei:i=Γ.length:=by have:=congrArg Cf el;rw[Bv,E7]at this;erw[Ap]at this;lia
   let{j0,V,e0}:=FT.mp hl;have U:=hne j0 l ⋯ (by rw[AJ V,e0]) O;let{j,A,rfl}:=List.exists_cons_of_ne_nil U;let{c,W,vc}:=hj j ∎;apply{.int j,rfl,?_};∎;apply{oy T.term,aq3 T 8 ∅ ⋯ (N.ask g ⋯ ∅) (I.new hp) λx s2 gx I2 K2=>?_};∎;obtain⟨n,rfl⟩:∃m,n=m+1:={n-1,⋯};apply{oy T.nothing,c.d,by rw[z8,Ah,W];rfl,by6 T (t:=.name j) vc (Gr.name W) λu gu=>?_};have gy:=gu.never (k:=k) Y;show c9 (q x (.never k u) _ s2 (.mk' (m:=1000) (m1:=1000) (.never k u x gx.nn) ⋯ (gx.toGr.mono (AS _) (by have:Tr 8 k.ms=2*k.ms+252:=rfl;lia) (AS _)).ok (gy.mono (AS _) ⋯ (AS _)).ok ∅ ∅ (BB gy.hg ∅)) I2)
  ·rintro d ds acc env f ih ⟨rfl,i,A,x,el,hi,rfl,hj,hne,rfl⟩;have v:i<Γ.length:=by
    have:=congrArg Cf el;rw[Bv,E7,AW]at this;lia
   rw[CV (by rw[E7];lia)]at el;let{rfl,rfl}:=Iv el;have ed:(p8 0 Γ.length)[i]'(by rw[E7];lia)=.int i:=by simp[p8]
   rw[ed];apply{trivial,?_};rfl';have Z:=N.all _ (Ez v);apply{oy T.many,Γ[i].d,by rw[z8,Ah,AJ v];rfl,V4 T Γ[i] ⋯ (Kd.few 2 Z.2 (AS _)).2 ?_};rfl'
   by_cases h0:Γ[i].cnt=0
   ·rw[if_pos ⋯];have vi:Γ[i].vd:=Z.1.resolve_left λz=>by have:=Kd.gd_pos z;lia
    show ih _ _ _ {rfl,i+1,A++[i],_,rfl,v,∎,λj z=>by
     rcases BO.mp z with z|z
     ·show hj j z
     ·rw[Br.mp z];show{_,AJ v,vi},λ_ _ _ _ _=>∎,rfl}
   ·rw[if_neg ⋯];apply ih _ _ _ {rfl,i+1,A,_,rfl,v,rfl,hj,λj l hji hjl vl=>?_,rfl}
    by_cases e:j=i
    ·subst e;rw[AJ v]at hjl;cases hjl
     rcases vl with z|z|z|z<;>(rw[z]at h0;show absurd rfl h0)
    ·show hne j l ⋯ hjl vl
 have h5:w="split":=by simpa[E,C,B,H]using hw
 subst h5;∎;apply{oy T.kind,J8 T 1 ⋯ ⋯ I λa s1 a1 a2 a3 I1 K1=>?_};apply{oy T.kind,J8 T 0 ⋯ ⋯ I1 λb s2 b1 b2 b3 I2 K2=>?_};have ge:(Kd.eith a b).gw:={.inr {a1,⋯},b1,⋯};have ne:(Kd.eith a b).nest<=3:=by erw[Kd.nest];lia
 ∎;apply{oy T.term,F0 T 6 ∅ (c:=28) (k:=.eith a b) ⋯ (N.ask ge ⋯ ∅) (by erw[Kd.ms];lia) I2 λt s3 gt I3 K3=>?_};∎;apply{oy T.term,C7 (by erw[AV];lia),F0 T 8 ∅ (c:=28) (Γ:=.eith a b::Γ) ⋯ (N.askC g ⋯ ∅ ne) R I3 λc s4 gc I4 K4=>?_};have W:=gc.hg;have ht:=gt.hg;have hlc:(c.lf 1 1).hgt<=c.hgt:=ag9;∎;apply{oy T.lift,aa2 T (m:=1) (l:=1) n c 0 ⋯ λs5 K5=>?_};∎;apply{oy T.put,P8 T (o:=.left b (.name 0)) n (c.lf 1 1) 0 (by erw[Pg.hgt];lia) λs6 K6=>?_};∎;apply{oy T.put,P8 T (o:=.right a (.name 0)) n (c.lf 1 1) 0 (by erw[Pg.hgt];lia) λs7 K7=>?_};∎;apply{oy T.put,P8 T n c 0 ⋯ λs8 K8=>?_};have F:∀{m:Kd}{o:Pg}{z:Nat},o.kind (m::Γ)=AA (.eith a b)->o.kn 3->o.d.sz<=23->((c.lf 1 1).sb o).kind (m::Γ)=AA k/\((c.lf 1 1).sb o).kn 3/\((c.lf 1 1).sb o).d.sz<=446:=λ{m o z}E C B=>by
  let{K,w2}:=gc.wide (b:=m);apply{bb1 K.kd E,bo8 C K.kn,BB (bq1 _) ?_};have:(c.lf 1 1).oc 0*o.d.sz<=6*23:=KP w2 B;have:(c.lf 1 1).d.sz<=308:=K.sz;lia
 have za:=E3 a;have zb:=E3 b;let{y1,y2,y3}:=F (m:=a) (o:=.left b (.name 0)) (z:=0) (Kn.left (.name rfl)).kind {⋯,trivial} (by erw[Pg.d,l8,l6,o0,D.sz];lia);let{v1,v2,v3}:=F (m:=b) (o:=.right a (.name 0)) (z:=0) (Kn.right (.name rfl)).kind {⋯,trivial} (by erw[Pg.d,l8,l6,o0,D.sz];lia);have gts:t.d.sz<=224:=gt.sz;apply c9 (q (c.sb t) (.case t ((c.lf 1 1).sb (.left b (.name 0))) ((c.lf 1 1).sb (.right a (.name 0)))) c.d s8 (.mk' (m1:=1600) (.split (gc.ok.ft ∅) ⟨t,a,b,gt.kn.kind,rfl,rfl⟩) ⋯ (gc.sb gt.ok) {(Kn.case gt.kn (D5 y1) (D5 v1)).kind,⟨gt.told,y2,v2⟩,?_} ∅ ∅ (by have:=W8 (p:=c.lf 1 1) (o:=.left b (.name 0));have:=W8 (p:=c.lf 1 1) (o:=.right a (.name 0));erw[Pg.hgt]at *;lia)) ((((I4.keep K5 ∎).keep K6 ∎).keep K7 ∎).keep K8 ∎));erw[Pg.d,l8,l6,o0,D.sz];lia
def b56{w:String}{k:Kd}(g:61<=n)(e:w∈["let","give","first","second","left","right"]\/w∈["star","pair","way","split","never"])(N:Nmk Γ)(f:w="never"->∃l∈Γ,l.vd)(c:Drw k 28)(I:o4 st da)(q:∀x y b a,Stk Γ w x y b->o4 a da->Q (.tup [x.d,y.d,b]) a):sem P G n "_law_step" [.ref da,.str w,k.d,.tup (Γ.map Kd.d)] st Q:=by
 obtain⟨n,rfl⟩:∃m,n=m+1:={n-1,⋯};apply i6 T.step rfl [AA (.ref da),AA (.str w),AA k.d,AA (.tup (Γ.map Kd.d))] rfl ?_;∎;apply{t0 _,by erw[F9,M7,t0,Bw],BM _,?_};erw[HC,List.any_nil,M8,v5,Jl,decide_eq_true_eq,Hf]
 split
 ·rename_i h;∎;apply{oy T.two,cx8 T ⋯ ?_ N c I λx y s h I=>c9 (q x y _ s h I)};erw[AQ,AX,or_false]
  rcases h with h|h|h|h|h|h<;>simp[<-h]
 ·rename_i h;∎;apply{oy T.spread,bz9 T ⋯ (e.resolve_left λz=>h ?_) N f c I λx y b s h I=>c9 (q x y b s h I)};erw[AQ,AX,or_false]at z
  rcases z with z|z|z|z|z|z<;>simp[z]
end
def cg1{k:Kd}(h:k.vd):k.nest<=2:=by rcases h with rfl|rfl|rfl|rfl<;>decide
section
variable (T:P41 P G) 
include T
@[reducible]noncomputable def ai8:List String:=["let","give","first","second","left","right"]
@[reducible]noncomputable def ai2:List String:=["star","pair","way","split","never"]
def b44(I:o4 st da)(q:∀w a,w∈ai8\/w∈ai2->o4 a da->Kp [da] st a->Q (.str w) a):sem P G (n+2) "_law_word" [.ref da] st Q:=by
 apply i6 T.word rfl [AA (.ref da),AF] rfl ?_;intro p d;∎;apply{oy T.next,D3 T ∅ (I.new d) λr s1 r0 r1 I1 b=>?_};rw[l7 (.inl (b.at' f8 (by simpa using(I.ne d).symm)))];have b:=(Kp.refl.new d).trans b;let{r,rfl}:=Bk r0;have key:∀r,r<12->∃w:String,(["let","give","first","second","left","right","star","pair","way","split","never","split"])[r]?=AA w/\(w∈ai8\/w∈ai2):=λr hr=>by
  have e:∀w∈(["let","give","first","second","left","right","star","pair","way","split","never","split"]),w∈ai8\/w∈ai2:=by decide
  show{_,AJ hr,e _ (Ez hr)}
 let{w,f,c}:=key r ⋯;apply{.str w,?_,c9 (q w s1 c I1 b)};rw[z8];change(["let","give","first","second","left","right","star","pair","way","split","never","split"].map λw=>D.str (Aa w))[r]?=_;rw[Ah,f];rfl
def b55(I:o4 st da)(q:∀(k:Kd)b,k.vd->o4 b da->Kp [da] st b->Q k.d b):sem P G (n+2) "_law_void" [.ref da] st Q:=by
 apply i6 T.void rfl [AA (.ref da),AF,AF,AF] rfl ?_;(iterate 3 ∎);intro p c;∎;apply{oy T.next,D3 T ∅ (I.new c) λr s1 r0 r1 I1 a=>?_};rw[l7 (.inl (a.at' f8 (by simpa using(I.ne c).symm)))];have a:Kp [da] st s1:=(Kp.refl.new c).trans a;obtain rfl|rfl|rfl|rfl|rfl:r=0\/r=1\/r=2\/r=3\/r=4:=by lia
 ·show{_,rfl,c9 (q .non s1 (.inl rfl) I1 a)}
 ·show{_,rfl,c9 (q .non s1 (.inl rfl) I1 a)}
 ·show{_,rfl,c9 (q (.both (.eith .one .one) .non) s1 (.inr (.inl rfl)) I1 a)}
 ·show{_,rfl,c9 (q (.eith .non .non) s1 (.inr (.inr (.inl rfl))) I1 a)}
 ·show{_,rfl,c9 (q (.way (.eith .one .one) .non) s1 (.inr (.inr (.inr rfl))) I1 a)}
def b06{w:String}(g:6<=n)(I:o4 st da)(q:∀(Γ:List Kd)a,Nmk Γ->(w="never"->∃l∈Γ,l.vd)->o4 a da->Q (.tup (Γ.map Kd.d)) a):sem P G n "_law_names" [.ref da,.str w] st Q:=by
 obtain⟨n,rfl⟩:∃m,n=m+3:={n-3,⋯};apply i6 T.names rfl [AA (.ref da),AA (.str w),AF,AF] rfl ?_;have b:∀(Γ:List Kd)(s:Sto),Nmk Γ->Γ.length<=12->o4 s da->j7 (Zg P G (n+2)) (Y6.body.drop 2) (l9 Q) [AA (.ref da),AA (.str w),AA (.tup (Γ.map Kd.d)),AF] s:=by
  intro Γ s N c I;∎
  by_cases h:w="never"
  ·rw[if_pos h];∎;erw[AV];apply{oy T.next,D3 T ⋯ I λr s1 r0 r1 I1 K1=>?_};let{r,rfl}:=Bk r0;∎;erw[cu9,b61];apply{oy T.void,b55 T I1 λk s2 vk I2 K2=>?_};apply{C7 (by erw[Bu,AV,AW,Ap];lia),C7 (by erw[Ad,Bu,Bv,AV,AW,Ap];lia),?_};∎;have e:(Γ.map Kd.d).take r++[k.d]++(Γ.map Kd.d).drop r=(Γ.take r++[k]++Γ.drop r).map Kd.d:=by simp[Lu,Lv]
   rw[e];apply c9 (q _ s2 {λl c=>?_,by erw[Ad,Bu,Bv,AW,Ap];lia} (λ_=>{k,∎,vk}) I2)
   rcases BO.mp c with z|z
   ·rcases BO.mp z with z|z
    ·show N.all l (List.mem_of_mem_take z)
    ·rw[Br.mp z];show{.inr vk,cg1 vk}
   ·show N.all l (List.mem_of_mem_drop z)
  ·rw[if_neg h];∎;show c9 (q Γ s N (λz=>absurd z h) I)
 ∎;apply{oy T.next,D3 T ∅ I λr s1 r0 r1 I1 K1=>?_};rfl';apply{{⋯,⋯},by rw[E7];lia,?_};apply R5 (λl acc env a=>∃(Γ:List Kd)(x:Option D),acc=Γ.map Kd.d/\Nmk Γ/\Γ.length+l.length<=3/\env=[AA (.ref da),x]/\o4 a da) ?_ ?_ _ _ _ _ {[],AF,rfl,{nofun,BM _},by rw[E7];erw[Ap];lia,rfl,I1}
 ·rintro acc env a ⟨Γ,x,rfl,N,c,_,I2⟩;apply{trivial,λp hp=>?_};∎;apply{oy T.next,D3 T ∅ (I2.new hp) λy s3 y0 y1 I3 K3=>?_};rfl'
  by_cases h:y=0
  ·rw[if_pos h];∎;apply{oy T.next,D3 T ∅ I3 λz s4 z0 z1 I4 K4=>?_};let{z,rfl}:=Bk z0;have f:(7+(z:Int)).toNat=7+z:=by lia
   apply{∎,⋯,⋯,C7 (by erw[AW,Ap];lia),?_};rfl';have e:(Al (7+(z:Int)).toNat [D.tup [.str "one"]]).flatten++Γ.map Kd.d=(Al (7+z) Kd.one++Γ).map Kd.d:=by rw[f,GT,Aj,List.map_replicate];rfl
   apply{C7 (by rw[f,GT,DL,AV];lia),?_};rw[e];apply b _ s4 {λl hl'=>?_,by erw[Ad,DL];lia} (by erw[Ad,DL];lia) I4
   rcases BO.mp hl' with z|z
   ·rw[(List.mem_replicate.mp z).2];show{.inl trivial,∅}
   ·show N.all l z
  ·rw[if_neg h];rfl';show b Γ s3 N ⋯ I3
 ·rintro d ds acc env a ih ⟨Γ,x,rfl,N,c,rfl,I2⟩;erw[AW]at c;rfl';apply{oy T.kind,J8 T 1 ⋯ ⋯ I2 λk s3 k1 k2 k3 I3 K3=>?_};apply ih _ _ _ {Γ++[k],_,∎,{λl hl'=>?_,by erw[Ad,AW,Ap];lia},by erw[Ad,AW,Ap];lia,rfl,I3}
  rcases BO.mp hl' with z|z
  ·show N.all l z
  ·rw[Br.mp z];show{.inl k1,⋯}
end
section
variable (T:P41 P G) 
include T
def b41{w:String}{k:Kd}{kk:D}(hs:P "_law_spoilt"=AA ad6)(hn:70<=n)(fy:Ft y)(ys:y.d.sz<=1690)(yh:y.hgt<=60)(ky:y.kind Γ=AA k)(hl:Γ.length<=20)(I:o4 st da)(q:∀z st',Spt Γ w k y z->o4 st' da->Q z.d st'):sem P G n "_law_spoilt" [.ref da,.str w,kk,.tup (Γ.map Kd.d),y.d] st Q:=by
 obtain⟨n,rfl⟩:∃m,n=m+2:={n-2,⋯};have py:=fy.parts;have kn:=D5 ky;have inf:∀{a b:Kd},a≠.both a b/\a≠.way a b:=⟨λh=>by have:=congrArg Kd.ms h;erw[Kd.ms]at this;lia,λh=>by have:=congrArg Kd.ms h;erw[Kd.ms]at this;lia⟩;apply i6 hs rfl [AA (.ref da),AA (.str w),AA kk,AA (.tup (Γ.map Kd.d)),AA y.d,AF] rfl ?_;∎;apply{oy T.next,D3 T ∅ I λr s1 r0 r1 I1 K1=>?_};∎
 by_cases h0:r=0
 ·subst h0;by_cases hw:w="let"
  ·rw[if_pos hw];∎;apply c9 (q (.first (.pair y .star)) s1 {⟨fy.kn,trivial⟩,by erw[Pg.parts];lia,(λz=>by rw[(Kn.first (.pair kn .star)).kind]at z;cases z),.inr {{⟨fy.kn,trivial⟩,?_},(Kn.first (.pair kn .star)).kind,.inr {?_,by rw[if_pos hw];rfl}}} I1)<;>(erw[Pg.d,l8,l6,o0,D.sz];lia)
  ·rw[if_neg hw];(iterate 2 ∎);apply{oy T.lift,aa2 T (m:=1) (l:=0) (n+1) y 0 ⋯ λs2 K2=>?_};have e:(y.lf 1 0).d.sz=y.d.sz:=X2 y;have e2:(y.lf 1 0).parts=y.parts:=ba2 y;have e3:(y.lf 1 0).kind (.one::Γ)=AA k:=af5 (Γ₁:=[]) (M:=[.one]) (Γ₂:=Γ) ky;apply c9 (q (.lets .star (y.lf 1 0)) s2 {{trivial,ab9 fy.kn},by erw[Pg.parts];lia,(λz=>by rw[(Kn.lets .star (D5 e3)).kind]at z;cases z),.inr {{{trivial,ab9 fy.kn},?_},(Kn.lets .star (D5 e3)).kind,.inr {?_,by rw[if_neg hw];rfl}}} (I1.keep K2 ∎))<;>(erw[Pg.d,l8,l6,o0,D.sz];lia)
 rw[if_neg h0];∎;rw[if_neg h0];∎
 by_cases h1:r=1
 ·rw[if_pos h1];∎;show c9 (q (.pair y y) s1 {⟨fy.kn,fy.kn⟩,by erw[Pg.parts];lia,(λz=>by rw[(Kn.pair kn kn).kind]at z;cases z),.inl λe=>by rw[(Kn.pair kn kn).kind]at e;show inf.1 (At e).symm} I1)
 rw[if_neg h1];∎
 by_cases h2:r=2
 ·rw[if_pos h2];∎;apply{oy T.next,D3 T ∅ I1 λj s2 j0 j1 I2 K2=>?_};let{j,rfl}:=Bk j0;rw[AV];have nn:(Pg.name (Γ.length+j)).kind Γ=AF:=BY ⋯;have pn:(Pg.pair y (.name (Γ.length+j))).kind Γ=AF:=by unfold Pg.kind;rw[ky,nn]
  apply c9 (q (.first (.pair y (.name (Γ.length+j)))) s2 {⟨fy.kn,trivial⟩,by erw[Pg.parts];lia,λ_=>.first pn (.pair ky nn .name),.inl λe=>?_} I2);cases D5 e with
  |first h=>cases h with
   |pair h1 h2=>cases h2 with
    |name h=>rw[BY ⋯]at h;cases h
 rw[if_neg h2];∎;apply c9 (q (.give y y) s1 {⟨fy.kn,fy.kn⟩,by erw[Pg.parts];lia,λ_=>.give ky ky,.inl λe=>?_} I1);cases D5 e with
 |give h1 h2=>
  have e1:=h1.kind;have e2:=h2.kind;rw[e1]at e2;show inf.2 (At e2).symm
end
def cv2(T:P41 P G)(B:PBk P G)(J:PNm P G)(O:PNo P G)(hs:P "_law_spoilt"=AA ad6)(hl:P "law"=AA V2){a:AI}{ns:List Int}(hn:80<=n)(hns:ns.length<=63)(h:rdS st a (ns.map D.int)):sem P G n "law" [.ref a] st λd _=>d=.bl AD:=by
 obtain⟨n,rfl⟩:∃m,n=m+3:={n-3,⋯};apply i6 hl rfl [AA (.ref a),AF,AF,AF,AF,AF,AF,AF,AF,AF] rfl ?_;∎;apply{oy T.deck,b65 T hns h λda s1 I1 K1=>?_};∎;apply{oy T.word,b44 T I1 λw s2 hw I2 K2=>?_};∎;apply{oy T.names,b06 T ⋯ I2 λΓ s3 N hv I3=>?_};∎;apply{oy T.kind,J8 T 2 ⋯ ⋯ I3 λk s4 k1 k2 k3 I4 K4=>?_};∎;apply{oy T.step,b56 T ⋯ hw N hv {k1,⋯,⋯} I4 λx y tt s5 S I5=>?_};have hΓ:∀k∈Γ,k.nest<=3:=λl hl=>CC (N.all l hl).2;have hlen:Γ.length<2000:=by have:=N.len;lia
 let{c,kx,ky,hc}:=S.kd;have pi:(P "is_step").isSome=AD:=by rw[B.is];rfl
 have ok:∀{p q:Pg}{Q:DK},(p=x/\q=y)\/(p=y/\q=x)->Q (.bl AD) S0->D2 P G (n+2) "is_step" [.str w,p.d,q.d,.tup (Γ.map Kd.d),tt] S0 Q:=λ{p q Q}o g=>.inl (show sem P G (n+2) "is_step" _ S0 (λd _=>Q d S0) from co6 B J O ⋯ hΓ hlen S o λ_=>g);rfl';∎;apply{pi,ok (.inl ⟨rfl,rfl⟩) ?_};rfl';∎;apply{by rw[hs];rfl,b41 T hs ⋯ S.fy S.ys S.yh ky N.len I5 λz s6 sz I6=>?_};∎;have hw':(Q2.any λk=>AB (k=.inr (Aa w)))=AD:=by
  have:∀w,w∈ai8\/w∈ai2->(Q2.any λk=>AB (k=.inr (Aa w)))=AD:=λw h=>by
   erw[AQ,AX,or_false]at h
   rcases h with(h|h|h|h|h|h)|h|h|h|h|h<;>(subst h;decide)
  show this w hw
 have fin:∀(z:Pg)(t2:D)(s7:Sto),Spt Γ w c y z->(w="split"->t2=.non)->j7 (Zg P G (n+2)) (V2.body.drop 9) (l9 λd _=>d=.bl AD) [AA (.ref a),AA (.ref da),AA (.str w),AA (.tup (Γ.map Kd.d)),AA k.d,AA x.d,AA y.d,AA tt,AA z.d,AA t2] s7:=λz t2 s7 sz ht=>by
  ∎;apply{pi,be3 B J O ⋯ hΓ hlen hw' S kx sz ht (.inl ⟨rfl,rfl⟩) ?_};rfl';apply{pi,be3 B J O ⋯ hΓ hlen hw' S kx sz ht (.inr ⟨rfl,rfl⟩) ?_};rfl';∎;apply{pi,ok (.inr ⟨rfl,rfl⟩) ?_};rfl';show c9 rfl
 ∎
 by_cases h:w="split"
 ·rw[if_pos h];(iterate 2 ∎);intro p hp;apply{oy T.next,D3 T ∅ (I6.new hp) λr s7 r0 r1 I7 K7=>?_};rw[l7 (.inl (K7.at' f8 (by simpa using(I6.ne hp).symm)))];obtain rfl|rfl:r=0\/r=1:=by lia
  ·apply{_,rfl,?_};rfl';show fin y .non s7 ⟨S.fy.kn,by have:=S.fy.parts;lia,λz=>(by rw[ky]at z;cases z),.inr {S.fy,ky,.inl h}⟩ λ_=>rfl
  ·rfl';show fin z .non s7 sz λ_=>rfl
 ·rw[if_neg h];rfl';show fin z tt s6 sz λz=>absurd z h
def di2:P41 S6 t5:=by constructor<;>rfl
def dh6:PBk S6 t5:=by constructor<;>rfl
def dh8:PNm S6 t5:=by
 repeat' (first|rfl|(done)|constructor)
def dh7:PNo S6 t5:=by
 repeat' (first|rfl|(intro z;cases z)|constructor)
def b16(a:AI)(ns:List Int)(h:ns.length<=63):sem S6 t5 100 "law" [.ref a] (st0 a ns) λd _=>d=.bl AD:=
 cv2 di2 dh6 dh8 dh7 rfl rfl ∅ h (.inr (by unfold st0;rw[if_pos rfl]))
end
abbrev top(i:Nat):BG:=PySem.Challenge.pw_evenkinds_k42_what_is_no_step.main.body.getD i (.Pass {0,0,0,0})
abbrev mth(i k:Nat):BG:=match top i with|.ClassDef _ _ _ b _ _ _ _ _ _ _=>b.getD k (.Pass ⟨0,0,0,0⟩)|_=>.Pass ⟨0,0,0,0⟩
def bt6:Stat0 (top 56) Y8 ["word","one","other","names","through"]:={{rfl,rfl,rfl,by decide+kernel,rfl,by decide+kernel,by decide+kernel},rfl,by decide+kernel}
def bt0:Stat0 (mth 15 2) Y5 ["self","kind","deep"]:={{rfl,rfl,rfl,by decide+kernel,rfl,by decide+kernel,by decide+kernel},rfl,rfl}
def c38{pr:Ag}{w:Aw}{K:AO}{h:BA}{mg:Str->Option AG}{ts:List AI}(X:K.In h)(G:h.Ns AN mg){g0:AI}{g1:AI}{g2:AI}{g3:AI}{ku0:AG}{ku1:AG}{C0:AI}{C1:AI}{XK:AI}
  (a0:FnA K ts AE "made_of_parts" (top 7))
  (a1:FnA K ts AE "order_of_few" (top 8))
  (a2:FnA K ts AE "taken" (top 10))
  (a3:FnA K ts AE "are_alike" (top 16))
  (a4:FnA K ts AE "inner" (top 20))
  (a5:FnA K ts AE "with_inner" (top 21))
  (a6:FnA K ts AE "names_more" (top 22))
  (a7:FnA K ts AD "noded" (top 24))
  (a8:FnA K ts AE "folded" (top 27))
  (a9:FnA K ts AE "shelved_names" (top 29))
  (a10:FnA K ts AE "shelved_kind" (top 30))
  (a11:FnA K ts AD "kind_of_node" (top 31))
  (a12:FnA K ts AE "kind_by_parts" (top 32))
  (a13:FnA K ts AE "new_name" (top 33))
  (a14:FnA K ts AE "halves_of" (top 34))
  (a15:FnA K ts AE "kind_of_name" (top 35))
  (a16:FnA K ts AE "kind_of_star" (top 36))
  (a17:FnA K ts AE "kind_of_pair" (top 37))
  (a18:FnA K ts AE "kind_of_first" (top 38))
  (a19:FnA K ts AE "kind_of_second" (top 39))
  (a20:FnA K ts AE "kind_of_left" (top 40))
  (a21:FnA K ts AE "kind_of_right" (top 41))
  (a22:FnA K ts AE "kind_of_case" (top 42))
  (a23:FnA K ts AE "kind_of_way" (top 43))
  (a24:FnA K ts AE "kind_of_give" (top 44))
  (a25:FnA K ts AE "kind_of_let" (top 45))
  (a26:FnA K ts AE "kind_of_never" (top 46))
  (a27:FnA K ts AD "lifted" (top 49))
  (a28:FnA K ts AD "put_in" (top 50))
  (a29:FnA K ts AE "copy_under" (top 51))
  (a30:FnA K ts AD "with_parts" (top 52))
  (a31:FnA K ts AE "inner_under" (top 53))
  (a32:FnD K "is_step" (top 56))
  (a33:FnA K ts AE "is_step_over" (top 57))
  (a34:FnA K ts AE "forth_let" (top 58))
  (a35:FnA K ts AE "forth_give" (top 59))
  (a36:FnA K ts AE "forth_first" (top 60))
  (a37:FnA K ts AE "forth_second" (top 61))
  (a38:FnA K ts AE "forth_left" (top 62))
  (a39:FnA K ts AE "forth_right" (top 63))
  (a40:FnA K ts AE "forth_star" (top 64))
  (a41:FnA K ts AE "forth_pair" (top 65))
  (a42:FnA K ts AE "forth_way" (top 66))
  (a43:FnA K ts AE "forth_split" (top 67))
  (a44:FnA K ts AE "split" (top 68))
  (a45:FnA K ts AE "forth_never" (top 69))
  (a46:FnA K ts AE "_law_deck" (top 72))
  (a47:FnA K ts AE "_law_next" (top 73))
  (a48:FnA K ts AE "_law_kind" (top 74))
  (a49:FnA K ts AE "_law_many" (top 75))
  (a50:FnA K ts AE "_law_plain" (top 76))
  (a51:FnA K ts AE "_law_made" (top 77))
  (a52:FnA K ts AE "_law_taken" (top 78))
  (a53:FnA K ts AE "_law_term" (top 79))
  (a54:FnA K ts AE "_law_under" (top 80))
  (a55:FnA K ts AE "_law_lift" (top 81))
  (a56:FnA K ts AE "_law_put" (top 82))
  (a57:FnA K ts AE "_law_two" (top 83))
  (a58:FnA K ts AE "_law_void" (top 84))
  (a59:FnA K ts AE "_law_nothing" (top 85))
  (a60:FnA K ts AE "_law_spread" (top 86))
  (a61:FnA K ts AE "_law_step" (top 87))
  (a62:FnA K ts AE "_law_word" (top 88))
  (a63:FnA K ts AE "_law_names" (top 89))
  (a64:FnA K ts AE "_law_spoilt" (top 90))
  (a65:FnA K ts AE "law" (top 91))
  (bb:∀b∈V6,Av K AN b=AA AF)
  (ga0:Av K AN "INNER_FROM"=AA (AA (.ref g0))) (gt0:(letI:Tbs:={ts,mFB,(t5.cls "!kt").isEmpty};X6 K g0 (t5.tab "INNER_FROM"))=AD)
  (ga1:Av K AN "UNDER_ONE_MORE"=AA (AA (.ref g1))) (gt1:(letI:Tbs:={ts,mFB,(t5.cls "!kt").isEmpty};X6 K g1 (t5.tab "UNDER_ONE_MORE"))=AD)
  (ga2:Av K AN "BY_WORD"=AA (AA (.ref g2))) (gt2:(letI:Tbs:={ts,mFB,(t5.cls "!kt").isEmpty};X6 K g2 (t5.tab "BY_WORD"))=AD)
  (ga3:Av K AN "FORTH"=AA (AA (.ref g3))) (gt3:(letI:Tbs:={ts,mFB,(t5.cls "!kt").isEmpty};X6 K g3 (t5.tab "FORTH"))=AD)
  (kc0:Av K AN "FEW"=AA (AA ku0)) (kv0:(letI:Tbs:={ts,mFB,(t5.cls "!kt").isEmpty};N7 K (.int 2000) ku0)=AD)
  (kc1:Av K AN "WORDS"=AA (AA ku1)) (kv1:(letI:Tbs:={ts,mFB,(t5.cls "!kt").isEmpty};N7 K (.ktup [.inr "let",.inr "give",.inr "first",.inr "second",.inr "left",.inr "right",.inr "star",.inr "pair",.inr "way",.inr "split",.inr "never"]) ku1)=AD)
  (kx0:Av K AN "!kt"=AA AF)
  (kz0:Av K AN "!ix"=AA AF)
  (ky0:Av K AN "!Shelf.laid_kind"=AA AF)
  (ky1:Av K AN "!is_step"=AA AF)
  (ca0:ClA K "Shelf" C0)
  (ca1:ClA K "Node" C1) (cf0_0:Bc K (.ref C0) "numbers"=AA AF) (cf0_1:Bc K (.ref C0) "stored"=AA AF) (cf0_2:Bc K (.ref C0) "parts"=AA AF) (cf0_3:Bc K (.ref C0) "waiting"=AA AF) (cf1_0:Bc K (.ref C1) "program"=AA AF) (cf1_1:Bc K (.ref C1) "inside"=AA AF) (cf1_2:Bc K (.ref C1) "number"=AA AF) (cf1_3:Bc K (.ref C1) "holders"=AA AF) (cf1_4:Bc K (.ref C1) "ways"=AA AF) (cf1_5:Bc K (.ref C1) "used"=AA AF) (cf1_6:Bc K (.ref C1) "kind"=AA AF)
  (xn:Av K AN "NoKind"=AA (AA (.ref XK))) (xe:Hj K XK vB "ValueError.__new__"=AD) (xm:JK K (.ref XK) (.ref XK)=AA AD)
  (m0:MtA K ts AE "Shelf" C0 "__init__" (mth 15 0))
  (m1:MtD K "Shelf" C0 "laid_kind" (mth 15 2) 3)
  (m2:MtA K ts AE "Shelf" C0 "built" (mth 15 3))
  (m3:MtA K ts AE "Shelf" C0 "numbered" (mth 15 4))
  (m4:MtA K ts AE "Shelf" C0 "put_by" (mth 15 5))
  (m5:MtA K ts AE "Shelf" C0 "taken_up" (mth 15 6))
  (m6:MtA K ts AE "Shelf" C0 "tuple_at" (mth 15 7))
  (m7:MtA K ts AE "Shelf" C0 "word_at" (mth 15 8))
  (m8:MtA K ts AE "Shelf" C0 "within" (mth 15 9))
  (m9:MtA K ts AE "Node" C1 "__init__" (mth 23 0)) (nl:V8 K=AD) (nt:JL K=AD) (tso:aw3 K ts=AD) :
  (letI:Tbs:={ts,mFB,(t5.cls "!kt").isEmpty};AllOk pr w K mg S6 t5)/\V8 K=AD/\JL K=AD/\∀P∈ts,∃c,CW K c P=AD:=by
 letI:Tbs:={ts,mFB,(t5.cls "!kt").isEmpty}
 apply{{λf d hf hi=>?_,λf d hf hi=>?_,λf c Ca hn hf=>?_,λb hb=>W.mg_none_of X G (bb b hb),λg hg=>?_,λg i hg=>?_,λc hc=>?_,rfl,λ_=>{_,xn,Fw X G xn,xe,xm}},nl,nt,ck6 tso}
 ·
  apply(?_:∀f d,(f,d)∈aa6->isM f=AE->DefOk K mg (A0 t5.cls f) f d) f d (PySem.mem_of_lookup hf) hi;unfold aa6
  iterate 10 apply i8 (λhi=>absurd hi (by decide+kernel)) ?_
  apply i8 (λ_=>a0.ok X G) ?_;apply i8 (λ_=>a1.ok X G) ?_;apply i8 (λ_=>a2.ok X G) ?_;apply i8 (λ_=>a3.ok X G) ?_;apply i8 (λ_=>a4.ok X G) ?_;apply i8 (λ_=>a5.ok X G) ?_;apply i8 (λ_=>a6.ok X G) ?_;apply i8 (λ_=>a7.ok X G) ?_;apply i8 (λ_=>a8.ok X G) ?_;apply i8 (λ_=>a9.ok X G) ?_;apply i8 (λ_=>a10.ok X G) ?_;apply i8 (λ_=>a11.ok X G) ?_;apply i8 (λ_=>a12.ok X G) ?_;apply i8 (λ_=>a13.ok X G) ?_;apply i8 (λ_=>a14.ok X G) ?_;apply i8 (λ_=>a15.ok X G) ?_;apply i8 (λ_=>a16.ok X G) ?_;apply i8 (λ_=>a17.ok X G) ?_;apply i8 (λ_=>a18.ok X G) ?_;apply i8 (λ_=>a19.ok X G) ?_;apply i8 (λ_=>a20.ok X G) ?_;apply i8 (λ_=>a21.ok X G) ?_;apply i8 (λ_=>a22.ok X G) ?_;apply i8 (λ_=>a23.ok X G) ?_;apply i8 (λ_=>a24.ok X G) ?_;apply i8 (λ_=>a25.ok X G) ?_;apply i8 (λ_=>a26.ok X G) ?_;apply i8 (λ_=>a27.ok X G) ?_;apply i8 (λ_=>a28.ok X G) ?_;apply i8 (λ_=>a29.ok X G) ?_;apply i8 (λ_=>a30.ok X G) ?_;apply i8 (λ_=>a31.ok X G) ?_;apply i8 (λ_=>a32.ok X G bt6 (λ_ _ _ _ _ _ _ _ _ _ hT hS=>{bdS λ_=>bdS λ_=>bdS λ_=>bdS λ_=>bdS λ_=>bdZ (Du rfl hT hS rfl rfl),bdT (bdS λ_=>bdS λ_=>bdS λ_=>bdS λ_=>bdZ (Du rfl hT hS rfl rfl))})) ?_;apply i8 (λ_=>a33.ok X G) ?_;apply i8 (λ_=>a34.ok X G) ?_;apply i8 (λ_=>a35.ok X G) ?_;apply i8 (λ_=>a36.ok X G) ?_;apply i8 (λ_=>a37.ok X G) ?_;apply i8 (λ_=>a38.ok X G) ?_;apply i8 (λ_=>a39.ok X G) ?_;apply i8 (λ_=>a40.ok X G) ?_;apply i8 (λ_=>a41.ok X G) ?_;apply i8 (λ_=>a42.ok X G) ?_;apply i8 (λ_=>a43.ok X G) ?_;apply i8 (λ_=>a44.ok X G) ?_;apply i8 (λ_=>a45.ok X G) ?_;apply i8 (λ_=>a46.ok X G) ?_;apply i8 (λ_=>a47.ok X G) ?_;apply i8 (λ_=>a48.ok X G) ?_;apply i8 (λ_=>a49.ok X G) ?_;apply i8 (λ_=>a50.ok X G) ?_;apply i8 (λ_=>a51.ok X G) ?_;apply i8 (λ_=>a52.ok X G) ?_;apply i8 (λ_=>a53.ok X G) ?_;apply i8 (λ_=>a54.ok X G) ?_;apply i8 (λ_=>a55.ok X G) ?_;apply i8 (λ_=>a56.ok X G) ?_;apply i8 (λ_=>a57.ok X G) ?_;apply i8 (λ_=>a58.ok X G) ?_;apply i8 (λ_=>a59.ok X G) ?_;apply i8 (λ_=>a60.ok X G) ?_;apply i8 (λ_=>a61.ok X G) ?_;apply i8 (λ_=>a62.ok X G) ?_;apply i8 (λ_=>a63.ok X G) ?_;apply i8 (λ_=>a64.ok X G) ?_;apply i8 (λ_=>a65.ok X G) ?_;show bo9
 ·
  apply(?_:∀f d,(f,d)∈aa6->isM f=AD->∃c m,f=f6 c m/\isM c=AE/\isM m=AE/\MthOk K mg (A0 t5.cls (f6 c m)) c m d) f d (PySem.mem_of_lookup hf) hi;unfold aa6;apply i8 (λ_=>m0.ok ca0 X G) ?_;apply i8 (λ_=>m1.ok ca0 X G bt0 (λ_ _ _ _ _ _ _ _ _ _ _ hT hS=>{bdS λ_=>bdS λ_=>bdS λ_=>bdZ (Du rfl hT hS rfl rfl),bdT (bdS λ_=>bdS λ_=>bdZ (Du rfl hT hS rfl rfl))})) ?_;apply i8 (λ_=>m2.ok ca0 X G) ?_;apply i8 (λ_=>m3.ok ca0 X G) ?_;apply i8 (λ_=>m4.ok ca0 X G) ?_;apply i8 (λ_=>m5.ok ca0 X G) ?_;apply i8 (λ_=>m6.ok ca0 X G) ?_;apply i8 (λ_=>m7.ok ca0 X G) ?_;apply i8 (λ_=>m8.ok ca0 X G) ?_;apply i8 (λ_=>m9.ok ca1 X G) ?_
  iterate 66 apply i8 (λhi=>absurd hi (by decide+kernel)) ?_
  show bo9
 ·
  unfold t5 at hf;simp only at hf
  by_cases hck:c="!kt"
  ·subst hck;rw[kx0]at hn;cases hn
  rw[if_neg hck]at hf
  by_cases hz0:c="!ix"
  ·subst hz0;rw[kz0]at hn;cases hn
  rw[if_neg hz0]at hf
  by_cases hdk0:c="!Shelf.laid_kind"
  ·subst hdk0;rw[ky0]at hn;cases hn
  rw[if_neg hdk0]at hf
  by_cases hdk1:c="!is_step"
  ·subst hdk1;rw[ky1]at hn;cases hn
  rw[if_neg hdk1]at hf
  by_cases hc0:c="Shelf"
  ·subst hc0;rw[ca0.a]at hn;cases hn;rw[if_pos rfl]at hf;erw[AQ,AX,or_false]at hf;apply{ca0.cl,?_}
   rcases hf with rfl|rfl|rfl|rfl
   ·show cf0_0
   ·show cf0_1
   ·show cf0_2
   ·show cf0_3
  rw[if_neg hc0]at hf
  by_cases hc1:c="Node"
  ·subst hc1;rw[ca1.a]at hn;cases hn;rw[if_pos rfl]at hf;erw[AQ,AX,or_false]at hf;apply{ca1.cl,?_}
   rcases hf with rfl|rfl|rfl|rfl|rfl|rfl|rfl
   ·show cf1_0
   ·show cf1_1
   ·show cf1_2
   ·show cf1_3
   ·show cf1_4
   ·show cf1_5
   ·show cf1_6
  rw[if_neg hc1]at hf;show absurd hf AX
 ·unfold t5 at hg ⊢;simp only at hg ⊢
  by_cases hg0:g="INNER_FROM"
  ·subst hg0;show af6 X G ga0 gt0
  rw[if_neg hg0]at hg
  by_cases hg1:g="UNDER_ONE_MORE"
  ·subst hg1;show af6 X G ga1 gt1
  rw[if_neg hg1]at hg
  by_cases hg2:g="BY_WORD"
  ·subst hg2;show af6 X G ga2 gt2
  rw[if_neg hg2]at hg
  by_cases hg3:g="FORTH"
  ·subst hg3;show af6 X G ga3 gt3
  rw[if_neg hg3]at hg;show absurd rfl hg
 ·unfold t5 at hg;simp only at hg
  by_cases hg0:g="FEW"
  ·subst hg0;rw[if_pos rfl]at hg;cases hg;show{_,Fw X G kc0,kv0}
  rw[if_neg hg0]at hg
  by_cases hg1:g="WORDS"
  ·subst hg1;rw[if_pos rfl]at hg;cases hg;show{_,Fw X G kc1,kv1}
  rw[if_neg hg1]at hg;cases hg
 ·
  cases hc
end Ek
namespace PySem.W.Fast
local macro_rules|`(command|include $x*)=>do return Lean.mkNullNode (← x.mapM fun i=>Lean.MonadRef.withRef .missing do
 let n:Nat:=(i.getId.toString.toList.drop 1).foldl (fun n c=>n*36+(if c<':' then c.toNat-48 else c.toNat-87)) 0
 let j:=Lean.mkIdent (.mkSimple s!"tw{n}")
 `(command|theorem $j:ident:True:=⟨⟩))
include arbfr4pv4pdc5 axs360ggjom7n a2j4a8o3hfsi2g a3n1oyw96oobql auox04bkaea6k a1rcjzpzwzdg59 athvgnvrhhunq a2fvw2z8r24ml9 a1inys5og6nuo a1dgoq3jlqoqio a1nq6hui3b9cpe a2wh55lca4d6cy agsek3a780umf a2o4j3slih385e avlt4lmjhu518 a3u7boe1qpehgf a37etoycwy5hz a2snq1ty96568m a12y2bm2etg8lf a2sqcr61dww8gh aw79tutc59196 a2vzmhaen1145r a1euihc57u3h4 a23hoh2p5s0atm a34imdt5u0s3yx a1cb2focvf7hvf a21oqkmkgdsldm a195zoa7wt7oj3 a3i27u3ses0rlg a69f618p6eand a2p72m9fmynmt8 a21vv7pq8hw1ss ahvntpfzvrg30 a3f2217nkkyo5 agigvf66pgl46 a2vjrro16l12h3 a3u5l7r81gs67e a1ppdfh7rtn2cd ayi61urnsskiu a2ty23fsdo7yqk aj0j3o1f2ryzi a1sadhnz91nv6l a2c0hkyj9993d6 a2c6cr6hv8b1ac ap7bgy9ziy7t6 a2459nmyr28r5g a13wr2h6jav9la a2omolqm058fna a4npza4n64v6m a2biu39wq51b1h a9vkv71nzokjv a3irzrh5bzyatq ax4lnvfxioitu a1h3r4z8t2uksp a1rw3los6x2hbl axodwml18cuq6 a1x51ryjl8vxm1 a2lomhoxzdl47l a1le9bd93d644c a3jz2794ifnsgi a2u0bx45epl8vg au1t2fvfxk3j6 a3pccwmutb5fjj a33g3qe3c3ogl a1bkmct2pg8x8l a184v556ku12aa a323js29yk70bn ad778wd3zkira a2u4dbmwxkdv3v a2cspedg3vrx6x a2yyymquv04585 a3touu7z0m4keb acquxubem4ihw a3qrbjsu3ga65 ax3mucqflhqw9 a21fid1kdjlug9 ai0t5kbkbqasr a1tiob5u18b15g a2pthoczjz4dm5 a3kke85va8qvth a2lta7fb71aqcp ae04t6ufiffs3 a2k17bvn5cuxm9 a393liswsr8wm9 a1a5fexsikr46l a33xmuku5pou5d a1jcc61b10at71 atau85dp2kaqe a3h9ppm2ordoqm a2izbmjmivhs8s a1canfujxq9ua5 a1m2r8wu45xww a3q0025rgd9n6s a1bkiienmd5mvn a36xpevunnkdw3 a35d9pd15srp6y a2k6xq33l4ajbd ad7t6rftswqo8 a284vjlk5mfa3h a1frvzxtflf8xm aaw55eb1jtvi4 a2s34ovuha8zyl al0iccdzhrxp1 a38i51ixlyuzf a1ub61v3r6fjg7 adr0o2q744jjp a3au8qo6apebpi a1srwsfraox65o a1wc417djrb69r a3e6rhtwjxgcec a1g4qbndwl4gfc a1w7gh6cq6nzf3 a6veraue57xl6 a1okvz73612ms9 ajlrrl57fey4 a3b3wr1g837xyh a3g1x44yabka54 a2otkpjcuzzaiy a2vql23ktt2lnw a24icyn3dj8c14 alvomn2bo1t2o aqqpja5r2lydf a2fpdkl753655f a2rd54qinttyai ac6rw3i1bl1if a5wrg3kld6n3r a3cvpi364rrgtl a3czf2ioqij2zq a2rhqv5wejag2t a21ub74im9s8eo a36kgxagn12dkr a3hrdyzpbby90r a2gz1om15zzl8 as6egftrp4dam a3c0ol09jfn64z awvt27ibhc7c1 a2p27w5t1pyex9 a1bc7vtkjr1log a39885v7bpmxl9 a3cpl4jjgjghsm a3biiy2gao77ef a3mlh9bm4icyx0 a1tv7ufp58kb9e a1ioxm2xkmlef a3kmjvrha5cdof a12oci5usw2ass a1cdfwezp0fowv a1864b7j62c3fh a32lrjpe3n3x45 a104yypog0mzuk a1vca0xpnqj1hb a26qhu87zgpy4y ajfk6kqzcrohx ao93a8hw6lmzl a2pfkb4bygs7dm a1rg1fv65agaz1 a26tbbicpxy4nb a3s4xzlbbg9rw2 a34tdxfqg12nsr a3cdy3dq6naju7 a3r8tyz1y08li9 a1jlw6p209dhz2 a29xrrinbw17fa a7lvfvnhxz1mg a2ullgi5ew61e5 a3m2nv0yoi1c6s a314oe19kr3j1f a3cj2ns3yu7l94 acc7pybmls89v a1f3gn5fhmwj9w a3rjstnd3pvonf a2o19fqmfghoyw a3ze7bt5xshg7 a188o9j4gm81em a31mrvrx236qzb a10no0hz807j5d a1b8y8lskua8y2 a2bjolppyhv5qr aovtq2ryihwfq a1evp48hinqwan a37wd9939v3e3u a2e5qypq62qpn8 a1wiq1dpy8d0q5 a1xirbabpmlpzh a1gzaitqs7bboa a1zdnyuurazcox a259ve9zg2092q a1rx9cgzumu5qt ar241r445nsp0 a10atk7632mn9o a24q6qhnmvrt43 a2jnxxekqyl7s2 a2f097iihcg6wo a1ba84crydtfk5 a2u5vhn0o3j0lp a3p3lgl3drpv42 a3oimaqs1wnm2k a23jxehz25ayn5 a1769uuwjl03gu a1pugn3ymc3om6 a3543z7vailbwl a2pst48glj5akl a2xtehq8i0u1m a1te617y3vw869 a2sbi9jjv9er7r axa6ury9b0usm a12tby9o3bth27 a1xdkpq9k9x82b a15hgv5jmzcusc a9391h06y6y7c a2b6ekapbb42pp a2fffqski086s7 a16954rb8yy0ij a23j53y9zx6pvz a4vywfi0xhafo a1i14vbvc8y2mu a1gzphzp24j6w4 abxmjhbkaofer ah9bdvyj2kzdb avt1kk9s0zk6l a23jf6e1c6hed2 ajithulgut1ru a3pkf2om8cupku a3sl3ah09xd1t4 a3pu9i6vam0kts a38hye7h7orh63 a1x5btwmkbyv4n a2wgb6zqa2fs5q a2yxb1xfgqxnwt a3sjnrum2aj5wl a147b76x1v53nr a212mlye3haqkz a1bgbu38u3j2pi ajw210td7zuu0 aqfq5xgcy7g92 a30buhsmco1h0h a28szgqg8soy4r a29kbt6211ijlo a15i645sl9mdu ayhd7awdna6fx a2kpc8pqcggmpn a4so86730zuhr apcpts7pc9n2p a3pdkjkdyyucdy a232iepewrmji3 a8mf5znaro16w a2ncjlf5gvk3gd ae9xdb8fn930y a3ht8iuj1jsh42 ao5g7awl3u1ls a2sfgm46yq5dlx a6vz59if5quy3 a3j64wsf1bt4tu a1aphmh65dc8f2 a38jrtb5eooya9 a1l1uzrpn37o08 atmt6di9p35m4 actqf4b48g4ih asu20liysau7x a1k67ckuuugc4e am8v46yjq5oo6 a1c9up9l5yfjty a1w5u97qhk6eoq a2izukchxkyqtu a2ssyhcp8kw0f3 avrb4xclowi6q a3mjn5ey5qxb1x a1chky6x6f0lg5 a2duur9qvw3t4q a1krj2rorbh0t9 a208bipfx1offn a1bg2qnozd3zlg a1qkmsfbw7neqc a1nr7ng1lo79ww a2dgznooro3cxi ackm31f7irdcs a21q8xoe3oxi8d a70k4zo4nfkfm a22apr69aosfxy a80gdutkbjpqp a32yn98qatvt3p a21tostc0z5uig a7jj140xrzo74 a20bwwl12185bf a1s3tyknfv6olx a26roqyte658pk a3ksb9w06rwsrp a1zkuvy6et7kf2 a1f5pkqfslmqyc ak4df4w71ef2v aztvy28ezfxsl a20zhrd88o43i8 afd9zt6dnoqci a2bd0a68r6nfcg a6o4v8vi8eezt a2momkg0jq6x7x adtnp46pwplnw a1bcdr91hlqqkx a5sgbdymyga9g apqd8o62raneo a153ov17al07yq a2ko9svvnuxlez a1p6c37uycrwiq a1ea0m1f5oxcaj a1lrcrwjd2e6ei a11w01u7vujhmk a10pbaepq11q7g ayp3ez4ya163r aeep5ythyf1hq ayvo4lw3egi4l a3jtdvj5yhazof a1fhz5jigihlcv a3pnkbfoi2vgke atxxcwrli6r71 au3fwmphhl52w a3pcx8jo8kpy54 atxjmd6gj1emi a2efpklic2okml a3fkscy64if14h a2w0xxt9yizmv3 a2njxk4wvwat8b a10gv6u2inirbs azn9te8lxwc63 a2hnbc2z6ftlhs a1nex9juso5444 a2uyiv6obglzg9 ahy9civ78lhuh a1ipi57kjya3jv a15gj18p81d9si a1f0bte01p6smu ac49lw6i3402w am6m7vnmg1t8z anm6v0s5a4lnw a1chq52okaqihf a1y7u7jb7z33y5 a9yzd68m41j33 a1yh4ntkgg8ycc a2ej0ezmdhnlqb a18ibjxwc3z6tk a3pw8h2ixdv2tf a3k0v14k6w7u5b aqv5h3i0l19s1 aaiqdatvepfd1 a37q5zomlww03h a2i8c2enwwbdcm a15f8meika0ekz a1uwxwe36wruu areoyquj187f3 a1izhpgz23nru asl9kia6uz0mc a2mbufps63zn38 a2sxyu45vqji6l acuk1s27pvo8k a2n0q215fo1eka a1ngkgjfxog2gs aa8qfvuci94y a1swvlscvgn92y a2zj02an84o5y aysqxayolvjbe a2vp0akgwhufba a8inz7i9lc9xc a1u3qtodfnclyc a3u8erz5h56fjt abozjewe6jb4x a25hm082igoyy2 a1ew5x67fmyw2u af1b1zlfx0smt a3cm8570w8jvz3 a6fwcsi62bjiz a3m9e288drr2q9 a2youxchgypuxj a3tbn3z5axuie0 abzjd596njp6z awr0jks4v2c4k at01sctsgqpgh a3ed75u3lxukx2 adp0j5y3wsbuf a3qlqgfa4mox1u a2pf73p709xgjc a9fxyhcka400t asb0wp9mfoqrz a3ckda9xykzosq akv5ux8dzglsq amgro11el82p2 a38hwlqiz6zzff a4zmvb8uw1aqb at8qmnvj9m0yg a1lj11qcrwe7aa a30h3rupmg8dim a2x53dgikjxz6f affifv1wcp128 a250udck1oxinc a3ungvvpjp6w81 a2obutwl7v8m6t a2kqqmipornpm3 a2g7k9ap89t305 a2dib6hm7nevsv aen0fapeax5qs a1e5fbvatgduy6 a29ronnahqyrh4
end PySem.W.Fast
open PySem PySem.W PyProof.Rows
set_option maxRecDepth 100000 in
set_option maxHeartbeats 0 in
theorem PySem.Challenge.cw_evenkinds_k42_what_is_no_step_holds : PySem.Challenge.rw_evenkinds_k42_what_is_no_step.Holds := by
 w_on;o_law;k_head;(case hw=>w_witness2)
 k_fill
 apply Ek.cd6 (l:=PySem.Challenge.rw_evenkinds_k42_what_is_no_step) (P:=Ek.S6) (G:=Ek.t5) (n:=100) (x:="_law_script") (dl:=Ek.V2) rfl rfl rfl {rfl,∅,∅} (λw h Y=>{W.km_in_of Y,W.km_tabs_of Y}) rfl ?hst ?F Ek.b16
 case hst=>
  intro st ps S;have e:=S.sc.pre;have e2:=S.np;rw[e2]at e;show e.symm
 case F=>
  intro w mg h KX G
  refine' Ek.c38 KX G ?_ ?_ ?_ ?_ ?_ ?_ ?_ ?_ ?_ ?_ ?_ ?_ ?_ ?_ ?_ ?_ ?_ ?_ ?_ ?_ ?_ ?_ ?_ ?_ ?_ ?_ ?_ ?_ ?_ ?_ ?_ ?_ ?_ ?_ ?_ ?_ ?_ ?_ ?_ ?_ ?_ ?_ ?_ ?_ ?_ ?_ ?_ ?_ ?_ ?_ ?_ ?_ ?_ ?_ ?_ ?_ ?_ ?_ ?_ ?_ ?_ ?_ ?_ ?_ ?_ ?_ ?_ ?_ ?_ ?_ ?_ ?_ ?_ ?_ ?_ ?_ ?_ ?_ ?_ ?_ ?_ ?_ ?_ ?_ ?_ ?_ ?_ ?_ ?_ ?_ ?_ ?_ ?_ ?_ ?_ ?_ ?_ ?_ ?_ ?_ ?_ ?_ ?_ ?_ ?_ ?_ ?_ ?_ ?_ ?_ ?_ ?_
  rotate_left 9
  iterate 7 (refine' Ek.fnA ?a ?b ?c ?d;(case a|b|c|d=>k_is))
  (refine' Ek.fnM ?a ?b ?c ?d ?e ?f ?g;(case a|b|c|d=>k_is);(case e=>rfl);(case f=>kernel_rfl);(case g=>decide))
  iterate 3 (refine' Ek.fnA ?a ?b ?c ?d;(case a|b|c|d=>k_is))
  (refine' Ek.fnM ?a ?b ?c ?d ?e ?f ?g;(case a|b|c|d=>k_is);(case e=>rfl);(case f=>kernel_rfl);(case g=>decide))
  iterate 15 (refine' Ek.fnA ?a ?b ?c ?d;(case a|b|c|d=>k_is))
  iterate 2 (refine' Ek.fnM ?a ?b ?c ?d ?e ?f ?g;(case a|b|c|d=>k_is);(case e=>rfl);(case f=>kernel_rfl);(case g=>decide))
  (refine' Ek.fnA ?a ?b ?c ?d;(case a|b|c|d=>k_is))
  (refine' Ek.fnM ?a ?b ?c ?d ?e ?f ?g;(case a|b|c|d=>k_is);(case e=>rfl);(case f=>kernel_rfl);(case g=>decide))
  (refine' Ek.fnA ?a ?b ?c ?d;(case a|b|c|d=>k_is))
  (refine' Ek.fnD ?a ?b ?c ?d ?e;(case a|b|c|d|e=>k_is))
  iterate 33 (refine' Ek.fnA ?a ?b ?c ?d;(case a|b|c|d=>k_is))
  (intro b hb;erw[Ek.V6,AQ]at hb;(repeat' (rcases hb with rfl|hb))<;>k_is)
  k_is
  rfl
  k_is
  rfl
  k_is
  rfl
  k_is
  rfl
  k_is
  kernel_rfl
  k_is
  kernel_rfl
  iterate 4 k_is
  iterate 2 (refine' Ek.clA ?a ?b ?c ?d ?e ?f ?g;(case a|b|c|d|e|f|g=>k_is))
  iterate 12 k_is
  iterate 2 kernel_rfl
  (refine' Ek.mtA ?a ?b ?c ?d ?e ?f;(case a|b|c|d|e|f=>k_is))
  (refine' Ek.mtD ?a ?b ?c ?d ?e ?f ?g;(case a|b|c|d|e|f|g=>k_is))
  iterate 8 (refine' Ek.mtA ?a ?b ?c ?d ?e ?f;(case a|b|c|d|e|f=>k_is))
  iterate 3 rfl
#print axioms PySem.Challenge.cw_evenkinds_k42_what_is_no_step_holds
