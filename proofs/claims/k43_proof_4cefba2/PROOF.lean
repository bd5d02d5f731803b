import PyProof.Rows.All
import PyProof.TupleKey
import PyProof.P3Eq
import PyProof.DictKinds
import Wide.All
import OpenK.AllK
import Wide.FinOn
import Lean
import PyProof.EqAt
import PyProof.EqKinds
import PyProof.TupleCall
import PyProof.StrBlockL
import PyProof.ListMulRoad
import PyProof.FactsAll.tuple
import PyProof.ZipIter
import PyProof.ListNew
import KE.KRevIter
import KE.KIntText
import PyProof.StrLawsIn
import KE.LcSums
import PyProof.EnumStmt
import PyProof.AttrMissHeap
import KE.KDictOf
import PyProof.Rows.Chain
import KE.KRevSl
import PySem.Challenge.RW_evenkinds_k43_rows_walked
set_option Elab.async false
set_option maxHeartbeats 4000000
set_option compiler.extract_closed false
set_option genSizeOf false
set_option bootstrap.genMatcherCode false
set_option linter.all false
local macro_rules(kind:=Lean.Parser.Command.declaration)|s=>if s.getPos?.isSome then return s.rewriteBottomUp (·.setInfo .none) else Lean.Macro.throwUnsupported
local macro_rules|`(command|abbrev $i:declId $s:optDeclSig $v:declVal)=>Lean.MonadRef.withRef .missing `(command|noncomputable def $i:declId $s:optDeclSig $v:declVal)
local macro_rules|`(command|def $i:declId $b* :$t $v:declVal)=>Lean.MonadRef.withRef .missing `(command|noncomputable def $i:declId $b* :$t $v:declVal)
local macro_rules|`({$a:term,$b:term,*})=>`(⟨$a,$b,*⟩)
local macro_rules|`(tactic|let $p:term:=$e:term)=>do
 let g:Lean.Syntax->Lean.Syntax:=λs=>if s.getKind==Lean.choiceKind then (s.getArgs.find? (·.getKind != ``Lean.Parser.Term.structInst)).getD s else s
 let rec f:Nat->Lean.Syntax->Lean.MacroM (Lean.TSyntax ``Lean.Parser.Tactic.rcasesPatLo)
  |0,_=>Lean.Macro.throwUnsupported
  |n+1,s=>do
   let s:=g s
   if s.isIdent then let i:Lean.Ident:=⟨s⟩;`(Lean.Parser.Tactic.rcasesPatLo|$i:ident)
   else if s.getKind==``Lean.Parser.Term.hole then `(Lean.Parser.Tactic.rcasesPatLo|_)
   else if s.getKind==`«term{_}» then let l<-s[1].getSepArgs.mapM (f n);`(Lean.Parser.Tactic.rcasesPatLo|⟨$l,*⟩)
   else Lean.Macro.throwUnsupported
 let p:=g p
 if p.getKind != `«term{_}» then Lean.Macro.throwUnsupported
 let l<-p[1].getSepArgs.mapM (f 9)
 `(tactic|obtain⟨$l,*⟩:=$e:term)
local macro_rules|`(⋯)=>`(by lia)
local macro_rules|`(∅)=>`(by decide)
local macro_rules|`(∎)=>`(by simp)
open List (mem_cons mem_filter mem_range length_cons append_assoc length_nil getElem?_eq_getElem mem_reverse any_eq_true map_map)
open Nat (add_mul)
open Bool (false_eq_true not_eq_true')
open PySem.Heap (size_push)
open Option renaming some->AA,none->AD,isSome_iff_exists->BU,isNone_iff_eq_none->Cq,isSome_map->Fl,getD_none->GJ,map_some->Gc,casesOn->Gp,isSome_some->IS,toList_some->IT,getD_some->Iq,isSome->Jl,getD->KL
open Decidable renaming decide->AB
open Bool renaming true->AC,false->AF,false_ne_true->AJ,and_eq_true->BG,false_eq_true->BN,and_self->Bm,not_eq_true'->EM,not_true->ES,eq_iff_iff->Ew,and_eq_true_iff->FL,or_eq_false_iff->Fe,or_false->Hj,false_or->Hk,and_false->Jn,or_eq_true->KG
open PySem renaming wpAny_bind->AE,Value->AG,Addr->AI,wpAny_pure->AK,Shared->AL,mainGlobals->AN,Expr->AU,wpAny->AW,PyData->Ak,Program->Al,starEach->Am,World->Aw,bootBuiltins->BK,Scope->BL,wpAny_holding->BQ,Stmt->BR,wpAny_field->BS,Around->BW,wpAny_call_entry->BX,wpAny_newObj_type->Ba,wpAny_callSpecial?_slot->Bb,assignEach->Bg,wpAny_specialOf->Bi,wpAny_mono->Bk,FuncData->Bl,wpAny_seqItems->Bn,compareOp->Bp,cLine->Bs,wpAny_truthy_bool->CB,backTo->CC,behindInMarks->CK,wpAny_Call_Name_kw->CN,builtinLookup_eq_fast->CP,sysModules->CV,swapsWith->Cc,wpAny_pyIter_tuple->Ci,wpAny_passesOwn->Ck,attributeBase->Cn,Arguments->Co,builtinsNs->Cv,binaryOp->Cy,call_meets->Cz,typeLookup_type->DQ,wpAny_setField_rec->DV,keywordEach->DX,foldedSetIterable->Dc,Builtin->Dh,FuncBody->Di,CmpOp->Do,DictEntry->Dp,wpAny_rule->Dq,rawInt->Dr,swapsWithSole->Dt,getItem->Du,bindArgs->EA,sliceBounds->EB,wpAny_updateSeq->EH,codeAny->EL,TriplesOk->ET,wpAny_setField->Eb,methodCallForm->Ec,isSubtype_type->Ed,IsPair->Ee,eqIsQuiet_byValue->El,wpAny_pyHash_str->FE,wpAny_isInstance->FF,Operator->FG,backToKw->FH,pyNext->FR,wpAny_typeOf->FU,wpAny_execs_nil->Fa,letOwnedTupleGo->Fb,wpAny_loadPart'->Fc,NameKind->Fy,IsPart->GA,firstArgMember->GB,codeAmong->GL,wpAny_standAt->Ga,swappedStores->Gb,wpAny_attempt->Gd,ExceptHandler->Gh,typeLookup->Gj,BindsTo->HA,codeAny_mono->HB,wpAny_sequenceKey->HD,slot_list_getitem->HE,valueAt->HH,wpAny_pyIter_enum->HI,wpAny_pyIter_list->HK,wpAny_pyHash_int->HS,PassesOwn->HV,noFill_tuple_add->HX,sizeLine_eq->Hg,wpAny_of_eq->Hm,standAt->Hs,Keyword->Hw,callerA->Hy,isTrue->IF,recursionLimit->II,atKey->IL,closureFor->IM,seq_tuple_add->IW,evalPart_none->IX,wpAny_getItem_list_slice->IY,wpAny_comprehension_free->IZ,Comprehension->Ib,bindL->Ih,bindC->Ii,seqIndex?->Ij,Meets->Ik,updateSeq->Il,pyIter->Iw,wpAny_pyNext_list_item->Ix,Result->JA,concat_meets->JC,seqIndex_neg->JD,callType_new->JH,wpAny_isTrue_Compare1->JN,wpAny_pyNext_list_end->JO,getitemInPython_of_ne->JQ,seqIndex_of->JX,wpAny_letTemporaryGo->JZ,wpAny_newFunctionEnv->Ja,wpAny_pyIter_revIter->Jb,wpAny_updateSeq_pair->Jf,wpAny_letGo->Jg,wpAny_Name->Jw,typeIs_int->KC,setItem->KN,wpAny_assign_Name->KO,wpAny_Call_method->KQ,dictGet->KU,slot_dict_getitem->KW,wpAny_pyIter_slot->KY,beq_builtin_none->Ke,wpAny_forIn_list->Kf,wpAny_execs_cons->Kg,getMethod->Kj,cellsFrom->Km,wpAny_Dict_empty->Ku,wpAny_operating->LD,wpAny_Compare1->LR,IntMulOk->LS,wpAny_notIn_of->LY,letTemporaryGo->LZ,cellOf->La,compEnvC->Lb,newFunctionEnv->Ld,newExc->Le,IsEnum->Lf,argsOk->Lh,wpAny_newTuple->Li,isSubtype_stop->Lj,BoolOp->Lk
open List renaming getElem?_eq_getElem->AH,mem_cons->AM,getElem?_eq_some_iff->AS,length_cons->AT,length_map->AX,getElem?_map->AY,getElem?_append_left->AZ,size_toArray->Aa,replicate->Ab,map_append->Ad,mem_cons_of_mem->Ae,length_append->Af,not_mem_nil->Ah,getElem?_append_right->Ai,mem_singleton->Ao,length_nil->Aq,map_cons->Ar,drop_eq_getElem_cons->BA,mem_append->BD,mem_of_getElem?->BE,append_nil->BF,length->BI,mem_append_right->BJ,nodup_cons->BP,getElem?_eq_none->Be,eq_nil_of_length_eq_zero->Bh,append_assoc->Bo,cons_append->Br,mem_cons_self->Bu,length_take->By,length_drop->Bz,find?_cons->CD,mem_iff_getElem?->CM,mem_map->CO,mem_flatten->CT,map_map->CU,nil_append->CW,range->CZ,replicate_succ->Ce,take_of_length_le->Cr,filterMap_cons->Cw,sum_append->DC,prefix_refl->DD,getElem_mem->DE,length_replicate->DG,reverse_cons->DH,lookup->DJ,sum_cons->DP,flatten_replicate_singleton->DR,getElem?_replicate->DU,flatten_cons->De,flatten_append->Dl,casesOn->Dv,getElem?_concat_length->Dx,lookup_cons->EC,all_eq_true->ED,mem_append_left->EF,ext_getElem?->EN,nodup_append->EO,mapIdx->EQ,reverse_append->Ef,getElem?_set_self->Em,map_nil->Eo,take_length->Ep,drop_of_length_le->Er,getElem?_reverse->Ex,eq_nil_or_concat->FA,concat_eq_append->FB,take_append_drop->FC,getElem?_set_ne->FK,reverse_reverse->FM,mem_iff_getElem->FN,map->FP,of_mem_zip->FT,map_congr_left->Fh,foldl->Fk,length_reverse->GC,mem_reverse->GE,any_eq_true->GF,isEmpty_iff->GH,take_sublist->GI,getElem?_set->GK,length_range->GN,take_add_one->GO,eraseIdxIfInBounds_toArray->GR,zip_cons_cons->Gf,drop->Gg,length_mapIdx->Gi,drop_append_of_le_length->Gm,any_eq_false->Gy,any_cons->HG,sum_nil->HN,mem_or_eq_of_mem_set->He,getElem?_take_of_lt->Hi,drop_length->Ho,length_eq_zero_iff->Hr,filter_eq_nil_iff->IA,length_singleton->IK,set_append_right->IP,mem_map_of_mem->Ie,mem_filterMap->Ig,zip_nil_right->Im,drop_zero->Io,mapIdx_append->Ip,take_left'->Jc,length_zip->Je,map_reverse->Jj,mapIdx_cons->Jk,forIn_nil->Jq,forIn_cons->KF,drop_nil->KH,map_drop->KJ,map_set->Kb,nodup_nil->Kt,map_take->Ln
open PySem.W renaming Frag->AO,nsIn->BB,findIn->Bc,keepIn->Bv,codeHdIn->CS,kia_one->Cj,emptyDict->Cs,kitOne->Ct,fnOf->DN,codeIn->Db,callWith_K->EG,instObj->EJ,plainGet->GQ,hasDictIn->HR,methodCall_KW->HZ,mg_of->Hn,tabObj->Hq,plainGet_of->IH,makesIn->IR,methodObj->Iv,lookIn->Iy,plainOver->Iz,noTabs->JL,isFn->JW,takerIn->Jy,cellsFrom_some->Jz,callWith_K0->LB,codeHd_of_K->LK,kitx_tuple->LU
open PySem.Heap renaming get?_push_of_some->AQ,get?_push_size->Aj,lt_size->BC,get?_update_self->CL,size_push->Cd
open Nat renaming le_refl->AR,lt_of_lt_of_le->An,le_trans->Ap,zero_le->Av,ne_of_lt->BO,succ_le_succ->Bw,le_succ_of_le->Cp,pow_le_pow_right->DI,lt_irrefl->DW,add_le_add->Ds,min_le_left->Dy,add_assoc->ER,lt_of_le_of_lt->Ea,min->Eu,le_of_lt->Gw,lt_succ_self->Gz,min_le_right->HC,succ_ne_self->HJ,le_add_right->HL,strongRecOn->HP,le_add_left->HQ,mul_le_mul->Hf,add_sub_cancel_left->IB,pow_succ->IN,pow_lt_pow_right->Ic,pow_le_pow_left->Ir,mul_le_mul_left->Iu,le_succ->JB,add_sub_cancel->JK,one_le_two_pow->JM,lt_succ_of_lt->JR,le_of_succ_le->JT,min_eq_right->Jh,le_max_right->Ji,min_eq_left->Jt,le_max_left->Ju,ne_of_gt->Kh,le_of_eq->Kk,zero_add->Ky,sub_self->Kz,add_zero->LA,one_pos->LM,mul_pos->LN,pow_pos->LO,pow_mul->LP,pow_one->LQ,add_comm->LX,not_lt->Lc,mul_comm->Lg,sub_zero->Ll,max_zero->Lm
open False renaming elim->AV
open PySem.Str renaming ofString->Ac
open List.cons renaming inj->Ag,injEq->As
open PySem.Value renaming ref->At,none->Bd,type->CY,bool->Dz,int->EX,str->EY,isInt_shape->Fx,isInt->GZ,isStrOf->HU,float->ID,isStrOf_shape->IQ,bytes->KM
open PySem.PyData renaming eqv->Au,eqvAll->BZ,depthAll->Bf,depth->CA,canLay0->CQ,canLayAll0->DL,strOk->Jr
open Ne renaming symm->Ax
open Option.some renaming inj->Ay,injEq->CH
open PySem.NameKind renaming free->Az
open PyProof.Rows renaming callWith_type1->BH,slot_tuple_getitem->BV,Good->Dj,slot_tuple_getitem->EZ,subscriptTail->Et,AllBare->Gv,lt_int->HM,envOfC->HW,IsTup->IE,Subscript_->IJ,Constant_none->IV,subscriptTail_builtinR->JE,IntsAre->JG,Call_->JV,entry_tuple_getitem->Jm,args_tuple_getitem->KB,callWith_builtin1->LC,slicePart_none->LV,tail_any->LW
open PySem.Builtin.SmallTypes renaming nextOf->BM,ownedTupleIsFree->Bq,ownedTupleHandOut->EE
open Int renaming eq_ofNat_of_zero_le->BY,toNat_natCast->Bx,emod_lt_of_pos->EI,emod_nonneg->FD,natCast_mul->Jp,le_refl->LL
open PySem.Builtin.Tuple renaming tupleHashOf->Bj,tupleExact->Ch,tupleItemsOf->Da,tupleTooMany->Fj,tupleIsExact->Kx
open PySem.Obj renaming mapSeq->Bt,data_mapFields->Cf,isFreed_of_fields->FJ,cls_mapFields->JS
open PyProof.Rows.KTD renaming datumAt->CG
open PySem.Builtin.List renaming listTooLong->CI,listExtendWith->DZ,listSameRef->GM,listItems->Ge,listUpdate->LH,listLengthHint->LI,listTouch->LJ
open ForInStep renaming yield->CJ
open True renaming intro->Cb
open PySem.Builtin.Slice renaming slicePlaces->Cg,sliceAdjust->Dd,sliceApplied->Fi,slicePartIndex->Ko,sliceFields->Kq
open Array renaming getElem?_eq_some_iff->Cm,length_toList->FQ,toList_append->FV,getElem?_toList->Hx,forIn_toList->IU,toList->Jx
open PySem.F renaming slot_tuple_iterator_next->Cu,slot_tuple_mul->Dn,slot_tuple_hash->Eg,plain_extend_loop->GD,args_tuple_mul_2->GS,entry_tuple_mul->Gk,args_tuple_iterator_next_1->HY,slot_zip_next->Hb,entry_tuple_iterator_next->Hl,args_list_extend_2->JF,args_object_init_2->JI,entry_list_extend->JP,slot_list_extend->JY,slot_tuple_rmul->Jo,entry_list_pop->KD,slot_list_pop->KP,slot_int_rmul->KS,slot_zip_iter->KZ
open PySem.Calls renaming spliced_cons->DF,callWith_builtin->DM,spliced_nil->EK,evalArgs_plain->FI,Name_function_global->Gx
open PySem.Builtin.Int renaming intBits->DY,intTooBig->Gn
open List.mapIdx renaming go->Dk
open Nat.succ renaming inj->Dm
open PySem.Stmt.FunctionDef renaming elim->Dw
open PySem.Expr.Attribute renaming elim->EU
open PySem.Expr.Subscript renaming elim->EV
open PySem.Arg renaming arg->EW
open PySem.Expr.ListComp renaming elim->Eh
open PySem.Expr.Constant renaming elim->Ei
open PySem.Stmt.Continue renaming elim->Ej
open PySem.Expr.UnaryOp renaming elim->Ey
open PySem.Expr.Compare renaming elim->Ez
open PySem.Expr.BoolOp renaming elim->FW
open PySem.Stmt.Assign renaming elim->FX
open PySem.Stmt.Return renaming elim->FY
open Sum renaming inl->FZ,inr->GP
open PySem.Expr.BinOp renaming elim->Fn
open PySem.Expr.IfExp renaming elim->Fp
open PySem.Expr.Tuple renaming elim->Fq
open PySem.Expr.Slice renaming elim->Fu
open PySem.Stmt.While renaming elim->Fv
open Char renaming toNat->Fw
open PySem.Expr.Dict renaming elim->GT
open PySem.Expr.Call renaming elim->GU
open PySem.Expr.Name renaming elim->GV
open PySem.Expr.List renaming elim->GW
open PySem.Stmt.Expr renaming elim->GX
open PySem.Stmt.Pass renaming elim->GY
open PySem.AutoSeq1 renaming wpAny_loadPart'->Go
open PySem.Stmt.For renaming elim->Gq
open PySem.Stmt.Try renaming elim->Gu
open PySem.Stmt.If renaming elim->Hd
open PySem.Around renaming under->Hh,frames_deeper->Hv
open PySem.Code renaming isFrame->Hu,frames->Kl
open PySem.Shared renaming heap->Hz,TypeIs->Jd
open PySem.BindsTo renaming of_defaults->IC
open PySem.CmpOp renaming NotIn->IG
open PySem.SeqAt renaming rcNeAt_reads->Ia,rcAt_reads->JJ
open Prod.mk renaming injEq->JU
open PySem.W.WShape renaming has->KR
open Eq renaming trans->Ka
open PySem.Builtin.Range renaming rangeSize->Ki
open LawfulBEq renaming eq_of_beq->Kr
open List.Pairwise renaming nil->Kv
open PySem.W.WData renaming int->LF
open PySem.Builtin.Dict renaming missed->LG
theorem oz1{α:Type u}{a:α}{C:Prop}(h:some a=none):C:=nomatch h
theorem oz2{α:Type u}{a:α}{C:Prop}(h:none=some a):C:=nomatch h
theorem oz3{C:Prop}(h:true=false):C:=nomatch h
theorem oz4{C:Prop}(h:false=true):C:=nomatch h
theorem oy{α:Type u}{o:Option α}{d:α}(h:o=some d):o.isSome=true:=h▸rfl
local macro_rules|`(tactic|cases $h:ident)=>`(tactic|first|subst $h|exact oz1 $h|exact oz2 $h|exact oz3 $h|exact oz4 $h|(replace $h:ident:=Option.some.inj $h;subst $h)|cases ($h))
local macro_rules|`(tactic|erw[$rs,*]$[$l]?)=>do
 let ts:Array Lean.Term:=rs.getElems.map λr=>⟨r.raw[1]⟩
 `(tactic|simp only[$[$ts:term],*]$[$l]?)
local macro_rules|`(#v[$xs,*])=>do
 let mut z<-`(.nil)
 for x in xs.getElems.reverse do z<-`(.cons $x $z)
 return z
theorem oe1{α:Sort u}{p:α->Prop}{G:Prop}(h:∃a,p a)(k:∀a,p a->G):G:=h.elim k
theorem oe2{α:Sort u}{β:Sort v}{p:α->β->Prop}{G:Prop}(h:∃a b,p a b)(k:∀a b,p a b->G):G:=oe1 h λa h=>oe1 h (k a)
theorem oe3{α:Sort u}{β:Sort v}{γ:Sort w}{p:α->β->γ->Prop}{G:Prop}(h:∃a b c,p a b c)(k:∀a b c,p a b c->G):G:=oe1 h λa h=>oe2 h (k a)
theorem oe4{α:Sort u}{β:Sort v}{γ:Sort w}{δ:Sort x}{p:α->β->γ->δ->Prop}{G:Prop}(h:∃a b c d,p a b c d)(k:∀a b c d,p a b c d->G):G:=oe1 h λa h=>oe3 h (k a)
theorem oe5{α:Sort u}{β:Sort v}{γ:Sort w}{δ:Sort x}{ε:Sort y}{p:α->β->γ->δ->ε->Prop}{G:Prop}(h:∃a b c d e,p a b c d e)(k:∀a b c d e,p a b c d e->G):G:=oe1 h λa h=>oe4 h (k a)
theorem oe6{α:Sort u}{β:Sort v}{γ:Sort w}{δ:Sort x}{ε:Sort y}{ζ:Sort z}{p:α->β->γ->δ->ε->ζ->Prop}{G:Prop}(h:∃a b c d e f,p a b c d e f)(k:∀a b c d e f,p a b c d e f->G):G:=oe1 h λa h=>oe5 h (k a)
theorem oa2{A B G:Prop}(h:A∧B)(k:A->B->G):G:=k h.1 h.2
theorem oa3{A B C G:Prop}(h:A∧B∧C)(k:A->B->C->G):G:=oa2 h.2 (k h.1)
theorem oa4{A B C D G:Prop}(h:A∧B∧C∧D)(k:A->B->C->D->G):G:=oa3 h.2 (k h.1)
theorem oa5{A B C D E G:Prop}(h:A∧B∧C∧D∧E)(k:A->B->C->D->E->G):G:=oa4 h.2 (k h.1)
theorem oa6{A B C D E F G:Prop}(h:A∧B∧C∧D∧E∧F)(k:A->B->C->D->E->F->G):G:=oa5 h.2 (k h.1)
theorem oa7{A B C D E F H G:Prop}(h:A∧B∧C∧D∧E∧F∧H)(k:A->B->C->D->E->F->H->G):G:=oa6 h.2 (k h.1)
theorem oa8{A B C D E F H I G:Prop}(h:A∧B∧C∧D∧E∧F∧H∧I)(k:A->B->C->D->E->F->H->I->G):G:=oa7 h.2 (k h.1)
open Lean in
local macro_rules|`(tactic|obtain⟨$ps,*⟩:=$e:term)=>do
 let ps:=ps.getElems
 let n:=ps.size
 let rec br(f:Nat)(s:Syntax):Bool:=match f with
  |0=>false
  |f+1=>s.getKind==``Lean.Parser.Tactic.rcasesPatMed&&s[0].getArgs.size>1||s.getArgs.any (br f)
 if n<2||ps.any (br 20 ·) then
  Macro.throwUnsupported
 let rec pl(f:Nat)(s:Syntax):Syntax:=match f with
  |0=>s
  |f+1=>if s.isIdent then s else if s.getArgs.size==1&&s.getKind != ``Lean.Parser.Tactic.rcasesPat.ignore||s.getArgs.size==2&&s[1].getArgs.size==0 then pl f s[0] else s
 let mut ts:Array (Array (TSyntax `tactic)):=#[]
 for p in ps do
  let q:=pl 8 p.raw
  let j ← withFreshMacroScope `(z)
  let j:Ident:=⟨j.raw⟩
  if q.isIdent&&q.getId != `rfl then
   ts:=ts.push #[← `(tactic|intro $(⟨q⟩):ident)]
  else
   ts:=ts.push #[← `(tactic|intro $j:ident),← if q.isIdent then `(tactic|subst $j:ident) else if q.getKind==``Lean.Parser.Tactic.rcasesPat.ignore then `(tactic|skip) else if p.raw[1].getArgs.size==0 then `(tactic|obtain $(⟨p.raw[0]⟩):rcasesPatMed:=$j:ident) else `(tactic|rcases $j:ident with $p:rcasesPatLo)]
 let cl ← if e.raw.isIdent then `(tactic|try clear $(⟨e.raw⟩):ident) else `(tactic|skip)
 let mut al:Array (TSyntax ``Lean.Parser.Tactic.tacticSeq):=#[]
 for (c,b,t) in [("oe",1,6),("oa",2,8)] do
  for k' in [0:t] do
   let k:=t-k'
   let u:=if c=="oe" then k+1 else k
   if b<=k&&u<=n then
    let x:=mkIdent (.str .anonymous s!"{c}{k}")
    let mut pp:=(ts.extract 0 (if u==n then n else u-1)).foldl (·++·) #[]
    if u<n then
     let rs:=ps.extract (u-1) n
     pp:=pp ++ #[← `(tactic|intro h),← `(tactic|obtain⟨$rs,*⟩:=h)]
    al:=al.push (← `(Lean.Parser.Tactic.tacticSeq|refine $x $e ?_;$cl;$[$pp]*))
 `(tactic|first $[|$al]*|rcases $e:term with⟨$(ps),*⟩)
local macro_rules|`(tactic|apply $e:term)=>`(tactic|refine $e)
local macro_rules|`(tactic|show $e:term)=>`(tactic|exact $e)
namespace PySem
noncomputable instance decPyData:DecidableEq Ak:=λa b=>Classical.propDecidable (a=b)
namespace NK
mutual
noncomputable def lit:Ak->Bool
 |.int _=>AC
 |.str x=>CQ (.str x)
 |.tuple ds=>lits ds
 |_=>AF
noncomputable def lits:List Ak->Bool
 |[]=>AC
 |d::r=>lit d&&lits r
end
mutual
theorem ar0:∀d:Ak,lit d=AC->d.canLay0=AC
 |.int _,_=>rfl
 |.str _,h=>h
 |.tuple ds,h=>by rw[CQ];show be8 ds h
 |.none,h=>nomatch h
 |.bool _,h=>nomatch h
 |.list _,h=>nomatch h
 |.dict _,h=>nomatch h
theorem be8:∀ds:List Ak,lits ds=AC->DL ds=AC
 |[],_=>rfl
 |d::r,h=>by
  have h':lit d=AC/\lits r=AC:=by simpa[lits]using h
  change(d.canLay0&&DL r)=AC;rw[ar0 d h'.1,be8 r h'.2];rfl
end
mutual
theorem eqv_lit:∀x y:Ak,lit x=AC->lit y=AC->(Au x y=AC↔x=y)
 |.int i,.int j,_,_=>by rw[Au];simp
 |.int i,.str y,_,_=>by simp[Au]
 |.int i,.tuple ys,_,_=>by simp[Au]
 |.str x,.int j,_,_=>by simp[Au]
 |.str x,.str y,_,_=>by rw[Au];simp
 |.str x,.tuple ys,_,_=>by simp[Au]
 |.tuple xs,.int j,_,_=>by simp[Au]
 |.tuple xs,.str y,_,_=>by simp[Au]
 |.tuple xs,.tuple ys,hx,hy=>by rw[Au,bd1 xs ys hx hy];simp
 |.none,_,h,_=>nomatch h
 |.bool _,_,h,_=>nomatch h
 |.list _,_,h,_=>nomatch h
 |.dict _,_,h,_=>nomatch h
 |_,.none,_,h=>nomatch h
 |_,.bool _,_,h=>nomatch h
 |_,.list _,_,h=>nomatch h
 |_,.dict _,_,h=>nomatch h
theorem bd1:∀xs ys:List Ak,lits xs=AC->lits ys=AC->(BZ xs ys=AC↔xs=ys)
 |[],[],_,_=>by simp[BZ]
 |[],y::ys,_,_=>by simp[BZ]
 |x::xs,[],_,_=>by simp[BZ]
 |x::xs,y::ys,hx,hy=>by
  have hx':lit x=AC/\lits xs=AC:=by simpa[lits]using hx
  have hy':lit y=AC/\lits ys=AC:=by simpa[lits]using hy
  rw[BZ,BG,eqv_lit x y hx'.1 hy'.1,bd1 xs ys hx'.2 hy'.2];simp
end
theorem ap3:∀{b},lits b=AC->∀d∈b,lit d=AC
 |[],_,d,h=>by cases h
 |e::r,c,d,h=>by
  have a:=by simpa[lits]using c
  rcases AM.mp h with rfl|h
  ·show a.1
  ·show ap3 a.2 d h
theorem ao7:∀{a}{d},d∈a->d.depth<=Bf a
 |e::r,d,h=>by
  change d.depth<=max e.depth (Bf r)
  rcases AM.mp h with rfl|h
  ·lia
  ·have:=ao7 h;lia
def depth_tup{ds}:(PyData.tuple ds).depth=Bf ds+1:=by rw[CA]
mutual
theorem bo3{h:Heap}:∀(x y:Ak){v:AG}{as bs:List AI},lit x=AC->lit y=AC->Reads h v x as->Reads h v y bs->x=y
 |.int i,y,v,as,bs,_,hy,rx,ry=>by
  cases rx;cases ry;rfl
 |.str x,y,v,as,bs,_,hy,rx,ry=>by
  cases rx;cases ry;rfl
 |.tuple xs,y,v,as,bs,hx,hy,rx,ry=>by
  cases rx with
  |tuple e1 e2 e3 e4=>
   cases ry with
   |tuple f1 f2 f3 f4=>
    rw[e1]at f1;cases f1;rw[e3]at f3;cases f3;rw[bi5 xs _ hx hy e4 f4]
   |list=>cases hy
   |dict=>cases hy
 |.none,_,_,_,_,h,_,_,_=>nomatch h
 |.bool _,_,_,_,_,h,_,_,_=>nomatch h
 |.list _,_,_,_,_,h,_,_,_=>nomatch h
 |.dict _,_,_,_,_,h,_,_,_=>nomatch h
theorem bi5{h:Heap}:∀(xs ys:List Ak){vs:List AG}{as bs:List AI},lits xs=AC->lits ys=AC->ReadsAll h vs xs as->ReadsAll h vs ys bs->xs=ys
 |[],ys,vs,as,bs,_,_,rx,ry=>by cases rx;cases ry;rfl
 |x::xs,ys,vs,as,bs,hx,hy,rx,ry=>by
  cases rx with
  |cons r1 r2=>cases ry with
   |@cons _ _ y ys _ _ q1 q2=>
    have hx':lit x=AC/\lits xs=AC:=by simpa[lits]using hx
    have hy':lit y=AC/\lits ys=AC:=by simpa[lits]using hy
    rw[bo3 x y hx'.1 hy'.1 r1 q1,bi5 xs ys hx'.2 hy'.2 r2 q2]
end
mutual
theorem bf1{h h':Heap}{d:AI}{o:Obj}{es:Array Dp}{ep:Nat}(ho:h.get? d=AA o)(hd:o.data=.dict es ep)(hs:Heap.SameBut d h h'):∀(x:Ak){v:AG}{as:List AI},lit x=AC->Reads h v x as->∃bs,Reads h' v x bs
 |.int i,v,as,_,r=>by cases r;show{_,.int _ _}
 |.str x,v,as,_,r=>by cases r;show{_,.str _ _}
 |.tuple xs,v,as,hx,r=>by
  cases r with
  |@tuple a o' _ _ _ _ e1 e2 e3 e4=>
   have hne:a≠d:=by
    rintro rfl;rw[e1]at ho;cases ho;rw[hd]at e3;show nomatch e3
   let{bs,r'}:=bb6 ho hd hs xs hx e4;show{_,.tuple ((hs.2 a hne).trans e1) e2 e3 r'}
 |.none,_,_,h,_=>nomatch h
 |.bool _,_,_,h,_=>nomatch h
 |.list _,_,_,h,_=>nomatch h
 |.dict _,_,_,h,_=>nomatch h
theorem bb6{h h':Heap}{d:AI}{o:Obj}{es:Array Dp}{ep:Nat}(ho:h.get? d=AA o)(hd:o.data=.dict es ep)(hs:Heap.SameBut d h h'):∀(xs:List Ak){vs:List AG}{as:List AI},lits xs=AC->ReadsAll h vs xs as->∃bs,ReadsAll h' vs xs bs
 |[],vs,as,_,r=>by cases r;show{_,.nil}
 |x::xs,vs,as,hx,r=>by
  cases r with
  |cons r1 r2=>
   have hx':lit x=AC/\lits xs=AC:=by simpa[lits]using hx
   let{b1,q1}:=bf1 ho hd hs x hx'.1 r1;let{b2,q2}:=bb6 ho hd hs xs hx'.2 r2;show{_,.cons q1 q2}
end
mutual
noncomputable def hK(w:Aw):Ak->Int
 |.int i=>hashInt i
 |.str x=>hashStr w x
 |.tuple ds=>reduceHash (Bj (hKs w ds))
 |_=>0
noncomputable def hKs(w:Aw):List Ak->List Int
 |[]=>[]
 |d::r=>hK w d::hKs w r
end
mutual
noncomputable def dw:Ak->Nat
 |.tuple ds=>dws ds+1
 |_=>1
noncomputable def dws:List Ak->Nat
 |[]=>0
 |d::r=>dw d+dws r
end
theorem as0 w:∀a b,hKs w (a++b)=hKs w a++hKs w b
 |[],b=>rfl
 |x::a,b=>by rw[Br,hKs,as0 w a b];rfl
theorem aq7:∀a b,dws (a++b)=dws a+dws b
 |[],b=>by simp[dws]
 |x::a,b=>by rw[Br,dws,aq7 a b,dws,ER]
variable {prog:Al} {w:Aw}
def cn0:∀(n:Nat)(d:Ak),d.depth<=n->lit d=AC->∀{A:BW}{E:AG->AL->Prop}{s:AL}{v:AG}{y:List AI}{Q:Int->AL->Prop},A.units+n<Bs->Reads s.heap v d y->Q (hK w d) {s with toks:=s.toks+dw d}->AW (model prog w) A (pyHash v) Q E s:=by
 intro n
 induction n with
 |zero=>
  intro d J c A E s v y Q S r h;cases r with
  |int i t=>show HS (by simpa[hK,dw]using h)
  |str x t=>show FE (by simpa[hK,dw]using h)
  |tuple=>rw[depth_tup]at J;lia
  |none=>cases c
  |bool=>cases c
  |list=>cases c
  |dict=>cases c
 |succ n R=>
  intro d J c A E s v y Q S r h;cases r with
  |int i t=>show HS (by simpa[hK,dw]using h)
  |str x t=>show FE (by simpa[hK,dw]using h)
  |none=>cases c
  |bool=>cases c
  |list=>cases c
  |dict=>cases c
  |@tuple a o D m z y O U I T=>
   rw[depth_tup]at J;have H:lits z=AC:=c;have u:s.TypeIs (.ref a) "tuple":=⟨o,O,U⟩;unfold pyHash
   first|apply AE (wpAny_cRoomFor_or (.inr ⋯) ?_)|skip
   apply AE (Bi u Eg.lookup ?_);apply AE (Bi u Eg.lookup ?_);apply AE (wpAny_callSpecialIfBoundUnlessNone?_slot u Eg (BX Eg u F.entry_tuple_hash ?_ (F.args_tuple_hash_1 _)));change AW _ _ (Da (.ref a)>>=_) _ _ s;apply AE (wpAny_tupleItemsOf O I ?_);apply AE ?_;rw[<-IU];apply Kf _
    (λN(b:Array Int)C=>∃done left K,z=done++left/\ReadsAll s.heap N left K/\b.toList=hKs w done/\C={s with toks:=s.toks+dws done})
    _ ?_ ?_ _ _ {[],z,_,rfl,T,rfl,rfl}
   ·rintro x N b C ⟨done,left,K,rfl,hl2,hb,rfl⟩;cases hl2 with
    |@cons _ _ k f _ _ V j=>
     have P:k∈done++k::f:=by simp
     apply AE (R k (by have:=ao7 P;lia) (ap3 H k P) ?_ V ?_)
     ·change A.units+1+n<Bs;lia
     first
      |show AK {done++[k],f,_,∎,j,by rw[as0];simp[hb,hKs],by simp[aq7,dws,ER]}
      |show AE (AK (AK {done++[k],f,_,∎,j,by rw[as0];simp[hb,hKs],by simp[aq7,dws,ER]}))
   ·rintro b C ⟨done,left,K,rfl,hl2,hb,rfl⟩;cases hl2;rw[BF]at h;erw[hK,dw]at h;change AW _ _ (retInt (Bj b.toList)) _ _ _;rw[hb];apply wpAny_ret_mkInt ?_;change AW _ _ (if(AB (-(2:Int)^63<=Bj (hKs w done))&&AB (Bj (hKs w done)<2^63))=AC then _ else _) Q E _;unfold reduceHash at h
    by_cases q:(AB (-(2:Int)^63<=Bj (hKs w done))&&AB (Bj (hKs w done)<2^63))=AC
    ·rw[if_pos q];rw[if_pos q]at h;show AK (by simpa[ER]using h)
    ·rw[if_neg q];rw[if_neg q]at h;show AE (Dq (AK (by simpa[ER]using h)))
def b84:∀n(d),d.depth<=n->lit d=AC->∀{A}{E}{s}{v}{j}{Q},Reads s.heap v d j->Q AC s->AW (model prog w) A (eqIsQuiet n v) Q E s:=by
 intro n
 induction n with
 |zero=>
  intro d H b A E s v j Q r h;cases r with
  |int i t=>show AK h
  |str x t=>show AK h
  |tuple=>rw[depth_tup]at H;lia
  |none=>cases b
  |bool=>cases b
  |list=>cases b
  |dict=>cases b
 |succ n T=>
  intro d H b A E s v j Q r h;cases r with
  |int i t=>show AK h
  |str x t=>show AK h
  |none=>cases b
  |bool=>cases b
  |list=>cases b
  |dict=>cases b
  |@tuple a o y m P j L V G U=>
   rw[depth_tup]at H;have D:=b;have N:s.TypeIs (.ref a) "tuple":=⟨o,L,V⟩;unfold eqIsQuiet;apply AE (Bi N F.slot_tuple_eq.lookup ?_);apply AE (FF N isSubtype_tuple_tuple ?_);apply AE (Bn L G ?_);apply AE ?_;rw[<-IU];apply Kf _ (λK r p=>r.1=AD/\p=s/\∃left O,(∀k∈left,lit k=AC/\k.depth<=n)/\ReadsAll s.heap K left O) _ ?_ ?_ _ _ {rfl,rfl,P,_,λk M=>⟨ap3 D k M,by have:=ao7 M;lia⟩,U}
   ·rintro v K r p ⟨hr,rfl,left,O,hall,hl2⟩;cases hl2 with
    |@cons _ _ k q _ _ W C=>
     let{S,R}:=hall k ∎;apply AE (T k R S W ?_);show AK {rfl,rfl,q,_,λu B=>hall u (by simp[B]),C}
   ·rintro⟨r1,r2⟩ p ⟨hr,rfl,_⟩;subst hr;show AK h
abbrev isK(h:Heap)(k:Ak)(a:AI):Prop:=lit k=AC/\k.depth<=7/\∃as,Reads h (.ref a) k as
abbrev dataKind(prog:Al)(w:Aw):HeapKind prog w Ak where
 is:=isK
 hash:=hK w
 draws:=dw
 room:=λA=>A.units+8<Bs
 inj:=λ⟨l1,_,_,r1⟩⟨l2,_,_,r2⟩=>bo3 _ _ l1 l2 r1 r2
 keeps:=λ⟨l1,d1,_,r1⟩ho hd hs=>{l1,d1,bf1 ho hd hs _ l1 r1}
 pyHash:=λhu⟨l1,d1,_,r1⟩h=>cn0 7 _ d1 l1 ⋯ r1 h
 eqBool:=λ{A E s x y a b Q}hu⟨l1,d1,_,r1⟩⟨l2,d2,_,r2⟩h=>by
  have e:Au x y=AB (x=y):=by
   by_cases z:x=y
   ·rw[decide_eq_true z];show(eqv_lit x y l1 l2).mpr z
   ·rw[decide_eq_false z];cases q:Au x y with
    |false=>rfl
    |true=>show absurd ((eqv_lit x y l1 l2).mp q) z
  have:=SeqAt.eqAt_reads x y A s _ _ _ _ r1 r2 (ar0 x l1) (ar0 y l2) (by have:min x.depth y.depth<=x.depth:=Dy _ _;lia);rw[e]at this;show this prog w E Q h
 quiet:=λ⟨l1,d1,_,r1⟩h=>b84 8 _ ⋯ l1 r1 h
def dataKind_room_in1{prog}{w}{A:BW}(h:A.units+20<Bs):(dataKind prog w).room A.in1:=by
 change A.units+1+8<Bs;lia
end NK
end PySem
set_option maxRecDepth 100000
namespace L2
open PySem PySem.Spec PyProof.Rows
section
@[reducible]noncomputable def Key:=Sum Int Str
abbrev W9:Key->AG->Bool
 |.inl k,v=>GZ k v
 |.inr x,v=>HU x v
abbrev dl9(w:Aw):Key->Int
 |.inl k=>hashInt k
 |.inr x=>hashStr w x
def N5:∀{k}{v},W9 k v=AC->(∃i t,k=FZ i/\v=EX i t)\/∃x t,k=GP x/\v=EY x t
 |.inl i,v,h=>by
  let{t,e}:=Fx h;show .inl ⟨i,t,rfl,e⟩
 |.inr x,v,h=>by
  let{t,e}:=IQ h;show .inr ⟨x,t,rfl,e⟩
def b02(i)t:W9 (.inl i) (.int i t)=AC:=by simp[W9,GZ]
def b03(x)t:W9 (.inr x) (.str x t)=AC:=by simp[W9,HU]
def cv3 a b:AB ((FZ a:Key)=FZ b)=(a==b):=by
 by_cases e:a=b
 ·subst e;simp
 ·simp_all
def cs7 a b:AB ((GP a:Key)=GP b)=AB (a=b):=by
 ·simp
def cx6(a:Int)(b:Str):AB (FZ a=GP b)=AF:=decide_eq_false λq=>nomatch q
def c03(a:Str)(b:Int):AB (GP a=FZ b)=AF:=decide_eq_false λq=>nomatch q
abbrev Q0(prog:Al)(w:Aw):PySem.KeyKind prog w Key where
 is:=W9
 hash:=dl9 w
 inj:=λv a b ha hb=>by
  rcases N5 ha with⟨i,t,rfl,rfl⟩|⟨x,t,rfl,rfl⟩
  ·rcases N5 hb with⟨j,u,rfl,e⟩|⟨y,u,rfl,e⟩
   ·injection e with e1 _;rw[e1]
   ·show nomatch e
  ·rcases N5 hb with⟨j,u,rfl,e⟩|⟨y,u,rfl,e⟩
   ·show nomatch e
   ·injection e with e1 _;rw[e1]
 byValue:=λk v h=>by
  rcases N5 h with⟨i,t,rfl,rfl⟩|⟨x,t,rfl,rfl⟩<;>rfl
 pyHash:=λhv h=>by
  rcases N5 hv with⟨i,t,rfl,rfl⟩|⟨x,t,rfl,rfl⟩
  ·show HS h
  ·show FE h
 eqBool:=λhu hv h=>by
  rcases N5 hu with⟨i,t,rfl,rfl⟩|⟨x,t,rfl,rfl⟩
  ·rcases N5 hv with⟨j,u,rfl,rfl⟩|⟨y,u,rfl,rfl⟩
   ·rw[cv3]at h;show wpAny_eqBool_int h
   ·rw[cx6]at h;show SeqAt.EqAt.int_str i t y u _ _ _ _ h
  ·rcases N5 hv with⟨j,u,rfl,rfl⟩|⟨y,u,rfl,rfl⟩
   ·rw[c03]at h;show SeqAt.EqAt.str_int x t j u _ _ _ _ h
   ·rw[cs7]at h;show wpAny_eqBool_str h
 «strs»:=λk x t v h=>by
  rcases N5 h with⟨i,u,rfl,e⟩|⟨y,u,rfl,e⟩
  ·show nomatch e
  ·injection e with e1 _
   subst e1;cases v<;>rfl
def bu8 prog(w)(i)t:(Q0 prog w).is (.inl i) (.int i t)=AC:=b02 i t
def bv5 prog(w)(x)t:(Q0 prog w).is (.inr x) (.str x t)=AC:=b03 x t
variable{a b:AI}{h h':Heap}{P:Al}
inductive V where
 |non|bl (b:Bool)|int (i:Int)|str (x:Str)|byt (b:Array UInt8)|flt (b:UInt64)|ref (a:AI)|ty (n:String)
 deriving DecidableEq
abbrev j7:V->AG->Prop
 |.non,u=>u=Bd
 |.bl b,u=>u=Dz b
 |.int i,u=>∃t,u=EX i t
 |.str x,u=>∃t,u=EY x t
 |.byt b,u=>∃t,u=KM b t
 |.flt b,u=>∃t,u=ID b t
 |.ref a,u=>u=At a
 |.ty n,u=>u=CY n
@[reducible]noncomputable def i7:List V->List AG->Prop:=Paired j7
theorem i7.length{xs}{us}(r:i7 xs us):xs.length=us.length:=Paired.length r
theorem i7.get:∀{a}{b}{i:Nat}{x},i7 a b->a[i]?=AA x->∃u,b[i]?=AA u/\j7 x u
 |_,_,_,_,.nil,e=>by simp at e
 |_,_,0,_,.cons r _,e=>by simp_all
 |_,_,i+1,x,.cons _ t,e=>by
  let{u,d,c}:=i7.get t (by simpa using e);simp_all
theorem i7.set{x}{u}(r:j7 x u):∀{a}{b}i,i7 a b->i7 (a.set i x) (b.set i u)
 |_,_,_,.nil=>.nil
 |_,_,0,.cons _ t=>.cons r t
 |_,_,i+1,.cons q t=>.cons q (i7.set r i t)
theorem i7.append:∀{b a}{d c},i7 b d->i7 a c->i7 (b++a) (d++c)
 |_,_,_,_,.nil,s=>s
 |_,_,_,_,.cons r t,s=>.cons r (i7.append t s)
theorem i7.take:∀{a}{b}n,i7 a b->i7 (a.take n) (b.take n)
 |_,_,0,_=>.nil
 |_,_,_+1,.nil=>.nil
 |_,_,n+1,.cons r t=>.cons r (i7.take n t)
theorem i7.drop:∀{a}{b}n,i7 a b->i7 (a.drop n) (b.drop n)
 |_,_,0,r=>r
 |_,_,_+1,.nil=>.nil
 |_,_,n+1,.cons _ t=>i7.drop n t
abbrev D7:Option V->Option AG->Prop
 |some v,AA u=>j7 v u
 |none,AD=>True
 |_,_=>False
abbrev KV{κ:Type}:List (κ×V)->List (κ×AG)->Prop:=Paired λ(p:κ×V)(q:κ×AG)=>p.1=q.1/\j7 p.2 q.2
abbrev kV:Key->V
 |.inl i=>.int i
 |.inr x=>.str x
inductive HO where
 |lst (xs:List V)
 |tup (xs:List V)
 |dK (kvs:List (Key×V))|dT (kvs:List (Ak×V))
 |set (S:Int->Bool) (n:Nat)
 |ins (C dx:AI) (fs:List (Str×V))
 |own (x:AI)
 |xd (fs:List (Str×V))
 |met (f x:AI)
 |rng (lo hi:Int)
 |frz (o:Obj) (u:HO)
 |tbl (ps:Array AG)
 |ext (φ:Heap->Prop)
variable{o:HO}
@[reducible]noncomputable def Hp:=AI->Option HO
variable{H:Hp}
abbrev upd(H:Hp)(a:AI)(o:HO):Hp:=λb=>if b=a then AA o else H b
def v0:upd H a o a=AA o:=by unfold upd;rw[if_pos rfl]
def l5(h:b≠a):upd H a o b=H b:=by unfold upd;rw[if_neg h]
def dd7{u}(h:H a=AA o)(c:H b=AA u)(d:o≠u):a≠b:=by
 intro e;simp_all
def B4(h:H a=AA o)(c:H b=AD):a≠b:=by
 grind
mutual
noncomputable def HRd(H:Hp):Ak->V->Prop
 |.int i,v=>v=.int i
 |.str x,v=>v=.str x
 |.tuple ds,v=>∃a vs,v=.ref a/\H a=AA (.tup vs)/\P1 H ds vs
 |_,_=>False
noncomputable def P1(H:Hp):List Ak->List V->Prop
 |[],vs=>vs=[]
 |d::ds,vs=>∃v r,vs=v::r/\HRd H d v/\P1 H ds r
end
mutual
theorem HRd.keeps{H H':Hp}(ht:∀b ys,H b=AA (.tup ys)->H' b=AA (.tup ys)):∀(d:Ak){v:V},HRd H d v->HRd H' d v
 |.int i,v,h=>h
 |.str x,v,h=>h
 |.tuple ds,v,h=>let⟨a,vs,e,h1,h2⟩:=h;{a,vs,e,ht a vs h1,P1.keeps ht ds h2}
 |.none,_,h=>h.elim
 |.bool _,_,h=>h.elim
 |.list _,_,h=>h.elim
 |.dict _,_,h=>h.elim
theorem P1.keeps{H H':Hp}(ht:∀b ys,H b=AA (.tup ys)->H' b=AA (.tup ys)):∀(ds:List Ak){vs:List V},P1 H ds vs->P1 H' ds vs
 |[],vs,h=>h
 |d::ds,vs,h=>let⟨v,r,e,h1,h2⟩:=h;{v,r,e,HRd.keeps ht d h1,P1.keeps ht ds h2}
end
abbrev J0(H:Hp)(d:Ak)(b:AI):Prop:=NK.lit d=AC/\d.depth<=7/\HRd H d (.ref b)
theorem J0.keeps{H'}{d}(h:J0 H d b)(c:∀b a,H b=AA (.tup a)->H' b=AA (.tup a)):J0 H' d b:={h.1,h.2.1,HRd.keeps c d h.2.2}
abbrev G2(h:Heap)(a:AI)(items:Array AG):Prop:=∃o,h.get? a=AA o/\o.cls=.type "tuple"/\o.dict=AD/\∃n,o.data=.seq items n
def G2.tup{items}(x:G2 h a items):IE h a items:=let⟨o,e,c,_,d⟩:=x;⟨o,e,c,d⟩
def G2.lt{items}(x:G2 h a items):=let⟨_,e,_⟩:=x;BC e
def G2.new(h:Heap)items:G2 (h.push {cls:=.type "tuple",data:=.seq items}) h.objs.size items:={_,Aj _ rfl,rfl,rfl,_,rfl}
section
variable (P:Al) (w:Aw)
abbrev t4(H:Hp)(h:Heap)(a:AI):HO->Prop
 |.lst xs=>xs.length<=sizeLine/\∃(its:List AG)(n:Nat),i7 xs its/\h.get? a=AA {cls:=.type "list",data:=.seq its.toArray n}
 |.tup xs=>xs.length<=sizeLine/\∃its:List AG,i7 xs its/\G2 h a its.toArray
 |.dK kvs=>kvs.length<=sizeLine/\(a==CV)=AF/\∃vs,KV kvs vs/\h.DictOf (Q0 P w) a vs
 |.dT kvs=>kvs.length<=sizeLine/\(a==CV)=AF/\∃xs:List (Ak×AI×AG),
   Paired (λ(p:Ak×V)(q:Ak×AI×AG)=>p.1=q.1/\J0 H p.1 q.2.1/\j7 p.2 q.2.2) kvs xs /\
   ∃o es ep,h.get? a=AA o/\o.ExactDict/\o.data=.dict es ep/\es.toList=xs.map (entryOfKey (NK.dataKind P w))/\(xs.map (·.1)).Nodup
 |.set S n=>h.SetOf (intKind P w) a S n
 |.ins C dx fs=>H dx=AA (.own a)/\fs.length<=1000/\dx≠a/\h.get? a=AA (EJ C dx) /\
   ∃mA,h.Ns1 dx mA/\(∀f,D7 (fs.lookup f) (mA f))/\PySem.Within mA (fs.map (·.1))
 |.own _=>∃o,h.get? a=AA o
 |.xd fs=>∃mA,h.Ns1 a mA/\∀f,D7 (fs.lookup f) (mA f)
 |.rng lo hi=>∃t u v,h.get? a=AA {cls:=.type "range",data:=.fields #[.int lo t,.int hi u,.int 1 v]}
 |.frz o u=>h.get? a=AA o/\t4 H h a u
 |.tbl ps=>h.get? a=AA {cls:=.none,data:=.fields ps}
 |.met f x=>h.get? a=AA (Iv (.ref f) (.ref x))
 |.ext φ=>φ h/\(∃o,h.get? a=AA o)/\∀h1 h2:Heap,φ h1->(∀o,h1.get? a=AA o->h2.get? a=AA o)->φ h2
abbrev HOk(H:Hp)(h:Heap):Prop:=∀a o,H a=AA o->t4 P w H h a o
end
section
variable {w:Aw} {H':Hp} 
theorem t4.lt(x:t4 P w H h a o):a<h.objs.size:=by
 cases o with
 |lst c=>let{_,_,_,_,e}:=x;show BC e
 |tup c=>let{_,_,_,p}:=x;show p.lt
 |dK b=>let{_,_,_,_,o,_,_,e,_}:=x;show BC e
 |dT b=>let{_,_,_,_,o,_,_,e,_}:=x;show BC e
 |set S n=>let{o,_,_,_,e,_}:=x;show BC e
 |ins C dx r=>let{_,_,_,e,_}:=x;show BC e
 |own y=>let{_,e}:=x;show BC e
 |xd r=>let{_,{_,_,_,e,_},_}:=x;show BC e
 |rng B D=>let{_,_,_,e}:=x;show BC e
 |frz A u=>let{e,_}:=x;show BC e
 |tbl z=>show BC ((x))
 |met f y=>show BC ((x))
 |ext t=>let{_,{_,e},_}:=x;show BC e
theorem Paired.mapP{α β}{F G}:∀{d:List α}{c:List β},Paired F d c->(∀a b,F a b->G a b)->Paired G d c
 |_,_,.nil,_=>.nil
 |_,_,.cons r t,f=>.cons (f _ _ r) (Paired.mapP t f)
def t4.stay(x:t4 P w H h a o)(k:∀b u,b=a\/H b=AA (.own a)->h.get? b=AA u->h'.get? b=AA u)
  (T:∀b,H b=AA (.own a)->H' b=AA (.own a)) (R:∀b m,H b=AA (.tup m)->H' b=AA (.tup m)):t4 P w H' h' a o:=by
 induction o with
 |lst m=>let{z,l,n,r,e}:=x;show{z,l,n,r,k _ _ (.inl rfl) e}
 |tup m=>let{z,l,r,g,e,c}:=x;show{z,l,r,g,k _ _ (.inl rfl) e,c}
 |dK B=>let{z,y,E,r,g,i,j,e,c}:=x;show{z,y,E,r,g,i,j,k _ _ (.inl rfl) e,c}
 |dT B=>
  let{z,y,m,r,g,i,j,e,c}:=x;show{z,y,m,Paired.mapP r λp q z=>{z.1,z.2.1.keeps R,z.2.2},g,i,j,k _ _ (.inl rfl) e,c}
 |set S n=>let{g,i,j,t,e,c}:=x;show{g,i,j,t,k _ _ (.inl rfl) e,c}
 |ins C dx U=>
  let{d,z,L,e,A,{s,i,j,W,c},r}:=x;show{T _ d,z,L,k _ _ (.inl rfl) e,A,{s,i,j,k _ _ (.inr d) W,c},r}
 |own y=>let{g,e}:=x;show{g,k _ _ (.inl rfl) e}
 |xd U=>let{A,{s,i,j,e,c},r}:=x;show{A,{s,i,j,k _ _ (.inl rfl) e,c},r}
 |rng lo hi=>let{t,u,v,e}:=x;show{t,u,v,k _ _ (.inl rfl) e}
 |frz g u Q=>let{e,q}:=x;show{k _ _ (.inl rfl) e,Q q}
 |tbl ps=>
  have e:=x;show k a _ (.inl rfl) e
 |met f y=>
  have e:=x;show k a _ (.inl rfl) e
 |ext X=>let{p,{o,e},D}:=x;show{D _ _ p λo=>k _ _ (.inl rfl),{o,k _ _ (.inl rfl) e},D}
theorem HOk.lt(x:HOk P w H h)(e:H a=AA o):a<h.objs.size:=(x a o e).lt
def HOk.fresh(x:HOk P w H h)(e:h.objs.size<=a):H a=AD:=by
 cases q:H a with
 |none=>rfl
 |some u=>show absurd (An (x.lt q) e) (DW _)
def HOk.kept(x:HOk P w H h)(k:∀b u,h.get? b=AA u->h'.get? b=AA u):HOk P w H h':=λa o e=>
 (x a o e).stay (λb u _=>k b u) (λ_ q=>q) λ_ _ q=>q
def HOk.laid(x:HOk P w H h)(k:∀b u,h.get? b=AA u->h'.get? b=AA u)(i:h.objs.size<=a)(d:t4 P w (upd H a o) h' a o):HOk P w (upd H a o) h':=λb u e=>by
 have f:=x.fresh i
 by_cases g:b=a
 ·subst g;rw[v0]at e;cases e;show d
 ·rw[l5 g]at e;show(x b u e).stay (λc v _=>k c v) (λc q=>(l5 (B4 q f)▸q)) λc j q=>l5 (B4 q f)▸q
end
abbrev Rd(H:Hp)(a:AI)(u:HO):Prop:=H a=AA u\/∃o,H a=AA (.frz o u)
def Rd.ok{w}{u}(r:Rd H a u)(x:HOk P w H h):t4 P w H h a u:=by
 rcases r with r|⟨o,r⟩
 ·show x a u r
 ·let{_,q}:=x a _ r;show q
abbrev Mut:Option HO->Prop
 |some (.lst _)=>True
 |some (.dK _)=>True
 |some (.dT _)=>True
 |some (.set _ _)=>True
 |some (.ins _ _ _)=>True
 |some (.ext _)=>True
 |_=>False
section
variable {w:Aw} {x e:AI} {o':HO}
def HOk.write(p:HOk P w H h)(m:Mut (H x))(t:e=x\/H e=AA (.own x))(k:∀b u,b≠e->h.get? b=AA u->h'.get? b=AA u)(i:∃u,h'.get? e=AA u)
  (g:t4 P w (upd H x o') h' x o'):HOk P w (upd H x o') h':=λb u q=>by
 have d:∀c y,H c=AA (.own y)->c≠x:=λc y r z=>by subst z;rwa[r]at m
 have a:∀c f,H c=AA (.tup f)->c≠x:=λc f r z=>by subst z;rwa[r]at m
 by_cases o:b=x
 ·subst o;rw[v0]at q;cases q;show g
 ·rw[l5 o]at q
  by_cases j:b=e
  ·have l:H b=AA (.own x):=by
    lia
   rw[q]at l;cases l;let{v,s}:=i;show{v,by simp_all}
  ·apply(p b u q).stay (λc v n=>k c v ?_) (λc r=>(l5 (d c b r)▸r)) λc f r=>(l5 (a c f r)▸r)
   rcases n with rfl|n
   ·show j
   ·grind
end
structure Un(fs ex:List AI)(H H':Hp)(h h':Heap):Prop where
 keep:∀b o,h.get? b=AA o->H b=AD->b∉fs->b∉ex->h'.get? b=AA o
 slot:∀b o,h.get? b=AA o->H b=AD->b∈fs->b∉ex->∃sl,h'.get? b=AA {o with slots:=sl}
 free:∀b o,h.get? b=AA o->H b=AD->b∉ex->H' b=AD
 there:∀b o,h.get? b=AA o->b∉ex->∃o',h'.get? b=AA o'
 tups:∀b xs,H b=AA (.tup xs)->H' b=AA (.tup xs)
 frzs:∀b o u,H b=AA (.frz o u)->H' b=AA (.frz o u)
 tbls:∀b ps,H b=AA (.tbl ps)->∃more,H' b=AA (.tbl (ps++more))
section
variable {fs fs' ex ex':List AI} {H1 H2:Hp} {h1 h2:Heap} {x e:AI} 
def Un.any(u:Un fs ex H H1 h h1){ob}q(n)hx:=by
 by_cases a:b∈fs
 ·show u.slot b ob q n a hx
 ·show{ob.slots,u.keep b ob q n a hx}
def Un.kept(k:∀b u,h.get? b=AA u->h'.get? b=AA u):Un fs ex H H h h':=
 {λb a q _ _ _=>k b a q,λb a q _ _ _=>{a.slots,k b a q},λ_ _ _ n _=>n,λb a q _=>{a,k b a q},λ_ _ q=>q,λ_ _ _ q=>q,λ_ c q=>{#[],by rw[q];simp}}
def Un.refl:Un fs ex H H h h:=Un.kept λ_ _ q=>q
def Un.laid(k:∀b u,h.get? b=AA u->h'.get? b=AA u)(e:h.objs.size<=a)(c:H a=AD):Un fs ex H (upd H a o) h h' where
 keep:=λb u q _ _ _=>k b u q
 slot:=λb u q _ _ _=>{u.slots,k b u q}
 free:=λb u q n _=>l5 (BO (An (BC q) e))▸n
 there:=λb u q _=>{u,k b u q}
 tups:=λb d q=>l5 (B4 q c)▸q
 frzs:=λb u d q=>l5 (B4 q c)▸q
 tbls:=λb f q=>{#[],by rw[l5 (B4 q c),q];simp}
def Un.write(a:Mut (H x))(p:e=x\/H e=AA (.own x))(k:∀b u,b≠e->h.get? b=AA u->h'.get? b=AA u)(l:∃u,h'.get? e=AA u):Un fs ex H (upd H x o) h h':=by
 have j:∀b,H b=AD->b≠x:=λb n z=>by subst z;rw[n]at a;show a
 have f:∀b,H b=AD->b≠e:=λb n z=>by
  simp_all
 have c:∀b u,H b=AA u->¬Mut (AA u)->b≠x:=λb u q i z=>by subst z;rw[q]at a;show i a
 apply{λb u q n _ _=>k b u (f b n) q,λb u q n _ _=>{u.slots,k b u (f b n) q},λb u q n _=>by rw[l5 (j b n)];show n,λb u q _=>?_,
  λb g q=>by rw[l5 (c b _ q λz=>z)];show q,λb u g q=>by rw[l5 (c b _ q λz=>z)];show q,λb m q=>{#[],by rw[l5 (c b _ q λz=>z),q];simp}}
 by_cases d:b=e
 ·simp_all
 ·show{u,k b u d q}
end
abbrev trk(h:Heap)(H:Hp):List AI:=(CZ h.objs.size).filter λa=>(H a).isSome
abbrev N0(h:Heap)(H:Hp):Heap:=W.hideAll h (trk h H)
def b14(h)H:(N0 h H).objs.size=h.objs.size:=W.hideAll_size _ _
def b54{o}(e:h.get? b=AA o)(n:H b=AD):(N0 h H).get? b=AA o:=
 W.hideAll_get _ e λa=>by
  have q:=(mem_filter.mp a).2;rw[n]at q;simp at q
def cn2{o}(e:(N0 h H).get? b=AA o):h.get? b=AA o/\H b=AD:=by
 have a:=W.of_hideAll (trk h H) e;apply{a,?_};cases q:H b with
 |none=>rfl
 |some x=>
  have c:b∈trk h H:=mem_filter.mpr {mem_range.mpr (BC a),by simp[q]};have z:(N0 h H).get? b=AD:=W.hideAll_none (trk h H) c;rw[z]at e;cases e
abbrev cj7(g h:Heap)(L:AI):List (AI×Obj):=(CZ h.objs.size).filterMap λa=>if a=L\/(g.get? a).isSome=AC then AD else(h.get? a).map λo=>(a,o)
abbrev l6(g h:Heap)(L d:AI):List (AI×Obj):=(cj7 g h L).filter λp=>AB (p.1≠d)
end
section
variable{x:Str}{i:Nat}
structure Mod(K:AO)(mg:Str->Option AG)(base:Heap):Prop where
 kin:K.In base
 glob:base.Ns AN mg
 blt:∃mb,base.Ns Cv mb/\∀x:Str,x≠"__name__"->mb x=BK x
 nolimit:base.NoLimit
structure Cx where
 prog:Al
 w:Aw
 K:AO
 mg:Str->Option AG
 base:Heap
 A:BW
 N:List Str
 s₀:AL
 H₀:Hp
 env:Env
 outer:List Env
 stack:List Env
 ex:List AI
 fn:Str->Bool
 calm:Bool
 pn:List (AI×Obj)
 xe:AG->AL->Prop
 ow:Str->Bool:=λ_=>AF
abbrev frs(l:List Env):List AI:=l.filterMap (·.frame)
@[reducible]noncomputable def Cx.fs(X:Cx):List AI:=frs X.outer
abbrev Vis(sc:BL)(x:Str):Prop:=sc.names.lookup x=AA .local\/sc.names.lookup x=AA .cell\/sc.names.lookup x=AA .free
abbrev Loc(sc:BL)(x:Str):Prop:=sc.names.lookup x=AA .local\/sc.names.lookup x=AA .cell
abbrev dj5(env:Env)(h:Heap)(m:Str->Option AG)(x:Str)(u:AG):Prop:=
 (env.kindOf x=AA .local/\m x=AA u)\/((env.kindOf x=AA .cell\/env.kindOf x=AA .free)/\∃c,env.cells.lookup x=AA c/\h.IsCell c (AA u))
structure Cx.Ok(X:Cx):Prop where
 mod:Mod X.K X.mg X.base
 kind:X.env.scope.kind=.function
 glob:X.env.globals=AN
 blt:X.env.builtins=Cv
 above:X.s₀.heap.objs.size<=X.env.locals
 inj:∀x y c,X.env.cells.lookup x=AA c->X.env.cells.lookup y=AA c->x=y
 has:∀x,(X.env.kindOf x=AA .cell\/X.env.kindOf x=AA .free)->∃c,X.env.cells.lookup x=AA c
 cab:∀x c,X.fn x=AC\/X.ow x=AC->X.env.cells.lookup x=AA c->X.s₀.heap.objs.size<=c
 hd:X.calm=AC->X.A.handled=AD
 frames:X.A.frames=AA X.stack
 stk:X.stack=X.outer\/(X.stack=X.env::X.outer/\X.env.frame=AA X.env.locals)
 exf:∀b∈X.ex,b≠X.env.locals/\∀x c,X.env.cells.lookup x=AA c->c≠b
 bs:∀b o,X.base.get? b=AA o->X.s₀.heap.get? b=AA o/\X.H₀ b=AD
 bsz:X.base.objs.size<=X.s₀.heap.objs.size
 noex:∀b o,X.base.get? b=AA o->b∉X.ex
 exfs:∀b∈X.ex,b∉X.fs
 funs:X.s₀.heap.FunFrames X.base X.outer
 frf:∀b∈X.fs,X.H₀ b=AD
structure Inv(X:Cx)(pins:List (AI×Obj))(σ:List (Option V))(H:Hp)(s:AL):Prop where
 ok:X.Ok
 os:s.os=X.s₀.os
 bare:Gv s.gens
 base:Un X.fs X.ex X.H₀ H X.s₀.heap s.heap
 loc:∃m,s.heap.Ns X.env.locals m/\∀(i:Nat)(x:Str)(v:V),X.N[i]?=AA x->σ[i]?=AA (AA v)->Vis X.env.scope x->∃u,j7 v u/\dj5 X.env s.heap m x u
 cell:∀x c,X.env.cells.lookup x=AA c->∃v,s.heap.IsCell c v
 free:H X.env.locals=AD
 freeC:∀x c,X.env.cells.lookup x=AA c->H c=AD\/(X.fn x=AF/\∃o u,H c=AA (.frz o u))
 pin:∀p∈X.pn++pins,s.heap.get? p.1=AA p.2/\H p.1=AD/\p.1≠X.env.locals/\p.1∉X.fs/\∀v,p.2.data≠.cell v
 hok:HOk X.prog X.w H s.heap
 len:σ.length=X.N.length
section
variable {X:Cx} {pins:List (AI×Obj)} {σ:List (Option V)} {H H':Hp} {s:AL} {h':Heap}
def Cx.Ok.nofr(a:X.Ok){b}{o}(e:X.base.get? b=AA o):b∉X.fs:=λc=>by
 have:=(a.funs.mem c).1;rw[e]at this;cases this
theorem Inv.bs(I:Inv X pins σ H s):∀b o,X.base.get? b=AA o->s.heap.get? b=AA o/\H b=AD:=λb o e=>
 {I.base.keep b o (I.ok.bs b o e).1 (I.ok.bs b o e).2 (I.ok.nofr e) (I.ok.noex b o e),I.base.free b o (I.ok.bs b o e).1 (I.ok.bs b o e).2 (I.ok.noex b o e)}
def Inv.bk(I:Inv X pins σ H s):∀b o,X.base.get? b=AA o->s.heap.get? b=AA o:=λb o e=>(I.bs b o e).1
theorem Inv.mod(I:Inv X pins σ H s):Mod X.K X.mg X.base:=I.ok.mod
def Inv.kIn(I:Inv X pins σ H s):=I.ok.mod.kin.keeps I.bk
theorem Inv.lt(I:Inv X pins σ H s):X.env.locals<s.heap.objs.size:=let⟨_,a,_⟩:=I.loc;a.lt
def Inv.sz(I:Inv X pins σ H s):=Ap I.ok.above (Gw I.lt)
def Inv.nofs(I:Inv X pins σ H s){a:AI}(h:s.heap.objs.size<=a):a∉X.fs:=λc=>by
 let{_,o,b,_}:=I.ok.funs.mem c;show absurd (An (BC b) (Ap I.sz h)) (DW _)
def Inv.cne(I:Inv X pins σ H s):∀x c,X.env.cells.lookup x=AA c->c≠X.env.locals:=λx c e z=>by
 let{v,o,f,g}:=I.cell x c e;let{m,{d,h,i,a,b,_},_}:=I.loc;grind
theorem Inv.funs(I:Inv X pins σ H s):s.heap.FunFrames X.base X.outer:=by
 have f:∀l,(∀b∈frs l,b∈X.fs)->X.s₀.heap.FunFrames X.base l->s.heap.FunFrames X.base l:=by
  intro l
  induction l with
  |nil=>intro _ _;trivial
  |cons u r j=>
   intro g p;let{q,{L,o,a,n,m,t},k}:=p;have d:=g L (by unfold frs;rw[Cw,a];show Bu);let{v,e}:=I.base.slot L o m (I.ok.frf L d) d λz=>I.ok.exfs L z d;show{q,⟨L,_,a,n,e,t⟩,j (λb c=>g b (by unfold frs;rw[Cw,a];show Ae _ c)) k}
 show f X.outer (λ_ c=>c) I.ok.funs
theorem Inv.stack(I:Inv X pins σ H s):s.heap.FunFrames X.base X.stack:=by
 rcases I.ok.stk with e|⟨e,b⟩
 ·rw[e];show I.funs
 ·rw[e];let{m,a,_}:=I.loc;show .cons (by rw[I.ok.kind];decide) b a (Heap.get?_none_of_le (Ap I.ok.bsz I.ok.above)) I.funs
def Inv.stkSub(I:Inv X pins σ H s):∀b∈frs X.stack,b∈X.env.locals::X.fs:=λb a=>by
 rcases I.ok.stk with e|⟨e,c⟩
 ·rw[e]at a;show Ae _ a
 ·rw[e]at a;unfold frs at a;rwa[Cw,c]at a
def Inv.stkFree(I:Inv X pins σ H s):∀b∈frs X.stack,H b=AD:=λb a=>by
 rcases AM.mp (I.stkSub b a)with e|a
 ·rw[e];show I.free
 ·let{_,o,c,_}:=I.ok.funs.mem a;show I.base.free b o c (I.ok.frf b a) λz=>I.ok.exfs b z a
def Inv.step{g':Array GenState}{t':Nat}{d':Drawn}{ch:List AI}(I:Inv X pins σ H s)
  (j:∀b∈ch,(b∈X.ex\/X.s₀.heap.objs.size<=b)/\b≠X.env.locals/\(∀x c,X.env.cells.lookup x=AA c->c≠b)/\∀p∈X.pn++pins,p.1≠b)
  (h:∀b o,b≠X.env.locals->b∉X.fs->b∉ch->s.heap.get? b=AA o->H b=AD->h'.get? b=AA o)
  (E:∀b o,b≠X.env.locals->b∈X.fs->b∉ch->s.heap.get? b=AA o->H b=AD->∃Y,h'.get? b=AA {o with slots:=Y}) (f:∀b o,b∉ch->s.heap.get? b=AA o->H b=AD->H' b=AD)
  (G:∀b o,b∉ch->s.heap.get? b=AA o->∃M,h'.get? b=AA M)
  (K:∀b D,H b=AA (.tup D)->H' b=AA (.tup D)) (t:∀b o u,H b=AA (.frz o u)->H' b=AA (.frz o u)) (L:∀b S,H b=AA (.tbl S)->∃O,H' b=AA (.tbl (S++O)))
  (ns:∀m,s.heap.Ns X.env.locals m->h'.Ns X.env.locals m) (P:HOk X.prog X.w H' h') (hg:Gv g') :
  Inv X pins σ H' {s with heap:=h',gens:=g',drawn:=d',toks:=t'}:=by
 have N:∀b o,X.s₀.heap.get? b=AA o->b≠X.env.locals:=λb o e=>BO (An (BC e) I.ok.above);have A:∀b o,X.s₀.heap.get? b=AA o->b∉X.ex->b∉ch:=λb o e a J=>by
  rcases(j b J).1 with z|z
  ·show a z
  ·show absurd (An (BC e) z) (DW _)
 have y:∀x c,X.env.cells.lookup x=AA c->∀v,s.heap.IsCell c v->h'.IsCell c v:=λx c e v⟨o,F,V⟩=>by
  have g:c∉ch:=λz=>(j c z).2.2.1 x c e rfl
  rcases I.freeC x c e with B|⟨_,T,R,U⟩
  ·by_cases hc:c∈X.fs
   ·let{Y,q}:=E c o (I.cne x c e) hc g F B;show⟨_,q,V⟩
   ·show{o,h c o (I.cne x c e) hc g F B,V}
  ·let{h1,_}:=I.hok c _ U;let{h2,_}:=P c _ (t c T R U);rw[h1]at F;cases F;show⟨_,h2,V⟩
 apply{I.ok,I.os,hg,{λb o e n J a=>?_,λb o e n J a=>?_,λb o e n a=>?_,λb o e a=>?_,λb D e=>K b D (I.base.tups b D e),λb o D e=>t b o D (I.base.frzs b o D e),λb S e=>?_},?_,λx c e=>?_,?_,λx c e=>?_,λp hp=>?_,P,I.len}
 ·show h b o (N b o e) J (A b o e a) (I.base.keep b o e n J a) (I.base.free b o e n a)
 ·let{Y,C}:=I.base.slot b o e n J a;let{W,Q}:=E b _ (N b o e) J (A b o e a) C (I.base.free b o e n a);show⟨W,Q⟩
 ·let{M,C}:=I.base.there b o e a;show f b M (A b o e a) C (I.base.free b o e n a)
 ·let{M,C}:=I.base.there b o e a;show G b M (A b o e a) C
 ·let{m1,C}:=I.base.tbls b S e;let{m2,Q}:=L b _ C;show{m1++m2,by rw[Q,Array.append_assoc]}
 ·let{m,hn,hl}:=I.loc;apply{m,ns m hn,λi x v C Q e3=>?_};let{u,r,l}:=hl i x v C Q e3;apply{u,r,?_}
  rcases l with l|⟨k,c,e,z⟩
  ·show .inl l
  ·show .inr {k,c,e,y x c e _ z}
 ·let{v,z}:=I.cell x c e;show{v,y x c e v z}
 ·let{m,{o,_,_,F,_},_}:=I.loc;show f _ o (λz=>(j _ z).2.1 rfl) F I.free
 ·let{v,o,F,V}:=I.cell x c e
  rcases I.freeC x c e with B|⟨Z,T,R,U⟩
  ·show .inl (f c o (λz=>(j c z).2.2.1 x c e rfl) F B)
  ·show .inr {Z,T,R,t c T R U}
 ·let{e,n,ne,nf,d}:=I.pin p hp;have g:p.1∉ch:=λz=>(j p.1 z).2.2.2 p hp rfl;show{h p.1 p.2 ne nf g e n,f p.1 p.2 g e n,ne,nf,d}
def Inv.un{t'}(I:Inv X pins σ H s)(u:Un X.fs [] H H' s.heap h')(c:HOk X.prog X.w H' h'):Inv X pins σ H' {s with heap:=h',toks:=t'}:=by
 let{m,{o,t,v,h,r},_}:=id I.loc;let{l,k}:=u.any h I.free ∎;show I.step (ch:=[]) (λ_ z=>nomatch z) (λb o _ d _ e n=>u.keep b o e n d ∎) (λb o _ d _ e n=>u.slot b o e n d ∎) (λb o _ e n=>u.free b o e n ∎) (λb o _ e=>u.there b o e ∎) u.tups u.frzs u.tbls (λq j=>by
  let{p,f,g,a,i}:=j;rw[h]at a;cases a;show⟨_,f,g,k,i⟩) c I.bare
def Inv.call{g'}{t'}{d'}{ch}(I:Inv X pins σ H s)(u:Un (frs X.stack) ch H H' s.heap h')(g:HOk X.prog X.w H' h')(t:Gv g')
  (f:∀b∈ch,(b∈X.ex\/X.s₀.heap.objs.size<=b)/\b≠X.env.locals/\(∀x c,X.env.cells.lookup x=AA c->c≠b)/\∀p∈X.pn++pins,p.1≠b) :
  Inv X pins σ H' {s with heap:=h',gens:=g',drawn:=d',toks:=t'}:=by
 let{m,{o,C,D,k,r},_}:=id I.loc;let{y,h}:=u.any k I.free λz=>(f _ z).2.1 rfl;show I.step f (λb o h v a e n=>u.keep b o e n (λz=>(AM.mp (I.stkSub b z)).elim h v) a) (λb o _ _ a e n=>u.any e n a) (λb o a e n=>u.free b o e n a) (λb o a e=>u.there b o e a) u.tups u.frzs u.tbls (λB q=>by
  let{A,i,j,d,l}:=q;rw[k]at d;cases d;show⟨_,i,j,h,l⟩) g t
def Inv.turned{t'}{it}(I:Inv X pins σ H s)(k:∀b o,b≠it->s.heap.get? b=AA o->h'.get? b=AA o)(B:H it=AD)(f:it≠X.env.locals)
  (t:it∈X.ex\/X.s₀.heap.objs.size<=it) (l:∀x c,X.env.cells.lookup x=AA c->c≠it) (j:∀p∈X.pn++pins,p.1≠it):Inv X pins σ H {s with heap:=h',toks:=t'}:=by
 have d:∀b u,H b=AA u->b≠it:=λb u e z=>by grind
 apply I.step (ch:=[it]) (λb i=>?_) (λb o _ _ a e _=>k b o (λz=>a (by simp[z])) e) (λb o _ _ a e _=>{o.slots,k b o (λz=>a (by simp[z])) e}) (λ_ _ _ _ n=>n)
  (λb o a e=>{o,k b o (λz=>a (by simp[z])) e}) (λ_ _ e=>e) (λ_ _ _ e=>e) (λb A e=>{#[],by rw[e];simp}) (λm h=>?_) (λb u e=>?_) I.bare
 ·have e:=by simpa using i
  subst e;show⟨t,f,l,j⟩
 ·let{o,w,y,g,r}:=h;show{o,w,y,k _ o (Ax f) g,r}
 ·apply(I.hok b u e).stay (λc v a=>k c v ?_) (λ_ q=>q) λ_ _ q=>q
  rcases a with z|z
  ·rw[z];show d b u e
  ·show d c _ z
def Inv.tok(I:Inv X pins σ H s)t:=I.un (t':=t) Un.refl I.hok
theorem Inv.kept{t'}(I:Inv X pins σ H s)(k:∀b u,s.heap.get? b=AA u->h'.get? b=AA u):Inv X pins σ H {s with heap:=h',toks:=t'}:=I.un (Un.kept k) (I.hok.kept k)
theorem Inv.laid{a:AI}{o}{t'}(I:Inv X pins σ H s)(k:∀b u,s.heap.get? b=AA u->h'.get? b=AA u)(d:s.heap.objs.size<=a)(c:t4 X.prog X.w (upd H a o) h' a o):
  Inv X pins σ (upd H a o) {s with heap:=h',toks:=t'}:=I.un (Un.laid k d (I.hok.fresh d)) (I.hok.laid k d c)
theorem Inv.write{x e}{o}{t'}(I:Inv X pins σ H s)(d:Mut (H x))(f:e=x\/H e=AA (.own x))(k:∀b u,b≠e->s.heap.get? b=AA u->h'.get? b=AA u)(a:∃u,h'.get? e=AA u)
  (c:t4 X.prog X.w (upd H x o) h' x o):Inv X pins σ (upd H x o) {s with heap:=h',toks:=t'}:=I.un (Un.write d f k a) (I.hok.write d f k a c)
def Inv.pins_of{pins'}(I:Inv X pins σ H s)(h:∀p∈pins',s.heap.get? p.1=AA p.2/\H p.1=AD/\p.1≠X.env.locals/\p.1∉X.fs/\∀v,p.2.data≠.cell v):Inv X pins' σ H s:=
 {I.ok,I.os,I.bare,I.base,I.loc,I.cell,I.free,I.freeC,λp a=>(BD.mp a).elim (λz=>I.pin p (EF _ z)) (h p),I.hok,I.len}
def bc6{N:List Str}(c:N.Nodup){j}(a:N[i]?=AA x)(b:N[j]?=AA x):i=j:=by
 let{g,e}:=AS.mp a;let{f,d}:=AS.mp b;show(List.getElem_inj c).mp (e.trans d.symm)
def b22{M:Model}{A:BW}{E:AG->AL->Prop}{v:V}{u:AG}{Q:Unit->AL->Prop}(I:Inv X pins σ H s)(hN:X.N.Nodup)(T:X.N[i]?=AA x)(C:Loc X.env.scope x)(r:j7 v u)
  (h:∀s',Inv X pins (σ.set i (AA v)) H s'->(∃a,Heap.SameBut a s.heap s'.heap/\(a=X.env.locals\/X.env.cells.lookup x=AA a))->Q () s') (hf:X.fn x=AC\/X.env.scope.names.lookup x=AA .local:=by first|show .inl rfl|show .inr rfl|assumption):AW M A (storeName X.env x u) Q E s:=by
 let{m,hn,hl}:=id I.loc;have U:(X.env.scope.kind==.class||(X.env.scope.kind==.module&&X.env.locals != X.env.globals))=AF:=by rw[I.ok.kind];rfl
 have J:i<σ.length:=by rw[I.len];show(AS.mp T).1
 have O:=I.cne;have l:∀{a:AI}{P:Heap},(∃o,s.heap.get? a=AA o/\H a=AD)->Heap.SameBut a s.heap P->HOk X.prog X.w H P:=λ{a P}ha f b ob e=>by
  let{_,_,g}:=ha;apply(I.hok b ob e).stay (λc Z B q=>(f.2 c ?_).trans q) (λ_ q=>q) λ_ _ q=>q;rintro rfl
  rcases B with rfl|B
  ·rw[g]at e;cases e
  ·rw[g]at B;cases B
 rcases C with G|G
 ·apply wpAny_storeName_local G hn (λP hn' f=>?_) U;let{oL,_,_,hoL,_}:=id hn;apply h _ {I.ok,I.os,I.bare,{λb o e n L C=>?_,λb o e n L C=>?_,I.base.free,λb o e C=>?_,I.base.tups,I.base.frzs,I.base.tbls},{_,hn',λj y v' t F e3=>?_},λy c e=>?_,I.free,I.freeC,λp hp=>?_,l ⟨oL,hoL,I.free⟩ f,by simpa using I.len} {_,f,.inl rfl}
  ·show(f.2 b (BO (An (BC e) I.ok.above))).trans (I.base.keep b o e n L C)
  ·let{sl,t}:=I.base.slot b o e n L C;show{sl,(f.2 b (BO (An (BC e) I.ok.above))).trans t}
  ·let{o',t}:=I.base.there b o e C;show{o',(f.2 b (BO (An (BC e) I.ok.above))).trans t}
  ·by_cases K:j=i
   ·subst K;rw[T]at t;cases t;rw[Em J]at F;cases F;show{u,r,.inl {G,∎}}
   ·rw[FK (Ax K)]at F;let{u',r',q}:=hl j y v' t F e3;apply{u',r',?_}
    rcases q with⟨k,e⟩|⟨k,c,e,z⟩
    ·apply .inl {k,?_};have:y≠x:=λe=>K (bc6 hN t (e▸T));simp[this,e]
    ·show .inr {k,c,e,z.sameBut f (O y c e)}
  ·let{Z,z}:=I.cell y c e;show{Z,z.sameBut f (O y c e)}
  ·let{e,n,ne,nf,d}:=I.pin p hp;show{(f.2 p.1 ne).trans e,n,ne,nf,d}
 ·have D:X.fn x=AC:=by
   rcases hf with z|z
   ·show z
   ·rw[z]at G;cases G
  let{c,B}:=I.ok.has x (.inl G);let{Z,z}:=I.cell x c B;have g:H c=AD:=(I.freeC x c B).resolve_right λz=>by rw[D]at z;show absurd z.1 ∅
  apply wpAny_storeName_cell I.ok.kind G B z (λP Y f=>?_);let{oc,S,R}:=id z;apply h {s with heap:=P} {I.ok,I.os,I.bare,{λb o e n L C=>?_,λb o e n L C=>?_,I.base.free,λb o e C=>?_,I.base.tups,I.base.frzs,I.base.tbls},{m,hn.sameBut f (Ax (O x c B)),λj y v' t F e3=>?_},λy c' e=>?_,I.free,I.freeC,λp hp=>?_,l ⟨oc,S,g⟩ f,by simpa using I.len} {c,f,.inr B}
  ·show(f.2 b (BO (An (BC e) (I.ok.cab x c (.inl D) B)))).trans (I.base.keep b o e n L C)
  ·let{sl,t}:=I.base.slot b o e n L C;show{sl,(f.2 b (BO (An (BC e) (I.ok.cab x c (.inl D) B)))).trans t}
  ·let{o',t}:=I.base.there b o e C;show{o',(f.2 b (BO (An (BC e) (I.ok.cab x c (.inl D) B)))).trans t}
  ·by_cases K:j=i
   ·subst K;rw[T]at t;cases t;rw[Em J]at F;cases F;show{u,r,.inr {.inl G,c,B,Y}}
   ·rw[FK (Ax K)]at F;let{u',r',q}:=hl j y v' t F e3;apply{u',r',?_}
    rcases q with q|⟨k,c',e,z'⟩
    ·show .inl q
    ·apply .inr {k,c',e,z'.sameBut f ?_};rintro rfl;show K (bc6 hN t (I.ok.inj _ _ _ e B▸T))
  ·by_cases W:c'=c
   ·subst W;show⟨_,Y⟩
   ·let{w2,z2}:=I.cell y c' e;show{w2,z2.sameBut f W}
  ·let{e,n,ne,nf,d}:=I.pin p hp;apply{(f.2 p.1 ?_).trans e,n,ne,nf,d};intro q;rw[q,S]at e;have q':oc=p.2:=Ay e;show d Z (by rw[<-q'];show R)
def ac6{M:Model}{A:BW}{E:AG->AL->Prop}{v:V}{u:AG}{Q:Unit->AL->Prop}(I:Inv X pins σ H s)(e:X.N.Nodup)(c:X.N[i]?=AA x)(b:Loc X.env.scope x)(r:j7 v u)
  (h:∀a,Inv X pins (σ.set i (AA v)) H a->Q () a) (d:X.fn x=AC\/X.env.scope.names.lookup x=AA .local:=by first|show .inl rfl|show .inr rfl|assumption):AW M A (storeName X.env x u) Q E s:=
 b22 I e c b r (λa f _=>h a f) d
end
@[reducible]noncomputable def XK:=AG->Option AI->Hp->Prop
@[reducible]noncomputable def St:=List (Option V)
@[reducible]noncomputable def VK:=V->Hp->Prop
@[reducible]noncomputable def TE:=St->Hp->VK->Prop
@[reducible]noncomputable def TT:=St->Hp->(Bool->Hp->Prop)->Prop
@[reducible]noncomputable def TA:=St->Hp->(List V->Hp->Prop)->Prop
structure Ends where
 nx:St->Hp->Prop
 rt:VK
 bk:St->Hp->Prop:=λ_ _=>False
 ct:St->Hp->Prop:=λ_ _=>False
@[reducible]noncomputable def TS:=Ends->St->Hp->Prop
abbrev EP(X:Cx)(pins:List (AI×Obj))(σ:St)(Q:VK)(u:AG)(s':AL):Prop:=∃v H',Inv X pins σ H' s'/\j7 v u/\Q v H'
abbrev TP(X:Cx)(pins:List (AI×Obj))(σ:St)(Q:Bool->Hp->Prop)(b:Bool)(s':AL):Prop:=∃H',Inv X pins σ H' s'/\Q b H'
abbrev AP(X:Cx)(pins:List (AI×Obj))(σ:St)(Q:List V->Hp->Prop)(us:List AG)(s':AL):Prop:=∃vs H',Inv X pins σ H' s'/\i7 vs us/\Q vs H'
abbrev SP(X:Cx)(pins:List (AI×Obj))(D:Ends)(f:Flow)(s':AL):Prop:=
 match f with
 |.next=>∃σ' H',Inv X pins σ' H' s'/\D.nx σ' H'
 |.brk=>∃σ' H',Inv X pins σ' H' s'/\D.bk σ' H'
 |.cont=>∃σ' H',Inv X pins σ' H' s'/\D.ct σ' H'
 |.ret u=>∃v σ' H',Inv X pins σ' H' s'/\j7 v u/\D.rt v H'
abbrev PE(X:Cx)(e:AU)(t:TE):Prop:=
 ∀(pins:List (AI×Obj))(s:AL)(σ:St)(H:Hp)(Q:VK),Inv X pins σ H s->t σ H Q->AW (model X.prog X.w) X.A (eval e X.env) (EP X pins σ Q) X.xe s
abbrev PT(X:Cx)(e:AU)(t:TT):Prop:=
 ∀(pins:List (AI×Obj))(s:AL)(σ:St)(H:Hp)(Q:Bool->Hp->Prop),Inv X pins σ H s->t σ H Q->AW (model X.prog X.w) X.A (IF e X.env (eval e X.env)) (TP X pins σ Q) X.xe s
abbrev PW(X:Cx)(e:AU)(t:TT):Prop:=
 ∀(whole:Sem AG)(pins:List (AI×Obj))(s:AL)(σ:St)(H:Hp)(Q:Bool->Hp->Prop),Inv X pins σ H s->t σ H Q->AW (model X.prog X.w) X.A (IF e X.env whole) (TP X pins σ Q) X.xe s
def PW.pt{X:Cx}{e:AU}{t:TT}(h:PW X e t):PT X e t:=h _
abbrev PA(X:Cx)(es:List AU)(t:TA):Prop:=
 ∀(pos:Pos)(pins:List (AI×Obj))(s:AL)(σ:St)(H:Hp)(Q:List V->Hp->Prop),Inv X pins σ H s->t σ H Q->AW (model X.prog X.w) X.A (spliced (CC pos (Am es X.env))) (AP X pins σ Q) X.xe s
abbrev PS(X:Cx)(st:BR)(t:TS):Prop:=
 ∀(pins:List (AI×Obj))(s:AL)(σ:St)(H:Hp)(D:Ends),Inv X pins σ H s->t D σ H->AW (model X.prog X.w) X.A (exec st X.env) (SP X pins D) X.xe s
abbrev PSs(X:Cx)(st:List BR)(t:TS):Prop:=
 ∀(pins:List (AI×Obj))(s:AL)(σ:St)(H:Hp)(D:Ends),Inv X pins σ H s->t D σ H->AW (model X.prog X.w) X.A (execs st X.env) (SP X pins D) X.xe s
def thn{α}{t:Sem α}{Q Q'}{M}{A}{E}{s}(h:AW M A t Q E s)(b:∀a s,Q a s->Q' a s):AW M A t Q' E s:=Bk h b λ_ _ x=>x
end
section
variable{pins:List (AI×Obj)}{s:AL}{σ:St}{H:Hp}{x:Str}{pos:Pos}{u:AG}{op:Do}
section
variable {X:Cx}
def bin{a b}{ta tb}(t:PE X a ta)(r:PE X b tb){R:V->V->Hp->Prop}(I:Inv X pins σ H s)(h:ta σ H λx i=>tb σ i λy c=>R x y c)
  {α} {Q} {f:AG->AG->Sem α}
  (q:∀v u g x y c,Inv X pins σ c g->j7 x v->j7 y u->R x y c->AW (model X.prog X.w) X.A (f v u) Q X.xe g) :
  AW (model X.prog X.w) X.A (eval a X.env) (λv e=>AW (model X.prog X.w) X.A (eval b X.env) (λu d=>AW (model X.prog X.w) X.A (f v u) Q X.xe d) X.xe e) X.xe s:=by
 apply thn (t pins s σ H _ I h) λv l k=>?_;let{x,i,B,n,p}:=k;apply thn (r pins l σ i _ B p) λu g j=>?_;let{y,c,z,m,o}:=j;show q v u g x y c z n m o
abbrev dn3(i:Nat):TE:=λσ H Q=>∃v,σ[i]?=AA (AA v)/\Q v H
abbrev tC(v:V):TE:=λ_ H Q=>Q v H
def as7{i:Nat}(w:X.N[i]?=AA x)(o:Vis X.env.scope x)(g:(x==("__debug__":Str))=AF:=by decide)(j:(x==("__classdict__":Str))=AF:=by decide):PE X (.Name x pos) (dn3 i):=by
 intro f s n H Q I h;let{v,e,h}:=h;let{m,p,t}:=I.loc;let{u,r,l}:=t i x v w e o;have d:EP X f n Q u s:=⟨v,H,I,r,h⟩
 rcases l with⟨b,q⟩|⟨b,c,k,a⟩
 ·show Jw (wpAny_loadName_local I.ok.kind b p q d) g
 ·rcases b with b|b
  ·show Jw (wpAny_loadName_cell I.ok.kind b k a d) g
  ·show Jw (wpAny_loadName_free I.ok.kind b k a d j) g
def cu2{i j pos}:PE X (.Constant (.int i) j pos) (tC (.int i)):=λ_ _ _ H _ I h=>wpAny_Constant_int {.int i,H,I.tok _,⟨_,rfl⟩,h}
def c65{b j pos}:PE X (.Constant (.bool b) j pos) (tC (.bl b)):=λ_ _ _ H _ I h=>Constant_bool {.bl b,H,I,rfl,h}
def cq3{j pos}:PE X (.Constant .none j pos) (tC .non):=λ_ _ _ H _ I h=>IV {.non,H,I,rfl,h}
def cq6{x j pos}:PE X (.Constant (.str x) j pos) (tC (.str x)):=λ_ _ _ H _ I h=>Calls.Constant_str {.str x,H,I.tok _,⟨_,rfl⟩,h}
abbrev Gl(X:Cx)(x:Str):Prop:=X.env.kindOf x=AA .globalImplicit
def V5{E:AG->AL->Prop}{a:Pos}{Q:AG->AL->Prop}(I:Inv X pins σ H s)(c:Gl X x)(b:X.mg x=AA u)(h:Q u s)
  (d:(x==("__debug__":Str))=AF:=by decide):AW (model X.prog X.w) X.A (eval (.Name x a) X.env) Q E s:=
 Gx I.ok.kind c (Calls.loadGlobal_global (by rw[I.ok.glob];show I.mod.glob.keeps I.bk) b h) d
def M4{E:AG->AL->Prop}{a:Pos}{Q:AG->AL->Prop}(I:Inv X pins σ H s)(e:Gl X x)(d:X.mg x=AD)(b:BK x=AA u)(h:Q u s)
  (c:x≠"__name__":=by decide) (f:(x==("__debug__":Str))=AF:=by decide):AW (model X.prog X.w) X.A (eval (.Name x a) X.env) Q E s:=by
 let{j,i,g}:=I.mod.blt;show Gx I.ok.kind e (Calls.loadGlobal_builtin (by rw[I.ok.glob];show I.mod.glob.keeps I.bk) d (by rw[I.ok.blt];show i.keeps I.bk) ((g x c).trans b) h) f
def bi6{v:V}(b:Gl X x)(a:X.mg x=AA u)(r:j7 v u)(c:(x==("__debug__":Str))=AF:=by decide):PE X (.Name x pos) (tC v):=
 λ_ _ _ H _ I h=>V5 I b a ⟨v,H,I,r,h⟩ c
def bh3{v:V}(d:Gl X x)(c:X.mg x=AD)(a:BK x=AA u)(r:j7 v u)(b:x≠"__name__":=by decide)(e:(x==("__debug__":Str))=AF:=by decide):PE X (.Name x pos) (tC v):=
 λ_ _ _ H _ I h=>M4 I d c a ⟨v,H,I,r,h⟩ b e
variable {a b:AU} {ta tb:TE} 
abbrev PC(X:Cx)(op:Do)(a b:AU)(t:TE):Prop:=
 ∀(pins:List (AI×Obj))(s:AL)(σ:St)(H:Hp)(Q:VK),Inv X pins σ H s->t σ H Q ->
  AW (model X.prog X.w) X.A (eval a X.env) (λv s₁=>AW (model X.prog X.w) X.A (eval b X.env) (λu s₂=>AW (model X.prog X.w) X.A (Bp op v u) (EP X pins σ Q) X.xe s₂) X.xe s₁) X.xe s
def bd9 b(h:op≠.In)(d:op≠.NotIn):CK op b=AF:=by
 have c:(op==CmpOp.In)=AF:=by lia
 have a:(op==IG)=AF:=by lia
 cases b<;>simp[CK,c,a]
abbrev dh6(ta:TE):TE:=λσ H Q=>ta σ H λx H1=>Q (.bl (AB (x=.non))) H1
abbrev c88(ta:TE):TE:=λσ H Q=>ta σ H λx H1=>Q (.bl (!decide (x=.non))) H1
def j7.none_iff{x}{v}(r:j7 x v):(v==Bd)=AB (x=.non):=by
 cases x with
 |non=>cases r;rfl
 |bl _=>cases r;rfl
 |int _=>let{t,rfl}:=r;rfl
 |str _=>let{t,rfl}:=r;rfl
 |byt _=>let{t,rfl}:=r;rfl
 |flt _=>let{t,rfl}:=r;rfl
 |ref _=>cases r;rfl
 |ty _=>cases r;rfl
def bl0{j pos'}(g:PE X a ta):PC X .Is a (.Constant .none j pos') (dh6 ta):=by
 intro b s c H Q I h;apply thn (g b s c H _ I h) λv l d=>?_;let{x,k,i,e,f}:=d;show IV (is_none_gen {.bl _,k,i,by rw[e.none_iff];rfl,f})
def bh5{j pos'}(g:PE X a ta):PC X .IsNot a (.Constant .none j pos') (c88 ta):=by
 intro b s c H Q I h;apply thn (g b s c H _ I h) λv l d=>?_;let{x,k,i,e,f}:=d;show IV (isnot_none_gen {.bl _,k,i,by rw[e.none_iff];rfl,f})
abbrev tB(t:TE):TT:=λσ H Q=>t σ H λx H1=>∃c,x=.bl c/\Q c H1
def bm8{t:TE}(h:PC X op a b t)(f:CK op b=AF:=by first|show bd9 _ ∅ ∅|rfl):PE X (.Compare a [op] [b] pos) t:=λc s d H Q I e=>LR (h c s d H Q I e) f
def bn9{t:TE}(h:PC X op a b t)(f:CK op b=AF:=by first|show bd9 _ ∅ ∅|rfl):PT X (.Compare a [op] [b] pos) (tB t):=by
 intro e s g H Q I l;apply JN (thn (h e s g H _ I l) λv w f=>thn f λu r m=>thn m λc p i=>?_) f;let{x,o,n,j,k}:=i;let{d,rfl,q}:=k;cases j;show CB ⟨o,n,q⟩
def c10{e:AU}{t:TE}(h:PE X e t)(k:∀a,IF e X.env a=(do let v <-a;Hs e.pos;holding [v] (truthy v)):=by intro _;rfl):PT X e (tB t):=by
 intro b s c H Q I j;apply isTrue_plain (thn (h b s c H _ I j) λv n f=>?_) (k _);let{x,m,l,g,i}:=f;let{d,rfl,q}:=i;cases g;show CB ⟨m,l,q⟩
variable {tA tB':TT} {l6:List AU}
abbrev dn1(t u:TT):TT:=λσ H Q=>t σ H λc H1=>if c=AC then u σ H1 Q else Q AF H1
abbrev tOr(t u:TT):TT:=λσ H Q=>t σ H λc H1=>if c=AC then Q AC H1 else u σ H1 Q
abbrev dh1(t:TT):TT:=λσ H Q=>t σ H λc H1=>Q (!c) H1
def cj0(f:PT X a tA):PW X (.BoolOp .And [a] pos) tA:=by
 intro g b s d H Q I h;apply isTrue_and (thn (f b s d H Q I h) λc i e=>?_);cases c with
 |true=>show isTrue_and_nil e
 |false=>show e
def cq4(f:PT X a tA):PW X (.BoolOp .Or [a] pos) tA:=by
 intro g b s d H Q I h;apply isTrue_or (thn (f b s d H Q I h) λc i e=>?_);cases c with
 |false=>show isTrue_or_nil e
 |true=>show e
def cp8(m:PT X a tA)(l:PW X (.BoolOp .And (b::l6) pos) tB'):PW X (.BoolOp .And (a::b::l6) pos) (dn1 tA tB'):=by
 intro j d s e H Q I h;apply isTrue_and (thn (m d s e H _ I h) λc k⟨i,g,f⟩=>?_);cases c with
 |true=>show l j d k e i Q g f
 |false=>show⟨i,g,f⟩
def c74(m:PT X a tA)(l:PW X (.BoolOp .Or (b::l6) pos) tB'):PW X (.BoolOp .Or (a::b::l6) pos) (tOr tA tB'):=by
 intro j d s e H Q I h;apply isTrue_or (thn (m d s e H _ I h) λc k⟨i,g,f⟩=>?_);cases c with
 |true=>show⟨i,g,f⟩
 |false=>show l j d k e i Q g f
def cr9(e:PT X a tA):PT X (.UnaryOp .Not a pos) (dh1 tA):=(λb s d H Q I h=>isTrue_not (e b s d H (λc=>Q (!c)) I h))
abbrev c57(ta tb:TE):TE:=λσ H Q=>ta σ H λx H1=>∃c,x=.bl c/\if c=AC then tb σ H1 Q else Q (.bl AF) H1
abbrev dj3(ta tb:TE):TE:=λσ H Q=>ta σ H λx H1=>∃c,x=.bl c/\if c=AC then Q (.bl AC) H1 else tb σ H1 Q
abbrev de1(ta:TE):TE:=λσ H Q=>ta σ H λx H1=>∃c,x=.bl c/\Q (.bl (!c)) H1
def bj7{op}{t}(h:PE X a t):PE X (.BoolOp op [a] pos) t:=λb s c H Q I d=>BoolOp_one (h b s c H Q I d)
def c20(n:PE X a ta)(m:PE X (.BoolOp .And (b::l6) pos) tb):PE X (.BoolOp .And (a::b::l6) pos) (c57 ta tb):=by
 intro d s f H Q I h;apply BoolOp_and (thn (n d s f H _ I h) λv k j=>?_);let{x,i,g,l,e}:=j;let{c,rfl,e}:=e;cases l;apply CB ?_;cases c with
 |true=>show m d k f i Q g e
 |false=>show{.bl AF,i,g,rfl,e}
def da5(n:PE X a ta)(m:PE X (.BoolOp .Or (b::l6) pos) tb):PE X (.BoolOp .Or (a::b::l6) pos) (dj3 ta tb):=by
 intro d s f H Q I h;apply BoolOp_or (thn (n d s f H _ I h) λv k j=>?_);let{x,i,g,l,e}:=j;let{c,rfl,e}:=e;cases l;apply CB ?_;cases c with
 |false=>show m d k f i Q g e
 |true=>show{.bl AC,i,g,rfl,e}
def cr3(i:PE X a ta):PE X (.UnaryOp .Not a pos) (de1 ta):=by
 intro b s e H Q I h;apply UnaryOp_ (thn (i b s e H _ I h) λv l f=>?_);let{x,k,j,g,d}:=f;let{c,rfl,d}:=d;cases g;show not_of (CB {.bl !c,k,j,rfl,d})
abbrev tIf(t:TT)(ta tb:TE):TE:=λσ H Q=>t σ H λc H1=>if c=AC then ta σ H1 Q else tb σ H1 Q
def cb3{c}(l:PT X c tA)(n:PE X a ta)(m:PE X b tb):PE X (.IfExp c a b pos) (tIf tA ta tb):=by
 intro e s f H Q I h;apply wpAny_IfExp (thn (l e s f H _ I h) λd g⟨k,j,i⟩=>?_);cases d with
 |true=>show n e g f k Q j i
 |false=>show m e g f k Q j i
end
end
section
variable{u:AG}{X:Cx}{pins:List (AI×Obj)}{σ:St}{H:Hp}{s:AL}{e tg:AU}{te:TE}{pos:Pos}{P:Al}
abbrev SqL(K:AO)(H:Hp)(a:AI)(xs:List V):Prop:=
 Rd H a (.lst xs)\/
  ∃(o:Obj)(its:Array AG)(n:Nat),K.lookup a=AA o/\o.cls=.type "list"/\o.dict=AD/\o.data=.seq its n/\its.size<=sizeLine/\i7 xs its.toList
abbrev SqT(K:AO)(H:Hp)(a:AI)(xs:List V):Prop:=
 Rd H a (.tup xs)\/
  ∃(o:Obj)(its:Array AG)(n:Nat),K.lookup a=AA o/\o.cls=.type "tuple"/\o.dict=AD/\o.data=.seq its n/\its.size<=sizeLine/\i7 xs its.toList
abbrev dm0:AG->Option V
 |.none=>AA .non
 |.bool b=>AA (.bl b)
 |.int i _=>AA (.int i)
 |.str x _=>AA (.str x)
 |.bytes b _=>AA (.byt b)
 |.float b _=>AA (.flt b)
 |.ref a=>AA (.ref a)
 |.type n=>AA (.ty n)
 |_=>AD
def j7.abs{x}(r:j7 x u):dm0 u=AA x:=by
 cases x with
 |non=>cases r;rfl
 |bl _=>cases r;rfl
 |int _=>let{t,rfl}:=r;rfl
 |str _=>let{t,rfl}:=r;rfl
 |byt _=>let{t,rfl}:=r;rfl
 |flt _=>let{t,rfl}:=r;rfl
 |ref _=>cases r;rfl
 |ty _=>cases r;rfl
theorem j7.inj{x y}(r:j7 x u)(q:j7 y u):x=y:=Ay (r.abs.symm.trans q.abs)
theorem i7.inj:∀{b a}{c},i7 b c->i7 a c->b=a
 |_,_,_,.nil,.nil=>rfl
 |_,_,_,.cons r t,.cons e d=>by rw[r.inj e,i7.inj t d]
section
variable {a:AI} {xs ys:List V}
def Inv.list(I:Inv X pins σ H s)(h:SqL X.K H a xs):∃b:List AG,i7 xs b/\PlainL s.heap a b.toArray/\xs.length<=sizeLine:=by
 rcases h with h|⟨o,b,n,d,g,f,c,i,r⟩
 ·let{z,b,n,r,e}:=h.ok I.hok;show{b,r,⟨_,n,e,rfl,rfl,rfl⟩,z}
 ·apply{b.toList,r,{o,n,I.kIn a o d,g,f,by simpa using c},?_};have e:=r.length;simp at e;lia
def Inv.tupleD(I:Inv X pins σ H s)(h:SqT X.K H a xs):∃b:List AG,i7 xs b/\G2 s.heap a b.toArray/\xs.length<=sizeLine:=by
 rcases h with h|⟨o,b,n,f,g,c,d,i,r⟩
 ·let{z,b,r,p}:=h.ok I.hok;show⟨b,r,p,z⟩
 ·apply{b.toList,r,{o,I.kIn a o f,g,c,n,by simpa using d},?_};have e:=r.length;simp at e;lia
def Inv.tuple(I:Inv X pins σ H s)(h:SqT X.K H a xs):∃b:List AG,i7 xs b/\IE s.heap a b.toArray/\xs.length<=sizeLine:=by
 let{b,r,p,z}:=I.tupleD h;show⟨b,r,p.tup,z⟩
def Inv.list_inj(I:Inv X pins σ H s)(h:SqL X.K H a xs)(g:SqL X.K H a ys):xs=ys:=by
 let{c,r,{o,n,e,_,_,d},_}:=I.list h;let{b,f,{i,j,k,_,_,l},_}:=I.list g;have:c=b:=by simp_all
 subst this;show r.inj f
def Inv.tuple_inj(I:Inv X pins σ H s)(h:SqT X.K H a xs)(g:SqT X.K H a ys):xs=ys:=by
 let{c,r,{o,e,_,n,d},_}:=I.tuple h;let{b,f,{i,k,_,j,l},_}:=I.tuple g;have:c=b:=by simp_all
 subst this;show r.inj f
end
section
variable {st:BR} {l6:List BR} {t u:TS} 
abbrev bo9:TS:=λD σ H=>D.nx σ H
abbrev dh5(t u:TS):TS:=λD σ H=>t {D with nx:=u D} σ H
def cd4:PSs X [] bo9:=λ_ _ a H _ I h=>Fa ⟨a,H,I,h⟩
def b87(j:PS X st t)(i:PSs X l6 u):PSs X (st::l6) (dh5 t u):=by
 intro a s d H D I h;apply Kg (thn (j a s d H {D with nx:=u D} I h) λf e q=>?_);cases f with
 |next=>
  let{b,m,l,q}:=q;show i a e b m D l q
 |ret v=>show q
 |brk=>show q
 |cont=>show q
abbrev c97:TS:=λD σ H=>D.ct σ H
def cn4:PS X (.Pass pos) bo9:=λ_ _ a H _ I h=>wpAny_Pass ⟨a,H,I,h⟩
def bv7:PS X (.Continue pos) c97:=λ_ _ a H _ I h=>wpAny_Continue ⟨a,H,I,h⟩
def Inv.quiet(I:Inv X pins σ H s):interactive X.env=AF:=by simp[interactive,I.ok.kind]
abbrev c82(te:TE):TS:=λD σ H=>te σ H λ_ H1=>D.nx σ H1
def ch2(f:PE X e te)(d:Cc e AD pos.line X.env=pure AF:=by rfl):PS X (.Expr e pos) (c82 te):=by
 intro a s b H D I h;show wpAny_Expr_any (thn (f a s b H _ I h) λv j⟨x,i,g,k,c⟩=>⟨b,i,g,c⟩) I.quiet d
abbrev dk9(te:TE):TS:=λD σ H=>te σ H D.rt
def cx5(f:PE X e te):PS X (.Return (AA e) pos) (dk9 te):=λa s b H D I h=>wpAny_Return_some (thn (f a s b H _ I h) λv j⟨x,i,g,c,d⟩=>⟨x,b,i,g,c,d⟩)
abbrev da8:TS:=λD _ H=>D.rt .non H
def cj5:PS X (.Return AD pos) da8:=λ_ _ a H _ I h=>wpAny_Return_none {.non,a,H,I,rfl,h}
abbrev dk4(c:TT)(t u:TS):TS:=λD σ H=>c σ H λb H1=>if b=AC then t D σ H1 else u D σ H1
def c90{c}{a b}{tc}(l:PT X c tc)(n:PSs X a t)(m:PSs X b u):PS X (.If c a b pos) (dk4 tc t u):=by
 intro e s f H D I h;apply wpAny_If (thn (l e s f H _ I h) λd g⟨k,j,i⟩=>?_);cases d with
 |true=>show n e g f k D j i
 |false=>show m e g f k D j i
end
@[reducible]noncomputable def TG:=V->St->Hp->(St->Hp->Prop)->Prop
@[reducible]noncomputable def TGs:=List V->St->Hp->(St->Hp->Prop)->Prop
abbrev PG(X:Cx)(target:AU)(t:TG):Prop:=
 ∀(pins:List (AI×Obj))(s:AL)(σ:St)(H:Hp)(v:V)(u:AG)(Q:St->Hp->Prop),Inv X pins σ H s->j7 v u->t v σ H Q ->
  AW (model X.prog X.w) X.A (assign target X.env u) (λ_ s'=>∃σ' H',Inv X pins σ' H' s'/\Q σ' H') X.xe s
abbrev PGs(X:Cx)(ts:List AU)(t:TGs):Prop:=
 ∀(pins:List (AI×Obj))(s:AL)(σ:St)(H:Hp)(vs:List V)(us:List AG)(Q:St->Hp->Prop),Inv X pins σ H s->i7 vs us->t vs σ H Q ->
  AW (model X.prog X.w) X.A (assignInOrder ((Bg ts X.env).map (·.2)) us) (λ_ s'=>∃σ' H',Inv X pins σ' H' s'/\Q σ' H') X.xe s
@[reducible]noncomputable def ax2:=V->V->V->Hp->(Hp->Prop)->Prop
abbrev br7(X:Cx)(t:ax2):Prop:=
 ∀(pins:List (AI×Obj))(s:AL)(σ:St)(H:Hp)(o i v:V)(ov iv u:AG)(Q:Hp->Prop),Inv X pins σ H s->j7 o ov->j7 i iv->j7 v u->t o i v H Q ->
  AW (model X.prog X.w) X.A (KN ov iv u) (λ_ s'=>∃H',Inv X pins σ H' s'/\Q H') X.xe s
section
abbrev av1(i:Nat):TG:=λv σ H Q=>Q (σ.set i (AA v)) H
def bf4{i:Nat}{x:Str}(e:X.N.Nodup)(c:X.N[i]?=AA x)(b:Loc X.env.scope x)(d:X.fn x=AC\/X.env.scope.names.lookup x=AA .local:=by first|show .inl rfl|show .inr rfl|assumption):PG X (.Name x pos) (av1 i):=by
 intro a s g H v u Q I r h;show KO (ac6 I e c b r (λj f=>⟨_,H,f,h⟩) d)
abbrev bq9:TGs:=λvs σ H Q=>vs=[]/\Q σ H
abbrev bp5(t:TG)(u:TGs):TGs:=λvs σ H Q=>∃v r,vs=v::r/\t v σ H λσ' H'=>u r σ' H' Q
def co0:PGs X [] bq9:=by
 intro a s b H c d Q I r h;let{e,h}:=h;show assignInOrder_nil ⟨b,H,I,h⟩
def b39{b:List AU}{t:TG}{u:TGs}(n:PG X e t)(m:PGs X b u)
  (l:(Bg (e::b) X.env).map (·.2)=assign e X.env::(Bg b X.env).map (·.2):=by rfl):PGs X (e::b) (bp5 t u):=by
 intro a s f H w y Q I r h;let{v,x,o,h}:=h;subst o;cases r with
 |cons r j=>
  rw[l];apply assignInOrder_cons (thn (n a s f H _ _ _ I r h) λ_ i g=>?_);let{c,q,p,k}:=g;show m a i c q _ _ Q p j k
abbrev dk3(K:AO)(n:Nat)(t:TGs):TG:=λv σ H Q=>∃a xs,v=.ref a/\SqT K H a xs/\xs.length=n/\t xs σ H Q
def cv7{d:List AU}{k:Nat}{t:TGs}{n:Nat}(z:X.calm=AC)(h:PGs X d t)
  (x:(Bg d X.env).length=n:=by rfl) (g:(Bg d X.env).findIdx? (·.1)=AD:=by rfl):PG X (.Tuple d k pos) (dk3 X.K n t):=by
 intro c s i H v u Q I r f;let{a,l,B,w,y,f}:=f;subst B;cases r;let{m,j,q,D}:=I.tuple w;apply assign_Tuple_tuple (I.ok.hd z) q (by simp[x,<-y,j.length]) g λA p=>?_;have C:Inv X c i H {s with heap:=A}:=I.kept (t':=s.toks) λb o e=>p b o (BO (BC e)) e;show h c _ i H l _ Q C (by simpa using j) f
abbrev dj1(to ti:TE)(t:ax2):TG:=λv σ H Q=>to σ H λo H1=>ti σ H1 λi H2=>t o i v H2 λH3=>Q σ H3
def cr2{o i:AU}{g j:TE}{t:ax2}(A:PE X o g)(B:PE X i j)(z:br7 X t)
  (C:∀v,assign (.Subscript o i pos) X.env v=(do
   let b <-holding [v] (eval o X.env)
   let c <-holding [v,b] (eval i X.env)
   Hs pos
   holding [v,b,c] (KN b c v)
   release [v,b,c] []):=by intro _;rfl):PG X (.Subscript o i pos) (dj1 g j t):=by
 intro a s d H v u Q I r h;rw[C];apply AE (BQ (thn (A a s d H _ I h) λb l f=>?_));let{x,K,F,n,w}:=f;apply AE (BQ (thn (B a l d K _ F w) λc k e=>?_));let{y,J,E,m,q}:=e;apply AE (Ga (AE (BQ (thn (z a k d J x y v b c u _ E n m r q) λ_ L⟨G,D,p⟩=>?_))));show wpAny_release ⟨d,G,D,p⟩
abbrev bs1(te:TE)(g:TG):TS:=λD σ H=>te σ H λx H1=>g x σ H1 D.nx
def at0{g:TG}(m:PE X e te)(l:PG X tg g)(k:Dt [tg] e pos.line X.env=pure AF:=by rfl)(j:Gb [tg] e X.env=pure AD:=by rfl)
  (n:(Bg [tg] X.env).map (·.2)=[assign tg X.env]:=by rfl):PS X (.Assign [tg] e pos) (bs1 te g):=by
 intro a s c H D I h;apply wpAny_Assign_stores (thn (m a s c H _ I h) λv d b=>?_) k j;let{x,p,o,f,i}:=b;rw[n];show thn (l a d c p x v _ o f i) λ_ r q=>q
def co4{i:Nat}{x:Str}{a:Pos}(o:X.N.Nodup)(l:X.N[i]?=AA x)(j:Loc X.env.scope x)(n:PE X e te)(k:Cc e (AA (.Name x a)) pos.line X.env=pure AF:=by rfl)(m:X.fn x=AC\/X.env.scope.names.lookup x=AA .local:=by first|show .inl rfl|show .inr rfl|assumption):
  PS X (.Assign [.Name x a] e pos) (bs1 te (av1 i)):=by
 intro b s d H D I h;apply wpAny_Assign_Name (thn (n b s d H _ I h) λv u c=>?_) k;let{y,r,q,f,g}:=c;show ac6 q o l j f (λt p=>⟨_,r,p,g⟩) m
end
section
abbrev cv4(c:TT)(tb:TS):TS:=λD σ H=>∃W:Nat->St->Hp->Prop,(∃m,W m σ H)/\∀m σ H,W m σ H ->
 c σ H λb H1=>if b=AC then ∃N:St->Hp->Prop,(∀σ' H',N σ' H'->∃m',m'<m/\W m' σ' H')/\tb {D with nx:=N,ct:=N,bk:=D.nx} σ H1 else D.nx σ H1
def b78{c}{body}{tc}{tb}(r:HV (model X.prog X.w) X.A X.env X.xe)(K:PT X c tc)(L:PSs X body tb):PS X (.While c body [] pos) (cv4 tc tb):=by
 intro d s B H D I h;let{W,{J,C},g}:=h;apply wpAny_While (codeAny_whileLoop (λn F=>∃e z,Inv X d e z F/\W n e z) ?_ J ⟨B,H,I,C⟩);rintro n s1 ⟨σ1,H1,I1,w1⟩;apply Ck r (thn (K d s1 σ1 H1 _ I1 (g n σ1 H1 w1)) λb E⟨y,x,k⟩=>?_);cases b with
 |true=>
  let{N,t,k}:=k;apply Ck r (thn (L d E σ1 y _ x k) λf O j=>?_);cases f with
  |next=>
   let{a,i,q,m}:=j;let{o,p,l}:=t a i m;show⟨o,p,a,i,q,l⟩
  |cont=>
   let{a,i,q,m}:=j;let{o,p,l}:=t a i m;show⟨o,p,a,i,q,l⟩
  |brk=>show j
  |ret v=>show j
 |false=>
  show Fa ⟨σ1,y,x,k⟩
end
structure It where
 go:Nat->Hp->Prop
 yld:Nat->Hp->V->Hp->Prop
 stop:Nat->Hp->Prop
abbrev D5(X:Cx)(pins:List (AI×Obj))(H:Hp)(b:AI):Prop:=
 H b=AD/\b≠X.env.locals/\b∉X.fs/\(b∈X.ex\/X.s₀.heap.objs.size<=b)/\(∀x c,X.env.cells.lookup x=AA c->c≠b)/\∀p∈X.pn++pins,p.1≠b
def Inv.fpOk{H'}{b:AI}(I:Inv X pins σ H s)(a:s.heap.objs.size<=b)(f:H' b=AD):D5 X pins H' b:=by
 apply{f,Kh (An I.lt a),I.nofs a,.inr (Ap I.sz a),λx c e z=>?_,λp d z=>?_}
 ·let{v,q}:=I.cell x c e;show absurd (An q.lt (by simp_all)) (DW _)
 ·show absurd (An (BC (I.pin p d).1) (by simp_all)) (DW _)
structure Turn(P:Al)(w:Aw)(K:AO)(tg:AU)(J:It)(fp:List AI)(it:AI)(tn:Nat->Heap->Prop):Prop where
 mem:it∈fp
 obj:∀i h,tn i h->∀b∈fp,∃o,h.get? b=AA o/\∀v,o.data≠.cell v
 keep:∀i h h',tn i h->(∀b∈fp,∀o,h.get? b=AA o->h'.get? b=AA o)->tn i h'
 item:∀(X:Cx),X.prog=P->X.w=w->X.K=K->X.calm=AC->∀(i:Nat)(pins:List (AI×Obj))(s:AL)(σ:St)(H:Hp)(E:AG->AL->Prop),Inv X pins σ H s->(∀b∈fp,D5 X pins H b)->tn i s.heap->J.go i H ->
  AW (model P w) X.A (FR (.ref it)) (λr s1=>∃u,r=AA u /\
   AW (model P w) X.A (Fb tg (.ref it) u) (λ_ s2=>∃x H',Inv X pins σ H' s2/\j7 x u/\J.yld i H x H'/\tn (i+1) s2.heap/\∀b∈fp,H' b=AD) E s1) E s
 done:∀(X:Cx),X.prog=P->X.w=w->X.K=K->X.calm=AC->∀(i:Nat)(pins:List (AI×Obj))(s:AL)(σ:St)(H:Hp)(E:AG->AL->Prop),Inv X pins σ H s->(∀b∈fp,D5 X pins H b)->tn i s.heap->J.stop i H ->
  AW (model P w) X.A (FR (.ref it)) (λr s1=>r=AD/\Inv X pins σ H s1) E s
 self:∀(A:BW)(i:Nat)(s:AL)(Q:AG->AL->Prop)(E:AG->AL->Prop),tn i s.heap->Q (.ref it) s->AW (model P w) A (Iw (.ref it)) Q E s
@[reducible]noncomputable def TI:=St->Hp->(It->Hp->Prop)->Prop
abbrev PIE(X:Cx)(pins:List (AI×Obj))(σ:St)(tg:AU)(R:It->Hp->Prop)(itv:AG)(s2:AL):Prop:=
 ∃(it:AI)(fp:List AI)(tn:Nat->Heap->Prop)(J:It)(H':Hp),itv=.ref it/\Inv X pins σ H' s2/\Turn X.prog X.w X.K tg J fp it tn/\tn 0 s2.heap/\(∀b∈fp,D5 X pins H' b)/\R J H'
abbrev PI(X:Cx)(tg iter:AU)(wi:TI):Prop:=
 ∀(pins:List (AI×Obj))(s:AL)(σ:St)(H:Hp)(R:It->Hp->Prop),Inv X pins σ H s->wi σ H R ->
  AW (model X.prog X.w) X.A (eval iter X.env) (λv s1=>AW (model X.prog X.w) X.A (Iw v) (PIE X pins σ tg R) X.xe s1) X.xe s
def ab3{M}{A}{E}{it}{o}{n}{vs}{Q}(b:s.heap.get? it=AA o)(e:o.cls=.type n)(d:o.data=.fields vs)
  (c:["enumerate","zip","dict_itemiterator","dict_reverseitemiterator","odict_iterator","itertools.zip_longest","itertools.pairwise"].contains n=AF) (a:Q () s):AW M A (Fb tg (.ref it) u) Q E s:=by
 cases tg<;>first
  |show AK a
  | (cases u <;> first
    |show AK a
    | (apply AE (wpAny_load b ?_)
       rw[e,d];change AW M A (if(["enumerate","zip","dict_itemiterator","dict_reverseitemiterator","odict_iterator","itertools.zip_longest","itertools.pairwise"].contains n&&vs[0]?==AA (Dr _))=AC then _ else _) Q E s;rw[if_neg (by intro h;rw[c]at h;cases h)];show AK a))
abbrev Itl(K:AO)(a:AI):It:=
 {λi H=>∃xs x,SqL K H a xs/\xs[i]?=AA x,λi H x H'=>H'=H/\∀xs,SqL K H a xs->xs[i]?=AA x,λi H=>∃xs,SqL K H a xs/\xs.length<=i}
abbrev Itt(K:AO)(a:AI):It:=
 {λi H=>∃xs x,SqT K H a xs/\xs[i]?=AA x,λi H x H'=>H'=H/\∀xs,SqT K H a xs->xs[i]?=AA x,λi H=>∃xs,SqT K H a xs/\xs.length<=i}
abbrev Itr(lo:Int)(n:Nat):It:={λi _=>i<n,λi H x H'=>H'=H/\x=.int (lo+i),λi _=>n<=i}
def b11{w:Aw}{K:AO}(a j:AI):Turn P w K tg (Itl K a) [j] j (λi h=>h.IsListIter j a i) where
 mem:=by simp
 obj:=λi h f b l=>by
  have e:b=j:=by simpa using l
  subst e;let{o,e,c,d}:=f;show{o,e,λv z=>by rw[d]at z;cases z}
 keep:=λi h r f k=>f.at λo e=>k j ∎ o e
 item:=by
  intro X D B F Q i g s O H E I q f C;subst D B F;let{R,x,n,A}:=C;let{y,t,p,U}:=I.list n;let{u,W,T}:=t.get A;let{N,M,Y,L,J,G}:=q j ∎;apply Ix f p.isList (x:=u) (by simpa using W) λr m S=>?_;have I1:Inv X g O H {s with heap:=r}:=I.turned (t':=s.toks) (λb o l e=>(S.2 b l).trans e) N M L J G;let{o,e,c,d}:=id m;show{u,rfl,ab3 (s:={s with heap:=r}) e c d ∅ {x,H,I1,T,{rfl,λa V=>by rw[I.list_inj V n];show A},m,λb l=>(q b l).1}}
 done:=by
  intro X D B F Q i g s O H E I q f C;subst D B F;let{R,n,A}:=C;let{y,t,p,U}:=I.list n;let{N,M,Y,L,J,G}:=q j ∎;have hl:=t.length;show JO (I.ok.hd Q) f p.isList (by simp;lia) λr Z=>{rfl,I.turned (t':=s.toks) (λb o l e=>Z b o l e) N M L J G}
 self:=λ_ _ _ _ _ f h=>wpAny_pyIter_listiter f h
def bw0{w:Aw}{K:AO}(a l:AI):Turn P w K tg (Itt K a) [l] l (λi h=>h.IsTupleIter l a i) where
 mem:=by simp
 obj:=λi h f b m=>by
  have e:b=l:=by simpa using m
  subst e;let{o,e,c,d}:=f;show{o,e,λv z=>by rw[d]at z;cases z}
 keep:=λi h t f k=>f.at λo e=>k l ∎ o e
 item:=by
  intro X D B F Q i g s O H E I r f C;subst D B F;let{R,x,q,A}:=C;let{j,y,p,U}:=I.tuple q;let{u,W,T}:=y.get A;let{N,M,Y,L,J,G}:=r l ∎;apply wpAny_pyNext_tuple_item f (show s.heap.IsTuple a j.toArray from p) (x:=u) (by simpa using W) λt n S=>?_;have I1:Inv X g O H {s with heap:=t}:=I.turned (t':=s.toks) (λb o m e=>(S.2 b m).trans e) N M L J G;let{o,e,c,d}:=id n;show{u,rfl,ab3 (s:={s with heap:=t}) e c d ∅ {x,H,I1,T,{rfl,λa V=>by rw[I.tuple_inj V q];show A},n,λb m=>(r b m).1}}
 done:=by
  intro X D B F Q i g s O H E I r f C;subst D B F;let{R,q,A}:=C;let{j,y,p,U}:=I.tuple q;let{N,M,Y,L,J,G}:=r l ∎;have hl:=y.length;show wpAny_pyNext_tuple_end (I.ok.hd Q) f (show s.heap.IsTuple a j.toArray from p) (by simp;lia) λt Z=>{rfl,I.turned (t':=s.toks) (λb o m e=>Z b o m e) N M L J G}
 self:=λ_ _ _ _ _ f h=>wpAny_pyIter_tupleiter f h
def bv8{w:Aw}{K:AO}(d:AI)(j:Int)(n:Nat):Turn P w K tg (Itr j n) [d] d (λi h=>IsRangeIter h d (j+(i:Nat)*1) ((n:Int)-(i:Nat)) 1) where
 mem:=by simp
 obj:=λi h a b f=>by
  simp_all
 keep:=λi h m a k=>k d ∎ _ a
 item:=by
  intro X D C F q i c s A H E I l a p;subst D C F;let{z,y,L,x,u,r}:=l d ∎;have W:=Walks.range (prog:=X.prog) (w:=X.w) (I.ok.hd q) d j 1 n;apply W.item i s _ _ p a λv m B J g G=>?_;let{t,rfl}:=J;have N:Inv X c A H {s with heap:=m,toks:=B}:=I.turned (λb o f e=>G b o (by simpa using f) e) z y x u r;apply{_,rfl,ab3 (s:={s with heap:=m,toks:=B}) (n:="range_iterator") g rfl rfl ∅ {.int (j+i),H,N,{t,?_},⟨rfl,rfl⟩,g,λb f=>(l b f).1}};rw[Int.mul_one]
 done:=by
  intro X D C F q i c s A H E I l a p;let{z,y,L,x,u,r}:=l d ∎;show wpAny_pyNext_range_end (I.ok.hd q) a (by have:n<=i:=p;lia) λm M=>{rfl,I.turned (t':=s.toks) (λb o f e=>M b o f e) z y x u r}
 self:=λ_ _ _ _ _ a h=>wpAny_pyIter_rangeiter a h
end
section
variable{pins:List (AI×Obj)}{σ:St}{H:Hp}{s:AL}{fp:List AI}
section
variable {X:Cx} {tg:AU}
def bb7{R}{E}{lo hi}{t u v}{tk}(I:Inv X pins σ H s)(h:-(2^62)<=lo)(g:lo<2^62)(f:-(2^62)<=hi)(d:hi<2^62)
  (q:R (Itr lo (hi-lo).toNat) H):AW (model X.prog X.w) X.A (Iw (.ref s.heap.objs.size)) (PIE X pins σ tg R) E {s with heap:=s.heap.push {cls:=.type "range",data:=.fields #[.int lo t,.int hi u,.int 1 v]},toks:=tk}:=by
 apply wpAny_pyIter_range (IsRange.new ..) (small_one h g f d) ?_;have a:Inv X pins σ H {s with heap:=s.heap.push {cls:=.type "range",data:=.fields #[.int lo t,.int hi u,.int 1 v]},toks:=tk}:=I.kept λb o=>AQ _;apply{(s.heap.push {cls:=.type "range",data:=.fields #[.int lo t,.int hi u,.int 1 v]}).objs.size,[(s.heap.push {cls:=.type "range",data:=.fields #[.int lo t,.int hi u,.int 1 v]}).objs.size],_,_,H,rfl,
  a.kept λb o=>AQ _,bv8 _ lo (hi-lo).toNat,?_,λb c=>?_,q}
 ·have j:lo+((0:Nat))*1=lo:=by simp
  have i:((hi-lo).toNat:Nat)-((0:Nat))=Ki lo hi 1:=by rw[rangeSize_one];split<;>lia
  rw[j,i];show Aj _ rfl
 ·have e:b=(s.heap.push {cls:=.type "range",data:=.fields #[.int lo t,.int hi u,.int 1 v]}).objs.size:=by simpa using c
  subst e;show a.fpOk (AR _) (a.hok.fresh (AR _))
abbrev db0(ta:TA):TI:=λσ H R=>ta σ H λvs H1=>∃j:Int,vs=[.int j]/\-(2^62)<=j/\j<2^62/\R (Itr 0 j.toNat) H1
abbrev dc4(ta:TA):TI:=λσ H R=>ta σ H λvs H1=>∃i j:Int,vs=[.int i,.int j]/\(-(2^62)<=i/\i<2^62/\-(2^62)<=j/\j<2^62)/\R (Itr i (j-i).toNat) H1
def b20{a:AU}{g:TA}{p b:Pos}(v:Gl X "range")(u:X.mg "range"=AD)(w:PA X [a] g)(o:Am [a] X.env=[(AF,eval a X.env)]:=by rfl):PI X tg (.Call (.Name "range" p) [a] [] b) (db0 g):=by
 intro c s k H R I h;apply JV (M4 I v u boot_range (BH (thn (w b c s k H _ I h) λz A d=>?_) o rfl));let{y,B,x,m,f}:=d;let{j,e,f,n,q}:=f;subst e;cases m with
 |cons r l=>
  cases l;let{t,rfl}:=r;show call_range_1 (bb7 x ⋯ ⋯ f n (by simpa using q))
def b27{a b:AU}{n:TA}{p c:Pos}(B:Gl X "range")(A:X.mg "range"=AD)(C:PA X [a,b] n)(z:Am [a,b] X.env=[(AF,eval a X.env),(AF,eval b X.env)]:=by rfl)(f:Am [b] X.env=[(AF,eval b X.env)]:=by rfl):
  PI X tg (.Call (.Name "range" p) [a,b] [] c) (dc4 n):=by
 intro d s o H R I h;apply JV (M4 I B A boot_range (BH (thn (C c d s o H _ I h) λF J k=>?_) (by rw[z,f]) (by rw[f];rfl)));let{E,K,D,u,m}:=k;let{i,j,e,{m,y,x,w},q}:=m;subst e;cases u with
 |cons r l=>
  cases l with
  |cons v l=>
   cases l;let{t,rfl}:=r;let{G,rfl}:=v;show call_range_2 (bb7 D m y x w q)
abbrev di1(wi:TI)(g:TG)(tb:TS):TS:=λD σ H=>wi σ H λJ H1=>∃W:Nat->Nat->St->Hp->Prop,(∃m,W 0 m σ H1)/\∀i m σ H,W i m σ H ->
 (J.stop i H/\D.nx σ H)\/(J.go i H/\∃N:St->Hp->Prop,(∀σ' H',N σ' H'->∃m',m'<m/\W (i+1) m' σ' H')/\∀x H',J.yld i H x H'->g x σ H' λσ2 H2=>tb {D with nx:=N,ct:=N,bk:=D.nx} σ2 H2)
abbrev aa3(fp:List AI)(h:Heap):List (AI×Obj):=fp.filterMap λb=>(h.get? b).map λo=>(b,o)
def ac2{h}{b}{o}(a:b∈fp)(e:h.get? b=AA o):(b,o)∈aa3 fp h:=Ig.mpr {b,a,by rw[e];rfl}
def b19{h}{p}(a:p∈aa3 fp h):p.1∈fp/\h.get? p.1=AA p.2:=by
 let{b,c,e}:=Ig.mp a;cases q:h.get? b with
 |none=>simp_all
 |some o=>
  rw[q]at e;have d:=Ay e;subst d;show⟨c,q⟩
def Inv.pinned(I:Inv X pins σ H s)(g:∀b∈fp,D5 X pins H b)(f:∀b∈fp,∃o,s.heap.get? b=AA o/\∀v,o.data≠.cell v):=
 I.pins_of λp c=>(BD.mp c).elim (λz=>I.pin p (BJ _ z)) λz=>by
  let{a,e}:=b19 z;let{k,j,i,_}:=g p.1 a;let{o,h,d}:=f p.1 a;rw[e]at h;simp_all
def Inv.unpinned{pl}(I:Inv X (pins++pl) σ H s):=I.pins_of λp a=>I.pin p (BJ _ (EF _ a))
def cw6{l:AU}{C:List BR}{wi:TI}{g:TG}{tb:TS}{V:Pos}(M:HV (model X.prog X.w) X.A X.env X.xe)(hc:X.calm=AC)(hi:PI X tg l wi)(hg:PG X tg g)(p:PSs X C tb)
  (hs:∀x,Dc l X.env x=pure x:=by intro _;rfl):PS X (.For tg l C [] V) (di1 wi g tb):=by
 intro c s σ H D I h;apply wpAny_For (thn (hi c s σ H _ I h) λv b d=>thn d λb d h2=>?_) hs;let{it,O,tn,J,H2,e,I2,T,S,f2,W,{m0,w0},F}:=h2;subst e;have k:∀{z:Hp},(∀b∈O,z b=AD)->∀b∈O,D5 X c z b:=λd b p=>{d b p,(f2 b p).2};apply codeAny_forLoop_any (λn s'=>∃i j z,Inv X c j z s'/\tn i s'.heap/\(∀b∈O,z b=AD)/\W i n j z) ?_ m0 {0,σ,H2,I2,S,λb p=>(f2 b p).1,w0};rintro n s3 ⟨i,σ3,H3,I3,st3,fr3,w3⟩
 rcases F i n σ3 H3 w3 with⟨G,qn⟩|⟨go,N,hN,K⟩
 ·apply Ck M (thn (T.done X rfl rfl rfl hc i c s3 σ3 H3 X.xe I3 (k fr3) st3 G) λr b⟨Y,I4⟩=>?_);subst Y;show Fa ⟨σ3,H3,I4,qn⟩
 ·apply Ck M (thn (T.item X rfl rfl rfl hc i c s3 σ3 H3 X.xe I3 (k fr3) st3 go) λr b⟨u,Y,h4⟩=>?_);subst Y;apply Ck M (thn h4 λ_ s5 R=>?_);let{x,H5,I5,r5,y5,E,Z}:=R;have I5':=I5.pinned (k Z) (T.obj _ _ E);apply Ck M (thn (hg _ s5 σ3 H5 x u _ I5' r5 (K x H5 y5)) λ_ s6 Q=>?_);let{P,H6,I6,q6}:=Q;apply Ck M (thn (p _ s6 P H6 _ I6 q6) λf U B=>?_);have q:∀{a:St}{y:Hp},Inv X (c++aa3 O s5.heap) a y U->N a y->∃m,m<n/\∃i j z,Inv X c j z U/\tn i U.heap/\(∀b∈O,z b=AD)/\W i m j z:=λ{a y}t L=>by
   let{m',hm,w7}:=hN a y L;apply{m',hm,i+1,a,y,t.unpinned,T.keep _ _ _ E λb p o e=>(t.pin (b,o) (BJ _ (BJ _ (ac2 p e)))).1,λb p=>?_,w7};let{o,e,d}:=T.obj _ _ E b p;show(t.pin (b,o) (BJ _ (BJ _ (ac2 p e)))).2.1
  cases f with
  |next=>let{a,y,t,L}:=B;show q t L
  |cont=>let{a,y,t,L}:=B;show q t L
  |brk=>let{a,y,t,B}:=B;show⟨a,y,t.unpinned,B⟩
  |ret v=>let{x7,a,y,t,r7,B}:=B;show⟨x7,a,y,t.unpinned,r7,B⟩
end
end
section
variable{op:Do}
@[reducible]noncomputable def R2:=V->V->Hp->VK->Prop
abbrev OpR(X:Cx)(f:AG->AG->Sem AG)(r:R2):Prop:=
 ∀(pins:List (AI×Obj))(s:AL)(σ:St)(H:Hp)(x y:V)(v u:AG)(Q:VK),Inv X pins σ H s->j7 x v->j7 y u->r x y H Q ->
  AW (model X.prog X.w) X.A (f v u) (EP X pins σ Q) X.xe s
abbrev UnR(X:Cx)(f:AG->Sem AG)(r:V->Hp->VK->Prop):Prop:=
 ∀(pins:List (AI×Obj))(s:AL)(σ:St)(H:Hp)(x:V)(v:AG)(Q:VK),Inv X pins σ H s->j7 x v->r x H Q ->
  AW (model X.prog X.w) X.A (f v) (EP X pins σ Q) X.xe s
abbrev G7(X:Cx)(f:AG)(r:List V->Hp->VK->Prop):Prop:=
 ∀(pins:List (AI×Obj))(s:AL)(σ:St)(H:Hp)(xs:List V)(us:List AG)(Q:VK),Inv X pins σ H s->i7 xs us->r xs H Q ->
  AW (model X.prog X.w) X.A (call f us) (EP X pins σ Q) X.xe s
abbrev tOp(r:R2)(ta tb:TE):TE:=λσ H Q=>ta σ H λx H1=>tb σ H1 λy H2=>r x y H2 Q
abbrev tUn(r:V->Hp->VK->Prop)(ta:TE):TE:=λσ H Q=>ta σ H λx H1=>r x H1 Q
abbrev rI(C:Int->Int->Prop)(g:Int->Int->V):R2:=λx y H Q=>∃i j,x=.int i/\y=.int j/\C i j/\Q (g i j) H
abbrev rI0(g:Int->Int->V):R2:=λx y H Q=>∃i j,x=.int i/\y=.int j/\Q (g i j) H
abbrev rU(g:Int->V):V->Hp->VK->Prop:=λx H Q=>∃i,x=.int i/\Q (g i) H
section
variable {X:Cx} {a b c:AU} {ta tb tc:TE} {pos:Pos}
def ax6(z:PE X a ta)(t:PE X b tb){pins}{s}{c:St}{H}{R:V->V->Hp->Prop}(I:Inv X pins c H s)
  (h:ta c H λx l=>tb c l λy d=>R x y d) {Q} {f:AG->AG->Sem AG}
  (r:∀v u i x y d,Inv X pins c d i->j7 x v->j7 y u->R x y d->AW (model X.prog X.w) X.A (f v u) Q X.xe i) :
  AW (model X.prog X.w) X.A (eval a X.env) (λv g=>AW (model X.prog X.w) X.A (eval b X.env) (λu e=>AW (model X.prog X.w) X.A (f v u) Q X.xe e) X.xe g) X.xe s:=by
 apply thn (z pins s c H _ I h) λv m k=>?_;let{x,l,C,o,q}:=k;apply thn (t pins m c l _ C q) λu i j=>?_;let{y,d,B,n,p}:=j;show r v u i x y d B o n p
def T8{op}{r}(f:OpR X (Cy op) r)(i:PE X a ta)(g:PE X b tb):PE X (.BinOp a op b pos) (tOp r ta tb):=(λc s d H Q I h=>wpAny_BinOp (ax6 i g I h λv u e x y k j=>f c e d k x y v u Q j))
def de7{op}{r}(g:UnR X (unaryOp op) r)(i:PE X a ta):PE X (.UnaryOp op a pos) (tUn r ta):=λb s c H Q I h=>UnaryOp_ (thn (i b s c H _ I h) λv d⟨x,k,j,e,f⟩=>g b d c k x v Q j e f)
def opI{f}{C}{g:Int->Int->Int}
  (a:∀i j(t u)s(Q)E,C i j->Q (.int (g i j) s.toks) {s with toks:=s.toks+1}->AW (model X.prog X.w) X.A (f (.int i t) (.int j u)) Q E s) :
  OpR X f (rI C λi j=>.int (g i j)):=by
 intro b s l H x y v u Q I e d h;let{i,j,rfl,rfl,k,q}:=h;let{t,rfl}:=e;let{c,rfl}:=d;show a i j t c s _ _ k {.int (g i j),H,I.tok _,⟨_,rfl⟩,q}
def br0{f}{g:Int->Int->Int}
  (a:∀i j(t u)s(Q)E,Q (.int (g i j) s.toks) {s with toks:=s.toks+1}->AW (model X.prog X.w) X.A (f (.int i t) (.int j u)) Q E s) :
  OpR X f (rI0 λi j=>.int (g i j)):=by
 intro b s k H x y v u Q I e d h;let{i,j,rfl,rfl,q}:=h;let{t,rfl}:=e;let{c,rfl}:=d;show a i j t c s _ _ {.int (g i j),H,I.tok _,⟨_,rfl⟩,q}
def ag2{f}{g:Int->Int->Bool}
  (a:∀i j(t u)s(Q)E,Q (.bool (g i j)) s->AW (model X.prog X.w) X.A (f (.int i t) (.int j u)) Q E s) :
  OpR X f (rI0 λi j=>.bl (g i j)):=by
 intro b s k H x y v u Q I e d h;let{i,j,rfl,rfl,q}:=h;let{t,rfl}:=e;let{c,rfl}:=d;show a i j t c s _ _ {.bl (g i j),H,I,rfl,q}
abbrev az2(i j:Int):Prop:=0<=j/\j<=1000000/\i.natAbs<2^64
abbrev ax7(i j:Int):Prop:=(-(2^64)<i/\i<2^64)\/(-(2^64)<j/\j<2^64)
def ax7.ok{i j}(h:ax7 i j):LS i j:=by
 rcases h with⟨b,a⟩|⟨b,a⟩
 ·show .of_left (intBits_le_64 b a)
 ·show .of_right (intBits_le_64 b a)
def cz4:OpR X (Cy .Add) (rI0 λi j=>.int (i+j)):=br0 λ_ _ _ _ _ _ _=>add_int
def c42:OpR X (Cy .Sub) (rI0 λi j=>.int (i-j)):=br0 λ_ _ _ _ _ _ _=>sub_int
def ct0:OpR X (Cy .Mod) (rI (λ_ j=>0<j) λi j=>.int (i % j)):=opI λi j _ _ _ _ _ a q=>by
 show mod_int' ⋯ (by rw[Int.fmod_eq_emod_of_nonneg i ⋯];show q)
def cs6:OpR X (Cy .Pow) (rI az2 λi j=>.int (i^j.toNat)):=opI λ_ _ _ _ _ _ _ a=>pow_int_small a.1 a.2.1 a.2.2
def unI{f}{g:Int->Int}
  (a:∀i(t)s(Q)E,Q (.int (g i) s.toks) {s with toks:=s.toks+1}->AW (model X.prog X.w) X.A (f (.int i t)) Q E s) :
  UnR X f (rU λi=>.int (g i)):=by
 intro b s d H x v Q I c h;let{i,rfl,q}:=h;let{t,rfl}:=c;show a i t s _ _ {.int (g i),H,I.tok _,⟨_,rfl⟩,q}
def ct2:UnR X (unaryOp .USub) (rU λi=>.int (-i)):=unI λ_ _ _ _ _=>neg_int
end
section
variable {X:Cx} {a b c:AU} {ta tb tc:TE} {pos:Pos}
def c98:OpR X (Bp .Lt) (rI0 λi j=>.bl (AB (i<j))):=ag2 λ_ _ _ _ _ _ _=>lt_int
def c61:OpR X (Bp .LtE) (rI0 λi j=>.bl (AB (i<=j))):=ag2 λ_ _ _ _ _ _ _=>le_int
def dc6:OpR X (Bp .Gt) (rI0 λi j=>.bl (AB (j<i))):=ag2 λ_ _ _ _ _ _ _=>gt_int
def dc9:OpR X (Bp .GtE) (rI0 λi j=>.bl (AB (j<=i))):=ag2 λ_ _ _ _ _ _ _=>ge_int
def OpR.or{f}{r r'}(h:OpR X f r)(e:OpR X f r'):OpR X f λx y H Q=>r x y H Q\/r' x y H Q:=by
 intro a s b H x y v u Q I d c q
 rcases q with q|q
 ·show h a s b H x y v u Q I d c q
 ·show e a s b H x y v u Q I d c q
def dn7(b:AU)(h:op≠.In:=by decide)(a:op≠.NotIn:=by decide):CK op b=AF:=by
 have d:(op==CmpOp.In)=AF:=by cases op<;>first|rfl|show absurd rfl h
 have c:(op==IG)=AF:=by cases op<;>first|rfl|show absurd rfl a
 cases b<;>simp[CK,d,c]
def ad4{r}(f:OpR X (Bp op) r)(j:PE X a ta)(i:PE X b tb)(g:CK op b=AF):PE X (.Compare a [op] [b] pos) (tOp r ta tb):=(λc s d H Q I h=>LR (ax6 j i I h λv u e x y l k=>f c e d l x y v u Q k) g)
abbrev db9(t:TE):TT:=λσ H Q=>t σ H λx H'=>∃k,x=.bl k/\Q k H'
def ad6{r:R2}(q:OpR X (Bp op) r)(A:PE X a ta)(w:PE X b tb)(t:CK op b=AF):PT X (.Compare a [op] [b] pos) (db9 (tOp r ta tb)):=by
 intro d s f H Q I h;apply JN (thn (A d s f H _ I h) λv i⟨x,G,D,m,p⟩=>thn (w d i f G _ D p) λu g⟨y,F,C,l,o⟩=>
  thn (q d g f F x y v u _ C m l o) λc J⟨z,E,B,j,k,e,n⟩=>?_) t
 subst e;cases j;show CB ⟨E,B,n⟩
def aa4:(sizeLine:Nat)<2^63:=by rw[Hg];decide
def ab6{x}{us}(r:i7 [x] us):∃u,us=[u]/\j7 x u:=by
 cases r with
 |cons c b=>cases b;show⟨_,rfl,c⟩
def bp2{x y}{us}(r:i7 [x,y] us):∃u b,us=[u,b]/\j7 x u/\j7 y b:=by
 cases r with
 |cons f e=>
  cases e with
  |cons d c=>cases c;show⟨_,_,rfl,f,d⟩
def bz6(d:X.calm=AC):G7 X (.builtin "max") λb H Q=>∃i j,b=[.int i,.int j]/\Q (.int (if j>i then j else i)) H:=by
 intro c s e H b g Q I r h;let{i,j,rfl,q}:=h;let{u,f,rfl,{t,rfl},{m,rfl}}:=bp2 r;apply max_two_ints (I.ok.hd d) λn l k=>{_,H,I.kept k,?_,q}
 by_cases a:j>i
 ·rw[if_pos a,if_pos a];show⟨_,rfl⟩
 ·rw[if_neg a,if_neg a];show⟨_,rfl⟩
def by7(d:X.calm=AC):G7 X (.builtin "min") λb H Q=>∃i j,b=[.int i,.int j]/\Q (.int (if j<i then j else i)) H:=by
 intro c s e H b g Q I r h;let{i,j,rfl,q}:=h;let{u,f,rfl,{t,rfl},{m,rfl}}:=bp2 r;apply min_two_ints (I.ok.hd d) λn l k=>{_,H,I.kept k,?_,q}
 by_cases a:j<i
 ·rw[if_pos a,if_pos a];show⟨_,rfl⟩
 ·rw[if_neg a,if_neg a];show⟨_,rfl⟩
def b32:G7 X (.type "int") λa H Q=>(∃i,a=[.int i]/\Q (.int i) H)\/∃k,a=[.bl k]/\Q (.int (if k then 1 else 0)) H:=by
 intro b s d H a e Q I r h
 rcases h with⟨i,rfl,q⟩|⟨k,rfl,q⟩
 ·let{u,rfl,t,rfl}:=ab6 r;show call_int_int {.int i,H,I,⟨_,rfl⟩,q}
 ·let{u,rfl,c}:=ab6 r;cases c;show call_int_bool {.int (if k then 1 else 0),H,I.tok _,⟨_,rfl⟩,q}
end
end
section
variable{h:Heap}{dx C:AI}{mA:Str->Option AG}{A:BW}{s:AL}{f:Str}{v:V}{Q:AG->AL->Prop}{u:AG}{H:Hp}{X:Cx}
structure ObjM(h:Heap)(x dx C:AI)(mA:Str->Option AG):Prop where
 obj:h.get? x=AA (EJ C dx)
 ns:h.Ns1 dx mA
 ne:dx≠x
def by9(n:h.Ns1 dx mA):∃d,h.get? dx=AA d/\∀b,Iy b d=AA (mA b):=by
 let{o,l,p,g,k,j,_,i}:=n;apply{o,g,λb=>?_};have e:=i b;unfold nsFind findBy at e;rw[<-Array.find?_toList]at e;unfold Iy;rw[k];dsimp only
 split
 ·simp_all
 ·rename_i q;rw[q]at e;have a:l.toList.any (·.refKey)=AF:=by
   rw[Gy];intro y f;let{z,t,c}:=j y (Array.mem_toList_iff.mp f);simp[DictEntry.refKey,c]
  have m:=a▸AJ
  rw[if_neg m];show congrArg AA e
def ObjM.look{x}(I:ObjM h x dx C mA):∃b,W.InstAt h x (EJ C dx) C (AA b)/\∀a,Iy a b=AA (mA a):=
 let⟨b,c,d⟩:=by9 I.ns
 {b,⟨I.obj,rfl,rfl,c⟩,d}
section
variable {prog:Al} {w:Aw} {E:AG->AL->Prop} {K:AO} {x f:AI} {name:Str} {v:AG}
def cl5{expr}(X:K.In s.heap)(I:ObjM s.heap x dx C mA)(e:GQ K C name=AC)(d:HR K C=AC)
  (f:Bc K (.ref C) name=AA AD) (b:mA name=AA v) (a:W.handedIn v=AC) (h:Q v {s with toks:=s.toks+1}) :
  AW (model prog w) A (getAttr (.ref x) name expr) Q E s:=by
 let{g,J,c}:=I.look;show W.get_value X J (IH e).1 (W.findObj_own d f rfl (by rw[c,b])) a h
def b44{pl}{Q}(X:K.In s.heap)(I:ObjM s.heap x dx C mA)(a:GQ K C name=AC)
  (g:Bc K (.ref C) name=AA (AA (.ref f))) (d:JW K (.ref f)=AC) (c:mA name=AD) (h:Q (.ref f,[.ref x]) s) :
  AW (model prog w) A (Kj (.ref x) name pl) Q E s:=by
 let{b,J,e}:=I.look;show W.method_fn X J (IH a).1 (IH a).2 g (beq_iff_eq.mp d) (by change(Iy name b).map (·.isSome)=AA AF;rw[e,c];rfl) h
def ce6{ns}{Q}(X:K.In s.heap)(I:ObjM s.heap x dx C mA)
  (n:Bc K (.ref C) "__setattr__"=AA (AA (.builtin "object.__setattr__"))) (o:Iz K C=AC) (l:Jy K C name=AA AD) (p:HR K C=AC)
  (k:PySem.Within mA ns) (m:ns.length<=sizeLine)
  (h:∀d,ObjM d x dx C (λy=>if y=name then AA v else mA y)->Heap.SameBut dx s.heap d->Q () {s with heap:=d,toks:=s.toks+2}) :
  AW (model prog w) A (setAttr (.ref x) name v) Q E s:=by
 let{u,J,B}:=I.look;apply W.set_plain X J n (W.osa_open X J o l λb=>?_);let{D,q,g}:=W.any_some p;have j:=I.obj;apply AE (AK (AE (AE (wpAny_loadPart j (AE (W.Looks.here (W.looks_clsIn X q) ?_))))));rw[g];apply AK (AE (AK (AE ?_)));apply wpAny_nsSet1 I.ns λd c a=>?_;let{z,r,t,e,f,i}:=c.count (PySem.Within.cons name v k);show AE (wpAny_lookBehind e ((f▸pastItsLine_dict (Ap i (by rw[AT];lia)))) (AK (h _ {(a.2 _ (Ax I.ne)).trans I.obj,c,I.ne} a)))
def b53{R}{vs}{kw}(X:K.In s.heap)(b:IR K C=AC)
  (c:Bc K (.ref C) "__init__"=AA (AA (.ref f))) (d:W.typeIn K (.ref f)=AA (.type "function"))
  (h:EL (model prog w) (A.under (.builtin "type.__call__" {.ref C::vs,kw})) (.call (.ref f) {.ref (s.heap.objs.size+1)::vs,kw}) (W.InitBack (s.heap.objs.size+1) R)
   {s with heap:=(s.heap.push Cs).push (EJ C s.heap.objs.size)}) :
  EL (model prog w) A (.call (.ref C) ⟨vs,kw⟩) R s:=by
 show W.make_core (W.makes_of X b) (W.looks_findIn X c) (λa=>W.bind_fn X a d) (.inl rfl) h
end
abbrev C7(f:Str)(v:V):List (Str×V)->List (Str×V)
 |[]=>[(f,v)]
 |(g,x)::r=>if g=f then(g,v)::r else(g,x)::C7 f v r
theorem a03 f g(v):∀c,(C7 f v c).lookup g=if g=f then AA v else c.lookup g
 |[]=>by
  change DJ g [(f,v)]=_
  by_cases h:g=f
  ·simp_all
  ·simp_all
 |(k,x)::r=>by
  have d:=a03 f g v r;rw[show C7 f v ((k,x)::r)=if k=f then(k,v)::r else(k,x)::C7 f v r from rfl]
  by_cases a:k=f
  ·rw[if_pos a]
   by_cases h:g=k
   ·simp_all
   ·have b:=beq_eq_false_iff_ne.mpr h;erw[DJ,b,if_neg λe:g=f=>h (e.trans a.symm)]
  ·rw[if_neg a]
   by_cases h:g=k
   ·simp_all
   ·have b:=beq_eq_false_iff_ne.mpr h;erw[DJ,b];show d
theorem ao4 f(v):∀a:List (Str×V),f∈(C7 f v a).map (·.1)/\∀g,g∈a.map (·.1)->g∈(C7 f v a).map (·.1)
 |[]=>{by simp[C7],λg h=>by simp at h}
 |(k,x)::r=>by
  let{c,b}:=ao4 f v r;rw[show C7 f v ((k,x)::r)=if k=f then(k,v)::r else(k,x)::C7 f v r from rfl]
  by_cases d:k=f
  ·simp_all
  ·rw[if_neg d];apply{?_,λg h=>?_}
   ·show Ae _ c
   ·rcases AM.mp h with e|e
    ·show mem_cons.mpr (.inl e)
    ·show Ae _ (b g e)
theorem a06 f(v):∀a,(C7 f v a).length<=a.length+1
 |[]=>by simp[C7]
 |(k,x)::r=>by
  have b:=a06 f v r;rw[show C7 f v ((k,x)::r)=if k=f then(k,v)::r else(k,x)::C7 f v r from rfl]
  by_cases c:k=f
  ·simp_all
  ·simp_all
def D7.some_of{o}(r:D7 (AA v) o):∃u,o=AA u/\j7 v u:=by
 cases o with
 |none=>show(r).elim
 |some u=>show⟨u,rfl,r⟩
def D7.none_of{o}(r:D7 AD o):o=AD:=by
 cases o with
 |none=>rfl
 |some u=>show(r).elim
def b30(r:j7 v u):W.handedIn u=AC:=by
 cases v with
 |non=>cases r;rfl
 |bl b=>cases r;rfl
 |int i=>let{t,e}:=r;cases e;rfl
 |str x=>let{t,e}:=r;cases e;rfl
 |byt b=>let{t,e}:=r;cases e;rfl
 |flt b=>let{t,e}:=r;cases e;rfl
 |ref a=>cases r;rfl
 |ty n=>cases r;rfl
section
variable {P:Al} {w:Aw} {H':Hp} {h':Heap} {a:AI} {fs fs':List (Str×V)}
def ad5(c:HOk P w H h)(e:H a=AA (.ins C dx fs)):∃b,ObjM h a dx C b/\(∀f,D7 (fs.lookup f) (b f))/\PySem.Within b (fs.map (·.1))/\fs.length<=1000/\H dx=AA (.own a):=by
 let{d,z,i,g,b,n,r,q}:=(c a _ e);show{b,⟨g,n,i⟩,r,q,z,d}
end
structure Cls(K:AO)(C:AI):Prop where
 pg:GQ K C Str.empty=AC
 hd:HR K C=AC
 po:Iz K C=AC
 sa:Bc K (.ref C) "__setattr__"=AA (AA (.builtin "object.__setattr__"))
def Cls.get{K:AO}(c:Cls K C)(f:Str):GQ K C f=AC:=c.pg
abbrev M6(K:AO)(C:AI)(f:Str):Prop:=Bc K (.ref C) f=AA AD
def M6.taker{K}(n:M6 K C f):Jy K C f=AA AD:=by
 unfold Jy;rw[n];rfl
structure Meth(K:AO)(C:AI)(m:Str)(f:AI):Prop where
 at_:Bc K (.ref C) m=AA (AA (.ref f))
 fn:JW K (.ref f)=AC
 kp:Bv K (.ref f)=AC
section
variable {pins:List (AI×Obj)} {σ:St} {a:AI} {fs:List (Str×V)} {E:AG->AL->Prop}
def bx1{b}(I:Inv X pins σ H s)(e:H a=AA (.ins C dx fs))(c:Cls X.K C)(n:M6 X.K C f)(l:fs.lookup f=AA v)
  (h:∀u d,Inv X pins σ H d->j7 v u->Q u d):AW (model X.prog X.w) A (getAttr (.ref a) f b) Q E s:=by
 let{j,O,r,_,_,_}:=ad5 I.hok e;let{u,i,g}:=D7.some_of (l▸r f);show cl5 I.kIn O (c.get f) c.hd n i (b30 g) (h u _ (I.tok _) g)
def an7{m}{g}{pl}{Q}(I:Inv X pins σ H s)(e:H a=AA (.ins C dx fs))(c:Cls X.K C)(k:Meth X.K C m g)(l:fs.lookup m=AD)
  (h:Q (.ref g,[.ref a]) s):AW (model X.prog X.w) A (Kj (.ref a) m pl) Q E s:=by
 let{d,O,r,_,_,_}:=ad5 I.hok e;have b:=D7.none_of (l▸r m);show b44 I.kIn O (c.get m) k.at_ k.fn b h
def by2{y:V}{Q:Unit->AL->Prop}(I:Inv X pins σ H s)(e:H a=AA (.ins C dx fs))(c:Cls X.K C)(n:M6 X.K C f)(J:fs.length<1000)(m:j7 y u)
  (h:∀j,Inv X pins σ (upd H a (.ins C dx (C7 f y fs))) j->Q () j):AW (model X.prog X.w) A (setAttr (.ref a) f u) Q E s:=by
 let{p,O,r,i,_,k}:=ad5 I.hok e;have t:(fs.map (·.1)).length<=sizeLine:=by rw[AX,Hg];lia
 apply ce6 I.kIn O c.sa c.po n.taker c.hd i t λF d l=>h _ ?_;have B:∃o,F.get? dx=AA o:=let⟨o,_,_,G,_⟩:=d.ns;⟨o,G⟩;apply I.write (x:=a) (e:=dx) (by rw[e];show Cb) (.inr k) (λb q D z=>(l.2 b D).trans z) B ?_;apply{by rw[l5 O.ne];show k,?_,O.ne,d.obj,_,d.ns,λg=>?_,λg v=>?_}
 ·have:=a06 f y fs;lia
 ·rw[a03]
  by_cases q:g=f
  ·rw[if_pos q,if_pos q];show m
  ·rw[if_neg q,if_neg q];show r g
 ·by_cases q:g=f
  ·rw[q];show(ao4 f y fs).1
  ·apply(ao4 f y fs).2 g (i g λz=>v ?_);change(if g=f then AA u else p g)=AD;rw[if_neg q];show z
def Inv.made(I:Inv X pins σ H s):Inv X pins σ (upd (upd H s.heap.objs.size (.own (s.heap.objs.size+1))) (s.heap.objs.size+1) (.ins C s.heap.objs.size []))
  {s with heap:=(s.heap.push Cs).push (EJ C s.heap.objs.size)}:=by
 have c:(s.heap.push Cs).get? s.heap.objs.size=AA Cs:=Aj s.heap rfl;have g:=by
  have:=Aj (s.heap.push Cs) (o:=EJ C s.heap.objs.size) rfl
  rwa [Cd]at this
 have f:(s.heap.push Cs).Ns s.heap.objs.size λ_=>AD:={Cs,#[],_,c,rfl,λe d=>absurd d ∎,λ_=>rfl};have h:=I.laid (o:=.own (s.heap.objs.size+1)) (t':=s.toks) (λb u=>AQ _) (AR _) ⟨_,c⟩;apply h.laid (λb u=>AQ _) (Kk (Cd _ _)) ?_;have a:s.heap.objs.size≠s.heap.objs.size+1:=BO (Gz _);apply{by rw[l5 a,v0],Av _,a,g,λ_=>AD,(Heap.Ns1.of_empty f).at λo=>AQ _,λ_=>Cb,λy=>absurd rfl}
def cj9{prog}{w}{env}{e}{pos}(b:Cn e f env (eval e env)=eval e env)
  (h:AW (model prog w) A (eval e env) (λo a=>AW (model prog w) A (getAttr o f AC) Q E a) E s):AW (model prog w) A (eval (.Attribute e f pos) env) Q E s:=
 Attribute_any_ h (by rw[arm_eval_Attribute,b])
end
abbrev dm3(K:AO)(ta:TE)(f:Str):TE:=λσ H Q=>ta σ H λx H1=>∃a C dx fs v,x=.ref a/\H1 a=AA (.ins C dx fs)/\Cls K C/\M6 K C f/\fs.lookup f=AA v/\Q v H1
abbrev dk5(K:AO)(ta tv:TE)(f:Str):TS:=λD σ H=>tv σ H λy H1=>ta σ H1 λx H2=>∃a C dx fs,x=.ref a/\H2 a=AA (.ins C dx fs)/\Cls K C/\M6 K C f/\fs.length<1000 /\
 D.nx σ (upd H2 a (.ins C dx (C7 f y fs)))
section
variable {o e value:AU} {pos pos' tpos:Pos} {ta tv:TE}
def cv2(k:PE X e ta)(m:Cn e f X.env (eval e X.env)=eval e X.env):PE X (.Attribute e f pos) (dm3 X.K ta f):=by
 intro b s g H Q I h;apply cj9 m (thn (k b s g H _ I h) λu A d=>?_);let{x,w,t,i,a,C,D,B,v,o,p,c,n,l,q}:=d;subst o;obtain rfl:u=At a:=i;show bx1 t p c n l λy z r j=>⟨v,w,r,j,q⟩
def c01(t:PE X o ta)(p:PE X value tv)(r:Cc value (AA (.Attribute o f pos')) pos.line X.env=pure AF):PS X (.Assign [.Attribute o f pos'] value pos) (dk5 X.K ta tv f):=by
 intro b s d H D I h;apply plainObj_wpAny_Assign_Attribute (thn (p b s d H _ I h) λu g⟨y,E,B,i,q⟩=>thn (t b g d E _ B q) λm G e=>?_) r;let{x,M,A,j,a,C,L,J,v,w,c,n,l,k}:=e;subst v;obtain rfl:m=At a:=j;show by2 A w c n l i λF z=>⟨d,_,z,k⟩
end
section
variable {pins:List (AI×Obj)} {σ:St} {E:AG->AL->Prop} {c:AG} {b:Bool}
inductive TyOf(K:AO)(H:Hp):V->AG->Prop where
 |non:TyOf K H .non (.type "NoneType")
 |bl (x:Bool):TyOf K H (.bl x) (.type "bool")
 |int (i:Int):TyOf K H (.int i) (.type "int")
 |str (x:Str):TyOf K H (.str x) (.type "str")
 |flt (x:UInt64):TyOf K H (.flt x) (.type "float")
 |lst {a:AI} {xs:List V} (e:H a=AA (.lst xs)):TyOf K H (.ref a) (.type "list")
 |frz {a:AI} {o:Obj} {xs:List V} (e:H a=AA (.frz o (.lst xs))):TyOf K H (.ref a) (.type "list")
 |tup {a:AI} {xs:List V} (e:H a=AA (.tup xs)):TyOf K H (.ref a) (.type "tuple")
 |dK {a:AI} {kvs:List (Key×V)} (e:H a=AA (.dK kvs)):TyOf K H (.ref a) (.type "dict")
 |dT {a:AI} {kvs:List (Ak×V)} (e:H a=AA (.dT kvs)):TyOf K H (.ref a) (.type "dict")
 |ins {a C dx:AI} {fs:List (Str×V)} (e:H a=AA (.ins C dx fs)) (cl:Cls K C) (ha:Bc K (.ref C) "__class__"=AA (AA (.builtin "object.__class__")))
   (hn:W.specialIn K (.builtin "object.__class__") "__get__"=AA (AA (.builtin "getset_descriptor.__get__"))) (htk:W.takesIn K (.builtin "object.__class__")=AA AC)
   (hm:W.mroIn K C (.type "object")=AA AC):TyOf K H (.ref a) (.ref C)
def a91{x}{t}(I:Inv X pins σ H s)(d:j7 x u)(v:TyOf X.K H x t)(e:Ct X.K t c=AA b)(h:∀B,Q (.bool b) {s with toks:=B}):
  AW (model X.prog X.w) A (call (.builtin "isinstance") [u,c]) Q E s:=by
 cases v with
 |non=>cases(show u=Bd from d);show Cj W.kitx_none I.kIn Cb e (λz=>nomatch z) h
 |bl y=>cases(show u=Dz y from d);show Cj W.kitx_bool I.kIn Cb e (λz=>nomatch z) h
 |int i=>let{t,q}:=(show ∃t,u=EX i t from d);cases q;show Cj W.kitx_int I.kIn Cb e (λz=>nomatch z) h
 |str y=>let{t,q}:=(show ∃t,u=EY y t from d);cases q;show Cj W.kitx_str I.kIn Cb e (λz=>nomatch z) h
 |flt y=>let{t,q}:=(show ∃t,u=ID y t from d);cases q;show Cj W.kitx_float I.kIn Cb e (λz=>nomatch z) h
 |@lst a k f=>
  cases(show u=At a from d);let{_,_,n,_,g}:=(show t4 X.prog X.w H s.heap a (.lst k) from I.hok a _ f);show Cj W.kitx_list I.kIn ⟨_,g,rfl⟩ e (λz=>nomatch z) h
 |@frz a F k f=>
  cases(show u=At a from d);let{_,_,_,n,_,g}:=(show t4 X.prog X.w H s.heap a (.frz F (.lst k)) from I.hok a _ f);show Cj W.kitx_list I.kIn ⟨_,g,rfl⟩ e (λz=>nomatch z) h
 |@tup a k f=>
  cases(show u=At a from d);let{_,_,_,p}:=(show t4 X.prog X.w H s.heap a (.tup k) from I.hok a _ f);let{o,g,l,_}:=p;show Cj LU I.kIn ⟨o,g,l⟩ e (λz=>nomatch z) h
 |@dK a j f=>
  cases(show u=At a from d);let{_,_,U,_,p}:=(show t4 X.prog X.w H s.heap a (.dK j) from I.hok a _ f);let{o,S,T,g,l,_}:=p;show Cj W.kitx_dict I.kIn ⟨o,g,l.1⟩ e (λz=>nomatch z) h
 |@dT a j f=>
  cases(show u=At a from d);let{_,_,k,_,o,S,T,g,l,_}:=(show t4 X.prog X.w H s.heap a (.dT j) from I.hok a _ f);show Cj W.kitx_dict I.kIn ⟨o,g,l.1⟩ e (λz=>nomatch z) h
 |@ins a C dx Z f r P M m N=>
  cases(show u=At a from d);let{Y,O,_}:=ad5 I.hok f;let{V,J,_}:=O.look;show Cj (W.kitx_own (r.get _) r.hd P M m N) I.kIn J e (λz=>nomatch z) h
end
end
section
variable{A:BW}{C:AI}{us:List AG}{X:Cx}{s:AL}{H:Hp}{pins:List (AI×Obj)}{σ:St}{Q:VK}{ps:List Str}{x:Str}{vs:List V}{kindOf:Str->Option Fy}
structure Room(k:Nat)(A:BW):Prop where
 hd:A.handled=AD
 dp:A.depth+3*k+5<II
 un:A.units+16*k+200<Bs
theorem Room.deeper{k}(r:Room (k+1) A)env:Room k (A.deeper env):=
 ⟨r.hd,by have:=r.dp;change A.depth+1+3*k+5<_;lia,by have:=r.un;change A.units+3+16*k+200<_;lia⟩
def bx0{kw}:(A.under (.builtin "type.__call__" {.ref C::us,kw})).depth=A.depth+1:=rfl
def bx6{kw}:(A.under (.builtin "type.__call__" {.ref C::us,kw})).units=A.units+1:=rfl
def Room.make{k:Nat}(r:Room (k+1) A)(C:AI)(a:List AG)(b:List (Str×AG)):Room k (A.under (.builtin "type.__call__" {.ref C::a,b})):=
 ⟨r.hd,by have:=r.dp;rw[bx0];lia,by have:=r.un;rw[bx6];lia⟩
theorem Room.depth{k}(r:Room k A):A.depth<II:=by have:=r.dp;lia
abbrev ay9:TA:=λ_ H Q=>Q [] H
abbrev av0(ta:TE)(tr:TA):TA:=λσ H Q=>ta σ H λx H1=>tr σ H1 λxs H2=>Q (x::xs) H2
section
variable {e:AU} {es:List AU} {te:TE} {t:TA} {pos:Pos}
def at3:PA X [] ay9:=λ_ _ _ _ H Q I h=>EK {[],H,I,.nil,h}
def Z8(o:PE X e te)(n:PA X es t)(m:Am (e::es) X.env=(AF,eval e X.env)::Am es X.env:=by rfl):PA X (e::es) (av0 te t):=by
 intro b a s d H Q I h;rw[m];change AW _ _ (spliced ((AF,eval e X.env)::CC b (Am es X.env))) _ _ s;apply DF (thn (o a s d H _ I h) λu g c=>?_);let{x,v,q,j,l}:=c;show thn (n b a g d v _ q l) λw y⟨f,r,p,i,k⟩=>{x::f,r,p,.cons j i,k}
abbrev dj0(t:TA):TE:=λσ H Q=>t σ H λxs H1=>xs.length<=sizeLine/\∀p,H1 p=AD->Q (.ref p) (upd H1 p (.tup xs))
abbrev dm6(t:TA):TE:=λσ H Q=>t σ H λxs H1=>xs.length<=sizeLine/\∀p,H1 p=AD->Q (.ref p) (upd H1 p (.lst xs))
def co2{x1}(h:PA X es t):PE X (.Tuple es x1 pos) (dj0 t):=by
 intro a s e H Q I i;apply wpAny_Tuple_spliced (thn (h pos a s e H _ I i) λg c⟨f,k,d,r,z,q⟩=>{r.length▸z,?_});have j:=d.hok.fresh (AR _);show {.ref c.heap.objs.size,upd k c.heap.objs.size (.tup f),d.laid (λb u=>AQ _) (AR _) {z,g,r,G2.new _ _},rfl,q _ j}
def co8(h:PA X es t):PE X (.List es pos) (dm6 t):=by
 intro a s e H Q I i;apply wpAny_List_spliced (thn (h pos a s e H _ I i) λg c⟨f,k,d,r,z,q⟩=>{r.length▸z,?_});have j:=d.hok.fresh (AR _);apply{.ref c.heap.objs.size,upd k c.heap.objs.size (.lst f),d.laid (λb u=>AQ _) (AR _) ?_,rfl,q _ j};show{z,g,0,r,Aj _ rfl}
end
@[reducible]noncomputable def Sp:=List V->Hp->VK->XK->Prop
@[reducible]noncomputable def CXT:=List Env->Hp->AL->XK->AG->AL->Prop
structure Env0(P:Al)(w:Aw)(K:AO)(mg:Str->Option AG)(base:Heap)(A:BW)(outer:List Env)(s:AL)(H:Hp):Prop where
 frames:A.frames=AA outer
 mod:Mod K mg base
 bs:∀b o,base.get? b=AA o->s.heap.get? b=AA o/\H b=AD
 bsz:base.objs.size<=s.heap.objs.size
 funs:s.heap.FunFrames base outer
 frf:∀b∈frs outer,H b=AD
 hok:HOk P w H s.heap
 bare:Gv s.gens
abbrev CE(outer:List Env)(P:Al)(w:Aw)(H:Hp)(s:AL)(Q:VK)(u:AG)(s':AL):Prop:=
 ∃v H',s'.os=s.os/\Gv s'.gens/\Un (frs outer) [] H H' s.heap s'.heap/\HOk P w H' s'.heap/\j7 v u/\Q v H'
abbrev CR(CX:CXT)(outer:List Env)(P:Al)(w:Aw)(H:Hp)(s:AL)(Q:VK)(E:XK)(r:JA)(s':AL):Prop:=
 match r with
 |.ok (.ret u)=>CE outer P w H s Q u s'
 |.ok _=>False
 |.error e=>CX outer H s E e s'
structure FnOk(P:Al)(w:Aw)(K:AO)(mg:Str->Option AG)(base:Heap)(CX:CXT)(k:Nat)(f:AI)(fd:Bl)(ps:List Str)(sp:Sp):Prop where
 len:∀vs H Q E,sp vs H Q E->vs.length=ps.length
 run:∀(A:BW)(outer:List Env)(s:AL)(H:Hp)(args:Args)(us:List AG)(vs:List V)(Q:VK)(E:XK),Room k A->Env0 P w K mg base A outer s H->HA s fd args (ps.zip us)->i7 vs us->sp vs H Q E ->
  EL (model P w) A (.call (.ref f) args) (CR CX outer P w H s Q E) s
def Env0.make{P}{w}{K}{mg}{base}{outer}(e:Env0 P w K mg base A outer s H)C(a:List AG)kw:
  Env0 P w K mg base (A.under (.builtin "type.__call__" {.ref C::a,kw})) outer s H:={by first|show e.frames|nofun,e.mod,e.bs,e.bsz,e.funs,e.frf,e.hok,e.bare}
section
variable {s':AL}
def Inv.env0(I:Inv X pins σ H s):Env0 X.prog X.w X.K X.mg X.base X.A X.stack s H:=
 {I.ok.frames,I.ok.mod,I.bs,Ap I.ok.bsz I.sz,I.stack,I.stkFree,I.hok,I.bare}
def Inv.after{u}(I:Inv X pins σ H s)(h:CE X.stack X.prog X.w H s Q u s'):EP X pins σ Q u s':=by
 let{v,j,i,a,f,e,r,q}:=h;let{k,g,d,t,c}:=s';obtain rfl:c=s.os:=i;show{v,j,I.call f e a λb z=>absurd z ∎,r,q}
end
abbrev da2(sp:Sp)(dvs:List V)(E:XK)(t:TA):TE:=λσ H Q=>t σ H λvs H1=>sp (vs++dvs) H1 Q E
abbrev bq5(C:AI)(sp:Sp)(dvs:List V)(E:XK)(t:TA):TE:=λσ H Q=>t σ H λvs H1=>∀x dx,H1 x=AD->H1 dx=AD->dx≠x ->
 sp (.ref x::(vs++dvs)) (upd (upd H1 dx (.own x)) x (.ins C dx [])) (λv H2=>v=.non/\Q (.ref x) H2) E
abbrev v6(K:AO)(fd:Bl)(ps:List Str)(ds:List AG):Prop:=
 ∀(s:AL)(us:List AG),K.In s.heap->(us++ds).length=ps.length->HA s fd {us,[]} (ps.zip (us++ds))
def v6.all{K}{fd}(h:∀a,a.length=ps.length->EA fd {a,[]}=pure (ps.zip a)):v6 K fd ps []:=λs a _ b=>by
 rw[BF]at b ⊢;show .of_eq (h a b)
abbrev V9(CX:CXT)(X:Cx)(E:XK):Prop:=∀(pins:List (AI×Obj))(σ:St)(H:Hp)(s:AL)(e:AG)(s':AL),Inv X pins σ H s->CX X.stack H s E e s'->X.xe e s'
section
variable {CX:CXT} {k:Nat} {f:AI} {fd:Bl} {sp:Sp} {dvs:List V} {ds:List AG} {E:XK} {m:Str} {p pos apos:Pos} {e o:AU} {es:List AU} {ta:TE} {t:TA}
def T1(F:FnOk X.prog X.w X.K X.mg X.base CX k f fd ps sp)(l:Room k X.A)(o:v6 X.K fd ps ds)(n:i7 dvs ds)(j:V9 CX X E)
  (I:Inv X pins σ H s) (r:i7 vs us) (h:sp (vs++dvs) H Q E):AW (model X.prog X.w) X.A (call (.ref f) us) (EP X pins σ Q) X.xe s:=by
 have c:=r.append n;have m:(us++ds).length=ps.length:=(c.length▸F.len _ _ _ _ h)
 apply wpAny_call (HB (F.run X.A X.stack s H {us,[]} (us++ds) (vs++dvs) Q E l I.env0 (o s us I.kIn m) c h) λr g a=>?_);cases r with
 |error e=>show j pins σ H s e g I a
 |ok p=>
  cases p with
  |ret u=>show I.after a
  |next=>show AV a
  |brk=>show AV a
  |cont=>show AV a
def ck9(F:FnOk X.prog X.w X.K X.mg X.base CX k f fd ps sp)(j:Room k X.A)(n:Gl X x)(l:X.mg x=AA (.ref f))(m:Bv X.K (.ref f)=AC)(v:v6 X.K fd ps ds)(u:i7 dvs ds)(i:V9 CX X E)
  (y:PA X (e::es) t) (c:(x==("__debug__":Str))=AF:=by decide) (o:Am (e::es) X.env=(AF,eval e X.env)::Am es X.env:=by rfl) (b:(CC pos (Am es X.env)).any (·.1)=AF:=by rfl) :
  PE X (.Call (.Name x p) (e::es) [] pos) (da2 sp dvs E t):=by
 intro a s g H Q I h;apply CN (V5 I n l ?_ c);apply EG (h₀:=X.base) I.ok.mod.kin m (thn (y pos a s g H _ I h) λB C⟨z,D,d,r,q⟩=>{d.kIn,?_}) o b;show T1 F j v u i d r q
structure Mk(K:AO)(C f:AI):Prop where
 makes:IR K C=AC
 init:Bc K (.ref C) "__init__"=AA (AA (.ref f))
 fn:JW K (.ref f)=AC
 kp:Bv K (.ref C)=AC
def be6(M:Mk X.K C f)(F:FnOk X.prog X.w X.K X.mg X.base CX k f fd ps sp)(q:Room (k+1) X.A)(z:v6 X.K fd ps ds)(y:i7 dvs ds)
  (p:V9 CX X E) (I:Inv X pins σ H s) (r:i7 vs us)
  (h:∀x b,H x=AD->H b=AD->b≠x->sp (.ref x::(vs++dvs)) (upd (upd H b (.own x)) x (.ins C b [])) (λv L=>v=.non/\Q (.ref x) L) E) :
  AW (model X.prog X.w) X.A (call (.ref C) us) (EP X pins σ Q) X.xe s:=by
 have i:=h (s.heap.objs.size+1) s.heap.objs.size (I.hok.fresh (JB _)) (I.hok.fresh (AR _)) (BO (Gz _));have c:=Inv.made (C:=C) I;have g:i7 (V.ref (s.heap.objs.size+1)::(vs++dvs)) (At (s.heap.objs.size+1)::(us++ds)):=.cons rfl (r.append y);have t:=by
  have e:=g.length;rw[F.len _ _ _ _ i]at e;show e.symm
 apply wpAny_call (b53 I.kIn M.makes M.init (beq_iff_eq.mp M.fn) (HB (F.run _ X.stack _ _ {At (s.heap.objs.size+1)::us,[]} (At (s.heap.objs.size+1)::(us++ds)) _ _ E (q.make C us [])
  (c.env0.make C us []) (z _ (At (s.heap.objs.size+1)::us) c.kIn t) g i) λr l a=>?_))
 cases r with
 |error e=>show p pins σ _ _ e l c a
 |ok B=>
  cases B with
  |ret u=>
   let{v,N,J,m,D,o}:=c.after a;subst D;show{m,{V.ref (s.heap.objs.size+1),N,J,rfl,o}}
  |next=>show AV a
  |brk=>show AV a
  |cont=>show AV a
def cf6(M:Mk X.K C f)(F:FnOk X.prog X.w X.K X.mg X.base CX k f fd ps sp)(j:Room (k+1) X.A)(m:Gl X x)(l:X.mg x=AA (.ref C))(u:v6 X.K fd ps ds)(o:i7 dvs ds)(i:V9 CX X E)
  (v:PA X (e::es) t) (c:(x==("__debug__":Str))=AF:=by decide) (n:Am (e::es) X.env=(AF,eval e X.env)::Am es X.env:=by rfl) (b:(CC pos (Am es X.env)).any (·.1)=AF:=by rfl) :
  PE X (.Call (.Name x p) (e::es) [] pos) (bq5 C sp dvs E t):=by
 intro a s g H Q I h;apply CN (V5 I m l ?_ c);apply EG (h₀:=X.base) I.ok.mod.kin M.kp (thn (v pos a s g H _ I h) λz B⟨y,D,d,r,q⟩=>{d.kIn,?_}) n b;show be6 M F j u o i d r q
def b47(M:Mk X.K C f)(F:FnOk X.prog X.w X.K X.mg X.base CX k f fd ps sp)(d:Room (k+1) X.A)(g:Gl X x)(e:X.mg x=AA (.ref C))(j:v6 X.K fd ps ds)(i:i7 dvs ds)(c:V9 CX X E)
  (a:(x==("__debug__":Str))=AF:=by decide):PE X (.Call (.Name x p) [] [] pos) (bq5 C sp dvs E ay9):=by
 intro b s l H Q I h;apply CN (V5 I g e ?_ a);show LB I.kIn M.kp (be6 (us:=[]) M F d j i c I .nil h)
end
structure FnScope(N P:List Str)(sc:BL):Prop where
 kind:sc.kind=.function
 co:sc.isCoroutine=AF
 gen:sc.isGenerator=AF
 nd:N.Nodup
 pre:N.take P.length=P
 par:∀x∈P,sc.names.lookup x=AA .local\/sc.names.lookup x=AA .cell
 nofree:∀y∈sc.names,y.2≠.free
theorem a90:∀{a}{m},(∀v,(x,v)∉a)->Ih kindOf a m x=m x
 |[],_,_=>rfl
 |(n,v)::r,m,h=>by
  unfold Ih;rw[a90 λw b=>h w (Ae _ b)]
  split
  ·have:x≠n:=by rintro rfl;show h v Bu
   simp[this]
  ·rfl
theorem bb3:∀{a}{m},(∀v,(x,v)∉a)->Ii kindOf a m x=m x
 |[],_,_=>rfl
 |(n,v)::r,m,h=>by
  unfold Ii;rw[bb3 λw b=>h w (Ae _ b)]
  split
  ·rfl
  ·have:x≠n:=by rintro rfl;show h v Bu
   simp[this]
theorem ba6{v}:∀{P:List Str}{a}{i:Nat}{m},P.Nodup->P[i]?=AA x->a[i]?=AA v->kindOf x=AA .local ->
  Ih kindOf (P.zip a) m x=AA v
 |[],_,_,_,_,h,_,_=>by simp at h
 |_::_,[],_,_,_,_,h,_=>by simp at h
 |p::P,w::a,0,m,d,c,b,e=>by
  simp at c b;subst c;subst b;change Ih kindOf ((p,w)::P.zip a) m p=_;unfold Ih;rw[a90 λv f=>(BP.mp d).1 (FT f).1,if_pos e];simp
 |p::P,w::a,i+1,m,d,c,b,e=>by
  unfold Ih;show ba6 (BP.mp d).2 (by simpa using c) (by simpa using b) e
theorem a99{v}:∀{P:List Str}{a}{i:Nat}{m},P.Nodup->P[i]?=AA x->a[i]?=AA v->kindOf x≠AA .local ->
  Ii kindOf (P.zip a) m x=AA v
 |[],_,_,_,_,h,_,_=>by simp at h
 |_::_,[],_,_,_,_,h,_=>by simp at h
 |p::P,w::a,0,m,d,c,b,e=>by
  simp at c b;subst c;subst b;change Ii kindOf ((p,w)::P.zip a) m p=_;unfold Ii;rw[bb3 λv f=>(BP.mp d).1 (FT f).1,if_neg e];simp
 |p::P,w::a,i+1,m,d,c,b,e=>by
  unfold Ii;show a99 (BP.mp d).2 (by simpa using c) (by simpa using b) e
abbrev D3(N:List Str)(vs:List V):St:=vs.map AA++Ab (N.length-vs.length) AD
abbrev ag3(CX:CXT)(P:Al)(w:Aw)(K:AO)(mg:Str->Option AG)(base:Heap)(N:List Str)(qual:Str)(scope:BL)(f:AI)(cd:AG)(A:BW)(outer:List Env)(s:AL)(H:Hp)(E:XK):Cx where
 prog:=P
 w:=w
 K:=K
 mg:=mg
 base:=base
 A:=A.deeper (HW qual scope s.heap.objs.size f cd)
 N:=N
 s₀:=s
 H₀:=H
 env:=HW qual scope s.heap.objs.size f cd
 outer:=outer
 stack:=HW qual scope s.heap.objs.size f cd::outer
 ex:=[]
 calm:=AC
 fn:=λ_=>AC
 pn:=[]
 xe:=λe s'=>AW (model P w) (A.deeper (HW qual scope s.heap.objs.size f cd)) (leaving (HW qual scope s.heap.objs.size f cd) e) (λ_ s''=>CX outer H s E e s'') (λe' s''=>CX outer H s E e' s'') s'
def bc9{a:BL}{n}(h:a.names.lookup x=AA .cell):∃c,(Km n a.names []).lookup x=AA c:=(have q:=Jz a.names n [] (.inl h);BU.mp q)
def b06{Q:CXT}{P:Al}{w:Aw}{K:AO}{J:Str->Option AG}{m:Heap}{N:List Str}{j:Str}{d:BL}{f:AI}{I:AG}{g:List Env}{L:AL}{E:XK}
  (S:FnScope N ps d) (U:A.handled=AD) (o:Env0 P w K J m A g s H) (X:vs.length=ps.length) (r:i7 vs us)
  (x:InCallC s s.heap.objs.size (Ih (HW j d s.heap.objs.size f I).kindOf (ps.zip us) λ_=>AD) (Km (s.heap.objs.size+1) d.names []) (Ii (HW j d s.heap.objs.size f I).kindOf (ps.zip us) λ_=>AD) L) :
  Inv (ag3 Q P w K J m N j d f I A g s H E) [] (D3 N vs) H L:=by
 have T:ps.length<=N.length:=by have:=congrArg BI S.pre;rw[By]at this;lia
 let{G,W,rfl,O}:=x.done;have t:∀ b:AI,b ∉ (ag3 Q P w K J m N j d f I A g s H E).ex:=λb z=>absurd (show b ∈ ([]:List AI) from z) ∎;apply {{o.mod,S.kind,rfl,rfl,AR _,λy z c G l=>?_,λy C=>?_,λy c _ h=>?_,λ_=>U,Hv o.frames,.inr ⟨rfl,rfl⟩,λb z=>absurd z (t b),o.bs,o.bsz,λb _ _=>t b,λb z=>absurd z (t b),o.funs,o.frf},
  rfl,o.bare,Un.kept O,{_,x.toInCall.ns,λi y v G l Y=>?_},λy c h=>{_,x.cell y c h},o.hok.fresh (AR _),λy c h=>?_,λp D=>absurd (show p ∈ ([]:List (AI × Obj)) from D) ∎,o.hok.kept O,?_}
 ·show name_of_addr x.apart (PySem.mem_of_lookup G) (PySem.mem_of_lookup l)
 ·rcases C with C|C
  ·show bc9 C
  ·show absurd rfl (S.nofree _ (PySem.mem_of_lookup C))
 ·show Gw (x.above y c (PySem.mem_of_lookup h))
 ·have F:i<vs.length:=by
   unfold D3 at l
   by_cases F:i<vs.length
   ·show F
   ·rw[Ai (by simpa using F)]at l;rw[DU]at l
    split at l<;>cases l
  have V:vs[i]?=AA v:=by
   unfold D3 at l;rw[AZ (by simpa using F),AY]at l;cases e:vs[i]? with
   |none=>rw[e]at l;cases l
   |some a=>rw[e]at l;cases l;rfl
  let{u,M,R}:=r.get V;have D:ps[i]?=AA y:=by
   rw[<-S.pre,Hi ⋯];show G
  have B:ps.Nodup:=by rw[<-S.pre];show S.nd.sublist (GI _ _)
  apply{u,R,?_}
  rcases S.par y (BE D)with k|k
  ·show .inl {k,ba6 B D M k}
  ·let{c,e}:=bc9 (n:=s.heap.objs.size+1) k;apply .inr {.inl k,c,e,?_};have q:=x.cell y c e;rw[a99 B D M (by change d.names.lookup y≠_;rw[k];decide)]at q;show q
 ·show .inl (o.hok.fresh (Gw (x.above y c (PySem.mem_of_lookup h))))
 ·unfold D3;change _=N.length;rw[Af,AX,DG];lia
end
section
variable {X:Cx} {x:Str} {p pos:Pos} {e:AU} {es:List AU} {t:TA} {id T:String} {r:List V->Hp->VK->Prop}
abbrev tCB(r:List V->Hp->VK->Prop)(t:TA):TE:=λσ H Q=>t σ H λvs H1=>r vs H1 Q
def Z4(u:G7 X (.builtin id) r)(o:Gl X x)(n:X.mg x=AD)(l:BK x=AA (.builtin id))(v:PA X (e::es) t)(m:x≠"__name__":=by decide)(c:(x==("__debug__":Str))=AF:=by decide)
  (q:Am (e::es) X.env=(AF,eval e X.env)::Am es X.env:=by rfl) (b:(CC pos (Am es X.env)).any (·.1)=AF:=by rfl):PE X (.Call (.Name x p) (e::es) [] pos) (tCB r t):=by
 intro a s d H Q I h;apply CN (M4 I o n l ?_ m c);show LC (thn (v pos a s d H _ I h) λg i⟨f,y,w,j,k⟩=>u a i d y f g Q w j k) q b
def b34(u:G7 X (.type T) r)(o:Gl X x)(n:X.mg x=AD)(l:BK x=AA (.type T))(v:PA X (e::es) t)(m:x≠"__name__":=by decide)(c:(x==("__debug__":Str))=AF:=by decide)
  (q:Am (e::es) X.env=(AF,eval e X.env)::Am es X.env:=by rfl) (b:(CC pos (Am es X.env)).any (·.1)=AF:=by rfl):PE X (.Call (.Name x p) (e::es) [] pos) (tCB r t):=by
 intro a s d H Q I h;apply CN (M4 I o n l ?_ m c);show BH (thn (v pos a s d H _ I h) λg i⟨f,y,w,j,k⟩=>u a i d y f g Q w j k) q b
end
end L2
namespace HT
open PySem PyProof.Rows
section
open PySem.SeqAt
open PySem.AutoSeq1 (wpAny_loadPart')
open PySem.MeetsSeq PySem.MeetsSeq2 PySem.MeetsSeq3
end
section
variable {prog:Al} {w:Aw} {A:BW} {E:AG->AL->Prop} {s:AL}
def cat_tup{t b}{vs ws}{Q}(u:IE s.heap t vs.toArray)(y:IE s.heap b ws.toArray)(o:vs≠[])
  (B:ws=[]->Q (.ref t) s) (z:ws≠[]->Q (.ref s.heap.objs.size) {s with heap:=s.heap.push {cls:=.type "tuple",data:=.seq (vs++ws).toArray}})
  (h:vs.length+ws.length<=sizeLine):AW (model prog w) A (Cy .Add (.ref t) (.ref b)) Q E s:=by
 let{{C,p,q,l},f,x,n,v}:=id u;let{{r,d,k,c},a,j,m,i}:=id y;subst x v j i;have e:vs.toArray++ws.toArray=(vs++ws).toArray:=by simp
 by_cases g:ws=[]
 ·show JC ⟨_,f,rfl⟩ ⟨_,a,rfl⟩ HX IW PySem.F.slot_tuple_add PySem.F.entry_tuple_add (PySem.F.args_tuple_add_2 _ _)
   (tuple_addW1 t b vs.toArray ws.toArray n m p d l c (by simpa using o) (by simp[g])) {f,a,B g}
 ·apply JC ⟨_,f,rfl⟩ ⟨_,a,rfl⟩ HX IW PySem.F.slot_tuple_add PySem.F.entry_tuple_add (PySem.F.args_tuple_add_2 _ _)
   (tuple_addW2 t b vs.toArray ws.toArray n m p d l c (by simpa using o) (by simp_all) (by show h)) {f,a,?_}
  rw[e];show z g
abbrev sIx(n d:Nat):Option Int->Nat
 |none=>d
 |some v=>if v<0 then(v+(n:Int)).toNat else min v.toNat n
def bk4 n d(b:d<=n)o:sIx n d o<=n:=by
 cases o with
 |none=>show b
 |some v=>
  change(if v<0 then(v+n).toNat else min v.toNat n)<=n
  by_cases a:v<0
  ·rw[if_pos a];lia
  ·rw[if_neg a];show HC _ _
def bh8(v:Int)(n d:Nat):(if v<0 then max (v+n) 0 else min v n)=sIx n d (AA v):=by
 change(if v<0 then max (v+n) 0 else min v n)=if v<0 then(v+n).toNat else min v.toNat n
 ·grind
def by6 lo hi(n:Nat):Dd lo hi 1 n=((sIx n 0 lo:Int),(sIx n n hi:Int)):=by
 apply Prod.ext ?_ ?_
 ·cases lo with
  |none=>rfl
  |some v=>show bh8 v n 0
 ·cases hi with
  |none=>rfl
  |some v=>show bh8 v n n
def bx5(i j:Nat):Cg i j 1=j-i:=by
 unfold Cg;simp
 split<;>lia
def a78{v}{o}{Q}(p:GA v o)(h:Q o s):AW (model prog w) A (Ko v) Q E s:=by
 cases p with
 |none=>show LV h
 |int i t=>show slicePart_int h
def az4{sl}{vl vu}{a d}{n:Nat}{Q}(j:s.heap.IsSliceOf sl vl vu .none)(i:GA vl a)(g:GA vu d)
  (h:Q ((sIx n 0 a),1,sIx n n d-sIx n 0 a) s):AW (model prog w) A (Fi (.ref sl) (pure n)) Q E s:=by
 let{m,c,k,e}:=id j;apply AE (AE (BS c e (x:=vl) rfl (AE (BS c e (x:=vu) rfl (AE (BS c e rfl (AK ?_)))))));apply AE (LV ?_);apply AE (a78 i (AE (a78 g (AE (AK ?_)))));change AW _ _ (match Dd a d 1 n with|(a,d)=>pure (a,(1:Int),Cg a d 1)) _ _ s;rw[by6 a d n];change AW _ _ (pure ((sIx n 0 a:Int),1,Cg (sIx n 0 a) (sIx n n d) 1)) _ _ s;rw[bx5];show AK h
def b77(a:Array AG)(i k:Nat):((CZ k).filterMap λ(m:Nat)=>a[((i:Int)+m*1).toNat]?).toArray=((a.toList.drop i).take k).toArray:=by
 have e:(λ(m:Nat)=>a[(i+(m:Int)*1).toNat]?)=λm=>a[i+m]?:=by
  funext m
  have:((i:Int)+m*1).toNat=i+m:=by lia
  rw[this]
 rw[e];have:=pick_run a i k;rw[List.filterMap_map]at this;have b:((λx=>a[x]?)∘λx=>i+x)=λm=>a[i+m]?:=rfl;rw[b]at this;rw[this]
def getItem_tuple_cut{t sl}{items}{vl vu}{lo hi}{Q}(b:IE s.heap t items)(g:s.heap.IsSliceOf sl vl vu .none)(j:GA vl lo)(i:GA vu hi)
  (l:¬(sIx items.size 0 lo=0/\sIx items.size items.size hi=items.size))
  (h:Q (.ref s.heap.objs.size) {s with heap:=s.heap.push {cls:=.type "tuple",data:=.seq ((items.toList.drop (sIx items.size 0 lo)).take (sIx items.size items.size hi-sIx items.size 0 lo)).toArray}})
  (m:items.size<=sizeLine):AW (model prog w) A (Du (.ref t) (.ref sl)) Q E s:=by
 have a:=by
  change((items.toList.drop (sIx items.size 0 lo)).take (sIx items.size items.size hi-sIx items.size 0 lo)).toArray.size<=sizeLine;rw[Aa,By,Bz,FQ];lia
 let{k,c,e,n}:=id g;have f:s.TypeIs (.ref sl) "slice":=⟨k,c,e⟩;unfold Du
 try with_reducible apply BQ ?_
 apply AE (HD b.typeIs ∅ ?_);apply AE (Bb b.typeIs BV
  (BX BV b.typeIs Jm ?_ (KB _ _)))
 change AW _ _ (Da (.ref t)>>=_) _ _ s;apply AE (tupleItemsOf_ b ?_);apply AE (FU f ?_);apply AE (az4 g j i ?_);have d:¬((((sIx items.size 0 lo):Int)==0&&(1:Int)==1&&(sIx items.size items.size hi-sIx items.size 0 lo)==items.size)=AC):=by
  intro q;show l {⋯,⋯}
 change AW _ _ (if((sIx items.size 0 lo:Int)==0&&1==1&&(sIx items.size items.size hi-sIx items.size 0 lo)==items.size)=AC then _ else _) _ _ s;rw[if_neg d,b77]
 first
  |show AE (Ba (AK {_,rfl,AK h}) a)
  |simp_all
  |nofun
  |grind
end
end HT
namespace L2
open PySem PySem.Spec PyProof.Rows
section
@[reducible]noncomputable def TO:=St->Hp->(Option Int->Hp->Prop)->Prop
abbrev PO(X:Cx)(e:Option AU)(t:TO):Prop:=
 ∀(pins:List (AI×Obj))(s:AL)(σ:St)(H:Hp)(Q:Option Int->Hp->Prop),Inv X pins σ H s->t σ H Q ->
  AW (model X.prog X.w) X.A (evalPart e X.env) (λu s'=>∃o H',Inv X pins σ H' s'/\GA u o/\Q o H') X.xe s
abbrev ck1:TO:=λ_ H Q=>Q AD H
abbrev df9(t:TE):TO:=λσ H Q=>t σ H λx H1=>∃i,x=.int i/\Q (AA i) H1
section
variable {X:Cx} {e:AU} {te:TE} {lo hi:Option AU} {tl th:TO} {pos p2:Pos}
def cn9:PO X AD ck1:=by
 intro a s b H Q I h;show AK {AD,H,I,.none,h}
def cj4(h:PE X e te):PO X (AA e) (df9 te):=by
 intro a s c H Q I g;apply thn (h a s c H _ I g) λu l b=>?_;let{x,k,j,d,f}:=b;let{i,rfl,q}:=f;let{t,rfl}:=d;show{AA i,k,j,.int i t,q}
abbrev SlR(X:Cx)(r:V->Option Int->Option Int->Hp->VK->Prop):Prop:=
 ∀(pins:List (AI×Obj))(s:AL)(σ:St)(H:Hp)(x:V)(v vl vu:AG)(lo hi:Option Int)(sl:AI)(Q:VK),Inv X pins σ H s->j7 x v->s.heap.IsSliceOf sl vl vu .none->GA vl lo->GA vu hi->r x lo hi H Q ->
  ∃T id,Gj (.type T) "__getitem__"=pure (AA (.builtin id))/\s.TypeIs v T/\AW (model X.prog X.w) X.A (Du v (.ref sl)) (EP X pins σ Q) X.xe s
def SlR.or{r r'}(h:SlR X r)(m:SlR X r'):SlR X λx b c H Q=>r x b c H Q\/r' x b c H Q:=by
 intro a s d H x v f e b c g Q I i l k j q
 rcases q with q|q
 ·show h a s d H x v f e b c g Q I i l k j q
 ·show m a s d H x v f e b c g Q I i l k j q
abbrev tSl(r:V->Option Int->Option Int->Hp->VK->Prop)(te:TE)(tl th:TO):TE:=λσ H Q=>te σ H λx H1=>tl σ H1 λl H2=>th σ H2 λu H3=>r x l u H3 Q
def bc1{r}(B:SlR X r)(E:PE X e te)(C:PO X lo tl)(z:PO X hi th):PE X (.Subscript e (.Slice lo hi AD p2) pos) (tSl r te tl th):=by
 intro a s c H Q I h;apply IJ (thn (E a s c H _ I h) λv n g=>?_);let{x,N,L,o,t}:=g;apply wpAny_Slice (thn (C a n c N _ L t) λj m⟨l,M,K,y,q⟩=>thn (z a m c M _ K q) λi d f=>?_);let{u,k,J,w,p}:=f;apply AK ?_;have G:Inv X a c k {d with heap:=d.heap.push {cls:=.type "slice",data:=.fields #[j,i,.none]}}:=J.kept λb O=>AQ _;let{T,P,F,A,D}:=B a {d with heap:=d.heap.push {cls:=.type "slice",data:=.fields #[j,i,.none]}} c k x v j i l u d.heap.objs.size Q G o (Heap.IsSliceOf.new ..) y w p;show LW A F D rfl
abbrev R5(xs:List V)(lo hi:Option Int):List V:=(xs.drop (HT.sIx xs.length 0 lo)).take (HT.sIx xs.length xs.length hi-HT.sIx xs.length 0 lo)
def az9(xs)lo hi:(R5 xs lo hi).length<=xs.length:=by
 unfold R5;rw[By,Bz];lia
abbrev di5(K:AO):V->Option Int->Option Int->Hp->VK->Prop:=λx lo hi H Q=>∃a xs,x=.ref a/\SqT K H a xs /\
 ¬(HT.sIx xs.length 0 lo=0/\HT.sIx xs.length xs.length hi=xs.length)/\∀p,H p=AD->Q (.ref p) (upd H p (.tup (R5 xs lo hi)))
def bl3:SlR X (di5 X.K):=by
 intro g s u H x v y w e k z Q I l t n m h;let{a,d,rfl,o,p,q}:=h;cases l;let{f,r,j,i}:=I.tuple o;have c:f.toArray.size=d.length:=(r.length.symm)
 apply{"tuple",_,BV.lookup,j.typeIs,?_};apply HT.getItem_tuple_cut j t n m (c▸p) ?_ (c▸i);rw[c];apply{.ref s.heap.objs.size,_,I.laid (λb A=>AQ _) (AR _) ?_,rfl,q _ (I.hok.fresh (AR _))};show{Ap (az9 d e k) i,_,(r.drop (HT.sIx d.length 0 e)).take (HT.sIx d.length d.length k-HT.sIx d.length 0 e),G2.new _ _}
abbrev dc5(K:AO):R2:=λx y H Q=>∃a b xs ys,x=.ref a/\y=.ref b/\SqT K H a xs/\SqT K H b ys/\xs≠[]/\xs.length+ys.length<=sizeLine /\
 (ys=[]->Q (.ref a) H)/\(ys≠[]->∀p,H p=AD->Q (.ref p) (upd H p (.tup (xs++ys))))
def i7.nil_iff{xs}{us}(r:i7 xs us):us=[]↔xs=[]:=by
 cases r with
 |nil=>simp
 |cons _ _=>simp
def ci1:OpR X (Cy .Add) (dc5 X.K):=by
 intro e s r H x y v u Q I i g h;let{a,b,A,t,rfl,rfl,q,p,o,C,k,j}:=h;cases i;cases g;let{n,d,m,_}:=I.tuple q;let{f,c,l,_}:=I.tuple p;apply HT.cat_tup m l (λz=>o (d.nil_iff.mp z)) (λz=>{.ref a,H,I,rfl,k (c.nil_iff.mp z)}) (λz=>?_) (by rwa[<-d.length,<-c.length]);apply{.ref s.heap.objs.size,_,I.laid (λb B=>AQ _) (AR _) ?_,rfl,j (λw=>z (c.nil_iff.mpr w)) _ (I.hok.fresh (AR _))};show{by simp_all,_,d.append c,G2.new _ _}
end
variable{pins:List (AI×Obj)}{σ:St}{H:Hp}{s:AL}
abbrev ixN(n:Nat)(i:Int):Option Nat:=if 0<=i then(if i<n then AA i.toNat else AD)else if -(n:Int)<=i then AA (i+n).toNat else AD
abbrev atI{α:Type}(xs:List α)(i:Int):Option α:=(ixN xs.length i).bind λj=>xs[j]?
def ar8{n}{i}{j}(h:ixN n i=AA j):Ij i n=AA j/\j<n/\-(n:Int)<=i/\i<n:=by
 unfold ixN at h
 by_cases b:0<=i
 ·rw[if_pos b]at h
  by_cases a:i<n
  ·rw[if_pos a]at h;have e:i.toNat=j:=Ay h;show{by rw[JX b a,e],⋯,⋯,a}
  ·simp_all
 ·rw[if_neg b]at h
  by_cases a:-(n:Int)<=i
  ·rw[if_pos a]at h;have e:(i+n).toNat=j:=Ay h;show{by rw[JD ⋯ a,e],⋯,a,⋯}
  ·simp_all
def aq8{α}{xs}{i}{v:α}(h:atI xs i=AA v):∃j,Ij i xs.length=AA j/\xs[j]?=AA v/\j<xs.length/\-xs.length<=i/\i<xs.length:=by
 unfold atI at h;cases e:ixN xs.length i with
 |none=>simp_all
 |some j=>
  rw[e]at h;let{d,c,b,a}:=ar8 e;show⟨j,d,h,c,b,a⟩
abbrev bg0(b:AU):Prop:=∀o i,subscripted b AF o i=operate [o,i] (Du o i)
abbrev IxR(X:Cx)(r:R2):Prop:=
 ∀(value slice:AU)(pins:List (AI×Obj))(s:AL)(σ:St)(H:Hp)(x y:V)(v u:AG)(Q:VK),Inv X pins σ H s->j7 x v->j7 y u->r x y H Q ->
  subscripted slice AF v u=operate [v,u] (Du v u)->AW (model X.prog X.w) X.A (Et value slice v u) (EP X pins σ Q) X.xe s
abbrev MtR(X:Cx)(id:String)(r:V->List V->Hp->VK->Prop):Prop:=
 ∀(pins:List (AI×Obj))(s:AL)(σ:St)(H:Hp)(x:V)(xs:List V)(v:AG)(us:List AG)(Q:VK),Inv X pins σ H s->j7 x v->i7 xs us->r x xs H Q ->
  AW (model X.prog X.w) X.A (call (.builtin id) (v::us)) (EP X pins σ Q) X.xe s
section
variable {X:Cx} {a b:AU} {ta tb:TE} {pos:Pos}
def IxR.or{r r'}(h:IxR X r)(i:IxR X r'):IxR X λx y H Q=>r x y H Q\/r' x y H Q:=by
 intro a b c s d H x y v u Q I f e q g
 rcases q with q|q
 ·show h a b c s d H x y v u Q I f e q g
 ·show i a b c s d H x y v u Q I f e q g
def df0{r}(j:IxR X r)(l:PE X a ta)(k:PE X b tb)(i:bg0 b):PE X (.Subscript a b pos) (tOp r ta tb):=λc s d H Q I h=>IJ (ax6 l k I h λv u e x y n m g f q=>j a b c e d n x y v u Q m g f q (i _ _))
abbrev dj9(K:AO):R2:=λx y H Q=>∃p xs i v,x=.ref p/\y=.int i/\SqL K H p xs/\atI xs i=AA v/\Q v H
abbrev dl4(K:AO):R2:=λx y H Q=>∃p xs i v,x=.ref p/\y=.int i/\SqT K H p xs/\atI xs i=AA v/\Q v H
abbrev dh7:R2:=λx y H Q=>∃z i c,x=.str z/\y=.int i/\z.length<=sizeLine/\atI z.cps.toList i=AA c/\Q (.str ⟨#[c]⟩) H
def cg2:IxR X (dj9 X.K):=by
 intro d e a s m H x y v u Q I D C h n;let{p,N,i,z,rfl,rfl,E,G,q}:=h;cases D;let{t,rfl}:=C;let{k,r,g,O}:=I.list E;let{j,c,M,R,L,J}:=aq8 G;let{w,A,f}:=r.get M;have F:=r.length;have P:=aa4;have b:EP X a m Q w s:=⟨z,H,I,f,q⟩
 by_cases o:0<=i
 ·have l:i.toNat=j:=by
   rw[JX o J]at c;show Ay c
  show item_listR g.isList o ⋯ (by rw[l];simpa using A) b n
 ·have l:(i+(k.toArray.size:Int)).toNat=j:=by
   rw[JD ⋯ L]at c;rw[Aa,<-F];show Ay c
  show JE (x:=w) g.isList.typeIs HE.lookup
   (wpAny_getItem_list_neg (Q:=λr B=>r=w/\EP X a m Q r B) g.isList ⋯ (by rw[Aa]<;>lia) ⋯ (by rw[l];simpa using A) ⟨rfl,b⟩) n
def cv8:IxR X (dl4 X.K):=by
 intro b c a s f H x y v u Q I m l h o;let{p,G,i,z,rfl,rfl,A,C,q}:=h;cases m;let{t,rfl}:=l;let{n,r,g,J}:=I.tuple A;let{j,E,D,O,N,M}:=aq8 C;let{w,F,d}:=r.get D;have B:=r.length;have L:=aa4;have e:EP X a f Q w s:=⟨z,H,I,d,q⟩;show JE (x:=w) g.typeIs EZ.lookup
  (getItem_tuple (j:=j) (Q:=λr k=>r=w/\EP X a f Q r k) g ⋯ ⋯ (by rw[Aa,<-B];show E) (by simpa using F) ⟨rfl,e⟩) o
def cw5:IxR X dh7:=by
 intro a b d s A H x y v u Q I g f h k;let{z,i,c,rfl,rfl,C,m,q}:=h;let{t,rfl}:=g;let{B,rfl}:=f;let{j,e,p,E,o,n}:=aq8 m;have l:z.cps.toList.length=z.length:=by simp[Str.length]
 rw[l]at e o n;have D:=aa4;show LW (typeIs_str s z t) slot_str_getitem.lookup (getItem_str (c:=c) (by
  have w:AB (i < -(2^63:Int))=AF:=decide_eq_false ⋯;have r:AB (i>=2^63)=AF:=decide_eq_false ⋯;rw[w,r,Hj]) (by rw[e];simpa using p) {.str ⟨#[c]⟩,H,I.tok _,⟨_,rfl⟩,q}) k
def bx2(a:List AG)n j(u):Bt (·.setIfInBounds j u) {cls:=.type "list",data:=.seq a.toArray n}={cls:=.type "list",data:=.seq (a.set j u).toArray n}:=by
 simp[Bt]
theorem Inv.lst{p}{xs}(I:Inv X pins σ H s)(h:H p=AA (.lst xs)):
  ∃(a:List AG)(n:Nat),i7 xs a/\s.heap.get? p=AA {cls:=.type "list",data:=.seq a.toArray n}/\xs.length<=sizeLine:=by
 let{z,a,n,r,e}:=I.hok p _ h;show⟨a,n,r,e,z⟩
def Inv.lstUpd{p}{xs ys}{c a:List AG}{n n'}{f}(I:Inv X pins σ H s)(h:H p=AA (.lst xs))
  (i:s.heap.get? p=AA {cls:=.type "list",data:=.seq c.toArray n}) (d:f {cls:=.type "list",data:=.seq c.toArray n}={cls:=.type "list",data:=.seq a.toArray n'}) (r:i7 ys a) (g:ys.length<=sizeLine) t :
  Inv X pins σ (upd H p (.lst ys)) {s with heap:=s.heap.update p f,toks:=t}:=by
 have e:(s.heap.update p f).get? p=AA {cls:=.type "list",data:=.seq a.toArray n'}:=by
  rw[CL f i (by rw[d]<;>rfl),d]
 show I.write (by rw[h];trivial) (.inl rfl) (λb u j=>(Heap.get?_update_other _ _ (Ax j)).trans) ⟨_,e⟩ ⟨g,a,n',r,e⟩
abbrev c56:V->V->V->Hp->(Hp->Prop)->Prop:=λo i v H Q=>∃p xs k j,o=.ref p/\i=.int k/\H p=AA (.lst xs)/\ixN xs.length k=AA j/\Q (upd H p (.lst (xs.set j v)))
def b97:br7 X c56:=by
 intro a s y H o i v F G u Q I B C A h;let{p,z,k,j,rfl,rfl,g,E,q}:=h;cases B;let{t,rfl}:=C;let{b,n,r,d,D}:=I.lst g;let{c,K,m,l}:=ar8 E;have e:=r.length;have J:=aa4;have x:Inv X a y (upd H p (.lst (z.set j v))) {s with heap:=s.heap.update p (Bt (·.setIfInBounds j u))}:=
  I.lstUpd g d (bx2 b n j u) (r.set A j) (by rw[List.length_set];show D) s.toks
 by_cases w:0<=k
 ·have f:k.toNat=j:=by
   rw[JX w l]at c;show Ay c
  show W.ki_setAt d w ⋯ (by rw[Aa,<-e];show l) (by rw[f];show⟨_,x,q⟩)
 ·have f:(k+(b.toArray.size:Int)).toNat=j:=by
   rw[JD ⋯ m]at c;rw[Aa,<-e];show Ay c
  show W.ki_setBack d ⋯ (by rw[Aa,<-e];show m) ⋯ (by rw[f];show⟨_,x,q⟩)
def bu1(a b:Option Int)(n:Nat):(EB a b AD n).1=((HT.sIx n 0 a:Nat):Int)/\(EB a b AD n).2.1=((HT.sIx n n b:Nat):Int)/\(EB a b AD n).2.2=1:=by
 apply{?_,?_,rfl}
 ·cases a with
  |none=>rfl
  |some i=>
   erw[EB,HT.sIx,GJ,show(1:Int)>0 by decide,if_true]
   by_cases h:i<0
   ·erw[h,if_true]<;>lia
   ·erw[h,if_false]<;>lia
 ·cases b with
  |none=>rfl
  |some i=>
   erw[EB,HT.sIx,GJ,show(1:Int)>0 by decide,if_true]
   by_cases h:i<0
   ·erw[h,if_true]<;>lia
   ·erw[h,if_false]<;>lia
def bt7(a:List AG)lo hi:slicePick a.toArray lo hi AD=((a.drop (HT.sIx a.length 0 lo)).take (HT.sIx a.length a.length hi-HT.sIx a.length 0 lo)).toArray:=by
 let{d,c,b}:=bu1 lo hi a.toArray.size;unfold slicePick;rw[d,c,b];erw[sliceRange_one,pick_run,Aa]
abbrev dm9(K:AO):V->Option Int->Option Int->Hp->VK->Prop:=λx lo hi H Q=>∃a xs,x=.ref a/\SqL K H a xs/\∀p,H p=AD->Q (.ref p) (upd H p (.lst (R5 xs lo hi)))
def cm2:SlR X (dm9 X.K):=by
 intro f s t H x v w u e i y Q I j p l k h;let{a,c,rfl,o,q}:=h;cases j;let{m,r,g,n}:=I.list o;have d:=r.length;apply{"list",_,HE.lookup,g.isList.typeIs,?_};apply IY g.isList p l k .none ∎ ?_ (by rw[Aa]<;>lia);rw[bt7,<-d];apply{.ref s.heap.objs.size,_,I.laid (λb z=>AQ _) (AR _) ?_,rfl,q _ (I.hok.fresh (AR _))};show{Ap (az9 c e i) n,_,0,(r.drop (HT.sIx c.length 0 e)).take (HT.sIx c.length c.length i-HT.sIx c.length 0 e),Aj _ rfl}
def bt9:G7 X (.builtin "len") λg H Q=>∃p b,g=[.ref p]/\(SqL X.K H p b\/SqT X.K H p b)/\Q (.int b.length) H:=by
 intro i s l H g m Q I r h;let{p,b,rfl,c,q}:=h;let{u,rfl,j}:=ab6 r;cases j;have n:=aa4
 rcases c with c|c
 ·let{f,d,e,k}:=I.list c;have a:=d.length;show Calls.call_len_list e.isList (by grind) {.int b.length,H,I.tok _,{s.toks+1,by rw[Aa,a]},q}
 ·let{f,d,e,k}:=I.tuple c;have a:=d.length;show len_tuple e (by grind) {.int b.length,H,I.tok _,{s.toks+1,by rw[Aa,a]},q}
def bu0:G7 X (.type "list") λB H Q=>∃p d,B=[.ref p]/\(SqL X.K H p d\/SqT X.K H p d)/\∀l,H l=AD->Q (.ref l) (upd H l (.lst d)):=by
 intro i s D H B F Q I r h;let{p,d,rfl,m,q}:=h;let{u,rfl,E}:=ab6 r;cases E;have v:∀a,i7 d a->d.length<=sizeLine->∀(c)g,(∀b C,s.heap.get? b=AA C->c.get? b=AA C) ->
   c.get? s.heap.objs.size=AA {cls:=.type "list",dict:=AD,data:=.seq a.toArray g,slots:=#[]}->EP X i D Q (.ref s.heap.objs.size) {s with heap:=c}:=λa f k c g j e=>
  {.ref s.heap.objs.size,_,I.laid j (AR _) (show t4 X.prog X.w _ c _ (.lst d) from⟨k,a,g,f,e⟩),rfl,q _ (I.hok.fresh (AR _))}
 rcases m with m|m
 ·let{a,f,x,k}:=I.list m;have t:=f.length;let{o,y,A,n,z}:=x.isList;show call_list_seq p (.inl rfl) y A z (λc g j=>v a f k c g j) (by simp_all)
 ·let{a,f,x,k}:=I.tuple m;have t:=f.length;let{o,y,A,n,z}:=x;show call_list_seq p (.inr rfl) y A z (λc g j=>v a f k c g j) (by simp_all)
def bt6:G7 X (.type "tuple") λg H Q=>∃p a,g=[.ref p]/\((SqL X.K H p a/\∀l,H l=AD->Q (.ref l) (upd H l (.tup a)))\/(SqT X.K H p a/\Q (.ref p) H)):=by
 intro i s y H g z Q I r h;let{p,a,rfl,h}:=h;let{u,rfl,n}:=ab6 r;cases n
 rcases h with⟨f,q⟩|⟨f,q⟩
 ·let{c,d,e,j}:=I.list f;have k:=d.length;apply call_tuple_list e.isList (λv t=>?_) (by simp_all);have m:=I.kept (t':=s.toks) t;have x:=
   m.laid (t':=s.toks) (λb o=>AQ _) (AR _) (show t4 X.prog X.w _ _ _ (.tup a) from{j,c,d,G2.new _ _})
  show{.ref v.objs.size,_,x,rfl,q _ (m.hok.fresh (AR _))}
 ·let{c,d,e,j}:=I.tuple f;show call_tuple_same e {.ref p,H,I,rfl,q}
abbrev tyV(K:AO)(T:String)(x:V)(H:Hp):Prop:=match x with
 |.str _=>T="str"
 |.int _=>T="int"
 |.ref p=>(T="list"/\∃xs,SqL K H p xs)\/(T="tuple"/\∃o,K.lookup p=AA o/\o.cls=.type "tuple"/\o.dict=AD)\/
   (T="dict"/\((∃kvs,H p=AA (.dK kvs))\/∃kvs,H p=AA (.dT kvs)))\/(T="set"/\∃S n,H p=AA (.set S n))
 |_=>False
def bm0{T}{x}{v}(I:Inv X pins σ H s)(r:j7 x v)(f:tyV X.K T x H):
  s.TypeIs v T/\∀a,v=.ref a->∃l,s.heap.get? a=AA l/\l.dict=AD:=by
 cases x with
 |str z=>
  let{t,rfl}:=r;cases(f);show{typeIs_str s z t,λ_ e=>nomatch e}
 |int i=>
  let{t,rfl}:=r;cases(f);show{KC s i t,λ_ e=>nomatch e}
 |ref p=>
  cases r
  rcases f with⟨rfl,B,y⟩|⟨rfl,o,b,A,h⟩|⟨rfl,b⟩|⟨rfl,S,n,b⟩
  ·let{u,_,k,_}:=I.list y;apply{k.isList.typeIs,λa e=>?_};cases e;let{o,n,e,c,h,_}:=k;show⟨o,e,h⟩
  ·apply{{o,I.kIn p o b,A},λa e=>?_};cases e;show{o,I.kIn _ o b,h}
  ·have z:∃o,s.heap.get? p=AA o/\o.ExactDict:=by
    rcases b with⟨g,b⟩|⟨g,b⟩
    ·let{_,_,_,_,o,_,_,e,d,_}:=I.hok p _ b;show⟨o,e,d⟩
    ·let{_,_,_,_,o,_,_,e,d,_}:=I.hok p _ b;show⟨o,e,d⟩
   let{o,e,d}:=z;apply{⟨o,e,d.1⟩,λa j=>?_};cases j;show⟨o,e,d.2.1⟩
  ·let{o,_,_,_,e,d,_}:=I.hok p _ b;apply{⟨o,e,d.1⟩,λa j=>?_};cases j;show⟨o,e,d.2.1⟩
 |_=>show AV f
abbrev dn2(K:AO)(T:String)(r:V->List V->Hp->VK->Prop)(to:TE):TE:=λσ H Q=>to σ H λx H1=>tyV K T x H1/\r x [] H1 Q
abbrev tBM(K:AO)(T:String)(r:V->List V->Hp->VK->Prop)(to:TE)(t:TA):TE:=λσ H Q=>to σ H λx H1=>tyV K T x H1/\t σ H1 λxs H2=>r x xs H2 Q
variable {o e:AU} {es:List AU} {to:TE} {t:TA} {name:Str} {apos cpos:Pos} {T id:String} {r:V->List V->Hp->VK->Prop}
def bn1(n:PlainAttrs T)(d:Slot T name id)(f:typeOf (.builtin id)=pure (.type "method_descriptor"))(q:MtR X id r)(p:PE X o to)
  (c:Cn o name X.env (eval o X.env)=eval o X.env:=by rfl) (b:(apos.endLine==cpos.line)=AC:=by rfl):PE X (.Call (.Attribute o name apos) [] [] cpos) (dn2 X.K T r to):=by
 intro a s g H Q I h;apply wpAny_Call_method0_late c b (thn (p a s g H _ I h) λv l e=>?_);let{x,w,j,i,k,m}:=e;let{u,t}:=bm0 j i k;show{T,id,n,d,f,u,t,DM rfl (PySem.evalArgs_none (q a l g w x [] v [] Q j i .nil m))}
def c72(C:PlainAttrs T)(f:Slot T name id)(k:typeOf (.builtin id)=pure (.type "method_descriptor"))(F:MtR X id r)(E:PE X o to)(G:PA X (e::es) t)
  (d:Cn o name X.env (eval o X.env)=eval o X.env:=by rfl)
  (g:((CC cpos (Am (e::es) X.env)).all (λx=>!x.1)&&(FH cpos (DX [] X.env)).all (λx=>x.1.isSome)
   &&AB ((e::es).length+([]:List Hw).length+(if([]:List Hw).isEmpty then 0 else 1)<30))=AC:=by rfl)
  (c:(apos.endLine==cpos.line)=AC:=by rfl) (D:Am (e::es) X.env=(AF,eval e X.env)::Am es X.env:=by rfl) (b:(CC cpos (Am es X.env)).any (·.1)=AF:=by rfl) :
  PE X (.Call (.Attribute o name apos) (e::es) [] cpos) (tBM X.K T r to t):=by
 intro a s i H Q I h;apply wpAny_Call_method_late d g c rfl (thn (E a s i H _ I h) λv y j=>?_);let{x,O,n,l,u,B}:=j;let{L,J}:=bm0 n l u;apply{T,id,C,f,k,L,J,?_};have m:=G cpos a y i O _ n B;rw[D]at m ⊢;apply DM (by change(AF||(CC cpos (Am es X.env)).any (·.1))=AF;rw[b]<;>rfl) (FI ?_);show thn m λq w⟨p,N,M,z,A⟩=>F a w i N x p v q Q M l z A
end
end
section
variable{us:List AG}{xs:List V}
abbrev MtM(X:Cx)(id:String)(r:V->List V->Hp->VK->Prop):Prop:=
 ∀(pins:List (AI×Obj))(s:AL)(σ:St)(H:Hp)(x:V)(xs:List V)(v:AG)(us:List AG)(Q:VK),Inv X pins σ H s->j7 x v->i7 xs us->r x xs H Q ->
  AW (model X.prog X.w) X.A (call (.builtin id) (v::us)) (EP X pins σ Q) X.xe s
def i7.one:∀{x}{a},i7 [x] a->∃u,a=[u]/\j7 x u
 |_,_,.cons r .nil=>⟨_,rfl,r⟩
def i7.two{x y}(h:i7 [x,y] us):∃u v,us=[u,v]/\j7 x u/\j7 y v:=by
 cases h with|cons r t=>cases t with|cons q t=>cases t;show⟨_,_,rfl,r,q⟩
def i7.zero:∀{a:List AG},i7 [] a->a=[]
 |_,.nil=>rfl
theorem i7.dropLast(h:i7 xs us):i7 xs.dropLast us.dropLast:=by
 induction h with
 |nil=>show .nil
 |cons r t c=>
  cases t with
  |nil=>show .nil
  |cons q d=>show .cons r c
theorem i7.eraseIdx:∀{a}{b}i,i7 a b->i7 (a.eraseIdx i) (b.eraseIdx i)
 |_,_,_,.nil=>.nil
 |_,_,0,.cons _ t=>t
 |_,_,i+1,.cons r t=>.cons r (i7.eraseIdx i t)
theorem i7.reverse(h:i7 xs us):i7 xs.reverse us.reverse:=by
 induction h with
 |nil=>show .nil
 |cons r t c=>rw[DH,DH];show i7.append c (.cons r .nil)
theorem i7.rep(h:i7 xs us):∀k,i7 (Ab k xs).flatten (Ab k us).flatten
 |0=>.nil
 |k+1=>i7.append h (i7.rep h k)
def bw1{a:Type}(l:List a):l.eraseIdx (l.length-1)=l.dropLast:=by
 simp_all
theorem a94{a:Type}:∀(l:List a)i,(l.eraseIdx i).length<=l.length
 |[],_=>AR _
 |_::_,0=>JB _
 |_::r,i+1=>Bw (a94 r i)
theorem ao9 its:∀k(a:List AG),
  Fk (λc b=>c++b) a.toArray (Ab k its.toArray)=(a++(Ab k its).flatten).toArray
 |0,a=>by simp
 |k+1,a=>by
  have e:a.toArray++its.toArray=(a++its).toArray:=by simp
  have d:a++its++(Ab k its).flatten=a++(Ab (k+1) its).flatten:=by
   rw[Ce,De,Bo]
  rw[<-d,<-ao9 its k (a++its),<-e,Ce,List.foldl_cons]
section
variable {X:Cx} {pins:List (AI×Obj)} {σ:St} {H:Hp} {s:AL} {l b:AI} {ys zs:List V}
def Inv.lset{a its':List AG}{n}{f}{t'}(I:Inv X pins σ H s)(h:H l=AA (.lst xs))
  (e:s.heap.get? l=AA {cls:=.type "list",data:=.seq a.toArray n}) (d:f a.toArray=its'.toArray) (c:i7 ys its') (b:ys.length<=sizeLine) :
  Inv X pins σ (upd H l (.lst ys)) {s with heap:=s.heap.update l (Bt f),toks:=t'}:=by
 have q:=PySem.IsL.update e f;rw[d]at q;show I.write (h▸trivial) (.inl rfl) (λi u g=>(Heap.get?_update_other s.heap (Bt f) (Ax g)).trans) ⟨_,q⟩ ⟨b,its',_,c,q⟩
def Inv.lnew{its}{t'}(I:Inv X pins σ H s)(b:i7 ys its)(a:ys.length<=sizeLine):
  Inv X pins σ (upd H s.heap.objs.size (.lst ys)) {s with heap:=s.heap.push {cls:=.type "list",data:=.seq its.toArray},toks:=t'}:=
 I.laid (λ_ _=>AQ _) (AR _) {a,its,0,b,Aj _ rfl}
theorem Inv.fresh(I:Inv X pins σ H s):H s.heap.objs.size=AD:=I.hok.fresh (AR _)
def Inv.lstM(I:Inv X pins σ H s)(b:H l=AA (.lst xs)):xs.length<=sizeLine/\∃(a:List AG)(n:Nat),i7 xs a/\xs.length=a.length/\s.heap.get? l=AA {cls:=.type "list",data:=.seq a.toArray n}:=by
 let{z,a,n,r,e}:=I.hok l _ b;show⟨z,a,n,r,r.length,e⟩
def bc0{n}(h:n<=sizeLine):CI n=AF:=decide_eq_false ⋯
end
section
variable {X:Cx}
abbrev ch3:V->List V->Hp->VK->Prop:=λx vs H Q=>∃l xs y,x=.ref l/\vs=[y]/\H l=AA (.lst xs)/\xs.length<sizeLine/\Q .non (upd H l (.lst (xs++[y])))
def a97:MtM X "list.append" ch3:=by
 intro b s i H x k v m Q I d f h;let{l,j,y,rfl,rfl,c,o,q}:=h;cases d;let{u,rfl,g}:=f.one;let{z,a,n,r,p,e}:=I.lstM c;apply Cz F.slot_list_append ⟨_,e,rfl⟩ F.entry_list_append (F.args_list_append_2 _ _) (PySem.list_append l a.toArray n u (by rw[Aa];lia)) {e,?_};apply{.non,_,I.lset c e ∎ (r.append (.cons g .nil)) ?_,rfl,q};rw[Af,IK];lia
abbrev bg7:V->List V->Hp->VK->Prop:=λx vs H Q=>∃l b xs zs,x=.ref l/\vs=[.ref b]/\H l=AA (.lst xs)/\H b=AA (.lst zs)/\xs.length+zs.length<=sizeLine/\Q .non (upd H l (.lst (xs++zs)))
def b07:MtM X "list.extend" bg7:=by
 intro g s A H x E v F Q I j k h;let{l,b,D,B,rfl,rfl,i,w,G,q}:=h;cases j;let{u,rfl,m}:=k.one;cases m;let{z,c,n,r,J,e}:=I.lstM i;let{C,a,p,o,t,y}:=I.lstM w;have f:c.toArray.size+a.toArray.size<=sizeLine:=by simp_all
 have d:¬(!c.toArray.isEmpty&&CI (c.toArray.size+a.toArray.size))=AC:=by
  rw[bc0 f,Jn];show AJ
 apply Cz JY ⟨_,e,rfl⟩ JP (JF _ _)
  (AutoSeq1.list_extend_list_list_0 l c.toArray n b a.toArray p d ⋯ ⋯) {e,y,?_}
 apply{.non,_,I.lset i e ∎ (r.append o) ?_,rfl,q};rw[Af];lia
abbrev dh8:V->List V->Hp->VK->Prop:=λx vs H Q=>∃l xs y,x=.ref l/\vs=[]/\H l=AA (.lst xs)/\xs[xs.length-1]?=AA y/\Q y (upd H l (.lst xs.dropLast))
def cx7:MtM X "list.pop" dh8:=by
 intro d s m H x p v t Q I g i h;let{l,o,y,rfl,rfl,f,k,q}:=h;cases g;have c:=i.zero;subst c;let{z,a,n,r,A,e}:=I.lstM f;let{u,w,j}:=r.get k;have b:a.toArray[a.toArray.size-1]?=AA u:=by
  simp_all
 apply Cz KP ⟨_,e,rfl⟩ KD (F.args_list_pop_1 _) (MeetsSeq.list_pop_last l a.toArray n u b (by rw[Aa];lia)) {e,?_};apply{y,_,I.lset f e ?_ r.dropLast ?_,j,q}
 ·rw[Aa,GR,bw1]
 ·rw[List.length_dropLast];lia
abbrev cw1:V->List V->Hp->VK->Prop:=λx vs H Q=>∃l xs i k y,x=.ref l/\vs=[.int i]/\H l=AA (.lst xs)/\-(2^63)<=i/\i<2^63/\Ij i xs.length=AA k/\xs[k]?=AA y/\Q y (upd H l (.lst (xs.eraseIdx k)))
def b57:MtM X "list.pop" cw1:=by
 intro c s B H x C v D Q I g j h;let{l,f,i,k,y,rfl,rfl,d,A,p,J,o,q}:=h;cases g;let{u,rfl,m}:=j.one;let{t,rfl}:=m;let{z,b,n,r,G,e}:=I.lstM d;let{w,E,a}:=r.get o;apply Cz KP ⟨_,e,rfl⟩ KD (F.args_list_pop_2 _ _)
  (MeetsSeq.list_pop_at l b.toArray n i t k w (fitsIndex_both A p) (by simp_all) (by simp_all) (by rw[Aa];lia)) {e,?_}
 apply{y,_,I.lset d e ?_ (r.eraseIdx k) ?_,a,q}
 ·rw[GR]
 ·have:=a94 f k;lia
abbrev dh0:R2:=λx y H Q=>∃l b xs zs,x=.ref l/\y=.ref b/\H l=AA (.lst xs)/\H b=AA (.lst zs)/\xs.length+zs.length<=sizeLine/\∀p,H p=AD->Q (.ref p) (upd H p (.lst (xs++zs)))
def co9:OpR X (Cy .Add) dh0:=by
 intro d s t H x y v u Q I g f h;let{l,b,B,w,rfl,rfl,k,m,D,q}:=h;cases g;cases f;let{z,c,n,r,E,e}:=I.lstM k;let{A,a,C,i,j,p}:=I.lstM m;apply PySem.P.add_list e p ?_ (by rw[Aa,Aa];lia);have o:c.toArray++a.toArray=(c++a).toArray:=by simp
 rw[o];show{.ref _,_,I.lnew (r.append i) (by rw[Af];lia),rfl,q _ I.fresh}
def bh7{b:Type}(a:List b)k:(Ab k a).flatten.length=k*a.length:=by
 simp_all
end
end
section
variable{kvs:List (Ak×V)}{o:Option V}{u:AG}{y v:V}{P:Al}{H H':Hp}{xs:List (Ak×AI×AG)}{b a:AI}{X:Cx}{pins:List (AI×Obj)}{σ:St}{s:AL}{A:BW}{Q:AG->AL->Prop}{pos:Pos}
section
variable {κ:Type} [DecidableEq κ]
abbrev A4(kvs:List (κ×V))(k:κ):Option V:=(kvs.find? λkv=>AB (kv.1=k)).map (·.2)
abbrev E5(kvs:List (κ×V))(k:κ)(v:V):List (κ×V):=
 if(kvs.any λkv=>AB (kv.1=k))=AC then kvs.map (λkv=>if kv.1=k then(kv.1,v)else kv)else kvs++[(k,v)]
def ap8{p}{r}{k:κ}(e:p.1=k):A4 (p::r) k=AA p.2:=by simp[A4,e]
def aq1{p}{r}{k:κ}(e:¬p.1=k):A4 (p::r) k=A4 r k:=by simp[A4,e]
theorem ap5(k:κ):∀a,(a.any λb=>AB (b.1=k))=(A4 a k).isSome
 |[]=>rfl
 |p::r=>by
  rw[HG]
  by_cases e:p.1=k
  ·erw[ap8 e,decide_eq_true e,Bool.true_or,IS]
  ·rw[aq1 e,decide_eq_false e];show ap5 k r
def a01 kvs(k:κ)v:(E5 kvs k v).length<=kvs.length+1:=by
 unfold E5
 split
 ·rw[AX];lia
 ·simp_all
def b55{kvs}{k:κ}v(h:A4 kvs k=AD):E5 kvs k v=kvs++[(k,v)]:=by
 unfold E5;rw[ap5,h];show if_neg ∅
def D7.isSome_eq{u}(r:D7 o u):o.isSome=u.isSome:=by
 cases o with
 |none=>cases u with
  |none=>rfl
  |some _=>show(r).elim
 |some _=>cases u with
  |none=>show(r).elim
  |some _=>rfl
theorem D7.getD{u}{d}{d'}(r:D7 o u)(a:j7 d d'):j7 (o.getD d) (u.getD d'):=by
 cases o with
 |none=>cases u with
  |none=>show a
  |some _=>show(r).elim
 |some _=>cases u with
  |none=>show(r).elim
  |some _=>show r
def KV.val{kvs}{vs}(r:KV kvs vs)(k:κ):D7 (A4 kvs k) (HH vs k):=by
 induction r with
 |nil=>show Cb
 |@cons p q g a h t i=>
  let{d,j}:=h
  by_cases e:p.1=k
  ·have c:=d.symm.trans e;have b:HH (q::a) k=AA q.2:=by simp[HH,c]
   rwa[ap8 e,b]
  ·have c:¬q.1=k:=λz=>e (d.trans z);have b:HH (q::a) k=HH a k:=by simp[HH,c]
   rwa[aq1 e,b]
theorem KV.any{kvs}{vs}(r:KV kvs vs)(k:κ):(kvs.any λa=>AB (a.1=k))=vs.any λa=>AB (a.1=k):=by
 induction r with
 |nil=>rfl
 |cons h t d=>simp_all
def KV.repl{kvs}{vs}(r:KV kvs vs)(k:κ)(d:j7 y u):
  KV (kvs.map λa=>if a.1=k then(a.1,y)else a) (vs.map λa=>if a.1=k then(a.1,u)else a):=by
 induction r with
 |nil=>show .nil
 |@cons p q g f h t c=>
  apply .cons ?_ c;by_cases e:p.1=k
  ·simp_all
  ·simp_all
def KV.put{kvs}{vs}(r:KV kvs vs)(k:κ)(a:j7 y u):KV (E5 kvs k y) (stored vs k u):=by
 unfold E5 stored;rw[r.any k]
 by_cases e:(vs.any λb=>AB (b.1=k))=AC
 ·rw[if_pos e,if_pos e];show r.repl k a
 ·rw[if_neg e,if_neg e];show Paired.snoc r ⟨rfl,a⟩
theorem KV.length{a:List (κ×V)}{vs}(r:KV a vs):a.length=vs.length:=Paired.length r
end
def aa8{w}{k}(r:j7 (kV k) u):(Q0 P w).is k u=AC:=by
 cases k with
 |inl i=>let{t,e}:=r;subst e;show bu8 P w i t
 |inr x=>let{t,e}:=r;subst e;show bv5 P w x t
@[reducible]noncomputable def KT(H:Hp):List (Ak×V)->List (Ak×AI×AG)->Prop:=Paired λp q=>p.1=q.1/\J0 H p.1 q.2.1/\j7 p.2 q.2.2
def KT.val(r:KT H kvs xs)k:D7 (A4 kvs k) ((IL xs k).map (·.2)):=by
 induction r with
 |nil=>show Cb
 |@cons p q g a h t i=>
  let{d,_,j}:=h
  by_cases e:p.1=k
  ·have c:=d.symm.trans e;have b:IL (q::a) k=AA q.2:=by simp[IL,c]
   rwa[ap8 e,b]
  ·have c:¬q.1=k:=λz=>e (d.trans z);have b:IL (q::a) k=IL a k:=by simp[IL,c]
   rwa[aq1 e,b]
def KT.repl(r:KT H kvs xs)k(d:j7 y u):
  KT H (kvs.map λa=>if a.1=k then(a.1,y)else a) (xs.map (putAt k u)):=by
 induction r with
 |nil=>show .nil
 |@cons p q g f h t c=>
  apply .cons ?_ c;let{l,j,i}:=h;unfold putAt
  by_cases e:p.1=k
  ·simp_all
  ·simp_all
def KT.put(r:KT H kvs xs)k(d:J0 H k b)(a:j7 y u):
  KT H (E5 kvs k y) (storedH xs k b u):=by
 have e:(kvs.any λc=>AB (c.1=k))=(IL xs k).isSome:=by
  rw[ap5,(r.val k).isSome_eq,Fl]
 unfold E5 storedH;rw[e]
 by_cases q:(IL xs k).isSome=AC
 ·rw[if_pos q,if_pos q];show r.repl k a
 ·rw[if_neg q,if_neg q];show Paired.snoc r ⟨rfl,d,a⟩
theorem KT.keeps(r:KT H kvs xs)(c:∀b a,H b=AA (.tup a)->H' b=AA (.tup a)):KT H' kvs xs:=
 Paired.mapP r λ_ _ z=>{z.1,z.2.1.keeps c,z.2.2}
section
variable {w:Aw} {h:Heap} 
def bq8{u}(b:HOk P w H h)(e:Rd H a u):=e.ok b
def U0{kvs}(c:HOk P w H h)(e:Rd H a (.dK kvs)):kvs.length<=sizeLine/\(a==CV)=AF/\∃b,KV kvs b/\h.DictOf (Q0 P w) a b:=
 bq8 c e
def c78{kvs}(b:HOk P w H h)(e:H a=AA (.dK kvs)):=U0 b (.inl e)
def b13(ok:HOk P w H h):∀(n:Nat)(d:Ak),d.depth<=n->∀{v:V}{u:AG},HRd H d v->j7 v u->∃f,Reads h u d f:=by
 have E:∀n,(∀d:Ak,d.depth<=n->∀{v:V}{u:AG},HRd H d v->j7 v u->∃f,Reads h u d f)->∀(a:List Ak),Bf a<=n->∀{c:List V}{s:List AG},P1 H a c->i7 c s->∃f,ReadsAll h s a f:=λn D a=>by
  induction a with
  |nil=>
   intro _ c s q r;obtain rfl:c=[]:=q;cases r;show{_,.nil}
  |cons d a C=>
   intro j c s q r;let{v,vr,rfl,A,z}:=q;have hd':max d.depth (Bf a)<=n:=j;cases r with
   |cons r1 r2=>
    let{a1,x1}:=D d ⋯ A r1;let{a2,x2}:=C ⋯ z r2;show{_,.cons x1 x2}
 intro n
 induction n with
 |zero=>
  intro d j v u q r;cases d with
  |int i=>obtain rfl:v=.int i:=q;let{t,rfl}:=(show ∃t,u=EX i t from r);show{_,.int _ _}
  |str x=>obtain rfl:v=.str x:=q;let{t,rfl}:=(show ∃t,u=EY x t from r);show{_,.str _ _}
  |tuple a=>rw[NK.depth_tup]at j;lia
  |none=>show q.elim
  |bool _=>show q.elim
  |list _=>show q.elim
  |dict _=>show q.elim
 |succ n D=>
  intro d j v u q r;cases d with
  |int i=>obtain rfl:v=.int i:=q;let{t,rfl}:=(show ∃t,u=EX i t from r);show{_,.int _ _}
  |str x=>obtain rfl:v=.str x:=q;let{t,rfl}:=(show ∃t,u=EY x t from r);show{_,.str _ _}
  |none=>show q.elim
  |bool _=>show q.elim
  |list _=>show q.elim
  |dict _=>show q.elim
  |tuple a=>
   rw[NK.depth_tup]at j;let{b,c,rfl,A,z}:=q;cases(show u=At b from r);let{_,its,rv,o,h1,h2,_,m,h3}:=(show t4 P w H h b (.tup c) from ok b _ A);let{f,x}:=E n D a ⋯ z rv;show{_,.tuple h1 h2 h3 (by simpa using x)}
def O1{k}(b:HOk P w H h)(e:J0 H k a):(NK.dataKind P w).is h k a:={e.1,e.2.1,b13 b 7 k e.2.1 e.2.2 rfl}
def R3(f:HOk P w H h)(e:Rd H a (.dT kvs)):kvs.length<=sizeLine/\(a==CV)=AF /\
  ∃c,KT H kvs c/\h.DictOfH (NK.dataKind P w) a c:=by
 let{z,y,c,r,o,A,B,v,u,s,n,k}:=(bq8 f e);apply{z,y,c,r,o,A,B,v,u,s,n,λx b=>?_,k};have d:∀{l}{m},KT H l m->∀x∈m,(NK.dataKind P w).is h x.1 x.2.1:=by
  intro l m q
  induction q with
  |nil=>simp_all
  |@cons p q D C g t j=>
   intro x b
   rcases AM.mp b with e|b
   ·subst e;show O1 f (g.1▸g.2.1)
   ·show j x b
 show d r x b
def c86(b:HOk P w H h)(e:H a=AA (.dT kvs)):=R3 b (.inl e)
end
abbrev D4(H:Hp)(a:AI)(y:V)(r:Option V):Prop:=
 (∃kvs k,Rd H a (.dK kvs)/\y=kV k/\r=A4 kvs k)\/∃kvs k b,Rd H a (.dT kvs)/\y=.ref b/\J0 H k b/\r=A4 kvs k
abbrev O9(H:Hp)(a:AI)(y v:V)(H':Hp):Prop:=
 (∃kvs k,H a=AA (.dK kvs)/\y=kV k/\kvs.length<sizeLine/\H'=upd H a (.dK (E5 kvs k v)))\/
 ∃kvs k b,H a=AA (.dT kvs)/\y=.ref b/\J0 H k b/\kvs.length<sizeLine/\H'=upd H a (.dT (E5 kvs k v))
theorem D4.k{kvs}{k}(e:H a=AA (.dK kvs)):D4 H a (kV k) (A4 kvs k):=.inl {kvs,k,.inl e,rfl,rfl}
def D4.t{k}(e:H a=AA (.dT kvs))(c:J0 H k b):D4 H a (.ref b) (A4 kvs k):=.inr {kvs,k,b,.inl e,rfl,c,rfl}
theorem O9.k{kvs}{k}(e:H a=AA (.dK kvs))(b:kvs.length<sizeLine):O9 H a (kV k) v (upd H a (.dK (E5 kvs k v))):=.inl ⟨kvs,k,e,rfl,b,rfl⟩
def O9.t{k}(e:H a=AA (.dT kvs))(d:J0 H k b)(c:kvs.length<sizeLine):
  O9 H a (.ref b) v (upd H a (.dT (E5 kvs k v))):=.inr ⟨kvs,k,b,e,rfl,d,c,rfl⟩
section
variable {r:AG} {E:AG->AL->Prop}
def Inv.big(I:Inv X pins σ H s):CV<s.heap.objs.size:=(have h:=(I.mod.glob.keeps I.bk).lt;Nat.lt_trans ∅ h)
def b10(t:A.units+20<Bs)(I:Inv X pins σ H s)(g:D4 H a y (AA v))(r:j7 y u)(h:∀f q,Inv X pins σ H q->j7 v f->Q f q):
  AW (model X.prog X.w) A (Du (.ref a) u) Q E s:=by
 rcases g with⟨i,k,e,n,l⟩|⟨i,k,b,e,n,C,l⟩
 ·subst n;let{z,B,F,d,o}:=U0 I.hok e;let{f,j,c}:=D7.some_of (l▸d.val k);show wpAny_getItem_of (aa8 r) o.mapOf j (h f _ (I.tok _) c)
 ·subst n;cases(r);let{z,B,D,d,o}:=R3 I.hok e;let{f,j,c}:=D7.some_of ((l▸d.val k));let{p,x,m}:=Option.map_eq_some_iff.mp j;apply wpAny_getItem_heap (NK.dataKind_room_in1 t) (O1 I.hok C) o x ?_;rw[m];show h f _ (I.tok _) c
def br9(p:A.units+20<Bs)(I:Inv X pins σ H s)(g:D4 H a y o)(n:j7 y u)(h:∀m,Inv X pins σ H m->Q (.bool o.isSome) m):
  AW (model X.prog X.w) A (Bp .In u (.ref a)) Q E s:=by
 rcases g with⟨d,k,e,i,l⟩|⟨d,k,b,e,i,r,l⟩
 ·subst i;let{z,f,v,c,j}:=U0 I.hok e;apply wpAny_in_of (aa8 n) f j.mapOf ?_;rw[<-(c.val k).isSome_eq,<-l];show h _ (I.tok _)
 ·subst i;cases(n);let{z,f,t,c,j}:=R3 I.hok e;apply wpAny_in_heap (NK.dataKind_room_in1 p) (O1 I.hok r) f j ?_;have q:=(c.val k).isSome_eq;rw[Fl]at q;rw[<-q,<-l];show h _ (I.tok _)
def bh4(p:A.units+20<Bs)(I:Inv X pins σ H s)(g:D4 H a y o)(n:j7 y u)(h:∀m,Inv X pins σ H m->Q (.bool (!o.isSome)) m):
  AW (model X.prog X.w) A (Bp .NotIn u (.ref a)) Q E s:=by
 rcases g with⟨d,k,e,i,l⟩|⟨d,k,b,e,i,r,l⟩
 ·subst i;let{z,f,v,c,j}:=U0 I.hok e;apply LY (aa8 n) f j.mapOf ?_;rw[<-(c.val k).isSome_eq,<-l];show h _ (I.tok _)
 ·subst i;cases(n);let{z,f,t,c,j}:=R3 I.hok e;apply wpAny_notIn_heap (NK.dataKind_room_in1 p) (O1 I.hok r) f j ?_;have q:=(c.val k).isSome_eq;rw[Fl]at q;rw[<-q,<-l];show h _ (I.tok _)
def bf2{h'}{t'}{ob}(I:Inv X pins σ H s)(d:Mut (H a))(e:Heap.SameBut a s.heap h')(f:∃q,h'.get? a=AA q)(c:t4 X.prog X.w (upd H a ob) h' a ob):
  Inv X pins σ (upd H a ob) {s with heap:=h',toks:=t'}:=
 I.write d (.inl rfl) (λb q g=>(e.2 b g).trans) f c
def c06{w}{h'}{kvs}{vs}(z:kvs.length<=sizeLine)(c:(a==CV)=AF)(b:KV kvs vs)(d:h'.DictOf (Q0 P w) a vs):
  t4 P w H' h' a (.dK kvs):=⟨z,c,vs,b,d⟩
def b04{Q:Unit->AL->Prop}(N:A.units+20<Bs)(I:Inv X pins σ H s)(g:O9 H a y v H')(D:j7 y u)(F:j7 v r)(h:∀C,Inv X pins σ H' C->Q () C):
  AW (model X.prog X.w) A (KN (.ref a) u r) Q E s:=by
 rcases g with⟨f,k,e,t,l,x⟩|⟨f,k,b,e,t,K,l,x⟩
 ·subst t x;let{z,p,M,d,B}:=c78 I.hok e;have m:M.length<=sizeLine:=by rw[<-d.length];show z
  have o:(E5 f k v).length<=sizeLine:=by have:=a01 f k v;lia
  apply wpAny_setItem_pairs (hsz:=m) (aa8 D) B λG i n=>h _ ?_;have O:∃q,G.get? a=AA q:=let⟨q,_,_,j,_⟩:=i;⟨q,j⟩;show bf2 I (by rw[e];show Cb) n O (c06 o p (d.put k F) i)
 ·subst t x;cases(show u=At b from D);let{z,p,L,d,B}:=c86 I.hok e;have m:L.length<=sizeLine:=by rw[<-Paired.length d];show z
  have o:(E5 f k v).length<=sizeLine:=by have:=a01 f k v;lia
  apply wpAny_setItem_heap (hsz:=m) (NK.dataKind_room_in1 N) (O1 I.hok K) B λG i n=>h _ ?_;let{q,U,V,j,T,S,R,_,P}:=i;apply bf2 I (by rw[e];show Cb) n ⟨q,j⟩ {o,p,_,(d.put k K F).keeps λc W J=>?_,q,U,V,j,T,S,R,P};rw[l5 (dd7 J e (λz=>nomatch z))];show J
end
abbrev di2(i:AU):Prop:=∀ov iv,subscripted i AF ov iv=operate [ov,iv] (Du ov iv)
def ce5{prog}{w}{E}{env}{value slice}{T id}
  (k:Gj (.type T) "__getitem__"=pure (AA (.builtin id))) (j:di2 slice)
  (h:AW (model prog w) A (eval value env) (λo c=>AW (model prog w) A (eval slice env) (λi a=>a.TypeIs o T/\AW (model prog w) A (Du o i) Q E a) E c) E s) :
  AW (model prog w) A (eval (.Subscript value slice pos) env) Q E s:=by
 apply IJ (Bk h (λo c e=>Bk e (λi a b=>?_) λ_ _ x=>x) λ_ _ x=>x);let{l,b}:=b;apply AE ?_;apply AE (Bi l k ?_);have f:AW (model prog w) A (subscripted slice AF o i) (λr=>AW (model prog w) A (LZ value o r>>=λ_=>pure r) Q E) E a:=j o i▸LD (Bk b (λr g d=>AE (JZ (AK d))) λ_ _ x=>x)
 first
  |show AK (AE f)
  |grind
  |show AE f
def bv3(I:Inv X pins σ H s)(g:D4 H a y o):s.TypeIs (.ref a) "dict":=by
 rcases g with⟨c,k,e,_,_⟩|⟨c,k,b,e,_,_,_⟩
 ·let{_,_,h,_,d}:=U0 I.hok e;show d.typeIs
 ·let{_,_,f,_,d}:=R3 I.hok e;show d.typeIs
abbrev df8(td ty tv:TE):TS:=λD σ H=>tv σ H λv H1=>td σ H1 λx H2=>ty σ H2 λy H3=>∃a H4,x=.ref a/\O9 H3 a y v H4/\D.nx σ H4
section
variable {o i e value:AU} {pos' tpos:Pos} {td ty tv:TE}
def bj2(t:X.A.units+20<Bs)(z:PE X o td)(B:PE X i ty)(q:PE X value tv)(w:Cc value (AA (.Subscript o i pos')) pos.line X.env=pure AF):
  PS X (.Assign [.Subscript o i pos'] value pos) (df8 td ty tv):=by
 intro b s c H D I h;apply wpAny_Assign_Subscript (thn (q b s c H _ I h) λr f⟨v,M,J,l,p⟩=>thn (z b f c M _ J p) λu e⟨x,L,G,k,n⟩=>thn (B b e c L _ G n) λP O d=>?_) w;let{y,Q,F,j,a,K,C,g,m}:=d;subst C;obtain rfl:u=At a:=k;show b04 t F g j l λN E=>⟨c,K,E,m⟩
end
def b95{w:Aw}(h:Heap)(a:CV<h.objs.size):t4 P w H (h.push {cls:=.type "dict",data:=.dict #[]}) h.objs.size (.dK []):=
 {Av _,beq_eq_false_iff_ne.mpr (Ax (BO a)),[],.nil,Heap.DictOf.new h}
def ca3{w:Aw}(h:Heap)(a:CV<h.objs.size):t4 P w H (h.push {cls:=.type "dict",data:=.dict #[]}) h.objs.size (.dT []):=
 {Av _,beq_eq_false_iff_ne.mpr (Ax (BO a)),[],.nil,_,#[],0,Aj _ rfl,⟨rfl,rfl,rfl⟩,rfl,rfl,Kt}
abbrev cy4:TE:=λ_ H Q=>∀p,H p=AD->Q (.ref p) (upd H p (.dK []))
abbrev cq0:TE:=λ_ H Q=>∀p,H p=AD->Q (.ref p) (upd H p (.dT []))
section
def b99:PE X (.Dict [] [] pos) cy4:=λa s b H Q I h=>
 Ku {.ref s.heap.objs.size,_,I.laid (λ_ _=>AQ _) (AR _) (b95 s.heap I.big),rfl,h _ (I.hok.fresh (AR _))}
def b37:PE X (.Dict [] [] pos) cq0:=λa s b H Q I h=>
 Ku {.ref s.heap.objs.size,_,I.laid (λ_ _=>AQ _) (AR _) (ca3 s.heap I.big),rfl,h _ (I.hok.fresh (AR _))}
end
structure M1(X:Cx)(o:AU)(m:Str)(apos:Pos)(e:AU)(cpos:Pos):Prop where
 base:Cn o m X.env (eval o X.env)=eval o X.env
 few:((CC cpos (Am [e] X.env)).all (λx=>!x.1)&&(FH cpos (DX [] X.env)).all (λx=>x.1.isSome)
  &&AB (([e]:List AU).length+([]:List Hw).length+(if([]:List Hw).isEmpty then 0 else 1)<30))=AC
 line:(apos.endLine==cpos.line)=AC
 trees:CC cpos (Am [e] X.env)=[(AF,eval e X.env)]
abbrev IsD(H:Hp)(a:AI):Prop:=(∃kvs,Rd H a (.dK kvs))\/∃kvs,Rd H a (.dT kvs)
def cs8(I:Inv X pins σ H s)(d:IsD H a):
  s.TypeIs (.ref a) "dict"/\(∀b,At a=.ref b->∃c,s.heap.get? b=AA c/\c.dict=AD)/\(a==CV)=AF:=by
 rcases d with⟨g,e⟩|⟨g,e⟩
 ·let{_,h,l,_,f}:=U0 I.hok e;apply{f.typeIs,λb q=>?_,h};cases q;let{c,_,_,j,i,_}:=f;show⟨c,j,i.2.1⟩
 ·let{_,h,k,_,f}:=R3 I.hok e;apply{f.typeIs,λb q=>?_,h};cases q;let{c,_,_,j,i,_}:=f;show⟨c,j,i.2.1⟩
section
variable {d:V} {r:AG} {E:AG->AL->Prop}
def cp9(r:A.units+20<Bs)(I:Inv X pins σ H s)(g:D4 H a y o)(p:j7 y u)(h:∀m n,Inv X pins σ H n->j7 (o.getD .non) m->Q m n):
  AW (model X.prog X.w) A (call (.builtin "dict.get") [.ref a,u]) Q E s:=by
 rcases g with⟨f,k,e,j,l⟩|⟨f,k,b,e,j,t,l⟩
 ·subst j;let{z,i,v,c,d}:=U0 I.hok e;apply call_meetsIn PySem.F.slot_dict_get d.typeIs PySem.F.entry_dict_get (PySem.F.args_dict_get_2 _ _) (meets_dict_get (Q0 X.prog X.w) a (aa8 p) i) {_,d.mapOf,h _ _ (I.tok _) ?_};rw[l];show(c.val k).getD rfl
 ·subst j;cases(p);let{z,i,q,c,d}:=R3 I.hok e;apply call_meetsIn PySem.F.slot_dict_get d.typeIs PySem.F.entry_dict_get (PySem.F.args_dict_get_2 _ _) (meetsH_dict_get (NK.dataKind X.prog X.w) a b i) {NK.dataKind_room_in1 r,k,q,O1 I.hok t,d,h _ _ (I.tok _) ?_};rw[l];show(c.val k).getD rfl
end
abbrev cz0(td ty:TE):TE:=λσ H Q=>td σ H λx H1=>∃a,x=.ref a/\IsD H1 a/\ty σ H1 λy H2=>∃o,D4 H2 a y o/\Q (o.getD .non) H2
section
variable {o e f:AU} {apos cpos:Pos} {td ty tx:TE}
def b62(v:X.A.units+20<Bs)(w:PE X o td)(z:PE X e ty)(m:M1 X o "get" apos e cpos):PE X (.Call (.Attribute o "get" apos) [e] [] cpos) (cz0 td ty):=by
 intro b s i H Q I h;apply KQ m.base m.few m.line PySem.F.plainAttrs_dict PySem.F.slot_dict_get PySem.F.type_dict_get (thn (w b s i H _ I h) λu n c=>?_);let{x,G,j,q,a,B,d,t}:=c;subst B;obtain rfl:u=At a:=q;let{l,k,_}:=cs8 j d;apply{l,k,?_};rw[m.trees];show DM rfl (FI (DF (thn (z b n i G _ j t) λN L⟨y,E,D,p,M,g,r⟩=>EK (cp9 v D g p λJ K C f=>⟨_,E,C,f,r⟩))))
end
end
end L2
namespace Att
open PySem PySem.W PySem.Calls PyProof.Rows
def bt2{P}{h}:∀c(e),WellAll P h e (c.map LF)->JG e c:=by
 intro c
 induction c with
 |nil=>
  intro e w;cases w;show .nil
 |cons n c g=>
  intro e w;cases w with
  |cons a b=>
   cases a;show .cons _ _ (g _ b)
def b23{l:OpenLaw}{n}(t:l.most=AA n){P}{h}{args}{vals}
  (b:l.row.toRowW.claim.pre args=AC) (g:WellAll P h vals args) :
  ∃a k c,vals=[At a]/\args=[WData.list (c.map LF)]/\h.get? a=AA {cls:=.type "list",data:=.seq k.toArray}/\JG k c/\c.length<=n:=by
 have i:=(pre_splitW b).1;have u:=(pre_splitW b).2;let{d,r,rfl,x,w}:=hasAllW_cons i;obtain rfl:=hasAllW_nil w;let{y,rfl,v}:=hasW_list x;let{c,rfl}:=items_int v;have e:c.length<=n:=by
  have j:=by
   have j:=(holds_andW u).1;rwa[t]at j
  have z:=condW_of j (w_not (w_lt w_lit (w_len_list (w_arg rfl))));first
   |rfl
   |simp_all
 cases g with
 |cons q p=>
  cases p;cases q with
  |list s f=>show{_,_,c,rfl,rfl,s,bt2 c _ f,e}
def bz3(l:OpenLaw)args:l.row.toRowW.claim.post args (.bool AC) args=AC:=
 postW_of
  rfl
  (w_eq_bool (w_res rfl) w_lit) rfl
def attach_call{l:OpenLaw}{n}{q}{loose}{XP}{YP}{d}
  (M:l.most=AA n) (B:d.params.defaults=[])
  (p:∀w(c b)u y(m)(o)x v g(a)(h)t,
   Ground q loose [] XP w c u y b.heap->YP w b.heap ->
   b.heap.get? m=AA o->o.data=.func (docDef d.name d.params d.body d.scope x v g)->b.heap.CodeRec v d.name->u d.name=AA (.ref m) ->
   b.heap.get? a=AA {cls:=.type "list",data:=.seq h.toArray}->JG h t->t.length<=n->b.gens=#[] ->
   EL (model l.prog w) Hy (.call (.ref m) {[.ref a],[]}) (λr s=>r=.ok (.ret (.bool AC))/\OldK b.heap s.heap/\s.os=b.os/\Gv s.gens) b) :
  WalkO q loose XP YP l.row.toRowW d [] (λf h=>PySem.call f h):=by
 intro w c b u y G Y m o x v g U I L Q C F A P H D V i E J z O;obtain rfl:U=.none:=Dflts.none F B;obtain rfl:I=.none:=Dflts.noKw F;let{a,h,t,rfl,rfl,j,e,k}:=b23 M i z;apply enter_call (HB (p w c b u y m o x v g a h t G Y L (fd_plain Q) C A j e k P) λr s K=>?_);let{rfl,T,S,R}:=K;show{.inl {.bool AC,.bool AC,[],rfl,λ_=>rfl,.bool AC,bz3 l _,λ_=>{Kv,λ_ N=>(nomatch N)}},T,S,R}
section
variable {prog:Al} {w:Aw} {A:BW} {E:AG->AL->Prop} {s:AL} {K:Frag}
abbrev dn8(h:Heap)(L d:AI):List (AI×Obj):=(CZ h.objs.size).filterMap λa=>if a=L\/a=d then AD else(h.get? a).map λo=>(a,o)
end
end Att
namespace L2
open PySem PySem.Spec PyProof.Rows
theorem bb0:∀{a}{b},JG a b->i7 (b.map V.int) a
 |_,_,.nil=>.nil
 |_,_,.cons n t h=>.cons ⟨t,rfl⟩ (bb0 h)
abbrev B1(s:BR):Co:=match s with
 |.FunctionDef _ a _ _ _ _ _ _ _ _=>a
 |_=>{posonlyargs:=[],args:=[],vararg:=AD,kwonlyargs:=[],kw_defaults:=[],kwarg:=AD,defaults:=[]}
abbrev C5(s:BR):List BR:=match s with
 |.FunctionDef _ _ b _ _ _ _ _ _ _=>b
 |_=>[]
abbrev p9(s:BR):BL:=match s with
 |.FunctionDef _ _ _ _ _ _ sc _ _ _=>sc
 |_=>{kind:=.function,names:=[],isGenerator:=AF,isCoroutine:=AF}
@[reducible]noncomputable def CX0:CXT:=λ_ _ _ _ _ _=>False
@[reducible]noncomputable def E0:XK:=λ_ _ _=>False
def O3{X:Cx}:V9 CX0 X E0:=λ_ _ _ _ _ _ _ h=>h.elim
def a93{n:Nat}(h:n<=1000):n<sizeLine:=Ea h ∅
abbrev G9(H H':Hp):Prop:=∀b o,H b=AA o->H' b=AA o
def G9.refl(H:Hp):G9 H H:=λ_ _ h=>h
def G9.trans{H H1 H2}(a:G9 H H1)(b:G9 H1 H2):G9 H H2:=λc o h=>b c o (a c o h)
variable{s:AL}{scope:BL}{env:Env}{cells:List (Str×AI)}{x:Str}{X:Cx}{Nc:List Str}{fr:List Nat}{C:AI}{fp:List AI}{pins:List (AI×Obj)}{σ:St}{H:Hp}
def bu4{prog}{w}{A}{R:JA->AL->Prop}{elt target iter}{q:List AU}{pos}{it acc}(I:Nat->AL->Prop)
  (o:∀n s,I n s->AW (model prog w) A (FR it) (λr d=>match r with
   |none=>R (.ok .next) d
   |some v=>AW (model prog w) A (Fb target it v) (λ_ b=>AW (model prog w) A (assign target env v) (λ_ i=>
     AW (model prog w) A (forIn q AC λc r=>if r=AC then do let p <-IF c env (eval c env);pure (CJ p)else pure (CJ r)) (λp a=>
      if p=AC then AW (model prog w) A (eval elt env) (λx g=>
       AW (model prog w) A (call (.builtin "list.append") [acc,x]) (λ_ f=>∃m,m<n/\I m f) (λ_ _=>False) g) (λ_ _=>False) a
      else ∃m,m<n/\I m a) (λ_ _=>False) i) (λ_ _=>False) b) (λ_ _=>False) d) (λ_ _=>False) s)
  (n:Nat) (h:I n s) :
  EL (model prog w) A (.compLoop (.ListComp elt [{target,iter,q,0}] scope pos) 0 it acc env) R s:=by
 apply codeAny_loop rfl I (λn s z=>?_) n h;apply wpAny_noted ?_;rw[compTurn_list];apply AE (Ga (AE (Bk (o n s z) (λr d k=>?_) λ_ _ e=>e.elim)));cases r with
 |none=>show AK k
 |some v=>
  apply AE (Bk k (λ_ b l=>?_) λ_ _ e=>e.elim);apply AE (Bk l (λ_ i y=>AE (Bk y (λp a j=>?_) λ_ _ e=>e.elim)) λ_ _ e=>e.elim);cases p with
  |false=>show AK ⟨rfl,j⟩
  |true=>
   show AE (AE (Bk j (λx g u=>AE (Bk u (λ_ f t=>AK (AK ⟨rfl,t⟩)) λ_ _ e=>e.elim)) λ_ _ e=>e.elim))
abbrev A8(cells:List (Str×AI)):List (Str×Fy)->List (Str×AI)->List (Str×AI)
 |[],acc=>acc
 |(n,k)::r,acc=>A8 cells r (if k==.free then(match cells.lookup n with|some a=>(n,a)::acc|none=>acc)else acc)
theorem an5:∀(b:List (Str×Fy))(c:List (Str×AI)),(∀x∈b,x.2=.free->(env.cells.lookup x.1).isSome=AC) ->
  (forIn b c λx r=>match x with
   |(d,e)=>if(e==Az)=AC then do let a <-La env d;pure (CJ ((d,a)::r))else pure (CJ r):Sem (List (Str×AI)))=pure (A8 env.cells b c)
 |[],c,_=>rfl
 |(n,k)::r,c,h=>by
  have f:=λx i=>h x (Ae _ i);rw[KF];cases hk:(k==Az)with
  |false=>
   erw[hk,BN,if_false,pure_bind];rw[an5 r c f];erw[A8,hk,BN,if_false]
  |true=>
   have j:=by simpa using hk
   let{a,g}:=BU.mp (h (n,k) Bu j);have l:La env n=pure a:=by unfold La;rw[g]
   erw[hk,if_true,l,pure_bind];rw[an5 r _ f];erw[A8,hk,if_true,g]
def an6{env}(h:∀x∈scope.names,x.2=.free->(env.cells.lookup x.1).isSome=AC):IM scope env=pure (A8 env.cells scope.names []):=by
 have e:=an5 scope.names [] h;change(forIn scope.names [] λx r=>match x with
   |(b,c)=>if(c==Az)=AC then do let a <-La env b;pure (CJ ((b,a)::r))else pure (CJ r):Sem (List (Str×AI)))>>=pure=_
 rw[e];rfl
theorem bc8:∀{b}{d}{x}{c},(x,c)∈A8 cells b d->(x,c)∈d\/cells.lookup x=AA c/\(x,Az)∈b
 |[],d,x,c,h=>.inl h
 |(n,k)::r,d,x,c,h=>by
  unfold A8 at h
  rcases bc8 h with f|⟨f,i⟩
  ·cases hk:k==Az with
   |false=>simp_all
   |true=>
    have g:=by simpa using hk
    subst g;cases hc:cells.lookup n with
    |none=>rw[hc]at f;show .inl f
    |some a=>
     rw[hc]at f
     rcases AM.mp f with e|e
     ·simp_all
     ·show .inl e
  ·simp_all
theorem be9:∀{a}{b}{x}{c},cells.lookup x=AA c->(x,Az)∈a\/(x,c)∈b->(x,c)∈A8 cells a b
 |[],b,x,c,_,h=>by
  rcases h with h|h
  ·cases h
  ·show h
 |(n,k)::r,b,x,c,d,h=>by
  unfold A8;apply be9 d ?_
  rcases h with h|h
  ·rcases AM.mp h with e|e
   ·simp_all
   ·show .inl e
  ·apply .inr ?_
   split
   ·split
    ·show Ae _ h
    ·show h
   ·show h
def an2{α}{l:List (Str×α)}{a}(h:l.lookup x=AA a):=PySem.mem_of_lookup h
theorem a83{c:Type}:∀{l:List (Str×c)}{x}{a},(x,a)∈l->∃b,l.lookup x=AA b
 |[],_,_,h=>by cases h
 |(y,b)::r,x,a,h=>by
  rw[EC];cases e:x==y with
  |true=>show⟨b,rfl⟩
  |false=>
   rcases AM.mp h with z|z
   ·grind
   ·show a83 z
def P4{names}{c}(h:(A8 cells names []).lookup x=AA c):cells.lookup x=AA c/\(x,Az)∈names:=by
 rcases bc8 (an2 h)with z|z
 ·cases z
 ·show z
def ac9{names}{c}(h:cells.lookup x=AA c)(a:(x,Az)∈names):(A8 cells names []).lookup x=AA c:=by
 let{b,d}:=a83 (be9 h (.inl a));have:=(P4 d).1;grind
structure CompScope(X:Cx)(scope:BL)(Nc:List Str)(fr:List Nat)(k:Nat):Prop where
 kind:scope.kind=.function
 nocell:∀y∈scope.names,y.2≠.cell
 names:∀y∈scope.names,y.2=.local->scope.names.lookup y.1=AA .local
 frees:∀y∈scope.names,y.2=.free->X.env.scope.names.lookup y.1=AA .cell\/X.env.scope.names.lookup y.1=AA .free
 uniq:∀y∈scope.names,y.2=.free->(y.1,NameKind.local)∉scope.names
 nd:Nc.Nodup
 len:Nc.length=fr.length+k
 fre:∀i x,Nc[i]?=AA x->i<fr.length->∃j,fr[i]?=AA j/\X.N[j]?=AA x/\(x,Az)∈scope.names
abbrev M5(fr:List Nat)(k:Nat)(σ:St):St:=(fr.map λj=>(σ[j]?).join)++Ab k AD
def bu5(h:(relabel scope env).names.lookup x=AA .cell\/(relabel scope env).names.lookup x=AA .free)(g:∀y∈scope.names,y.2≠.cell):(x,Az)∈scope.names:=by
 have b:∀k,(relabel scope env).names.lookup x=AA k->k=.cell\/k=.free->(x,Az)∈scope.names:=by
  intro k e d;have c:=an2 e;let{{n,f},i,a}:=CO.mp c;dsimp only at a
  split at a
  ·grind
  ·grind
 rcases h with h|h
 ·show b _ h (.inl rfl)
 ·show b _ h (.inr rfl)
def bu7:∀{k},(relabel scope env).names.lookup x=AA k->∃b,(x,b)∈scope.names/\(k=b\/b=.free/\k=.cell):=by
 intro k f;have e:=an2 f;let{{n,b},d,c}:=CO.mp e;dsimp only at c
 split at c
 ·rename_i a;cases c;apply{_,d,.inr {?_,rfl}};simp at a;show a.1.1
 ·cases c;show{_,d,.inl rfl}
abbrev Cx.comp(X:Cx)(scope:BL)(Nc:List Str)(C:AI)(fp:List AI)(pins:List (AI×Obj))(s:AL)(H:Hp):Cx:=
 {X with N:=Nc,s₀:=s,H₀:=H,env:=Lb scope (A8 X.env.cells scope.names []) C X.env,outer:=X.stack,stack:=X.stack,ex:=fp,fn:=λ_=>AF,pn:=X.pn++pins,xe:=λ_ _=>False,ow:=λ_=>AF}
def Cx.comp_ok{k}(S:CompScope X scope Nc fr k)(I:Inv X pins σ H s)
  (l:s.heap.objs.size<=C) (i:∀b∈fp,D5 X pins H b) (g:∀b∈fp,b<s.heap.objs.size):(X.comp scope Nc C fp pins s H).Ok where
 mod:=I.ok.mod
 kind:=S.kind
 glob:=I.ok.glob
 blt:=I.ok.blt
 above:=l
 inj:=λx y c a f=>I.ok.inj x y c (P4 a).1 (P4 f).1
 has:=λx h=>by
  have j:=bu5 h S.nocell;have m:=S.frees _ j rfl;let{c,n}:=I.ok.has x m;show{c,ac9 n j}
 cab:=λx c h _=>h.elim (λz=>nomatch z) λz=>nomatch z
 hd:=I.ok.hd
 frames:=I.ok.frames
 stk:=.inl rfl
 exf:=λb d=>⟨λz=>by have a:=g b d;have f:=z;rw[f]at a;show absurd a (Lc.mpr l),λx c h=>(i b d).2.2.2.2.1 x c (P4 h).1⟩
 bs:=I.bs
 bsz:=Ap I.ok.bsz I.sz
 noex:=λb o e d=>by
  let{q,a,f,p,t,r}:=i b d
  rcases p with z|z
  ·show I.ok.noex b o e z
  ·have:=(I.ok.bs b o e).1;show absurd (An (BC this) z) (DW _)
 exfs:=λb d z=>by
  let{q,a,f,_}:=i b d
  rcases AM.mp (I.stkSub b z)with e|e
  ·show a e
  ·show f e
 funs:=I.stack
 frf:=I.stkFree
def bw6{k:Nat}{t:Heap}{N:Nat}(S:CompScope X scope Nc fr k)(I:Inv X pins σ H s)
  (F:s.heap.objs.size<=C) (hf:∀b∈fp,D5 X pins H b) (B:∀b∈fp,b<s.heap.objs.size) (h:∀b o,s.heap.get? b=AA o->t.get? b=AA o) (Y:t.Ns C (λ_=>AD)) :
  Inv (X.comp scope Nc C fp pins s H) [] (M5 fr k σ) H {s with heap:=t,toks:=N}:=by
 have D:H C=AD:=I.hok.fresh F;apply{Cx.comp_ok S I F hf B,rfl,I.bare,Un.kept h,{_,Y,λi x v e1 a e3=>?_},λx c e=>?_,D,λx c e=>(I.freeC x c (P4 e).1).imp id λz=>⟨rfl,z.2⟩,λp V=>?_,I.hok.kept h,?_}
 ·have n:i<fr.length:=by
   unfold M5 at a
   by_cases n:i<fr.length
   ·show n
   ·rw[Ai (by simpa using n),DU]at a
    split at a<;>cases a
  let{j,hj,hN,w}:=S.fre i x e1 n;have J:σ[j]?=AA (AA v):=by
   unfold M5 at a;rw[AZ (by simpa using n),AY,hj]at a;erw[Gc,CH]at a;cases q:σ[j]? with
   |none=>rw[q]at a;cases a
   |some o=>rw[q]at a;show congrArg AA a
  let{m,W,Z}:=I.loc;have g:Vis X.env.scope x:=by
   rcases S.frees _ w rfl with z|z
   ·show .inr (.inl z)
   ·show .inr (.inr z)
  let{u,r,l}:=Z j x v hN J g;apply{u,r,?_}
  rcases l with⟨L,_⟩|⟨L,c,U,T⟩
  ·exfalso;have f:X.env.scope.names.lookup x=AA .local:=L
   rcases S.frees _ w rfl with z|z
   ·rw[f]at z;cases z
   ·rw[f]at z;cases z
  ·apply .inr {?_,c,ac9 U w,?_}
   ·have G:Vis (relabel scope X.env) x:=e3
    rcases G with z|z|z
    ·exfalso;let{k',t,d}:=bu7 z
     rcases d with d|d
     ·subst d;show S.uniq _ w rfl t
     ·cases d.2
    ·show .inl z
    ·show .inr z
   ·let{o,A,E}:=T;show{o,h _ _ A,E}
 ·let{v,o,A,E}:=I.cell x c (P4 e).1;show{v,o,h _ _ A,E}
 ·have y:p∈X.pn++pins:=by
   have:p∈(X.pn++pins)++[]:=V;simpa using this
  let{K,R,Q,P,O}:=I.pin p y;apply{h _ _ K,R,λz=>?_,λz=>?_,O}
  ·have d:p.1=C:=z;have M:=BC K;rw[d]at M;show absurd M (Lc.mpr F)
  ·rcases AM.mp (I.stkSub p.1 z)with e|e
   ·show Q e
   ·show P e
 ·unfold M5;rw[Af,AX,DG];show S.len.symm
def b26{pl}{c:St}{H'}{s'}(I:Inv X pins σ H s)(f:∀b∈fp,D5 X pins H b)
  (a:Inv (X.comp scope Nc C fp pins s H) pl c H' s'):Inv X pins σ H' s':=by
 let{m,g,d,t,e}:=s';obtain rfl:e=s.os:=a.os;show I.call a.base a.hok a.bare λb h=>by
  let{o,l,n,k,j,i}:=f b h;show⟨k,l,j,i⟩
def a08{d:St}{H0}{s0}{h'}(a:Inv X pins d H0 s0)hC(I:Inv X pins σ H s)hn
  (f:Heap.SameBut C s.heap h'):=by
 apply I.turned (t':=s.toks) (λb o h=>(f.2 b h).trans) hn ?_ (.inr (Ap a.sz hC)) ?_ ?_
 ·show λz=>absurd (An a.lt hC) (by simp_all)
 ·intro x c e z;let{v,q}:=a.cell x c e;show absurd (An q.lt hC) (by simp_all)
 ·intro p g z;show absurd (An (BC (a.pin p g).1) hC) (by simp_all)
abbrev at6(fr:List Nat)(k:Nat)(wi:TI)(g:TG)(tc:TT)(te:TE)(fin:V->Hp->Prop):St->Hp->Prop:=λσ H=>
 wi σ H λJ H1=>∀p,H1 p=AD->∃W:Nat->Nat->St->Hp->Prop,(∃m,W 0 m (M5 fr k σ) (upd H1 p (.lst [])))/\∀i m σc H2,W i m σc H2 ->
  (J.stop i H2/\fin (.ref p) H2)\/(J.go i H2/\∃N:St->Hp->Prop,(∀σ' H',N σ' H'->∃m',m'<m/\W (i+1) m' σ' H') /\
   ∀x H3,J.yld i H2 x H3->g x σc H3 λσ4 H4=>tc σ4 H4 λb H5=>if b=AC then te σ4 H5 λv H6=>∃ys,H6 p=AA (.lst ys)/\ys.length<sizeLine/\N σ4 (upd H6 p (.lst (ys++[v])))else N σ4 H5)
abbrev PCs(X:Cx)(ifs:List AU)(t:TT):Prop:=
 ∀(pins:List (AI×Obj))(s:AL)(σ:St)(H:Hp)(Q:Bool->Hp->Prop),Inv X pins σ H s->t σ H Q ->
  AW (model X.prog X.w) X.A (forIn ifs AC λc r=>if r=AC then do let ok <-IF c X.env (eval c X.env);pure (CJ ok)else pure (CJ r)) (TP X pins σ Q) X.xe s
abbrev c50:TT:=λ_ H Q=>Q AC H
def cl3:PCs X [] c50:=λ_ _ _ H _ I h=>wpAny_tests_nil ⟨H,I,h⟩
def cm3{c}{t}(d:PT X c t):PCs X [c] t:=λa s b H Q I h=>wpAny_tests_one (d a s b H Q I h)
section
variable {k:Nat} {tg iter elt:AU} {ifs:List AU} {wi:TI} {g:TG} {tc:TT} {te:TE} {pos:Pos}
def a80(hc:X.calm=AC)(S:CompScope X a Nc fr k)(hg:∀C t f s H,PG (X.comp a Nc C t f s H) tg g)(ht:∀C t f s H,PCs (X.comp a Nc C t f s H) ifs tc)(he:∀C t f s H,PE (X.comp a Nc C t f s H) elt te)
  {f:List (AI×Obj)} {σ:St} {j:AL} {L:Hp} {it:AI} {t:List AI} {tn:Nat->Heap->Prop} {J:It} {fin:V->Hp->Prop} {RR:AG->AI->JA->AL->Prop} {E:AG->AL->Prop}
  (I2:Inv X f σ L j) (T:Turn X.prog X.w X.K tg J t it tn) (st2:tn 0 j.heap) (f2:∀b∈t,D5 X f L b)
  (h:∀p,L p=AD->∃W:Nat->Nat->St->Hp->Prop,(∃m,W 0 m (M5 fr k σ) (upd L p (.lst [])))/\∀i m σc L,W i m σc L ->
   (J.stop i L/\fin (.ref p) L)\/(J.go i L/\∃N:St->Hp->Prop,(∀F I,N F I->∃m',m'<m/\W (i+1) m' F I) /\
    ∀x H3,J.yld i L x H3->g x σc H3 λZ c=>tc Z c λb H5=>if b=AC then te Z H5 λv H6=>∃ys,H6 p=AA (.lst ys)/\ys.length<sizeLine/\N Z (upd H6 p (.lst (ys++[v])))else N Z H5))
  (hRR:∀(D C:AI)(I:Hp)(s':AL)(s3:AL)(H3:Hp)(m':Str->Option AG),Inv X f σ H3 s3->s3.heap.objs.size<=C->Inv X f σ I s'->I C=AD->s'.heap.Ns C m'->fin (.ref D) I->RR (.ref D) C (.ok .next) s') :
  AW (model X.prog X.w) X.A (newList []) (λb G=>AW (model X.prog X.w) X.A (Ld a X.env.globals (A8 X.env.cells a.names []) [] X.env.qual AD .none (AA X.env)) (λcenv s₄=>
   EL (model X.prog X.w) X.A (.compStart (.ListComp elt [{tg,iter,ifs,0}] a pos) 0 (.ref it) b {cenv with scope:=relabel a X.env}) (RR b cenv.locals) s₄) E G) E j:=by
 have hp:=I2.hok.fresh (AR j.heap.objs.size);let{W,{m0,w0},turn}:=h j.heap.objs.size hp;apply Ba (Ja S.nocell (by intro y hy;simp at hy) (λM P O=>?_) S.kind);have I3:Inv X f σ (upd L j.heap.objs.size (.lst [])) {j with heap:=j.heap.push {cls:=.type "list",dict:=AD,data:=.seq ([]:List AG).toArray}}:=
  I2.laid (t':=j.toks) (λb u e=>AQ _ e) (AR _) {Av _,[],0,.nil,Aj _ rfl}
 have hlt2:∀b∈t,b<j.heap.objs.size:=λb B=>by
  let{o,e,_}:=T.obj _ _ st2 b B;show BC e
 have f3:∀b∈t,D5 X f (upd L j.heap.objs.size (.lst [])) b:=λb B=>by
  let{q0,q}:=f2 b B;show{by rw[l5 (BO (hlt2 b B))];show q0,q}
 generalize hH3:(j.heap.push {cls:=.type "list",dict:=AD,data:=.seq ([]:List AG).toArray}:Heap)=g3 at I3 P O ⊢;have hsz:g3.objs.size=j.heap.objs.size+1:=by rw[<-hH3,Cd]
 have hlt3:∀b∈t,b<g3.objs.size:=λb B=>by rw[hsz];show JR (hlt2 b B)
 have k3:∀b o,g3.get? b=AA o->M.get? b=AA o:=λb o e=>O.extBut b o (BO (BC e)) (AQ _ e);have st3:tn 0 g3:=T.keep _ _ _ st2 λb _ o e=>by rw[<-hH3];show AQ _ e
 have st4:tn 0 M:=T.keep _ _ _ st3 λb _ o e=>k3 b o e;have I4:Inv (X.comp a Nc g3.objs.size t f {j with heap:=g3} (upd L j.heap.objs.size (.lst []))) [] (M5 fr k σ) (upd L j.heap.objs.size (.lst [])) {j with heap:=M,toks:=j.toks+([]:List (Str×AG)).length}:=
  bw6 (s:={j with heap:=g3}) S I3 (AR _) f3 hlt3 k3 P
 generalize l:X.comp a Nc g3.objs.size t f {j with heap:=g3} (upd L j.heap.objs.size (.lst []))=Xc at I4;have eA:Xc.A=X.A:=by rw[<-l];rfl
 have eP:Xc.prog=X.prog:=by rw[<-l];rfl
 have ew:Xc.w=X.w:=by rw[<-l];rfl
 have eK:Xc.K=X.K:=by rw[<-l];rfl
 have ec:Xc.calm=AC:=by rw[<-l];show hc
 have ee:Xc.env=Lb a (A8 X.env.cells a.names []) g3.objs.size X.env:=by rw[<-l];rfl
 have ex:Xc.xe=λ_ _=>False:=by rw[<-l];rfl
 have T':Turn Xc.prog Xc.w Xc.K tg J t it tn:=by rw[eP,ew,eK];show T
 have R:∀{I:Hp},(∀b∈t,I b=AD)->∀b∈t,D5 Xc [] I b:=λhn b B=>by
  let{q0,q1,q2,q3,q4,q5}:=f3 b B;subst l;apply{hn b B,BO (hlt3 b B),λz=>?_,.inl B,λx c e=>q4 x c (P4 e).1,λp hp=>q5 p ?_}
  ·rcases AM.mp (I3.stkSub b z)with e|e
   ·show q1 e
   ·show q2 e
  ·have:p∈(X.pn++f)++[]:=hp;simpa using this
 have loop:∀G:AL,G={j with heap:=M,toks:=j.toks+([]:List (Str×AG)).length} ->
   EL (model X.prog X.w) X.A (.compLoop (.ListComp elt [{tg,iter,ifs,0}] a pos) 0 (.ref it) (.ref j.heap.objs.size) (Lb a (A8 X.env.cells a.names []) g3.objs.size X.env)) (RR (.ref j.heap.objs.size) g3.objs.size) G:=by
  rintro G rfl;rw[<-ee,<-eA,<-eP,<-ew];apply bu4 (λn s'=>∃i F I,Inv Xc [] F I s'/\tn i s'.heap/\(∀b∈t,I b=AD)/\W i n F I) ?_ m0 {0,_,_,I4,st4,λb B=>(f3 b B).1,w0};rintro n s5 ⟨i,σ5,H5,I5,st5,fr5,w5⟩
  rcases turn i n σ5 H5 w5 with⟨stop,qn⟩|⟨go,N,hN,step⟩
  ·apply thn (T'.done Xc rfl rfl rfl ec i [] s5 σ5 H5 _ I5 (R fr5) st5 stop) λr s6⟨hr,I6⟩=>?_;subst hr;subst l;let{m',hm,_}:=id I6.loc;show hRR _ _ H5 s6 _ _ m' I3 (AR _) (b26 I3 f3 I6) I6.free hm qn
  ·apply thn (T'.item Xc rfl rfl rfl ec i [] s5 σ5 H5 _ I5 (R fr5) st5 go) λr a⟨u,hr,h6⟩=>?_;subst hr;apply thn h6 λ_ s7 z30=>?_;let{x,H7,I7,r7,y7,st7,fr7}:=z30;have I7':=I7.pinned (R fr7) (T.obj _ _ st7);have hgX:PG Xc tg g:=by rw[<-l];show hg _ _ _ _ _
   have htX:PCs Xc ifs tc:=by rw[<-l];show ht _ _ _ _ _
   have heX:PE Xc elt te:=by rw[<-l];show he _ _ _ _ _
   have U:∀{s9:AL}{Q:St}{H9:Hp},Inv Xc ([]++aa3 t s7.heap) Q H9 s9->N Q H9->∃m,m<n/\∃i F I,Inv Xc [] F I s9/\tn i s9.heap/\(∀b∈t,I b=AD)/\W i m F I:=λ{s9 Q H9}I9 n9=>by
    let{m',hm,w9}:=hN Q H9 n9;apply{m',hm,i+1,Q,H9,I9.unpinned,T.keep _ _ _ st7 λb B o e=>(I9.pin (b,o) (BJ _ (BJ _ (ac2 B e)))).1,λb B=>?_,w9};let{o,e,d}:=T.obj _ _ st7 b B;show(I9.pin (b,o) (BJ _ (BJ _ (ac2 B e)))).2.1
   have hgw:=hgX _ s7 σ5 H7 x u _ I7' r7 (step x H7 y7);rw[ex]at hgw;apply thn hgw λ_ s8 z31=>?_;let{Y,H8,I8,q8}:=z31;have htw:=htX _ s8 Y H8 _ I8 q8;rw[ex]at htw;apply thn htw λok s9⟨H9,I9,q9⟩=>?_;cases ok with
   |false=>
    rw[if_neg AJ]at q9 ⊢;show U I9 q9
   |true=>
    rw[if_pos rfl]at q9 ⊢;have hew:=heX _ s9 Y H9 _ I9 q9;rw[ex]at hew;apply thn hew λxv s10 z32=>?_;let{v,H10,I10,r10,ys,hys,hlen,n10}:=z32;have hap:=a97 (X:=Xc) _ s10 Y H10 (.ref j.heap.objs.size) [v] (.ref j.heap.objs.size) [xv] (λ_ H11=>N Y H11) I10 rfl (.cons r10 .nil) ⟨_,ys,v,rfl,rfl,hys,hlen,n10⟩;rw[ex]at hap;show thn hap λ_ s11⟨_,H11,I11,_,n11⟩=>U I11 n11
 show codeAny_compStart_list (loop _ rfl) (T.self _ 0 _ _ _ st4 (loop _ rfl))
def a82(S:CompScope X scope Nc fr k)(I:Inv X pins σ H s):∀x∈scope.names,x.2=.free->(X.env.cells.lookup x.1).isSome=AC:=λx a b=>by
 let{c,e}:=I.ok.has x.1 (S.frees x a b);rw[e];rfl
def cc7(v:X.calm=AC)(S:CompScope X scope Nc fr k)(r:PI X tg iter wi)(t:∀C b a s H,PG (X.comp scope Nc C b a s H) tg g)(n:∀C b a s H,PCs (X.comp scope Nc C b a s H) ifs tc)(u:∀C b a s H,PE (X.comp scope Nc C b a s H) elt te)
  (o:∀x,Dc iter X.env x=pure x:=by intro _;rfl):PE X (.ListComp elt [{tg,iter,ifs,0}] scope pos) (λc H Q=>at6 fr k wi g tc te Q c H):=by
 intro a s c H Q I h;rw[eval_ListComp];apply IZ (use:=AD) (cl:=A8 X.env.cells scope.names []) rfl o (an6 (a82 S I)) S.kind S.names ?_;apply thn (r a s c H _ I h) λM R B=>thn B λm P z=>?_;let{V,b,N,J,Z,e,G,T,d,E,h}:=z;subst e;apply a80 (RR:=λi C=>compPost (model X.prog X.w) X.A X.xe AD (EP X a c Q) i C) v S t n u G T d E h ?_;intro D C L U O Y l F y K p f q;show{l,f,λW j=>{.ref D,L,a08 F y K p j,rfl,q}}
def bw7{i:Nat}{y:Str}{j b:Pos}(hc:X.calm=AC)(hN:X.N.Nodup)(K:X.N[i]?=AA y)(hy:Loc X.env.scope y)(L:X.fn y=AC\/X.env.scope.names.lookup y=AA .local)
  (S:CompScope X scope Nc fr k) (hi:PI X tg iter wi) (hg:∀C l a s H,PG (X.comp scope Nc C l a s H) tg g) (ht:∀C l a s H,PCs (X.comp scope Nc C l a s H) ifs tc) (he:∀C l a s H,PE (X.comp scope Nc C l a s H) elt te)
  (E:Cc (.ListComp elt [{tg,iter,ifs,0}] scope pos) (AA (.Name y j)) b.line X.env=pure AC)
  (hs:∀x,Dc iter X.env x=pure x:=by intro _;rfl):PS X (.Assign [.Name y j] (.ListComp elt [{tg,iter,ifs,0}] scope pos) b) (λD f H=>at6 fr k wi g tc te (λv m=>D.nx (f.set i (AA v)) m) f H):=by
 intro a s f H D I h;rw[exec_Assign_Name_used _ _ _ _ E];apply AE (Ga (AE ?_));change AW _ X.A (do let _ <-comprehension (.ListComp elt [{tg,iter,ifs,0}] scope pos) scope X.env _ (newList []) AF (eval iter X.env) (AA (assign (.Name y j) X.env))) _ _ s;apply AE (Bk (IZ (use:=AA (assign (.Name y j) X.env)) (cl:=A8 X.env.cells scope.names []) (Q:=λ_ c=>SP X a D .next c) rfl hs (an6 (a82 S I)) S.kind S.names ?_) (λ_ c e=>AK (AK e)) λ_ _ e=>e);apply thn (hi a s f H _ I h) λe g h=>thn h λe g h2=>?_;let{it,l,tn,J,H2,e,I2,T,t,f2,h}:=h2;subst e;apply a80 (RR:=λO C=>compPost (model X.prog X.w) X.A X.xe (AA (assign (.Name y j) X.env)) (λ_ c=>SP X a D .next c) O C) (fin:=λv m=>D.nx (f.set i (AA v)) m) hc S hg ht he I2 T t f2 h ?_;intro V C m c s3 H3 m' P M U hn G q;change AW _ X.A (assign (.Name y j) X.env (.ref V)) _ _ c;let{r,es,ep,F,n,d}:=id G;have B:C≠X.env.locals:=λz=>absurd (An P.lt M) (by rw[z];show DW _);have u:C∉X.fs:=P.nofs M;have R:Inv X (a++[(C,r)]) f m c:=U.pins_of λp hp=>by
  rcases BD.mp hp with z|z
  ·show U.pin p (BJ _ z)
  ·have e:p=(C,r):=by simpa using z
   subst e;show{F,hn,B,u,λv z=>by rw[n]at z;cases z}
 apply KO (ac6 R hN K hy (v:=.ref V) rfl (λY o=>?_) L);let{p1,Z,_}:=o.pin (C,r) ∎;apply{m',⟨r,es,ep,p1,n,d⟩,λe W=>{_,m,a08 P M o.unpinned Z W,q}}
end
end L2
namespace PySem
section
variable {prog:Al} {w:Aw} {A:BW} {E:AG->AL->Prop} {s:AL}
def Y2{it l}{i}{items}{x}{Q}(a:s.heap.IsTupleIter it l i)
  (h:s.heap.IsTuple l items) (g:items[i]?=AA x)
  (k:∀f,f.IsTupleIter it l (i+1)->Heap.SameBut it s.heap f->Q x {s with heap:=f}) :
  AW (model prog w) A (BM (.ref it)) Q E s:=by
 let{o,c,j,b}:=id a;let{m,d,_,n,e}:=h;apply AE (Bb a.typeIs Cu
  (BX Cu a.typeIs Hl ?_ (HY _)))
 change AW _ _ (field (.ref it) 0 >>= _) _ _ s;apply AE (BS c b rfl ?_);apply AE (BS c b rfl ?_);apply AE (Bn d e ?_);erw[Bx,g];show AE (Eb c b ∎ (AK {x,rfl,AK (k _ {_,CL _ c (FJ (Cf b _)),(JS ..).trans j,by
  rw[Cf b];simp[Dr]} (Heap.SameBut.update ..))}))
def ag4{it l}{i}{items}{Q}(n:A.handled=AD)
  (b:s.heap.IsTupleIter it l i) (k:s.heap.IsTuple l items) (j:items[i]?=AD)
  (p:∀h e,Heap.ExtBut it s.heap h->(∃o,h.get? e=AA o/\o.cls=.type "StopIteration")->E (.ref e) {s with heap:=h}) :
  AW (model prog w) A (BM (.ref it)) Q E s:=by
 let{o,d,t,g}:=id b;let{q,c,_,r,f}:=k;apply AE (Bb b.typeIs Cu
  (BX Cu b.typeIs Hl ?_ (HY _)))
 change AW _ _ (field (.ref it) 0>>=_) _ _ s;apply AE (BS d g rfl ?_);apply AE (BS d g rfl ?_);apply AE (Bn c f ?_);erw[Bx,j];apply AE (Dq (AE (Eb d g ∎ ?_)));apply AE ?_;apply AE (m:=GB _ _) (Hm (a:=Bd) (by first|rfl|(rfl)) ?_);apply Ba ?_ (by size_fits);apply AE (wpAny_handled ?_)
 first|grind|rw[n]
 show AE (AK (wpAny_throw (p _ _ (((Heap.SameBut.update ..).extBut.push _).push _) {_,Aj _ rfl,rfl})))
end
def Draws.tuple{prog}{w}{A}(g:A.handled=AD)it l(e:l≠it)items:
  Draws prog w A it [it,l] items.size (λi v=>items[i]?=AA v) λi h=>h.IsTupleIter it l i/\h.IsTuple l items where
 live:=λ_ _ a=>let⟨o,d,_⟩:=a.1;⟨o,d⟩
 frame:=λ_ _ _ a f=>⟨a.1.at λo=>f it ∎ o,let⟨o,d,r⟩:=a.2;{o,f l ∎ o d,r}⟩
 item:=λi s Q E m a j=>(Y2 a.1 a.2 (x:=items[i]) (by simp[]) λk c b=>j _ k s.toks (by simp[]) {c,a.2.extBut b.extBut e} b)
 done:=λs Q E a=>ag4 g a.1 a.2 ∎
open AutoSeq1 (wpAny_loadPart') in
def bs6(l:AI)(items:Array AG)(n:Nat)(dct:Option AI)(sl:Array (Option AG)):
  Ik (Dh.«enumerate.__new__» {[.type "enumerate",.ref l],[]}) (λ_ R s=>s.heap.get? l=AA {cls:=.type "tuple",dict:=dct,data:=.seq items n,slots:=sl} /\
   R (.ok (.ret (.ref (s.heap.push {cls:=.type "tuple_iterator",data:=.fields #[.ref l,.int 0 0]}).objs.size)))
    {s with heap:=(s.heap.push {cls:=.type "tuple_iterator",data:=.fields #[.ref l,.int 0 0]}).push {cls:=.type "enumerate",data:=.fields #[.none,.bool AF,.ref s.heap.objs.size,Dr 0,.none,.none]}}):=
 .of_wp λprog w A R s h=>by
  let{hp,g,d,tk,os}:=s;let{hl,h}:=h;have hsub:=sub_enumerate;have hL:Heap.IsTuple (Hz ⟨hp,g,d,tk,os⟩) l items:=⟨_,hl,rfl,n,rfl⟩
  wp_walk using Fc hl
  apply wpAny_stack_any λst=>AK ?_
  split
  ·rename_i c _ _ _ _ _;cases(c==CY "enumerate")
   ·wp_walk using Fc hl,Ci hL
    show⟨_,rfl,h⟩
   ·wp_walk using Fc hl,Ci hL
    show⟨_,rfl,h⟩
  ·wp_walk using Fc hl,Ci hL
   show⟨_,rfl,h⟩
section
variable {prog:Al} {w:Aw} {A:BW} {E:AG->AL->Prop} {s:AL}
def bs7{l}{items}{Q}(p:s.heap.IsTuple l items)
  (h:∀a,Lf a (s.heap.objs.size+1) s.heap.objs.size 0 .none->a.IsTupleIter s.heap.objs.size l 0->a.objs.size=s.heap.objs.size+2 ->
   (∀b o,s.heap.get? b=AA o->a.get? b=AA o)->Q (.ref (s.heap.objs.size+1)) {s with heap:=a}) :
  AW (model prog w) A (call (.type "enumerate") [.ref l]) Q E s:=by
 let{{c,f,q,i},j,m,n,k}:=p;subst m k;apply JH F.called_enumerate ∅ (F.typeCall_enumerate_1 _) (F.newCall_enumerate_1 _) (λd=>JI d _) F.entry_enumerate_new
  (bs6 l items n f i) {j,?_}
 have e:(s.heap.push {cls:=.type "tuple_iterator",data:=.fields #[.ref l,.int 0 0]}).objs.size=s.heap.objs.size+1:=Cd ..;rw[e];have g:=by
  have:=Aj (s.heap.push {cls:=.type "tuple_iterator",data:=.fields #[.ref l,.int 0 0]})
   (o:={cls:=.type "enumerate",data:=.fields #[.none,.bool AF,.ref s.heap.objs.size,Dr 0,.none,.none]}) rfl
  rwa[e]at this
 apply{⟨_,g,rfl⟩,h _ g {_,AQ _ (Aj _ rfl),rfl,rfl} (by rw[Cd,e]) λb o x=>AQ _ (AQ _ x)}
end
end PySem
namespace L2
open PySem PySem.Spec PyProof.Rows
variable{pins:List (AI×Obj)}{σ:St}{elts:List AU}{k0:Nat}{tp:Pos}
section
variable {X:Cx} {H:Hp} {s:AL} {h':Heap}
def Inv.turnedNew{t:Nat}{ch:List AI}{o:HO}(I:Inv X pins σ H s)(a:∀b∈ch,D5 X pins H b)(k:∀b u,b∉ch->s.heap.get? b=AA u->h'.get? b=AA u)(L:∀b∈ch,∃u,h'.get? b=AA u)
  (i:t4 X.prog X.w (upd H s.heap.objs.size o) h' s.heap.objs.size o):Inv X pins σ (upd H s.heap.objs.size o) {s with heap:=h',toks:=t}:=by
 have g:H s.heap.objs.size=AD:=I.hok.fresh (AR _);have j:∀b u,s.heap.get? b=AA u->b≠s.heap.objs.size:=λb u e=>BO (BC e);have f:∀b u,H b=AA u->b∉ch:=λb u e z=>by rw[(a b z).1]at e;cases e
 apply I.step (g':=s.gens) (d':=s.drawn) (ch:=ch) (λb h=>?_) (λb u _ _ d e _=>k b u d e) (λb u _ _ d e _=>{u.slots,k b u d e}) (λb u _ e n=>by rw[l5 (j b u e)];show n)
  (λb u d e=>{u,k b u d e}) (λb p e=>by rw[l5 (B4 e g)];show e) (λb u v e=>by rw[l5 (B4 e g)];show e) (λb G e=>{#[],by rw[l5 (B4 e g),e];simp}) (λm y=>?_) (λb u e=>?_) I.bare
 ·let{K,D,J,C,B,A}:=a b h;show⟨C,D,B,A⟩
 ·let{l,E,F,x,r}:=y;show{l,E,F,k _ l (λz=>(a _ z).2.1 rfl) x,r}
 ·by_cases h:b=s.heap.objs.size
  ·subst h;rw[v0]at e;cases e;show i
  ·rw[l5 h]at e;apply(I.hok b u e).stay (λc v d q=>k c v ?_ q) (λc q=>by rw[l5 (B4 q g)];show q) λc p q=>by rw[l5 (B4 q g)];show q
   rcases d with z|z
   ·rw[z];show f b u e
   ·show f c _ z
def Inv.turnedAll{t'}{ch:List AI}(I:Inv X pins σ H s)(a:∀b∈ch,D5 X pins H b)(k:∀b u,b∉ch->s.heap.get? b=AA u->h'.get? b=AA u):Inv X pins σ H {s with heap:=h',toks:=t'}:=by
 have f:∀b u,H b=AA u->b∉ch:=λb u e z=>by rw[(a b z).1]at e;cases e
 apply I.step (λb l=>?_) (λb u _ _ d e _=>k b u d e) (λb u _ _ d e _=>{u.slots,k b u d e}) (λb u _ e n=>n)
  (λb u d e=>{u,k b u d e}) (λb h e=>e) (λb u v e=>e) (λb A e=>{#[],by rw[e];simp}) (λm j=>?_) (λb u e=>?_) I.bare
 ·let{C,w,B,t,p,o}:=a b l;show⟨t,w,p,o⟩
 ·let{g,x,y,i,r}:=j;show{g,x,y,k _ g (λz=>(a _ z).2.1 rfl) i,r}
 ·apply(I.hok b u e).stay (λc v d=>k c v ?_) (λc q=>q) λc h q=>q
  rcases d with z|z
  ·rw[z];show f b u e
  ·show f c _ z
end
abbrev Ite(K:AO)(sq:Hp->List V->Prop):It:=
 {λi H=>∃xs x,sq H xs/\xs[i]?=AA x,λi H x H'=>∃t v,H t=AD/\x=.ref t/\H'=upd H t (.tup [.int i,v])/\∀xs,sq H xs->xs[i]?=AA v,λi H=>∃xs,sq H xs/\xs.length=i}
def a92{P:Al}{w:Aw}{K:AO}{sq:Hp->List V->Prop}{e c:AI}{pit:Nat->Heap->Prop}{bad:AI->Prop}
  (M:e≠c) (l:∀i h,pit i h->∃o,h.get? c=AA o/\∀v,o.data≠.cell v) (m:∀i h h',pit i h->(∀o,h.get? c=AA o->h'.get? c=AA o)->pit i h')
  (dr:∀(X:Cx),X.prog=P->X.w=w->X.K=K->X.calm=AC->∀(i:Nat)(a:List (AI×Obj))(s:AL)(r:St)(H:Hp)(k:List V),Inv X a r H s->D5 X a H e->D5 X a H c->pit i s.heap->(∃d,Lf s.heap e c i d)->sq H k ->
   ∃(f:List AG)(fp:List AI)(Pv:Nat->AG->Prop)(St:Nat->Heap->Prop),i7 k f/\k.length<=sizeLine/\Draws P w X.A.in1 c fp f.length Pv St/\e∉fp/\St i s.heap/\(∀j v,Pv j v->f[j]?=AA v)/\∀j h,St j h->pit j h)
  (inj:∀(X:Cx)(a:List (AI×Obj))(s:AL)(r:St)(H:Hp)(k Y:List V),X.K=K->Inv X a r H s->sq H k->sq H Y->k=Y) :
  Turn P w K (.Tuple elts k0 tp) (Ite K sq) [e,c] e (λi h=>(∃d,Lf h e c i d)/\pit i h) where
 mem:=by simp
 obj:=λi h g b n=>by
  rcases AM.mp n with z|z
  ·subst z;let{{d,p},_}:=g;show{_,p,λv z=>by cases z}
  ·have G:b=c:=by simpa using z
   subst G;show l i h g.2
 keep:=λi h h' g kk=>by
  let{{d,p},hp}:=g;show{{d,kk e ∎ _ p},m i h h' hp λo q=>kk c ∎ o q}
 item:=by
  intro X hP hw hK hc i a s r H E I C g hg;let{k,x,hq,J}:=hg;let{f,fp,Pv,St,Z,hz,D,N,t,S,R}:=dr X hP hw hK hc i a s r H k I (C e ∎) (C c ∎) g.2 g.1 hq;let{{d,p},hp}:=g;have hi:i<f.length:=by
   rw[<-Z.length];show(AS.mp J).1
  apply wpAny_pyNext_enum_itemD D p t hi M N λy h1 tk hPy ho L hT f hk=>?_;let{u,hu,ru}:=Z.get J;have ey:y=u:=by
   have q:=S i y hPy;rw[hu]at q;show(Ay q).symm
  subst ey;apply{_,rfl,?_};have hT':H s.heap.objs.size=AD:=I.hok.fresh (AR _);have W:e<s.heap.objs.size:=BC p;apply wpAny_letOwnedTupleGo_enum ho λT O hs2=>?_;have q2:Heap.SameBut e h1 T:=hs2;have kk:∀b u,b∉[e,c]->s.heap.get? b=AA u->T.get? b=AA u:=λb u n q=>by
   have U:b≠e:=λz=>n (by simp[z]);have h2':b≠c:=λz=>n (by simp[z]);show(q2.2 b U).trans (hk b u U h2' q)
  have hT2:T.get? s.heap.objs.size=AA {cls:=.type "tuple",data:=.seq #[.int i tk,y]}:=(q2.2 _ (Kh W)).trans hT;have B:pit (i+1) T:=m _ _ _ (R _ _ L) λo q=>(q2.2 c (Ax M)).trans q;have I1:Inv X a r (upd H s.heap.objs.size (.tup [.int i,x])) {s with heap:=T,toks:=tk+1}:=by
   apply I.turnedNew (ch:=[e,c]) C kk (λb n=>?_) ?_
   ·rcases AM.mp n with z|z
    ·show{_,by rw[z];show O}
    ·have G:b=c:=by simpa using z
     subst G;let{o,q,_}:=l _ _ B;show⟨o,q⟩
   ·show{by change 2<=sizeLine;decide,[.int i tk,y],.cons ⟨_,rfl⟩ (.cons ru .nil),⟨_,hT2,rfl,rfl,_,rfl⟩}
  apply{.ref s.heap.objs.size,_,I1,rfl,{s.heap.objs.size,x,hT',rfl,rfl,λY b=>by rw[inj X a s r H Y k hK I b hq];show J},{⟨_,by have:=O;simpa using this⟩,B},λb n=>?_};have nb:b≠s.heap.objs.size:=by
   rcases AM.mp n with z|z
   ·rw[z];show BO W
   ·have G:b=c:=by simpa using z
    subst G;let{o,q,_}:=l _ _ hp;show BO (BC q)
  rw[l5 nb];show(C b n).1
 done:=by
  intro X hP hw hK hc i a s r H E I C g hg;let{k,hq,J}:=hg;let{f,fp,Pv,St,Z,hz,D,N,t,S,R}:=dr X hP hw hK hc i a s r H k I (C e ∎) (C c ∎) g.2 g.1 hq;let{{d,p},hp}:=g;have hi:i=f.length:=by rw[<-Z.length];show J.symm
  rw[hi]at t;apply wpAny_pyNext_enum_endD D p t λh1 eb=>{rfl,?_};show I.turnedAll (t':=s.toks) (ch:=[e,c]) C λb u n q=>eb b u (λz=>n (by simp[z])) q
 self:=λA i s Q E g h=>by
  let{{d,p},_}:=g;show HI p h
def ae9{h:Heap}{a b:AI}{o u}(e:h.get? a=AA o)(c:h.get? b=AA u)(d:o.cls≠u.cls):a≠b:=λz=>by
 grind
section
variable {X:Cx}
def bt5:BK "enumerate"=AA (.type "enumerate"):=rfl
def az5:BK "reversed"=AA (.type "reversed"):=rfl
def b56{p:Hp}{a:AL}{R:It->Hp->Prop}{l:AI}{f:List V}{E:AG->AL->Prop}(y:Inv X c r p a)(u:SqL X.K p l f)(q:R (Ite X.K λH f=>SqL X.K H l f) p):
  AW (model X.prog X.w) X.A (call (.type "enumerate") [.ref l]) (λv s=>AW (model X.prog X.w) X.A (Iw v) (PIE X c r (.Tuple elts k0 tp) R) E s) E a:=by
 let{d,J,t,L}:=y.list u;apply call_enumerate_list t.isList λQ g e b B=>HI g ?_;have I2:Inv X c r p {a with heap:=Q}:=y.kept (t':=a.toks) B;have m:∀b∈[a.heap.objs.size+1,a.heap.objs.size],a.heap.objs.size<=b:=λb x=>by
  rcases AM.mp x with z|z
  ·rw[z];show JB _
  ·have S:b=a.heap.objs.size:=by simpa using z
   rw[S];show AR _
 apply{a.heap.objs.size+1,[a.heap.objs.size+1,a.heap.objs.size],_,_,p,rfl,I2,a92 (sq:=λH f=>SqL X.K H l f) (pit:=λi h=>h.IsListIter a.heap.objs.size l i) (bad:=λ_=>True) (HJ _) ?_ ?_ ?_ ?_,{{_,by simpa using g},e},λb x=>y.fpOk (m b x) (y.hok.fresh (m b x)),q}
 ·rintro i h ⟨o,ho,N,hd⟩;show{o,ho,λv z=>by rw[hd]at z;cases z}
 ·show λi h Q T B=>T.at B
 ·intro Y hP hw G N i c s r H f I f1 f2 e g u;rw[<-G]at u;let{d,J,t,L}:=I.list u;let{U,g}:=g;let{oi,C,F,hdi}:=id e;let{ol,nl,k,n,M,hdl}:=id t;have Z:l≠a.heap.objs.size:=ae9 k C (by rw[n,F];decide);have W:a.heap.objs.size+1≠l:=ae9 g k (by rw[n];change CY "enumerate"≠_;decide);apply{d,[a.heap.objs.size,l],(λi v=>d.toArray[i]?=AA v),(λi h=>h.IsListIter a.heap.objs.size l i/\h.IsList l d.toArray),J,L,?_,?_,⟨e,t.isList⟩,λj v z=>by simpa using z,λj h z=>z.1}
  ·have D:=Draws.list (prog:=X.prog) (w:=X.w) (A:=Y.A.in1) (by show I.ok.hd N) a.heap.objs.size l Z d.toArray;simpa using D
  ·intro z
   rcases AM.mp z with z|z
   ·show HJ _ z
   ·show W (by simpa using z)
 ·intro Y c s r H f ys G I P O;rw[<-G]at P O;show I.list_inj P O
def b80{p:Hp}{a:AL}{R:It->Hp->Prop}{l:AI}{f:List V}{E:AG->AL->Prop}(y:Inv X c r p a)(u:SqT X.K p l f)(q:R (Ite X.K λH f=>SqT X.K H l f) p):
  AW (model X.prog X.w) X.A (call (.type "enumerate") [.ref l]) (λv s=>AW (model X.prog X.w) X.A (Iw v) (PIE X c r (.Tuple elts k0 tp) R) E s) E a:=by
 let{d,J,t,L}:=y.tuple u;apply bs7 (show a.heap.IsTuple l d.toArray from t) λP g e Z B=>HI g ?_;have I2:Inv X c r p {a with heap:=P}:=y.kept (t':=a.toks) B;have m:∀b∈[a.heap.objs.size+1,a.heap.objs.size],a.heap.objs.size<=b:=λb x=>by
  rcases AM.mp x with z|z
  ·rw[z];show JB _
  ·have Q:b=a.heap.objs.size:=by simpa using z
   rw[Q];show AR _
 apply{a.heap.objs.size+1,[a.heap.objs.size+1,a.heap.objs.size],_,_,p,rfl,I2,a92 (sq:=λH f=>SqT X.K H l f) (pit:=λi h=>h.IsTupleIter a.heap.objs.size l i) (bad:=λ_=>True) (HJ _) ?_ ?_ ?_ ?_,{{_,by simpa using g},e},λb x=>y.fpOk (m b x) (y.hok.fresh (m b x)),q}
 ·rintro i h ⟨o,ho,M,hd⟩;show{o,ho,λv z=>by rw[hd]at z;cases z}
 ·show λi h P S B=>S.at B
 ·intro Y hP hw G M i c s r H f I f1 f2 e g u;rw[<-G]at u;let{d,J,t,L}:=I.tuple u;let{T,g}:=g;let{oi,C,F,hdi}:=id e;let{ol,k,n,nl,hdl}:=id t;have W:l≠a.heap.objs.size:=ae9 k C (by rw[n,F];decide);have U:a.heap.objs.size+1≠l:=ae9 g k (by rw[n];change CY "enumerate"≠_;decide);apply{d,[a.heap.objs.size,l],(λi v=>d.toArray[i]?=AA v),(λi h=>h.IsTupleIter a.heap.objs.size l i/\h.IsTuple l d.toArray),J,L,?_,?_,⟨e,t⟩,λj v z=>by simpa using z,λj h z=>z.1}
  ·have D:=Draws.tuple (prog:=X.prog) (w:=X.w) (A:=Y.A.in1) (by show I.ok.hd M) a.heap.objs.size l W d.toArray;simpa using D
  ·intro z
   rcases AM.mp z with z|z
   ·show HJ _ z
   ·show U (by simpa using z)
 ·intro Y c s r H f ys G I O N;rw[<-G]at O N;show I.tuple_inj O N
abbrev Itv(K:AO)(a:AI)(n:Nat):It:=
 {λi H=>(∃xs,SqL K H a xs/\xs.length=n)/\i<n,λi H x H'=>H'=H/\∀xs,SqL K H a xs->xs[n-1-i]?=AA x,λi H=>(∃xs,SqL K H a xs/\xs.length=n)/\i=n}
def b70{P:Al}{w:Aw}{K:AO}{R:AU}(a l:AI)(n:Nat):Turn P w K R (Itv K a n) [l] l (λi h=>h.IsRevIter l a ((n:Int)-1-(i:Int))) where
 mem:=by simp
 obj:=λi h f b m=>by
  have e:b=l:=by simpa using m
  subst e;let{o,e,c,d}:=f;show{o,e,λv z=>by rw[d]at z;cases z}
 keep:=λi h t f k=>f.at λo e=>k l ∎ o e
 item:=by
  intro X O L Q N i g s G H E I r f y;subst O L Q;let{{q,M,Z},hi}:=y;subst Z;let{V,T,p,hz}:=I.list M;obtain⟨x,J⟩:∃x,q[q.length-1-i]?=AA x:={_,AH ⋯};let{u,Y,U}:=T.get J;let{F,D,f2,C,B,A}:=r l ∎;have e:(q.length:Int)-1-(i:Int)=((q.length-1-i:Nat):Int):=by lia
  rw[e]at f;apply wpAny_pyNext_rev_item f p.isList (x:=u) (by simpa using Y) λt j S=>?_;have I1:Inv X g G H {s with heap:=t}:=I.turned (t':=s.toks) (λb o m e=>(S.2 b m).trans e) F D C B A;let{o,e',c,d}:=id j;have e2:((q.length-1-i:Nat):Int)-1=(q.length:Int)-1-((i+1:Nat):Int):=by lia
  rw[e2]at j;show{u,rfl,ab3 (s:={s with heap:=t}) e' c d ∅ {x,H,I1,U,{rfl,λa W=>by rw[I.list_inj W M];show J},j,λb m=>(r b m).1}}
 done:=by
  intro X O L Q N i g s G H E I r f y;let{_,hi}:=y;let{F,D,f2,C,B,A}:=r l ∎;have e:(n:Int)-1-(i:Int)=-1:=by lia
  rw[e]at f;show wpAny_pyNext_rev_end (I.ok.hd N) f λt a=>{rfl,I.turned (t':=s.toks) (λb o m e=>a b o m e) F D C B A}
 self:=λ_ _ _ _ _ f h=>Jb f h
abbrev c52(K:AO)(ta:TA):TI:=λσ H R=>ta σ H λvs H1=>∃a xs,vs=[.ref a]/\SqL K H1 a xs/\R (Itv K a xs.length) H1
def cl6{t a:AU}{n:TA}{p f:Pos}(D:Gl X "reversed")(C:X.mg "reversed"=AD)(F:PA X [a] n)(A:Am [a] X.env=[(AF,eval a X.env)]:=by rfl):
  PI X t (.Call (.Name "reversed" p) [a] [] f) (c52 X.K n):=by
 intro g s r H R I h;apply JV (M4 I D C az5 (BH (thn (F f g s r H _ I h) λL c k=>?_) A rfl));let{J,G,j,x,y}:=k;let{l,m,e,B,q}:=y;subst e;let{u,rfl,w}:=x.one;cases w;let{d,v,z,M}:=j.list B;apply call_reversed_list z.isList ?_;have i:(c.heap.push (revObj l ((d.toArray.size:Int)-1))).IsRevIter c.heap.objs.size l ((m.length:Int)-1-((0:Nat):Int)):=by
  apply{_,Aj _ rfl,rfl,?_};have e:((d.toArray.size:Nat):Int)-1=(m.length:Int)-1-((0:Nat):Int):=by rw[Aa,<-v.length];lia
  rw[e];rfl
 apply Jb (s:={c with heap:=c.heap.push (revObj l ((d.toArray.size:Int)-1))}) i ?_;apply{c.heap.objs.size,[c.heap.objs.size],_,_,G,rfl,j.kept (t':=c.toks) λb o e=>AQ _ e,b70 l _ m.length,i,λb E=>?_,q};have e:b=c.heap.objs.size:=by simpa using E
 subst e;show j.fpOk (AR _) (j.hok.fresh (AR _))
def bv1{T}{b}:G7 X (.builtin "isinstance") λa H Q=>∃x t,a=[x,.ty T]/\TyOf X.K H x t/\Ct X.K t (.type T)=AA b/\Q (.bl b) H:=by
 intro c s i H a j Q I r h;let{x,t,rfl,d,g,q}:=h;let{u,v,rfl,f,e}:=r.two;cases e;show a91 I f d g λk=>{.bl b,H,I.tok _,rfl,q}
abbrev av2(i j:Int):Prop:=0<j/\j.natAbs.log2<9000
def cc0:OpR X (Cy .FloorDiv) (rI av2 λi j=>.int (i / j)):=opI λi j _ _ _ _ _ a q=>by
 have b:(0:Int)<j:=a.1;show floordiv_int ⋯ (by rw[Int.fdiv_eq_ediv_of_nonneg i ⋯];show q) (.inl (PyProof.noPylong_of_log2 a.2))
abbrev da6(K:AO):R2:=λx y H Q=>∃a b xs ys,x=.ref a/\y=.ref b/\SqT K H a xs/\SqT K H b ys/\xs.length+ys.length<=sizeLine /\
 (xs=[]->Q (.ref b) H)/\(xs≠[]->ys=[]->Q (.ref a) H)/\(xs≠[]->ys≠[]->∀p,H p=AD->Q (.ref p) (upd H p (.tup (xs++ys))))
def ce1:OpR X (Cy .Add) (da6 X.K):=by
 intro c s A H x y v u Q I p o h;let{a,b,m,B,rfl,rfl,t,r,P,J,G,E}:=h
 by_cases f:m=[]
 ·subst f;cases p;cases o;let{O,D,M,_}:=I.tuple t;let{d,V,L,_}:=I.tuple r;cases D;let{{U,T,w,C},q,S,n,R}:=id M;let{{z,k,l,g},e,j,N,i}:=id L;subst S R j i;show JC ⟨_,q,rfl⟩ ⟨_,e,rfl⟩ HX IW PySem.F.slot_tuple_add PySem.F.entry_tuple_add (PySem.F.args_tuple_add_2 _ _)
   (tuple_addW0 a b #[] d.toArray n N T k C g ∎) {q,e,.ref b,H,I,rfl,J rfl}
 ·show ci1 c s A H _ _ v u Q I p o {a,b,m,B,rfl,rfl,t,r,f,P,G f,E f}
end
end L2
namespace Ek
open PySem PySem.Spec PyProof.Rows L2
section
set_option genCtorIdx false
set_option genInjectivity false
inductive Tg where
 |n (i:Nat)|tup (is:List Nat)
mutual
inductive E where
 |non|bl (b:Bool)|int (i:Int)|str (x:Str)
 |v (i:Nat)
 |tup (es:Es)|lst (es:Es)
 |bin (o:FG) (a b:E)
 |neg (a:E)
 |cmp (o:Do) (a b:E)
 |isN (a:E)|notN (a:E)
 |and (a b:E)|or (a b:E)|not (a:E)
 |ite (c a b:E)
 |ix (a b:E)
 |sl (a lo hi:E)
 |slw (a lo hi:E)
 |gsel (g:Str) (k:E)|gget (g:Str) (k d:E)
 |len (a:E)|toInt (a:E)|list (a:E)|tuple (a:E)|isList (a:E)
 |max (a b:E)|min (a b:E)|lzip (a b:E)
 |call (f:Str) (es:Es)|gf (f:Str)|callv (i:Nat) (es:Es)|callx (c:E) (es:Es)|isT (t:String) (a:E)|cmpl (ne:Bool) (a b:E)
 |fld (a:E) (f:Str)|meth (a:E) (m:Str) (es:Es)|make (c:Str) (es:Es)
 |app (a b:E)|ext (a b:E)|popAt (a b:E)|pop (a:E)
 |lrev (a:E)
 |gc (g:Str)
 |dnt|dgt (a k:E)|din (ne:Bool) (k a:E)
 |any (a:E)|methd (a:E) (m:Str) (es:Es)
 |inl (a b:E)
 |chi (a b c:E)|rsl (a e:E)
 |comp (Nc:List Str) (fr:List Nat) (k:Nat) (t:Tg) (it:It) (c:E) (e:E)
inductive Es where
 |nil|cons (e:E) (r:Es)
inductive It where
 |seq (e:E)|rng (a:E)|rng2 (a b:E)|enum (e:E)|rev (e:E)|revt (e:E)
end
set_option genCtorIdx true
mutual
inductive S where
 |set (i:Nat) (e:E)
 |put (o i v:E)
 |dput (o i v:E)
 |iput (o i v:E)
 |pre (i:Nat)
 |fldS (o:E) (f:Str) (v:E)
 |unp (is:List Nat) (e:E)
 |unl (is:List Nat) (e:E)
 |ex (e:E)
 |iff (c:E) (a b:Ss)
 |ret (e:E)|retN
 |for (t:Tg) (it:It) (b:Ss)
 |while (c:E) (b:Ss)
 |cont|pass|dead
 |tr (b:Ss)
 |dfn (i np:Nat) (N:List Str) (cp:List Nat) (b:Ss)
inductive Ss where
 |nil|cons (s:S) (r:Ss)
end
abbrev Es.len:Es->Nat
 |.nil=>0
 |.cons _ r=>r.len+1
set_option genInjectivity true
inductive D where
 |non|bl (b:Bool)|int (i:Int)|str (x:Str)|tup (ds:List D)|ref (a:AI)|fn (f:Str)|clo (np:Nat) (N:List Str) (b:Ss) (cs:List D)|ktup (ks:List Key)
variable{Q:D->Prop}
inductive Ob where
 |lst (ds:List D)|fro (ds:List D)|dct (kvs:List (Key×D))|dtt (kvs:List (Ak×D))|ins (c:Str) (fs:List (Str×D))
@[reducible]noncomputable def Sto:=AI->Option Ob
@[reducible]noncomputable def l7:=List (Option D)
@[reducible]noncomputable def DK:=D->Sto->Prop
@[reducible]noncomputable def DT:=l7->Sto->DK->Prop
@[reducible]noncomputable def DB:=l7->Sto->(Bool->Sto->Prop)->Prop
@[reducible]noncomputable def DA:=l7->Sto->(List D->Sto->Prop)->Prop
abbrev b0(st:Sto)(a:AI)(o:Ob):Sto:=λb=>if b=a then AA o else st b
def c8{st}{a}{o}:b0 st a o a=AA o:=by unfold b0;rw[if_pos rfl]
def J4{st}{a b}{o}(h:b≠a):b0 st a o b=st b:=by unfold b0;rw[if_neg h]
abbrev rdS(st:Sto)(a:AI)(ds:List D):Prop:=st a=AA (.lst ds)\/st a=AA (.fro ds)
abbrev Sub(st st':Sto):Prop:=∀a o,st a=AA o->st' a=AA o
def Sub.refl(a:Sto):Sub a a:=λ_ _ h=>h
mutual
noncomputable def D.py:D->Ak
 |.non=>.none|.bl b=>.bool b|.int i=>.int i|.str x=>.str x|.tup ds=>.tuple (D.pys ds)|.ref _=>.none|.fn _=>.none|.clo _ _ _ _=>.none|.ktup _=>.none
noncomputable def D.pys:List D->List Ak
 |[]=>[]
 |d::r=>d.py::D.pys r
end
mutual
noncomputable def D.pure:D->Bool
 |.tup ds=>D.pures ds
 |.ref _=>AF
 |.fn _=>AF
 |.clo _ _ _ _=>AF
 |.ktup _=>AF
 |.str x=>CQ (.str x)
 |_=>AC
noncomputable def D.pures:List D->Bool
 |[]=>AC
 |d::r=>d.pure&&D.pures r
end
abbrev kD:Key->D
 |.inl i=>.int i
 |.inr x=>.str x
abbrev deq(d e:D):Bool:=Au d.py e.py
abbrev o9(d:D):Nat:=d.py.depth
@[reducible]noncomputable def Spec:=List D->Sto->DK->Prop
structure Sg where
 F:Str->Bool
 Phi:Str->Spec
 G:Str->List (Str×D)
 C:Str->List Str
 Mk:Str->Spec
 MF:Str->Bool
 PhiC:Nat->List Str->Ss->List D->Spec
 Kc:Str->Option D
@[inline]def f8(c m:Str):Str:=⟨c.cps++#[46]++m.cps⟩
abbrev C6(C:Str->List Str)(f:Str):Option Int:=match C ⟨#[33]++f.cps⟩with
 |[]=>AD
 |_::l=>AA (l.length:Nat)
abbrev o8(f:Str)(d:D):List (Str×D)->List (Str×D)
 |[]=>[(f,d)]
 |(g,e)::r=>if g=f then(g,d)::r else(g,e)::o8 f d r
abbrev W6(Z:Sg)(ta:Sto->(List D->Sto->Prop)->Prop)(st:Sto)(Q:DK):D->Prop
 |.fn f=>Z.F f=AC/\ta st λds st1=>Z.Phi f ds st1 Q
 |.clo np N b cs=>ta st λds st1=>Z.PhiC np N b cs ds st1 Q
 |_=>False
abbrev P3(env:l7):List Nat->Option (List D)
 |[]=>AA []
 |i::is=>match env[i]?,P3 env is with
  |some (AA d),AA ds=>AA (d::ds)
  |_,_=>AD
abbrev T9(i j:Int):Prop:=ax7 i j\/(i.natAbs<2^20000/\j.natAbs<2^20000)
abbrev G6(kvs:List (Key×D))(k:Key):Option D:=(kvs.find? λkv=>AB (kv.1=k)).map (·.2)
abbrev E6:FG->D->D->Sto->DK->Prop
 |.Add,.int i,.int j,st,Q=>Q (.int (i+j)) st
 |.Add,.tup xs,.tup ys,st,Q=>xs.length+ys.length<=sizeLine/\Q (.tup (xs++ys)) st
 |.Add,.ref a,.ref b,st,Q=>∃xs ys,st a=AA (.lst xs)/\st b=AA (.lst ys)/\xs.length+ys.length<=sizeLine/\∀p,st p=AD->Q (.ref p) (b0 st p (.lst (xs++ys)))
 |.Sub,.int i,.int j,st,Q=>Q (.int (i-j)) st
 |.Mult,.int i,.int j,st,Q=>T9 i j/\Q (.int (i*j)) st
 |.Mult,.tup xs,.int k,st,Q=>xs≠[]/\0<=k/\k<2^62/\xs.length*k.toNat<=sizeLine/\Q (.tup (Ab k.toNat xs).flatten) st
 |.Mod,.int i,.int j,st,Q=>0<j/\Q (.int (i % j)) st
 |.FloorDiv,.int i,.int j,st,Q=>av2 i j/\Q (.int (i / j)) st
 |.Pow,.int i,.int j,st,Q=>az2 i j/\Q (.int (i^j.toNat)) st
 |_,_,_,_,_=>False
abbrev t6:Do->D->D->Sto->DK->Prop
 |.Eq,x,y,st,Q=>x.pure=AC/\y.pure=AC/\Eu (o9 x) (o9 y)<=150/\Q (.bl (deq x y)) st
 |.NotEq,x,y,st,Q=>x.pure=AC/\y.pure=AC/\Eu (o9 x) (o9 y)<=150/\Q (.bl (!deq x y)) st
 |.Lt,.int i,.int j,st,Q=>Q (.bl (AB (i<j))) st
 |.LtE,.int i,.int j,st,Q=>Q (.bl (AB (i<=j))) st
 |.Gt,.int i,.int j,st,Q=>Q (.bl (AB (j<i))) st
 |.GtE,.int i,.int j,st,Q=>Q (.bl (AB (j<=i))) st
 |.In,x,.tup ys,st,Q=>x.pure=AC/\D.pures ys=AC/\o9 x<=150/\Q (.bl (ys.any λy=>deq y x)) st
 |.NotIn,x,.tup ys,st,Q=>x.pure=AC/\D.pures ys=AC/\o9 x<=150/\Q (.bl (!ys.any λy=>deq y x)) st
 |.In,.int i,.ktup ks,st,Q=>Q (.bl (ks.any λk=>AB (k=.inl i))) st
 |.NotIn,.str w,.ktup ks,st,Q=>(D.str w).pure=AC/\Q (.bl (!ks.any λk=>AB (k=.inr w))) st
 |.In,.str w,.ref a,st,Q=>∃kvs,st a=AA (.dct kvs)/\Q (.bl (G6 kvs (.inr w)).isSome) st
 |.NotIn,.int i,.ref a,st,Q=>∃kvs,st a=AA (.dct kvs)/\Q (.bl (!(G6 kvs (.inl i)).isSome)) st
 |.Is,.bl b,.bl c,st,Q=>Q (.bl (b==c)) st
 |.IsNot,.bl b,.bl c,st,Q=>Q (.bl (b != c)) st
 |_,_,_,_,_=>False
abbrev vR:Option (Option D)->(D->Prop)->Prop
 |some (AA d),Q=>Q d
 |_,_=>False
def au0{o:Option (Option D)}(h:vR o Q):∃d,o=AA (AA d)/\Q d:=by
 rcases o with _|_|d
 ·show h.elim
 ·show h.elim
 ·show⟨d,rfl,h⟩
def au6{o:Option (Option D)}{d:D}(e:o=AA (AA d))(q:Q d):vR o Q:=by subst e;show q
abbrev oR(o:Option D)(Q:D->Prop):Prop:=o.elim False Q
def bq2{o:Option D}(h:oR o Q):∃d,o=AA d/\Q d:=by
 cases o with
 |none=>show h.elim
 |some d=>show⟨d,rfl,h⟩
def u0{α}{a:List α}{k:Nat}:atI a k=a[k]?:=by
 unfold atI ixN;rw[if_pos ⋯];split
 ·rfl
 ·simp_all
abbrev ixT(ds:List D):Int->Option D
 |.ofNat n=>ds[n]?
 |i=>atI ds i
def bl4{ds:List D}{i:Int}:ixT ds i=atI ds i:=by
 cases i with
 |ofNat n=>show u0.symm
 |negSucc n=>rfl
abbrev ixR:D->D->Sto->DK->Prop
 |.tup ds,.int i,st,Q=>oR (ixT ds i) λd=>Q d st
 |.ref a,.int i,st,Q=>(∃ds d,rdS st a ds/\atI ds i=AA d/\Q d st)\/∃kvs d,st a=AA (.dct kvs)/\G6 kvs (.inl i)=AA d/\Q d st
 |.ref a,.str w,st,Q=>∃kvs d,st a=AA (.dct kvs)/\G6 kvs (.inr w)=AA d/\Q d st
 |.str w,.int i,st,Q=>∃c,w.length<=sizeLine/\atI w.cps.toList i=AA c/\Q (.str ⟨#[c]⟩) st
 |_,_,_,_=>False
abbrev A9(xs:List D)(lo hi:Option Int):List D:=(xs.drop (HT.sIx xs.length 0 lo)).take (HT.sIx xs.length xs.length hi-HT.sIx xs.length 0 lo)
abbrev slR:D->Option Int->Option Int->Sto->DK->Prop
 |.tup ds,lo,hi,st,Q=>¬(HT.sIx ds.length 0 lo=0/\HT.sIx ds.length ds.length hi=ds.length)/\Q (.tup (A9 ds lo hi)) st
 |.ref a,lo,hi,st,Q=>∃ds,rdS st a ds/\∀p,st p=AD->Q (.ref p) (b0 st p (.lst (A9 ds lo hi)))
 |_,_,_,_,_=>False
abbrev A7:List (Str×D)->Str->Option D
 |[],_=>AD
 |(k,d)::r,x=>if k=x then AA d else A7 r x
abbrev U2:D->Sto->DK->Prop
 |.tup ds,st,Q=>Q (.int ds.length) st
 |.ref a,st,Q=>∃ds,rdS st a ds/\Q (.int ds.length) st
 |_,_,_=>False
abbrev J6:D->Sto->DK->Prop
 |.bl b,st,Q=>Q (.int (if b then 1 else 0)) st
 |.int i,st,Q=>Q (.int i) st
 |_,_,_=>False
abbrev ab0:D->Sto->DK->Prop
 |.tup ds,st,Q=>∀p,st p=AD->Q (.ref p) (b0 st p (.lst ds))
 |.ref a,st,Q=>∃ds,rdS st a ds/\∀p,st p=AD->Q (.ref p) (b0 st p (.lst ds))
 |_,_,_=>False
abbrev W4:D->Sto->DK->Prop
 |.tup ds,st,Q=>Q (.tup ds) st
 |.ref a,st,Q=>∃ds,rdS st a ds/\Q (.tup ds) st
 |_,_,_=>False
abbrev ax4:D->Sto->DK->Prop
 |.ref a,st,Q=>∃bs:List Bool,rdS st a (bs.map D.bl)/\Q (.bl (bs.any id)) st
 |_,_,_=>False
abbrev V3:D->Sto->DK->Prop
 |.ref a,st,Q=>∃ds,rdS st a ds/\Q (.bl AC) st
 |_,_,_=>False
abbrev L8(xs ys:List D):List D:=(xs.zip ys).map λp=>.tup [p.1,p.2]
abbrev as6:D->D->Sto->DK->Prop
 |.ref a,.int i,st,Q=>(-(2^62)<=i/\i<2^62)/\∃ds k d,st a=AA (.lst ds)/\ixN ds.length i=AA k/\ds[k]?=AA d/\Q d (b0 st a (.lst (ds.eraseIdx k)))
 |_,_,_,_=>False
abbrev ab7:D->Sto->DK->Prop
 |.ref a,st,Q=>∃ds d,st a=AA (.lst (ds++[d]))/\Q d (b0 st a (.lst ds))
 |_,_,_=>False
abbrev ab8:D->Sto->DK->Prop
 |.ref a,st,Q=>∃ds,st a=AA (.lst ds)/\Q .non (b0 st a (.lst ds.reverse))
 |_,_,_=>False
abbrev F0(kvs:List (Ak×D))(k:Ak):Option D:=(kvs.find? λkv=>AB (kv.1=k)).map (·.2)
abbrev X5(kvs:List (Ak×D))(k:Ak)(v:D):List (Ak×D):=
 if(kvs.any λkv=>AB (kv.1=k))=AC then kvs.map (λkv=>if kv.1=k then(kv.1,v)else kv)else kvs++[(k,v)]
abbrev D.key(d:D):Prop:=NK.lit d.py=AC/\d.py.depth<=7
abbrev af4:D->Option Int->Option Int->Sto->DK->Prop
 |.tup ds,lo,hi,st,Q=>Q (.tup (A9 ds lo hi)) st
 |_,_,_,_,_=>False
abbrev ay8:D->Sto->Prop
 |.ref a,st=>∃kvs,st a=AA (.dtt kvs)
 |_,_=>False
abbrev az3:D->D->Sto->DK->Prop
 |.ref a,.tup ks,st,Q=>∃kvs,st a=AA (.dtt kvs)/\D.key (.tup ks)/\Q ((F0 kvs (D.tup ks).py).getD .non) st
 |_,_,_,_=>False
abbrev U3(ne:Bool):D->D->Sto->DK->Prop
 |.non,.ref a,st,Q=>st a=AA (.dtt [])/\Q (.bl ne) st
 |.tup ks,.ref a,st,Q=>∃kvs,st a=AA (.dtt kvs)/\D.key (.tup ks)/\Q (.bl (ne != (F0 kvs (D.tup ks).py).isSome)) st
 |_,_,_,_=>False
abbrev av3:D->D->D->Sto->(Sto->Prop)->Prop
 |.ref a,.tup ks,d,st,K=>∃kvs,st a=AA (.dtt kvs)/\D.key (.tup ks)/\kvs.length<sizeLine/\K (b0 st a (.dtt (X5 kvs (D.tup ks).py d)))
 |_,_,_,_,_=>False
abbrev au3:D->D->D->Sto->(Sto->Prop)->Prop
 |.ref a,.int i,d,st,K=>∃kvs,st a=AA (.dct kvs)/\G6 kvs (.inl i)=AD/\kvs.length<sizeLine/\K (b0 st a (.dct (kvs++[(.inl i,d)])))
 |_,_,_,_,_=>False
abbrev U1:D->D->Sto->DK->Prop
 |x,.ref a,st,Q=>∃ds,rdS st a ds/\x.pure=AC/\D.pures ds=AC/\o9 x<=150/\Q (.bl (!ds.any λy=>deq y x)) st
 |_,_,_,_=>False
abbrev X6:D->D->Sto->DK->Prop
 |.ref a,d,st,Q=>∃ds,st a=AA (.lst ds)/\ds.length<sizeLine/\Q .non (b0 st a (.lst (ds++[d])))
 |_,_,_,_=>False
abbrev X9:D->D->Sto->DK->Prop
 |.ref a,.ref b,st,Q=>∃ds es,st a=AA (.lst ds)/\st b=AA (.lst es)/\ds.length+es.length<=sizeLine/\Q .non (b0 st a (.lst (ds++es)))
 |.ref a,.tup es,st,Q=>∃ds,st a=AA (.lst ds)/\ds.length+es.length<=sizeLine/\Q .non (b0 st a (.lst (ds++es)))
 |_,_,_,_=>False
abbrev F6:D->Sto->Prop
 |.ref a,st=>∃ds,rdS st a ds
 |_,_=>False
abbrev dj6:D->Sto->Prop
 |.tup _,_=>True
 |.ref a,st=>∃ds,rdS st a ds
 |_,_=>False
abbrev tyD:D->Sto->Option String
 |.non,_=>AA "NoneType"|.bl _,_=>AA "bool"|.int _,_=>AA "int"|.str _,_=>AA "str"|.tup _,_=>AA "tuple"|.ktup _,_=>AA "tuple"
 |_,_=>AD
abbrev Q8(ne:Bool):D->D->Sto->DK->Prop
 |.ref a,.ref b,st,Q=>∃xs ys,rdS st a xs/\rdS st b ys/\D.pures xs=AC/\D.pures ys=AC/\Bf (D.pys xs)<=149/\Q (.bl (ne != BZ (D.pys xs) (D.pys ys))) st
 |_,_,_,_=>False
abbrev ab5(t:String)(d:D)(st:Sto)(Q:DK):Prop:=(∃ty,tyD d st=AA ty/\Q (.bl (ty==t||(ty=="bool"&&t=="int"))) st)\/∃a ds,d=.ref a/\rdS st a ds/\Q (.bl (t=="list")) st
abbrev C8:l7->List Nat->List D->l7
 |env,i::is,d::ds=>C8 (env.set i (AA d)) is ds
 |env,_,_=>env
abbrev G4:Tg->D->l7->(l7->Prop)->Prop
 |.n i,d,env,k=>k (env.set i (AA d))
 |.tup is,d,env,k=>∃ds,d=.tup ds/\ds.length=is.length/\k (C8 env is ds)
abbrev t5(lo:Int)(n:Nat):List D:=(CZ n).map λi=>.int (lo+(i:Nat))
abbrev u4:Nat->List D->List D
 |_,[]=>[]
 |i,d::ds=>.tup [.int i,d]::u4 (i+1) ds
abbrev B6(chk:Sto->Prop)(t:Tg)(tc:DB)(te:DT)(Q:List D->Sto->Prop):List D->List D->l7->Sto->Prop
 |[],acc,_,st=>chk st/\Q acc st
 |d::ds,acc,env,st=>chk st/\G4 t d env λenv'=>tc env' st λb st1=>
   if b=AC then te env' st1 λv st2=>B6 chk t tc te Q ds (acc++[v]) env' st2
   else B6 chk t tc te Q ds acc env' st1
abbrev S6(fr:List Nat)(k:Nat)(env:l7):l7:=(fr.map λj=>(env[j]?).join)++Ab k AD
abbrev E.isNon:E->Bool
 |.non=>AC
 |_=>AF
@[reducible]noncomputable def ItK:=List D->(Sto->Prop)->Sto->Prop
mutual
noncomputable def wpE(Z:Sg):E->DT
 |.non=>λ_ st Q=>Q .non st
 |.bl b=>λ_ st Q=>Q (.bl b) st
 |.int i=>λ_ st Q=>Q (.int i) st
 |.str x=>λ_ st Q=>Q (.str x) st
 |.v i=>λenv st Q=>vR env[i]? λd=>Q d st
 |.tup es=>λenv st Q=>B3 Z es env st λds st1=>Q (.tup ds) st1
 |.lst es=>λenv st Q=>B3 Z es env st λds st1=>∀p,st1 p=AD->Q (.ref p) (b0 st1 p (.lst ds))
 |.bin o a b=>λenv st Q=>wpE Z a env st λx st1=>wpE Z b env st1 λy st2=>E6 o x y st2 Q
 |.neg a=>λenv st Q=>wpE Z a env st λx st1=>∃i,x=.int i/\Q (.int (-i)) st1
 |.cmp o a b=>λenv st Q=>wpE Z a env st λx st1=>wpE Z b env st1 λy st2=>t6 o x y st2 Q
 |.isN a=>λenv st Q=>wpE Z a env st λx st1=>(x=.non/\Q (.bl AC) st1)\/(x≠.non/\Q (.bl AF) st1)
 |.notN a=>λenv st Q=>wpE Z a env st λx st1=>(x=.non/\Q (.bl AF) st1)\/(x≠.non/\Q (.bl AC) st1)
 |.and a b=>λenv st Q=>wpE Z a env st λx st1=>∃c,x=.bl c/\(if c=AC then wpE Z b env st1 Q else Q (.bl AF) st1)
 |.or a b=>λenv st Q=>wpE Z a env st λx st1=>∃c,x=.bl c/\(if c=AC then Q (.bl AC) st1 else wpE Z b env st1 Q)
 |.not a=>λenv st Q=>wpE Z a env st λx st1=>∃c,x=.bl c/\Q (.bl (!c)) st1
 |.ite c a b=>λenv st Q=>wpE Z c env st λx st1=>∃k,x=.bl k/\(if k=AC then wpE Z a env st1 Q else wpE Z b env st1 Q)
 |.ix a b=>λenv st Q=>wpE Z a env st λx st1=>wpE Z b env st1 λy st2=>ixR x y st2 Q
 |.sl a lo hi=>λenv st Q=>wpE Z a env st λx st1=>
   (if lo.isNon=AC then λk=>k AD st1 else λ(k:Option Int->Sto->Prop)=>wpE Z lo env st1 λd st'=>∃i,d=.int i/\k (AA i) st') λl st2=>
   (if hi.isNon=AC then λk=>k AD st2 else λ(k:Option Int->Sto->Prop)=>wpE Z hi env st2 λd st'=>∃i,d=.int i/\k (AA i) st') λh st3=>slR x l h st3 Q
 |.slw a lo hi=>λenv st Q=>wpE Z a env st λx st1=>
   (if lo.isNon=AC then λk=>k AD st1 else λ(k:Option Int->Sto->Prop)=>wpE Z lo env st1 λd st'=>∃i,d=.int i/\k (AA i) st') λl st2=>
   (if hi.isNon=AC then λk=>k AD st2 else λ(k:Option Int->Sto->Prop)=>wpE Z hi env st2 λd st'=>∃i,d=.int i/\k (AA i) st') λh st3=>af4 x l h st3 Q
 |.gget g k d=>λenv st Q=>Z.G g≠[]/\wpE Z k env st λx st1=>wpE Z d env st1 λy st2=>∃w,x=.str w/\Q ((A7 (Z.G g) w).getD y) st2
 |.gsel g k=>λenv st Q=>Z.G g≠[]/\wpE Z k env st λx st1=>∃w d,x=.str w/\A7 (Z.G g) w=AA d/\Q d st1
 |.len a=>λenv st Q=>wpE Z a env st λx st1=>U2 x st1 Q
 |.chi a b c=>λenv st Q=>wpE Z a env st λx st1=>wpE Z b env st1 λy st2=>∃i j,x=.int i/\y=.int j/\(if i<j then wpE Z c env st2 λz st3=>∃k,z=.int k/\J6 (.bl (AB (j<k))) st3 Q else J6 (.bl AF) st2 Q)
 |.rsl a e=>λenv st Q=>wpE Z a env st λx st1=>wpE Z e env st1 λy st2=>y=.int (-1)/\∃l ds,x=.ref l/\rdS st2 l ds/\∀p,st2 p=AD->Q (.ref p) (b0 st2 p (.lst ds.reverse))
 |.toInt a=>λenv st Q=>wpE Z a env st λx st1=>J6 x st1 Q
 |.list a=>λenv st Q=>wpE Z a env st λx st1=>ab0 x st1 Q
 |.tuple a=>λenv st Q=>wpE Z a env st λx st1=>W4 x st1 Q
 |.isList a=>λenv st Q=>wpE Z a env st λx st1=>V3 x st1 Q
 |.max a b=>λenv st Q=>wpE Z a env st λx st1=>wpE Z b env st1 λy st2=>∃i j,x=.int i/\y=.int j/\Q (.int (if j>i then j else i)) st2
 |.min a b=>λenv st Q=>wpE Z a env st λx st1=>wpE Z b env st1 λy st2=>∃i j,x=.int i/\y=.int j/\Q (.int (if j<i then j else i)) st2
 |.lzip a b=>λenv st Q=>wpE Z a env st λx st1=>wpE Z b env st1 λy st2=>∃xs ys,x=.tup xs/\y=.tup ys/\xs.length=ys.length/\xs.length<=1000000/\∀p,st2 p=AD->Q (.ref p) (b0 st2 p (.lst (L8 xs ys)))
 |.call f es=>λenv st Q=>Z.F f=AC/\B3 Z es env st λds st1=>Z.Phi f ds st1 Q
 |.gf f=>λ_ st Q=>Z.F f=AC/\Q (.fn f) st
 |.callx c es=>λenv st Q=>wpE Z c env st λx st1=>∃f,x=.fn f/\Z.F f=AC/\B3 Z es env st1 λds st2=>Z.Phi f ds st2 Q
 |.callv i es=>λenv st Q=>vR env[i]? λx=>W6 Z (B3 Z es env) st Q x
 |.gc g=>λ_ st Q=>∃d,Z.Kc g=AA d/\Q d st
 |.isT t a=>λenv st Q=>wpE Z a env st λx st1=>ab5 t x st1 Q
 |.cmpl ne a b=>λenv st Q=>wpE Z a env st λx st1=>wpE Z b env st1 λy st2=>Q8 ne x y st2 Q
 |.fld a f=>λenv st Q=>wpE Z a env st λx st1=>∃p c fs d,x=.ref p/\st1 p=AA (.ins c fs)/\f∈Z.C c/\fs.lookup f=AA d/\Q d st1
 |.meth a m es=>λenv st Q=>wpE Z a env st λx st1=>∃p c fs,x=.ref p/\st1 p=AA (.ins c fs)/\fs.lookup m=AD/\Z.F (f8 c m)=AC/\B3 Z es env st1 λds st2=>Z.Phi (f8 c m) (.ref p::ds) st2 Q
 |.methd a m es=>λenv st Q=>wpE Z a env st λx st1=>∃p c fs i,x=.ref p/\st1 p=AA (.ins c fs)/\fs.lookup m=AD/\Z.F (f8 c m)=AC/\C6 Z.C (f8 c m)=AA i/\B3 Z es env st1 λds st2=>Z.Phi (f8 c m) (.ref p::(ds++[.int i])) st2 Q
 |.make c es=>λenv st Q=>Z.MF (f8 c "__init__")=AC/\B3 Z es env st λds st1=>∀p,st1 p=AD->Z.Mk (f8 c "__init__") (.ref p::ds) (b0 st1 p (.ins c [])) λv st2=>v=.non/\Q (.ref p) st2
 |.app a b=>λenv st Q=>wpE Z a env st λx st1=>F6 x st1/\wpE Z b env st1 λy st2=>X6 x y st2 Q
 |.ext a b=>λenv st Q=>wpE Z a env st λx st1=>F6 x st1/\wpE Z b env st1 λy st2=>X9 x y st2 Q
 |.popAt a b=>λenv st Q=>wpE Z a env st λx st1=>F6 x st1/\wpE Z b env st1 λy st2=>as6 x y st2 Q
 |.pop a=>λenv st Q=>wpE Z a env st λx st1=>ab7 x st1 Q
 |.any a=>λenv st Q=>wpE Z a env st λx st1=>ax4 x st1 Q
 |.inl a b=>λenv st Q=>wpE Z a env st λx st1=>wpE Z b env st1 λy st2=>U1 x y st2 Q
 |.dnt=>λenv st Q=>Z.C "!kt"≠[]/\∀p,st p=AD->Q (.ref p) (b0 st p (.dtt []))
 |.dgt a k=>λenv st Q=>wpE Z a env st λx st1=>ay8 x st1/\wpE Z k env st1 λy st2=>az3 x y st2 Q
 |.din ne k a=>λenv st Q=>wpE Z k env st λy st1=>wpE Z a env st1 λx st2=>U3 ne y x st2 Q
 |.lrev a=>λenv st Q=>wpE Z a env st λx st1=>ab8 x st1 Q
 |.comp _ fr k t it c e=>λenv st Q=>E1 Z it env st λitems chk st1=>items.length<=1000000 /\
   B6 chk t (if c.isNon=AC then λ_ st Q=>Q AC st else λenv st Q=>wpE Z c env st λd st'=>∃b,d=.bl b/\Q b st') (λenv st Q=>wpE Z e env st Q) (λacc st'=>∀p,st' p=AD->Q (.ref p) (b0 st' p (.lst acc))) items [] (S6 fr k env) st1
noncomputable def B3(Z:Sg):Es->DA
 |.nil=>λ_ st Q=>Q [] st
 |.cons e r=>λenv st Q=>wpE Z e env st λd st1=>B3 Z r env st1 λds st2=>Q (d::ds) st2
noncomputable def E1(Z:Sg):It->l7->Sto->ItK->Prop
 |.seq e=>λenv st k=>wpE Z e env st λd st1=>(∃ds,d=.tup ds/\k ds (λ_=>True) st1)\/(∃a ds,d=.ref a/\rdS st1 a ds/\k ds (λst'=>rdS st' a ds) st1)
 |.rng a=>λenv st k=>wpE Z a env st λd st1=>∃j:Int,d=.int j/\(-(2^62)<=j/\j<2^62)/\k (t5 0 j.toNat) (λ_=>True) st1
 |.rng2 a b=>λenv st k=>wpE Z a env st λd st1=>wpE Z b env st1 λe st2=>∃i j:Int,d=.int i/\e=.int j/\(-(2^62)<=i/\i<2^62/\-(2^62)<=j/\j<2^62)/\k (t5 i (j-i).toNat) (λ_=>True) st2
 |.enum e=>λenv st k=>wpE Z e env st λd st1=>(∃ds,d=.tup ds/\k (u4 0 ds) (λ_=>True) st1)\/(∃a ds,d=.ref a/\rdS st1 a ds/\k (u4 0 ds) (λst'=>rdS st' a ds) st1)
 |.revt e=>λenv st k=>wpE Z e env st λd st1=>∃ds,d=.tup ds/\k ds.reverse (λ_=>True) st1
 |.rev e=>λenv st k=>wpE Z e env st λd st1=>∃a ds,d=.ref a/\rdS st1 a ds/\k ds.reverse (λst'=>rdS st' a ds) st1
end
abbrev wpT(Z:Sg)(e:E):DB:=λenv st Q=>wpE Z e env st λd st'=>∃b,d=.bl b/\Q b st'
structure DEnds where
 nx:l7->Sto->Prop
 rt:DK
 bk:l7->Sto->Prop:=λ_ _=>False
 ct:l7->Sto->Prop:=λ_ _=>False
@[reducible]noncomputable def DS:=DEnds->l7->Sto->Prop
abbrev u5(chk:Sto->Prop)(t:Tg)(tb:DS)(F:DEnds):List D->l7->Sto->Prop
 |[],env,st=>chk st/\F.nx env st
 |d::ds,env,st=>chk st/\G4 t d env λenv'=>tb {F with nx:=u5 chk t tb F ds,ct:=u5 chk t tb F ds,bk:=F.nx} env' st
abbrev C9(tc:DB)(tb:DS)(F:DEnds):Nat->l7->Sto->Prop
 |0,_,_=>False
 |n+1,env,st=>tc env st λb st1=>if b=AC then tb {F with nx:=C9 tc tb F n,ct:=C9 tc tb F n,bk:=F.nx} env st1 else F.nx env st1
mutual
noncomputable def wpS(Z:Sg):S->DS
 |.set i e=>λF env st=>wpE Z e env st λd st1=>F.nx (env.set i (AA d)) st1
 |.pre i=>λF env st=>∀p,st p=AD->F.nx (env.set i (AA (.ref p))) (b0 st p (.dct []))
 |.iput o i v=>λF env st=>wpE Z v env st λd st1=>wpE Z o env st1 λx st2=>wpE Z i env st2 λy st3=>au3 x y d st3 λst4=>F.nx env st4
 |.dput o i v=>λF env st=>wpE Z v env st λd st1=>wpE Z o env st1 λx st2=>wpE Z i env st2 λy st3=>av3 x y d st3 λst4=>F.nx env st4
 |.put o i v=>λF env st=>wpE Z v env st λd st1=>wpE Z o env st1 λx st2=>wpE Z i env st2 λy st3=>
   ∃a j k ds,x=.ref a/\y=.int j/\st3 a=AA (.lst ds)/\ixN ds.length j=AA k/\F.nx env (b0 st3 a (.lst (ds.set k d)))
 |.fldS o f v=>λF env st=>wpE Z v env st λd st1=>wpE Z o env st1 λx st2=>∃p c fs,x=.ref p/\st2 p=AA (.ins c fs)/\f∈Z.C c/\fs.length<1000/\F.nx env (b0 st2 p (.ins c (o8 f d fs)))
 |.unl is e=>λF env st=>wpE Z e env st λd st1=>∃q ds,d=.ref q/\rdS st1 q ds/\ds.length=is.length/\F.nx (C8 env is ds) st1
 |.unp is e=>λF env st=>wpE Z e env st λd st1=>G4 (.tup is) d env λenv'=>F.nx env' st1
 |.ex e=>λF env st=>wpE Z e env st λ_ st1=>F.nx env st1
 |.iff c a b=>λF env st=>wpT Z c env st λk st1=>if k=AC then i9 Z a F env st1 else i9 Z b F env st1
 |.ret e=>λF env st=>wpE Z e env st F.rt
 |.retN=>λF _ st=>F.rt .non st
 |.for t it b=>λF env st=>E1 Z it env st λitems chk st1=>u5 chk t (i9 Z b) F items env st1
 |.while c b=>λF env st=>∃n,C9 (wpT Z c) (i9 Z b) F n env st
 |.tr b=>i9 Z b
 |.cont=>λF env st=>F.ct env st
 |.dead=>λ_ _ _=>False
 |.pass=>λF env st=>F.nx env st
 |.dfn i np N cp b=>λF env st=>∃cs,P3 env cp=AA cs/\F.nx (env.set i (AA (.clo np N b cs))) st
noncomputable def i9(Z:Sg):Ss->DS
 |.nil=>λF env st=>F.nx env st
 |.cons s r=>λF env st=>wpS Z s {F with nx:=i9 Z r F} env st
end
structure Def where
 np:Nat
 N:List Str
 body:Ss
@[reducible]noncomputable def j6:=Str->Option Def
abbrev ae5(f:Def)(ds:List D):l7:=ds.map AA++Ab (f.N.length-ds.length) AD
structure Gs where
 tab:Str->List (Str×D)
 cls:Str->List Str
 cst:Str->Option D
abbrev br8(P:j6)(G:Gs)(lo lo2:Str->Spec)(po:Bool)(lc:Nat->List Str->Ss->List D->Spec)(f:Str):Spec:=λds st Q=>∃fd,P f=AA fd/\ds.length=fd.np/\i9 {λf=>(P f).isSome,lo,G.tab,G.cls,lo2,λf=>po&&(P f).isSome,lc,G.cst} fd.body
   {nx:=λ_ st'=>∃s2,Sub s2 st'/\Q .non s2,rt:=λd st'=>∃s2,Sub s2 st'/\Q d s2} (ae5 fd ds) st
abbrev Q7(N:List Str)(ds cs:List D):l7:=(ds++cs).map AA++Ab (N.length-(ds++cs).length) AD
abbrev br2(P:j6)(G:Gs)(lo lo2:Str->Spec)(po:Bool)(lc:Nat->List Str->Ss->List D->Spec)(np:Nat)(N:List Str)(b:Ss)(cs:List D):Spec:=λds st Q=>ds.length=np/\i9 {λf=>(P f).isSome,lo,G.tab,G.cls,lo2,λf=>po&&(P f).isSome,lc,G.cst} b
   {nx:=λ_ st'=>∃s2,Sub s2 st'/\Q .non s2,rt:=λd st'=>∃s2,Sub s2 st'/\Q d s2} (Q7 N ds cs) st
abbrev B9(P:j6)(G:Gs):Nat->(Str->Spec)×(Str->Spec)×Bool×(Nat->List Str->Ss->List D->Spec)
 |0=>(λ_ _ _ _=>False,λ_ _ _ _=>False,AF,λ_ _ _ _ _ _ _=>False)
 |n+1=>(br8 P G (B9 P G n).1 (B9 P G n).2.1 (B9 P G n).2.2.1 (B9 P G n).2.2.2,(B9 P G n).1,AC,br2 P G (B9 P G n).1 (B9 P G n).2.1 (B9 P G n).2.2.1 (B9 P G n).2.2.2)
abbrev sem(P:j6)(G:Gs)(n:Nat):Str->Spec:=(B9 P G n).1
abbrev O8(P:j6)(G:Gs)(n:Nat):Nat->List Str->Ss->List D->Spec:=(B9 P G n).2.2.2
def b71{P}{G}{n}:sem P G (n+1)=br8 P G (sem P G n) (B9 P G n).2.1 (B9 P G n).2.2.1 (O8 P G n):=rfl
def bz7{P}{G}{n}:O8 P G (n+1)=br2 P G (sem P G n) (B9 P G n).2.1 (B9 P G n).2.2.1 (O8 P G n):=rfl
end
section
class Tbs where
 ps:List AI
 mt:Ss->BL->List Str->Di->Prop
 kt:Bool
variable{H:Hp}{a:AI}{xs vs:List V}{v:V}{ds:List D}{o:HO}{σ:L2.St}{st:Sto}{kvs:List (Ak×D)}{ob:Ob}{X:Cx}{x:AU}{Qd:DK}{Q:VK}
structure FnScC(N P:List Str)(sc:BL):Prop where
 kind:sc.kind=.function
 co:sc.isCoroutine=AF
 gen:sc.isGenerator=AF
 nd:N.Nodup
 pre:N.take P.length=P
 par:∀x∈P,sc.names.lookup x=AA .local
 nocell:∀y∈sc.names,y.2≠.cell
 fre:∀y∈sc.names,y.2=.free->sc.names.lookup y.1=AA .free
abbrev R0(H:Hp)(cv:AG):Prop:=∃c o u vs q t,cv=.ref c/\H c=AA (.frz o u)/\(∀vs,u≠.lst vs)/\o.data=.fields vs/\vs[1]?=AA (.str q t)
variable [Tbs]
structure CloF(fd:Bl)(np:Nat)(N ps:List Str)(b:Ss):Prop where
 sc:FnScC N ps fd.scope
 np:ps.length=np
 mt:Tbs.mt b fd.scope N fd.body
 bind:∀us:List AG,us.length=ps.length->EA fd {us,[]}=pure (ps.zip us)
 gl:fd.globals=AN
 bl:fd.builtins=Cv
 has:∀x,(x,Az)∈fd.scope.names->∃c,fd.closure.lookup x=AA c
 fre:∀x c,fd.closure.lookup x=AA c->(x,Az)∈fd.scope.names
 inj:∀x y c,fd.closure.lookup x=AA c->fd.closure.lookup y=AA c->x=y
structure CloR(H:Hp)(f:AI)(fd:Bl)(np:Nat)(N:List Str)(us:List V):Prop where
 ex:∃o u,H f=AA (.frz o u)/\(∀vs,u≠.lst vs)/\o.data=.func fd
 cd:R0 H fd.code
 cl:∀x c,fd.closure.lookup x=AA c->∃o' u' w,H c=AA (.frz o' u')/\(∀vs,u'≠.lst vs)/\o'.data=.cell (AA w)
 at':∀(i:Nat)v,us[i]?=AA v->∃x c o' u' w,N[np+i]?=AA x/\fd.closure.lookup x=AA c/\H c=AA (.frz o' u')/\(∀vs,u'≠.lst vs)/\o'.data=.cell (AA w)/\j7 v w
abbrev aa9(H:Hp)(f:AI)(np:Nat)(N:List Str)(b:Ss)(us:List V):Prop:=∃fd ps,CloF fd np N ps b/\CloR H f fd np N us
abbrev SqX(K:AO)(H:Hp)(a:AI)(xs:List V):Prop:=H a=AA (.tup xs)\/(Tbs.kt=AC/\SqT K H a xs)
def SqX.sqt{K}(h:SqX K H a xs):=h.elim (λh=>.inl (.inl h)) λh=>h.2
def SqX.of{K:AO}(h:H a=AA (.tup xs)):SqX K H a xs:=.inl h
def SqX.trk{K}(b:Tbs.kt=AF)(h:SqX K H a xs):=h.elim (λh=>h) λh=>by simp_all
inductive IsD(K:AO)(H:Hp):D->V->Prop where
 |non:IsD K H .non .non
 |bl (b:Bool):IsD K H (.bl b) (.bl b)
 |int (i:Int):IsD K H (.int i) (.int i)
 |str (x:Str):IsD K H (.str x) (.str x)
 |ref (a:AI):IsD K H (.ref a) (.ref a)
 |fn {f:Str} {a:AI}:BB K AN f=AA (AA (.ref a))->IsD K H (.fn f) (.ref a)
 |clo {f:AI} {np:Nat} {N:List Str} {b:Ss} {ds:List D} {us:List V}:aa9 H f np N b us->ds.length=us.length->(∀(i:Nat)d v,ds[i]?=AA d->us[i]?=AA v->IsD K H d v)->IsD K H (.clo np N b ds) (.ref f)
 |tup {a:AI} {ds:List D} {vs:List V}:SqX K H a vs->ds.length=vs.length->(∀(i:Nat)d v,ds[i]?=AA d->vs[i]?=AA v->IsD K H d v)->IsD K H (.tup ds) (.ref a)
 |ktup {a:AI} {ks:List Key}:SqT K (λ_=>AD) a (ks.map kV)->D.pures (ks.map kD)=AC->IsD K H (.ktup ks) (.ref a)
structure IsDs(K:AO)(H:Hp)(ds:List D)(vs:List V):Prop where
 len:ds.length=vs.length
 at':∀(i:Nat)d v,ds[i]?=AA d->vs[i]?=AA v->IsD K H d v
section
variable {K:AO} {H' H2:Hp} {d:D} {es:List D} {ws:List V}
def IsD.mk(h:SqX K H a vs)(r:IsDs K H ds vs):IsD K H (.tup ds) (.ref a):=.tup h r.len r.at'
def IsD.tup_invX(h:IsD K H (.tup ds) v):∃a d,v=.ref a/\SqX K H a d/\IsDs K H ds d:=by
 cases h with
 |tup a b c=>show⟨_,_,rfl,a,b,c⟩
def IsD.tup_inv(h:IsD K H (.tup ds) v):∃a b,v=.ref a/\SqT K H a b/\IsDs K H ds b:=let⟨a,b,e,q,r⟩:=h.tup_invX;⟨a,b,e,q.sqt,r⟩
def IsDs.nil:IsDs K H [] []:={rfl,λi d v h=>by simp at h}
def IsDs.cons(h:IsD K H d v)(r:IsDs K H ds vs):IsDs K H (d::ds) (v::vs):={by simp[r.len],λi e w f c=>by
 cases i with
 |zero=>simp_all
 |succ i=>show r.at' i e w (by simpa using f) (by simpa using c)}
def IsDs.get(r:IsDs K H ds vs){i:Nat}{d}(h:ds[i]?=AA d):∃v,vs[i]?=AA v/\IsD K H d v:=by
 have a:=(AS.mp h).1;rw[r.len]at a;show{vs[i],AH a,r.at' i d _ h (AH a)}
def IsDs.get'(r:IsDs K H ds vs){i:Nat}(h:vs[i]?=AA v):∃d,ds[i]?=AA d/\IsD K H d v:=by
 have a:=(AS.mp h).1;rw[<-r.len]at a;show{ds[i],AH a,r.at' i _ v (AH a) h}
def IsDs.inv_cons{d}(r:IsDs K H (d::ds) vs):∃v a,vs=v::a/\IsD K H d v/\IsDs K H ds a:=by
 cases vs with
 |nil=>have:=r.len;simp at this
 |cons v a=>show⟨v,a,rfl,r.at' 0 d v rfl rfl,by have:=r.len;simpa using this,λi e w g f=>r.at' (i+1) e w (by simpa using g) (by simpa using f)⟩
def IsDs.inv_nil(r:IsDs K H [] vs):vs=[]:=by
 cases vs with
 |nil=>rfl
 |cons v c=>have:=r.len;simp at this
def IsDs.append(r:IsDs K H ds vs)(q:IsDs K H es ws):IsDs K H (ds++es) (vs++ws):={by simp[r.len,q.len],λi d v b a=>by
 by_cases c:i<ds.length
 ·rw[AZ c]at b;rw[AZ (r.len▸c)]at a;show r.at' i d v b a
 ·rw[Ai ⋯]at b;rw[Ai (by rw[<-r.len];lia),<-r.len]at a;show q.at' _ d v b a}
theorem IsDs.drop(r:IsDs K H ds vs)n:IsDs K H (ds.drop n) (vs.drop n):={by simp[r.len],λi d v b a=>by
 rw[List.getElem?_drop]at b a;show r.at' _ d v b a}
theorem IsDs.take(r:IsDs K H ds vs)n:IsDs K H (ds.take n) (vs.take n):={by simp[r.len],λi d v a b=>by
 rw[List.getElem?_take]at a b
 split at a
 ·rename_i c;rw[if_pos c]at b;show r.at' _ d v a b
 ·cases a}
theorem IsDs.set(r:IsDs K H ds vs)(h:IsD K H d v)n:IsDs K H (ds.set n d) (vs.set n v):={by simp[r.len],λi e w b a=>by
 rw[GK]at b a
 by_cases c:n=i
 ·simp_all
 ·rw[if_neg c]at b a;show r.at' i e w b a}
theorem IsDs.erase:∀{b}{a}(r:IsDs K H b a)n,IsDs K H (b.eraseIdx n) (a.eraseIdx n)
 |[],a,r,n=>by rw[r.inv_nil];simpa using IsDs.nil
 |d::b,a,r,n=>by
  let{v,h,rfl,g,f}:=r.inv_cons;cases n with
  |zero=>simp_all
  |succ n=>simpa using IsDs.cons g (IsDs.erase f n)
theorem IsDs.rev:∀{b}{a}(r:IsDs K H b a),IsDs K H b.reverse a.reverse
 |[],a,r=>r.inv_nil▸IsDs.nil
 |d::b,a,r=>by
  let{v,f,rfl,e,c}:=r.inv_cons;rw[DH,DH];show(IsDs.rev c).append (IsDs.cons e IsDs.nil)
abbrev TK(K:AO)(H H':Hp):Prop:=((∀a xs,SqT K H a xs->SqT K H' a xs)/\∀a xs,H a=AA (.tup xs)->H' a=AA (.tup xs))/\∀a o u,H a=AA (.frz o u)->(∀vs,u≠.lst vs)->H' a=AA (.frz o u)
def SqX.keep(h:SqX K H a xs)(k:TK K H H'):SqX K H' a xs:=h.elim (λh=>.inl (k.1.2 _ _ h)) λh=>.inr {h.1,k.1.1 _ _ h.2}
def TK.refl:TK K H H:={{λ_ _ h=>h,λ_ _ h=>h},λ_ _ _ h _=>h}
def TK.trans(a:TK K H H')(b:TK K H' H2):TK K H H2:={{λc d h=>b.1.1 c d (a.1.1 c d h),λc d h=>b.1.2 c d (a.1.2 c d h)},λc o u h n=>b.2 c o u (a.2 c o u h n) n}
def TK.upd'{p}(h:∀c,H p≠AA (.tup c))(e:∀o u,H p≠AA (.frz o u)):TK K H (upd H p o):=⟨⟨λa c q=>by
 rcases q with(q|⟨d,q⟩)|q
 ·show .inl (.inl (by have b:a≠p:=(λz=>h c (z▸q));rwa[l5 b]))
 ·show .inl (.inr ⟨d,by have b:a≠p:=(λz=>e _ _ (z▸q));rwa[l5 b]⟩)
 ·show .inr q,λa c q=>by have b:a≠p:=(λz=>h c (z▸q));rwa[l5 b]⟩,λa d u q n=>by have b:a≠p:=(λz=>e _ _ (z▸q));rwa[l5 b]⟩
def TK.new{p}(h:H p=AD):TK K H (upd H p o):=TK.upd' (by simp_all) (by grind)
def TK.putI{p}{C dx}{xs}(h:H p=AA (.ins C dx xs)):TK K H (upd H p o):=TK.upd' (by simp_all) (by grind)
def TK.put{p}(h:H p=AA (.lst xs)):TK K H (upd H p o):=TK.upd' (by simp_all) (by grind)
def R0.mono{cv}(h:R0 H cv)(k:TK K H H'):R0 H' cv:=let⟨c,o,u,b,q,t,f,e,a,d⟩:=h;{c,o,u,b,q,t,f,k.2 _ _ _ e a,a,d}
theorem CloR.mono{f}{fd}{np}{N}{us}(h:CloR H f fd np N us)(k:TK K H H'):CloR H' f fd np N us:=by
 let{{o,u,s,g,r},q,p,n}:=h;apply{{o,u,k.2 _ _ _ s g,g,r},q.mono k,λx c l=>?_,λi v m=>?_}
 ·let{e,d,w,a,b,c}:=p x c l;show{e,d,w,k.2 _ _ _ a b,b,c}
 ·let{x,c,e,d,w,A,z,y,j,t}:=n i v m;show{x,c,e,d,w,A,z,k.2 _ _ _ y j,j,t}
theorem aa9.mono{f}{np}{N}{b}{us}(h:aa9 H f np N b us)(k:TK K H H'):aa9 H' f np N b us:=let⟨d,c,a,b⟩:=h;{d,c,a,b.mono k}
theorem IsD.mono(h:IsD K H d v)(k:TK K H H'):IsD K H' d v:=by
 induction h with
 |non=>show .non
 |bl b=>show .bl b
 |int i=>show .int i
 |str x=>show .str x
 |ref a=>show .ref a
 |ktup h n=>show .ktup h n
 |fn h=>show .fn h
 |clo a b _ c=>show .clo (a.mono k) b c
 |tup a b _ c=>show .tup (a.keep k) b c
theorem IsDs.mono(h:IsDs K H ds vs)(k:TK K H H'):IsDs K H' ds vs:={h.len,λi d v a b=>(h.at' i d v a b).mono k}
structure RelE(K:AO)(H:Hp)(env:l7)(σ:L2.St):Prop where
 len:env.length=σ.length
 at':∀(i:Nat)d,env[i]?=AA (AA d)->∃v,σ[i]?=AA (AA v)/\IsD K H d v
variable {env:l7} {st':Sto}
theorem RelE.mono(r:RelE K H env σ)(k:TK K H H'):RelE K H' env σ:=⟨r.len,λi d h=>let⟨v,a,b⟩:=r.at' i d h;{v,a,b.mono k}⟩
theorem RelE.set(r:RelE K H env σ)(h:IsD K H d v)i:RelE K H (env.set i (AA d)) (σ.set i (AA v)):={by simp[r.len],λj e q=>by
 rw[GK]at q ⊢
 by_cases a:i=j
 ·rw[if_pos a]at q ⊢
  split at q
  ·rename_i b;rw[<-r.len,if_pos b];cases q;show⟨v,rfl,h⟩
  ·cases q
 ·rw[if_neg a]at q ⊢;show r.at' j e q}
structure IsKs(K:AO)(H:Hp)(kvs:List (Key×D))(vs:List (Key×V)):Prop where
 ks:kvs.map (·.1)=vs.map (·.1)
 ds:IsDs K H (kvs.map (·.2)) (vs.map (·.2))
theorem IsKs.mono{kvs}{vs}(h:IsKs K H kvs vs)(k:TK K H H'):IsKs K H' kvs vs:={h.ks,h.ds.mono k}
theorem IsKs.inv_cons{e}{kvs}{vs}(h:IsKs K H (e::kvs) vs):∃v a,vs=(e.1,v)::a/\IsD K H e.2 v/\IsKs K H kvs a:=by
 cases vs with
 |nil=>have:=h.ks;simp at this
 |cons f a=>
  let{k,v}:=f;have b:=h.ks;simp at b;have m:=h.ds;let{n,g,c,l,j}:=m.inv_cons;simp at c;let{rfl,rfl}:=c;show{v,a,by rw[b.1],l,b.2,j}
theorem IsKs.look:∀{a}{b}(h:IsKs K H a b)k,G6 a k=AD/\A4 b k=AD\/∃d v,G6 a k=AA d/\A4 b k=AA v/\IsD K H d v
 |[],b,h,k=>by
  have:=by have:=h.ks;simpa using this.symm
  subst this;show .inl ⟨rfl,rfl⟩
 |e::a,b,h,k=>by
  let{v,g,rfl,i,c}:=h.inv_cons;unfold G6 A4;rw[CD,CD]
  by_cases f:e.1=k
  ·simp_all
  ·erw[f,decide_false];show IsKs.look c k
structure IsPs(K:AO)(H:Hp)(kvs:List (Ak×D))(vs:List (Ak×V)):Prop where
 ks:kvs.map (·.1)=vs.map (·.1)
 ds:IsDs K H (kvs.map (·.2)) (vs.map (·.2))
theorem IsPs.nil:IsPs K H [] []:={rfl,.nil}
theorem IsPs.mono{vs}(h:IsPs K H kvs vs)(k:TK K H H'):IsPs K H' kvs vs:={h.ks,h.ds.mono k}
theorem IsPs.inv_cons{e}{vs}(h:IsPs K H (e::kvs) vs):∃v a,vs=(e.1,v)::a/\IsD K H e.2 v/\IsPs K H kvs a:=by
 cases vs with
 |nil=>have:=h.ks;simp at this
 |cons f a=>
  let{k,v}:=f;have b:=h.ks;simp at b;have m:=h.ds;let{n,g,c,l,j}:=m.inv_cons;simp at c;let{rfl,rfl}:=c;show{v,a,by rw[b.1],l,b.2,j}
theorem IsPs.cons{k}{d}{vs}(i:IsD K H d v)(h:IsPs K H kvs vs):IsPs K H ((k,d)::kvs) ((k,v)::vs):={by simp[h.ks],by simpa using IsDs.cons i h.ds}
theorem IsPs.look:∀{a}{b}(h:IsPs K H a b)k,F0 a k=AD/\A4 b k=AD\/∃d v,F0 a k=AA d/\A4 b k=AA v/\IsD K H d v
 |[],b,h,k=>by
  have:=by have:=h.ks;simpa using this.symm
  subst this;show .inl ⟨rfl,rfl⟩
 |e::a,b,h,k=>by
  let{v,g,rfl,i,c}:=h.inv_cons;unfold F0 A4;rw[CD,CD]
  by_cases f:e.1=k
  ·simp_all
  ·erw[f,decide_false];show IsPs.look c k
theorem IsPs.any:∀{a}{b}(h:IsPs K H a b)k,(a.any λc=>AB (c.1=k))=b.any λc=>AB (c.1=k)
 |[],b,h,k=>by
  have:=by have:=h.ks;simpa using this.symm
  subst this;rfl
 |e::a,b,h,k=>by
  let{v,f,rfl,g,d}:=h.inv_cons;rw[HG,HG,IsPs.any d k]
theorem IsPs.repl{d}(i:IsD K H d v)k:∀{a}{c}(h:IsPs K H a c),IsPs K H (a.map λb=>if b.1=k then(b.1,d)else b) (c.map λb=>if b.1=k then(b.1,v)else b)
 |[],c,h=>by
  have:=by have:=h.ks;simpa using this.symm
  subst this;show .nil
 |e::a,c,h=>by
  let{u,l,rfl,j,g}:=h.inv_cons;let{x,y}:=e;rw[Ar,Ar];by_cases f:x=k
  ·rw[if_pos f,if_pos f];show IsPs.cons i (IsPs.repl i k g)
  ·rw[if_neg f,if_neg f];show IsPs.cons j (IsPs.repl i k g)
theorem IsPs.snoc{d}(i:IsD K H d v)k:∀{a}{b}(h:IsPs K H a b),IsPs K H (a++[(k,d)]) (b++[(k,v)])
 |[],b,h=>by
  have:=by have:=h.ks;simpa using this.symm
  subst this;show IsPs.cons i .nil
 |e::a,b,h=>by
  let{u,g,rfl,f,c}:=h.inv_cons;show IsPs.cons f (IsPs.snoc i k c)
def IsPs.put{vs}(h:IsPs K H kvs vs){d}(i:IsD K H d v)k:IsPs K H (X5 kvs k d) (E5 vs k v):=by
 unfold X5 E5;rw[h.any k]
 by_cases q:(vs.any λa=>AB (a.1=k))=AC
 ·rw[if_pos q,if_pos q];show IsPs.repl i k h
 ·rw[if_neg q,if_neg q];show IsPs.snoc i k h
def IsPs.len{vs}(h:IsPs K H kvs vs):=by
 have:=congrArg BI h.ks;simpa using this
structure IsFs(K:AO)(H:Hp)(fs:List (Str×D))(vs:List (Str×V)):Prop where
 ks:fs.map (·.1)=vs.map (·.1)
 ds:IsDs K H (fs.map (·.2)) (vs.map (·.2))
theorem IsFs.nil:IsFs K H [] []:={rfl,.nil}
theorem IsFs.mono{fs}{vs}(h:IsFs K H fs vs)(k:TK K H H'):IsFs K H' fs vs:={h.ks,h.ds.mono k}
theorem IsFs.inv_cons{e}{fs}{vs}(h:IsFs K H (e::fs) vs):∃v a,vs=(e.1,v)::a/\IsD K H e.2 v/\IsFs K H fs a:=by
 cases vs with
 |nil=>have:=h.ks;simp at this
 |cons f a=>
  let{k,v}:=f;have b:=h.ks;simp at b;have m:=h.ds;let{n,g,c,l,j}:=m.inv_cons;simp at c;let{rfl,rfl}:=c;show{v,a,by rw[b.1],l,b.2,j}
theorem IsFs.cons{k}{d}{fs}{vs}(h:IsD K H d v)(r:IsFs K H fs vs):IsFs K H ((k,d)::fs) ((k,v)::vs):={by erw[Ar,r.ks],(.cons h r.ds)}
theorem IsFs.length{fs}{vs}(h:IsFs K H fs vs):fs.length=vs.length:=by simpa using h.ds.len
theorem IsFs.look:∀{b}{a}(h:IsFs K H b a)k,(b.lookup k=AD/\a.lookup k=AD)\/∃d v,b.lookup k=AA d/\a.lookup k=AA v/\IsD K H d v
 |[],a,h,k=>by
  have:=by have:=h.ks;simpa using this.symm
  subst this;show .inl ⟨rfl,rfl⟩
 |e::b,a,h,k=>by
  let{v,i,rfl,f,c}:=h.inv_cons;let{g,d}:=e;rw[EC,EC];cases hk:k==g with
  |true=>show .inr ⟨d,v,rfl,rfl,f⟩
  |false=>show IsFs.look c k
theorem IsFs.put:∀{c}{a}(h:IsFs K H c a){d}{v}(i:IsD K H d v)f,IsFs K H (o8 f d c) (C7 f v a)
 |[],a,h,d,v,i,f=>by
  have:=by have:=h.ks;simpa using this.symm
  subst this;show .cons i .nil
 |e::c,a,h,d,v,i,f=>by
  let{w,l,rfl,k,j}:=h.inv_cons;let{g,x}:=e;unfold o8 C7
  by_cases b:g=f
  ·rw[if_pos b,if_pos b];show .cons i j
  ·rw[if_neg b,if_neg b];show .cons k (IsFs.put j i f)
abbrev ObR(K:AO)(H:Hp)(a:AI):Ob->Prop
 |.lst ds=>∃vs,H a=AA (.lst vs)/\IsDs K H ds vs
 |.fro ds=>∃vs,Rd H a (.lst vs)/\IsDs K H ds vs
 |.dct kvs=>∃vs,H a=AA (.dK vs)/\IsKs K H kvs vs
 |.dtt kvs=>∃vs,H a=AA (.dT vs)/\IsPs K H kvs vs/\Tbs.kt=AF
 |.ins c fs=>∃C dx vs,H a=AA (.ins C dx vs)/\BB K AN c=AA (AA (.ref C))/\IsFs K H fs vs
structure TabOk(H:Hp)(ps:Array AG):Prop where
 tr:ET ps.toList
 co:∀pos cv,GL pos ps.toList=AA cv->R0 H cv
abbrev ae4(H:Hp):Prop:=∀P∈Tbs.ps,∃ps,H P=AA (.tbl ps)/\TabOk H ps
def ae4.stay(h:ae4 H)(k:TK K H H')(t:∀a b,H a=AA (.tbl b)->H' a=AA (.tbl b)):ae4 H':=λP f=>by
 let{b,e,o}:=h P f;show{b,t P b e,o.tr,λc g d=>(o.co c g d).mono k}
structure RelS(K:AO)(st:Sto)(H:Hp):Prop where
 ob:∀a o,st a=AA o->ObR K H a o
 tb:ae4 H
def RelS.free(r:RelS K st H){p}(h:H p=AD):st p=AD:=by
 cases q:st p with
 |none=>rfl
 |some o=>
  have z:=r.ob p o q;cases o with
  |lst j=>let{b,a,_}:=z;rw[h]at a;cases a
  |fro j=>
   obtain⟨b,a|⟨l,a⟩,_⟩:=z
   ·simp_all
   ·simp_all
  |dct d=>let{b,a,_}:=z;rw[h]at a;cases a
  |dtt d=>let{b,a,_}:=z;rw[h]at a;cases a
  |ins c m=>let{C,n,b,a,_}:=z;rw[h]at a;cases a
def RelS.sub(r:RelS K st' H)(s:Sub st st'):RelS K st H:={λa o h=>r.ob a o (s a o h),r.tb}
theorem RelS.stay(r:RelS K st H)(k:TK K H H')(l:∀a o,st a=AA o->H' a=H a)(t:∀a f,H a=AA (.tbl f)->H' a=AA (.tbl f)):RelS K st H':=⟨λa o h=>by
 have z:=r.ob a o h;have e:=l a o h;cases o with
 |lst u=>let{b,q,w}:=z;show{b,e▸q,w.mono k}
 |fro u=>
  obtain⟨b,q|⟨g,q⟩,w⟩:=z
  ·show{b,.inl (e▸q),w.mono k}
  ·show{b,.inr {g,e▸q},w.mono k}
 |dct d=>let{b,q,w}:=z;show{b,e▸q,w.mono k}
 |dtt d=>let{b,q,w,t}:=z;show{b,(e▸q),w.mono k,t}
 |ins c x=>let{C,p,b,q,n,w}:=z;show{C,p,b,e▸q,n,w.mono k},r.tb.stay k t⟩
def aq5{p}(h:∀b,H p≠AA (.tbl b)):∀a b,H a=AA (.tbl b)->upd H p o a=AA (.tbl b):=λa b e=>by
 have c:a≠p:=λz=>h b ((z▸e));rwa[l5 c]
def b46{p}(h:H p=AD):∀a b,H a=AA (.tbl b)->upd H p o a=AA (.tbl b):=aq5 (by grind)
theorem RelS.new(r:RelS K st H){p:AI}(h:H p=AD):RelS K st (upd H p o):=r.stay (TK.new h) (λa u e=>l5 λz=>by
 rw[z,r.free h]at e;cases e) (b46 h)
def RelS.putAny(r:RelS K st H){p}{o'}(f:TK K H (upd H p o'))(w:ObR K (upd H p o') p ob)(t:∀h,H p≠AA (.tbl h)):RelS K (b0 st p ob) (upd H p o'):=by
 have g:RelS K (λb=>if b=p then AD else st b) H:={λb u q=>by
  split at q
  ·cases q
  ·show r.ob b u q,r.tb}
 have d:=g.stay f (λb u q=>l5 λz=>by
  grind) (aq5 t)
 apply{λa o e=>?_,d.tb}
 by_cases c:a=p
 ·subst c;rw[c8]at e;cases e;show w
 ·rw[J4 c]at e;show d.ob a o (by rwa[if_neg c])
def RelS.putNew(r:RelS K st H){p}(h:H p=AD)(w:IsDs K H ds vs):RelS K (b0 st p (.lst ds)) (upd H p (.lst vs)):=
 r.putAny (TK.new h) {vs,v0,w.mono (TK.new h)} (by simp_all)
def RelS.putNewD(r:RelS K st H){p}{kvs}{ks}(h:H p=AD)(w:IsKs K H kvs ks):RelS K (b0 st p (.dct kvs)) (upd H p (.dK ks)):=
 r.putAny (TK.new h) {ks,v0,w.mono (TK.new h)} (by simp_all)
def RelS.putOld(r:RelS K st H){p}(h:H p=AA (.lst xs))(w:IsDs K H ds vs):RelS K (b0 st p (.lst ds)) (upd H p (.lst vs)):=
 r.putAny (TK.put h) {vs,v0,w.mono (TK.put h)} (by grind)
theorem RelS.lst(r:RelS K st H)(h:st a=AA (.lst ds)):∃b,H a=AA (.lst b)/\IsDs K H ds b:=r.ob a _ h
theorem RelS.dct(r:RelS K st H){kvs}(h:st a=AA (.dct kvs)):∃b,H a=AA (.dK b)/\IsKs K H kvs b:=r.ob a _ h
theorem RelS.ins(r:RelS K st H){c}{fs}(h:st a=AA (.ins c fs)):∃C d b,H a=AA (.ins C d b)/\BB K AN c=AA (AA (.ref C))/\IsFs K H fs b:=r.ob a _ h
def RelS.rd(r:RelS K st H)(h:rdS st a ds):∃c,SqL K H a c/\IsDs K H ds c:=by
 rcases h with h|h
 ·let{c,a,b}:=r.ob a _ h;show{c,.inl (.inl a),b}
 ·let{c,a,b}:=r.ob a _ h;show{c,.inl a,b}
def RelS.rdR(r:RelS K st H)(h:rdS st a ds):∃c,Rd H a (.lst c)/\IsDs K H ds c:=by
 rcases h with h|h
 ·let{c,a,b}:=r.ob a _ h;show{c,.inl a,b}
 ·let{c,a,b}:=r.ob a _ h;show⟨c,a,b⟩
end
abbrev TbE(o o':HO):Prop:=o'=o\/∃p p',o=.tbl p/\o'=.tbl p'
def TbE.trans{a b c}(x:TbE a b)(y:TbE b c):TbE a c:=by
 rcases x with rfl|⟨p,e,rfl,rfl⟩
 ·show y
 ·rcases y with rfl|⟨q,d,_,rfl⟩
  ·show .inr ⟨p,e,rfl,rfl⟩
  ·show .inr ⟨p,d,rfl,rfl⟩
abbrev Ev(st:Sto)(H:Hp)(st':Sto)(H':Hp):Prop:=∀a o,H a=AA o->st a=AD->(∃o',H' a=AA o'/\TbE o o')/\st' a=AD
section
variable {K:AO} {st1 st2:Sto} {H1 H2:Hp}
def Ev.get(e:Ev st H st1 H1)(h:H a=AA o)(k:st a=AD)(n:∀p,o≠.tbl p):H1 a=AA o/\st1 a=AD:=by
 let{{d,c,t},b}:=e a o h k
 rcases t with rfl|⟨p,_,rfl,_⟩
 ·show⟨c,b⟩
 ·show absurd rfl (n p)
def Ev.refl:Ev st H st H:=λ_ o h k=>{{o,h,.inl rfl},k}
theorem Ev.trans(a:Ev st H st1 H1)(b:Ev st1 H1 st2 H2):Ev st H st2 H2:=λc o h k=>by
 let{{f,i,t},y}:=a c o h k;let{{e,g,d},z}:=b c f i y;show{{e,g,t.trans d},z}
def RelS.no(r:RelS K st H)(h:H a=AA o)(v:∀b,o≠.lst b)(t:∀u b,o≠.frz u (.lst b))(s:∀b,o≠.dK b)(q:∀C g b,o≠.ins C g b)(p:∀b,o≠.dT b):st a=AD:=by
 cases z:st a with
 |none=>rfl
 |some f=>
  have w:=r.ob a f z;cases f with
  |lst m=>let{b,d,_}:=w;grind
  |fro m=>
   obtain⟨b,d|⟨u,d⟩,_⟩:=w
   ·grind
   ·grind
  |dct e=>let{b,d,_}:=w;grind
  |dtt e=>let{b,d,_}:=w;grind
  |ins c x=>let{C,g,b,d,_}:=w;grind
def Ev.tk(e:Ev st H st1 H1)(r:RelS K st H):TK K H H1:={{λa b q=>by
 rcases q with(q|⟨c,q⟩)|q
 ·show .inl (.inl (e.get q (r.no q (λ_ z=>by cases z) (λ_ _ z=>by cases z) (λ_ z=>by cases z) (λ_ _ _ z=>by cases z) (λ_ z=>by cases z)) λ_ z=>by cases z).1)
 ·show .inl (.inr {c,(e.get q (r.no q (λ_ z=>by cases z) (λ_ _ z=>by cases z) (λ_ z=>by cases z) (λ_ _ _ z=>by cases z) (λ_ z=>by cases z)) (λ_ z=>by cases z)).1})
 ·show .inr q,λa b q=>(e.get q (r.no q (λ_ z=>by cases z) (λ_ _ z=>by cases z) (λ_ z=>by cases z) (λ_ _ _ z=>by cases z) λ_ z=>by cases z) λ_ z=>by cases z).1},λa o u q n=>(e.get q (r.no q (λ_ z=>by cases z) (λ_ d z=>by grind) (λ_ z=>by cases z) (λ_ _ _ z=>by cases z) (λ_ z=>by cases z)) λ_ z=>by cases z).1}
def Ev.new{p}(h:H p=AD):Ev st H st (upd H p o):=λa u e k=>{{u,l5 (B4 e h)▸e,.inl rfl},k}
def Ev.newS{p}(h:H p=AD):Ev st H (b0 st p ob) (upd H p o):=λa u e k=>{{u,l5 (B4 e h)▸e,.inl rfl},J4 (B4 e h)▸k}
def Ev.put{p}{ob'}(h:st p=AA ob'):Ev st H (b0 st p ob) (upd H p o):=λa u e k=>by
 have b:a≠p:=λz=>by grind
 show{{u,l5 b▸e,.inl rfl},J4 b▸k}
def Ev.drop(s:Sub st2 st1)(e:Ev st H st1 H1):Ev st H st2 H1:=λa o h k=>by
 let{x,y}:=e a o h k;apply{x,?_};cases z:st2 a with
 |none=>rfl
 |some u=>rw[s a u z]at y;cases y
end
abbrev z6(K:AO)(st:Sto)(H:Hp)(Qd:DK)(Q:VK):Prop:=∀v d H' st',Ev st H st' H'->IsD K H' d v->RelS K st' H'->Qd d st'->Q v H'
abbrev up(K:AO)(t:DT):TE:=λσ H Q=>∃env st Qd,RelE K H env σ/\RelS K st H/\t env st Qd/\z6 K st H Qd Q
abbrev upB(K:AO)(t:DB):TT:=λσ H Q=>∃env st Qd,RelE K H env σ/\RelS K st H/\t env st Qd/\∀b H' st',Ev st H st' H'->RelS K st' H'->Qd b st'->Q b H'
abbrev upA(K:AO)(n:Nat)(t:DA):TA:=λσ H Q=>∃env st Qd,RelE K H env σ/\RelS K st H/\t env st Qd/\∀vs ds H' st',Ev st H st' H'->IsDs K H' ds vs->ds.length=n->RelS K st' H'->Qd ds st'->Q vs H'
def _root_.L2.PE.imp{t t'}(h:PE X x t)(i:∀a H Q,t' a H Q->t a H Q):PE X x t':=λb s a H Q I q=>h b s a H Q I (i a H Q q)
def _root_.L2.PT.imp{t t'}(h:PT X x t)(i:∀a H Q,t' a H Q->t a H Q):PT X x t':=λb s a H Q I q=>h b s a H Q I (i a H Q q)
def _root_.L2.PW.imp{t t'}(h:PW X x t)(i:∀a H Q,t' a H Q->t a H Q):PW X x t':=λw b s a H Q I q=>h w b s a H Q I (i a H Q q)
def _root_.L2.PA.imp{x}{t t'}(h:PA X x t)(i:∀a H Q,t' a H Q->t a H Q):PA X x t':=λc b s a H Q I q=>h c b s a H Q I (i a H Q q)
def _root_.L2.PSs.imp{x}{t t'}(h:PSs X x t)(i:∀D a H,t' D a H->t D a H):PSs X x t':=λb s a H D I q=>h b s a H D I (i D a H q)
def _root_.L2.PS.imp{x}{t t'}(h:PS X x t)(i:∀D a H,t' D a H->t D a H):PS X x t':=λb s a H D I q=>h b s a H D I (i D a H q)
def z6.after{K}{st1}{H1}(p:z6 K st H Qd Q)(e:Ev st H st1 H1):z6 K st1 H1 Qd Q:=λv d c a b=>p v d c a (e.trans b)
def z6.here{K}{d}(p:z6 K st H Qd Q)i(r)q:=p v d H st Ev.refl i r q
def z6.newL{K}(p:z6 K st H Qd Q)(r:RelS K st H)(w:IsDs K H ds vs)(q:∀p,st p=AD->Qd (.ref p) (b0 st p (.lst ds))):∀l,H l=AD->Q (.ref l) (upd H l (.lst vs)):=λl a=>
 p _ (.ref l) _ (b0 st l (.lst ds)) (Ev.newS a) (.ref l) (r.putNew a w) (q l (r.free a))
def z6.newT{K}(p:z6 K st H Qd Q)(r:RelS K st H)(w:IsDs K H ds vs)(q:Qd (.tup ds) st):∀l,H l=AD->Q (.ref l) (upd H l (.tup vs)):=λl a=>
 p _ (.tup ds) _ st (Ev.new a) (IsD.mk (SqX.of v0) (w.mono (TK.new a))) (r.new a) q
def up1{K}{t}{f:D->Sto->DK->Prop}{R:V->Hp->Prop}(h:up K (λb i Q=>t b i λd g=>f d g Q) σ H Q)
  (k:∀v d c a e,IsD K c d v->RelS K a c->f d a e->z6 K a c e Q->R v c):up K t σ H R:=by
 let{b,i,e,p,o,m,n}:=h;show{b,i,_,p,o,m,λv d c a r l j q=>k v d c a e l j q (n.after r)}
def up2{K}{t u}{f:D->D->Sto->DK->Prop}{R:V->V->Hp->Prop}(h:up K (λb m Q=>t b m λd l=>u b l λe c=>f d e c Q) σ H Q)
  (k:∀v w d e g a j,IsD K g d v->IsD K g e w->RelS K a g->f d e a j->z6 K a g j Q->R v w g):up K t σ H λv E=>up K u σ E λw p=>R v w p:=by
 let{b,m,j,x,s,B,C}:=h;show{b,m,_,x,s,B,λv d g a y A r q=>{b,a,_,x.mono (y.tk s),r,q,λw e p c i o n z=>
  k v w d e p c j (A.mono (i.tk r)) o n z ((C.after y).after i)}}
def ay0{K}{n}{t}{f:List D->Sto->DK->Prop}{R}(h:up K (λb j Q=>t b j λc i=>f c i Q) σ H Q)
  (k:∀e c d a g,IsDs K d c e->c.length=n->RelS K a d->f c a g->z6 K a d g Q->R e d):upA K n t σ H R:=by
 let{b,j,g,u,s,o,p}:=h;show{b,j,_,u,s,o,λe c d a v m r l q=>k e c d a g m r l q (p.after v)}
def c89{t}(h:PE X x (up X.K t))(l:∀a,IF x X.env a=do let v <-a;Hs x.pos;holding [v] (truthy v)):
  PT X x (upB X.K λe f Q=>t e f λd c=>∃b,d=.bl b/\Q b c):=PT.imp (c10 h l) λr H Q q=>by
 let{e,f,s,n,m,j,k}:=q;apply{e,f,_,n,m,j,λv d p c o i g q=>?_};let{b,rfl,q}:=q;cases i;show{b,rfl,k b p c o g q}
end
section
variable [Tbs]
mutual
theorem Q5:∀d:D,d.pure=AC->d.py.canLay0=AC
 |.non,_=>rfl
 |.bl _,_=>rfl
 |.int _,_=>rfl
 |.str _,h=>h
 |.tup ds,h=>by change DL (D.pys ds)=AC;show Q2 ds h
 |.ref _,h=>nomatch h
 |.fn _,h=>nomatch h
 |.clo _ _ _ _,h=>nomatch h
 |.ktup _,h=>nomatch h
theorem Q2:∀ds:List D,D.pures ds=AC->DL (D.pys ds)=AC
 |[],_=>rfl
 |d::r,h=>by
  have h':d.pure=AC/\D.pures r=AC:=by simpa[D.pures]using h
  change(d.py.canLay0&&DL (D.pys r))=AC;rw[Q5 d h'.1,Q2 r h'.2];rfl
end
theorem bb5:∀{a},D.pures a=AC->∀d∈a,d.pure=AC
 |[],_,d,h=>by cases h
 |e::r,h,d,b=>by
  have c:=by simpa[D.pures]using h
  rcases AM.mp b with z|z
  ·simp_all
  ·show bb5 c.2 d z
section
variable {X:Cx} {pins:List (AI×Obj)} {σ:L2.St} {H:Hp} {s:AL}
theorem a04{P:D->Prop}(g:∀d v u,P d->IsD X.K H d v->j7 v u->∃b,Reads s.heap u d.py b):∀a(c)f,(∀d∈a,P d)->IsDs X.K H a c->i7 c f->∃b,ReadsAll s.heap f (D.pys a) b
 |[],c,f,_,r,q=>by rw[r.inv_nil]at q;cases q;show{[],.nil}
 |d::a,c,f,h,r,q=>by
  let{v,j,rfl,t,p}:=r.inv_cons;cases q with
  |cons n m=>
   let{b,l}:=g d v _ (h d ∎) t n;let{w,k}:=a04 g a j _ (λe o=>h e (by simp[o])) p m;show{b++w,.cons l k}
def M3(I:L2.Inv X pins σ H s){d:D}{v:V}(h:IsD X.K H d v):∀{u:AG},d.pure=AC->j7 v u->∃l,Reads s.heap u d.py l:=by
 induction h with
 |non=>intro u _ r;cases r;show{_,.none}
 |bl b=>intro u _ r;cases r;show{_,.bool b}
 |int i=>intro u _ r;let{t,rfl}:=r;show{_,.int i t}
 |str x=>intro u _ r;let{t,rfl}:=r;show{_,.str x t}
 |ref a=>intro u h;cases h
 |fn _=>intro u h;cases h
 |clo _ _ _ _=>intro u h;cases h
 |ktup _ _=>intro u h;cases h
 |@tup a ds J U Z hat T=>
  intro u W r;cases r;let{z,M,{o,Y,hc,n,hd},hz}:=I.tuple U.sqt;have C:∀(f:List D)(c:List V)(j:List AG),(∀(i:Nat)d v,f[i]?=AA d->c[i]?=AA v->∀{u:AG},d.pure=AC->j7 v u->∃l,Reads s.heap u d.py l)->f.length=c.length->D.pures f=AC->i7 c j->∃l,ReadsAll s.heap j (D.pys f) l:=by
   intro f
   induction f with
   |nil=>intro c j _ k _ q;cases c with
    |nil=>cases q;show{[],.nil}
    |cons a b=>simp at k
   |cons e es A=>
    intro c j m k B q;cases c with
    |nil=>simp at k
    |cons w G=>
     have y:e.pure=AC/\D.pures es=AC:=by simpa[D.pures]using B
     cases q with
     |cons Q P=>
      let{l,E}:=m 0 e w rfl rfl y.1 Q;let{bs,O}:=A G _ (λi d v a b=>m (i+1) d v (by simpa using a) (by simpa using b)) (by simpa using k) y.2 P;show{l++bs,.cons E O}
  let{l,E}:=C ds J z T Z W M;show{l,.tuple Y hc hd (by simp_all)}
def bi0{A:BW}{a b}(c:A.units+200<Bs)(h:Eu a b<=150):A.units+min a b<Bs:=by
 lia
def cy3(k:X.A.units+200<Bs):OpR X (Bp .Eq) λx y H Q=>∃d e,IsD X.K H d x/\IsD X.K H e y/\d.pure=AC/\e.pure=AC/\Eu (o9 d) (o9 e)<=150/\Q (.bl (deq d e)) H:=by
 intro a s o H x y v u Q I g f h;let{d,e,n,m,c,b,l,q}:=h;let{r,j}:=M3 I n c g;let{p,i}:=M3 I m b f;show JJ j i (Q5 d c) (Q5 e b) (bi0 k l) X.prog X.w _ _ {.bl (deq d e),H,I,rfl,q}
def c17(k:X.A.units+200<Bs):OpR X (Bp .NotEq) λx y H Q=>∃d e,IsD X.K H d x/\IsD X.K H e y/\d.pure=AC/\e.pure=AC/\Eu (o9 d) (o9 e)<=150/\Q (.bl !deq d e) H:=by
 intro a s o H x y v u Q I g f h;let{d,e,n,m,c,b,l,q}:=h;let{r,j}:=M3 I n c g;let{p,i}:=M3 I m b f;show Ia j i (Q5 d c) (Q5 e b) (bi0 k l) X.prog X.w _ _ {.bl !deq d e,H,I,rfl,q}
theorem ad0:∀a(x),((D.pys a).any λy=>Au y x.py)=a.any λy=>deq y x
 |[],_=>rfl
 |d::r,x=>by
  change(Au d.py x.py||(D.pys r).any _)=(deq d x||r.any _);rw[ad0 r x];rfl
def aq4{A:BW}{a b}(c:A.units+200<Bs)(h:b<=150):A.units+1+min a b<Bs:=by
 have:min a b<=b:=HC _ _;lia
def bk1(m:X.A.units+200<Bs):OpR X (Bp .In) λx y H Q=>∃d a,IsD X.K H d x/\IsD X.K H (.tup a) y/\d.pure=AC/\D.pures a=AC/\o9 d<=150/\Q (.bl (a.any λe=>deq e d)) H:=by
 intro c s r H x y v u Q I j i h;let{d,a,p,o,g,f,n,q}:=h;let{w,l}:=M3 I p g j;let{t,k}:=M3 I o f i;have b:=k;show SeqAt.in_tuple_reads b l (Q2 a f) (Q5 d g) (aq4 m n) (by rw[ad0];show{.bl _,H,I,rfl,q})
def bi7(m:X.A.units+200<Bs):OpR X (Bp .NotIn) λx y H Q=>∃d a,IsD X.K H d x/\IsD X.K H (.tup a) y/\d.pure=AC/\D.pures a=AC/\o9 d<=150/\Q (.bl (!a.any λe=>deq e d)) H:=by
 intro c s r H x y v u Q I j i h;let{d,a,p,o,g,f,n,q}:=h;let{w,l}:=M3 I p g j;let{t,k}:=M3 I o f i;have b:=k;show SeqAt.notIn_tuple_reads b l (Q2 a f) (Q5 d g) (aq4 m n) (by rw[ad0];show{.bl _,H,I,rfl,q})
end
end
end Ek
namespace PySem
def bt1:=
 fillsNumberSlot_seq Dn.lookup rfl Jo.lookup rfl
def bu3:seqRepeat? (.type "tuple")=pure (AA (.builtin "tuple.__mul__")):=by
 rfl
def bt4(a:Int)(t:Tok)(l:AI)(c:Array AG)(n:Nat)(e:Option AI)(d:Array (Option AG)):
  Ik (Dh.«int.__rmul__» {[.int a t,.ref l],[]}) (λ_ R s=>s.heap.get? l=AA {cls:=.type "tuple",dict:=e,data:=.seq c n,slots:=d}/\R (.ok (.ret Value.notImplemented)) s):=
 .of_wp λb w A R s h=>by let{f,h}:=h;wp_walk;show⟨_,rfl,h⟩
def b25(l:AI)(a:Array AG)(n:Nat)(o:Option AI)(f:Array (Option AG))(k:Int)(u:Tok)(m:a.isEmpty=AF)(y:2<=k)(x:k<2^63)(g:a.size*k.toNat<=sizeLine):
  Ik (Dh.«tuple.__mul__» {[.ref l,.int k u],[]}) (λ_ R s=>s.heap.get? l=AA {cls:=.type "tuple",dict:=o,data:=.seq a n,slots:=f}/\R (.ok (.ret (At s.heap.objs.size))) {s with heap:=s.heap.push {cls:=CY "tuple",data:=Data.seq (Fk (λc b=>c++b) #[] (Ab k.toNat a))},toks:=s.toks}):=
 .of_wp λd w A R s h=>by
  let{j,h}:=h;have v:(AB (k < -(2^63))||AB (k>=2^63))=AF:=by lia
  have t:(a.isEmpty||k==1)=AF:=by rw[m];lia
  have r:(AB (k<=0)||a.isEmpty)=AF:=by lia
  have e:(a.size:Int)*k=((a.size*k.toNat:Nat):Int):=by rw[Jp,Int.toNat_of_nonneg ⋯]
  have q:¬((a.size:Int)*k>(2^63-1) / 8):=by
   rw[e];have:(sizeLine:Nat)<=(2^63-1) / 8:=by decide
   lia
  have p:Fj ((a.size:Int)*k)=AF:=by
   rw[e];show decide_eq_false ⋯
  apply AE (AK ?_);rw[v];apply AE (AE (Bn j rfl (AK ?_)));rw[t,r];rw[if_neg q,p];apply AE (Ba (AK ⟨_,rfl,h⟩) ?_);have i:(Fk (λc b=>c++b) #[] (Ab k.toNat a)).size=k.toNat*a.size:=by
   have:=L2.ao9 a.toList k.toNat [];rw[show((#[]:Array AG))=([]:List AG).toArray from rfl,this];simp[L2.bh7]
  change(Fk (λc b=>c++b) #[] (Ab k.toNat a)).size<=sizeLine;rw[i,Lg];show g
def bx9 l(a:Array AG)n(f:Option AI)(c:Array (Option AG))u(e:a.isEmpty=AF):
  Ik (Dh.«tuple.__mul__» {[.ref l,.int 0 u],[]}) (λ_ R s=>s.heap.get? l=AA {cls:=.type "tuple",dict:=f,data:=.seq a n,slots:=c}/\R (.ok (.ret (At s.heap.objs.size))) {s with heap:=s.heap.push {cls:=CY "tuple",data:=Data.seq #[]},toks:=s.toks}):=
 .of_wp λb w A R s h=>by
  let{d,h}:=h;apply AE (AK ?_);apply AE (AE (Bn d rfl (AK ?_)));rw[e];show AE (Ba (AK ⟨_,rfl,h⟩) (Av _))
def by3 l(c:Array AG)n(m:Option AI)(f:Array (Option AG))u:
  Ik (Dh.«tuple.__mul__» {[.ref l,.int 1 u],[]}) (λ_ R s=>s.heap.get? l=AA {cls:=.type "tuple",dict:=m,data:=.seq c n,slots:=f}/\R (.ok (.ret (At l))) s):=
 .of_wp λa w A R s h=>by
  let{j,g,d,e,i}:=s;let{b,h}:=h;have k:(⟨j,g,d,e,i⟩:AL).TypeIs (.ref l) "tuple":=⟨_,b,rfl⟩;apply AE (AK ?_);apply AE (AE (Bn b rfl (AK ?_)));rw[if_pos ∎];apply AE (AE (FU k (AK ?_)));show AE (Dq (AK ⟨_,rfl,h⟩))
end PySem
namespace L2
open PySem PySem.Spec PyProof.Rows
variable {X:Cx}
abbrev da3(K:AO):R2:=λx y H Q=>∃a k xs,x=.ref a/\y=.int k/\SqT K H a xs/\xs≠[]/\0<=k/\k<2^62/\xs.length*k.toNat<=sizeLine /\
 (k=1->Q (.ref a) H)/\(k≠1->∀p,H p=AD->Q (.ref p) (upd H p (.tup (Ab k.toNat xs).flatten)))
def cl9:OpR X (Cy .Mult) (da3 X.K):=by
 intro q s U H x y v u Q I G E h;let{a,k,C,rfl,rfl,S,M,Z,Y,V,J,p}:=h;cases G;let{t,rfl}:=E;let{c,r,L,W}:=I.tuple S;let{{T,i,B,g},d,P,n,O}:=id L;subst P O;have z:=r.length;have m:∀{R},AW (model X.prog X.w) X.A (call (.builtin "tuple.__mul__") [.ref a,.int k t]) R X.xe s->AW (model X.prog X.w) X.A (Cy .Mult (.ref a) (.int k t)) R X.xe s:=λN=>
  wpAny_binaryOp_repeat_ref ∅ ⟨_,d,rfl⟩ (λD=>KC D k t) bt1 F.fills_int_mul KS bu3 F.slot_int_index.lookup
   (Cz KS (KC s k t) F.entry_int_rmul (F.args_int_rmul_2 _ _) (bt4 k t a c.toArray n i g) {d,rfl,⟨_,d,rfl⟩,N})
 by_cases l:k=1
 ·subst l;show m (Cz Dn ⟨_,d,rfl⟩ Gk (GS _ _) (by3 a c.toArray n i g t) {d,{.ref a,H,I,rfl,J rfl}})
 ·have f:c.toArray.isEmpty=AF:=by
   grind
  by_cases j:k=0
  ·subst j;apply m (Cz Dn ⟨_,d,rfl⟩ Gk (GS _ _) (bx9 a c.toArray n i g t f) {d,?_});show{.ref _,_,I.laid (o:=.tup []) (λb o=>AQ _) (AR _) {Av _,[],.nil,_,Aj _ rfl,rfl,rfl,_,rfl},rfl,p l _ I.fresh}
  apply m (Cz Dn ⟨_,d,rfl⟩ Gk (GS _ _) (b25 a c.toArray n i g k t f ⋯ ⋯ (by simp_all)) {d,?_});have e:=by
   have:=ao9 c k.toNat [];show this
  rw[e];apply{.ref _,_,I.laid (o:=.tup (Ab k.toNat C).flatten) (λb o=>AQ _) (AR _) {?_,_,r.rep k.toNat,_,Aj _ rfl,rfl,rfl,_,rfl},rfl,p l _ I.fresh};rwa[bh7,Lg]
end L2
namespace Ek
open PySem PySem.Spec PyProof.Rows L2
section
variable [Tbs]
variable{x:AU}{v:V}{i:Int}{es:List AU}{n:Nat}{H:Hp}{o:Do}
section
variable {X:Cx} {a b c:AU} {ta tb tc:DT} {pos:Pos}
def af5{d}(h:PE X x (tC v))(i:∀H,IsD X.K H d v):PE X x (up X.K λ_ a Q=>Q d a):=PE.imp h λg H Q q=>by
 let{f,a,k,j,e,b,c}:=q;show c.here (i H) e b
def cp4{i:Nat}{x:Str}(hN:X.N[i]?=AA x)(hv:Vis X.env.scope x)(hd:(x==("__debug__":Str))=AF)(hcd:(x==("__classdict__":Str))=AF):PE X (.Name x pos) (up X.K λenv st Q=>vR env[i]? λd=>Q d st):=
 PE.imp (as7 hN hv hd hcd) λσ H Q q=>by
  let{env,st,Qd,hE,hS,hz,hq}:=q;let{d,h1,ht}:=au0 hz;let{v,h2,is}:=hE.at' i d h1;show{v,h2,hq.here is hS ht}
def r9{xs}{env}(h:∀e p,x≠.Starred e p):Am (x::xs) env=(AF,eval x env)::Am xs env:=by
 cases x<;>first|rfl|show absurd rfl (h _ _)
def bm1:PA X [] (upA X.K 0 λ_ a Q=>Q [] a):=PA.imp at3 λf H Q q=>by
 let{e,a,h,g,d,b,c}:=q;show c [] [] H a Ev.refl .nil rfl d b
def V4{t}(B:PE X a (up X.K ta))(y:PA X es (upA X.K n t))(h:∀e p,a≠.Starred e p):PA X (a::es) (upA X.K (n+1) λb i Q=>ta b i λd f=>t b f λk c=>Q (d::k) c):=
 PA.imp (Z8 B y (r9 h)) λD H Q q=>by
  let{b,i,E,o,m,x,z}:=q;show{b,i,_,o,m,x,λv d F f r w l u=>{b,f,_,o.mono (r.tk m),l,u,λs k C c g j A=>z (v::s) (d::k) C c (r.trans g) (.cons (w.mono (g.tk l)) j) (by simp[A])}}
def cw2{k}{t}(h:PA X es (upA X.K n t))(l:n<=1000):PE X (.Tuple es k pos) (up X.K λb f Q=>t b f λd a=>Q (.tup d) a):=
 PE.imp (co2 h) λo H Q q=>ay0 q λp d s e r c m g i j=>{by rw[<-c.len,m];show Gw (a93 l),j.newT g c i}
def ct1{t}(h:PA X es (upA X.K n t))(k:n<=1000):PE X (.List es pos) (up X.K λb f Q=>t b f λd a=>∀p,a p=AD->Q (.ref p) (b0 a p (.lst d))):=
 PE.imp (co8 h) λm H Q q=>ay0 q λo d s e r c l g i j=>{by rw[<-c.len,l];show Gw (a93 k),j.newL g c i}
def IsD.int_inv{K}(h:IsD K H (.int i) v):v=.int i:=by cases h;rfl
def IsD.str_inv{K}{i}(h:IsD K H (.str i) v):v=.str i:=by cases h;rfl
def IsD.bl_inv{K}{i}(h:IsD K H (.bl i) v):v=.bl i:=by cases h;rfl
def IsD.ref_inv{K}{i}(h:IsD K H (.ref i) v):v=.ref i:=by cases h;rfl
def cd7{k}(h:n<2^k)h0:=(Nat.log2_lt h0).mpr h
def bg1(h:i.natAbs<2^20000):DY i<=20000:=by
 unfold DY
 by_cases a:i=0
 ·subst a;show Av _
 ·rw[if_neg (by simp_all)];show cd7 h ⋯
theorem T9.ok{j}(h:T9 i j):LS i j:=by
 rcases h with h|⟨b,a⟩
 ·show h.ok
 ·have d:=bg1 b;have c:=bg1 a;unfold LS;have:Gn (DY i+DY j)=AF:=by
   unfold Gn;have:40000<=bitsLine:=by decide
   lia
  first
   |simp_all
   |grind
def cl0:OpR X (Cy .Mult) (rI T9 λi j=>.int (i*j)):=opI λ_ _ _ _ _ _ _ a q=>mul_int q a.ok
theorem _root_.Ek.IsDs.repl{K}{xs}{vs}(r:IsDs K H xs vs):∀n,IsDs K H (Ab n xs).flatten (Ab n vs).flatten
 |0=>.nil
 |n+1=>r.append (r.repl n)
def cp0{o:FG}(B:PE X a (up X.K ta))(A:PE X b (up X.K tb)):PE X (.BinOp a o b pos) (up X.K λs P Q=>ta s P λx O=>tb s O λy N=>E6 o x y N Q):=by
 cases o with
 |Add=>
  apply PE.imp (T8 (cz4.or (ce1.or co9)) B A) λC H Q q=>up2 (f:=E6 .Add) q λv w d e E j t m l g c i=>?_;cases d<;>first|show AV c|(cases e<;>first|show AV c|skip)
  ·show .inl {_,_,m.int_inv,l.int_inv,i.here (.int _) g c}
  ·rename_i L T;let{p,G,J,I,n}:=m.tup_invX;let{q',M,S,U,u}:=l.tup_invX;apply .inr (.inl {p,q',G,M,J,S,I.sqt,U.sqt,by rw[<-n.len,<-u.len];show c.1,λz=>?_,λa W=>?_,λ_ _=>i.newT g (n.append u) c.2})
   ·have:L=[]:=by rw[z]at n;have:=n.len;show Bh (by simpa using this)
    subst this;show i.here (IsD.mk U u) g c.2
   ·have:T=[]:=by rw[W]at u;have:=u.len;show Bh (by simpa using this)
    subst this;have D:=c.2;rw[BF]at D;show i.here (IsD.mk I n) g D
  ·let{L,T,Z,Y,hz,D}:=c;let{G,J,n}:=g.lst Z;let{M,S,u}:=g.lst Y;show .inr (.inr {_,_,G,M,m.ref_inv,l.ref_inv,J,S,by rw[<-n.len,<-u.len];show hz,i.newL g (n.append u) D})
 |Sub=>
  apply PE.imp (T8 c42 B A) λC H Q q=>up2 (f:=E6 .Sub) q λv w d e E j t m l g c i=>?_;cases d<;>first|show AV c|(cases e<;>first|show AV c|skip)
  show{_,_,m.int_inv,l.int_inv,i.here (.int _) g c}
 |Mult=>
  apply PE.imp (T8 (cl0.or cl9) B A) λC H Q q=>up2 (f:=E6 .Mult) q λv w d e E j t m l g c i=>?_;cases d<;>first|show AV c|(cases e<;>first|show AV c|skip)
  ·show .inl {_,_,m.int_inv,l.int_inv,c.1,i.here (.int _) g c.2}
  ·rename_i L k;let{p,G,J,I,n}:=m.tup_invX;let{h0,h1,D,h3,c}:=c;apply .inr {p,k,G,J,l.int_inv,I.sqt,λz=>h0 (by rw[z]at n;show Bh (by simpa using n.len)),h1,D,by rw[<-n.len];show h3,λz=>?_,λ_=>i.newT g (n.repl k.toNat) c};subst z;have R:t (.tup L) j:=by simpa using c
   show i.here (IsD.mk I n) g R
 |Mod=>
  apply PE.imp (T8 ct0 B A) λC H Q q=>up2 (f:=E6 .Mod) q λv w d e E j t m l g c i=>?_;cases d<;>first|show AV c|(cases e<;>first|show AV c|skip)
  show{_,_,m.int_inv,l.int_inv,c.1,i.here (.int _) g c.2}
 |FloorDiv=>
  apply PE.imp (T8 cc0 B A) λC H Q q=>up2 (f:=E6 .FloorDiv) q λv w d e E j t m l g c i=>?_;cases d<;>first|show AV c|(cases e<;>first|show AV c|skip)
  show{_,_,m.int_inv,l.int_inv,c.1,i.here (.int _) g c.2}
 |Pow=>
  apply PE.imp (T8 cs6 B A) λC H Q q=>up2 (f:=E6 .Pow) q λv w d e E j t m l g c i=>?_;cases d<;>first|show AV c|(cases e<;>first|show AV c|skip)
  show{_,_,m.int_inv,l.int_inv,c.1,i.here (.int _) g c.2}
 |_=>
  apply PE.imp (T8 (op:=_) (r:=λ_ _ _ _=>False) (λ_ _ _ _ _ _ _ _ _ _ _ _ h=>h.elim) B A) λC H Q q=>up2 (f:=λ_ _ _ _=>False) (by
   let{s,P,t,hE,hS,c,i}:=q;show⟨s,P,t,hE,hS,c,i⟩) λv w d e E j t m l g c i=>c
def cp6(l:PE X a (up X.K ta)):PE X (.UnaryOp .USub a pos) (up X.K λe g Q=>ta e g λx b=>∃i,x=.int i/\Q (.int (-i)) b):=
 PE.imp (de7 ct2 l) λm H Q q=>up1 q λv d o f n j h c k=>by
  let{i,rfl,c}:=c;show{i,j.int_inv,k.here (.int _) h c}
abbrev ax3(X:Cx):Do->R2
 |.Eq=>λx y H Q=>∃d e,IsD X.K H d x/\IsD X.K H e y/\d.pure=AC/\e.pure=AC/\Eu (o9 d) (o9 e)<=150/\Q (.bl (deq d e)) H
 |.NotEq=>λx y H Q=>∃d e,IsD X.K H d x/\IsD X.K H e y/\d.pure=AC/\e.pure=AC/\Eu (o9 d) (o9 e)<=150/\Q (.bl (!deq d e)) H
 |.Lt=>rI0 λi j=>.bl (AB (i<j))
 |.LtE=>rI0 λi j=>.bl (AB (i<=j))
 |.Gt=>rI0 λi j=>.bl (AB (j<i))
 |.GtE=>rI0 λi j=>.bl (AB (j<=i))
 |.In=>λx y H Q=>(∃d es,IsD X.K H d x/\IsD X.K H (.tup es) y/\d.pure=AC/\D.pures es=AC/\o9 d<=150/\Q (.bl (es.any λe=>deq e d)) H)\/(∃(k:Key)(ks:List Key)(a:AI),x=kV k/\y=.ref a/\(kD k).pure=AC/\SqT X.K H a (ks.map kV)/\D.pures (ks.map kD)=AC/\Q (.bl (ks.any λl=>AB (l=k))) H)\/∃a k kvs,x=kV k/\y=.ref a/\H a=AA (.dK kvs)/\Q (.bl (A4 kvs k).isSome) H
 |.NotIn=>λx y H Q=>(∃d es,IsD X.K H d x/\IsD X.K H (.tup es) y/\d.pure=AC/\D.pures es=AC/\o9 d<=150/\Q (.bl (!es.any λe=>deq e d)) H)\/(∃(k:Key)(ks:List Key)(a:AI),x=kV k/\y=.ref a/\(kD k).pure=AC/\SqT X.K H a (ks.map kV)/\D.pures (ks.map kD)=AC/\Q (.bl (!ks.any λl=>AB (l=k))) H)\/∃a k kvs,x=kV k/\y=.ref a/\H a=AA (.dK kvs)/\Q (.bl (!(A4 kvs k).isSome)) H
 |.Is=>λx y H Q=>∃b c,x=.bl b/\y=.bl c/\Q (.bl (b==c)) H
 |.IsNot=>λx y H Q=>∃b c,x=.bl b/\y=.bl c/\Q (.bl (b != c)) H
omit [Tbs]in
def aw2 [Tbs]{K:AO}:∀k:Key,IsD K H (kD k) (kV k)
 |.inl i=>.int i
 |.inr x=>.str x
omit [Tbs]in
theorem ar7 [Tbs]{K:AO}:∀ks:List Key,IsDs K H (ks.map kD) (ks.map kV)
 |[]=>.nil
 |k::r=>.cons (aw2 k) (ar7 r)
omit [Tbs]in
def c53:∀{k l:Key},deq (kD k) (kD l)=AB (k=l)
 |.inl i,.inl j=>by change deq (.int i) (.int j)=_;unfold deq D.py Au;show Ew.mpr ∎
 |.inr i,.inr j=>by change deq (.str i) (.str j)=_;unfold deq D.py Au;show Ew.mpr ∎
 |.inl i,.inr j=>by change deq (.int i) (.str j)=_;unfold deq D.py Au;show(decide_eq_false nofun).symm
 |.inr i,.inl j=>by change deq (.str i) (.int j)=_;unfold deq D.py Au;show(decide_eq_false nofun).symm
omit [Tbs]in
def bk5{k:Key}(ks:List Key):((ks.map kD).any λe=>deq e (kD k))=ks.any λl=>AB (l=k):=by
 rw[List.any_map];show congrArg _ (funext λl=>c53)
omit [Tbs]in
def bs2:∀{k:Key},o9 (kD k)<=150
 |.inl _=>Av _
 |.inr _=>Av _
omit [Tbs]in
def bn2{b c:Bool}:((Dz b:AG)==.bool c)=(b==c):=by cases b<;>cases c<;>rfl
def bh2(j:X.A.units+200<Bs):∀o:Do,OpR X (Bp o) (ax3 X o)
 |.Eq=>cy3 j
 |.NotEq=>c17 j
 |.Lt=>c98
 |.LtE=>c61
 |.Gt=>dc6
 |.GtE=>dc9
 |.In=>λd s i H x y v u Q I g f h=>by
  rcases h with h|⟨k,l,a,rfl,rfl,p,m,n,q⟩|⟨a,k,r,rfl,rfl,e,q⟩
  ·show bk1 j d s i H x y v u Q I g f h
  ·letI T:Tbs:={[],λ_ _ _ _=>True,AC}
   show @bk1 T X j d s i H _ _ v u Q I g f {kD k,l.map kD,aw2 k,IsD.mk (.inr ⟨rfl,m⟩) (ar7 l),p,n,bs2,by rw[bk5];show q}
  ·cases f;show br9 ⋯ I (D4.k e) g λw t=>{.bl _,H,t,rfl,q}
 |.NotIn=>λd s i H x y v u Q I g f h=>by
  rcases h with h|⟨k,l,a,rfl,rfl,p,m,n,q⟩|⟨a,k,r,rfl,rfl,e,q⟩
  ·show bi7 j d s i H x y v u Q I g f h
  ·letI T:Tbs:={[],λ_ _ _ _=>True,AC}
   show @bi7 T X j d s i H _ _ v u Q I g f {kD k,l.map kD,aw2 k,IsD.mk (.inr ⟨rfl,m⟩) (ar7 l),p,n,bs2,by rw[bk5];show q}
  ·cases f;show bh4 ⋯ I (D4.k e) g λw t=>{.bl _,H,t,rfl,q}
 |.Is=>λd s i H x y v u Q I g f h=>by
  let{b,c,rfl,rfl,q}:=h;cases g;cases f;show wpAny_is_plain rfl (by rw[bn2];show{.bl _,H,I,rfl,q})
 |.IsNot=>λd s i H x y v u Q I g f h=>by
  let{b,c,rfl,rfl,q}:=h;cases g;cases f;show wpAny_isNot_plain rfl (by rw[bn2];show{.bl _,H,I,rfl,q})
omit [Tbs]in
def _root_.L2.SqT.k{K:AO}{a:AI}{xs:List V}(h:SqT K (λ_=>AD) a xs):SqT K H a xs:=h.elim (λz=>by rcases z with z|⟨_,z⟩<;>cases z) .inr
def bm5{w:V}{d e:D}{m:Hp}{j:Sto}{B:DK}{Q:VK}(g:IsD X.K m d v)(f:IsD X.K m e w)(c:RelS X.K j m)(b:t6 o d e j B)(h:z6 X.K j m B Q):ax3 X o v w m Q:=by
 cases o with
 |Eq=>show{d,e,g,f,b.1,b.2.1,b.2.2.1,h.here (.bl _) c b.2.2.2}
 |NotEq=>show{d,e,g,f,b.1,b.2.1,b.2.2.1,h.here (.bl _) c b.2.2.2}
 |Lt=>cases d<;>first|show AV b|(cases e<;>first|show AV b|show{_,_,g.int_inv,f.int_inv,h.here (.bl _) c b})
 |LtE=>cases d<;>first|show AV b|(cases e<;>first|show AV b|show{_,_,g.int_inv,f.int_inv,h.here (.bl _) c b})
 |Gt=>cases d<;>first|show AV b|(cases e<;>first|show AV b|show{_,_,g.int_inv,f.int_inv,h.here (.bl _) c b})
 |GtE=>cases d<;>first|show AV b|(cases e<;>first|show AV b|show{_,_,g.int_inv,f.int_inv,h.here (.bl _) c b})
 |In=>
  have G:∀(k:Key)(a:AI)(i:List (Key×D)),v=kV k->w=.ref a->j a=AA (.dct i)->B (.bl (G6 i k).isSome) j->ax3 X .In v w m Q:=λk a i J I H b=>by
   let{q,z,y}:=c.dct H;apply .inr (.inr {a,k,q,J,I,z,?_})
   rcases y.look k with⟨p,n⟩|⟨d,v,p,n,_⟩<;>(rw[p]at b;rw[n];show h.here (.bl _) c b)
  cases e with
  |tup A=>show .inl {d,A,g,f,b.1,b.2.1,b.2.2.1,h.here (.bl _) c b.2.2.2}
  |ref a=>
   cases d<;>first|show AV b|skip
   let{i,e,b}:=b;show G (.inr _) a i g.str_inv f.ref_inv e b
  |ktup u=>
   cases d<;>first|show AV b|skip
   cases f with
   |ktup s x=>show .inr (.inl {.inl _,u,_,g.int_inv,rfl,rfl,s.k,x,h.here (.bl _) c b})
  |_=>show AV (by cases d<;>show b)
 |NotIn=>
  cases e with
  |tup A=>show .inl {d,A,g,f,b.1,b.2.1,b.2.2.1,h.here (.bl _) c b.2.2.2}
  |ref a=>
   cases d<;>first|show AV b|skip
   let{i,e,b}:=b;let{q,z,y}:=c.dct e;apply .inr (.inr {a,.inl _,q,g.int_inv,f.ref_inv,z,?_})
   rcases y.look (.inl _)with⟨p,n⟩|⟨d,v,p,n,_⟩<;>(rw[p]at b;rw[n];show h.here (.bl _) c b)
  |ktup u=>
   cases d<;>first|show AV b|skip
   cases f with
   |ktup s x=>show .inr (.inl {.inr _,u,_,g.str_inv,rfl,b.1,s.k,x,h.here (.bl _) c b.2})
  |_=>show AV (by cases d<;>show b)
 |Is=>cases d<;>first|show AV b|(cases e<;>first|show AV b|show{_,_,g.bl_inv,f.bl_inv,h.here (.bl _) c b})
 |IsNot=>cases d<;>first|show AV b|(cases e<;>first|show AV b|show{_,_,g.bl_inv,f.bl_inv,h.here (.bl _) c b})
def N7(o)b(h:∀a k p,b≠.Set a k p):CK o b=AF:=by
 cases b<;>first|rfl|show absurd rfl (h _ _ _)
def cu0(l:X.A.units+200<Bs)(r:PE X a (up X.K ta))(n:PE X b (up X.K tb))(m:∀s k p,b≠.Set s k p):PE X (.Compare a [o] [b] pos) (up X.K λc i Q=>ta c i λx g=>tb c g λy f=>t6 o x y f Q):=
 PE.imp (ad4 (bh2 l o) r n (N7 o b m)) λt H Q q=>up2 q λv w d e z h u j=>bm5 j
def cw0(s:X.A.units+200<Bs)(C:PE X a (up X.K ta))(B:PE X b (up X.K tb))(z:∀G k p,b≠.Set G k p):
  PT X (.Compare a [o] [b] pos) (upB X.K λf i Q=>ta f i λx h=>tb f h λy g=>t6 o x y g λd c=>∃k,d=.bl k/\Q k c):=
 PT.imp (ad6 (bh2 s o) C B (N7 o b z)) λJ H Q q=>by
  let{f,i,I,E,D,t,u}:=q;apply up2 {f,i,_,E,D,t,λv d l c F n m j=>?_} λv w d e l c I r=>bm5 r;let{k,rfl,j}:=j;show{k,n.bl_inv,u k l c F m j}
def c28{j pos'}(n:PE X a (up X.K ta)):PE X (.Compare a [.Is] [.Constant .none j pos'] pos) (up X.K λf l Q=>ta f l λx b=>x=.non/\Q (.bl AC) b\/x≠.non/\Q (.bl AF) b):=
 PE.imp (bm8 (bl0 n) rfl) λo H Q q=>up1 q λv d r k p h g c i=>by
  rcases c with⟨rfl,c⟩|⟨m,c⟩
  ·cases h;show i.here (.bl _) g (by simp_all)
  ·have e:AB (v=V.non)=AF:=decide_eq_false λz=>m (by subst z;cases h;rfl);rw[e];show i.here (.bl _) g c
def cg3{j pos'}(n:PE X a (up X.K ta)):PE X (.Compare a [.IsNot] [.Constant .none j pos'] pos) (up X.K λf l Q=>ta f l λx b=>x=.non/\Q (.bl AF) b\/x≠.non/\Q (.bl AC) b):=
 PE.imp (bm8 (bh5 n) rfl) λo H Q q=>up1 q λv d r k p h g c i=>by
  rcases c with⟨rfl,c⟩|⟨m,c⟩
  ·cases h;show i.here (.bl _) g (by simp_all)
  ·have e:AB (v=V.non)=AF:=decide_eq_false λz=>m (by subst z;cases h;rfl);rw[e];show i.here (.bl _) g c
def bq7{t}{f}(h:PT X x (tB t))(i:∀e H Q,up X.K f e H Q->t e H Q):PT X x (upB X.K λc g Q=>f c g λd a=>∃b,d=.bl b/\Q b a):=PT.imp h λe H Q q=>by
 let{c,g,s,o,n,l,m}:=q;apply i e H _ {c,g,_,o,n,l,λv d r a p k j q=>?_};let{b,rfl,q}:=q;cases k;show{b,rfl,m b r a p j q}
def c05{j pos'}(p:PE X a (up X.K ta)):PT X (.Compare a [.Is] [.Constant .none j pos'] pos) (upB X.K λh n Q=>ta h n λx c=>(x=.non/\∃b,D.bl AC=.bl b/\Q b c)\/x≠.non/\∃b,D.bl AF=.bl b/\Q b c):=
 bq7 (bn9 (bl0 p) rfl) λr H Q q=>up1 (f:=λx c Q=>x=.non/\Q (.bl AC) c\/x≠.non/\Q (.bl AF) c) q λv d t m s k i g l=>by
  rcases g with⟨rfl,g⟩|⟨o,g⟩
  ·cases k;show l.here (.bl _) i (by simp_all)
  ·have e:AB (v=V.non)=AF:=decide_eq_false λz=>o (by subst z;cases k;rfl);rw[e];show l.here (.bl _) i g
def ci7{j pos'}(p:PE X a (up X.K ta)):PT X (.Compare a [.IsNot] [.Constant .none j pos'] pos) (upB X.K λh n Q=>ta h n λx c=>(x=.non/\∃b,D.bl AF=.bl b/\Q b c)\/x≠.non/\∃b,D.bl AC=.bl b/\Q b c):=
 bq7 (bn9 (bh5 p) rfl) λr H Q q=>up1 (f:=λx c Q=>x=.non/\Q (.bl AF) c\/x≠.non/\Q (.bl AC) c) q λv d t m s k i g l=>by
  rcases g with⟨rfl,g⟩|⟨o,g⟩
  ·cases k;show l.here (.bl _) i (by simp_all)
  ·have e:AB (v=V.non)=AF:=decide_eq_false λz=>o (by subst z;cases k;rfl);rw[e];show l.here (.bl _) i g
@[reducible]noncomputable def tst(t:DT):DB:=λenv st Q=>t env st λd st'=>∃b,d=.bl b/\Q b st'
variable {l6:List AU}
def bo4(s:PE X a (up X.K ta))(r:PE X (.BoolOp .And (b::l6) pos) (up X.K tb)):PE X (.BoolOp .And (a::b::l6) pos) (up X.K λe h Q=>ta e h λx f=>∃c,x=.bl c/\if c=AC then tb e f Q else Q (.bl AF) f):=
 PE.imp (c20 s r) λu H Q q=>by
  let{e,h,t,n,m,p,l}:=q;apply{e,h,_,n,m,p,λv d w f i o j g=>?_};let{k,rfl,g}:=g;apply{k,o.bl_inv,?_};cases k with
  |true=>show{e,f,t,n.mono (i.tk m),j,g,l.after i}
  |false=>show(l.after i).here (.bl _) j g
def bq4(s:PE X a (up X.K ta))(r:PE X (.BoolOp .Or (b::l6) pos) (up X.K tb)):PE X (.BoolOp .Or (a::b::l6) pos) (up X.K λe h Q=>ta e h λx f=>∃c,x=.bl c/\if c=AC then Q (.bl AC) f else tb e f Q):=
 PE.imp (da5 s r) λu H Q q=>by
  let{e,h,t,n,m,p,l}:=q;apply{e,h,_,n,m,p,λv d w f i o j g=>?_};let{k,rfl,g}:=g;apply{k,o.bl_inv,?_};cases k with
  |false=>show{e,f,t,n.mono (i.tk m),j,g,l.after i}
  |true=>show(l.after i).here (.bl _) j g
def cy6(l:PE X a (up X.K ta)):PE X (.UnaryOp .Not a pos) (up X.K λf h Q=>ta f h λx b=>∃c,x=.bl c/\Q (.bl !c) b):=
 PE.imp (cr3 l) λm H Q q=>up1 q λv d o g n j i e k=>by
  let{c,rfl,e}:=e;show{c,j.bl_inv,k.here (.bl _) i e}
def bl7(w:PT X a (upB X.K (tst ta)))(v:PW X (.BoolOp .And (b::l6) pos) (upB X.K (tst tb))):PW X (.BoolOp .And (a::b::l6) pos) (upB X.K (tst λg l Q=>ta g l λx f=>∃c,x=.bl c/\if c=AC then tb g f Q else Q (.bl AF) f)):=
 PW.imp (cp8 w v) λA H Q q=>by
  let{g,l,o,t,s,u,r}:=q;apply{g,l,λc f=>if c=AC then tb g f λd j=>∃b,d=.bl b/\o b j else ∃b,D.bl AF=.bl b/\o b f,t,s,u,λk z f n p h=>?_};cases k with
  |true=>
   show{g,f,o,t.mono (n.tk s),p,h,λc y i m=>r c y i (n.trans m)}
  |false=>
   let{b,e,h}:=h;cases e;show r AF z f n p h
def bq3(w:PT X a (upB X.K (tst ta)))(v:PW X (.BoolOp .Or (b::l6) pos) (upB X.K (tst tb))):PW X (.BoolOp .Or (a::b::l6) pos) (upB X.K (tst λg l Q=>ta g l λx f=>∃c,x=.bl c/\if c=AC then Q (.bl AC) f else tb g f Q)):=
 PW.imp (c74 w v) λA H Q q=>by
  let{g,l,o,t,s,u,r}:=q;apply{g,l,λc f=>if c=AC then ∃b,D.bl AC=.bl b/\o b f else tb g f λd j=>∃b,d=.bl b/\o b j,t,s,u,λk z f n p h=>?_};cases k with
  |false=>
   show{g,f,o,t.mono (n.tk s),p,h,λc y i m=>r c y i (n.trans m)}
  |true=>
   let{b,e,h}:=h;cases e;show r AC z f n p h
def cs2(m:PT X a (upB X.K (tst ta))):PT X (.UnaryOp .Not a pos) (upB X.K (tst λf g Q=>ta f g λx d=>∃c,x=.bl c/\Q (.bl !c) d)):=
 PT.imp (cr9 m) λt H Q q=>by
  let{f,g,r,o,n,j,l}:=q;apply{f,g,λc d=>∃b,D.bl (!c)=.bl b/\r b d,o,n,j,λk s d p i h=>?_};let{b,e,h}:=h;cases e;show l _ s d p i h
def c11{t1}(p:PT X c (upB X.K (tst t1)))(s:PE X a (up X.K ta))(r:PE X b (up X.K tb)):PE X (.IfExp c a b pos) (up X.K λd h Q=>t1 d h λx e=>∃k,x=.bl k/\if k=AC then ta d e Q else tb d e Q):=
 PE.imp (cb3 p s r) λt H Q q=>by
  let{d,h,g,j,i,o,n}:=q;apply{d,h,λk e=>if k=AC then ta d e g else tb d e g,j,i,o,λk u e f l m=>?_};cases k with
  |true=>show{d,e,g,j.mono (f.tk i),l,m,n.after f}
  |false=>show{d,e,g,j.mono (f.tk i),l,m,n.after f}
end
end
section
variable [Tbs]
variable{H:Hp}{ds:List D}{vs:List V}{p2 apos:Pos}{f m:Str}{fd:Bl}{ps:List Str}{sp:Spec}{es:List AU}{n:Nat}{Ph:Str->Spec}{ob:AU}{Ca:AI}
section
variable {X:Cx} {a b c:AU} {ta tb tc:DT} {pos p:Pos}
def bn5{K}{i}{d}(r:IsDs K H ds vs)(h:atI ds i=AA d):∃v,atI vs i=AA v/\IsD K H d v:=by
 unfold atI at h ⊢;rw[<-r.len];cases e:ixN ds.length i with
 |none=>simp_all
 |some j=>
  rw[e]at h;show r.get h
def a86(h:∀l u s p,b≠.Slice l u s p):bg0 b:=λo i=>by
 cases b<;>first|rfl|show absurd rfl (h _ _ _ _)
abbrev dg6:R2:=λx y H Q=>∃p k kvs v,x=.ref p/\y=kV k/\H p=AA (.dK kvs)/\A4 kvs k=AA v/\Q v H
def c26(E:X.A.units+200<Bs):IxR X dg6:=by
 intro a b c s f H x y v u Q I j i h n;let{p,k,l,z,rfl,rfl,t,m,q}:=h;cases j;have g:D4 H p (kV k) (AA z):=m▸D4.k t
 have o:=bv3 I g;apply AE ?_;apply AE (Bi o PySem.F.slot_dict_getitem.lookup ?_);have d:AW (model X.prog X.w) X.A (subscripted b AF (.ref p) u) (λr=>AW (model X.prog X.w) X.A (LZ a (.ref p) r>>=λ_=>pure r) (EP X c f Q) X.xe) X.xe s:=by
  rw[n];apply LD (b10 ⋯ I g i λC D B e=>AE (JZ (AK ⟨z,H,B,e,q⟩)))
 first
  |show AK (AE d)
  |grind
  |show AE d
def df6(hu:X.A.units+200<Bs)(ha:PE X a (up X.K ta))(hb:PE X b (up X.K tb))(hs:∀l u s p,b≠.Slice l u s p):PE X (.Subscript a b pos) (up X.K λenv st Q=>ta env st λx st1=>tb env st1 λy st2=>ixR x y st2 Q):=
 PE.imp (df0 (cg2.or (cv8.or ((c26 hu).or cw5))) ha hb (a86 hs)) λσ H Q q=>up2 (f:=ixR) q λv w d e H' st' Qd i1 i2 rs ht hq=>by
  cases d<;>first|show AV ht|(cases e<;>first|show AV ht|skip)
  ·let{c,hl,e1,ht}:=ht;show .inr (.inr (.inr {_,_,c,i1.str_inv,i2.int_inv,hl,e1,hq.here (.str _) rs ht}))
  ·let{d,e1,ht}:=bq2 ht;rw[bl4]at e1;let{p,vs,rfl,hq',r}:=i1.tup_inv;let{v',e2,is}:=bn5 r e1;show .inr (.inl {p,vs,_,v',rfl,i2.int_inv,hq',e2,hq.here is rs ht})
  ·rcases ht with⟨ds,d,hr,e1,ht⟩|⟨kvs,d,hr,e1,ht⟩
   ·let{vs,hq',r}:=rs.rd hr;let{v',e2,is}:=bn5 r e1;show .inl {_,vs,_,v',i1.ref_inv,i2.int_inv,hq',e2,hq.here is rs ht}
   ·let{vs,hH,r}:=rs.dct hr
    rcases r.look (.inl _)with⟨l1,l2⟩|⟨d',v',l1,l2,is⟩
    ·rw[l1]at e1;cases e1
    ·rw[l1]at e1;cases e1;show .inr (.inr (.inl {_,.inl _,vs,v',i1.ref_inv,i2.int_inv,hH,l2,hq.here is rs ht}))
  ·let{kvs,d,hr,e1,ht}:=ht;let{vs,hH,r}:=rs.dct hr
   rcases r.look (.inr _)with⟨l1,l2⟩|⟨d',v',l1,l2,is⟩
   ·rw[l1]at e1;cases e1
   ·rw[l1]at e1;cases e1;show .inr (.inr (.inl {_,.inr _,vs,v',i1.ref_inv,i2.str_inv,hH,l2,hq.here is rs ht}))
@[reducible]noncomputable def DO:=l7->Sto->(Option Int->Sto->Prop)->Prop
abbrev upO(K:AO)(t:DO):TO:=λσ H Q=>∃env st Qd,RelE K H env σ/\RelS K st H/\t env st Qd/\∀o H' st',Ev st H st' H'->RelS K st' H'->Qd o st'->Q o H'
def _root_.L2.PO.imp{X}{x}{t t'}(h:PO X x t)(i:∀a H Q,t' a H Q->t a H Q):PO X x t':=λb s a H Q I q=>h b s a H Q I (i a H Q q)
def ci5:PO X AD (upO X.K λ_ a k=>k AD a):=PO.imp cn9 λf H Q q=>by
 let{e,a,h,g,d,b,c}:=q;show c AD H a Ev.refl d b
def cf9(m:PE X a (up X.K ta)):PO X (AA a) (upO X.K λc e k=>ta c e λd b=>∃i,d=.int i/\k (AA i) b):=PO.imp (cj4 m) λs H Q q=>by
 let{c,e,t,o,n,j,l}:=q;apply{c,e,_,o,n,j,λv d r b p h g f=>?_};let{i,rfl,f}:=f;show{i,h.int_inv,l _ r b p g f}
def at1{K}(r:IsDs K H ds vs)lo hi:IsDs K H (A9 ds lo hi) (R5 vs lo hi):=by
 unfold A9 R5;rw[r.len];show(r.drop _).take _
def c66{lo hi}{tl th}(L:PE X a (up X.K ta))(I:PO X lo (upO X.K tl))(J:PO X hi (upO X.K th)):
  PE X (.Subscript a (.Slice lo hi AD p2) pos) (up X.K λb w Q=>ta b w λx e=>tl b e λl c=>th b c λh m=>slR x l h m Q):=
 PE.imp (bc1 (bl3.or cm2) L I J) λM H Q q=>by
  let{b,w,O,B,A,E,G}:=q;apply{b,w,_,B,A,E,λv d S e j y g D=>{b,e,_,B.mono (j.tk A),g,D,λl R c i n C=>{b,c,_,(B.mono (j.tk A)).mono (i.tk g),n,C,λh P m t f k=>?_}}};have o:=(y.mono (i.tk g)).mono (t.tk n);have s:=((G.after j).after i).after t;cases d<;>first|show AV k|skip
  ·let{p,u,rfl,z,r}:=o.tup_inv;show .inl {p,u,rfl,z,r.len▸k.1,s.newT f (at1 r l h) k.2}
  ·let{N,F,k}:=k;let{u,z,r}:=f.rd F;show .inr {_,u,o.ref_inv,z,s.newL f (at1 r l h) k}
def Q4(g:PE X a (up X.K ta))(h:∀e p,a≠.Starred e p):PA X [a] (upA X.K 1 λc f Q=>ta c f λd b=>Q [d] b):=V4 g bm1 h
def bp3{id}{r}{g:D->Sto->DK->Prop}(I:G7 X (.builtin id) r)(G:Gl X f)(E:X.mg f=AD)(z:BK f=AA (.builtin id))(J:PE X a (up X.K ta))(o:∀e p,a≠.Starred e p)
  (l:∀v d i b j Q,IsD X.K i d v->RelS X.K b i->g d b j->z6 X.K b i j Q->r [v] i Q) (C:f≠"__name__") (m:(f=="__debug__")=AF) :
  PE X (.Call (.Name f p) [a] [] pos) (up X.K λh k Q=>ta h k λx c=>g x c Q):=
 PE.imp (Z4 I G E z (Q4 J o) C m (r9 o) rfl) λO H Q q=>by
  let{h,k,j,M,L,A,B}:=q;apply{h,k,λn c=>match n with|[d]=>g d c j|_=>False,M,L,A,λR n i b N u F s t=>?_}
  match n,F with
  |[d],_=>
   let{v,P,rfl,y,w}:=u.inv_cons;rw[w.inv_nil];show l v d i b j Q y s t (B.after N)
def aw1{T}{r}{g:D->Sto->DK->Prop}(I:G7 X (.type T) r)(G:Gl X f)(E:X.mg f=AD)(z:BK f=AA (.type T))(J:PE X a (up X.K ta))(o:∀e p,a≠.Starred e p)
  (l:∀v d i b j Q,IsD X.K i d v->RelS X.K b i->g d b j->z6 X.K b i j Q->r [v] i Q) (C:f≠"__name__") (m:(f=="__debug__")=AF) :
  PE X (.Call (.Name f p) [a] [] pos) (up X.K λh k Q=>ta h k λx c=>g x c Q):=
 PE.imp (b34 I G E z (Q4 J o) C m (r9 o) rfl) λO H Q q=>by
  let{h,k,j,M,L,A,B}:=q;apply{h,k,λn c=>match n with|[d]=>g d c j|_=>False,M,L,A,λR n i b N u F s t=>?_}
  match n,F with
  |[d],_=>
   let{v,P,rfl,y,w}:=u.inv_cons;rw[w.inv_nil];show l v d i b j Q y s t (B.after N)
def b52:BK "max"=AA (.builtin "max"):=by decide+kernel
def a02:BK "isinstance"=AA (.builtin "isinstance"):=rfl
def b79:BK "int"=AA (.type "int"):=by decide+kernel
def an9:BK "list"=AA (.type "list"):=by decide+kernel
def bv4:BK "tuple"=AA (.type "tuple"):=by decide+kernel
def cx4(q:Gl X "len")(o:X.mg "len"=AD)(s:PE X a (up X.K ta))(c:∀e p,a≠.Starred e p):PE X (.Call (.Name "len" p) [a] [] pos) (up X.K λi m Q=>ta i m λx g=>U2 x g Q):=
 bp3 bt9 q o PySem.boot_len s c (λv d w l u Q j h b k=>by
  cases d<;>first|show AV b|skip
  ·let{p,f,rfl,c,r}:=j.tup_inv;show{p,f,rfl,.inr c,r.len▸k.here (.int _) h b}
  ·let{t,n,b}:=b;let{f,c,r}:=h.rd n;show{_,f,by rw[j.ref_inv],.inl c,r.len▸k.here (.int _) h b}) ∅ ∅
def bb9(n:Gl X "int")(m:X.mg "int"=AD)(o:PE X a (up X.K ta))(l:∀e p,a≠.Starred e p):PE X (.Call (.Name "int" p) [a] [] pos) (up X.K λf k Q=>ta f k λx b=>J6 x b Q):=
 aw1 b32 n m b79 o l (λv d r j q Q h g c i=>by
  cases d<;>first|show AV c|skip
  ·show .inr {_,by rw[h.bl_inv],i.here (.int _) g c}
  ·show .inl {_,by rw[h.int_inv],i.here (.int _) g c}) ∅ ∅
def cn7(q:Gl X "list")(o:X.mg "list"=AD)(s:PE X a (up X.K ta))(c:∀e p,a≠.Starred e p):PE X (.Call (.Name "list" p) [a] [] pos) (up X.K λi m Q=>ta i m λx g=>ab0 x g Q):=
 aw1 bu0 q o an9 s c (λv d w l u Q j h b k=>by
  cases d<;>first|show AV b|skip
  ·let{p,f,rfl,c,r}:=j.tup_inv;show{p,f,rfl,.inr c,k.newL h r b}
  ·let{t,n,b}:=b;let{f,c,r}:=h.rd n;show{_,f,by rw[j.ref_inv],.inl c,k.newL h r b}) ∅ ∅
def b89(q:Gl X "tuple")(o:X.mg "tuple"=AD)(s:PE X a (up X.K ta))(c:∀e p,a≠.Starred e p):PE X (.Call (.Name "tuple" p) [a] [] pos) (up X.K λj m Q=>ta j m λx g=>W4 x g Q):=
 aw1 bt6 q o bv4 s c (λv d w l u Q i h b k=>by
  cases d<;>first|show AV b|skip
  ·let{p,f,rfl,c,r}:=i.tup_inv;show{p,f,rfl,.inr {c,k.here i h b}}
  ·let{t,n,b}:=b;let{f,c,r}:=h.rd n;show{_,f,by rw[i.ref_inv],.inl {c,k.newT h r b}}) ∅ ∅
def ad8(k:PE X a (up X.K ta))(j:PE X b (up X.K tb))(h:∀e p,a≠.Starred e p)(l:∀e p,b≠.Starred e p):PA X [a,b] (upA X.K 2 λc i Q=>ta c i λd g=>tb c g λe f=>Q [d,e] f):=V4 k (Q4 j l) h
def co7(I:X.calm=AC)(G:Gl X "max")(E:X.mg "max"=AD)(L:PE X a (up X.K ta))(J:PE X b (up X.K tb))(n:∀e p,a≠.Starred e p)(g:∀e p,b≠.Starred e p):
  PE X (.Call (.Name "max" p) [a,b] [] pos) (up X.K λc k Q=>ta c k λx f=>tb c f λy h=>∃i j,x=.int i/\y=.int j/\Q (.int (if j>i then j else i)) h):=
 PE.imp (Z4 (bz6 I) G E b52 (ad8 L J n g) ∅ ∅ (r9 n) (by rw[r9 g];rfl)) λR H Q q=>by
  let{c,k,P,N,M,C,D}:=q;apply{c,k,λm f=>match m with|[x,y]=>∃i j,x=.int i/\y=.int j/\P (.int (if j>i then j else i)) f|_=>False,N,M,C,λT m U r O t F s l=>?_}
  match m,F with
  |[d,e],_=>
   let{v,S,rfl,B,A}:=t.inv_cons;let{w,o,rfl,z,u}:=A.inv_cons;rw[u.inv_nil];let{i,j,rfl,rfl,l}:=l;show{i,j,by rw[B.int_inv,z.int_inv],(D.after O).here (.int _) s l}
def b67 K:Ct K (.type "list") (.type "list")=AA AC:=rfl
def b12(u:Gl X "isinstance")(t:X.mg "isinstance"=AD)(h:Gl X "list")(g:X.mg "list"=AD)(w:PE X a (up X.K ta))(b:∀e p,a≠.Starred e p):
  PE X (.Call (.Name "isinstance" p) [a,.Name "list" p2] [] pos) (up X.K λi l Q=>ta i l λx f=>V3 x f Q):=
 PE.imp (Z4 (bv1) u t a02 (Z8 w (Z8 (bh3 (v:=.ty "list") h g an9 rfl ∅ ∅) at3 rfl) (r9 b)) ∅ ∅ (r9 b) rfl) λy H Q q=>
  up1 q λv d C k B m j c s=>by
   cases d<;>first|show AV c|skip
   let{A,n,c}:=c;let{z,b,r}:=j.rdR n;apply{_,.type "list",rfl,?_,b67 _,s.here (.bl _) j c};rw[m.ref_inv]
   rcases b with b|⟨o,b⟩
   ·show .lst b
   ·show .frz b
def ao2{pins}{f:L2.St}{s}(I:L2.Inv X pins f H s){a}(j:SqL X.K H a vs)(r:IsDs X.K H ds vs)(c:D.pures ds=AC):∃e,Reads s.heap (.ref a) (.list (D.pys ds)) e:=by
 let{b,g,{o,n,k,m,_,l},p}:=I.list j;let{e,h}:=a04 (λd v u c i=>M3 I i c) ds vs b (bb5 c) r g;show{_,.list k m l (by simpa using h)}
def bf3(J:X.A.units+200<Bs)(i:Bool):OpR X (Bp (if i then .NotEq else .Eq)) λx y H Q=>∃a b c d g f,x=.ref a/\y=.ref b/\SqL X.K H a g/\SqL X.K H b f/\IsDs X.K H c g/\IsDs X.K H d f/\D.pures c=AC/\D.pures d=AC/\Bf (D.pys c)<=149/\Q (.bl (i != BZ (D.pys c) (D.pys d))) H:=by
 intro m s G H x y v u Q I z t h;let{a,b,c,d,g,f,rfl,rfl,F,E,C,B,o,n,L,q}:=h;cases z;cases t;let{O,l}:=ao2 I F C o;let{N,k}:=ao2 I E B n;have r:=by show Q2 c o
 have p:=by show Q2 d n
 have e:X.A.units+min (CA (.list (D.pys c))) (CA (.list (D.pys d)))<Bs:=by
  have:min (CA (.list (D.pys c))) (CA (.list (D.pys d)))<=CA (.list (D.pys c)):=Dy _ _;have M:CA (.list (D.pys c))=Bf (D.pys c)+1:=by rw[CA]
  lia
 cases i with
 |true=>
  have j:(!PyData.eqv (.list (D.pys c)) (.list (D.pys d)))=(AC != BZ (D.pys c) (D.pys d)):=by rw[Au];cases BZ (D.pys c) (D.pys d)<;>rfl
  show Ia l k r p e X.prog X.w _ _ {.bl _,H,I,congrArg Dz j,q}
 |false=>
  have j:Au (.list (D.pys c)) (.list (D.pys d))=(AF != BZ (D.pys c) (D.pys d)):=by rw[Au];cases BZ (D.pys c) (D.pys d)<;>rfl
  show JJ l k r p e X.prog X.w _ _ {.bl _,H,I,congrArg Dz j,q}
def bj0{ne}{v w}{d e}{H'}{st'}{Qd}{Q}(r:IsD X.K H' d v)(q:IsD X.K H' e w)(j:RelS X.K st' H')(g:Q8 ne d e st' Qd)(s:z6 X.K st' H' Qd Q):∃a b c f i h,v=.ref a/\w=.ref b/\SqL X.K H' a i/\SqL X.K H' b h/\IsDs X.K H' c i/\IsDs X.K H' f h/\D.pures c=AC/\D.pures f=AC/\Bf (D.pys c)<=149/\Q (.bl (ne != BZ (D.pys c) (D.pys f))) H':=by
 cases d<;>first|show AV g|(cases e<;>first|show AV g|skip)
 let{c,f,x,u,p,o,t,g}:=g;let{i,l,n}:=j.rd x;let{h,k,m}:=j.rd u;show{_,_,c,f,i,h,r.ref_inv,q.ref_inv,l,k,n,m,p,o,t,s.here (.bl _) j g}
def cl4{h:Bool}{o}(t:o=if h then .NotEq else .Eq)(r:X.A.units+200<Bs)(B:PE X a (up X.K ta))(z:PE X b (up X.K tb))(u:∀C k p,b≠.Set C k p):PE X (.Compare a [o] [b] pos) (up X.K λc j Q=>ta c j λx g=>tb c g λy f=>Q8 h x y f Q):=by
 subst t;show PE.imp (ad4 (bf3 r h) B z (N7 _ b u)) λD H Q q=>up2 q λv w d e F i E n m l s=>bj0 n m l s
def cl7{n:Bool}{o}(C:o=if n then .NotEq else .Eq)(z:X.A.units+200<Bs)(F:PE X a (up X.K ta))(E:PE X b (up X.K tb))(D:∀L k p,b≠.Set L k p):
  PT X (.Compare a [o] [b] pos) (upB X.K λf j Q=>ta f j λx i=>tb f i λy h=>Q8 n x y h λd c=>∃k,d=.bl k/\Q k c):=by
 subst C;apply PT.imp (ad6 (bf3 z n) F E (N7 _ b D)) λN H Q q=>?_;let{f,j,M,I,G,r,B}:=q;apply up2 (Q:=λx g=>∃k,x=.bl k/\Q k g) {f,j,_,I,G,r,λv d g c J s l m=>?_} λv w d e g c M u t l r=>bj0 u t l r;let{k,rfl,m}:=m;show{k,s.bl_inv,B k g c J l m}
abbrev P9:List String:=["tuple","int","bool","str","list"]
def at5 K:∀t∈P9,∀b∈["NoneType","bool","int","str","tuple","list"],Ct K (.type b) (.type t)=AA (b==t||b=="bool"&&t=="int"):=by
 intro t c b a;erw[P9,AM,Ah,or_false]at c a
 rcases c with rfl|rfl|rfl|rfl|rfl<;>rcases a with rfl|rfl|rfl|rfl|rfl|rfl<;>first|rfl|(rfl)|(unfold Ct)
def cz9{t:String}(i:t∈P9)(hg:Gl X "isinstance")(hm:X.mg "isinstance"=AD)(U:Gl X f)(T:X.mg f=AD)(w:BK f=AA (.type t))(hn:f≠"__name__")(W:(f==("__debug__":Str))=AF)(ha:PE X a (up X.K ta))(hs:∀e p,a≠.Starred e p):
  PE X (.Call (.Name "isinstance" p) [a,.Name f p2] [] pos) (up X.K λy L Q=>ta y L λx J=>ab5 t x J Q):=by
 intro m s σ H Q I q;let{y,L,Qd,hE,hS,ht,S}:=q;have Z:PA X [a,.Name f p2] (av0 (up X.K ta) (av0 (tC (.ty t)) ay9)):=Z8 ha (Z8 (bh3 (v:=.ty t) U T w rfl hn W) at3 rfl) (r9 hs);apply Z4 (r:=λA H Q=>(∃x c b,A=[x,.ty t]/\TyOf X.K H x c/\Ct X.K c (.type t)=AA b/\Q (.bl b) H)\/∃l F b,A=[.ref l,.ty t]/\SqT X.K H l F/\Ct X.K (.type "tuple") (.type t)=AA b/\Q (.bl b) H) ?_ hg hm a02 Z ∅ ∅ (r9 hs) rfl m s σ H Q I ?_
 ·intro m s σ H A us Q I r h
  rcases h with⟨x,c,b,rfl,D,C,q⟩|⟨l,F,b,rfl,D,C,q⟩
  ·let{u,v,rfl,N,M}:=r.two;cases M;show a91 I N D C λa=>{.bl b,H,I.tok _,rfl,q}
  ·let{u,v,rfl,N,M}:=r.two;cases M;cases N;let{its,_,{o,e1,e2,_},_}:=I.tupleD D;show Cj LU I.kIn ⟨o,e1,e2⟩ C (λz=>nomatch z) λa=>{.bl b,H,I.tok _,rfl,q}
 ·apply{y,L,_,hE,hS,ht,λv d E B Y n G j=>?_};have g:∀c:String,c∈["NoneType","bool","int","str","tuple","list"]->TyOf X.K E v (.type c)->Qd (.bl (c==t||(c=="bool"&&t=="int"))) B->(∃x c b,[v,V.ty t]=[x,.ty t]/\TyOf X.K E x c/\Ct X.K c (.type t)=AA b/\Q (.bl b) E)\/∃l F b,[v,V.ty t]=[.ref l,.ty t]/\SqT X.K E l F/\Ct X.K (.type "tuple") (.type t)=AA b/\Q (.bl b) E:=λc O D C=>.inl {v,.type c,_,rfl,D,at5 X.K t i c O,(S.after Y).here (.bl _) G C}
  rcases j with⟨c,e,j⟩|⟨b,ds,rfl,hr,j⟩
  ·cases d<;>first|(simp[tyD]at e;done)|skip
   all_goals (erw[tyD,CH]at e;subst e)
   ·cases n;show g "NoneType" ∎ .non j
   ·cases n;show g "bool" ∎ (.bl _) j
   ·cases n;show g "int" ∎ (.int _) j
   ·cases n;show g "str" ∎ (.str _) j
   ·let{l,A,rfl,R,r}:=n.tup_inv;show .inr {l,A,_,rfl,R,at5 X.K t i "tuple" ∎,(S.after Y).here (.bl _) G j}
   ·cases n with
    |ktup sq _=>show .inr {_,_,_,rfl,sq.k,at5 X.K t i "tuple" ∎,(S.after Y).here (.bl _) G j}
  ·let{A,P,r}:=G.rdR hr;rw[n.ref_inv];have q2:Qd (.bl ("list"==t||("list"=="bool"&&t=="int"))) B:=by
    have e:("list"==t||("list"=="bool"&&t=="int"))=(t=="list"):=by erw[P9,AM,Ah,or_false]at i;rcases i with rfl|rfl|rfl|rfl|rfl<;>decide
    rw[e];show j
   rw[n.ref_inv]at g
   rcases P with h|⟨o,h⟩
   ·show g "list" ∎ (.lst h) q2
   ·show g "list" ∎ (.frz h) q2
abbrev D6(K:AO)(sp:Spec):Sp:=λvs H Q _=>∃ds st Qd,IsDs K H ds vs/\RelS K st H/\sp ds st Qd/\z6 K st H Qd Q
def ch9{f}{k}{fa}{t}(F:FnOk X.prog X.w X.K X.mg X.base CX0 k fa fd ps (D6 X.K sp))(r:Room k X.A)(x:Gl X f)(u:X.mg f=AA (.ref fa))(v:Bv X.K (.ref fa)=AC)
  (y:v6 X.K fd ps []) (z:PA X (a::es) (upA X.K n t)) (g:(f==("__debug__":Str))=AF) (o:∀e p,a≠.Starred e p) (d:(CC pos (Am es X.env)).any (·.1)=AF) :
  PE X (.Call (.Name f p) (a::es) [] pos) (up X.K λh j Q=>t h j λi b=>sp i b Q):=
 PE.imp (ck9 F r x u v y .nil O3 z g (r9 o) d) λC H Q q=>ay0 q λD i I c B E G l m s=>{i,c,B,by simp_all,l,m,s}
def dg1{fa}(h:Gl X f)(g:X.mg f=AA (.ref fa))(a:BB X.K AN f=AA (AA (.ref fa)))(b:(f==("__debug__":Str))=AF):PE X (.Name f p) (up X.K λ_ c Q=>Q (.fn f) c):=
 PE.imp (bi6 (v:=.ref fa) h g rfl b) λk H Q q=>by
  let{j,c,m,l,i,d,e}:=q;show e.here (.fn a) i d
abbrev ab2(K:AO)(f:AI)(fd:Bl)(np:Nat)(N:List Str)(cs:List D)(sp:Spec):Sp:=λvs H Q _=>∃us ds st Qd,CloR H f fd np N us/\IsDs K H cs us/\IsDs K H ds vs/\RelS K st H/\sp ds st Qd/\z6 K st H Qd Q
def CloR.fnAt{f}{np}{N}{us}(h:CloR H f fd np N us)(I:Inv X pins σ H s):W.FnAt f s.heap:=by
 let{o,u,i,_,g}:=h.ex;let{e,_}:=I.hok f _ i;let{d,c,j,b}:=o;have a:=g;subst a;show⟨d,c,fd,b,e⟩
def cc5{i:Nat}{x:Str}{t:DA}{Z:Sg}(hN:X.N[i]?=AA x)(hv:Vis X.env.scope x)(hd:(x==("__debug__":Str))=AF)(hcd:(x==("__classdict__":Str))=AF)
  (hF:∀f fa,Z.F f=AC->BB X.K AN f=AA (AA (.ref fa))->∃k fd ps,FnOk X.prog X.w X.K X.mg X.base CX0 k fa fd ps (D6 X.K (Z.Phi f))/\Room k X.A/\Bv X.K (.ref fa)=AC/\v6 X.K fd ps [])
  (hC:∀np N b cs fa fd ps,CloF fd np N ps b->∃k,FnOk X.prog X.w X.K X.mg X.base CX0 k fa fd ps (ab2 X.K fa fd np N cs (Z.PhiC np N b cs))/\Room k X.A)
  (ha:PA X (a::es) (upA X.K n t)) (hs:∀e p,a≠.Starred e p) (hpl:(CC pos (Am es X.env)).any (·.1)=AF) :
  PE X (.Call (.Name x p) (a::es) [] pos) (up X.K λenv st Q=>vR env[i]? λx=>W6 Z (t env) st Q x):=by
 intro pins s σ H Q I q;let{env,st,Qd,hE,hS,hz,hq}:=q;let{d,he,hc}:=au0 hz;let{v,hv1,isv}:=hE.at' i _ he;cases d with
 |fn f=>
  obtain⟨hf,ht⟩:Z.F f=AC/\t env st λds st1=>Z.Phi f ds st1 Qd:=hc;obtain⟨fa,rfl,hns⟩:∃fa,v=.ref fa/\BB X.K AN f=AA (AA (.ref fa)):=by cases isv with|fn h=>show⟨_,rfl,h⟩
  let{k,fd,ps,Fo,hr,hk,hb}:=hF f fa hf hns;apply CN (thn (as7 hN hv hd hcd pins s σ H (λv H1=>v=.ref fa/\H1=H) I ⟨_,hv1,rfl,rfl⟩) λu s1 z34=>?_);let{v,H1,I1,r1,e1,e2}:=z34;subst e1 e2;cases r1;apply EG (h₀:=X.base) I1.ok.mod.kin hk (thn (ha pos pins s1 σ H1 (λvs H2=>∃ds st1,Ev st H1 st1 H2/\IsDs X.K H2 ds vs/\RelS X.K st1 H2/\Z.Phi f ds st1 Qd) I1 {env,st,_,hE,hS,ht,λvs ds H' st' ev is hl rs q=>⟨ds,st',ev,is,rs,q⟩}) λus s2⟨vs,H2,I2,r,ds,st1,ev,is,rs,q⟩=>{I2.kIn,?_}) (r9 hs) hpl;show T1 Fo hr hb .nil O3 I2 r {ds,st1,Qd,by rw[BF];show is,rs,q,hq.after ev}
 |clo np N b cs=>
  have ht:t env st λds st1=>Z.PhiC np N b cs ds st1 Qd:=hc;obtain⟨fa,us0,rfl,ca,ics⟩:∃fa us,v=.ref fa/\aa9 H fa np N b us/\IsDs X.K H cs us:=by cases isv with|clo h1 h2 h3=>show⟨_,_,rfl,h1,h2,h3⟩
  let{fd,ps,cf,cr}:=ca;let{k,Fo,hr}:=hC np N b cs fa fd ps cf;apply CN (thn (as7 hN hv hd hcd pins s σ H (λv H1=>v=.ref fa/\H1=H) I ⟨_,hv1,rfl,rfl⟩) λu s1 z35=>?_);let{v,H1,I1,r1,e1,e2}:=z35;subst e1 e2;cases r1;apply W.callWith_F (cr.fnAt I1) (thn (ha pos pins s1 σ H1 (λvs H2=>∃ds st1,Ev st H1 st1 H2/\IsDs X.K H2 ds vs/\RelS X.K st1 H2/\Z.PhiC np N b cs ds st1 Qd) I1 {env,st,_,hE,hS,ht,λvs ds H' st' ev is hl rs q=>⟨ds,st',ev,is,rs,q⟩}) λus s2⟨vs,H2,I2,r,ds,st1,ev,is,rs,q⟩=>{(cr.mono (K:=X.K) (ev.tk hS)).fnAt I2,?_}) (r9 hs) hpl;show T1 Fo hr (.all cf.bind) .nil O3 I2 r {us0,ds,st1,Qd,cr.mono (K:=X.K) (ev.tk hS),ics.mono (ev.tk hS),by rw[BF];show is,rs,q,hq.after ev}
 |_=>show(hc:False).elim
def b35{ca cb}{cp}{t}{tf}{F:Str->Bool}(hf:PE X (.Subscript ca cb cp) (up X.K tf))
  (hF:∀f l,F f=AC->BB X.K AN f=AA (AA (.ref l))->∃k T M,FnOk X.prog X.w X.K X.mg X.base CX0 k l T M (D6 X.K (Ph f))/\Room k X.A/\Bv X.K (.ref l)=AC/\v6 X.K T M [])
  (ha:PA X (a::es) (upA X.K n t)) (hs:∀e p,a≠.Starred e p) (P:(CC pos (Am es X.env)).any (·.1)=AF) :
  PE X (.Call (.Subscript ca cb cp) (a::es) [] pos) (up X.K λg C Q=>tf g C λx c=>∃f,x=.fn f/\F f=AC/\t g c λi b=>Ph f i b Q):=by
 intro j s V H Q I q;let{g,C,U,Y,W,ht,hq}:=q;apply AE (thn (hf j s V H (λv o=>∃d c,Ev C H c o/\IsD X.K o d v/\RelS X.K c o/\∃f,d=.fn f/\F f=AC/\t g c λi b=>Ph f i b U) I {g,C,_,Y,W,ht,λv d a m B D y q=>⟨d,m,B,D,y,q⟩}) λu s1 G=>?_);let{v,o,I1,r1,d,c,z,N,L,f,e1,S,O}:=G;subst e1;obtain⟨l,rfl,R⟩:∃l,v=.ref l/\BB X.K AN f=AA (AA (.ref l)):=by cases N with|fn h=>show⟨_,rfl,h⟩
 let{k,T,M,Fo,hr,hk,hb}:=hF f l S R;cases r1;apply EG I1.ok.mod.kin hk (thn (ha pos j s1 V o (λJ E=>∃i b,Ev c o b E/\IsDs X.K E i J/\RelS X.K b E/\Ph f i b U) I1 {g,c,_,Y.mono (z.tk W),L,O,λJ i a m B D d y q=>⟨i,m,B,D,y,q⟩}) λa d⟨J,E,Z,r,i,b,B,D,y,q⟩=>{Z.kIn,?_}) (r9 hs) P;show T1 Fo hr hb .nil O3 Z r {i,b,U,by simp_all,y,q,hq.after (z.trans B)}
def J5{o}{nm}{env}{w}(h:∀i p a,o≠.Call (.Name i p) [] [] a):Cn o nm env w=w:=by
 unfold Cn
 simp_all
def c13{f}{C:Str->List Str}(I:∀c g,BB X.K AN c=AA (AA (.ref g))->f∈C c->Cls X.K g/\M6 X.K g f)(F:PE X a (up X.K ta))(b:Cn a f X.env (eval a X.env)=eval a X.env):
  PE X (.Attribute a f pos) (up X.K λl w Q=>ta l w λx h=>∃p c k d,x=.ref p/\h p=AA (.ins c k)/\f∈C c/\k.lookup f=AA d/\Q d h):=
 PE.imp (cv2 F b) λN H Q q=>up1 q λv d R u P z m j B=>by
  let{p,c,k,e,rfl,A,E,o,j}:=j;let{g,J,s,G,D,r}:=m.ins A;let{M,L}:=I c g D E
  rcases r.look f with⟨n,_⟩|⟨O,t,n,y,i⟩
  ·simp_all
  ·rw[n]at o;cases o;show{p,g,J,s,t,z.ref_inv,G,M,L,y,B.here i m j}
def aq9{o:AU}{pos}{a:List AU}{env}(d:∀i p g,o≠.Call (.Name i p) [] [] g)(b:Ec (a.length+0) (CC pos (Am a env)) (FH pos (DX [] env))=AC)(c:(apos.endLine==pos.line)=AC):
  eval (.Call (.Attribute o m apos) a [] pos) env=(do
   let e <-eval o env
   Hs apos.atName
   let(f,first) <-holding [e] (Kj e m (do return (<-importBound o env).getD AC))
   callWith pos f first (CC pos (Am a env)) (FH pos (DX [] env))):=by
 rw[arm_eval_Call,J5 d]
 unfold methodCall;erw[Aq]at b ⊢;rw[b];unfold methodCallPos calleeOf;erw[c];rfl
def cg5{t}{F:Str->Bool}
  (hM:∀c G,BB X.K AN c=AA (AA (.ref G))->F (f8 c m)=AC->∃k f W R,Cls X.K G/\Meth X.K G m f/\FnOk X.prog X.w X.K X.mg X.base CX0 k f W R (D6 X.K (Ph (f8 c m)))/\Room k X.A/\v6 X.K W R [])
  (D:Ec ((a::es).length+0) (CC pos (Am (a::es) X.env)) (FH pos (DX [] X.env))=AC) (y:(apos.endLine==pos.line)=AC) (V:∀i p p',ob≠.Call (.Name i p) [] [] p') (ho:PE X ob (up X.K ta)) (ha:PA X (a::es) (upA X.K n t)) (hs:∀e p,a≠.Starred e p) (U:(CC pos (Am es X.env)).any (·.1)=AF) :
  PE X (.Call (.Attribute ob m apos) (a::es) [] pos) (up X.K λh J Q=>ta h J λx b=>∃p c o,x=.ref p/\b p=AA (.ins c o)/\o.lookup m=AD/\F (f8 c m)=AC/\t h b λj g=>Ph (f8 c m) (.ref p::j) g Q):=by
 intro l s σ H Q I q;let{h,J,Z,hE,hS,ht,hq}:=q;apply HZ (thn (ho l s σ H (λv C=>∃p c o b,v=.ref p/\Ev J H b C/\RelS X.K b C/\b p=AA (.ins c o)/\o.lookup m=AD/\F (f8 c m)=AC/\t h b λj g=>Ph (f8 c m) (.ref p::j) g Z) I {h,J,_,hE,hS,ht,λv d C b E T B P=>?_}) λu s1 M=>?_) (aq9 V D y)
 ·let{p,c,o,rfl,P}:=P;show⟨p,c,o,b,T.ref_inv,E,B,P⟩
 let{v,C,I1,rx,p,c,o,b,E,e1,B,h1,h2,h3,h4}:=M;subst E;cases rx;let{G,dx,z,hH,hn,r}:=B.ins h1;let{k,f,W,R,cl,me,Fo,hr,hb}:=hM c G hn h3;have hl:z.lookup m=AD:=by
  rcases r.look m with⟨_,l2⟩|⟨d',v',l1,_,_⟩
  ·show l2
  ·simp_all
 apply an7 I1 hH cl me hl ?_;apply EG I.ok.mod.kin me.kp (thn (ha pos l s1 σ C (λz L=>∃j g,Ev b C g L/\IsDs X.K L j z/\RelS X.K g L/\Ph (f8 c m) (.ref p::j) g Z) I1 {h,b,_,hE.mono (e1.tk hS),B,h4,λz j a N E T c B q=>⟨j,N,E,T,B,q⟩}) λa c⟨z,L,I2,r2,j,g,Y,S,O,q2⟩=>{I2.kIn,?_}) (r9 hs) U;show T1 (vs:=.ref p::z) Fo hr hb .nil O3 I2 (.cons rfl r2) {.ref p::j,g,Z,by rw[BF];show .cons (.ref p) S,O,q2,(hq.after e1).after Y}
def b74{C:Str->List Str}{t}{F:Str->Bool}
  (hM:∀c J i,BB X.K AN c=AA (AA (.ref J))->F (f8 c m)=AC->C6 C (f8 c m)=AA i->∃k f Y S tk,Cls X.K J/\Meth X.K J m f/\FnOk X.prog X.w X.K X.mg X.base CX0 k f Y S (D6 X.K (Ph (f8 c m)))/\Room k X.A/\v6 X.K Y S [.int i tk])
  (E:Ec ((a::es).length+0) (CC pos (Am (a::es) X.env)) (FH pos (DX [] X.env))=AC) (y:(apos.endLine==pos.line)=AC) (W:∀i p p',ob≠.Call (.Name i p) [] [] p') (ho:PE X ob (up X.K ta)) (ha:PA X (a::es) (upA X.K n t)) (hs:∀e p,a≠.Starred e p) (V:(CC pos (Am es X.env)).any (·.1)=AF) :
  PE X (.Call (.Attribute ob m apos) (a::es) [] pos) (up X.K λh L Q=>ta h L λx b=>∃p c o i,x=.ref p/\b p=AA (.ins c o)/\o.lookup m=AD/\F (f8 c m)=AC/\C6 C (f8 c m)=AA i/\t h b λj g=>Ph (f8 c m) (.ref p::(j++[.int i])) g Q):=by
 intro l s σ H Q I q;let{h,L,Qd,hE,hS,ht,hq}:=q;apply HZ (thn (ho l s σ H (λv D=>∃p c o i b,v=.ref p/\Ev L H b D/\RelS X.K b D/\b p=AA (.ins c o)/\o.lookup m=AD/\F (f8 c m)=AC/\C6 C (f8 c m)=AA i/\t h b λj g=>Ph (f8 c m) (.ref p::(j++[.int i])) g Qd) I {h,L,_,hE,hS,ht,λv d D b G U B R=>?_}) λu s1 N=>?_) (aq9 W E y)
 ·let{p,c,o,i,rfl,R}:=R;show⟨p,c,o,i,b,U.ref_inv,G,B,R⟩
 let{v,D,I1,rx,p,c,o,i,b,G,e1,B,h1,h2,h3,h5,h4}:=N;subst G;cases rx;let{J,dx,z,hH,hn,r}:=B.ins h1;let{k,f,Y,S,tk,cl,me,Fo,hr,hb}:=hM c J i hn h3 h5;have hl:z.lookup m=AD:=by
  rcases r.look m with⟨_,l2⟩|⟨d',v',l1,_,_⟩
  ·show l2
  ·lia
 apply an7 I1 hH cl me hl ?_;apply EG (h₀:=X.base) I.ok.mod.kin me.kp (thn (ha pos l s1 σ D (λz M=>∃j g,Ev b D g M/\IsDs X.K M j z/\RelS X.K g M/\Ph (f8 c m) (.ref p::(j++[.int i])) g Qd) I1 {h,b,_,hE.mono (e1.tk hS),B,h4,λz j a O G U c B q=>⟨j,O,G,U,B,q⟩}) λa c⟨z,M,I2,r2,j,g,Z,T,P,q2⟩=>{I2.kIn,?_}) (r9 hs) V;show T1 (vs:=.ref p::z) Fo hr hb (dvs:=[.int i]) (.cons ⟨_,rfl⟩ .nil) O3 I2 (.cons rfl r2) {.ref p::(j++[.int i]),g,Qd,.cons (.ref p) (T.append (.cons (.int i) .nil)),P,q2,(hq.after e1).after Z}
def b65{F:Str->Bool}
  (hM:∀c j,BB X.K AN c=AA (AA (.ref j))->F (f8 c m)=AC->∃k f C z,Cls X.K j/\Meth X.K j m f/\FnOk X.prog X.w X.K X.mg X.base CX0 k f C z (D6 X.K (Ph (f8 c m)))/\Room k X.A/\v6 X.K C z [])
  (e:(apos.endLine==pos.line)=AC) (B:∀i p O,ob≠.Call (.Name i p) [] [] O) (V:PE X ob (up X.K ta)) :
  PE X (.Call (.Attribute ob m apos) [] [] pos) (up X.K λg l Q=>ta g l λx a=>∃p c b,x=.ref p/\a p=AA (.ins c b)/\b.lookup m=AD/\F (f8 c m)=AC/\Ph (f8 c m) [.ref p] a Q):=by
 intro h s L H Q I q;let{g,l,J,hE,hS,S,U}:=q;apply HZ (thn (V h s L H (λv o=>∃p c b a,v=.ref p/\Ev l H a o/\RelS X.K a o/\a p=AA (.ins c b)/\b.lookup m=AD/\F (f8 c m)=AC/\Ph (f8 c m) [.ref p] a J) I {g,l,_,hE,hS,S,λv d o a D R n y=>?_}) λu c t=>?_) (aq9 B rfl e)
 ·let{p,c,b,rfl,y}:=y;show⟨p,c,b,a,R.ref_inv,D,n,y⟩
 let{v,o,E,N,p,c,b,a,D,e1,n,h1,h2,h3,h4}:=t;subst D;cases N;let{j,dx,M,hH,W,r}:=n.ins h1;let{k,f,C,z,cl,G,Fo,T,Z}:=hM c j W h3;have Y:M.lookup m=AD:=by
  rcases r.look m with⟨_,P⟩|⟨d',v',l1,_,_⟩
  ·show P
  ·simp_all
 apply an7 E hH cl G Y ?_;show LB E.kIn G.kp (T1 (vs:=[.ref p]) Fo T Z .nil O3 E (.cons rfl .nil) {[.ref p],a,J,by show .cons (.ref p) .nil,n,h4,U.after e1})
def bh0{c}{H1}{st st1}{Qd}{Q}(I:BB X.K AN c=AA (AA (.ref Ca)))(L:Ev st H st1 H1)(E:IsDs X.K H1 ds vs)(t:RelS X.K st1 H1)(G:z6 X.K st H Qd Q)
  (q:∀p,st1 p=AD->sp (.ref p::ds) (b0 st1 p (.ins c [])) λv e=>v=.non/\Qd (.ref p) e):∀x a,H1 x=AD->H1 a=AD->a≠x->D6 X.K sp (.ref x::(vs++[])) (upd (upd H1 a (.own x)) x (.ins Ca a [])) (λv s=>v=.non/\Q (.ref x) s) E0:=by
 intro x a m f n;have h:TK X.K H1 (upd H1 a (.own x)):=TK.new f;have l:upd H1 a (.own x) x=AD:=l5 (λz=>n z.symm)▸m
 have g:TK X.K (upd H1 a (.own x)) (upd (upd H1 a (.own x)) x (.ins Ca a [])):=TK.new l;apply{.ref x::ds,b0 st1 x (.ins c []),_,by rw[BF];show .cons (.ref x) ((E.mono h).mono g),(t.new f).putAny g {Ca,a,[],v0,I,.nil} (by simp_all),q x (t.free m),λv d s e r k i j=>?_};let{rfl,j}:=j;cases k;apply{rfl,G _ (.ref x) s e (λb o J F=>?_) (.ref x) i j};let{{C,w,A},O}:=L b o J F;have u:=B4 w m;have D:=B4 w f;let{{B,N,y},M}:=r b C (by rwa[l5 u,l5 D]) (J4 u▸O);show{{B,N,A.trans y},M}
def ck7{c}{k}{t}{f}(z:BB X.K AN c=AA (AA (.ref Ca)))(M:Mk X.K Ca f)(J:FnOk X.prog X.w X.K X.mg X.base CX0 k f fd ps (D6 X.K sp))(x:Room (k+1) X.A)(C:Gl X c)(B:X.mg c=AA (.ref Ca))(D:v6 X.K fd ps [])
  (E:PA X (a::es) (upA X.K n t)) (j:(c==("__debug__":Str))=AF) (u:∀e p,a≠.Starred e p) (i:(CC pos (Am es X.env)).any (·.1)=AF) :
  PE X (.Call (.Name c p) (a::es) [] pos) (up X.K λb h Q=>t b h λl d=>∀p,d p=AD->sp (.ref p::l) (b0 d p (.ins c [])) λv g=>v=.non/\Q (.ref p) g):=
 PE.imp (cf6 M J x C B D .nil O3 E j (r9 u) i) λL H Q q=>by
  let{b,h,P,G,F,s,y}:=q;show{b,h,_,G,F,s,λN l R m I r O o=>bh0 z I r o y}
def b75{c}{k}{f}(j:BB X.K AN c=AA (AA (.ref Ca)))(M:Mk X.K Ca f)(r:FnOk X.prog X.w X.K X.mg X.base CX0 k f fd ps (D6 X.K sp))(h:Room (k+1) X.A)(m:Gl X c)(l:X.mg c=AA (.ref Ca))(n:v6 X.K fd ps [])(d:(c=="__debug__")=AF):
  PE X (.Call (.Name c p) [] [] pos) (up X.K λe b Q=>∀p,b p=AD->sp [.ref p] (b0 b p (.ins c [])) λv a=>v=.non/\Q (.ref p) a):=
 PE.imp (b47 M r h m l n .nil O3 d) λs H Q q=>by
  let{e,b,u,t,o,g,i}:=q;show bh0 j Ev.refl .nil o i g
def tyL{K}{st}{d}{v}(c:IsD K H d v)(b:RelS K st H)(h:F6 d st):tyV K "list" v H:=by
 cases d<;>first|show AV h|skip
 let{g,f}:=h;let{a,e,_}:=b.rd f;rw[c.ref_inv];show .inl ⟨rfl,a,e⟩
def aw3{nm}{id}{r}{g:D->D->Sto->DK->Prop}(n:Slot "list" nm id)(C:typeOf (.builtin id)=pure (.type "method_descriptor"))(V:MtR X id r)
  (Z:PE X a (up X.K ta)) (Y:PE X b (up X.K tb)) (l:∀i p P,a≠.Call (.Name i p) [] [] P) (E:∀e p,b≠.Starred e p) (k:(apos.endLine==pos.line)=AC)
  (B:∀v w d e m c s Q,IsD X.K m d v->IsD X.K m e w->RelS X.K c m->g d e c s->z6 X.K c m s Q->r v [w] m Q) :
  PE X (.Call (.Attribute a nm apos) [b] [] pos) (up X.K λf t Q=>ta f t λx h=>F6 x h/\tb f h λy j=>g x y j Q):=
 PE.imp (c72 PySem.F.plainAttrs_list n C V Z (Q4 Y E) (J5 l) (by rw[r9 E];rfl) k (r9 E) rfl) λa H Q q=>by
  let{f,t,s,M,L,T,U}:=q;apply{f,t,_,M,L,T,λv d a h N J z I=>{tyL J z I.1,?_}};apply{f,h,λG j=>match G with|[e]=>g d e j s|_=>False,M.mono (N.tk L),z,I.2,λa G m c o A W u O=>?_}
  match G,W with
  |[e],_=>
   let{w,ws,rfl,S,R}:=A.inv_cons;rw[R.inv_nil];show B v w d e m c s Q (J.mono (o.tk z)) S u O ((U.after N).after o)
def c02(E:PE X a (up X.K ta))(D:PE X b (up X.K tb))(f:∀i p t,a≠.Call (.Name i p) [] [] t)(B:∀e p,b≠.Starred e p)(c:(apos.endLine==pos.line)=AC):
  PE X (.Call (.Attribute a "append" apos) [b] [] pos) (up X.K λh s Q=>ta h s λx g=>F6 x g/\tb h g λy k=>X6 x y k Q):=
 aw3 PySem.F.slot_list_append PySem.F.type_list_append a97 E D f B c λv w d e I q H Q z u l j C=>by
  cases d<;>first|show AV j|skip
  let{G,m,A,j}:=j;let{o,n,r}:=l.lst m;rw[z.ref_inv];show{_,o,w,rfl,rfl,n,r.len▸A,C _ _ _ _ (Ev.put m) .non (l.putOld n (r.append (.cons u .nil))) j}
def bw4 l(c:Array AG)n(b)(a:Array AG)n2(f:Array (Option AG))(k:¬(!c.isEmpty&&CI (c.size+a.size))=AC)(j:c.size<=sizeLine)(i:c.size+a.size<=sizeLine+1):
  Ik (Dh.«list.extend» {[.ref l,.ref b],[]}) (λ_ R s=>s.heap.get? l=AA {cls:=.type "list",dict:=AD,data:=.seq c n,slots:=#[]}/\s.heap.get? b=AA {cls:=.type "tuple",dict:=AD,data:=.seq a n2,slots:=f}/\R (.ok (.ret Bd)) {s with heap:=s.heap.update l (Bt λx=>x++a),toks:=s.toks}):=
 .of_wp λd w A R s h=>by
  let{e,m,h}:=h;have g:(c++a).size<=sizeLine+1:=by simp_all
  wp_walk using(EH e rfl),Go e,Go m;show⟨_,rfl,h⟩
abbrev bd8(K:AO):V->List V->Hp->VK->Prop:=λx vs H Q=>∃l b xs zs,x=.ref l/\vs=[.ref b]/\H l=AA (.lst xs)/\SqT K H b zs/\xs.length+zs.length<=sizeLine/\Q .non (upd H l (.lst (xs++zs)))
def bx3:MtM X "list.extend" (bd8 X.K):=by
 intro i s J H x O v P Q I y A h;let{l,b,N,L,rfl,rfl,j,E,R,q}:=h;cases y;let{u,rfl,B}:=A.one;cases B;let{z,c,n,r,S,e}:=I.lstM j;let{a,g,{o,F,p,m,C,k},M}:=I.tupleD E;let{G,T,t,w}:=o;simp only at p m k;subst p m k;have D:=g.length;have f:c.toArray.size+a.toArray.size<=sizeLine:=by rw[Aa,Aa];lia
 have d:¬(!c.toArray.isEmpty&&CI (c.toArray.size+a.toArray.size))=AC:=by
  rw[bc0 f,Jn];show AJ
 apply Cz JY ⟨_,e,rfl⟩ JP (JF _ _)
  (bw4 l c.toArray n b a.toArray C w d (by rw[Aa];lia) ⋯) {e,F,?_}
 apply{.non,_,I.lset (its':=c++a) j e ∎ (r.append g) ?_,rfl,q};rw[Af];lia
def cl1:MtM X "list.extend" λx b H Q=>bg7 x b H Q\/bd8 X.K x b H Q:=λa s c H x b v d Q I e f h=>h.elim (b07 a s c H x b v d Q I e f) (bx3 a s c H x b v d Q I e f)
def cq7(L:PE X a (up X.K ta))(J:PE X b (up X.K tb))(g:∀i p G,a≠.Call (.Name i p) [] [] G)(I:∀e p,b≠.Starred e p)(f:(apos.endLine==pos.line)=AC):
  PE X (.Call (.Attribute a "extend" apos) [b] [] pos) (up X.K λn E Q=>ta n E λx h=>F6 x h/\tb n h λy s=>X9 x y s Q):=
 aw3 PySem.F.slot_list_extend PySem.F.type_list_extend cl1 L J g I f λv w d e P D O Q B A j c C=>by
  cases d<;>first|show AV c|(cases e<;>first|show AV c|skip)
  ·let{M,l,H,c}:=c;let{q,m,r}:=j.lst l;let{b,o,rfl,u,k}:=A.tup_inv;rw[B.ref_inv];show .inr {_,_,q,o,rfl,rfl,m,u,by rwa[<-r.len,<-k.len],C _ _ _ _ (Ev.put l) .non (j.putOld m (r.append k)) c}
  ·let{M,N,l,t,H,c}:=c;let{q,m,r}:=j.lst l;let{o,z,k}:=j.lst t;rw[B.ref_inv,A.ref_inv];show .inl {_,_,q,o,rfl,rfl,m,z,by rwa[<-r.len,<-k.len],C _ _ _ _ (Ev.put l) .non (j.putOld m (r.append k)) c}
def b59(M:PE X a (up X.K ta))(L:PE X b (up X.K tb))(f:∀i p C,a≠.Call (.Name i p) [] [] C)(G:∀e p,b≠.Starred e p)(c:(apos.endLine==pos.line)=AC):
  PE X (.Call (.Attribute a "pop" apos) [b] [] pos) (up X.K λj A Q=>ta j A λx g=>F6 x g/\tb j g λy l=>as6 x y l Q):=
 aw3 PySem.F.slot_list_pop PySem.F.type_list_pop b57 M L f G c λv w d e V z U Q E D q h H=>by
  cases d<;>first|show AV h|(cases e<;>first|show AV h|skip)
  let{{T,S},R,k,d,s,I,J,h}:=h;let{t,o,r}:=q.lst s;let{u,n,m}:=r.get J;rw[E.ref_inv,D.int_inv];let{B,P,O,N}:=ar8 I;show{_,t,_,k,u,rfl,rfl,o,⋯,⋯,(r.len▸B),n,H _ _ _ _ (Ev.put s) (m.mono (TK.put o)) (q.putOld o (r.erase k)) h}
def cp1(C:PE X a (up X.K ta))(c:∀i p z,a≠.Call (.Name i p) [] [] z)(b:(apos.endLine==pos.line)=AC):
  PE X (.Call (.Attribute a "pop" apos) [] [] pos) (up X.K λs y Q=>ta s y λx k=>ab7 x k Q):=
 PE.imp (bn1 PySem.F.plainAttrs_list PySem.F.slot_list_pop PySem.F.type_list_pop cx7 C (J5 c) b) λD H Q q=>up1 q λv d G l E A t g B=>by
  cases d<;>first|show AV g|skip
  let{j,d,u,g}:=g;let{f,h,r}:=t.lst u;have o:=r.len;rw[Af,IK]at o;let{w,n,m}:=r.get (i:=j.length) (d:=d) ∎;rw[A.ref_inv];apply{.inl {rfl,f,.inl (.inl h)},_,f,w,rfl,rfl,h,by rw[<-o];show n,B _ _ _ (b0 l _ (.lst j)) (Ev.put u) (m.mono (TK.put h)) (t.putOld h ?_) g};have e:f.dropLast=f.take j.length:=by rw[List.dropLast_eq_take,<-o,JK]
  rw[e];have q:=r.take j.length
  rwa [Jc]at q
  rfl
end
end
section
variable [Tbs]
end
section
variable [Tbs]
variable{s:AL}{g:Str}{kvs:List (Str×D)}
section
variable {X:Cx} {a b c:AU} {ta tb tc:DT} {pos p:Pos}
@[reducible]noncomputable def N4(h:Heap)(a:AI)(T:List (Str×AG)):Prop:=KTD.TabOf (λ(d v:AG)=>v=d) h a T
def N4.typeIs{a}{T}(t:N4 s.heap a T):s.TypeIs (.ref a) "dict":=let⟨_,o,_,_,b,c,_⟩:=t;⟨o,b,c.1⟩
def N4.get{b:Al}{w:Aw}{A:BW}{E:AG->AL->Prop}{s:AL}{a:AI}{T:List (Str×AG)}{k:Str}{j:Tok}{Q:Option AG->AL->Prop}(t:N4 s.heap a T)
  (h:Q (CG k T) {s with toks:=s.toks+1}):AW (model b w) A (KU a (.str k j)) Q E s:=by
 obtain⟨_,o,⟨l⟩,q,f,p,g,c⟩:=t;apply AE (FE (AE (KTD.kt_dictFind_strs (s:={s with toks:=s.toks+1}) f g (by simpa using c.exact) ?_)));have e:CG k T=(l.find? λe=>e.key.isStr k).map (·.val):=by
  cases hat:CG k T with
  |some d=>let{v,m,rfl}:=c.find_some hat;show m.symm
  |none=>show(c.find_none hat).symm
 have n:findBy (λk v=>v.isStr k) (⟨l⟩:Array Dp) k=CG k T:=by rw[e];simp[findBy]
 rw[<-n,findBy_of_findIdx?]at h;cases hi:(⟨l⟩:Array Dp).findIdx? λe=>e.key.isStr k with
 |none=>rw[hi]at h;show AK h
 |some i=>rw[hi]at h;show AE (wpAny_dictEntries (s:={s with toks:=s.toks+1}) f g (AK h))
def bv6{prog}{w}{A}{E}{a}{T}{k}{tk}{u}{Q}(H:N4 s.heap a T)(b:CG k T=AA u)
  (h:Q u {s with toks:=s.toks+1}):AW (model prog w) A (Du (.ref a) (.str k tk)) Q E s:=by
 unfold Du
 try with_reducible apply BQ ?_
 apply AE (HD H.typeIs ∅ ?_);apply AE (Bb H.typeIs KW
  (BX KW H.typeIs entry_dict_getitem ?_ (args_dict_getitem _ _)))
 change AW _ _ (KU a (.str k tk)>>=_) _ _ s;apply AE (H.get ?_);rw[b];show AK {u,rfl,AK h}
def N4.dget{b:Al}{w:Aw}{A:BW}{E:AG->AL->Prop}{a:AI}{T:List (Str×AG)}{k:Str}{c:Tok}{r:AG}{Q:AG->AL->Prop}(t:N4 s.heap a T)
  (h:Q ((CG k T).getD r) {s with toks:=s.toks+1}):AW (model b w) A (call (.builtin "dict.get") [.ref a,.str k c,r]) Q E s:=by
 apply BX PySem.F.slot_dict_get t.typeIs PySem.F.entry_dict_get ?_ (PySem.F.args_dict_get_3 _ _ _);change AW _ _ (KU a (.str k c)>>=_) _ _ s;apply AE (t.get ?_);cases hf:CG k T with
 |some v=>rw[hf]at h;show AK ⟨v,rfl,h⟩
 |none=>
  rw[hf]at h;change AW _ _ (LG a (.str k c)>>=_) _ _ _;show AE (wpAny_missed_other t.1 (AK ⟨r,rfl,h⟩))
structure GTab(P:Al)(w:Aw)(K:AO)(mg:Str->Option AG)(g:Str)(kvs:List (Str×D)):Prop where
 ex:∃(a:AI)(T:List (Str×AG)),mg g=AA (.ref a)/\(∀h:Heap,K.In h->N4 h a T)/\(∀x d,A7 kvs x=AA d->∃u v,CG x T=AA u/\j7 v u/\∀H,IsD K H d v)/\∀x,A7 kvs x=AD->CG x T=AD
def cd1(T:kvs≠[]->GTab X.prog X.w X.K X.mg g kvs)(W:Gl X g)(Y:PE X b (up X.K tb))(S:∀l u s p,b≠.Slice l u s p)(r:(g=="__debug__")=AF):
  PE X (.Subscript (.Name g p) b pos) (up X.K λa h Q=>kvs≠[]/\tb a h λx c=>∃w d,x=.str w/\A7 kvs w=AA d/\Q d c):=by
 intro i s z H Q I q;let{a,h,B,hE,hS,{o,j},n}:=q;let{t,vs,U,Z,V,_}:=(T o).ex;have q:up X.K (λa h Q=>tb a h λx c=>∃w d,x=.str w/\A7 kvs w=AA d/\Q d c) z H Q:=⟨a,h,B,hE,hS,j,n⟩;apply ce5 PySem.F.slot_dict_getitem.lookup (a86 S) (V5 I W U ?_ r);apply thn (Y i s z H (λv G=>∃(w:Str)(d:D),v=.str w/\A7 kvs w=AA d/\∀f,IsD X.K G d f->Q f G) I (up1 q λv d b J B R O j n=>?_)) λb L k=>?_
 ·let{w,d,rfl,m,j}:=j;show{w,d,R.str_inv,m,λf e=>n.here e O j}
 ·let{y,E,C,M,w,d,ey,m,P}:=k;subst ey;let{tt,rfl}:=M;let{u,f,h1,N,e}:=V w d m;have A:=Z L.heap C.kIn;show{A.typeIs,bv6 A h1 {f,E,C.tok _,N,P f (e E)}}
def cl2{apos}(T:kvs≠[]->GTab X.prog X.w X.K X.mg g kvs)(hg:Gl X g)(hb:PE X b (up X.K tb))(R:PE X c (up X.K tc))(hs:∀e p,b≠.Starred e p)(M:∀e p,c≠.Starred e p)(k:(apos.endLine==pos.line)=AC)(P:(g=="__debug__")=AF):
  PE X (.Call (.Attribute (.Name g p) "get" apos) [b,c] [] pos) (up X.K λh A Q=>kvs≠[]/\tb h A λx f=>tc h f λy a=>∃w,x=.str w/\Q ((A7 kvs w).getD y) a):=by
 intro i s W H Q I q;let{h,A,Qd,hE,hS,{O,ht},Z}:=q;let{t,vs,hm,hT,hl,N}:=(T O).ex;have et:CC pos (Am [b,c] X.env)=[(AF,eval b X.env),(AF,eval c X.env)]:=by rw[r9 hs,r9 M];rfl
 apply KQ (J5 (λ_ _ _=>nofun)) (by rw[et];rfl) k PySem.F.plainAttrs_dict PySem.F.slot_dict_get PySem.F.type_dict_get (V5 I hg hm ?_ P);have hh:=hT s.heap I.kIn;apply{hh.typeIs,λb e=>?_,?_}
 ·injection e with e
  subst e;let{_,o,_,_,ho,R,_}:=hh;show⟨o,ho,R.2.1⟩
 ·rw[et];apply DM rfl (FI (DF (thn (hb i s W H (λv V=>∃d f,Ev A H f V/\IsD X.K V d v/\RelS X.K f V/\tc h f λy a=>∃w,d=.str w/\Qd ((A7 kvs w).getD y) a) I {h,A,_,hE,hS,ht,λv d b j S L D q=>⟨d,j,S,L,D,q⟩}) λb s2⟨y,H2,I2,Y,d,f,l,G,C,q1⟩=>
   DF (thn (R i s2 W H2 (λv m=>∃e a,Ev f H2 a m/\IsD X.K m e v/\RelS X.K a m/\∃w,d=.str w/\Qd ((A7 kvs w).getD e) a) I2 {h,f,_,hE.mono (l.tk hS),C,q1,λv d b j S L D q=>⟨d,j,S,L,D,q⟩}) λb s3⟨z,m,U,rz,e,a,r,E,n,w,ew,B⟩=>EK ?_))))
  subst ew;rw[G.str_inv]at Y;let{tt,rfl}:=Y;apply(hT s3.heap U.kIn).dget ?_;cases lk:A7 kvs w with
  |some dv=>
   let{u,v',h1,rv,J}:=hl w dv lk;rw[lk]at B;rw[h1];show{v',m,U.tok _,rv,(Z.after (l.trans r)).here (J m) n B}
  |none=>
   rw[lk]at B;rw[N w lk];show{z,m,U.tok _,rz,(Z.after (l.trans r)).here E n B}
abbrev S9:List Key->List AG->Bool
 |[],us=>us.isEmpty
 |k::ks,us=>Dv (motive:=λ_=>Bool) us AF λu us=>Sum.casesOn (motive:=λ_=>Bool) k (λi=>GZ i u) (λx=>HU x u)&&S9 ks us
theorem S9.is:∀{b}{a},S9 b a=AC->i7 (b.map kV) a
 |[],[],_=>.nil
 |.inl i::b,u::a,h=>have h:=FL.mp h;.cons (Fx h.1) (S9.is h.2)
 |.inr x::b,u::a,h=>have h:=FL.mp h;.cons (IQ h.1) (S9.is h.2)
abbrev ax5(ks:List Key):Option Obj->Bool
 |some o=>(match o.data with|.seq its _=>(o.cls==.type "tuple")&&o.dict.isNone&&AB (its.size<=1000)&&(S9 ks its.toList&&D.pures (ks.map kD))|_=>AF)
 |none=>AF
abbrev O6(K:AO):D->AG->Bool
 |.int j,u=>GZ j u
 |.fn f,.ref a=>BB K AN f==AA (AA (.ref a))
 |.ktup ns,.ref a=>ax5 ns (K.lookup a)
 |_,_=>AF
theorem O6.is{K:AO}{d:D}{u:AG}(h:O6 K d u=AC):∃v,j7 v u/\∀H,IsD K H d v:=by
 cases d<;>first|show{.int _,Fx h,λH=>.int _}|(cases u<;>first|show nomatch (show AF=AC from h)|skip)
 ·show{.ref _,rfl,λH=>.fn (Kr h)}
 ·rename_i e a;have h:ax5 e (K.lookup a)=AC:=h;cases hk:K.lookup a with
  |none=>rw[hk]at h;cases h
  |some o=>
   let{c,d,x,f}:=o;rw[hk]at h;cases x<;>first|show nomatch (show AF=AC from h)|skip
   rename_i b n;erw[ax5,BG,beq_iff_eq,decide_eq_true_eq]at h;show{.ref a,rfl,λH=>.ktup (.inr {_,b,n,hk,h.1.1.1,by simpa using h.1.1.2,rfl,Ap h.1.2 ∅,S9.is h.2.1}) h.2.2}
abbrev aw5(K:AO)(e:Dp)(p:Str×D):Bool:=(match e.key with|.str x _=>x==p.1|_=>AF)&&O6 K p.2 e.val
abbrev V8(K:AO):List Dp->List (Str×D)->Bool
 |[],[]=>AC
 |e::es,p::ps=>aw5 K e p&&V8 K es ps
 |_,_=>AF
abbrev W5(K:AO)(a:AI)(kvs:List (Str×D)):Bool:=match K.lookup a with
 |some ⟨c,dd,.dict es _,sl⟩=>(c==.type "dict")&&dd.isNone&&sl.isEmpty&&V8 K es.toList kvs&&!(a==CV)
 |_=>AF
abbrev W7:List Dp->List (Str×D)->List (Str×AG)
 |e::es,(x,_)::r=>(x,e.val)::W7 es r
 |_,_=>[]
theorem bg8{K}:∀(c)b,V8 K c b=AC->KTD.Rows (λd v=>v=d) c (W7 c b)
 |[],[],_=>.nil
 |[],_::_,a=>by cases a
 |_::_,[],a=>by cases a
 |e::c,(x,d)::g,a=>by
  erw[V8,aw5,BG]at a;let{{f,_},h}:=a
  split at f
  ·rename_i y t i;have:=by simpa using f
   subst this;show .cons i rfl (bg8 c g h)
  ·cases f
theorem ap6{K}:∀a(c),V8 K c a=AC->∀x,(∀d,A7 a x=AA d->∃u v,CG x (W7 c a)=AA u/\j7 v u/\∀H,IsD K H d v)/\(A7 a x=AD->CG x (W7 c a)=AD)
 |[],[],_,x=>{λd h=>(nomatch h),λ_=>rfl}
 |[],_::_,b,x=>by cases b
 |(y,e)::r,[],b,x=>by cases b
 |(y,e)::r,m::c,b,x=>by
  erw[V8,aw5,BG]at b;let{{_,k},j}:=b;have l:=ap6 r c j x;erw[A7,W7,CG]
  by_cases f:y=x
  ·rw[if_pos f,if_pos (by simp[f])];let{v,g,i}:=O6.is k;show{λd h=>by cases h;show⟨_,v,rfl,g,i⟩,λh=>by cases h}
  ·rwa[if_neg f,if_neg (by simp[Ax f])]
def ad7{P}{w}{K}{mg}{h}{a}(p:K.In h)(G:h.Ns AN mg)(o:BB K AN g=AA (AA (.ref a)))(b:W5 K a kvs=AC):GTab P w K mg g kvs:=by
 unfold W5 at b
 split at b
 ·rename_i c s f j q i;erw[BG,beq_iff_eq,EM]at b;let{{{{n,m},l},e},k}:=b;apply{a,W7 f.toList kvs,Hn p G o,λr d=>{k,_,f,j,d a _ i,{n,by simpa using m,by simpa using l},rfl,bg8 _ _ e},λx=>(ap6 kvs _ e x).1,λx=>(ap6 kvs _ e x).2}
 ·cases b
end
end
section
variable [Tbs]
variable{ds:List D}{H1:Hp}
section
variable {X:Cx} {a b c:AU} {ta tb tc:DT} {pos p:Pos}
structure ItOk(K:AO)(H1:Hp)(J:L2.It)(items:List D)(chk:Sto->Prop):Prop where
 go:∀(i:Nat)st H,TK K H1 H->RelS K st H->chk st->i<items.length->J.go i H
 yld:∀(i:Nat)st H x H',TK K H1 H->RelS K st H->chk st->i<items.length->J.yld i H x H'->∃d,items[i]?=AA d/\IsD K H' d x/\Ev st H st H'/\RelS K st H'
 stop:∀st H,TK K H1 H->RelS K st H->chk st->J.stop items.length H
abbrev upI(K:AO)(t:l7->Sto->ItK->Prop):TI:=λσ H R=>∃env st k,RelE K H env σ/\RelS K st H/\t env st k/\∀items chk st' H' J,Ev st H st' H'->RelS K st' H'->ItOk K H' J items chk->k items chk st'->R J H'
def _root_.L2.PI.imp{X}{tg x}{t t'}(h:PI X tg x t)(i:∀a H Q,t' a H Q->t a H Q):PI X tg x t':=λb s a H Q I q=>h b s a H Q I (i a H Q q)
variable {K:AO}
def cu7{q}{b:List V}(e:SqT K H1 q b)(r:IsDs K H1 ds b):ItOk K H1 (Itt K q) ds (λ_=>True) where
 go:=λi f H a c _ g=>by
  let{v,j,_}:=r.get (AH g);show{b,v,a.1.1 _ _ e,j}
 yld:=λi f H x l a c _ g y=>by
  let{rfl,y}:=y;let{d,k,h}:=r.get' (y b (a.1.1 _ _ e));show{d,k,h.mono a,Ev.refl,c}
 stop:=λf H a c _=>{b,a.1.1 _ _ e,r.len▸AR _}
def ct6{q}:ItOk K H1 (Itl K q) ds λf=>rdS f q ds where
 go:=λi f H g a e h=>by
  let{b,c,r}:=a.rd e;let{v,k,_}:=r.get (AH h);show⟨b,v,c,k⟩
 yld:=λi f H x m g a e h y=>by
  let{rfl,y}:=y;let{b,c,r}:=a.rd e;let{d,l,j}:=r.get' (y b c);show⟨d,l,j,Ev.refl,a⟩
 stop:=λf H g a e=>by
  let{b,c,r}:=a.rd e;show{b,c,r.len▸AR _}
def bn6{lo}{n}:ItOk K H1 (Itr lo n) (t5 lo n) (λ_=>True) where
 go:=λi e H d a _ c=>by change i<n;simpa[t5]using c
 yld:=λi e H x f d a _ c y=>by
  let{rfl,rfl}:=y;have b:=by simpa[t5]using c
  show{.int (lo+i),by simp[t5,b],.int _,Ev.refl,a}
 stop:=λe H d a _=>by change n<=(t5 lo n).length;simp[t5]
theorem ao6:∀a(k),(u4 k a).length=a.length
 |[],_=>rfl
 |d::a,k=>by simp[u4,ao6 a (k+1)]
theorem ba9:∀a(k i:Nat)(d:D),a[i]?=AA d->(u4 k a)[i]?=AA (.tup [.int ((k+i:Nat)),d])
 |[],k,i,d,h=>by simp at h
 |e::a,k,0,d,h=>by simp at h;subst h;rfl
 |e::a,k,i+1,d,h=>by
  have:=ba9 a (k+1) i d (by simpa using h);have e:k+(i+1)=k+1+i:=by lia
  rw[e];simpa[u4]using this
def bf0{sq}{chk}(h:∀b H,TK K H1 H->RelS K b H->chk b->∃a,sq H a/\IsDs K H ds a):ItOk K H1 (Ite K sq) (u4 0 ds) chk where
 go:=λi b H f c j l=>by
  let{a,g,r}:=h b H f c j;rw[ao6]at l;let{v,n,_}:=r.get (AH l);show⟨a,v,g,n⟩
 yld:=λi b H x p f c j l y=>by
  let{t,v,k,rfl,rfl,y}:=y;let{a,g,r}:=h b H f c j;let{d,o,m}:=r.get' (y a g);apply{_,ba9 ds 0 i d o,IsD.mk (SqX.of v0) (.cons ?_ (.cons (m.mono (TK.new k)) .nil)),Ev.new k,c.new k};have e:0+i=i:=by simp
  rw[e];show .int _
 stop:=λb H f c j=>by
  let{a,g,r}:=h b H f c j;show{a,g,by rw[ao6,r.len]}
def c04{q}:ItOk K H1 (Itv K q ds.length) ds.reverse λf=>rdS f q ds where
 go:=λi f H h a e k=>by
  let{b,c,r}:=a.rd e;show{⟨b,c,r.len.symm⟩,by simp_all}
 yld:=λi f H x m h a e k y=>by
  let{rfl,y}:=y;let{b,c,r}:=a.rd e;have g:i<ds.length:=by simp_all
  let{d,l,j}:=r.get' (y b c);show{d,Ex g▸l,j,Ev.refl,a}
 stop:=λf H h a e=>by
  let{b,c,r}:=a.rd e;show{⟨b,c,r.len.symm⟩,∎}
variable {tg:AU}
def cw3(P:PE X a (up X.K ta)):PI X tg a (upI X.K λm t k=>ta m t λd c=>(∃f,d=.tup f/\k f (λ_=>True) c)\/∃a f,d=.ref a/\rdS c a f/\k f (λj=>rdS j a f) c):=by
 intro p s G H R I q;let{m,t,E,S,Q,N,F}:=q;apply thn (P p s G H (λv h=>∃d c,Ev t H c h/\IsD X.K h d v/\RelS X.K c h/\((∃f,d=.tup f/\E f (λ_=>True) c)\/∃a f,d=.ref a/\rdS c a f/\E f (λj=>rdS j a f) c)) I {m,t,_,S,Q,N,λv d h c y x n l=>⟨d,c,y,x,n,l⟩}) λu w z=>?_
 let{v,h,i,A,d,c,y,x,n,l}:=z;rcases l with⟨f,rfl,l⟩|⟨q,f,rfl,O,l⟩
 ·let{q,J,rfl,g,r}:=x.tup_inv;cases A;let{C,L,B,M}:=i.tuple g;apply Ci (B) ?_;apply{w.heap.objs.size,[w.heap.objs.size],_,_,h,rfl,i.kept λb o=>AQ _,bw0 q _,{_,Aj _ rfl,rfl,rfl},λb D=>?_,F f _ c h _ y n (cu7 g r) l};have e:=by simpa using D
  subst e;show i.fpOk (AR _) (i.hok.fresh (AR _))
 ·rw[x.ref_inv]at A;cases A;let{J,g,r}:=n.rd O;let{C,L,B,M}:=i.list g;apply HK B.isList ?_;apply{w.heap.objs.size,[w.heap.objs.size],_,_,h,rfl,i.kept λb o=>AQ _,b11 q _,{_,Aj _ rfl,rfl,rfl},λb D=>?_,F f _ c h _ y n ct6 l};have e:=by simpa using D
  subst e;show i.fpOk (AR _) (i.hok.fresh (AR _))
def ct3(z:Gl X "range")(x:X.mg "range"=AD)(A:PE X a (up X.K ta))(l:∀e p,a≠.Starred e p):PI X tg (.Call (.Name "range" p) [a] [] pos) (upI X.K λc g k=>ta c g λd b=>∃j:Int,d=.int j/\(-2^62<=j/\j<2^62)/\k (t5 0 j.toNat) (λ_=>True) b):=
 PI.imp (b20 z x (Q4 A l) (by rw[r9 l];rfl)) λF H R q=>by
  let{c,g,o,C,B,u,w}:=q;apply{c,g,λi b=>match i with|[d]=>∃j:Int,d=.int j/\(-(2^62)<=j/\j<2^62)/\o (t5 0 j.toNat) (λ_=>True) b|_=>False,C,B,u,λI i E f D r y n h=>?_}
  match i,y with
  |[d],_=>
   let{v,G,rfl,t,s}:=r.inv_cons;rw[s.inv_nil];let{j,rfl,m,h}:=h;show{j,by rw[t.int_inv],m.1,m.2,w _ _ f E _ D n bn6 h}
def ck3(I:Gl X "range")(E:X.mg "range"=AD)(L:PE X a (up X.K ta))(J:PE X b (up X.K tb))(r:∀e p,a≠.Starred e p)(g:∀e p,b≠.Starred e p):PI X tg (.Call (.Name "range" p) [a,b] [] pos) (upI X.K λc m k=>ta c m λd f=>tb c f λe h=>∃i j:Int,d=.int i/\e=.int j/\(-(2^62)<=i/\i<2^62/\-(2^62)<=j/\j<2^62)/\k (t5 i (j-i).toNat) (λ_=>True) h):=
 PI.imp (b27 I E (ad8 L J r g) (by rw[r9 r,r9 g];rfl) (by rw[r9 g];rfl)) λQ H R q=>by
  let{c,m,u,N,M,C,D}:=q;apply{c,m,(λo f=>match o with|[d,e]=>∃i j:Int,d=.int i/\e=.int j/\(-(2^62)<=i/\i<2^62/\-(2^62)<=j/\j<2^62)/\u (t5 i (j-i).toNat) (λ_=>True) f|_=>False),N,M,C,λT o P l O x F t n=>?_}
  match o,F with
  |[d,e],_=>
   let{v,S,rfl,B,A}:=x.inv_cons;let{w,s,rfl,z,y}:=A.inv_cons;rw[y.inv_nil];let{i,j,rfl,rfl,G,n}:=n;show{i,j,by rw[B.int_inv,z.int_inv],G,D _ _ l P _ O t bn6 n}
def co1{y:List AU}{k0}{tp}(U:Gl X "enumerate")(S:X.mg "enumerate"=AD)(W:PE X a (up X.K ta))(F:∀e p,a≠.Starred e p):PI X (.Tuple y k0 tp) (.Call (.Name "enumerate" p) [a] [] pos)
  (upI X.K λm o k=>ta m o λd b=>(∃c,d=.tup c/\k (u4 0 c) (λ_=>True) b)\/(∃a c,d=.ref a/\rdS b a c/\k (u4 0 c) (λf=>rdS f a c) b)):=by
 have E:Am [a] X.env=[(AF,eval a X.env)]:=by rw[r9 F];rfl
 intro x s L H R I q;let{m,o,z,Z,Y,P,G}:=q;have hA:=Q4 W F;apply JV (M4 I U S L2.bt5 (BH (thn (hA pos x s L H (λn t=>∃v d b,n=[v]/\Ev o H b t/\IsD X.K t d v/\RelS X.K b t/\((∃c,d=.tup c/\z (u4 0 c) (λ_=>True) b)\/(∃a c,d=.ref a/\rdS b a c/\z (u4 0 c) (λf=>rdS f a c) b))) I
  ⟨m,o,(λc b=>match c with|[d]=>(∃c,d=.tup c/\z (u4 0 c) (λ_=>True) b)\/(∃a c,d=.ref a/\rdS b a c/\z (u4 0 c) (λf=>rdS f a c) b)|_=>False),Z,Y,P,λn c a f B A T i j=>by
   match c,T with
   |[d],_=>
    let{v,ws,rfl,O,N}:=A.inv_cons;rw[N.inv_nil];show⟨v,d,f,rfl,B,O,i,j⟩⟩) λa c⟨n,t,J,M,v,d,b,e1,B,A,i,j⟩=>?_) E rfl))
 subst e1;let{u,rfl,D}:=M.one
 rcases j with⟨c,rfl,j⟩|⟨q,c,rfl,Q,j⟩
 ·let{l,n,rfl,h,r}:=A.tup_inv;cases D;show b80 J h (G _ _ b t _ B i (bf0 λo H C i _=>{n,C.1.1 _ _ h,r.mono C}) j)
 ·rw[A.ref_inv]at D;cases D;let{n,h,r}:=i.rd Q;show b56 J h (G _ _ b t _ B i (bf0 λo H C i V=>i.rd V) j)
def ct8(C:Gl X "reversed")(A:X.mg "reversed"=AD)(D:PE X a (up X.K ta))(o:∀e p,a≠.Starred e p):PI X tg (.Call (.Name "reversed" p) [a] [] pos) (upI X.K λh i k=>ta h i λd c=>∃a b,d=.ref a/\rdS c a b/\k b.reverse (λf=>rdS f a b) c):=
 PI.imp (cl6 C A (Q4 D o) (by rw[r9 o];rfl)) λJ H R q=>by
  let{h,i,s,F,E,x,z}:=q;apply{h,i,λb c=>match b with|[d]=>∃a b,d=.ref a/\rdS c a b/\s b.reverse (λf=>rdS f a b) c|_=>False,F,E,x,λm b I f G t B n j=>?_}
  match b,B with
  |[d],_=>
   let{v,L,rfl,w,u}:=t.inv_cons;rw[u.inv_nil];let{q,b,rfl,y,j}:=j;let{m,l,r}:=n.rd y;show{q,m,by rw[w.ref_inv],l,(r.len▸z _ _ f I _ G n c04 j)}
end
end
end Ek
namespace PySem
end PySem
namespace L2
open PySem PySem.Spec PyProof.Rows
section
variable {X:Cx} {pins:List (AI×Obj)} {σ:St} {H:Hp} {s:AL}
def Inv.track{b}{o}(I:Inv X pins σ H s)(j:D5 X pins H b)(g:t4 X.prog X.w (upd H b o) s.heap b o):Inv X pins σ (upd H b o) s:=by
 let{y,r,x,p,l,k}:=j;have a:∀c u,H c=AA u->c≠b:=λc u e z=>by grind
 have:=I.step (H':=upd H b o) (d':=s.drawn) (t':=s.toks) (ch:=[b]) (λc f=>by
   have e:=by simpa using f
   subst e;show⟨p,r,l,k⟩) (λc u _ _ _ e _=>e) (λc u _ _ _ e _=>⟨u.slots,e⟩) (λc u f e n=>by rw[l5 (by simp_all)];show n) (λc u _ e=>⟨u,e⟩)
  (λc h e=>(l5 (a c _ e)▸e)) (λc u v e=>(l5 (a c _ e)▸e)) (λc t e=>{#[],by rw[l5 (a c _ e),e];simp}) (λm i=>i) (λc u e=>?_) I.bare
 ·show this
 ·by_cases f:c=b
  ·subst f;rw[v0]at e;cases e;show g
  ·rw[l5 f]at e;show(I.hok c u e).stay (λ_ _ _ q=>q) (λd q=>l5 (a d _ q)▸q) λd h q=>l5 (a d _ q)▸q
end
section
variable {X:Cx}
def b96:BK "zip"=AA (.type "zip"):=by decide+kernel
end
section
variable {X:Cx}
abbrev dg9:V->List V->Hp->VK->Prop:=λx vs H Q=>∃l xs,x=.ref l/\vs=[]/\H l=AA (.lst xs)/\Q .non (upd H l (.lst xs.reverse))
def cv6:MtM X "list.reverse" dg9:=by
 intro c s i H x k v m Q I f g h;let{l,j,rfl,rfl,d,q}:=h;cases f;have b:=g.zero;subst b;let{z,a,n,r,o,e}:=I.lstM d;apply Cz F.slot_list_reverse ⟨_,e,rfl⟩ F.entry_list_reverse (F.args_list_reverse_1 _) (AutoSeq1.list_reverse_list_0 l a.toArray n (by rw[Aa];lia)) {e,?_};apply{.non,_,I.lset (its':=a.reverse) d e ?_ r.reverse ?_,rfl,q}
 ·simp
 ·rw[GC];lia
end
end L2
namespace Ek
open PySem PySem.Spec PyProof.Rows L2
variable [Tbs]
section
variable {X:Cx} {a:AU} {ta:DT} {pos:Pos}
def cm7{apos}(u:PE X a (up X.K ta))(c:∀i p o,a≠.Call (.Name i p) [] [] o)(b:(apos.endLine==pos.line)=AC):
  PE X (.Call (.Attribute a "reverse" apos) [] [] pos) (up X.K λj n Q=>ta j n λx f=>ab8 x f Q):=
 PE.imp (bn1 PySem.F.plainAttrs_list PySem.F.slot_list_reverse PySem.F.type_list_reverse cv6 u (J5 c) b) λy H Q q=>up1 q λv d A g z s l e t=>by
  cases d<;>first|show AV e|skip
  let{w,m,e}:=e;let{k,h,r}:=l.lst m;rw[s.ref_inv];show{.inl {rfl,k,.inl (.inl h)},_,k,rfl,rfl,h,t _ _ _ (b0 g _ (.lst w.reverse)) (Ev.put m) .non (l.putOld h r.rev) e}
end
end Ek
namespace PySem
open PyProof.Rows
namespace F
def az7:Manifest.owners.lookup (String.ofList ['d','e','s','r','e','v','e','r'].reverse)=AA Manifest.sig_reversed:=by kernel_rfl
def ek_slot_rev_next:Slot "reversed" "__next__" "reversed.__next__":=
 .of (owner:="reversed") (n:="__next__") (by kernel_rfl) (by decide+kernel) (by decide+kernel) (by decide+kernel)
  (by first|show .inl (by decide+kernel)|show .inr (by decide+kernel)) (by kernel_rfl)
def bs9:Slot "reversed" "__init__" "object.__init__":=
 .of (owner:="object") (n:="__init__") (by kernel_rfl) (by decide+kernel) (by decide+kernel) (by decide+kernel)
  (by first|show .inl (by decide+kernel)|show .inr (by decide+kernel)) (by kernel_rfl)
def ek_slot_rev_iter:Slot "reversed" "__iter__" "reversed.__iter__":=
 .of (owner:="reversed") (n:="__iter__") (by kernel_rfl) (by decide+kernel) (by decide+kernel) (by decide+kernel)
  (by first|show .inl (by decide+kernel)|show .inr (by decide+kernel)) (by kernel_rfl)
def ek_entry_rev_next:entryFor table "reversed.__next__"=AA Dh.«reversed.__next__»:=entryFor_of_tree rfl
def ek_entry_rev_iter:entryFor table "reversed.__iter__"=AA Dh.«dict_keyiterator.__iter__»:=
 entryFor_alias (id':="dict_keyiterator.__iter__") (rfl) (rfl) (by decide+kernel) (rfl)
def ek_args_rev_next a:Lh "reversed.__next__" {[a],[]}:=by
 kernel_rfl
def ek_args_rev_iter a:Lh "reversed.__iter__" {[a],[]}:=by
 kernel_rfl
def ek_called_reversed:TypeCalled "reversed" "reversed.__new__" "object.__init__":=
 {rfl,by decide+kernel,⟨_,_,mro_reversed⟩,made_reversed,by decide+kernel,by kernel_rfl,bs9}
def ek_tuple_no_rev:Gj (.type "tuple") "__reversed__"=pure AD:=by kernel_rfl
def ek_sub_tuple_dict:isSubtype (.type "tuple") (.type "dict")=pure AF:=rfl
end F
abbrev ad3(l:AI)(i:Int):Obj:={cls:=.type "reversed",data:=.fields #[.ref l,Dr i]}
def bx8 l(a:Array AG)(c:(a.size:Int)<2^63):
  Ik (Dh.«reversed.__new__» {[.type "reversed",.ref l],[]}) (λ_ R s=>IE s.heap l a/\∀g,R (.ok (.ret (.ref s.heap.objs.size))) {s with heap:=s.heap.push (ad3 l (a.size-1)),toks:=g}):=
 .of_wp λd w A R s h=>by
  let{f,h}:=h;have e:=F.sub_reversed_self;have b:=f.typeIs;wp_walk using Bi b F.ek_tuple_no_rev,FF b F.ek_sub_tuple_dict,Bi b EZ.lookup,len_tuple f c
  show{_,rfl,h _}
variable{l:AI}
abbrev J7(h:Heap)(a l:AI)(i:Int):Prop:=∃o,h.get? a=AA o/\o.cls=.type "reversed"/\o.data=.fields #[.ref l,Dr i]
section
variable {prog:Al} {w:Aw} {A:BW} {E:AG->AL->Prop} {s:AL}
def J7.typeIs{a}{i}(x:J7 s.heap a l i):s.TypeIs (.ref a) "reversed":=let⟨o,b,c,_⟩:=x;⟨o,b,c⟩
def J7.stay{h h'}{a}{i}(x:J7 h a l i)(e:∀o,h.get? a=AA o->h'.get? a=AA o):J7 h' a l i:=let⟨o,b,r⟩:=x;{o,e _ b,r}
def bz9{items}{Q}(d:IE s.heap l items)(a:(items.size:Int)<2^63)
  (h:∀b,Q (.ref s.heap.objs.size) {s with heap:=s.heap.push (ad3 l (items.size-1)),toks:=b}):AW (model prog w) A (call (.type "reversed") [.ref l]) Q E s:=by
 show JH F.ek_called_reversed ∅ (F.typeCall_reversed_1 _) (F.newCall_reversed_1 _) (λc=>JI c _) F.entry_reversed_new (bx8 l items a) {d,λb=>{{_,Aj _ rfl,rfl},h b}}
end
end PySem
namespace PySem
open PyProof.Rows
section
variable {prog:Al} {w:Aw} {A:BW} {E:AG->AL->Prop} {s:AL}
def a00{it l}{i}{Q}(a:J7 s.heap it l i)(h:Q (.ref it) s):AW (model prog w) A (Iw (.ref it)) Q E s:=by
 show KY a.typeIs F.ek_slot_rev_iter (BX F.ek_slot_rev_iter a.typeIs F.ek_entry_rev_iter (AK {_,rfl,"reversed",_,a.typeIs,F.ek_slot_rev_next.lookup,h}) (F.ek_args_rev_iter _))
end
end PySem
namespace L2
open PySem PySem.Spec PyProof.Rows
end L2
namespace Ek
open PySem PySem.Spec PyProof.Rows L2
section
variable [Tbs]
end
section
variable [Tbs]
section
variable {X:Cx} {a b:AU} {ta tb:DT} {pos p:Pos} {K:AO}
def b69 ds es:(L8 ds es).length=min ds.length es.length:=by unfold L8;rw[AX,Je]
def cz6(I:X.calm=AC)(G:Gl X "min")(E:X.mg "min"=AD)(L:PE X a (up X.K ta))(J:PE X b (up X.K tb))(n:∀e p,a≠.Starred e p)(g:∀e p,b≠.Starred e p):
  PE X (.Call (.Name "min" p) [a,b] [] pos) (up X.K λc k Q=>ta c k λx f=>tb c f λy h=>∃i j,x=.int i/\y=.int j/\Q (.int (if j<i then j else i)) h):=
 PE.imp (Z4 (by7 I) G E (rfl) (ad8 L J n g) ∅ ∅ (r9 n) (by rw[r9 g];rfl)) λR H Q q=>by
  let{c,k,P,N,M,C,D}:=q;apply{c,k,(λm f=>match m with|[x,y]=>∃i j,x=.int i/\y=.int j/\P (.int (if j<i then j else i)) f|_=>False),N,M,C,λT m U r O t F s l=>?_}
  match m,F with
  |[d,e],_=>
   let{v,S,rfl,B,A}:=t.inv_cons;let{w,o,rfl,z,u}:=A.inv_cons;rw[u.inv_nil];let{i,j,rfl,rfl,l}:=l;show{i,j,by rw[B.int_inv,z.int_inv],(D.after O).here (.int _) s l}
end
end
end Ek
namespace PySem
variable{a:AI}{h h':Heap}{xs:Array AG}
abbrev Sb(L:List Nat)(h h':Heap):Prop:=∀(c:Nat)o,c∉L->h.get? c=AA o->h'.get? c=AA o
def Sb.of{a:Nat}{g}{L}(e:Heap.SameBut a h h')(f:Sb L h' g):Sb (a::L) h g:=λc o n z=>f c o (λy=>n (.tail _ y)) (e.extBut c o (λy=>n (y▸.head _)) z)
def Sb.r:Sb [] h h:=λ_ _ _ z=>z
def Heap.IsTupleIter.stay{t}{i}(x:h.IsTupleIter a t i)(k:∀o,h.get? a=AA o->h'.get? a=AA o):h'.IsTupleIter a t i:=let⟨o,e,r⟩:=x;{o,k o e,r}
def Heap.IsTuple.stay(x:h.IsTuple a xs)(k:∀o,h.get? a=AA o->h'.get? a=AA o):h'.IsTuple a xs:=let⟨o,e,r⟩:=x;{o,k o e,r}
abbrev Zpo(h:Heap)(z TI TO:AI)(f:AG)(b:Bool):Prop:=h.get? z=AA {cls:=.type "zip",dict:=AD,data:=.fields #[f,.bool b,.bool AF,.ref TI,.ref TO],slots:=#[]}
structure Zw(n l1 l2:Nat)(xs ys:Array AG)(k:Nat)(h:Heap):Prop where
 sz:h.objs.size=n+6+k
 lt:l1<n/\l2<n
 z:∃b,Zpo h (n+4) (n+2) (n+3) (if k=0 then .none else Dr (n+6:Nat)) b
 ti:Ee h (n+2) (.ref n) (.ref (n+1))
 to:∃a b,Ee h (n+3) a b
 i1:h.IsTupleIter n l1 k
 i2:h.IsTupleIter (n+1) l2 k
 t1:h.IsTuple l1 xs
 t2:h.IsTuple l2 ys
 ps:∀j,j<k->∃x y,xs[j]?=AA x/\ys[j]?=AA y/\Ee h (n+6+j) x y
section
variable {prog:Al} {w:Aw} {A:BW} {E:AG->AL->Prop} {s:AL} {n l1 l2:Nat} {ys:Array AG} {k:Nat}
theorem Zw.stay(Z:Zw n l1 l2 xs ys k h)(e:Heap.SameBut (n+5) h h'):Zw n l1 l2 xs ys k h':=by
 have l:=Z.lt;let{b,z}:=Z.z;let{a,c,t}:=Z.to;have u:=e.extBut;apply{e.1.trans Z.sz,l,{b,u _ _ ⋯ z},u _ _ ⋯ Z.ti,{a,c,u _ _ ⋯ t},Z.i1.stay λo=>u _ o ⋯,Z.i2.stay λo=>u _ o ⋯,Z.t1.stay λo=>u _ o ⋯,Z.t2.stay λo=>u _ o ⋯,λj d=>?_};let{x,y,i,g,f}:=Z.ps j d;show{x,y,i,g,u _ _ ⋯ f}
def dk0{Q}(h:Q (s.heap.get? a) s):AW (model prog w) A (loadIfAlive a) Q E s:=λb p _=>h
def ce2{Q:AG->AL->Prop}(hh:A.handled=AD)(Z:Zw n l1 l2 xs ys k s.heap)(he:xs.size=ys.size)
  (qi:∀H,k<xs.size->Zw n l1 l2 xs ys (k+1) H->(∀(c:Nat)o,c<n\/c=n+5->s.heap.get? c=AA o->H.get? c=AA o)->Q (.ref (n+6+k)) {s with heap:=H})
  (qs:∀H e,xs.size<=k->(∀(c:Nat)o,c<n\/n+5<=c->s.heap.get? c=AA o->H.get? c=AA o)->(∃o,H.get? e=AA o/\o.cls=.type "StopIteration")->E (.ref e) {s with heap:=H}) :
  AW (model prog w) A (Dh.«zip.__next__» {[.ref (n+4)],[]}) (λu s'=>∃v,u=.done (.ret v)/\Q v s') E s:=by
 let{sz,{b1,b2},{p,z},ti,{a,b,to},i1,i2,Y,X,ps}:=Z;change AW _ _ (field (.ref (n+4)) 2>>=_) _ _ _;apply AE (BS z rfl (x:=.bool AF) rfl ?_);apply AE (BS z rfl (x:=.ref (n+2)) rfl (AE (Bn ti rfl ?_)));have u:∀{g:Heap}{L:List Nat}(x y:AG)(p:Bool),(∀c∈L,c∈[n,n+1,n+3,n+4])->Sb L s.heap g->xs[k]?=AA x->ys[k]?=AA y->g.objs.size=n+6+k+1->Zpo g (n+4) (n+2) (n+3) (Dr (n+6:Nat)) p->(∃a b,Ee g (n+3) a b)->g.IsTupleIter n l1 (k+1)->g.IsTupleIter (n+1) l2 (k+1)->Ee g (n+6+k) x y->Q (.ref (n+6+k)) {s with heap:=g}:=by
  intro g L x y p hL S d m h1 h2 h3 h4 h5 h6;have S:∀(c:Nat)o,c<n\/n+5<=c\/c=n+2->s.heap.get? c=AA o->g.get? c=AA o:=λc o t=>S c o λz=>by have:=hL c z;simp at this;lia
  apply qi g (Cm.mp d).1 {h1,⟨b1,b2⟩,{p,by simpa using h2},S _ _ ⋯ ti,h3,h4,h5,Y.stay λo=>S _ o ⋯,X.stay λo=>S _ o ⋯,λj a=>?_} λc o t=>S c o ⋯
  by_cases e:j=k
  ·subst e;show⟨x,y,d,m,h6⟩
  ·let{x,y,g1,J,V}:=ps j ⋯;show{x,y,g1,J,S _ _ ⋯ V}
 have B:∀{g:Heap}{L:List Nat}{e:AI},(∀c∈L,c∈[n,n+1,n+3,n+4])->Sb L s.heap g->xs[k]?=AD->(∃o,g.get? e=AA o/\o.cls=.type "StopIteration")->E (.ref e) {s with heap:=g}:=λhL S d=>qs _ _ (Array.getElem?_eq_none_iff.mp d) λc o t=>S c o λz=>by have:=hL c z;simp at this;lia
 have m:∀x,xs[k]?=AA x->∃y,ys[k]?=AA y:=λx d=>{_,Array.getElem?_eq_getElem (by rw[<-he];show(Cm.mp d).1)};cases k with
 |zero=>
  unfold Bq;apply AE (AE (BS z rfl (x:=.none) rfl (AK ?_)));apply AE (Dq (AE (BS z rfl (x:=.ref (n+3)) rfl ?_)));apply AE (DV z ∎ λg1 T i=>?_);apply AE ?_;erw[List.zipIdx_cons,List.zipIdx_nil,KF,Jq];apply AE (AE (wpAny_onRaise ?_));have q:=i1.stay λo=>i.extBut _ o ∎;have K:=Y.stay λo=>i.extBut _ o (BO ⋯);cases d:xs[0]? with
  |none=>
   apply AE (ag4 hh q K d λJ e f v=>?_);let{oe,G,N}:=v;have z2:=f _ _ ∎ T;have nez:e≠n+4:=λv=>by subst v;rw[z2]at G;cases G;simp at N
   show DV z2 ∎ λV _ C=>B (L:=[n+4,n,n+4]) ∎ (Sb.of i λc o t h=>C.extBut _ _ (λy=>t (by simp[y])) (f _ _ (λy=>t (by simp[y])) h)) d {oe,C.extBut _ _ nez G,N}
  |some x=>
   let{y,m}:=m x d;apply AE (Y2 q K d λJ q f=>AK ?_);have p2:Ee J (n+3) a b:=f.extBut _ _ ∎ (i.extBut _ _ ∎ to);apply AE (Bn p2 rfl (AE (Jf p2 λV p3 C=>?_)));apply AE (Jg (AK (AE (AE (wpAny_onRaise ?_)))));change AW _ _ (BM (.ref (n+1))>>=_) _ _ _;have f3:Sb [n+4,n,n+3] s.heap V:=.of i (.of f (.of C .r));apply AE (Y2 (i2.stay λo=>f3 _ o ∎) (X.stay λo=>f3 _ o (by simp;lia)) m λI j2 l=>AK ?_);have p4:Ee I (n+3) x b:=l.extBut _ _ ∎ p3;apply AE (Bn p4 rfl (AE (Jf p4 λO U P=>?_)));replace U:Ee O (n+3) x y:=U;apply AE (Jg (AK (AK ?_)));apply AE (Bn U rfl (AE (Li ?_)));have z5:=P.extBut _ _ ∎ (l.extBut _ _ ∎ (C.extBut _ _ ∎ (f.extBut _ _ ∎ T)));have D:O.objs.size=n+6:=by rw[P.1,l.1,C.1,f.1,i.1,sz]
   have T5:Ee (O.push {cls:=.type "tuple",data:=.seq #[x,y]}) (n+6) x y:=by rw[<-D];show Aj _ rfl
   rw[show(⟨O,s.gens,s.drawn,s.toks,s.os⟩:AL).heap.objs.size=n+6 from D];change AW _ _ (EE (.ref (n+4)) (.ref (n+6))>>=_) _ _ _;apply AE ?_;unfold EE;apply AE (DV (AQ _ z5) ∎ λa z7 e7=>?_);apply DV z7 ∎ λg8 z8 e8=>?_;have W:Sb [n+4,n+4] O g8:=λc o t h=>(Sb.of e7 (.of e8 .r)) c o t (AQ _ h);apply AK {_,rfl,u x y _ (L:=[n+4,n,n+3,n+1,n+3,n+4,n+4]) ∎ (.of i (.of f (.of C (.of l (.of P W))))) d m (by rw[e8.1,e7.1,Cd,D]) z8 {x,y,W _ _ ∎ U} (q.stay λo h=>(Sb.of C (.of l (.of P W))) _ o ∎ h) (j2.stay λo h=>(Sb.of P W) _ o ∎ h) (e8.extBut _ _ ∎ (e7.extBut _ _ ∎ T5))}
 |succ k=>
  let{x0,y0,_,_,p0}:=ps 0 (Nat.succ_pos k);have ow:∀{R:Bool->AL->Prop},(∀g p,Zpo g (n+4) (n+2) (n+3) (Dr (n+6:Nat)) p->Heap.SameBut (n+4) s.heap g->R AF {s with heap:=g})->AW (model prog w) A (Bq (.ref (n+4))) R E s:=λ{R}r=>by
   unfold Bq;apply AE (BS z rfl (x:=Dr (n+6:Nat)) rfl (AE (dk0 ?_)));rw[show s.heap.get? (Int.toNat ((n+6:Nat):Int))=_ from p0];apply AE (BS z rfl (x:=.bool p) rfl ?_);cases p with
   |true=>show AK (r s.heap AC z {rfl,λ_ _=>rfl})
   |false=>show AE (DV z ∎ λg z e=>AK (r g AC z e))
  apply AE (ow λg1 p T i=>?_);apply AE ?_;apply AE (AE (BQ ?_));have q:=i1.stay λo=>i.extBut _ o ∎;have K:=Y.stay λo=>i.extBut _ o (BO ⋯);cases d:xs[k+1]? with
  |none=>show AE (ag4 hh q K d λJ e f v=>B (L:=[n+4,n]) ∎ (Sb.of i λc o t=>f c o (by simpa using t)) d v)
  |some x=>
   let{y,m}:=m x d;apply AE (Y2 q K d λJ q f=>AK (AK ?_));apply AE (AE (BQ ?_));change AW _ _ (BM (.ref (n+1))>>=_) _ _ _;have f2:Sb [n+4,n] s.heap J:=.of i (.of f .r);apply AE (Y2 (i2.stay λo=>f2 _ o ∎) (X.stay λo=>f2 _ o (by simp;lia)) m λI j2 l=>AK (AK (AK ?_)));have F:I.objs.size=n+6+(k+1):=by rw[l.1,f.1,i.1,sz]
   apply AE (Li (hsz:=by change 2<=sizeLine;decide) (AK {_,rfl,?_}));have M:∀{c:Nat}{o},I.get? c=AA o->(I.push {cls:=.type "tuple",data:=.seq #[x,y]}).get? c=AA o:=λh=>AQ _ h;have T5:Ee (I.push {cls:=.type "tuple",data:=.seq #[x,y]}) (n+6+(k+1)) x y:=by rw[<-F];show Aj _ rfl
   have:=u x y p (g:=I.push {cls:=.type "tuple",data:=.seq #[x,y]}) (L:=[n+4,n,n+1]) ∎ (.of i (.of f (.of l λc o _ h=>M h))) d m (by rw[Cd,F]) (M (l.extBut _ _ ∎ (f.extBut _ _ ∎ T))) {a,b,M (l.extBut _ _ ∎ (f2 _ _ ∎ to))} (q.stay λo h=>M (l.extBut _ _ ∎ h)) (j2.stay λo h=>M h) T5;rw[<-F]at this;show this
def Zw.type(Z:Zw n l1 l2 xs ys k s.heap):s.TypeIs (.ref (n+4)) "zip":=let⟨_,z⟩:=Z.z;⟨_,z,rfl⟩
def b21{Q}(h:A.handled=AD)(Z:Zw n l1 l2 xs ys k s.heap)(i:xs.size=ys.size)
  (g:∀d,k<xs.size->Zw n l1 l2 xs ys (k+1) d->(∀c o,c<n\/c=n+5->s.heap.get? c=AA o->d.get? c=AA o)->Q (AA (.ref (n+6+k))) {s with heap:=d})
  (f:∀d,xs.size<=k->(∀c o,c<n\/n+5<=c->s.heap.get? c=AA o->d.get? c=AA o)->Q AD {s with heap:=d}):AW (model prog w) A (FR (.ref (n+4))) Q E s:=by
 apply AE (Gd (Bb Z.type Hb (BX Hb Z.type F.entry_zip_next ?_ (F.args_zip_next_1 _))));show ce2 h Z i (λd a b c=>AK (g d a b c)) λd e a b v=>AE (FF v Lj (AK (f _ a b)))
abbrev zr(n k:Nat):Array AG:=((CZ k).map λj=>At (n+6+j)).toArray
def bf9:(zr n k).size=k:=by simp[zr]
def cc6:zr n (k+1)=(zr n k).push (.ref (n+6+k)):=by simp[zr,List.range_succ]
theorem bg6{res}{R}(p:A.handled=AD)(q:xs.size=ys.size)(z:xs.size<=1000000):
  ∀(m k:Nat)(s:AL)(c:Nat),xs.size-k<m->k<=xs.size->Zw n l1 l2 xs ys k s.heap->s.heap.get? (n+5)=AA {cls:=.type "list",dict:=AD,data:=.seq (zr n k) c,slots:=#[]} ->
  (∀b i,(∀(c:Nat)o,c<n->s.heap.get? c=AA o->b.get? c=AA o)->b.get? (n+5)=AA {cls:=.type "list",dict:=AD,data:=.seq (zr n xs.size) i,slots:=#[]}->(∀j,j<xs.size->∃x y,xs[j]?=AA x/\ys[j]?=AA y/\Ee b (n+6+j) x y)->R (.ok (.ret res)) {s with heap:=b}) ->
  EL (model prog w) A (.builtin "list.extend.loop" {[.ref (n+5),.ref (n+4),res],[]}) R s
 |0,_,_,_,l,_,_,_,_=>absurd l (Nat.not_lt_zero _)
 |m+1,k,s,c,l,B,Z,r,t=>by
  apply codeAny_builtin F.entry_extend_loop ?_;apply AE (b21 p Z q (λg v I a=>?_) λg D a=>?_)
  ·have d:=a _ _ (.inr rfl) r;have e:=Heap.SameBut.update g (n+5) (Bt (·.push (.ref (n+6+k))));apply AE (EH d rfl (AK {plainId_quiet GD _,bg6 p q z m (k+1) {s with heap:=_} _ ⋯ v (I.stay e) ((CL _ d rfl).trans (by rw[cc6];rfl)) λb i u=>t b i λc o f h=>u c o f (e.extBut _ _ (BO ⋯) (a c o (.inl f) h))}) (by rw[bf9,Hg];lia) (by rw[Array.size_push,bf9,Hg];lia))
  ·have:k=xs.size:=Nat.le_antisymm B D;subst this;apply AK (t g c (λc o f=>a c o (.inl f)) (a _ _ (.inr (AR _)) r) λj C=>?_);let{x,y,H,G,E}:=Z.ps j C;show{x,y,H,G,a _ _ (.inr ⋯) E}
def zpL:Gj (.type "zip") "__len__"=pure AD:=by kernel_rfl
def zpH:Gj (.type "zip") "__length_hint__"=pure AD:=by kernel_rfl
def bz0{Q:AG->AL->Prop}(C:A.handled=AD)(D:xs.size=ys.size)(z:xs.size<=1000000)(l:s.heap.objs.size=n+5)
  (Z:∀h:Heap,h.objs.size=n+6->(∀c o,s.heap.get? c=AA o->h.get? c=AA o)->Zw n l1 l2 xs ys 0 h)
  (H:∀e p,(∀(c:Nat)o,c<n->s.heap.get? c=AA o->e.get? c=AA o)->e.get? (n+5)=AA {cls:=.type "list",dict:=AD,data:=.seq (zr n xs.size) p,slots:=#[]}->(∀j,j<xs.size->∃x y,xs[j]?=AA x/\ys[j]?=AA y/\Ee e (n+6+j) x y)->Q (.ref (n+5)) {s with heap:=e}) :
  AW (model prog w) A (call (.type "list") [.ref (n+4)]) Q E s:=by
 apply callType_codes (Q₁:=λf u=>f=.ref (n+5)/\u={s with heap:=s.heap.push {cls:=.type "list",data:=.seq #[]}}) F.called_list (F.typeCall_list_1 _) F.entry_list_init (code_list_new _ {by rw[l],rfl}) λf u B=>?_;let{rfl,rfl}:=B;have i:(s.heap.push {cls:=.type "list",data:=.seq #[]}).get? (n+5)=AA {cls:=.type "list",data:=.seq #[]}:=by rw[<-l];show Aj _ rfl
 have Z:=Z (s.heap.push {cls:=.type "list",data:=.seq #[]}) (by rw[Cd,l]) λc o h=>AQ _ h;apply{⟨_,i,rfl⟩,F.args_list_init_2 _ _,?_};apply AE ?_;apply AE (Bn i rfl (AK ?_));apply AE (EH i rfl (AE (Jg ?_)));have k:=CL (Bt (λ_=>(#[]:Array AG))) i rfl;have m:=Heap.SameBut.update (s.heap.push {cls:=.type "list",data:=.seq #[]}) (n+5) (Bt (λ_=>(#[]:Array AG)));have Z:=Z.stay m;generalize(s.heap.push {cls:=.type "list",data:=.seq #[]}).update (n+5) (Bt (λ_=>(#[]:Array AG)))=g at k m Z ⊢;have d:=Zw.type (s:={s with heap:=g}) Z;apply AE (FU d ?_);have K:GM (.ref (n+5)) (.ref (n+4))=AF:=by simp[GM]
 have J:(CY "zip"==CY "list")=AF:=by decide
 have I:(CY "zip"==CY "tuple")=AF:=by decide
 erw[K,J,I,Hj,BN,if_false];apply AE (KY d KZ (BX KZ d F.entry_zip_iter (AK {_,rfl,"zip",_,d,Hb.lookup,AE (BQ ?_)}) (F.args_zip_iter_1 _)));apply AE (Bi d zpL ?_);apply AE (Bi d zpH (AK ?_));apply AE (Dq (AE ?_));apply AE (EH k rfl ?_);have q:=CL (Bt (·.push Bd)) k rfl;have v:=Heap.SameBut.update g (n+5) (Bt (·.push Bd));apply EH (hz:=by seq_fits) q rfl ?_;have t:=Heap.SameBut.update (g.update (n+5) (Bt (·.push Bd))) (n+5) (Bt (·.pop));apply AK {plainId_quiet GD _,bg6 (A:=A.in1) C D z _ 0 {s with heap:=_} _ (Gz _) (Av _) ((Z.stay v).stay t) (CL (Bt (·.pop)) q rfl) λe p u=>?_};show λa b=>{rfl,H e p (λc o G h=>u c o G (Sb.of m (.of v (.of t .r)) c o (by simp;lia) (AQ _ h))) a b}
end
def psz{m}{o}(e:h.objs.size=m)(a:o.isFreed=AF):(h.push o).get? m=AA o:=e▸Aj h a
def by0(n b f:Nat)(m j:Array AG):
  Ik (Dh.«zip.__new__» {[.type "zip",.ref b,.ref f],[]}) (λ_ R s=>s.heap.objs.size=n/\s.heap.IsTuple b m/\s.heap.IsTuple f j/\∀g:Heap,g.objs.size=n+5->(∀c o,s.heap.get? c=AA o->g.get? c=AA o)->(∀h:Heap,h.objs.size=n+6->(∀c o,g.get? c=AA o->h.get? c=AA o)->Zw n b f m j 0 h)->Jd {s with heap:=g} (.ref (n+4)) "zip"->R (.ok (.ret (.ref (n+4)))) {s with heap:=g}):=
 .of_wp λD w A R s h=>by
  let{a,g,d,C,E}:=s;let{e,B,z,h}:=h;have G:=sub_zip;have K:Heap.IsTuple (Hz ⟨a,g,d,C,E⟩) b m:=B;have J:Heap.IsTuple (Hz {a.push {cls:=.type "tuple_iterator",data:=.fields #[.ref b,.int 0 0]},g,d,C,E}) f j:=Heap.IsTuple.stay z λo e=>AQ _ e
  wp_walk using Ci K,Ci J
  have y:∀o,(a.push o).objs.size=n+1:=λo=>by rw[Cd,e]
  have v:∀o p,((a.push o).push p).objs.size=n+2:=λo p=>by rw[Cd,y]
  have t:∀o p q,(((a.push o).push p).push q).objs.size=n+3:=λo p q=>by rw[Cd,v]
  have i:∀o p q r,((((a.push o).push p).push q).push r).objs.size=n+4:=λo p q r=>by rw[Cd,t]
  erw[e,y,v,t,i];have F:∀{l:Nat}{H},a.IsTuple l H->l<n:=λ⟨o,h,_⟩=>e▸BC h;have u:∀{h:Heap}{c:Nat}{o p},h.get? c=AA o->(h.push p).get? c=AA o:=λx=>AQ _ x;apply{_,rfl,h _ (by rw[Cd,i]) (λc o x=>u (u (u (u (u x))))) (λh I k=>{I,{F B,F z},{AF,k _ _ (psz (i ..) rfl)},k _ _ (u (u (psz (v ..) rfl))),{_,_,k _ _ (u (psz (t ..) rfl))},{_,k _ _ (u (u (u (u (psz e rfl))))),rfl,rfl},{_,k _ _ (u (u (u (psz (y _) rfl)))),rfl,rfl},B.stay λo x=>k _ o (u (u (u (u (u x))))),z.stay λo x=>k _ o (u (u (u (u (u x))))),nofun}) {_,psz (i ..) rfl,rfl}}
def bz4{prog}{w}{A}{E}{s}{n l1 l2}{ys}{Q}(b:s.heap.objs.size=n)(k:s.heap.IsTuple l1 xs)(j:s.heap.IsTuple l2 ys)
  (q:∀g,g.objs.size=n+5->(∀c o,s.heap.get? c=AA o->g.get? c=AA o)->(∀h,h.objs.size=n+6->(∀c o,g.get? c=AA o->h.get? c=AA o)->Zw n l1 l2 xs ys 0 h)->Q (.ref (n+4)) {s with heap:=g}) :
  AW (model prog w) A (call (.type "zip") [.ref l1,.ref l2]) Q E s:=
 JH F.called_zip ∅ (F.typeCall_zip_2 _ _) (F.newCall_zip_2 _ _) (λa=>F.args_object_init_3 a _ _) F.entry_zip_new (by0 n l1 l2 xs ys) {b,k,j,λg i f e d=>{d,q g i f e}}
end PySem
namespace Ek
open PySem PySem.Spec PyProof.Rows L2
variable [Tbs]
section
variable {X:Cx} {a b:AU} {ta tb:DT} {pos p:Pos} {K:AO}
theorem bl1{a:List (AI×Obj)}{r:L2.St}{s:AL}{h:Sto}{d g:List V}{C B:List AG}{H:Hp}{m:Nat}(I:Inv X a r H s)(A:RelS X.K h H)(w:i7 d C)(t:i7 g B)(E:∀T:Nat,m<=T->D5 X a H T)(D:∀(j:Nat)x y,C[j]?=AA x->B[j]?=AA y->Ee s.heap (m+j) x y):
  ∀k,k<=d.length->k<=g.length->∃c,Inv X a r c s/\Ev h H h c/\RelS X.K h c/\(∀(j:Nat)v u,j<k->d[j]?=AA v->g[j]?=AA u->c (m+j)=AA (.tup [v,u]))/\∀T:Nat,T<m\/m+k<=T->c T=H T
 |0,_,_=>{H,I,Ev.refl,A,nofun,λ_ _=>rfl}
 |k+1,o,n=>by
  let{c,J,P,l,L,b}:=bl1 I A w t E D k (JT o) (JT n);let{x,O,G}:=w.get (AH o);let{y,N,F}:=t.get (AH n);let{M,f}:=E (m+k) (HL _ _);have i:c (m+k)=AD:=(b _ (.inr (AR _))).trans M;apply{upd c (m+k) (.tup [d[k],g[k]]),J.track ⟨i,f⟩ {by change 2<=sizeLine;decide,[x,y],.cons G (.cons F .nil),{_,D k x y O N,rfl,rfl,_,rfl}},P.trans (Ev.new i),l.new i,λj v u Q q p=>?_,λT i=>?_}
  ·by_cases e:j=k
   ·subst e;rw[AH o]at q;rw[AH n]at p;cases q;cases p;show v0
   ·rw[l5 λz=>e (Nat.add_left_cancel z)];show L j v u ⋯ q p
  ·rw[l5 λz=>by subst z;lia];show b T ⋯
def cy8{p2 r:Pos}(hc:X.calm=AC)(hg:Gl X "list")(hm:X.mg "list"=AD)(hg2:Gl X "zip")(hm2:X.mg "zip"=AD)(ha:PE X a (up X.K ta))(hb:PE X b (up X.K tb))(hs:∀e p,a≠.Starred e p)(S:∀e p,b≠.Starred e p):
  PE X (.Call (.Name "list" p) [.Call (.Name "zip" p2) [a,b] [] r] [] pos) (up X.K λn a Q=>ta n a λx g=>tb n g λy G=>∃f h,x=.tup f/\y=.tup h/\f.length=h.length/\f.length<=1000000/\∀p,G p=AD->Q (.ref p) (b0 G p (.lst (L8 f h)))):=by
 intro t s σ H Q I q;let{n,st,Qd,hE,hS,ht,hq}:=q;have R:Am [b] X.env=[(AF,eval b X.env)]:=by rw[r9 S];rfl
 have hst:Am [a,b] X.env=(AF,eval a X.env)::Am [b] X.env:=by rw[r9 hs]
 apply JV (M4 I hg hm an9 (BH (Q:=_) (DF ?_) rfl rfl));apply JV (M4 I hg2 hm2 L2.b96 (BH (thn (ad8 ha hb hs S r t s σ H (λF D=>∃v w f h g,F=[v,w]/\Ev st H g D/\IsD X.K D (.tup f) v/\IsD X.K D (.tup h) w/\RelS X.K g D/\f.length=h.length/\f.length<=1000000/\∀p,g p=AD->Qd (.ref p) (b0 g p (.lst (L8 f h)))) I
  {n,st,(λa g=>match a with|[x,y]=>∃f h,x=.tup f/\y=.tup h/\f.length=h.length/\f.length<=1000000/\∀p,g p=AD->Qd (.ref p) (b0 g p (.lst (L8 f h)))|_=>False),hE,hS,ht,λF ds b st' ev is hl rs N=>?_}) λa A hh=>?_) hst (by rw[R];rfl)))
 ·match ds,hl with
  |[d,e],_=>
   let{v,ws,rfl,i1,i2}:=is.inv_cons;let{w,ws',rfl,i3,i4}:=i2.inv_cons;rw[i4.inv_nil];let{f,h,rfl,rfl,N}:=N;show⟨v,w,f,h,st',rfl,ev,i1,i3,rs,N⟩
 let{F,D,C,r1,v,w,f,h,g,e,ev,is,is2,rs,he,U,N}:=hh;subst e;let{u,u2,rfl,ru,ru2}:=r1.two;let{l1,F,rfl,q1s,k}:=is.tup_inv;let{l2,ws,rfl,q2s,i}:=is2.tup_inv;cases ru;cases ru2;let{P,rv,L1,_}:=C.tuple q1s;let{O,M,L2,_}:=C.tuple q2s;have n1:P.toArray.size=f.length:=by rw[Aa,<-rv.length,k.len]
 have n2:O.toArray.size=h.length:=by rw[Aa,<-M.length,i.len]
 apply bz4 rfl L1 L2 λa b kk Z=>EK (bz0 (s:={A with heap:=a}) (C.ok.hd hc) (by rw[n1,n2,he]) (by rw[n1];show U) b Z λh2 c up hS2 ps=>?_);rw[n1]at hS2 ps;have I3:Inv X t σ D {A with heap:=h2}:=C.kept (t':=A.toks) λc o e=>up c o (BC e) (kk c o e);have fp:∀(T:Nat),A.heap.objs.size<=T->D T=AD:=λT hT=>C.hok.fresh hT;let{H2,J,ev2,rs2,hk,L}:=bl1 (m:=A.heap.objs.size+6) I3 rs rv M (λT hT=>C.fpOk ⋯ (fp T ⋯)) (λj x y E z=>by
  let{x',y',g1,g2,g3}:=ps j (by rw[<-n1];show(Cm.mp (by simpa using E)).1);rw[show P[j]?=AA x' by simpa using g1]at E;rw[show O[j]?=AA y' by simpa using g2]at z;cases E;cases z;show g3) f.length (by rw[<-k.len];show AR _) (by rw[<-i.len,he];show AR _)
 have h5:H2 (A.heap.objs.size+5)=AD:=(L _ (.inl ⋯)).trans (fp _ ⋯);have tk:=ev2.tk rs;apply{.ref _,_,J.track (C.fpOk ⋯ h5) (show t4 X.prog X.w _ h2 _ (.lst ((CZ f.length).map λj=>V.ref (A.heap.objs.size+6+j))) from{by rw[AX,GN];show Ap U ∅,_,c,?_,hS2}),rfl,((hq.after ev).after ev2).newL rs2 {?_,λj d v E z=>?_} N _ h5}
 ·induction CZ f.length with
  |nil=>show .nil
  |cons j l ih=>show .cons rfl ih
 ·rw[AX,GN,b69,<-he,Nat.min_self]
 ·rw[AY]at z
  by_cases B:j<f.length
  ·rw[List.getElem?_range B]at z;cases z;have Y:j<F.length:=by rw[<-k.len];show B
   have W:j<ws.length:=by rw[<-i.len,<-he];show B
   rw[show(L8 f h)[j]?=AA (.tup [f[j],h[j]'⋯]) by rw[L8,AY,List.zip,List.getElem?_zipWith_eq_some.mpr {_,_,AH B,AH (he▸B),rfl}];rfl]at E;cases E;show .mk (.of (hk j _ _ B (AH Y) (AH W))) (.cons ((k.at' j _ _ (AH B) (AH Y)).mono tk) (.cons ((i.at' j _ _ (AH _) (AH W)).mono tk) .nil))
  ·rw[Be (by rw[GN];lia)]at z;cases z
end
end Ek
namespace PySem
open PyProof.Rows
section
variable {prog:Al} {w:Aw} {A:BW} {E:AG->AL->Prop} {s:AL}
def bt0{it l}{i:Nat}{items}{x}{Q}(a:J7 s.heap it l i)(f:IE s.heap l items)(e:items[i]?=AA x)(g:(items.size:Int)<2^63)
  (k:∀d h,J7 d it l (i-1)->Heap.SameBut it s.heap d->Q (AA x) {s with heap:=d,toks:=h}):AW (model prog w) A (FR (.ref it)) Q E s:=by
 let{o,c,j,b}:=id a;have m:=(Cm.mp e).1;apply AE (Gd (Bb a.typeIs F.ek_slot_rev_next
  (BX F.ek_slot_rev_next a.typeIs F.ek_entry_rev_next ?_ (F.ek_args_rev_next _))))
 apply AE (Hm rfl ?_)
 apply AE (BS c b (x:=.ref l) rfl ?_);apply AE (BS c b rfl ?_);change AW _ _ (if(i:Int)<0 then _ else _) _ _ s;apply AE (Bi f.typeIs EZ.lookup ?_);apply AE (wpAny_mkInt ?_);apply AE (Gd (getItem_tuple f ⋯ ⋯ ?_ e ?_))
 ·unfold Ij;simp;lia
 apply AE (BS c b rfl ?_);apply AE (Eb c b ∎ ?_);show AK {x,rfl,AK (k _ _ {_,CL _ c (FJ (Cf b _)),(JS ..).trans j,by
  rw[Cf b];simp} (Heap.SameBut.update ..))}
def bt3{it l}{Q}(g:A.handled=AD)(c:J7 s.heap it l (-1))
  (h:∀f,Heap.ExtBut it s.heap f->Q AD {s with heap:=f}):AW (model prog w) A (FR (.ref it)) Q E s:=by
 let{o,e,i,d}:=id c;apply AE (Gd (Bb (name:=Ac "__next__") c.typeIs F.ek_slot_rev_next
  (BX F.ek_slot_rev_next c.typeIs F.ek_entry_rev_next ?_ (F.ek_args_rev_next _))))
 apply AE (Hm (a:=(At it,[])) rfl ?_)
 apply AE (BS e d (x:=.ref l) rfl ?_);apply AE (BS e d (x:=Dr (-1)) rfl ?_);change AW _ _ (if(-1:Int)<0 then _ else _) _ _ s;apply AE (Dq ?_);apply AE (AE (Eb e d ∎ ?_));apply Eb (CL _ e (FJ (Cf d _))) (Cf d _) ∎ ?_;apply AE ?_;apply AE ?_;apply AE (m:=GB _ _) (Hm (a:=Bd) (by first|rfl|(rfl)) ?_);apply Ba ?_ (by size_fits);apply AE (wpAny_handled ?_)
 first|grind|rw[g]
 apply AE (AK (wpAny_throw ?_));apply AE (FF (T:="StopIteration") (b:=AC) {_,Aj _ rfl,rfl} Lj ?_);show AK (h _ ((((Heap.SameBut.update ..).extBut.trans (Heap.SameBut.update ..).extBut).push _).push _))
end
end PySem
namespace L2
open PySem PySem.Spec PyProof.Rows
abbrev Itw(K:AO)(a:AI)(n:Nat):It:=
 {λi H=>(∃xs,SqT K H a xs/\xs.length=n)/\i<n,λi H x H'=>H'=H/\∀xs,SqT K H a xs->xs[n-1-i]?=AA x,λi H=>(∃xs,SqT K H a xs/\xs.length=n)/\i=n}
def b05{P:Al}{w:Aw}{K:AO}{U:AU}(a l:AI)(n:Nat):Turn P w K U (Itw K a n) [l] l (λi h=>J7 h l a ((n:Int)-1-(i:Int))) where
 mem:=by simp
 obj:=λi h f b m=>by
  let{o,e,c,d}:=f;rw[show b=l by simpa using m];show{o,e,λv z=>by rw[d]at z;cases z}
 keep:=λi h t f k=>f.stay λo e=>k l ∎ o e
 item:=by
  intro X S O T R i g s L H E I r f B;subst S O T;let{{p,Q,hn},hi}:=B;subst hn;let{A,M,Y,hz}:=I.tuple Q;obtain⟨x,N⟩:∃x,p[p.length-1-i]?=AA x:={_,AH ⋯};let{u,hu,W}:=M.get N;let{J,G,f2,F,D,C}:=r l ∎;have q:(A.toArray.size:Int)<2^63:=by
   rw[Aa,<-M.length];have hsl:sizeLine<2^62:=by decide+kernel
   lia
  rw[show(p.length:Int)-1-(i:Int)=((p.length-1-i:Nat):Int) by lia]at f;apply bt0 f Y (x:=u) (by simpa using hu) q λt y j V=>?_;have I1:Inv X g L H {s with heap:=t,toks:=y}:=I.turned (t':=y) (λb o m e=>(V.2 b m).trans e) J G F D C;let{o,e',c,d}:=id j;rw[show((p.length-1-i:Nat):Int)-1=(p.length:Int)-1-((i+1:Nat):Int) by lia]at j;show{u,rfl,ab3 (s:={s with heap:=t,toks:=y}) e' c d ∅ {x,H,I1,W,{rfl,λa Z=>by rw[I.tuple_inj Z Q];show N},j,λb m=>(r b m).1}}
 done:=by
  intro X S O T R i g s L H E I r f B;let{J,G,f2,F,D,C}:=r l ∎;rw[show(n:Int)-1-(i:Int)=-1 by have:=B.2;lia]at f;show bt3 (I.ok.hd R) f λt a=>{rfl,I.turned (t':=s.toks) (λb o m e=>a b o m e) J G F D C}
 self:=λ_ _ _ _ _ f h=>a00 f h
end L2
namespace Ek
open PySem PySem.Spec PyProof.Rows L2
variable [Tbs]
section
variable {K:AO}
def cg4{q}{c:List D}{b:List V}{H1}(f:SqT K H1 q b)(r:IsDs K H1 c b):ItOk K H1 (Itw K q c.length) c.reverse (λ_=>True) where
 go:=λi h H a e _ k=>{{b,a.1.1 _ _ f,r.len.symm},by simp_all}
 yld:=λi h H x m a e _ k y=>by
  let{rfl,y}:=y;have g:i<c.length:=by simp_all
  let{d,l,j}:=r.get' (y b (a.1.1 _ _ f));show{d,Ex g▸l,j.mono a,Ev.refl,e}
 stop:=λh H a e _=>{{b,a.1.1 _ _ f,r.len.symm},∎}
end
section
variable {X:Cx} {a tg:AU} {ta:DT} {pos p:Pos}
def ci0(hg:Gl X "reversed")(Z:X.mg "reversed"=AD)(ha:PE X a (up X.K ta))(M:∀e p,a≠.Starred e p):
  PI X tg (.Call (.Name "reversed" p) [a] [] pos) (upI X.K λj A k=>ta j A λd c=>∃f,d=.tup f/\k f.reverse (λ_=>True) c):=by
 have F:Am [a] X.env=[(AF,eval a X.env)]:=by rw[r9 M];rfl
 intro t s N H R I q;let{j,A,L,hE,hS,V,Y}:=q;apply JV (M4 I hg Z L2.az5 (BH (thn (Q4 ha M pos t s N H (λg m=>∃v f c,g=[v]/\Ev A H c m/\IsD X.K m (.tup f) v/\RelS X.K c m/\L f.reverse (λ_=>True) c) I
  {j,A,(λf c=>match f with|[d]=>∃f,d=.tup f/\L f.reverse (λ_=>True) c|_=>False),hE,hS,V,λg f a C G E hl D n=>?_}) λa i hh=>?_) F rfl))
 ·match f,hl with
  |[d],_=>
   let{v,ws,rfl,U,T}:=E.inv_cons;rw[T.inv_nil];let{f,rfl,n}:=n;show⟨v,f,C,rfl,G,U,D,n⟩
 let{g,m,B,Q,v,f,c,e1,G,E,D,n}:=hh;subst e1;let{u,rfl,P}:=Q.one;let{l,g,rfl,x,r}:=E.tup_inv;cases P;let{w,O,S,hz}:=B.tuple x;have h:w.toArray.size=g.length:=by rw[Aa,<-O.length]
 have z:(w.toArray.size:Int)<2^63:=by
  rw[h];have W:sizeLine<2^62:=by decide+kernel
  lia
 apply bz9 S z λJ=>?_;rw[h];have y:J7 (i.heap.push (ad3 l ((g.length:Int)-1))) i.heap.objs.size l ((g.length:Int)-1-((0:Nat):Int)):={_,Aj _ rfl,rfl,by rw[show(g.length:Int)-1-((0:Nat):Int)=(g.length:Int)-1 by lia];rfl};apply a00 (s:={i with heap:=i.heap.push (ad3 l ((g.length:Int)-1)),toks:=J}) y ?_;apply{i.heap.objs.size,[i.heap.objs.size],_,_,m,rfl,B.kept (t':=J) λb o e=>AQ _ e,b05 l _ g.length,y,λb hb=>?_,?_}
 ·rw[show b=i.heap.objs.size by simpa using hb];show B.fpOk (AR _) (B.hok.fresh (AR _))
 ·rw[<-r.len];show Y _ _ c m _ G D (cg4 x r) n
end
end Ek
namespace PySem
end PySem
namespace Ek
open PySem PySem.Spec PyProof.Rows L2
section
variable [Tbs]
end
section
variable [Tbs]
variable{x:List BR}{H:Hp}{pos':Pos}
section
variable {X:Cx} {a b c:AU} {ta tb tc:DT} {pos p:Pos} {K:AO}
abbrev upG(K:AO)(t:Tg):TG:=λv σ H Q=>∃d env k,IsD K H d v/\RelE K H env σ/\G4 t d env k/\∀env' σ',RelE K H env' σ'->k env'->Q σ' H
def _root_.L2.PG.imp{X}{x}{t t'}(h:PG X x t)(i:∀v a H Q,t' v a H Q->t v a H Q):PG X x t':=λb s a H v u Q I r q=>h b s a H v u Q I r (i v a H Q q)
def cd2{i}{x}(h:X.N.Nodup)(f:X.N[i]?=AA x)(b:Loc X.env.scope x)(g:X.fn x=AC\/X.env.scope.names.lookup x=AA .local):PG X (.Name x pos) (upG X.K (.n i)):=
 PG.imp (bf4 h f b g) λv m H Q q=>by
  let{d,l,k,a,j,c,e}:=q;show e _ _ (j.set a i) c
abbrev X8:List Nat->TGs
 |[]=>bq9
 |i::is=>bp5 (av1 i) (X8 is)
theorem at2{K}{Q}{k:l7->Prop}:∀f(g)e(a)c,g.length=f.length->IsDs K H g e->RelE K H a c->k (C8 a f g)->(∀b h,RelE K H b h->k b->Q h H)->X8 f e c H Q
 |[],[],e,a,c,_,r,n,l,m=>{r.inv_nil,m _ _ n l}
 |i::f,d::g,e,a,c,j,r,n,l,m=>by
  let{v,o,rfl,q,p}:=r.inv_cons;show{v,o,rfl,at2 f g o _ _ (by simpa using j) p (n.set q i) l m}
 |[],d::g,e,a,c,j,_,_,_,_=>by simp at j
 |i::f,[],e,a,c,j,_,_,_,_=>by simp at j
def c30{b:List AU}{k0}{a:List Nat}(p:X.calm=AC)(h:PGs X b (X8 a))(o:(Bg b X.env).length=a.length)(c:(Bg b X.env).findIdx? (·.1)=AD):PG X (.Tuple b k0 pos) (upG X.K (.tup a)):=
 PG.imp (cv7 p h o c) λv j H Q q=>by
  let{d,f,k,l,s,{t,rfl,i,m},n}:=q;let{q,g,rfl,e,r}:=l.tup_inv;show{q,g,rfl,e,r.len▸i,at2 a t g f j i r s m n}
structure EndsR(K:AO)(st:Sto)(H:Hp)(Fd:DEnds)(F:Ends):Prop where
 nx:∀env σ H' st',Ev st H st' H'->RelE K H' env σ->RelS K st' H'->Fd.nx env st'->F.nx σ H'
 bk:∀env σ H' st',Ev st H st' H'->RelE K H' env σ->RelS K st' H'->Fd.bk env st'->F.bk σ H'
 ct:∀env σ H' st',Ev st H st' H'->RelE K H' env σ->RelS K st' H'->Fd.ct env st'->F.ct σ H'
 rt:z6 K st H Fd.rt F.rt
theorem EndsR.after{st st1}{H1}{Fd}{F}(e:EndsR K st H Fd F)(g:Ev st H st1 H1):EndsR K st1 H1 Fd F:=
 {λc d f a b=>e.nx c d f a (g.trans b),λc d f a b=>e.bk c d f a (g.trans b),λc d f a b=>e.ct c d f a (g.trans b),e.rt.after g}
abbrev upS(K:AO)(t:DS):TS:=λF σ H=>∃env st Fd,RelE K H env σ/\RelS K st H/\t Fd env st/\EndsR K st H Fd F
variable {t u:DS} {s1:BR} {l6:List BR}
def cv0:PSs X [] (upS X.K λF a b=>F.nx a b):=PSs.imp cd4 λF c H⟨a,b,h,g,f,d,e⟩=>e.nx a c H b Ev.refl g f d
def ch7(n:PS X s1 (upS X.K t))(m:PSs X l6 (upS X.K u)):PSs X (s1::l6) (upS X.K λF a e=>t {F with nx:=u F} a e):=
 PSs.imp (b87 n m) λF p H⟨a,e,h,l,k,j,c⟩=>{a,e,{h with nx:=u h},l,k,j,λb i r d o g f q=>{b,d,h,g,f,q,c.after o},c.bk,c.ct,c.rt}
def at7{i}{x}(s:X.N.Nodup)(p:X.N[i]?=AA x)(l:Loc X.env.scope x)(r:PE X a (up X.K ta))(n:Cc a (AA (.Name x pos')) pos.line X.env=pure AF)(q:X.fn x=AC\/X.env.scope.names.lookup x=AA .local):
  PS X (.Assign [.Name x pos'] a pos) (upS X.K λF b f=>ta b f λd c=>F.nx (b.set i (AA d)) c):=
 PS.imp (co4 s p l r n q) λF u H⟨b,f,w,h,g,m,o⟩=>{b,f,_,h,g,m,λv d t e j k=>o.nx _ _ t e j ((h.mono (j.tk g)).set k i)}
def c22{tg}{e:List Nat}(u:PE X a (up X.K ta))(t:PG X tg (upG X.K (.tup e)))(r:Dt [tg] a pos.line X.env=pure AF)(o:Gb [tg] a X.env=pure AD)(w:(Bg [tg] X.env).map (·.2)=[assign tg X.env]):
  PS X (.Assign [tg] a pos) (upS X.K λF b h=>ta b h λd f=>G4 (.tup e) d b λc=>F.nx c f):=
 PS.imp (at0 u t r o w) λF y H⟨b,h,z,k,j,p,s⟩=>{b,h,_,k,j,p,λv d x g l e n q=>{d,b,_,e,k.mono (l.tk j),q,λc m i=>s.nx _ _ x g l i n}}
def cy2{o i v}{to ti tv}(S:PE X v (up X.K tv))(W:PE X o (up X.K to))(Z:PE X i (up X.K ti))
  (u:∀w,assign (.Subscript o i pos') X.env w=do
   let s <-holding [w] (eval o X.env)
   let z <-holding [w,s] (eval i X.env)
   Hs pos'
   holding [w,s,z] (KN s z w)
   release [w,s,z] []) (U:Dt [.Subscript o i pos'] v pos.line X.env=pure AF) (R:Gb [.Subscript o i pos'] v X.env=pure AD) :
  PS X (.Assign [.Subscript o i pos'] v pos) (upS X.K λF b D=>tv b D λd n=>to b n λx m=>ti b m λy l=>∃a j k C,x=.ref a/\y=.int j/\l a=AA (.lst C)/\ixN C.length j=AA k/\F.nx b (b0 l a (.lst (C.set k d)))):=
 PS.imp (at0 S (cr2 W Z b97 u) U R rfl) λF N H⟨b,D,a,B,A,T,V⟩=>{b,D,_,B,A,T,λw d a n h J e Q=>
  {b,n,_,B.mono (h.tk A),e,Q,λs x a m g I c P=>⟨b,m,_,(B.mono (h.tk A)).mono (g.tk e),c,P,λz y a l f G p E=>by
   let{q,j,k,C,rfl,rfl,M,Y,E}:=E;let{O,L,r}:=p.lst M;have t:=(J.mono (g.tk e)).mono (f.tk c);show {q,O,j,k,(I.mono (f.tk c)).ref_inv,G.int_inv,L,by rw[<-r.len];show Y,V.nx b N _ _ (((h.trans g).trans f).trans (Ev.put M)) ((((B.mono (h.tk A)).mono (g.tk e)).mono (f.tk c)).mono (TK.put L)) (p.putOld L (r.set t k)) E}⟩}}
def ch6{o v}{to tv}{f}{C:Str->List Str}(V:∀c b,BB X.K AN c=AA (AA (.ref b))->f∈C c->Cls X.K b/\M6 X.K b f)(N:PE X v (up X.K tv))(R:PE X o (up X.K to))(P:Cc v (AA (.Attribute o f pos')) pos.line X.env=pure AF):
  PS X (.Assign [.Attribute o f pos'] v pos) (upS X.K λF a n=>tv a n λd g=>to a g λx e=>∃p c l,x=.ref p/\e p=AA (.ins c l)/\f∈C c/\l.length<1000/\F.nx a (b0 e p (.ins c (o8 f d l)))):=
 PS.imp (c01 R N P) λF I H q=>by
  let{a,n,Fd,A,z,O,Q}:=q;apply{a,n,_,A,z,O,λw d c g B M s L=>?_};apply{a,g,_,A.mono (B.tk z),s,L,λy x Z e h t i J=>?_};let{p,c,l,rfl,j,U,T,S}:=J;let{b,D,E,G,k,r}:=i.ins j;let{Y,W}:=V c b k U;have u:=M.mono (h.tk s);have m:=TK.putI (K:=X.K) (o:=.ins b D (C7 f w E)) G;apply{p,b,D,E,t.ref_inv,G,Y,W,r.length▸T,?_};apply Q.nx a I _ _ ((B.trans h).trans (Ev.put j)) (((A.mono (B.tk z)).mono (h.tk s)).mono m) (i.putAny (ob:=.ins c (o8 f d l)) m {b,D,_,v0,k,(r.put u f).mono m} (by grind)) S
def c59(m:PE X a (up X.K ta))(k:Cc a AD pos.line X.env=pure AF):PS X (.Expr a pos) (upS X.K λF b f=>ta b f λ_ c=>F.nx b c):=
 PS.imp (ch2 m k) λF o H⟨b,f,q,h,g,j,l⟩=>{b,f,_,h,g,j,λv d n e i p=>l.nx _ _ n e i (h.mono (i.tk g))}
def cx3(f:PE X a (up X.K ta)):PS X (.Return (AA a) pos) (upS X.K λF b c=>ta b c F.rt):=
 PS.imp (cx5 f) λF i H⟨b,c,j,h,g,d,e⟩=>⟨b,c,_,h,g,d,e.rt⟩
def ck0:PS X (.Return AD pos) (upS X.K λF _ a=>F.rt .non a):=PS.imp cj5 λF f H⟨e,a,h,g,d,b,c⟩=>c.rt.here .non d b
def ci2:PS X (.Pass pos) (upS X.K λF a b=>F.nx a b):=PS.imp cn4 λF c H⟨a,b,h,g,f,d,e⟩=>e.nx a c H b Ev.refl g f d
def cf4:PS X (.Continue pos) (upS X.K λF a b=>F.ct a b):=PS.imp bv7 λF c H⟨a,b,h,g,f,d,e⟩=>e.ct a c H b Ev.refl g f d
def dd5{tc}{y}(n:PT X c (upB X.K tc))(p:PSs X x (upS X.K t))(o:PSs X y (upS X.K u)):PS X (.If c x y pos) (upS X.K λF a f=>tc a f λk b=>if k=AC then t F a b else u F a b):=
 PS.imp (c90 n p o) λF r H⟨a,f,l,h,g,m,j⟩=>{a,f,_,h,g,m,λk s d e i q=>by
  cases k with
  |true=>show{a,d,l,h.mono (e.tk g),i,q,j.after e}
  |false=>show{a,d,l,h.mono (e.tk g),i,q,j.after e}}
def b48{tc}(E:HV (model X.prog X.w) X.A X.env X.xe)(G:PT X c (upB X.K tc))(L:PSs X x (upS X.K t)):PS X (.While c x [] pos) (upS X.K λF l p=>∃n,C9 tc t F n l p):=
 PS.imp (b78 E G L) λF N H⟨l,p,C,J,I,⟨n,D⟩,B⟩=>by
  apply{λm d f=>∃a b,RelE X.K f a d/\RelS X.K b f/\Ev p H b f/\C9 tc t C m a b,⟨n,l,p,J,I,Ev.refl,D⟩,?_};rintro m σ1 H1 ⟨env1,st1,hE1,hS1,ev1,w1⟩;cases m with
  |zero=>show w1.elim
  |succ m=>
   apply{env1,st1,_,hE1,hS1,w1,λk M o e r z=>?_};cases k with
   |false=>
    show B.nx env1 σ1 M o (ev1.trans e) (hE1.mono (e.tk hS1)) r z
   |true=>
    apply{λd f=>∃a b,RelE X.K f a d/\RelS X.K b f/\Ev p H b f/\C9 tc t C m a b,λd f h=>{m,Gz _,h},?_};have s:=B.after (ev1.trans e);have g:=ev1.trans e;show{env1,o,_,hE1.mono (e.tk hS1),r,z,λa d f b u j i q=>{a,b,j,i,g.trans u,q},s.nx,λa d f b u j i q=>{a,b,j,i,g.trans u,q},s.rt}
def ct4{tg iter}{ti}{g}(hp:HV (model X.prog X.w) X.A X.env X.xe)(hc:X.calm=AC)(S:PI X tg iter (upI X.K ti))(hg:PG X tg (upG X.K g))(h1:PSs X x (upS X.K t))(hs:∀v,Dc iter X.env v=pure v):
  PS X (.For tg iter x [] pos) (upS X.K λF n E=>ti n E λa o s=>u5 o g t F a n s):=
 PS.imp (cw6 hp hc S hg h1 hs) λF d H⟨n,E,W,U,T,ht,R⟩=>by
  apply{n,E,_,U,T,ht,λa o s V J I N O q1=>?_};apply{λi m f j=>m=a.length-i/\i<=a.length/\∃b c,RelE X.K j b f/\RelS X.K c j/\Ev E H c j/\TK X.K V j/\u5 o g t W (a.drop i) b c,{a.length,∎,Av _,n,s,U.mono (I.tk T),N,I,TK.refl,q1},?_};rintro i m σ2 H2 ⟨rfl,S,env2,st2,hE2,hS2,ev2,tk2,r⟩
  by_cases k:i<a.length
  ·right
   rw[BA k]at r;let{p,r}:=r;apply{O.go i st2 H2 tk2 hS2 p k,λf j=>i+1<=a.length/\∃b c,RelE X.K j b f/\RelS X.K c j/\Ev E H c j/\TK X.K V j/\u5 o g t W (a.drop (i+1)) b c,λf j h=>{a.length-(i+1),⋯,rfl,h},λv H3 y=>?_};let{d,hd,P,C,u}:=O.yld i st2 H2 v H3 tk2 hS2 p k y;have ed:d=a[i]:=by simp_all
   subst ed;apply{_,env2,_,P,hE2.mono (C.tk hS2),r,λM Y Q Z=>?_};have l:=ev2.trans C;have G:=R.after l;have D:=tk2.trans (C.tk hS2);show{M,st2,_,Q,u,Z,λb f j c L B z q=>{k,b,c,B,z,l.trans L,D.trans (L.tk u),q},G.nx,λb f j c L B z q=>{k,b,c,B,z,l.trans L,D.trans (L.tk u),q},G.rt}
  ·left
   have e:i=a.length:=by lia
   subst e;rw[Ho]at r;show{O.stop st2 H2 tk2 hS2 r.1,R.nx env2 σ2 H2 st2 ev2 hE2 hS2 r.2}
def b63{env}{σ}{fr}{k}(r:RelE K H env σ):RelE K H (S6 fr k env) (M5 fr k σ):=by
 apply{by simp[S6,M5],λi d h=>?_};unfold S6 at h;unfold M5
 by_cases c:i<fr.length
 ·rw[AZ (by simp_all),AY]at h ⊢;rw[AH c]at h ⊢;erw[Gc,CH]at h ⊢;cases q:env[fr[i]]? with
  |none=>simp_all
  |some o=>
   rw[q]at h;have e:=h;subst e;let{v,b,a}:=r.at' _ d q;show{v,by rw[b];rfl,a}
 ·rw[Ai (by simp_all),DU]at h
  split at h<;>cases h
def ba4{ti:l7->Sto->ItK->Prop}{g:Tg}{tc:DB}{fr:List Nat}{k:Nat}{σ:L2.St}{Q:VK}
  (h:up K (λA V Q=>ti A V λb L T=>b.length<=1000000/\B6 L g tc ta (λf c=>∀p,c p=AD->Q (.ref p) (b0 c p (.lst f))) b [] (S6 fr k A) T) σ H Q) :
  at6 fr k (upI K ti) (upG K g) (upB K tc) (up K ta) Q σ H:=by
 let{A,V,Qd,hE,hS,ht,hq}:=h;apply{A,V,_,hE,hS,ht,λb L T H1 J ev1 Z ok q1 p hp=>?_};let{hlen,q1}:=q1;have hEc:RelE K H1 A σ:=hE.mono (ev1.tk hS);apply{λi m E l=>m=b.length-i/\i<=b.length/\∃j c f C,RelE K l j E/\RelS K c l/\c p=AD/\l p=AA (.lst C)/\IsDs K l f C/\f.length<=i/\TK K H1 l/\(∀a o,H a=AA o->V a=AD->a≠p/\(∃B,l a=AA B/\TbE o B)/\c a=AD) /\
  B6 L g tc ta (λf c=>∀p,c p=AD->Qd (.ref p) (b0 c p (.lst f))) (b.drop i) f j c,{b.length,∎,Av _,S6 fr k A,T,[],[],(b63 hEc).mono (TK.new hp),Z.new hp,Z.free hp,v0,.nil,Av _,TK.new hp,λa o n U=>?_,q1},?_}
 ·let{{B,x,t},y}:=ev1 a o n U;have ne:a≠p:=B4 x hp;show{ne,{B,by rw[l5 ne];show x,t},y}
 rintro i m σ2 H2 ⟨rfl,hi,env2,st2,f,C,hE2,hS2,sp2,hp2,ra,hal,tk2,old,R⟩
 by_cases u:i<b.length
 ·right
  rw[BA u]at R;let{P,R}:=R;apply{ok.go i st2 H2 tk2 hS2 P u,λE l=>i+1<=b.length/\∃j c f C,RelE K l j E/\RelS K c l/\c p=AD/\l p=AA (.lst C)/\IsDs K l f C/\f.length<=i+1/\TK K H1 l/\(∀a o,H a=AA o->V a=AD->a≠p/\(∃B,l a=AA B/\TbE o B)/\c a=AD) /\
   B6 L g tc ta (λf c=>∀p,c p=AD->Qd (.ref p) (b0 c p (.lst f))) (b.drop (i+1)) f j c,λE l h=>{b.length-(i+1),⋯,rfl,h},λv H3 y=>?_}
  let{d,hd,is3,ev3,F}:=ok.yld i st2 H2 v H3 tk2 hS2 P u y;have ed:d=b[i]:=by rw[AH u]at hd;show(Ay hd).symm
  subst ed;apply{_,env2,_,is3,hE2.mono (ev3.tk hS2),R,λr a G q4=>?_};have O:∀{l:Hp}{c:Sto},Ev st2 H2 c l->∀a o,H a=AA o->V a=AD->a≠p/\(∃B,l a=AA B/\TbE o B)/\c a=AD:=λev a o n U=>by
   let{x,{o1,y,t1},z}:=old a o n U;let{{o2,y',t2},z'}:=ev a o1 y z;show{x,{o2,y',t1.trans t2},z'}
  apply{r,st2,_,G,F,q4,λbb H5 S I Y q5=>?_};have q:Ev st2 H2 S H5:=ev3.trans I;have N:TK K H2 H5:=q.tk hS2;let{hp5,sp5}:=q.get hp2 sp2 (λ_=>nofun);cases bb with
  |false=>
   erw[BN,if_false]at q5 ⊢;show{u,r,S,f,C,G.mono (I.tk F),Y,sp5,hp5,ra.mono N,⋯,tk2.trans N,O q,q5}
  |true=>
   apply{r,S,_,G.mono (I.tk F),Y,q5,λw e H6 W ev6 is6 rs6 q6=>?_};have D:Ev st2 H2 W H6:=q.trans ev6;have M:TK K H2 H6:=D.tk hS2;let{s,X}:=D.get hp2 sp2 (λ_=>nofun);have ra6:=ra.mono M;have hsz:C.length<sizeLine:=by
    rw[<-ra6.len];have:(1000001:Nat)<=sizeLine:=by decide
    lia
   apply{C,s,hsz,u,r,W,f++[e],C++[w],(G.mono ((I.trans ev6).tk F)).mono (TK.put s),rs6.stay (TK.put s) (λa o n=>l5 λz=>by rw[z,X]at n;cases n) (aq5 (by rw[s];show λ_ z=>by cases z)),X,v0,(ra6.append (.cons is6 .nil)).mono (TK.put s),by simp;lia,(tk2.trans M).trans (TK.put s),λa o n U=>?_,q6};let{x,{B,y,t},z}:=O D a o n U;show{x,{B,by rw[l5 x];show y,t},z}
 ·left
  have e:i=b.length:=by lia
  subst e;rw[Ho]at R;apply{ok.stop st2 H2 tk2 hS2 R.1,hq _ (.ref p) H2 (b0 st2 p (.lst f)) (λa o n U=>?_) (.ref p) {λa o n=>?_,hS2.tb} (R.2 p sp2)}
  ·let{x,y,z}:=old a o n U;show{y,by rw[J4 x];show z}
  ·by_cases ha:a=p
   ·subst ha;rw[c8]at n;cases n;show⟨C,hp2,ra⟩
   ·rw[J4 ha]at n;show hS2.ob a o n
end
end
section
variable [Tbs]
abbrev di8:Unit->AG->Bool
 |_,.none=>AC
 |_,_=>AF
abbrev at8(prog:Al)(w:Aw):KeyKind prog w Unit where
 is:=di8
 hash:=λ_=>0xFCA86420
 inj:=λ_ _ _ _ _=>rfl
 byValue:=λ_ v h=>by cases v<;>first|rfl|cases h
 pyHash:=λ{A E s k v Q}hv h=>by
  cases v<;>first|cases hv|skip
  show W.pyHash_slot (T:="NoneType") rfl F.slot_NoneType_hash F.entry_NoneType_hash (F.args_NoneType_hash_1 _) (Ke _) (.inl rfl) (AE (AK (AE (wpAny_mkInt (AK ⟨_,_,rfl,h⟩)))))
 eqBool:=λ{A E s a b u v Q}hu hv h=>by
  cases u<;>first|cases hu|skip
  cases v<;>first|cases hv|skip
  unfold PySem.eqBool
  try with_reducible apply BQ ?_
  rw[if_pos (by rfl)];show AE (Dq (AK h))
 «strs»:=λ_ _ _ _ h=>by cases h
section
variable {X:Cx} {a b:AU} {ta tb:DT} {pos:Pos}
def bl2{P}{w}{h:Heap}{a}(d:h.DictOfH (NK.dataKind P w) a []):h.MapOf (at8 P w) a (λ_=>AD):=by
 let{o,i,j,g,f,c,l,_,_}:=d;have:i=#[]:=by
  simp_all
 subst this;show{o,#[],j,g,f,c,λe b=>by simp at b,λk=>rfl}
def bj8(c:Bool):OpR X (Bp (if c then .NotIn else .In)) (λx y H Q=>∃a,x=.non/\y=.ref a/\H a=AA (.dT [])/\Q (.bl c) H):=by
 intro d s m H x y v u Q I l j h;let{a,rfl,rfl,e,q}:=h;cases(show u=At a from j);cases(show v=Bd from l);let{z,f,i,b,g}:=R3 I.hok (.inl e);have:i=[]:=by cases b;rfl
 subst this;cases c with
 |true=>show LY (knd:=at8 X.prog X.w) (k:=()) (key:=.none) rfl f (bl2 g) {.bl AC,H,I.tok _,rfl,q}
 |false=>show wpAny_in_of (knd:=at8 X.prog X.w) (k:=()) (key:=.none) rfl f (bl2 g) {.bl AF,H,I.tok _,rfl,q}
end
end
end Ek
namespace HT
open PySem PySem.Spec PyProof.Rows
section
variable {prog:Al} {w:Aw} {A:BW} {E:AG->AL->Prop} {s:AL}
def getItem_tuple_whole{t sl}{items}{vl vu}{lo hi}{Q}(b:IE s.heap t items)(f:s.heap.IsSliceOf sl vl vu .none)(i:GA vl lo)(g:GA vu hi)
  (l:sIx items.size 0 lo=0/\sIx items.size items.size hi=items.size)
  (h:Q (.ref t) s):AW (model prog w) A (Du (.ref t) (.ref sl)) Q E s:=by
 let{j,c,d,k}:=id f;have e:s.TypeIs (.ref sl) "slice":=⟨j,c,d⟩;unfold Du
 try with_reducible apply BQ ?_
 apply AE (HD b.typeIs ∅ ?_);apply AE (Bb b.typeIs BV
  (BX BV b.typeIs Jm ?_ (KB _ _)))
 change AW _ _ (Da (.ref t)>>=_) _ _ s;apply AE (tupleItemsOf_ b ?_);apply AE (FU e ?_);apply AE (az4 f i g ?_);have a:(((sIx items.size 0 lo):Int)==0&&(1:Int)==1&&(sIx items.size items.size hi-sIx items.size 0 lo)==items.size)=AC:=by
  simp_all
 change AW _ _ (if((sIx items.size 0 lo:Int)==0&&1==1&&(sIx items.size items.size hi-sIx items.size 0 lo)==items.size)=AC then _ else _) _ _ s;rw[if_pos a];apply AE ?_;apply AE (FU b.typeIs ?_);apply AK ?_;show AE (Dq (AK {_,rfl,AK h}))
end
end HT
namespace L2
open PySem PySem.Spec PyProof.Rows
section
variable {X:Cx}
abbrev da1(K:AO):V->Option Int->Option Int->Hp->VK->Prop:=λx lo hi H Q=>∃a xs,x=.ref a/\SqT K H a xs /\
 (HT.sIx xs.length 0 lo=0/\HT.sIx xs.length xs.length hi=xs.length)/\Q (.ref a) H
def cd9:SlR X (da1 X.K):=by
 intro d s n H x v p o u y t Q I g m j i h;let{a,f,rfl,k,l,q}:=h;cases g;let{c,r,e,w}:=I.tuple k;have b:c.toArray.size=f.length:=by show r.length.symm
 show {"tuple",_,BV.lookup,e.typeIs,HT.getItem_tuple_whole e m j i (by rw[b];show l) {.ref a,H,I,rfl,q}}
end
end L2
namespace Ek
open PySem PySem.Spec PyProof.Rows L2
section
variable [Tbs]
variable{H:Hp}
mutual
theorem bm9{K:AO}{H:Hp}(kt:Tbs.kt=AF):∀(d:D){v:V},IsD K H d v->NK.lit d.py=AC->HRd H d.py v
 |.int i,v,h,_=>h.int_inv
 |.str x,v,h,_=>h.str_inv
 |.tup ds,v,h,hl=>by
  let{a,vs,rfl,q,r}:=h.tup_invX;show{a,vs,rfl,q.trk kt,bj5 kt ds r hl}
 |.non,v,h,hl=>nomatch hl
 |.bl _,v,h,hl=>nomatch hl
 |.ref _,v,h,hl=>nomatch hl
 |.fn _,v,h,hl=>nomatch hl
 |.clo _ _ _ _,v,h,hl=>nomatch hl
 |.ktup _,v,h,hl=>nomatch hl
theorem bj5{K:AO}{H:Hp}(kt:Tbs.kt=AF):∀(ds:List D){vs:List V},IsDs K H ds vs->NK.lits (D.pys ds)=AC->P1 H (D.pys ds) vs
 |[],vs,r,_=>r.inv_nil
 |d::ds,vs,r,hl=>by
  let{v,ws,rfl,i1,i2}:=r.inv_cons;have h':NK.lit d.py=AC/\NK.lits (D.pys ds)=AC:=by
   have:(NK.lit d.py&&NK.lits (D.pys ds))=AC:=hl;simpa using this
  show{v,ws,rfl,bm9 kt d i1 h'.1,bj5 kt ds i2 h'.2}
end
def as2{K}(d:Tbs.kt=AF){ks}{v}(h:IsD K H (.tup ks) v)(c:D.key (.tup ks)):∃b,v=.ref b/\J0 H (D.tup ks).py b:=by
 let{a,e,rfl,_}:=h.tup_invX;show{a,rfl,c.1,c.2,bm9 d _ h c.1}
section
variable {X:Cx} {a b o i v:AU} {ta tb to ti tv:DT} {pos apos pos':Pos}
theorem RelS.dtt{K}{st}(r:RelS K st H){a}{kvs}(h:st a=AA (.dtt kvs)):∃b,H a=AA (.dT b)/\IsPs K H kvs b/\Tbs.kt=AF:=r.ob a _ h
def ct9{c:List Str}(h:c≠[]->Tbs.kt=AF):PE X (.Dict [] [] pos) (up X.K λd a Q=>c≠[]/\∀p,a p=AD->Q (.ref p) (b0 a p (.dtt []))):=
 PE.imp b37 λi H Q q=>by
  let{d,a,k,j,f,e,g}:=q;show λp b=>g _ (.ref p) _ (b0 a p (.dtt [])) (Ev.newS b) (.ref p) (f.putAny (TK.new b) {[],v0,.nil,h e.1} (by simp_all)) (e.2 p (f.free b))
def c25(hu:X.A.units+200<Bs)(ha:PE X a (up X.K ta))(B:PE X b (up X.K tb))(l:∀i p S,a≠.Call (.Name i p) [] [] S)(I:∀e p,b≠.Starred e p)(k:(apos.endLine==pos.line)=AC):
  PE X (.Call (.Attribute a "get" apos) [b] [] pos) (up X.K λc n Q=>ta c n λx g=>ay8 x g/\tb c g λy f=>az3 x y f Q):=
 PE.imp (b62 ⋯ ha B {J5 l,by rw[r9 I];rfl,k,by rw[r9 I];rfl}) λa H Q q=>by
  let{c,n,Qd,N,M,Y,J}:=q;apply{c,n,_,N,M,Y,λx d a g E W F o=>?_};let{L,o}:=o;cases d<;>first|show L.elim|skip
  rename_i p;let{T,Z}:=L;let{P,hH,r,U}:=F.dtt Z;apply{p,W.ref_inv,.inr {P,.inl hH},c,g,_,N.mono (E.tk M),F,o,λy e a f m w h j=>?_};cases e<;>first|show j.elim|skip
  rename_i V;let{G,z,hk,j}:=j;let{O,C,R,_}:=h.dtt z;let{b,rfl,B}:=as2 U w hk;apply{_,D4.t C B,?_}
  rcases R.look (D.tup V).py with⟨u,s⟩|⟨d,v,u,s,i⟩
  ·rw[s];rw[u]at j;show J _ _ _ f (E.trans m) .non h j
  ·rw[s];rw[u]at j;show J _ _ _ f (E.trans m) i h j
def TK.putT{K}{p}{u}{xs}(h:H p=AA (.dT xs)):TK K H (upd H p u):=TK.upd' (by simp_all) (by grind)
def bf5(k:X.A.units+200<Bs)(b:Bool):OpR X (Bp (if b then .NotIn else .In)) (λx y H Q=>∃a o,y=.ref a/\D4 H a x o/\Q (.bl (b != o.isSome)) H):=by
 intro e s j H x y v u Q I d i h;let{a,o,rfl,g,q}:=h;cases(show u=At a from i);cases b with
 |true=>show bh4 ⋯ I g d λf c=>{.bl _,H,c,rfl,by cases h:o.isSome<;>(rw[h]at q;show q)}
 |false=>show br9 ⋯ I g d λf c=>{.bl _,H,c,rfl,by cases h:o.isSome<;>(rw[h]at q;show q)}
def bo1{ne}{v w}{d e}{H'}{st'}{Qd}{Q}(p:IsD X.K H' d v)(n:IsD X.K H' e w)(f:RelS X.K st' H')(c:U3 ne d e st' Qd)(j:z6 X.K st' H' Qd Q):(∃a o,w=.ref a/\D4 H' a v o/\Q (.bl (ne != o.isSome)) H')\/∃a,v=.non/\w=.ref a/\H' a=AA (.dT [])/\Q (.bl ne) H':=by
 cases d<;>cases e<;>first|show AV c|skip
 ·let{k,c}:=c;let{q,l,r,m}:=f.dtt k;have:=Bh (by rw[<-r.len];rfl);subst this;show .inr {_,(by cases p;rfl),n.ref_inv,l,j.here (.bl _) f c}
 rename_i u a;apply .inl ?_;let{s,k,x,c}:=c;let{q,l,r,m}:=f.dtt k;let{b,rfl,y}:=as2 m p x;apply{_,_,n.ref_inv,D4.t l y,?_}
 rcases r.look (D.tup u).py with⟨h,g⟩|⟨d,v,h,g,i⟩
 ·rw[g];rw[h]at c;show j.here (.bl _) f c
 ·rw[g];rw[h]at c;show j.here (.bl _) f c
def cu3{g:Bool}{c}(t:c=if g then .NotIn else .In)(r:X.A.units+200<Bs)(B:PE X a (up X.K ta))(z:PE X b (up X.K tb))(u:∀C k p,b≠.Set C k p):PE X (.Compare a [c] [b] pos) (up X.K λf l Q=>ta f l λx i=>tb f i λy h=>U3 g x y h Q):=by
 subst t;show PE.imp (ad4 ((bf5 r g).or (bj8 g)) B z (N7 _ b u)) λD H Q q=>up2 q λv w d e F j E o n m s=>bo1 o n m s
def cr5{h:Bool}{c}(C:c=if h then .NotIn else .In)(z:X.A.units+200<Bs)(F:PE X a (up X.K ta))(E:PE X b (up X.K tb))(D:∀L k p,b≠.Set L k p):
  PT X (.Compare a [c] [b] pos) (upB X.K λg m Q=>ta g m λx l=>tb g l λy j=>U3 h x y j λd f=>∃k,d=.bl k/\Q k f):=by
 subst C;apply PT.imp (ad6 ((bf5 z h).or (bj8 h)) F E (N7 _ b D)) λN H Q q=>?_;let{g,m,M,I,G,r,B}:=q;apply up2 (Q:=λx i=>∃k,x=.bl k/\Q k i) {g,m,_,I,G,r,λv d i f J s n o=>?_} λv w d e i f M u t n r=>bo1 u t n r;let{k,rfl,o}:=o;show{k,s.bl_inv,B k i f J n o}
def cj6(hu:X.A.units+200<Bs)(O:PE X v (up X.K tv))(S:PE X o (up X.K to))(V:PE X i (up X.K ti))(Q:Cc v (AA (.Subscript o i pos')) pos.line X.env=pure AF):
  PS X (.Assign [.Subscript o i pos'] v pos) (upS X.K λF a B=>tv a B λd k=>to a k λx j=>ti a j λy l=>av3 x y d l λz=>F.nx a z):=
 PS.imp (bj2 ⋯ S V O Q) λF L H⟨a,B,i,u,q,P,R⟩=>{a,B,_,u,q,P,λw d b k h G e N=>
  {a,k,_,u.mono (h.tk q),e,N,λZ x i j g E c M=>⟨a,j,_,(u.mono (h.tk q)).mono (g.tk e),c,M,λb y H3 l f D m p=>by
   cases x<;>cases y<;>first|show p.elim|skip
   let{C,J,U,T,p}:=p;let{Y,s,r,I}:=m.dtt J;let{b,rfl,W}:=as2 I D U;have n:=(G.mono (g.tk e)).mono (f.tk c);apply{_,_,(E.mono (f.tk c)).ref_inv,O9.t s W (by rw[<-r.len];show T),?_};show R.nx a L _ _ (((h.trans g).trans f).trans (Ev.put J)) ((((u.mono (h.tk q)).mono (g.tk e)).mono (f.tk c)).mono (TK.putT s)) (m.putAny (ob:=.dtt (X5 C _ d)) (TK.putT s) {_,v0,(r.put n _).mono (TK.putT s),I} (by grind)) p⟩}}
def b18{ds}{lo hi}(h:HT.sIx ds.length 0 lo=0/\HT.sIx ds.length ds.length hi=ds.length):A9 ds lo hi=ds:=by
 unfold A9;rw[h.1,h.2];simp
def c36{lo hi}{tl th}{p2}(N:PE X a (up X.K ta))(L:PO X lo (upO X.K tl))(M:PO X hi (upO X.K th)):
  PE X (.Subscript a (.Slice lo hi AD p2) pos) (up X.K λb t Q=>ta b t λx f=>tl b f λl e=>th b e λh c=>af4 x l h c Q):=
 PE.imp (bc1 (bl3.or cd9) N L M) λP H Q q=>by
  let{b,t,O,C,B,I,J}:=q;apply{b,t,_,C,B,I,λv d T f j y g G=>{b,f,_,C.mono (j.tk B),g,G,λl S e i m F=>{b,e,_,(C.mono (j.tk B)).mono (i.tk g),m,F,λh R c o k u=>?_}}};have w:=(y.mono (i.tk g)).mono (o.tk m);have n:=((J.after j).after i).after o;cases d<;>first|show AV u|skip
  rename_i s;let{p,D,rfl,A,r}:=w.tup_invX
  by_cases z:HT.sIx s.length 0 l=0/\HT.sIx s.length s.length h=s.length
  ·have E:O (.tup (A9 s l h)) c:=u;rw[b18 z]at E;show .inr {p,D,rfl,A.sqt,(r.len▸z),n.here (IsD.mk A r) k E}
  ·show .inl {p,D,rfl,A.sqt,r.len▸z,n.newT k (at1 r l h) u}
end
end
section
variable [Tbs]
section
variable {X:Cx} {a b c:AU} {ta tb tc:DT} {pos apos p:Pos}
structure IscOk(K:AO)(c:Str)(Ca:AI):Prop where
 at_:BB K AN c=AA (AA (.ref Ca))
 cl:Cls K Ca
 ha:Bc K (.ref Ca) "__class__"=AA (AA (.builtin "object.__class__"))
 hn:W.specialIn K (.builtin "object.__class__") "__get__"=AA (AA (.builtin "getset_descriptor.__get__"))
 htk:W.takesIn K (.builtin "object.__class__")=AA AC
 hm:W.mroIn K Ca (.type "object")=AA AC
 no:Ct K (.type "tuple") (.ref Ca)=AA AF
 yes:Ct K (.ref Ca) (.ref Ca)=AA AC
end
end
section
variable [Tbs]
variable{H:Hp}
theorem bc7:∀{c:List Bool}{a},i7 (c.map V.bl) a->∀(i:Nat)v,a[i]?=AA v->∃b,c[i]?=AA b/\v=.bool b
 |[],a,r,i,v,h=>by cases r;simp at h
 |b::c,a,r,i,v,h=>by
  cases r with
  |cons j g=>
   cases i with
   |zero=>simp at h;subst h;show⟨b,rfl,j⟩
   |succ i=>show bc7 g i v (by simpa using h)
section
variable {X:Cx} {a o i v:AU} {ta to ti tv:DT} {p pos pos':Pos}
def bz1(y:X.calm=AC):G7 X (.builtin "any") λj H Q=>∃(p:AI)(a:List Bool),j=[.ref p]/\SqL X.K H p (a.map V.bl)/\Q (.bl (a.any id)) H:=by
 intro l s C H j D Q I r h;let{p,a,rfl,t,q}:=h;let{u,rfl,n}:=r.one;cases n;let{c,k,o,F}:=I.list t;have g:=o.isList;have f:c.length=a.length:=by rw[<-k.length,AX]
 have w:p<s.heap.objs.size:=by let{_,e,_}:=g;show BC e
 apply call_any_walk (HK g {s.heap.objs.size,[s.heap.objs.size,p],[s.heap.objs.size],c.toArray.size,_,_,λi=>(a[i]?).getD AF,rfl,Walks.list (A:=X.A.in1) (I.ok.hd y) _ p (BO w) c.toArray,{{_,Aj _ rfl,rfl,rfl},g.push _},?_,?_})
 ·intro i v m B J z d;let{b,e,rfl}:=bc7 k i v (by simpa using z);have d:B ((a[i]?).getD AF) m:=d;rw[e]at d;show CB d
 ·intro G E x;rw[Aa,f,LSm.range_any a];show{.bl (a.any id),H,I.kept (LSm.kept_iter x),rfl,q}
def cc2:BK "any"=AA (.builtin "any"):=by decide+kernel
theorem IsDs.bools{K}:∀{c:List Bool}{a},IsDs K H (c.map D.bl) a->a=c.map V.bl
 |[],a,r=>r.inv_nil
 |b::c,a,r=>by
  let{v,f,rfl,e,d}:=IsDs.inv_cons (by simpa using r);rw[e.bl_inv,IsDs.bools d];rfl
def ct7(q:X.calm=AC)(o:Gl X "any")(n:X.mg "any"=AD)(s:PE X a (up X.K ta))(f:∀e p,a≠.Starred e p):PE X (.Call (.Name "any" p) [a] [] pos) (up X.K λg j Q=>ta g j λx c=>ax4 x c Q):=
 bp3 (bz1 q) o n cc2 s f (λv d y i w Q k h b m=>by
  cases d<;>first|show AV b|skip
  let{t,l,b}:=b;let{u,f,r}:=h.rd l;show{_,t,by rw[k.ref_inv],r.bools▸f,m.here (.bl _) h b}) ∅ ∅
def co5:PE X (.Dict [] [] pos) (up X.K λc a Q=>∀p,a p=AD->Q (.ref p) (b0 a p (.dct []))):=
 PE.imp b99 λg H Q q=>by
  let{c,a,i,h,d,e,f}:=q;show λp b=>f _ (.ref p) _ (b0 a p (.dct [])) (Ev.newS b) (.ref p) (d.putNewD b {rfl,.nil}) (e p (d.free b))
def IsKs.snoc{K}{kvs}{vs}{d}{v}(h:IsKs K H kvs vs)(i:IsD K H d v)k:IsKs K H (kvs++[(k,d)]) (vs++[(k,v)]):=
 {by simp[h.ks],by simpa using h.ds.append (.cons i .nil)}
def TK.putKd{K}{p}{u}{xs}(h:H p=AA (.dK xs)):TK K H (upd H p u):=TK.upd' (by simp_all) (by grind)
def ch0(hu:X.A.units+200<Bs)(W:PE X v (up X.K tv))(ho:PE X o (up X.K to))(hi:PE X i (up X.K ti))(Z:Cc v (AA (.Subscript o i pos')) pos.line X.env=pure AF):
  PS X (.Assign [.Subscript o i pos'] v pos) (upS X.K λF a I=>tv a I λd m=>to a m λx l=>ti a l λy n=>au3 x y d n λG=>F.nx a G):=
 PS.imp (bj2 ⋯ ho hi W Z) λF R H⟨a,I,i,D,B,Y,o⟩=>{a,I,_,D,B,Y,λw d g m h M c T=>
  {a,m,_,D.mono (h.tk B),c,T,λi x v l f L b S=>⟨a,l,_,(D.mono (h.tk B)).mono (f.tk c),b,S,λV y Q n e J q z=>by
   cases x<;>cases y<;>first|show z.elim|skip
   rename_i p j;let{s,P,hk,hl,z}:=z;let{E,C,r}:=q.dct P;have N:A4 E (.inl j)=AD:=by
    rcases r.look (.inl j)with⟨_,U⟩|⟨_,_,O,_⟩
    ·show U
    ·rw[hk]at O;cases O
   have t:=(M.mono (f.tk c)).mono (e.tk b);have u:s.length=E.length:=by simpa using congrArg BI r.ks
   have g:O9 Q p V w (upd Q p (.dK (E++[(.inl j,w)]))):=by
    rw[J.int_inv,<-b55 w N];show O9.k (k:=.inl j) C (by rw[<-u];show hl)
   apply{_,_,(L.mono (e.tk b)).ref_inv,g,?_};show o.nx a R _ _ (((h.trans f).trans e).trans (Ev.put P)) ((((D.mono (h.tk B)).mono (f.tk c)).mono (e.tk b)).mono (TK.putKd C)) (q.putAny (ob:=.dct (s++[(.inl j,d)])) (TK.putKd C) {_,v0,(r.snoc t _).mono (TK.putKd C)} ⋯) z⟩}}
end
end
end Ek
namespace PySem
end PySem
namespace Ek
open PySem PySem.Spec PyProof.Rows L2
section
variable [Tbs]
end
section
variable [Tbs]
section
variable {X:Cx} {a b:AU} {ta tb:DT} {pos:Pos}
def bk2(p:X.A.units+200<Bs):OpR X (Bp .NotIn) λx y H Q=>∃d a c b,IsD X.K H d x/\y=.ref a/\SqL X.K H a c/\IsDs X.K H b c/\d.pure=AC/\D.pures b=AC/\o9 d<=150/\Q (.bl (!b.any λe=>deq e d)) H:=by
 intro f s w H x y v u Q I k j h;let{d,a,c,b,t,rfl,o,n,i,g,r,q}:=h;cases j;let{B,m}:=M3 I t i k;let{z,l}:=ao2 I o n g;show SeqAt.notIn_list_reads l m (Q2 b g) (Q5 d i) (aq4 p r) (by rw[ad0];show{.bl _,H,I,rfl,q})
def bm6{v w}{d e}{H'}{st'}{Qd}{Q}(m:IsD X.K H' d v)(l:IsD X.K H' e w)(g:RelS X.K st' H')(c:U1 d e st' Qd)(o:z6 X.K st' H' Qd Q):∃d a b f,IsD X.K H' d v/\w=.ref a/\SqL X.K H' a b/\IsDs X.K H' f b/\d.pure=AC/\D.pures f=AC/\o9 d<=150/\Q (.bl !f.any λe=>deq e d) H':=by
 cases e<;>first|show AV c|skip
 let{q,n,k,j,p,c}:=c;let{b,i,h}:=g.rd n;show{d,_,b,q,m,l.ref_inv,i,h,k,j,p,o.here (.bl _) g c}
def cw7(l:X.A.units+200<Bs)(o:PE X a (up X.K ta))(n:PE X b (up X.K tb))(m:∀r k p,b≠.Set r k p):PE X (.Compare a [.NotIn] [b] pos) (up X.K λc i Q=>ta c i λx g=>tb c g λy f=>U1 x y f Q):=
 PE.imp (ad4 (bk2 l) o n (N7 _ b m)) λs H Q q=>up2 q λv w d e u h t j=>bm6 j
def cp5(s:X.A.units+200<Bs)(C:PE X a (up X.K ta))(B:PE X b (up X.K tb))(z:∀G k p,b≠.Set G k p):
  PT X (.Compare a [.NotIn] [b] pos) (upB X.K λf j Q=>ta f j λx i=>tb f i λy h=>U1 x y h λd c=>∃k,d=.bl k/\Q k c):=by
 apply PT.imp (ad6 (bk2 s) C B (N7 _ b z)) λJ H Q q=>?_;let{f,j,I,E,D,t,u}:=q;apply up2 (Q:=λx g=>∃k,x=.bl k/\Q k g) {f,j,_,E,D,t,λv d g c F n l m=>?_} λv w d e g c I r o l=>bm6 r o l;let{k,rfl,m}:=m;show{k,n.bl_inv,u k g c F l m}
end
end
section
variable [Tbs]
@[reducible]noncomputable def Fz:HO:=.ext λ_=>True
def av9:∀a,Fz≠.lst a:=λ_=>nofun
def af0{P}{w}{H}{h}{a}{o}(e:h.get? a=AA o):t4 P w H h a (.frz o Fz):={e,trivial,⟨o,e⟩,λ_ _ _ _=>trivial}
section
variable {X:Cx} {pins:List (AI×Obj)} {σ:L2.St} {H H':Hp} {s:AL}
def bw5{x:Str}{c:AI}{o:Obj}{v:Option AG}(I:L2.Inv X pins σ H s)(w:X.env.cells.lookup x=AA c)(h:X.fn x=AF)(i:X.s₀.heap.objs.size<=c)(G:H c=AD)(t:s.heap.get? c=AA o)(J:o.data=.cell v):
  L2.Inv X pins σ (upd H c (.frz o Fz)) s:=by
 have f:∀{b:AI}{u:HO},H b=AA u->b≠c:=λe=>B4 e G;apply{I.ok,I.os,I.bare,{I.base.keep,I.base.slot,λb g e n E=>?_,I.base.there,λb k e=>?_,λb g u e=>?_,λb B e=>?_},I.loc,I.cell,?_,λl j e=>?_,λp F=>?_,λb u e=>?_,I.len}
 ·rw[l5 (BO (An (BC e) i))];show I.base.free b g e n E
 ·have:=I.base.tups b k e;rw[l5 (f this)];show this
 ·have:=I.base.frzs b g u e;rw[l5 (f this)];show this
 ·let{m,q}:=I.base.tbls b B e;show{m,by rw[l5 (f q)];show q}
 ·rw[l5 (Ax (I.cne x c w))];show I.free
 ·by_cases y:j=c
  ·subst y;have:=I.ok.inj l x j e w;subst this;show .inr ⟨h,o,Fz,v0⟩
  ·rw[l5 y];show I.freeC l j e
 ·let{e,n,D,C,d}:=I.pin p F;apply{e,?_,D,C,d};rw[l5 λz=>?_]
  ·show n
  ·rw[z,t]at e;show d v (by rw[<-Ay e];show J)
 ·by_cases A:b=c
  ·subst A;rw[v0]at e;cases e;show af0 t
  ·rw[l5 A]at e;show(I.hok b u e).stay (λ_ _ _ q=>q) (λa r=>by rw[l5 (f r)];show r) λa k r=>by rw[l5 (f r)];show r
def bi9{K}(e:G9 H H'):TK K H H':={{λa b q=>by
 rcases q with(q|⟨c,q⟩)|q
 ·show .inl (.inl (e _ _ q))
 ·show .inl (.inr {c,e _ _ q})
 ·show .inr q,λa b=>e _ _},λa o u q _=>e _ _ q}
def be5{K}{a}{o}(z:ObR K H a o):∃u,H a=AA u/\∀f,u≠.tbl f:=by
 cases o with
 |lst k=>let{d,b,_}:=z;show{_,b,λ_=>nofun}
 |fro k=>
  obtain⟨d,b|⟨u,b⟩,_⟩:=z
  ·show{_,b,λ_=>nofun}
  ·show{_,b,λ_=>nofun}
 |dct e=>let{d,b,_}:=z;show{_,b,λ_=>nofun}
 |dtt e=>let{d,b,_}:=z;show{_,b,λ_=>nofun}
 |ins c m=>let{C,n,d,b,_}:=z;show{_,b,λ_=>nofun}
def b83{K}{st}(r:RelS K st H)(e:G9 H H'):=r.stay (bi9 e) λa o h=>by
 let{u,b,_}:=be5 (r.ob a o h);rw[b,e _ _ b] λa c=>e _ _
def ch4{st}(e:G9 H H'):Ev st H st H':=λa o h k=>{{o,e _ _ h,.inl rfl},k}
theorem a85(I:L2.Inv X pins σ H s):∀(f:List Str),(∀x∈f,X.fn x=AF/\X.ow x=AC/\∃c,X.env.cells.lookup x=AA c) ->
  ∃m,L2.Inv X pins σ m s/\G9 H m/\∀x∈f,∃c o u,X.env.cells.lookup x=AA c/\m c=AA (.frz o u)/\(∀r,u≠.lst r)/\s.heap.get? c=AA o
 |[],_=>{H,I,G9.refl H,λx h=>absurd h Ah}
 |x::f,h=>by
  let{l,e,D,B}:=a85 I f λy a=>h y (Ae _ a);let{k,i,c,d}:=h x Bu;let{v,o,j,A}:=e.cell x c d
  rcases e.freeC x c d with z|⟨_,g,u,t⟩
  ·have P:=bw5 e d k (e.ok.cab x c (.inr i) d) z j A;have C:G9 l (upd l c (.frz o Fz)):=λb u q=>by rw[l5 (B4 q z)];show q
   apply{_,P,D.trans C,λy a=>?_}
   rcases AM.mp a with rfl|a
   ·show⟨c,o,Fz,d,v0,av9,j⟩
   ·let{K,g,G,O,N,M,L}:=B y a;show{K,g,G,O,C _ _ N,M,L}
  ·apply{l,e,D,λy a=>?_}
   rcases AM.mp a with rfl|a
   ·let{F,E}:=e.hok c _ t;apply{c,g,u,d,t,λr w=>?_,F};subst w;let{_,J,n,_,p}:=E;rw[j]at p;cases p;cases A
   ·show B y a
end
def a05{l}(h:ET l):l=[]\/∃i s j t v r,l=.int i s::.int j t::v::r/\ET r:=by
 unfold ET at h
 split at h
 ·show .inl rfl
 ·show .inr ⟨_,_,_,_,_,_,rfl,h⟩
 ·show h.elim
theorem az6{a b}{s t}{c}:∀(n:Nat)l,l.length<=n->ET l->ET (l++[.int a s,.int b t,c])
 |0,l,d,_=>by
  have:l=[]:=Bh ⋯;subst this;show trivial
 |n+1,l,d,h=>by
  rcases a05 h with rfl|⟨i,g,j,f,v,r,rfl,e⟩
  ·show trivial
  ·erw[AT]at d;show(az6 n r ⋯ e)
theorem a79{d:Pos}{e:AG}{a b:Int}{s t:Tok}{c:AG}:∀(n:Nat)(l:List AG),l.length<=n->ET l->GL d (l++[.int a s,.int b t,c])=AA e->GL d l=AA e\/e=c
 |n,l,o,h,q=>by
  rcases a05 h with rfl|⟨i,x,j,w,v,r,rfl,u⟩
  ·have p:(if a==d.line&&b==d.col then AA c else AD)=AA e:=q
   split at p
   ·simp_all
   ·cases p
  ·cases n with
   |zero=>simp at o
   |succ n=>
    erw[AT]at o;have f:(if i==d.line&&j==d.col then AA v else GL d (r++[.int a s,.int b t,c]))=AA e:=q;change(if i==d.line&&j==d.col then AA v else GL d r)=AA e\/e=c
    split at f
    ·rename_i g;rw[if_pos g];show .inl f
    ·rename_i g;rw[if_neg g];show a79 n r ⋯ u f
end
section
variable [Tbs]
abbrev M9(name qual:Str)(params:Co)(fb:Di)(scope:BL)(cl:List (Str×AI))(doc pm cv ct:AG):Bl:=
 {name,qualname:=qual,params,body:=fb,scope,globals:=AN,closure:=cl,defaults:=.none,kwdefaults:=.none,doc:=doc,pyModule:=pm,annotations:=AD,code:=cv,closureTuple:=ct,builtins:=Cv}
abbrev Q9(fd:Bl):Obj:={cls:=.type "function",data:=.func fd}
abbrev W8(mg:Str->Option AG)(h:Heap):Prop:=∃bm ob,mg "__builtins__"=AA (.ref bm)/\bm≠Cv/\h.get? bm=AA ob/\ob.cls=.type "module"/\ob.dict=AA Cv/\ob.data=.plain
structure LamOk(X:Cx):Prop where
 tab:∃c P,X.env.code=.ref c/\W.CodeHd X.base c P/\P∈Tbs.ps
 bm:W8 X.mg X.base
section
variable {X:Cx} {pins:List (AI×Obj)} {σ:L2.St} {H:Hp} {s:AL} {st:Sto}
structure Made(X:Cx)(pins:List (AI×Obj))(σ:L2.St)(H:Hp)(st:Sto)(f:AI)(fd:Bl)(H':Hp)(s':AL):Prop where
 inv:L2.Inv X pins σ H' s'
 tk:TK X.K H H'
 ev:Ev st H st H'
 rs:RelS X.K st H'
 fn:H' f=AA (.frz (Q9 fd) Fz)
 cd:R0 H' fd.code
def be7{fd}{c:Heap}{tk}(I:L2.Inv X pins σ H s)(f:RelS X.K st H)(g:∀b o,s.heap.get? b=AA o->c.get? b=AA o)(a:s.heap.objs.size<=c.objs.size)(h:R0 H fd.code):
  Made X pins σ H st c.objs.size fd (upd H c.objs.size (.frz (Q9 fd) Fz)) {s with heap:=c.push (Q9 fd),toks:=tk}:=by
 have d:=I.hok.fresh a;show{I.laid (λb o e=>AQ _ (g b o e)) a (af0 (Aj _ rfl)),TK.new d,Ev.new d,f.new d,v0,h.mono (K:=X.K) (TK.new d)}
def bc4{P g:AI}{A:Array AG}{fd:Bl}{f:Heap}{tk:Nat}{i j:Int}{S R:Tok}{q:Str}(I:L2.Inv X pins σ H s)(rs:RelS X.K st H)(r:H P=AA (.tbl A))(hT:TabOk H A)
  (hx:Heap.ExtBut P s.heap f) (hc:s.heap.objs.size<=g) (J:g<f.objs.size) (hr:f.CodeRec (.ref g) q) (ht:f.get? P=AA (Hq (A++#[.int i S,.int j R,.ref g]))) (Z:fd.code=.ref g) :
  ∃m,Made X pins σ H st f.objs.size fd m {s with heap:=f.push (Q9 fd),toks:=tk}:=by
 let{c2,T,h,t,e2,Y,hd,hv}:=hr;cases e2;have G:s.heap.objs.size<=f.objs.size:=Gw (Ea hc J);have n1:H g=AD:=I.hok.fresh hc;have n2:H f.objs.size=AD:=I.hok.fresh G;have cf:g≠f.objs.size:=BO J;have cP:P≠g:=λz=>by rw[z,n1]at r;cases r
 have fP:P≠f.objs.size:=λz=>by rw[z,n2]at r;cases r
 let m:Hp:=upd (upd (upd H g (.frz T Fz)) f.objs.size (.frz (Q9 fd) Fz)) P (.tbl (A++#[.int i S,.int j R,.ref g]))
 have M:m P=AA (.tbl (A++#[.int i S,.int j R,.ref g])):=v0;have gf:m f.objs.size=AA (.frz (Q9 fd) Fz):=by change upd _ _ _ _=_;rw[l5 (Ax fP)];show v0
 have gc:m g=AA (.frz T Fz):=by change upd _ _ _ _=_;rw[l5 (Ax cP),l5 cf];show v0
 have ge:∀b,b≠P->b≠f.objs.size->b≠g->m b=H b:=λb E O N=>by change upd _ _ _ _=_;rw[l5 E,l5 O,l5 N]
 have l:∀b u,H b=AA u->b≠P->m b=AA u:=λb u e E=>by rw[ge b E (B4 e n2) (B4 e n1)];show e
 have p:∀b u,H b=AA u->(∀A,u≠.tbl A)->b≠P:=λb u e n z=>by rw[z,r]at e;cases e;show n _ rfl
 have L:∀b o,b≠P->s.heap.get? b=AA o->(f.push (Q9 fd)).get? b=AA o:=λb o n e=>AQ _ (hx b o n e);have d:TK X.K H m:={{λa Q z=>by
  rcases z with(z|⟨U,z⟩)|z
  ·show .inl (.inl (l _ _ z (p _ _ z λ_=>nofun)))
  ·show .inl (.inr {U,l _ _ z (p _ _ z λ_=>nofun)})
  ·show .inr z,λa Q z=>l _ _ z (p _ _ z λ_=>nofun)},λa o u z _=>l _ _ z (p _ _ z λ_=>nofun)}
 have CF:R0 m (.ref g):=⟨g,T,Fz,h,q,t,rfl,gc,av9,hd,hv⟩;apply{m,I.un (h':=f.push (Q9 fd)) {λb o e n _ _=>?_,λb o e n _ _=>?_,λb o e n _=>?_,λb o e _=>?_,λb Q e=>?_,λb o u e=>?_,λb a e=>?_} (λb u e=>?_),d,λa o e k=>?_,{λa o e=>?_,λP0 hP0=>?_},gf,by rw[Z];show CF}
 ·show L b o (λz=>by rw[z,r]at n;cases n) e
 ·show{o.slots,L b o (λz=>by rw[z,r]at n;cases n) e}
 ·have lb:=BC e;rw[ge b (λz=>by rw[z,r]at n;cases n) (BO (An lb G)) (BO (An lb hc))];show n
 ·by_cases y:b=P
  ·subst y;show{_,AQ _ ht}
  ·show{o,L b o y e}
 ·show l _ _ e (p _ _ e λ_=>nofun)
 ·show l _ _ e (p _ _ e λ_=>nofun)
 ·by_cases y:b=P
  ·subst y;rw[r]at e;cases e;show⟨_,M⟩
  ·show{#[],by rw[l _ _ e y];simp}
 ·by_cases E:b=P
  ·subst E;rw[M]at e;cases e;show AQ _ ht
  by_cases O:b=f.objs.size
  ·subst O;rw[gf]at e;cases e;show af0 (Aj _ rfl)
  by_cases N:b=g
  ·subst N;rw[gc]at e;cases e;show af0 (AQ _ Y)
  rw[ge b E O N]at e;apply(I.hok b u e).stay (λc v D z=>L c v ?_ z) (λa z=>l _ _ z (p _ _ z λ_=>nofun)) λa Q z=>l _ _ z (p _ _ z λ_=>nofun)
  rcases D with rfl|D
  ·show E
  ·show p _ _ D λ_=>nofun
 ·by_cases ha:a=P
  ·subst ha;rw[r]at e;cases e;show{{_,M,.inr ⟨_,_,rfl,rfl⟩},k}
  ·show{{o,l _ _ e ha,.inl rfl},k}
 ·have z:=rs.ob a o e;let{u,W,hn}:=be5 z;have F:m a=H a:=by rw[W];show l _ _ W (p _ _ W hn)
  cases o with
  |lst ds=>let{h,q,w}:=z;show{h,by rw[F];show q,w.mono d}
  |fro ds=>
   obtain⟨h,q|⟨U,q⟩,w⟩:=z
   ·show{h,.inl (by rw[F];show q),w.mono d}
   ·show{h,.inr {U,by rw[F];show q},w.mono d}
  |dct V=>let{h,q,w}:=z;show{h,by rw[F];show q,w.mono d}
  |dtt V=>let{h,q,w,t}:=z;show{h,by rw[F];show q,w.mono d,t}
  |ins c fs=>let{C,dx,h,q,n,w}:=z;show{C,dx,h,by rw[F];show q,n,w.mono d}
 ·by_cases y:P0=P
  ·subst y;apply{_,M,?_,λB cv x=>?_}
   ·rw[FV];show az6 _ _ (AR _) hT.tr
   ·rw[FV]at x
    rcases a79 _ _ (AR _) hT.tr x with z|z
    ·show(hT.co B cv z).mono d
    ·rw[z];show CF
  ·let{qs,e,o}:=rs.tb P0 hP0;show{qs,l _ _ e y,o.tr,λB a x=>(o.co B a x).mono d}
def cj8{name qual}{params}{fb}{scope}{pos}{line}{cl}{Q}(I:L2.Inv X pins σ H s)(q:RelS X.K st H)(L:LamOk X)(i:IM scope X.env=pure cl)
  (h:∀f g pm u j U V,Made X pins σ H st f (M9 name qual params fb scope cl g pm u j) U V->Q (.ref f) V) :
  AW (model X.prog X.w) X.A (makeFunction name qual params fb scope X.env [] [] [] pos line) Q X.xe s:=by
 let{c,P,a,C,O}:=L.tab;let{Y,R,n}:=q.tb P O;have d:s.heap.get? P=AA (Hq Y):=I.hok P _ R;have p:=I.mod.glob.keeps I.bk;have r:AN≠P:=λz=>by
  let{o,es,ep,e,x,_}:=p;rw[z,d]at e;cases e;cases x
 have y:s.heap.BuiltinsAt X.mg P:=by
  let{bm,ob,b1,b2,b3,b4,b5,b6}:=L.bm;have v:=I.bk _ _ b3;apply{bm,ob,b1,b2,λz=>?_,λz=>?_,v,b4,b5,b6}
  ·let{o,es,ep,e,x,_}:=p;rw[<-z,v]at e;cases e;rw[b6]at x;cases x
  ·lia
 have B:=C.keeps I.bk;cases hh:GL pos Y.toList with
 |none=>
  cases fb with
  |stmts b=>
   apply W.makeFunction_K i I.ok.glob p a B d n.tr hh r y λT j g S D E N m G F=>?_;let{U,M}:=bc4 (fd:=M9 name qual params (.stmts b) scope cl g ((X.mg "__name__").getD .none) (.ref T) j) I q R n E N m G F rfl;show h _ _ _ _ _ _ _ M
  |expr b=>
   apply W.kla_makeFunction i I.ok.glob p a B d n.tr hh r y λT j S D E N m G F=>?_;let{U,M}:=bc4 (fd:=M9 name qual params (.expr b) scope cl .none ((X.mg "__name__").getD .none) (.ref T) j) I q R n E N m G F rfl;show h _ _ _ _ _ _ _ M
 |some u=>
  have Z:=n.co pos u hh;cases fb with
  |stmts b=>
   apply W.makeFunction_hit i I.ok.glob p a B d n.tr hh y λj g S D J l=>?_;show h _ g ((X.mg "__name__").getD .none) u j _ _ (be7 I q J l Z)
  |expr b=>
   apply W.kla_makeFunctionHit i I.ok.glob p a B d n.tr hh y λj S D J l=>?_;show h _ .none ((X.mg "__name__").getD .none) u j _ _ (be7 I q J l Z)
end
end
section
variable [Tbs]
theorem bd7{K}{H}{env}{σ}(k:RelE K H env σ):∀{e}{c},P3 env e=AA c ->
  ∃b:List V,IsDs K H c b/\b.length=e.length/\∀(i:Nat)v,b[i]?=AA v->∃j,e[i]?=AA j/\σ[j]?=AA (AA v)
 |[],c,h=>by
  cases h;show{[],.nil,rfl,λi v z=>by simp at z}
 |j::e,c,h=>by
  unfold P3 at h
  split at h
  ·rename_i d q p o;cases h;let{b,r,l,a}:=bd7 k o;let{v,n,m}:=k.at' j d p;apply{v::b,.cons m r,by simp[l],λi w z=>?_};cases i with
   |zero=>simp at z;subst z;show⟨j,rfl,n⟩
   |succ i=>simp_all
  ·cases h
structure NestOk(X:Cx)(params:Co)(fb:Di)(scope:BL)(np:Nat)(N ps:List Str)(cp:List Nat)(b:Ss):Prop where
 sc:FnScC N ps scope
 lp:ps.length=np
 mt:Tbs.mt b scope N fb
 bind:∀(name qual:Str)(cl:List (Str×AI))(doc pm cv ct:AG)(us:List AG),us.length=ps.length->EA (M9 name qual params fb scope cl doc pm cv ct) {us,[]}=pure (ps.zip us)
 cap:∀(i j:Nat),cp[i]?=AA j->∃x,X.N[j]?=AA x/\N[np+i]?=AA x/\(x,Az)∈scope.names
 fre:∀x,(x,Az)∈scope.names->(∃i:Nat,∃j:Nat,cp[i]?=AA j/\X.N[j]?=AA x)/\X.env.scope.names.lookup x=AA .cell/\X.fn x=AF/\X.ow x=AC
section
variable {X:Cx} {pins:List (AI×Obj)} {σ:L2.St} {H:Hp} {s:AL} {st:Sto}
def cg8{n g:Str}{e:Co}{fb:Di}{a:BL}{U:Pos}{B:Nat}{np:Nat}{N ps:List Str}{cp:List Nat}{b:Ss}{O:l7}{cs:List D}{Q:AG->AL->Prop}
  (I:L2.Inv X pins σ H s) (rs:RelS X.K st H) (hE:RelE X.K H O σ) (L:LamOk X) (S:NestOk X e fb a np N ps cp b) (J:P3 O cp=AA cs)
  (h:∀f T s',L2.Inv X pins σ T s'->TK X.K H T->Ev st H st T->RelS X.K st T->IsD X.K T (.clo np N b cs) (.ref f)->Q (.ref f) s') :
  AW (model X.prog X.w) X.A (makeFunction n g e fb a X.env [] [] [] U B) Q X.xe s:=by
 let{us,E,V,R}:=bd7 hE J
 let fs:List Str:=(a.names.filter λy=>y.2==.free).map (·.1)
 have q:∀x,x∈fs↔(x,Az)∈a.names:=λx=>by
  erw[fs,CO,mem_filter,beq_iff_eq];constructor
  ·rintro⟨⟨y,k⟩,⟨h1,h2⟩,rfl⟩;subst h2;show h1
  ·intro h1;show{(x,.free),⟨h1,rfl⟩,rfl}
 have p:∀x,(x,Az)∈a.names->∃c,X.env.cells.lookup x=AA c:=λx d=>I.ok.has x (.inl (S.fre x d).2.1);let{H1,I1,e1,f1}:=a85 I fs λx d=>{(S.fre x ((q x).mp d)).2.2.1,(S.fre x ((q x).mp d)).2.2.2,p x ((q x).mp d)};have hcl:IM a X.env=pure (A8 X.env.cells a.names []):=an6 λy W hk=>by
  let{y,k}:=y;subst hk;let{c,J}:=p y W;erw[J,IS]
 apply cj8 I1 (b83 rs e1) L hcl λf P pm cv ct H2 s2 M=>?_;have tk:TK X.K H H2:=(bi9 e1).trans M.tk;have t:∀(j:Nat)x v,X.N[j]?=AA x->σ[j]?=AA (AA v)->(x,Az)∈a.names->∃c o u w,(A8 X.env.cells a.names []).lookup x=AA c/\H2 c=AA (.frz o u)/\(∀vs,u≠.lst vs)/\o.data=.cell (AA w)/\j7 v w:=λj x v hN Z d=>by
  let{m,hn,hl}:=I1.loc;let{w,r,l}:=hl j x v hN Z (.inr (.inl (S.fre x d).2.1));let{c,o,u,a1,a2,a3,a4}:=f1 x ((q x).mpr d)
  rcases l with⟨k1,_⟩|⟨_,c2,l1,o2,l2,l3⟩
  ·have C:X.env.scope.names.lookup x=AA .local:=k1;rw[(S.fre x d).2.1]at C;cases C
  ·rw[a1]at l1;cases l1;rw[a4]at l2;cases l2;show{c,o,u,w,ac9 a1 d,M.tk.2 _ _ _ a2 a3,a3,l3,r}
 have z:∀x c,(A8 X.env.cells a.names []).lookup x=AA c->X.env.cells.lookup x=AA c/\(x,Az)∈a.names:=λx c d=>P4 d;apply h f H2 s2 M.inv tk ((ch4 e1).trans M.ev) M.rs (.clo (us:=us) {M9 n g e fb a (A8 X.env.cells a.names []) P pm cv ct,ps,{S.sc,S.lp,S.mt,S.bind n g _ P pm cv ct,rfl,rfl,λx d=>?_,λx c d=>(z x c d).2,λx y c d W=>I.ok.inj x y c (z x c d).1 (z y c W).1},{⟨_,_,M.fn,av9,rfl⟩,M.cd,λx c d=>?_,λi v hv=>?_}} (by rw[E.len]) (E.mono tk).at')
 ·let{c,J}:=p x d;show{c,ac9 J d}
 ·let{{i,j,hi,hj},_}:=S.fre x (z x c d).2;have hil:i<us.length:=by rw[V];show(AS.mp hi).1
  let{j',G,Y}:=R i _ (AH hil);rw[hi]at G;cases G;let{c',o,u,w,b1,b2,b3,b4,b5}:=t j x _ hj Y (z x c d).2;have F:(A8 X.env.cells a.names []).lookup x=AA c:=d;rw[b1]at F;cases F;show⟨o,u,w,b2,b3,b4⟩
 ·let{j,hj,Z}:=R i v hv;let{x,n1,n2,n3}:=S.cap i j hj;let{c,o,u,w,b1,b2,b3,b4,b5}:=t j x v n1 Z n3;show⟨x,c,o,u,w,n2,b1,b2,b3,b4,b5⟩
def cv9{name}{params}{body}{scope}{pos}{i np}{N ps}{cp}{b}(w:X.N.Nodup)(p:X.N[i]?=AA name)(m:Loc X.env.scope name)(r:X.fn name=AC\/X.env.scope.names.lookup name=AA .local)
  (z:params.defaults=[]) (y:params.kw_defaults=[]) (x:∀a,annTrees params AD a=[]) (L:LamOk X) (S:NestOk X params (.stmts body) scope np N ps cp b) :
  PS X (.FunctionDef name params body [] AD [] scope AD name pos) (upS X.K λF a c=>∃d,P3 a cp=AA d/\F.nx (a.set i (AA (.clo np N b d))) c):=by
 intro e s D H F I q;let{a,c,J,g,u,{d,t,n},o}:=q;show W.nestDef_K z y (x _) (cg8 I u g L S t λf h G C j A k l=>ac6 C w p m (v:=.ref f) rfl (λE B=>{_,h,B,o.nx _ _ h c A ((g.mono j).set l i) k n}) r)
end
end
section
variable [Tbs]
variable{fd:Bl}{vs:List V}{N:List Str}{H:Hp}
abbrev b82(fb:Di)(env:Env):Code:=match fb with
 |.stmts b=>.func b env
 |.expr e=>.expr e env
def cb0{prog}{w}{A}{R}{s}{a c}{args}{o oc}{vs}{q}{t}(j:A.depth<II)(E:s.heap.get? a=AA o)(x:o.data=.func fd)
  (y:fd.scope.isCoroutine=AF) (l:fd.scope.isGenerator=AF) (B:fd.code=.ref c) (u:s.heap.get? c=AA oc) (v:oc.data=.fields vs) (D:vs[1]?=AA (.str q t))
  (h:AW (model prog w) A.in1 (EA fd args) (λf g=>
   AW (model prog w) A.in1 (Ld fd.scope fd.globals fd.closure f (q++".<locals>.") (AA a) fd.code AD fd.builtins)
    (λm d=>d.heap.NoLimit/\EL (model prog w) A (b82 fd.body m) R d) (λe r=>R (.error e) r) g) (λe r=>R (.error e) r) s) :
  EL (model prog w) A (.call (.ref a) args) R s:=by
 apply codeAny_of_tree ?_;change AW _ A.in1 (callAny (.ref a) args) _ _ s;apply AE (wpAny_load E ?_);erw[x,callFunction,y,l,B];rw[B]at h;apply AE (BS u v D (AE (AK ?_)));apply AE (Bk h (λf g k=>AE (Bk k (λm d i=>AE (wpAny_enterFrame i.1 j
  ?_)) λ_ _ z=>z)) λ_ _ z=>z)
 have n:=i.2;cases hb:fd.body with
 |stmts b=>rw[hb]at n;show AK (And.intro rfl n)
 |expr e=>rw[hb]at n;show AK (And.intro rfl n)
theorem a87{x:Str}{u:AG}:∀{a:List Str}{b:List AG}{i:Nat},a.Nodup->a[i]?=AA x->b[i]?=AA u->(a.zip b).reverse.lookup x=AA u
 |[],_,_,_,h,_=>by simp at h
 |_::_,[],_,_,_,h=>by simp at h
 |p::a,w::b,i,g,d,c=>by
  rw[Gf,DH,List.lookup_append];cases i with
  |zero=>
   simp at d c;subst d c;have:(a.zip b).reverse.lookup p=AD:=by
    rw[List.lookup_eq_none_iff];intro y k;have:=(FT (GE.mp k)).1;have j:p≠y.1:=λz=>(BP.mp g).1 (z▸this);simpa using j
   rw[this];simp[DJ]
  |succ i=>
   rw[a87 (i:=i) (BP.mp g).2 (by simpa using d) (by simpa using c)];rfl
abbrev cxC(P:Al)(w:Aw)(K:AO)(mg:Str->Option AG)(base:Heap)(N:List Str)(scope:BL)(cl:List (Str×AI))(q:Str)(f:AI)(cd:AG)(A:BW)(outer:List Env)(s:AL)(H:Hp):Cx where
 prog:=P
 w:=w
 K:=K
 mg:=mg
 base:=base
 A:=A.deeper (newEnv scope s.heap.objs.size AN cl (q++".<locals>.") (AA f) cd AD Cv)
 N:=N
 s₀:=s
 H₀:=H
 env:=newEnv scope s.heap.objs.size AN cl (q++".<locals>.") (AA f) cd AD Cv
 outer:=outer
 stack:=newEnv scope s.heap.objs.size AN cl (q++".<locals>.") (AA f) cd AD Cv::outer
 ex:=[]
 calm:=AC
 fn:=λy=>!(scope.names.any λz=>z.1==y&&z.2==.free)
 pn:=[]
 xe:=λ_ _=>False
def bx7{P:Al}{w:Aw}{K:AO}{Z:Str->Option AG}{k:Heap}{D:List Str}{X:Nat}{b:Ss}{q:Str}{f:AI}{A:BW}{g:List Env}{s:AL}{n:Heap}{tk:Nat}{us:List AG}{d:List V}
  (C:CloF fd X N D b) (U:CloR H f fd X N d) (hd:A.handled=AD) (l:Env0 P w K Z k A g s H) (hl:vs.length=D.length) (r:i7 vs us)
  (hns:n.Ns s.heap.objs.size (λx=>(D.zip us).reverse.lookup x)) (hk:∀b o,s.heap.get? b=AA o->n.get? b=AA o) :
  Inv (cxC P w K Z k N fd.scope fd.closure q f fd.code A g s H) [] (D3 N (vs++d)) H {s with heap:=n,toks:=tk}:=by
 have S:=C.sc;have B:∀b:AI,b∉(cxC P w K Z k N fd.scope fd.closure q f fd.code A g s H).ex:=λb z=>absurd (show b∈([]:List AI) from z) ∎;have hpl:D.length<=N.length:=by have:=congrArg BI S.pre;rw[By]at this;lia
 have hful:(vs++d).length<=N.length:=by
  rw[Af,hl];cases hu:d.length with
  |zero=>lia
  |succ m=>
   have hm:m<d.length:=by lia
   let{x,_,_,_,_,O,_}:=U.at' m _ (AH hm);have:=(AS.mp O).1;have:=C.np;lia
 have J:∀x c,fd.closure.lookup x=AA c->(!(fd.scope.names.any λz=>z.1==x&&z.2==.free))=AF:=λx c h=>by
  have hm:=C.fre x c h;have:(fd.scope.names.any λz=>z.1==x&&z.2==.free)=AC:=GF.mpr {(x,.free),hm,∎};rw[this];rfl
 have t:∀{c:AI}{o:Obj}{u:HO},H c=AA (.frz o u)->n.get? c=AA o:=λ{c o u}e=>by
  let{z,_}:=l.hok c _ e;show hk _ _ z
 apply{{l.mod,S.kind,rfl,rfl,AR _,λy z c n j=>C.inj y z c n j,λy G=>?_,λy c h hc=>?_,λ_=>hd,Hv l.frames,.inr ⟨rfl,rfl⟩,λb z=>absurd z (B b),l.bs,l.bsz,λb _ _=>B b,λb z=>absurd z (B b),l.funs,l.frf},
  rfl,l.bare,Un.kept hk,{_,hns,λi y v n j a=>?_},λy c h=>?_,l.hok.fresh (AR _),λy c h=>?_,λp Q=>absurd (show p ∈ ([]:List (AI × Obj)) from Q) ∎,l.hok.kept hk,?_}
 ·rcases G with G|G
  ·show absurd rfl (S.nocell _ (PySem.mem_of_lookup G))
  ·show C.has y (PySem.mem_of_lookup G)
 ·have hc':fd.closure.lookup y=AA c:=hc
  rcases h with h|h
  ·have h':(!(fd.scope.names.any λz=>z.1==y&&z.2==.free))=AC:=h;rw[J y c hc']at h';cases h'
  ·cases h
 ·have R:i<(vs++d).length:=by
   unfold L2.D3 at j
   by_cases R:i<(vs++d).length
   ·show R
   ·rw[Ai (by simpa using R)]at j;rw[DU]at j
    split at j<;>cases j
  have T:(vs++d)[i]?=AA v:=by
   unfold L2.D3 at j;rw[AZ (by simpa using R),AY]at j;cases e:(vs++d)[i]? with
   |none=>rw[e]at j;cases j
   |some a=>rw[e]at j;cases j;rfl
  have I:N[i]?=AA y:=n
  by_cases hv:i<vs.length
  ·rw[AZ hv]at T;let{u,hu,rv}:=r.get T;have Q:D[i]?=AA y:=by
    rw[<-S.pre,Hi ⋯];show I
   have Y:D.Nodup:=by rw[<-S.pre];show S.nd.sublist (GI _ _)
   show{u,rv,.inl {S.par y (BE Q),a87 Y Q hu}}
  ·rw[Ai ⋯]at T;let{x,c,E,W,L,O,n2,F,n4,M,n6}:=U.at' _ v T;have e:X+(i-vs.length)=i:=by have:=C.np;lia
   rw[e,I]at O;cases O;show{L,n6,.inr {.inr (S.fre _ (C.fre y c n2) rfl),c,n2,E,t F,M}}
 ·let{E,W,L,F,n4,M}:=U.cl y c h;show{AA L,E,t F,M}
 ·let{E,W,L,F,n4,M}:=U.cl y c h;show .inr {J y c h,E,W,F}
 ·unfold L2.D3;change _=N.length;rw[Af,AX,DG];lia
abbrev cq5(X:Cx)(fb:Di)(Z:Sg)(b:Ss):Prop:=match fb with
 |.stmts l=>PSs X l (upS X.K (i9 Z b))
 |.expr x=>∃e,b=.cons (.ret e) .nil/\PE X x (up X.K (wpE Z e))
def a88{K}{ds}(r:IsDs K H ds vs):RelE K H (ds.map AA++Ab (N.length-ds.length) AD) (L2.D3 N vs):=by
 apply{by simp[L2.D3,r.len],λi x h=>?_};unfold L2.D3
 by_cases a:i<ds.length
 ·rw[AZ (by simp_all),AY,AH a]at h;erw[Gc,CH]at h;let{v,b,c}:=r.get (AH a);apply{v,?_,by simp_all};rw[AZ (by rw[AX,<-r.len];show a),AY,b];rfl
 ·rw[Ai (by simp_all),DU]at h
  split at h<;>cases h
def bw9{K}{ds cs}{us}(r:IsDs K H ds vs)(a:IsDs K H cs us):RelE K H (Q7 N ds cs) (L2.D3 N (vs++us)):=a88 (r.append a)
def cq9{P}{w}{K}{mg:Str->Option AG}{base}{n np}{fa}{Y:List Str}{b}{cs:List D}{Z}(R:CloF fd np N Y b)
  (F:∀(q:Str)(A:BW)(f:List Env)(s:AL)(H:Hp),Room n (cxC P w K mg base N fd.scope fd.closure q fa fd.code A f s H).A->cq5 (cxC P w K mg base N fd.scope fd.closure q fa fd.code A f s H) fd.body Z b) :
  FnOk P w K mg base CX0 (n+1) fa fd Y (ab2 K fa fd np N cs λL M Q=>L.length=np/\i9 Z b {nx:=λ_ a=>∃k,Sub k a/\Q .non k,rt:=λd a=>∃k,Sub k a/\Q d k} (Q7 N L cs) M):=by
 apply{λb H Q E C=>?_,λA f s H b us vs Q E hr e0 hb r C=>?_}
 ·let{T,L,M,Qd,cr,ics,is,rs,j,hq}:=C;rw[<-is.len,j.1,R.np]
 ·let{T,L,M,Qd,cr,ics,is,rs,{hlen,j},hq}:=C;have S:=R.sc;have hl:vs.length=Y.length:=by rw[<-is.len,hlen,R.np]
  have lim:=e0.mod.nolimit.keeps λb o e=>(e0.bs b o e).1;let{o,u,f1,f2,f3}:=cr.ex;let{c,oc,uc,vc,q,t,c1,c2,c3,c4,c5}:=cr.cd;let{ho,_}:=e0.hok fa _ f1;let{hoc,_}:=e0.hok c _ c2;have hloc:∀y∈Y.zip us,fd.scope.names.lookup y.1=AA .local:=λ⟨x,v⟩b=>S.par x (FT b).1;apply cb0 hr.depth ho f3 S.co S.gen c1 hoc c4 c5 (hb _ _ _ _ ?_);rw[R.gl,R.bl];apply Ja S.nocell hloc (λb hns hsb=>?_) S.kind;have hk:=λb o e=>hsb.extBut b o (BO (BC e)) (AQ _ e);apply{lim.keeps hk,?_};have I:=bx7 (q:=q) (tk:=s.toks+(Y.zip us).length) R cr hr.hd e0 hl r hns hk;have O:=F q A f s H (hr.deeper _);have hE:RelE K H (Q7 N L cs) (D3 N (vs++T)):=bw9 is ics;have G:∀{m}{g}{v}{u}{B},Inv (cxC P w K mg base N fd.scope fd.closure q fa fd.code A f s H) [] m g B->j7 v u->Q v g->CE f P w H s Q u B:=
   λ{m g v u B}J X q=>⟨v,g,J.os,J.bare,J.base,J.hok,X,q⟩
  have rt:∀v d g a,Ev M H a g->IsD K g d v->RelS K a g->(∃k,Sub k a/\Qd d k)->Q v g:=λv d g a p i h⟨k,U,q⟩=>hq v d g k (p.drop U) i (h.sub U) q;cases hfb:fd.body with
  |stmts l=>
   rw[hfb]at O;apply codeAny_func (Bk (O [] _ _ H {nx:=λ_ g=>Q .non g,rt:=Q} I {Q7 N L cs,M,_,hE,rs,j,λb c g a p d e q=>rt _ .non g a p .non e q,λb c g a p d e q=>q.elim,λb c g a p d e q=>q.elim,λv e g a p i h q=>rt v e g a p i h q}) (λfl B j=>?_) λe B z=>z.elim);cases fl with
   |ret u=>
    let{v,m,g,J,X,q}:=j;show G J X q
   |next=>
    let{m,g,J,q}:=j;show G (v:=V.non) J rfl q
   |brk=>
    let{_,_,_,q}:=j;show AV q
   |cont=>
    let{_,_,_,q}:=j;show AV q
  |expr x=>
   rw[hfb]at O;let{e,rfl,O}:=O;apply W.kla_codeExpr (Bk (O [] _ _ H Q I {Q7 N L cs,M,_,hE,rs,((j)),λv d g a p i h q=>rt v d g a p i h q}) (λu B j=>?_) λe B z=>z.elim);let{v,g,J,X,q}:=j;show G J X q
end
section
variable [Tbs]
variable{x:AU}{C:AU->Prop}{g m:Str}{sc:BL}
abbrev U9:List Str:=["len","abs","int","sum","list","tuple","isinstance","max","range","enumerate","reversed","str","bool","min","sorted","zip","any","dict"]
abbrev isM(f:Str):Bool:=f.cps.contains 46
structure FOk(X:Cx)(f:Str)(sp:Spec):Prop where
 ex:∃k a fd ps,FnOk X.prog X.w X.K X.mg X.base CX0 k a fd ps (D6 X.K sp)/\Room k X.A/\X.mg f=AA (.ref a)/\Bv X.K (.ref a)=AC/\v6 X.K fd ps []/\BB X.K AN f=AA (AA (.ref a))
abbrev A6:Str:=⟨#[33]⟩
abbrev B5(x:Str):Str:=⟨#[33]++x.cps⟩
abbrev ac4(p:Co):Option (List Str):=if p.posonlyargs.isEmpty&&p.vararg.isNone&&p.kwonlyargs.isEmpty&&p.kw_defaults.isEmpty&&p.kwarg.isNone&&p.defaults.isEmpty&&p.args.all (·.annotation.isNone)&&AB (p.args.map (·.arg)).Nodup&&!p.args.isEmpty&&AB (p.args.length<=3)then AA (p.args.map (·.arg))else AD
abbrev au4(sc:BL)(N:List Str)(scope:BL)(Nl ps:List Str)(np:Nat)(cp:List Nat):Bool:=
 (ps.length==np)&&(scope.kind==.function)&&!scope.isCoroutine&&!scope.isGenerator&&decide Nl.Nodup&&(Nl.take ps.length==ps)&&ps.all (λx=>scope.names.lookup x==AA .local)&&scope.names.all (λy=>!(y.2==.cell))&&
 scope.names.all (λy=>!(y.2==.free)||(scope.names.lookup y.1==AA .free&&sc.names.lookup y.1==AA .cell&&N.contains (B5 y.1)&&(CZ cp.length).any λi=>match cp[i]? with|some j=>N[j]?==AA y.1|none=>AF))&&
 (CZ cp.length).all (λi=>match cp[i]? with|some j=>(match N[j]? with|some x=>(Nl[np+i]?==AA x)&&scope.names.any (λz=>z.1==x&&z.2==.free)|none=>AF)|none=>AF)
abbrev glb(sc:BL)(f:Str):Bool:=sc.names.lookup f==AA .globalImplicit
abbrev af9(sc:BL)(x:Str):Bool:=match sc.names.lookup x with
 |some .local=>AC|some .cell=>AC|some .free=>AC|_=>AF
abbrev P2(sc:BL)(x:Str):Bool:=match sc.names.lookup x with
 |some .local=>AC|some .cell=>AC|_=>AF
abbrev lcl(sc:BL)(x:Str):Bool:=sc.names.lookup x==AA .local
abbrev okN(x:Str):Bool:=!(x==("__debug__":Str))&&!(x==("__classdict__":Str))
abbrev bk7(x:AU):Bool:=!([22,26,7].contains x.ctorIdx)
abbrev F7(x:AU):Bool:=!(x.ctorIdx==5)
abbrev M7(x:AU):Bool:=!([8,9,10].contains x.ctorIdx)
abbrev ax9(scope sc:BL):BL:=
 {scope with names:=scope.names.map λ(n,k)=>if(k==.free&&sc.kind==.function&&sc.names.lookup n==AA .cell)then(n,.cell)else(n,k)}
abbrev aa2(sc scope:BL)(N Nc:List Str)(fr:List Nat)(k:Nat):Bool:=
 (scope.kind==.function)&&scope.names.all (λy=>!(y.2==.cell))&&scope.names.all (λy=>!(y.2==.local)||scope.names.lookup y.1==AA .local)&&
 scope.names.all (λy=>!(y.2==.free)||sc.names.lookup y.1==AA .cell||sc.names.lookup y.1==AA .free)&&scope.names.all (λy=>!(y.2==.free)||!(scope.names.any λz=>z.1==y.1&&z.2==.local))&&
 decide Nc.Nodup&&!(Nc.contains A6)&&(Nc.length==fr.length+k)&&((CZ fr.length).all λi=>match Nc[i]?,fr[i]? with
  |some x,AA j=>(N[j]?==AA x)&&scope.names.any (λz=>z.1==x&&z.2==.free)|_,_=>AF)
def an{a b:Bool}(h:(a&&b)=AC):a=AC/\b=AC:=FL.1 h
def nt{b}(h:(!b)=AC):b=AF:=by grind
def dE{p}[Decidable p]{f:p->Bool}{C:Prop}(h:(if h:p then f h else AF)=AC)(H:∀e,f e=AC->C):C:=by
 lia
abbrev xBo(x:AU)(k:Lk->List AU->Pos->Bool):Bool:=if h:x.ctorIdx=0 then FW x h k else AF
def br3{k}(h:xBo x k=AC)(H:∀o l p,k o l p=AC->C (.BoolOp o l p)):C x:=
 dE h λe=>FW x e (λo l p _=>H o l p) e
abbrev xBi(x:AU)(k:AU->FG->AU->Pos->Bool):Bool:=if h:x.ctorIdx=2 then Fn x h k else AF
def dn5{k}(h:xBi x k=AC)(H:∀a o b p,k a o b p=AC->C (.BinOp a o b p)):C x:=
 dE h λe=>Fn x e (λa o b p _=>H a o b p) e
abbrev xU(x:AU)(k:UnaryOp->AU->Pos->Bool):Bool:=if h:x.ctorIdx=3 then Ey x h k else AF
def xU_{k}(h:xU x k=AC)(H:∀o a p,k o a p=AC->C (.UnaryOp o a p)):C x:=
 dE h λe=>Ey x e (λo a p _=>H o a p) e
abbrev xIf(x:AU)(k:AU->AU->AU->Pos->Bool):Bool:=if h:x.ctorIdx=5 then Fp x h k else AF
def dh9{k}(h:xIf x k=AC)(H:∀a b c p,k a b c p=AC->C (.IfExp a b c p)):C x:=
 dE h λe=>Fp x e (λa b c p _=>H a b c p) e
abbrev xD(x:AU)(k:List (Option AU)->List AU->Pos->Bool):Bool:=if h:x.ctorIdx=6 then GT x h k else AF
def xD_{k}(h:xD x k=AC)(H:∀a b p,k a b p=AC->C (.Dict a b p)):C x:=
 dE h λe=>GT x e (λa b p _=>H a b p) e
abbrev xLC(x:AU)(k:AU->List Ib->BL->Pos->Bool):Bool:=if h:x.ctorIdx=8 then Eh x h k else AF
def dj8{k}(h:xLC x k=AC)(H:∀a g s p,k a g s p=AC->C (.ListComp a g s p)):C x:=
 dE h λe=>Eh x e (λa g s p _=>H a g s p) e
abbrev xCm(x:AU)(k:AU->List Do->List AU->Pos->Bool):Bool:=if h:x.ctorIdx=15 then Ez x h k else AF
def bs4{k}(h:xCm x k=AC)(H:∀a o b p,k a o b p=AC->C (.Compare a o b p)):C x:=
 dE h λe=>Ez x e (λa o b p _=>H a o b p) e
abbrev xCa(x:AU)(k:AU->List AU->List Hw->Pos->Bool):Bool:=if h:x.ctorIdx=16 then GU x h k else AF
def dg7{k}(h:xCa x k=AC)(H:∀f a w p,k f a w p=AC->C (.Call f a w p)):C x:=
 dE h λe=>GU x e (λf a w p _=>H f a w p) e
abbrev xK(x:AU)(k:Const->Nat->Pos->Bool):Bool:=if h:x.ctorIdx=19 then Ei x h k else AF
def xK_{k}(h:xK x k=AC)(H:∀c n p,k c n p=AC->C (.Constant c n p)):C x:=
 dE h λe=>Ei x e (λc n p _=>H c n p) e
abbrev xA(x:AU)(k:AU->Str->Pos->Bool):Bool:=if h:x.ctorIdx=20 then EU x h k else AF
def xA_{k}(h:xA x k=AC)(H:∀a f p,k a f p=AC->C (.Attribute a f p)):C x:=
 dE h λe=>EU x e (λa f p _=>H a f p) e
abbrev xS(x:AU)(k:AU->AU->Pos->Bool):Bool:=if h:x.ctorIdx=21 then EV x h k else AF
def xS_{k}(h:xS x k=AC)(H:∀a b p,k a b p=AC->C (.Subscript a b p)):C x:=
 dE h λe=>EV x e (λa b p _=>H a b p) e
abbrev xN(x:AU)(k:Str->Pos->Bool):Bool:=if h:x.ctorIdx=23 then GV x h k else AF
def xN_{k}(h:xN x k=AC)(H:∀y p,k y p=AC->C (.Name y p)):C x:=
 dE h λe=>GV x e (λy p _=>H y p) e
abbrev xL(x:AU)(k:List AU->Pos->Bool):Bool:=if h:x.ctorIdx=24 then GW x h k else AF
def xL_{k}(h:xL x k=AC)(H:∀l p,k l p=AC->C (.List l p)):C x:=
 dE h λe=>GW x e (λl p _=>H l p) e
abbrev xT(x:AU)(k:List AU->Nat->Pos->Bool):Bool:=if h:x.ctorIdx=25 then Fq x h k else AF
def xT_{k}(h:xT x k=AC)(H:∀l n p,k l n p=AC->C (.Tuple l n p)):C x:=
 dE h λe=>Fq x e (λl n p _=>H l n p) e
abbrev xSl(x:AU)(k:Option AU->Option AU->Option AU->Pos->Bool):Bool:=if h:x.ctorIdx=26 then Fu x h k else AF
def ax1{k}(h:xSl x k=AC)(H:∀l u s p,k l u s p=AC->C (.Slice l u s p)):C x:=
 dE h λe=>Fu x e (λl u s p _=>H l u s p) e
abbrev l1{α:Type}(l:List α)(k:α->Bool):Bool:=Dv (motive:=λ_=>Bool) l AF λp r=>r.isEmpty&&k p
def l1_{α}{l}{k}{C:List α->Prop}(h:l1 l k=AC)(H:∀p,k p=AC->C [p]):C l:=
 match l,h with
 |[p],h=>H p h
abbrev l2{α:Type}(l:List α)(k:α->α->Bool):Bool:=Dv (motive:=λ_=>Bool) l AF λp r=>l1 r (k p)
def l2_{α}{l}{k}{C:List α->Prop}(h:l2 l k=AC)(H:∀p q,k p q=AC->C [p,q]):C l:=
 match l,h with
 |p::r,h=>l1_ (C:=λr=>C (p::r)) h λq=>H p q
abbrev lb(l:List AU)(k:AU->AU->Bool)(m:AU->List AU->Bool):Bool:=Dv (motive:=λ_=>Bool) l AF λp r=>if r.length=1 then l1 r (k p)else AB (2<=r.length)&&m p r
abbrev xKc(x:AU)(c:Const):Bool:=xK x λd _ _=>d==c
def Y1{c}(h:xKc x c=AC)(H:∀n p,C (.Constant c n p)):=
 xK_ h λd n p e=>beq_iff_eq.1 e▸H n p
abbrev R4(x:AU)(g:Str):Bool:=xN x λy _=>y==g
def T3(h:R4 x g=AC)(H:∀p,C (.Name g p)):=
 xN_ h λy p e=>beq_iff_eq.1 e▸H p
abbrev xCl(x:AU)(k:AU->List AU->Pos->Bool):Bool:=xCa x λf a w p=>w.isEmpty&&k f a p
def ag1{k}(h:xCl x k=AC)(H:∀f a p,k f a p=AC->C (.Call f a [] p)):C x:=
 dg7 h λf a w p h=>by
  simp_all
abbrev R1(x:AU):Bool:=!(xCl x λf a _=>a.isEmpty&&xN f λ_ _=>AC)
abbrev xG(g:Str)(sc:BL)(x:AU)(k:List AU->Bool):Bool:=xCl x λf a _=>R4 f g&&(glb sc g&&k a)
def xG_{k}{C:AU->Prop}(h:xG g sc x k=AC)(H:∀q a p,glb sc g=AC->k a=AC->C (.Call (.Name g q) a [] p)):=
 ag1 h λf a p h=>T3 (C:=λf=>C (.Call f a [] p)) (an h).1 λq=>H q a p (an (an h).2).1 (an (an h).2).2
abbrev xC1(g:Str)(sc:BL)(x:AU)(k:AU->Bool):Bool:=xG g sc x λa=>l1 a k
def L6{k}{C:AU->Prop}(h:xC1 g sc x k=AC)(H:∀q a p,glb sc g=AC->k a=AC->C (.Call (.Name g q) [a] [] p)):=
 xG_ h λq a p b h=>l1_ (C:=λa=>C (.Call (.Name g q) a [] p)) h λa=>H q a p b
abbrev xC2(g:Str)(sc:BL)(x:AU)(k:AU->AU->Bool):Bool:=xG g sc x λa=>l2 a k
def Y0{k}{C:AU->Prop}(h:xC2 g sc x k=AC)(H:∀q a b p,glb sc g=AC->k a b=AC->C (.Call (.Name g q) [a,b] [] p)):=
 xG_ h λq a p c h=>l2_ (C:=λa=>C (.Call (.Name g q) a [] p)) h λa b=>H q a b p c
abbrev xM(m:Str)(x:AU)(k:AU->List AU->Bool):Bool:=xCl x λf a cp=>xA f λo n ap=>(n==m)&&((ap.endLine==cp.line)&&k o a)
def xM_{k}{C:AU->Prop}(h:xM m x k=AC)(H:∀o c a b,(c.endLine==b.line)=AC->k o a=AC->C (.Call (.Attribute o m c) a [] b)):=
 ag1 h λf a b h=>xA_ (C:=λf=>C (.Call f a [] b)) h λo n c h=>beq_iff_eq.1 (an h).1▸H o c a b (an (an h).2).1 (an (an h).2).2
abbrev xM0(m:Str)(x:AU)(k:AU->Bool):Bool:=xM m x λo a=>a.isEmpty&&(R1 o&&k o)
def bs0{k}(h:xM0 m x k=AC)(H:∀o c b,(c.endLine==b.line)=AC->R1 o=AC->k o=AC->C (.Call (.Attribute o m c) [] [] b)):=
 xM_ h λo c a b e h=>by
  cases a with
  |nil=>show H o c b e (an (an h).2).1 (an (an h).2).2
  |cons=>show(AJ h).elim
abbrev xM1(m:Str)(x:AU)(k j:AU->Bool):Bool:=xM m x λo a=>l1 a λp=>R1 o&&(k o&&j p)
def af7{k j}{C:AU->Prop}(h:xM1 m x k j=AC)(H:∀o c p b,(c.endLine==b.line)=AC->R1 o=AC->k o=AC->j p=AC->C (.Call (.Attribute o m c) [p] [] b)):=
 xM_ h λo c a b e h=>l1_ (C:=λa=>C (.Call (.Attribute o m c) a [] b)) h λp h=>H o c p b e (an h).1 (an (an h).2).1 (an (an h).2).2
abbrev xCo(x:AU)(k:Do->AU->AU->Bool):Bool:=xCm x λa o b _=>l1 o λo=>l1 b λb=>k o a b
def X3{k}{C:AU->Prop}(h:xCo x k=AC)(H:∀o a b p,k o a b=AC->C (.Compare a [o] [b] p)):=
 bs4 h λa o b p h=>l1_ (C:=λo=>C (.Compare a o b p)) h λo h=>l1_ (C:=λb=>C (.Compare a [o] b p)) h λb=>H o a b p
abbrev mTg(ow:Bool)(t:Tg)(sc:BL)(N:List Str)(x:AU):Bool:=match t with
 |.n i=>xN x λy _=>(N[i]?==AA y)&&P2 sc y&&((ow&&!(N.contains (B5 y)))||lcl sc y)
 |.tup is=>xT x λes _ _=>(is.length==es.length)&&((is.zip es).all λp=>xN p.2 λy _=>(N[p.1]?==AA y)&&P2 sc y&&((ow&&!(N.contains (B5 y)))||lcl sc y))
abbrev oE(lo:E)(m:AU->Bool)(l:Option AU):Bool:=Gp (motive:=λ_=>Bool) l lo.isNon λl=>!lo.isNon&&m l
abbrev cE(c:E)(m:AU->Bool)(l:List AU):Bool:=if l.isEmpty then c.isNon else l1 l λx=>!c.isNon&&(F7 x&&m x)
mutual
noncomputable def mE:E->BL->List Str->AU->Bool
 |.non,_,_,x=>xKc x .none
 |.bl b,_,_,x=>xKc x (.bool b)
 |.int i,_,_,x=>xKc x (.int i)
 |.str y,_,_,x=>xKc x (.str y)
 |.v i,sc,N,x=>xN x λy _=>(N[i]?==AA y)&&(af9 sc y&&okN y)
 |.tup es,sc,N,x=>xT x λxs _ _=>mEs es sc N xs&&AB (es.len<=1000)
 |.lst es,sc,N,x=>xL x λxs _=>mEs es sc N xs&&AB (es.len<=1000)
 |.bin o a b,sc,N,x=>xBi x λp q r _=>(q==o)&&(mE a sc N p&&mE b sc N r)
 |.neg a,sc,N,x=>xU x λo p _=>(o==.USub)&&mE a sc N p
 |.cmp o a b,sc,N,x=>xCo x λq p r=>(q==o)&&(mE a sc N p&&mE b sc N r)
 |.isN a,sc,N,x=>xCo x λq p r=>(q==.Is)&&(xKc r .none&&mE a sc N p)
 |.notN a,sc,N,x=>xCo x λq p r=>(q==.IsNot)&&(xKc r .none&&mE a sc N p)
 |.and a b,sc,N,x=>xBo x λo l ps=>(o==.And)&&lb l (λp q=>mE a sc N p&&mE b sc N q&&F7 p&&F7 q) (λp r=>mE a sc N p&&mE b sc N (.BoolOp .And r ps)&&F7 p)
 |.or a b,sc,N,x=>xBo x λo l ps=>(o==.Or)&&lb l (λp q=>mE a sc N p&&mE b sc N q&&F7 p&&F7 q) (λp r=>mE a sc N p&&mE b sc N (.BoolOp .Or r ps)&&F7 p)
 |.not a,sc,N,x=>xU x λo p _=>(o==.Not)&&(mE a sc N p&&F7 p)
 |.ite c a b,sc,N,x=>xIf x λp q r _=>(mE c sc N p&&F7 p)&&(mE a sc N q&&mE b sc N r)
 |.ix a b,sc,N,x=>xS x λp q _=>mE a sc N p&&mE b sc N q
 |.sl a lo hi,sc,N,x=>xS x λp s _=>mE a sc N p&&xSl s λl h st _=>st.isNone&&(oE lo (mE lo sc N) l&&oE hi (mE hi sc N) h)
 |.slw a lo hi,sc,N,x=>xS x λp s _=>mE a sc N p&&xSl s λl h st _=>st.isNone&&(oE lo (mE lo sc N) l&&oE hi (mE hi sc N) h)
 |.gget g k d,sc,N,x=>xM "get" x λo a=>R4 o g&&(glb sc g&&(okN g&&l2 a λp q=>mE k sc N p&&mE d sc N q))
 |.gsel g k,sc,N,x=>xS x λn q _=>R4 n g&&(glb sc g&&(okN g&&mE k sc N q))
 |.len a,sc,N,x=>xC1 "len" sc x (mE a sc N)
 |.toInt a,sc,N,x=>xC1 "int" sc x (mE a sc N)
 |.list a,sc,N,x=>xC1 "list" sc x (mE a sc N)
 |.tuple a,sc,N,x=>xC1 "tuple" sc x (mE a sc N)
 |.isList a,sc,N,x=>xC2 "isinstance" sc x λp g=>R4 g "list"&&(glb sc "list"&&mE a sc N p)
 |.max a b,sc,N,x=>xC2 "max" sc x λp q=>mE a sc N p&&mE b sc N q
 |.min a b,sc,N,x=>xC2 "min" sc x λp q=>mE a sc N p&&mE b sc N q
 |.lzip a b,sc,N,x=>xC1 "list" sc x λz=>xC2 "zip" sc z λp q=>mE a sc N p&&mE b sc N q
 |.call f es,sc,N,x=>xG f sc x λl=>okN f&&(!isM f&&(!l.isEmpty&&mEs es sc N l))
 |.gf f,sc,_,x=>R4 x f&&(glb sc f&&(okN f&&!isM f))
 |.callx c es,sc,N,x=>xCl x λf l _=>xS f (λp q s=>mE c sc N (.Subscript p q s))&&(!l.isEmpty&&mEs es sc N l)
 |.callv i es,sc,N,x=>xCl x λf l _=>xN f (λy _=>(N[i]?==AA y)&&(af9 sc y&&okN y))&&(!l.isEmpty&&mEs es sc N l)
 |.isT t a,sc,N,x=>xC2 "isinstance" sc x λp g=>R4 g (Ac t)&&(glb sc (Ac t)&&(P9.contains t&&mE a sc N p))
 |.cmpl ne a b,sc,N,x=>xCo x λq p r=>(q==(if ne then CmpOp.NotEq else .Eq))&&(mE a sc N p&&mE b sc N r)
 |.fld a f,sc,N,x=>xA x λo g _=>(g==f)&&(R1 o&&mE a sc N o)
 |.methd a m es,sc,N,x=>xM m x λo l=>(R1 o&&mE a sc N o)&&(!l.isEmpty&&(mEs es sc N l&&AB (l.length<29)))
 |.meth a m es,sc,N,x=>xM m x λo l=>(R1 o&&mE a sc N o)&&(mEs es sc N l&&AB (l.length<29))
 |.make c es,sc,N,x=>xG c sc x λl=>okN c&&mEs es sc N l
 |.app a b,sc,N,x=>xM1 "append" x (mE a sc N) (mE b sc N)
 |.ext a b,sc,N,x=>xM1 "extend" x (mE a sc N) (mE b sc N)
 |.popAt a b,sc,N,x=>xM1 "pop" x (mE a sc N) (mE b sc N)
 |.pop a,sc,N,x=>xM0 "pop" x (mE a sc N)
 |.any a,sc,N,x=>xC1 "any" sc x (mE a sc N)
 |.chi a b c,sc,N,x=>xC1 "int" sc x λy=>xCm y λp o l _=>l2 o λo1 o2=>l2 l λq r=>(o1==.Lt)&&((o2==.Lt)&&(mE a sc N p&&(mE b sc N q&&mE c sc N r)))
 |.rsl a e,sc,N,x=>xS x λp s _=>mE a sc N p&&xSl s λl h st _=>l.isNone&&(h.isNone&&Gp (motive:=λ_=>Bool) st AF λy=>mE e sc N y)
 |.inl a b,sc,N,x=>xCo x λq p r=>(q==.NotIn)&&(mE a sc N p&&mE b sc N r)
 |.dnt,sc,N,x=>xD x λl r _=>l.isEmpty&&r.isEmpty
 |.dgt a b,sc,N,x=>xM1 "get" x (mE a sc N) (mE b sc N)
 |.din ne a b,sc,N,x=>xCo x λq p r=>(q==(if ne then IG else .In))&&(mE a sc N p&&mE b sc N r)
 |.lrev a,sc,N,x=>xM0 "reverse" x (mE a sc N)
 |.gc g,sc,_,x=>R4 x g&&(glb sc g&&okN g)
 |.comp Nc fr k t it c e,sc,N,x=>xLC x λel g scope _=>l1 g λg=>(g.is_async==0)&&(aa2 sc scope N Nc fr k&&(mIt it sc N g.target g.iter&&(mTg AF t (ax9 scope sc) Nc g.target&&(mE e (ax9 scope sc) Nc el&&cE c (mE c (ax9 scope sc) Nc) g.ifs))))
noncomputable def mEs:Es->BL->List Str->List AU->Bool
 |.nil,_,_,xs=>xs.isEmpty
 |.cons e r,sc,N,xs=>Dv (motive:=λ_=>Bool) xs AF λx xs=>mE e sc N x&&mEs r sc N xs
noncomputable def mIt:It->BL->List Str->AU->AU->Bool
 |.seq e,sc,N,_,x=>mE e sc N x
 |.rng a,sc,N,_,x=>xC1 "range" sc x (mE a sc N)
 |.rng2 a b,sc,N,_,x=>xC2 "range" sc x λp q=>mE a sc N p&&mE b sc N q
 |.enum e,sc,N,tg,x=>xT tg (λ_ _ _=>AC)&&xC1 "enumerate" sc x (mE e sc N)
 |.revt e,sc,N,_,x=>xC1 "reversed" sc x (mE e sc N)
 |.rev e,sc,N,_,x=>xC1 "reversed" sc x (mE e sc N)
end
structure XOk(Z:Sg)(X:Cx):Prop where
 calm:X.calm=AC
 xe:X.xe=λ_ _=>False
 units:X.A.units+200<Bs
 nd:X.N.Nodup
 blt:∀b∈U9,X.mg b=AD
 fns:∀f,isM f=AF->Z.F f=AC->FOk X f (Z.Phi f)
 fnd:∀f,isM f=AF->Z.F f=AC->C6 Z.C f=AA 0->∃k a fd ps,FnOk X.prog X.w X.K X.mg X.base CX0 k a fd ps (D6 X.K (Z.Phi f))/\Room k X.A/\X.mg f=AA (.ref a)/\Bv X.K (.ref a)=AC/\v6 X.K fd ps [.none]
 nom:∀f fa,Z.F f=AC->BB X.K AN f=AA (AA (.ref fa))->isM f=AF
 cls:∀f c Ca,BB X.K AN c=AA (AA (.ref Ca))->f∈Z.C c->Cls X.K Ca/\M6 X.K Ca f
 mth:∀m c Ca,BB X.K AN c=AA (AA (.ref Ca))->Z.F (f8 c m)=AC->∃k f fd ps,Cls X.K Ca/\Meth X.K Ca m f/\FnOk X.prog X.w X.K X.mg X.base CX0 k f fd ps (D6 X.K (Z.Phi (f8 c m)))/\Room k X.A/\v6 X.K fd ps []
 mthd:∀m c Ca i,BB X.K AN c=AA (AA (.ref Ca))->Z.F (f8 c m)=AC->C6 Z.C (f8 c m)=AA i->∃k f fd ps tk,Cls X.K Ca/\Meth X.K Ca m f/\FnOk X.prog X.w X.K X.mg X.base CX0 k f fd ps (D6 X.K (Z.Phi (f8 c m)))/\Room k X.A/\v6 X.K fd ps [.int i tk]
 mks:∀c,Z.MF (f8 c "__init__")=AC->∃Ca k f fd ps,BB X.K AN c=AA (AA (.ref Ca))/\Mk X.K Ca f/\FnOk X.prog X.w X.K X.mg X.base CX0 k f fd ps (D6 X.K (Z.Mk (f8 c "__init__")))/\Room (k+1) X.A/\X.mg c=AA (.ref Ca)/\v6 X.K fd ps []
 tabs:∀g,Z.G g≠[]->GTab X.prog X.w X.K X.mg g (Z.G g)
 cst:∀g d,Z.Kc g=AA d->∃u,X.mg g=AA u/\O6 X.K d u=AC
 isc:∀c∈Z.C "!is",∃Ca,X.mg c=AA (.ref Ca)/\IscOk X.K c Ca
 kt:Tbs.kt=(Z.C "!kt").isEmpty
 lam:X.N.contains A6=AC->LamOk X/\∀x,X.N.contains (B5 x)=AC->X.fn x=AF/\X.ow x=AC
 mtE:∀(e:E)(sc:BL)(N:List Str)(x:AU),mE e sc N x=AC->N.contains A6=AF->Tbs.mt (.cons (.ret e) .nil) sc N (.expr x)
 clo:∀np N b cs fa fd ps,CloF fd np N ps b->∃k,FnOk X.prog X.w X.K X.mg X.base CX0 k fa fd ps (ab2 X.K fa fd np N cs (Z.PhiC np N b cs))/\Room k X.A
end
section
variable [Tbs]
variable{x:AU}{Z:Sg}{X:Cx}{f:Str}{ow:Bool}{scope:BL}{Nc:List Str}{fr:List Nat}
structure Snd(Z:Sg)(X:Cx)(e:E)(x:AU):Prop where
 v:PE X x (up X.K (wpE Z e))
 t:F7 x=AC->PT X x (upB X.K (wpT Z e))
 w:∀op vs p,x=.BoolOp op vs p->PW X x (upB X.K (wpT Z e))
 st:∀y p,x≠.Starred y p
 sl:∀l u s p,x≠.Slice l u s p
 se:∀l k p,x≠.Set l k p
def ay6(h:bk7 x=AC):(∀y p,x≠.Starred y p)/\(∀l u s p,x≠.Slice l u s p)/\∀l k p,x≠.Set l k p:=
 {λ_ _ z=>(by rw[z]at h;cases h),λ_ _ _ _ z=>(by rw[z]at h;cases h),λ_ _ _ z=>by rw[z]at h;cases h}
def Snd.plain{e}(f:PE X x (up X.K (wpE Z e)))(g:∀a,IF x X.env a=do let v <-a;Hs x.pos;holding [v] (truthy v))(d:bk7 x=AC)(h:∀c b p,x≠.BoolOp c b p):Snd Z X e x:=
 {f,λ_=>c89 f g,λc b p z=>absurd z (h c b p),(ay6 d).1,(ay6 d).2.1,(ay6 d).2.2}
abbrev cz1(x:AU):Bool:=[2,4,6,8,16,19,20,21,23,24,25].contains x.ctorIdx
def Snd.pl{e:E}(a:PE X x (up X.K (wpE Z e)))(h:cz1 x=AC):Snd Z X e x:=by
 cases x<;>first|show(AJ h).elim|show Snd.plain a (λ_=>rfl) rfl (by intros;show nofun)
def u3(h:glb X.env.scope f=AC):Gl X f:=by
 have:=by simpa[glb]using h
 show this
def bj9{sc}(h:af9 sc f=AC):Vis sc f:=by
 unfold af9 at h
 split at h
 ·show .inl (by assumption)
 ·show .inr (.inl (by assumption))
 ·show .inr (.inr (by assumption))
 ·cases h
def W0{sc}(h:P2 sc f=AC):Loc sc f:=by
 unfold P2 at h
 split at h
 ·show .inl (by assumption)
 ·show .inr (by assumption)
 ·cases h
def J8{x}(h:okN x=AC):(x=="__debug__")=AF/\(x=="__classdict__")=AF:=by
 simpa[okN]using h
def O7{o}(h:R1 o=AC):∀i p a,o≠.Call (.Name i p) [] [] a:=λ_ _ _ z=>by rw[z]at h;cases h
def XOk.blt'(h:XOk Z X)(b:Str)(a:U9.contains b=AC:=by decide):X.mg b=AD:=h.blt b (by simpa using a)
def XOk.pass(h:XOk Z X):HV (model X.prog X.w) X.A X.env X.xe:=h.xe▸PassesOwn.never
def bp7(a:ow=AC->∀y,Loc X.env.scope y->X.N.contains (B5 y)=AF->X.fn y=AC\/X.env.scope.names.lookup y=AA .local)(i:Nat)y(p:Pos)(h:(X.N[i]?==AA y&&P2 X.env.scope y&&(ow&&! X.N.contains (B5 y)||lcl X.env.scope y))=AC):X.N[i]?=AA y/\Loc X.env.scope y/\(X.fn y=AC\/X.env.scope.names.lookup y=AA .local):=by
 erw[BG,beq_iff_eq,KG,EM]at h;apply{h.1.1,W0 h.1.2,?_}
 rcases h.2 with z|z
 ·show a z.1 y (W0 h.1.2) z.2
 ·show .inr (by simpa[lcl]using z)
def bp8(q:X.N.Nodup)(l:ow=AC->∀y,Loc X.env.scope y->X.N.contains (B5 y)=AF->X.fn y=AC\/X.env.scope.names.lookup y=AA .local):∀(f:List Nat)(d:List AU),f.length=d.length->((f.zip d).all λp=>xN p.2 λy _=>(X.N[p.1]?==AA y)&&P2 X.env.scope y&&((ow&&!(X.N.contains (B5 y)))||lcl X.env.scope y))=AC->PGs X d (X8 f)/\(Bg d X.env).length=f.length/\(Bg d X.env).findIdx? (·.1)=AD:=by
 intro f
 induction f with
 |nil=>
  intro d k _;cases d with
  |nil=>show⟨co0,rfl,rfl⟩
  |cons a b=>cases k
 |cons i f o=>
  intro d k h;cases d with
  |nil=>cases k
  |cons e d=>
   let{m,r}:=an h;let{u,t,s}:=o d (Dm k) r;apply xN_ (C:=λe=>PGs X (e::d) (X8 (i::f))/\(Bg (e::d) X.env).length=(i::f).length/\(Bg (e::d) X.env).findIdx? (·.1)=AD) m λy n m=>?_;let{a,b,c}:=bp7 l i y n m;apply{b39 (bf4 q a b c) u rfl,congrArg (·+1) t,?_};change List.findIdx? _ ((AF,assign (.Name y n) X.env)::Bg d X.env)=AD;rw[List.findIdx?_cons];rw[s];rfl
def af2{t}(j:X.calm=AC)(f:X.N.Nodup)(d:ow=AC->∀y,Loc X.env.scope y->X.N.contains (B5 y)=AF->X.fn y=AC\/X.env.scope.names.lookup y=AA .local)(h:mTg ow t X.env.scope X.N x=AC):PG X x (upG X.K t):=by
 cases t with
 |n i=>
  apply xN_ (C:=λx=>PG X x (upG X.K (.n i))) h λy p h=>?_;let{a,b,c}:=bp7 d _ _ p h;show cd2 f a b c
 |tup e=>
  apply xT_ (C:=λx=>PG X x (upG X.K (.tup e))) h λq k p h=>?_;let{o,m,l}:=bp8 f d e q (beq_iff_eq.1 (an h).1) (an h).2;show c30 j o m l
def bb1{k:Nat}(h:aa2 X.env.scope scope X.N Nc fr k=AC):CompScope X scope Nc fr k:=by
 unfold aa2 at h;erw[BG,beq_iff_eq,decide_eq_true_eq,ED]at h;let{{{{{{{{w,v},u},t},s},r},_},p},o}:=h;apply{w,λy b=>?_,λy b l=>?_,λy b d=>?_,λy b d c=>?_,r,p,λi x g m=>?_}
 ·simpa using v y b
 ·have:=u y b;rw[l]at this;simpa using this
 ·have:=t y b;rw[d]at this;simpa using this
 ·have:=s y b;rw[d]at this;have:(scope.names.any λz=>z.1==y.1&&z.2==.local)=AF:=by simpa using this
  rw[Gy]at this;show absurd ∎ (this _ c)
 ·have:=o i (by simpa using m);rw[g]at this;cases q:fr[i]? with
  |none=>rw[q]at this;cases this
  |some j=>
   rw[q]at this;erw[BG,beq_iff_eq,GF]at this;let{a,{n,A},c,f,e}:=this;simp only at f e;subst f e;show⟨j,rfl,a,c⟩
def ac1{k}(h:aa2 X.env.scope scope X.N Nc fr k=AC):=by
 unfold aa2 at h;erw[BG,EM]at h;show h.1.1.2
theorem XOk.comp{k}(h:XOk Z X)(r:Nc.contains A6=AF)(S:CompScope X scope Nc fr k)C(u:List AI)pins(s:AL)H:XOk Z (X.comp scope Nc C u pins s H) where
 calm:=h.calm
 xe:=rfl
 units:=h.units
 nd:=S.nd
 blt:=h.blt
 fns:=λf j l=>let⟨k,a,n,e,x⟩:=(h.fns f j l).ex;⟨k,a,n,e,x⟩
 fnd:=λf j l=>h.fnd f j l
 nom:=λf o a=>h.nom f o a
 cls:=λf c d a=>h.cls f c d a
 mth:=λm c d a=>h.mth m c d a
 mthd:=λm c d i a b=>h.mthd m c d i a b
 mks:=λc=>h.mks c
 tabs:=λg t=>⟨(h.tabs g t).ex⟩
 lam:=λz=>by
  have p:Nc.contains A6=AC:=z;rw[r]at p;cases p
 cst:=h.cst
 isc:=h.isc
 kt:=h.kt
 mtE:=h.mtE
 clo:=λq N b v o n e=>h.clo q N b v o n e
theorem fmc{b c:Type}{f g:b->Option c}:∀{l:List b},(∀n∈l,f n=g n)->l.filterMap f=l.filterMap g
 |[],_=>rfl
 |a::l,h=>by rw[Cw,Cw,h a (.head _),fmc λn d=>h n (.tail _ d)]
theorem bb8:∀(b:List Str)(c:List AG),b.Nodup->c.length=b.length->(b.filterMap λn=>((b.zip c).lookup n).map (n,·))=b.zip c/\∀n∈b,((b.zip c).lookup n).isNone=AF
 |[],c,_,_=>⟨rfl,nofun⟩
 |a::b,u::c,f,g=>by
  let{h,i}:=bb8 b c (BP.1 f).2 (Dm g);apply{?_,λn d=>?_}
  ·rw[Gf,Cw,EC,beq_self_eq_true];apply congrArg ((a,u)::·) (Ka (fmc λn d=>?_) h);rw[EC,beq_false_of_ne λe:n=a=>(BP.1 f).1 (e▸d)]
  ·rw[Gf,EC];cases e:n==a with
   |true=>rfl
   |false=>grind
def fz{c b a:Type}{z:List c}{i}{f}{g:b->Sem a}(d:z=[]):forIn z i f>>=g=g i:=by subst d;rfl
def df3 name qual(l)fb(scope)cl(doc pm cv ct)us(h:us.length=(l.map EW).length)(e:(l.map EW).Nodup):EA (M9 name qual {[],l,AD,[],[],AD,[]} fb scope cl doc pm cv ct) {us,[]}=pure ((l.map EW).zip us):=by
 let{c,b}:=bb8 (l.map EW) us e h;have g:¬(AB (us.length>(l.map EW).length)&&AC)=AC:=by rw[h];simp
 have a:(Gg (0-(l.map EW).length) ([]:List AG))=[]:=KH;have f:¬(!(((l.map EW).take ((l.map EW).length-(Gg (0-(l.map EW).length) ([]:List AG)).length)).filter (λn=>(((l.map EW).zip us).lookup n).isNone)).isEmpty)=AC:=by
  rw[a,Aq,Ll,Ep,IA.2 λn d=>b n d▸AJ];show AJ
 show (if_neg g).trans ((if_neg f).trans ((fz ((congrArg _ a).trans Im)).trans (congrArg (pure:List (Str×AG)->Sem _) ((congrArg _ (BF _)).trans c))))
theorem br6 env:∀l,(l.all λa=>a.annotation.isNone)=AC->annotationsOf (l++[]++[]++[]++[]) env=[]
 |[],_=>rfl
 |⟨_,AD,_⟩::l,h=>br6 env l h
def bv9{p}{ps}(h:ac4 p=AA ps):p.defaults=[]/\p.kw_defaults=[]/\(∀a,defaultsOf p a=([],[]))/\(∀a,annTrees p AD a=[]) /\
  ∀e d(u)(b)x(f g v w)c,c.length=ps.length->EA (M9 e d p u b x f g v w) {c,[]}=pure (ps.zip c):=by
 let{z,l,y,A,B,C,D}:=p;unfold ac4 at h
 split at h
 ·rename_i j;cases h;let{{{{{{{{{t,s},r},q},o},n},m},k},_},_}:=by simpa only[BG,GH,Cq,decide_eq_true_eq]using j
  subst t s r q o n;show{rfl,rfl,λ_=>rfl,λa=>(BF _).trans (br6 a l m),λ_ _ _ _ _ _ _ _ _ c i=>df3 _ _ l _ _ _ _ _ _ _ c i k}
 ·cases h
def cd5{e:Co}{t:Di}{z:Nat}{w m:List Str}{v:List Nat}{b:Ss}(h:au4 X.env.scope X.N scope w m z v=AC)(U:∀x,X.N.contains (B5 x)=AC->X.fn x=AF/\X.ow x=AC)(D:Tbs.mt b scope w t)
  (l:∀(g f:Str)(T:List (Str×AI))(u C R S:AG)(p:List AG),p.length=m.length->EA (M9 g f e t scope T u C R S) {p,[]}=pure (m.zip p)):NestOk X e t scope z w m v b:=by
 unfold au4 at h;erw[BG,beq_iff_eq,EM,decide_eq_true_eq,ED]at h;let{{{{{{{{{Q,P},O},M},L},K},J},I},H},s}:=h;have q:∀x,(x,Az)∈scope.names->scope.names.lookup x=AA .free/\X.env.scope.names.lookup x=AA .cell/\X.N.contains (B5 x)=AC/\∃i:Nat,∃j:Nat,v[i]?=AA j/\X.N[j]?=AA x:=λx n=>by
  have:=H _ n;erw[beq_self_eq_true,ES,Hk,BG,beq_iff_eq,GF]at this;let{{{a,b},c},i,_,d}:=this;apply{a,b,c,i,?_}
  split at d
  ·rename_i j o;show{j,o,by simpa using d}
  ·cases d
 apply{{P,O,M,L,K,J,λy r=>by simpa using I y r,λy r F=>?_},Q,D,l,λi j o=>?_,λx n=>?_}
 ·let{y,k}:=y;subst F;show(q y r).1
 ·have G:=(AS.mp o).1;have:=s i (by simpa using G);rw[o]at this;simp only at this
  split at this
  ·rename_i x n;erw[BG,beq_iff_eq,GF]at this;let{a,{y,k},E,B,A}:=this;simp only at B A;subst B A;show⟨_,n,a,E⟩
  ·cases this
 ·simp_all
end
section
variable [Tbs]
section
variable {X:Cx} {a b c:AU} {pos p0:Pos}
abbrev dl1(ta tb tc:TE):TE:=λσ H Q=>ta σ H λx H1=>tb σ H1 λy H2=>∃i j,x=.int i/\y=.int j/\(if i<j then tc σ H2 λz H3=>∃k,z=.int k/\Q (.bl (AB (j<k))) H3 else Q (.bl AF) H2)
def cw8{q p o:TE}(M:PE X a q)(L:PE X b p)(K:PE X c o)(J:lastMarks [.Lt,.Lt] [b,c]=AF):PE X (.Compare a [.Lt,.Lt] [b,c] pos) (dl1 q p o):=by
 intro d s g H Q I h;apply Compare_chain (ops:=[]) (rs:=[]) ?_ J;apply thn (M d s g H _ I h) λv B n=>?_;let{x,U,S,E,G}:=n;apply chain_link ?_;apply thn (L d B g U _ S G) λu A m=>?_;let{y,T,r,D,i,j,P,O,f}:=m;subst P O;let{t,rfl}:=E;let{W,rfl}:=D;apply HM (CB ?_)
 by_cases e:i<j
 ·rw[if_pos e]at f;rw[decide_eq_true e,if_pos rfl];apply chain_last (thn (K d A g T _ r f) λw Y l=>?_);let{z,Z,R,C,k,N,F}:=l;subst N;let{V,rfl}:=C;show HM {.bl _,_,R,rfl,F}
 ·rw[if_neg e]at f;rw[decide_eq_false e,if_neg ∅];show{.bl AF,_,r,rfl,f}
def cp7{ta tb tc}(S:PE X a (up X.K ta))(R:PE X b (up X.K tb))(P:PE X c (up X.K tc))(O:lastMarks [.Lt,.Lt] [b,c]=AF):PE X (.Compare a [.Lt,.Lt] [b,c] pos) (up X.K λg u Q=>ta g u λx s=>tb g s λy h=>∃i j,x=.int i/\y=.int j/\if i<j then tc g h λz n=>∃k,z=.int k/\Q (.bl (AB (j<k))) n else Q (.bl AF) h):=
 PE.imp (cw8 S R P O) λT H Q q=>by
  let{g,u,U,G,F,M,N}:=q;apply{g,u,_,G,F,M,λv d Y t J L B q=>{g,t,_,G.mono (J.tk F),B,q,λw e W h l E o m=>?_}};let{i,j,rfl,rfl,m}:=m;apply{i,j,(L.mono (l.tk B)).int_inv,E.int_inv,?_};have p:=(N.after J).after l
  by_cases r:i<j
  ·rw[if_pos r]at m ⊢;apply{g,h,_,(G.mono (J.tk F)).mono (l.tk B),o,m,λz f V n I D A C=>?_};let{k,rfl,C}:=C;show{k,D.int_inv,(p.after I).here (.bl _) A C}
  ·rw[if_neg r]at m ⊢;show p.here (.bl _) o m
def c12{p}{ta tb tc}(m:Gl X "int")(l:X.mg "int"=AD)(q:PE X a (up X.K ta))(o:PE X b (up X.K tb))(n:PE X c (up X.K tc))(r:CK .Lt c=AF):PE X (.Call (.Name "int" p) [.Compare a [.Lt,.Lt] [b,c] p0] [] pos) (up X.K λd h Q=>ta d h λx g=>tb d g λy e=>∃i j,x=.int i/\y=.int j/\if i<j then tc d e λz f=>∃k,z=.int k/\J6 (.bl (AB (j<k))) f Q else J6 (.bl AF) e Q):=
 bb9 m l (cp7 q o n r) nofun
end
end
section
variable [Tbs]
section
variable {X:Cx} {a e:AU} {ta te:DT} {pos p2:Pos}
def c43{t u}(M:PE X a t)(L:PE X e u):PE X (.Subscript a (.Slice AD AD (AA e) p2) pos) λd H Q=>t d H λx m=>u d m λy f=>y=.int (-1)/\∃l j,x=.ref l/\SqL X.K f l j/\∀p,f p=AD->Q (.ref p) (upd f p (.lst j.reverse)):=by
 intro c s d H Q I h;apply IJ (thn (M c s d H _ I h) λv B i=>?_);let{x,m,R,D,E}:=i;apply wpAny_Slice ?_;apply AK ?_;apply AK ?_;apply thn (L c B d m _ R E) λw n g=>?_;let{y,f,P,C,N,l,j,O,J,q}:=g;subst N O;let{A,rfl}:=C;cases D;have k:Inv X c d f {n with heap:=n.heap.push {cls:=.type "slice",data:=.fields #[.none,.none,.int (-1) A]}}:=P.kept λb F=>AQ _;let{G,r,o,S}:=k.list J;have z:=r.length;apply LW o.isList.typeIs HE.lookup ?_ rfl;apply IY o.isList (Heap.IsSliceOf.new ..) .none .none (.int _ _) ∅ ?_ (by rw[Aa]<;>lia);rw[W.krv_pick];apply⟨.ref _,_,k.laid (λb F=>AQ _) (AR _) ?_,rfl,q _ (k.hok.fresh (AR _))⟩;show⟨by rwa[GC],_,0,r.reverse,Aj _ rfl⟩
def cu4(A:PE X a (up X.K ta))(z:PE X e (up X.K te)):PE X (.Subscript a (.Slice AD AD (AA e) p2) pos) (up X.K λc m Q=>ta c m λx f=>te c f λy b=>y=.int (-1)/\∃l h,x=.ref l/\rdS b l h/\∀p,b p=AD->Q (.ref p) (b0 b p (.lst h.reverse))):=
 PE.imp (c43 A z) λB H Q q=>up2 q λv w d e D k C o n i g u=>by
  let{rfl,l,h,rfl,t,g}:=g;let{j,s,r}:=i.rd t;show{n.int_inv,l,j,o.ref_inv,s,u.newL i r.rev g}
end
end
end Ek
namespace PySem
section
variable {prog:Al} {w:Aw} {A:BW} {E:AG->AL->Prop} {s:AL}
theorem ba3{it l}{items}(f:l≠it):∀n i(s)Q,s.heap.IsListIter it l i->s.heap.IsList l items->i+n<=items.size ->
  (∀k,k.IsListIter it l (i+n)->Heap.SameBut it s.heap k->Q ((items.toList.drop i).take n) {s with heap:=k})->AW (model prog w) A (draw (.ref it) n) Q E s
 |0,i,s,Q,d,_,_,j=>by
  show AK (by simpa using j s.heap d (Heap.SameBut.refl ..))
 |n+1,i,s,Q,d,p,q,j=>by
  have h:i<items.size:=by lia
  apply AE (Ix d p (x:=items[i]) (by simp[]) λm b a=>?_);apply AE (BQ (ba3 f n (i+1) _ _ b (p.at λo=>a.extBut _ _ f) ⋯ λe g c=>AK ?_));have r:items.toList.drop i=items[i]::items.toList.drop (i+1):=by simp[BA,h]
  have:=j e (by grind) (a.trans c);rw[r]at this;show this
def bu6{l}{a:Array AG}{c:List (Bool×(AG->Sem Unit))}{Q:Unit->AL->Prop}(v:A.handled=AD)(k:s.heap.IsList l a)
  (u:c.length=a.size) (g:c.findIdx? (·.1)=AD)
  (h:∀r,Heap.ExtBut s.heap.objs.size s.heap r->AW (model prog w) A (assignInOrder (c.map (·.2)) a.toList) Q E {s with heap:=r}) :
  AW (model prog w) A (unpack (.ref l) c) Q E s:=by
 have m:l≠s.heap.objs.size:=by let{o,t,_}:=k;show BO (BC t)
 unfold unpack;rw[u,g];apply AE (BQ ?_);apply AE ?_;apply AE (Bi k.typeIs slot_list_iter.lookup ?_);apply AK ?_;apply AE (BQ (HK k ?_));apply AE (BQ (ba3 m a.size 0 _ _ {_,Aj _ rfl,rfl,rfl} (k.push _) ⋯ λp f d=>?_));have n:List.take a.size (Gg 0 a.toList)=a.toList:=by
  show Cr ∎
 rw[n,if_neg ∎];apply AE (BQ (JO v f ((k.push _).at λo=>d.extBut _ _ m) ∎ λj i=>?_));show AK (h j λb o q e=>i b o q (d.extBut b o q (AQ _ e)))
end
end PySem
namespace Ek
open PySem PySem.Spec PyProof.Rows L2
section
variable [Tbs]
section
variable {X:Cx} {a:AU} {ta:DT} {pos p0:Pos}
abbrev di4(K:AO)(n:Nat)(t:TGs):TG:=λv σ H Q=>∃a xs,v=.ref a/\SqL K H a xs/\xs.length=n/\t xs σ H Q
def c41{d:List AU}{k}{t}{n}(z:X.calm=AC)(h:PGs X d t)(x:(Bg d X.env).length=n)(i:(Bg d X.env).findIdx? (·.1)=AD):PG X (.Tuple d k p0) (di4 X.K n t):=by
 intro c s l H v u Q I r g;let{a,m,A,w,y,g}:=g;subst A;cases r;let{f,j,p,C}:=I.list w;apply AE (Ga (bu6 (I.ok.hd z) p.isList (by simp[x,<-y,j.length]) i λD q=>?_));have B:=I.kept (t':=s.toks) λb o e=>q b o (BO (BC e)) e;show h c _ l H m f Q B j g
def cx8{c:List AU}{k0}{f:List Nat}(I:X.calm=AC)(J:PE X a (up X.K ta))(h:PGs X c (X8 f))(G:(Bg c X.env).length=f.length)(l:(Bg c X.env).findIdx? (·.1)=AD)(C:Dt [.Tuple c k0 p0] a pos.line X.env=pure AF)(B:Gb [.Tuple c k0 p0] a X.env=pure AD):
  PS X (.Assign [.Tuple c k0 p0] a pos) (upS X.K λF b j=>ta b j λd e=>∃q g,d=.ref q/\rdS e q g/\g.length=f.length/\F.nx (C8 b f g) e):=
 PS.imp (at0 J (c41 I h G l) C B rfl) λF z H⟨b,j,M,u,t,k,E⟩=>⟨b,j,_,u,t,k,λv d L i w A p q=>by
  let{q,g,rfl,D,s,k}:=q;let{o,m,r}:=p.rd D;show{q,o,A.ref_inv,m,r.len▸s,at2 f g o b z s r (u.mono (w.tk t)) k λx y n=>E.nx _ _ L i w n p}⟩
end
end
section
variable [Tbs]
variable{X:Cx}{Z:Sg}{e:E}{l:List AU}
structure SndA(Z:Sg)(X:Cx)(es:Es)(xs:List AU):Prop where
 a:PA X xs (upA X.K es.len (B3 Z es))
 pl:∀pos:Pos,(CC pos (Am xs X.env)).any (·.1)=AF
def bk6{o}{q}{pos}{t}(h:PT X q (upB X.K (tst t))):PW X (.BoolOp o [q] pos) (upB X.K (tst t)):=by
 cases o with
 |And=>show cj0 h
 |Or=>show cq4 h
def cb7:∀e(a)N(l)(k)p,mE e a N (.Set l k p)=AF:=by
 intro e a N l k p;cases e<;>rfl
def cf2{t}(h:t∈P9):BK (Ac t)=AA (.type t)/\Ac t≠"__name__"/\(Ac t=="__debug__")=AF/\U9.contains (Ac t)=AC:=by
 erw[P9,AM,Ah,or_false]at h
 rcases h with rfl|rfl|rfl|rfl|rfl<;>show⟨rfl,∅,∅,∅⟩
def aw8{a:Env}{c:It}{b:BL}{N:List Str}{f x:AU}(h:mIt c b N f x=AC):∀v,Dc x a v=pure v:=by
 have i:∀l k p,x≠.Set l k p:=λl k p z=>by
  subst z;cases c with
  |seq e=>show(AJ ((cb7 e b N l k p).symm.trans h)).elim
  |enum e=>show(AJ (an h).2).elim
  |_=>show(AJ h).elim
 intro v;cases x<;>first|rfl|show absurd rfl (i _ _ _)
def Z7{K}{t t'}{σ}{H}{Q}(h:∀a b Q,t a b Q->t' a b Q)(q:up K t σ H Q):up K t' σ H Q:=by
 let{a,b,g,f,e,c,d}:=q;show{a,b,g,f,e,h _ _ _ c,d}
def ay5{x}{P}(h:¬P)(w:∀a b Q,wpE Z e a b Q->P):PE X x (up X.K (wpE Z e)):=λ_ _ _ _ _ _ q=>by
 let{a,b,_,_,_,c,_}:=q;show absurd (w a b _ c) h
def af8{a:E}{l:Option AU}(h:oE a (mE a X.env.scope X.N) l=AC)(H:∀x,mE a X.env.scope X.N x=AC->Snd Z X a x):PO X l (upO X.K λc e k=>(if a.isNon=AC then λk=>k AD e else λ(k:Option Int->Sto->Prop)=>wpE Z a c e λd b=>∃i,d=.int i/\k (AA i) b) k):=by
 cases l with
 |none=>rw[show a.isNon=AC from h];show ci5
 |some l=>
  let{g,f}:=an h;rw[show a.isNon=AF from nt g];show cf9 (H l f).v
def br5{c:E}(h:cE c (mE c X.env.scope X.N) l=AC)(H:∀x,mE c X.env.scope X.N x=AC->Snd Z X c x):PCs X l (upB X.K (if c.isNon=AC then λ_ f Q=>Q AC f else λg f Q=>wpE Z c g f λd j=>∃b,d=.bl b/\Q b j)):=by
 cases l with
 |nil=>
  rw[show c.isNon=AC from h];show λe o i n v w⟨g,f,z,y,s,q,r⟩=>cl3 e o i n v w (r AC n f Ev.refl s q)
 |cons a l=>
  apply l1_ (C:=λl=>PCs X l _) (show l1 (a::l) (λx=>!c.isNon&&(F7 x&&mE c X.env.scope X.N x))=AC from h) λx h=>?_;let{u,k}:=an h;rw[show c.isNon=AF from nt u];show cm3 ((H x (an k).2).t (an k).1)
def mcF{cp}(a:(CC cp (Am l X.env)).any (·.1)=AF)(h:l.length<29):Ec (l.length+0) (CC cp (Am l X.env)) (FH cp (DX [] X.env))=AC:=by
 unfold Ec;rw[show(CC cp (Am l X.env)).all (λx=>!x.1)=AC from by
  rw[ED];intro w b;rw[Gy]at a;simpa using a w b]
 show decide_eq_true (JR h)
def Snd.cm{a}{o}{b}{p}(d:PE X (.Compare a o b p) (up X.K (wpE Z e)))(c:PT X (.Compare a o b p) (upB X.K (wpT Z e))):Snd Z X e (.Compare a o b p):={d,λ_=>c,nofun,nofun,nofun,nofun}
def Snd.bo{o}{b}{p}(c:PE X (.BoolOp o b p) (up X.K (wpE Z e)))(a:PW X (.BoolOp o b p) (upB X.K (wpT Z e))):Snd Z X e (.BoolOp o b p):={c,λ_=>a.pt,λ_ _ _ _=>a,nofun,nofun,nofun}
def lb_{k}{m}{C:List AU->Prop}(h:lb l k m=AC)(H:∀p q,k p q=AC->C [p,q])(J:∀p q r s,m p (q::r::s)=AC->C (p::q::r::s)):C l:=
 match l,h with
 |[p,q],h=>H p q h
 |p::q::r::s,h=>J p q r s h
def XOk.fnx(e:XOk Z X)(f)fa(g:Z.F f=AC)(b:BB X.K AN f=AA (AA (.ref fa))):∃k d c,FnOk X.prog X.w X.K X.mg X.base CX0 k fa d c (D6 X.K (Z.Phi f))/\Room k X.A/\Bv X.K (.ref fa)=AC/\v6 X.K d c []:=by
 let{k,a,d,c,F,h,m,j,l,i}:=(e.fns f (e.nom f fa g b) g).ex;rw[i]at b;cases b;show⟨k,d,c,F,h,j,l⟩
mutual
theorem f9(Z:Sg):∀(e:E)(X:Cx)(x:AU),XOk Z X->mE e X.env.scope X.N x=AC->Snd Z X e x
 |.non,X,x,hX,h=>Y1 h λn p=>Snd.pl (by show af5 cq3 λ_=>.non) rfl
 |.bl b,X,x,hX,h=>Y1 h λn p=>Snd.pl (by show af5 c65 λ_=>.bl _) rfl
 |.int i,X,x,hX,h=>Y1 h λn p=>Snd.pl (by show af5 cu2 λ_=>.int _) rfl
 |.str y,X,x,hX,h=>Y1 h λn p=>Snd.pl (by show af5 cq6 λ_=>.str _) rfl
 |.v i,X,x,hX,h=>xN_ h λy p h=>Snd.pl (by show cp4 (beq_iff_eq.1 (an h).1) (bj9 (an (an h).2).1) (J8 (an (an h).2).2).1 (J8 (an (an h).2).2).2) rfl
 |.tup es,X,x,hX,h=>xT_ h λl n p h=>Snd.pl (by show cw2 (G3 Z es X _ hX (an h).1).a (of_decide_eq_true (an h).2)) rfl
 |.lst es,X,x,hX,h=>xL_ h λl p h=>Snd.pl (by show ct1 (G3 Z es X _ hX (an h).1).a (of_decide_eq_true (an h).2)) rfl
 |.bin o a b,X,x,hX,h=>dn5 h λp q r ps h=>by
  cases beq_iff_eq.1 (an h).1;show Snd.pl (by show cp0 (f9 Z a X _ hX (an (an h).2).1).v (f9 Z b X _ hX (an (an h).2).2).v) rfl
 |.neg a,X,x,hX,h=>xU_ h λo p ps h=>by
  cases beq_iff_eq.1 (an h).1;show Snd.plain (by show cp6 (f9 Z a X _ hX (an h).2).v) (λ_=>rfl) rfl (by intros;show nofun)
 |.cmp o a b,X,x,hX,h=>X3 h λq p r ps h=>by
  cases beq_iff_eq.1 (an h).1;have ia:=f9 Z a X _ hX (an (an h).2).1;have ib:=f9 Z b X _ hX (an (an h).2).2;show Snd.cm (by show cu0 hX.units ia.v ib.v ib.se) (by unfold wpT;show cw0 hX.units ia.v ib.v ib.se)
 |.isN a,X,x,hX,h=>X3 h λq p r ps h=>by
  cases beq_iff_eq.1 (an h).1;apply Y1 (C:=λr=>Snd Z X (.isN a) (.Compare p [.Is] [r] ps)) (an (an h).2).1 λn pp=>?_;have ia:=f9 Z a X _ hX (an (an h).2).2;show Snd.cm (by show c28 ia.v) (by unfold wpT;show c05 ia.v)
 |.notN a,X,x,hX,h=>X3 h λq p r ps h=>by
  cases beq_iff_eq.1 (an h).1;apply Y1 (C:=λr=>Snd Z X (.notN a) (.Compare p [.IsNot] [r] ps)) (an (an h).2).1 λn pp=>?_;have ia:=f9 Z a X _ hX (an (an h).2).2;show Snd.cm (by show cg3 ia.v) (by unfold wpT;show ci7 ia.v)
 |.and a b,X,x,hX,h=>br3 h λo l ps h=>by
  cases beq_iff_eq.1 (an h).1;apply lb_ (C:=λl=>Snd Z X (.and a b) (.BoolOp .And l ps)) (an h).2 (λp q h=>?_) λp q r l6 h=>?_
  ·have ia:=f9 Z a X _ hX (an (an (an h).1).1).1;have ib:=f9 Z b X _ hX (an (an (an h).1).1).2;show Snd.bo (by show bo4 ia.v (bj7 ib.v)) (by unfold wpT;show bl7 (ia.t (an (an h).1).2) (bk6 (ib.t (an h).2)))
  ·have ia:=f9 Z a X _ hX (an (an h).1).1;have ib:=f9 Z b X _ hX (an (an h).1).2;show Snd.bo (by show bo4 ia.v ib.v) (by unfold wpT;show bl7 (ia.t (an h).2) (ib.w _ _ _ rfl))
 |.or a b,X,x,hX,h=>br3 h λo l ps h=>by
  cases beq_iff_eq.1 (an h).1;apply lb_ (C:=λl=>Snd Z X (.or a b) (.BoolOp .Or l ps)) (an h).2 (λp q h=>?_) λp q r l6 h=>?_
  ·have ia:=f9 Z a X _ hX (an (an (an h).1).1).1;have ib:=f9 Z b X _ hX (an (an (an h).1).1).2;show Snd.bo (by show bq4 ia.v (bj7 ib.v)) (by unfold wpT;show bq3 (ia.t (an (an h).1).2) (bk6 (ib.t (an h).2)))
  ·have ia:=f9 Z a X _ hX (an (an h).1).1;have ib:=f9 Z b X _ hX (an (an h).1).2;show Snd.bo (by show bq4 ia.v ib.v) (by unfold wpT;show bq3 (ia.t (an h).2) (ib.w _ _ _ rfl))
 |.not a,X,x,hX,h=>xU_ h λo p ps h=>by
  cases beq_iff_eq.1 (an h).1;have ia:=f9 Z a X _ hX (an (an h).2).1;show{by show cy6 ia.v,λ_=>(by unfold wpT;show cs2 (ia.t (an (an h).2).2)),nofun,nofun,nofun,nofun}
 |.ite c a b,X,x,hX,h=>dh9 h λp q r ps h=>
  {by show c11 ((f9 Z c X _ hX (an (an h).1).1).t (an (an h).1).2) (f9 Z a X _ hX (an (an h).2).1).v (f9 Z b X _ hX (an (an h).2).2).v,nofun,nofun,nofun,nofun,nofun}
 |.ix a b,X,x,hX,h=>xS_ h λp q ps h=>
  have ib:=f9 Z b X _ hX (an h).2
  Snd.pl (by show df6 hX.units (f9 Z a X _ hX (an h).1).v ib.v ib.sl) rfl
 |.sl a lo hi,X,x,hX,h=>xS_ h λp s ps h=>ax1 (C:=λs=>Snd Z X (.sl a lo hi) (.Subscript p s ps)) (an h).2 λl u st p2 h2=>by
  cases st with
  |some _=>show(AJ h2).elim
  |none=>show Snd.pl (by show c66 (f9 Z a X _ hX (an h).1).v (af8 (an (an h2).2).1 λx=>f9 Z lo X x hX) (af8 (an (an h2).2).2 λx=>f9 Z hi X x hX)) rfl
 |.slw a lo hi,X,x,hX,h=>xS_ h λp s ps h=>ax1 (C:=λs=>Snd Z X (.slw a lo hi) (.Subscript p s ps)) (an h).2 λl u st p2 h2=>by
  cases st with
  |some _=>show(AJ h2).elim
  |none=>show Snd.pl (by show c36 (f9 Z a X _ hX (an h).1).v (af8 (an (an h2).2).1 λx=>f9 Z lo X x hX) (af8 (an (an h2).2).2 λx=>f9 Z hi X x hX)) rfl
 |.gget g k d,X,x,hX,h=>xM_ h λo ap l cp hl h=>T3 (C:=λo=>Snd Z X (.gget g k d) (.Call (.Attribute o "get" ap) l [] cp)) (an h).1 λnp=>l2_ (C:=λl=>Snd Z X (.gget g k d) (.Call (.Attribute (.Name g np) "get" ap) l [] cp)) (an (an (an h).2).2).2 λp q h2=>
  have ik:=f9 Z k X _ hX (an h2).1;have id:=f9 Z d X _ hX (an h2).2
  Snd.pl (by show cl2 (hX.tabs g) (u3 (an (an h).2).1) ik.v id.v ik.st id.st hl (J8 (an (an (an h).2).2).1).1) rfl
 |.gsel g k,X,x,hX,h=>xS_ h λn q ps h=>T3 (C:=λn=>Snd Z X (.gsel g k) (.Subscript n q ps)) (an h).1 λnp=>
  have ik:=f9 Z k X _ hX (an (an (an h).2).2).2
  Snd.pl (by show cd1 (hX.tabs g) (u3 (an (an h).2).1) ik.v ik.sl (J8 (an (an (an h).2).2).1).1) rfl
 |.len a,X,x,hX,h=>L6 h λq p ps h1 h2=>
  have ia:=f9 Z a X _ hX h2
  Snd.pl (by show cx4 (u3 h1) (hX.blt' _) ia.v ia.st) rfl
 |.toInt a,X,x,hX,h=>L6 h λq p ps h1 h2=>
  have ia:=f9 Z a X _ hX h2
  Snd.pl (by show bb9 (u3 h1) (hX.blt' _) ia.v ia.st) rfl
 |.list a,X,x,hX,h=>L6 h λq p ps h1 h2=>
  have ia:=f9 Z a X _ hX h2
  Snd.pl (by show cn7 (u3 h1) (hX.blt' _) ia.v ia.st) rfl
 |.tuple a,X,x,hX,h=>L6 h λq p ps h1 h2=>
  have ia:=f9 Z a X _ hX h2
  Snd.pl (by show b89 (u3 h1) (hX.blt' _) ia.v ia.st) rfl
 |.isList a,X,x,hX,h=>Y0 h λq p r ps h1 h2=>T3 (C:=λr=>Snd Z X (.isList a) (.Call (.Name "isinstance" q) [p,r] [] ps)) (an h2).1 λnp=>
  have ia:=f9 Z a X _ hX (an (an h2).2).2
  Snd.pl (by show b12 (u3 h1) (hX.blt' _) (u3 (an (an h2).2).1) (hX.blt' _) ia.v ia.st) rfl
 |.max a b,X,x,hX,h=>Y0 h λq p r ps h1 h2=>
  have ia:=f9 Z a X _ hX (an h2).1;have ib:=f9 Z b X _ hX (an h2).2
  Snd.pl (by show co7 hX.calm (u3 h1) (hX.blt' _) ia.v ib.v ia.st ib.st) rfl
 |.min a b,X,x,hX,h=>Y0 h λq p r ps h1 h2=>
  have ia:=f9 Z a X _ hX (an h2).1;have ib:=f9 Z b X _ hX (an h2).2
  Snd.pl (by show cz6 hX.calm (u3 h1) (hX.blt' _) ia.v ib.v ia.st ib.st) rfl
 |.lzip a b,X,x,hX,h=>L6 h λq z ps h1 h=>Y0 (C:=λz=>Snd Z X (.lzip a b) (.Call (.Name "list" q) [z] [] ps)) h λq2 p r ps2 h2 h3=>
  have ia:=f9 Z a X _ hX (an h3).1;have ib:=f9 Z b X _ hX (an h3).2
  Snd.pl (by show cy8 hX.calm (u3 h1) (hX.blt' _) (u3 h2) (hX.blt' _) ia.v ib.v ia.st ib.st) rfl
 |.call f es,X,x,hX,h=>xG_ h λq l ps h1 h=>by
  cases l with
  |nil=>show(AJ (an (an (an h).2).2).1).elim
  |cons y ys=>cases es with
   |nil=>show(AJ (an (an (an h).2).2).2).elim
   |cons e0 er=>
    have i0:=f9 Z e0 X _ hX (an (an (an (an h).2).2).2).1;have ir:=G3 Z er X _ hX (an (an (an (an h).2).2).2).2;apply Snd.pl ?_ rfl
    by_cases hF:Z.F f=AC
    ·let{k,a,fd,ps,F,hr,hm,hk,hb,_}:=(hX.fns f (nt (an (an h).2).1) hF).ex;show PE.imp (ch9 F hr (u3 h1) hm hk hb (V4 i0.v ir.a i0.st) (J8 (an h).1).1 i0.st (ir.pl _)) λ_ _ _=>Z7 λ_ _ _ ht=>ht.2
    ·show ay5 hF λ_ _ _ ht=>ht.1
 |.gf f,X,x,hX,h=>T3 (C:=λx=>Snd Z X (.gf f) x) (an h).1 λp=>by
  apply Snd.pl ?_ rfl
  by_cases hF:Z.F f=AC
  ·let{k,a,fd,ps,F,hr,hm,hk,hb,hn}:=(hX.fns f (nt (an (an (an h).2).2).2) hF).ex;show PE.imp (dg1 (u3 (an (an h).2).1) hm hn (J8 (an (an (an h).2).2).1).1) λ_ _ _=>Z7 λ_ _ _ ht=>ht.2
  ·show ay5 hF λ_ _ _ ht=>ht.1
 |.callx c es,X,x,hX,h=>ag1 h λf l ps h=>by
  apply xS_ (C:=λf=>Snd Z X (.callx c es) (.Call f l [] ps)) (an h).1 λp q sp h1=>?_;cases l with
  |nil=>show(AJ (an (an h).2).1).elim
  |cons y ys=>cases es with
   |nil=>show(AJ (an (an h).2).2).elim
   |cons e0 er=>
    have i0:=f9 Z e0 X _ hX (an (an (an h).2).2).1;have ir:=G3 Z er X _ hX (an (an (an h).2).2).2;apply Snd.pl ?_ rfl;show b35 (F:=Z.F) (Ph:=Z.Phi) (f9 Z c X _ hX h1).v hX.fnx (V4 i0.v ir.a i0.st) i0.st (ir.pl _)
 |.gc g,X,x,hX,h=>T3 (C:=λx=>Snd Z X (.gc g) x) (an h).1 λp=>by
  apply Snd.pl ?_ rfl;cases hk:Z.Kc g with
  |none=>show λ_ _ _ _ _ _⟨env,st,Qd,hE,hS,⟨i,hi,_⟩,hq⟩=>nomatch hk.symm.trans hi
  |some i=>
   let{t,hm,hv}:=hX.cst g i hk;let{v,rv,is}:=O6.is hv;show PE.imp (bi6 (v:=v) (u3 (an (an h).2).1) hm rv (J8 (an (an h).2).2).1) λσ H Q q=>by
    let{env,st,Qd,hE,hS,{i',hi,ht},hq}:=q;cases hk.symm.trans hi;show hq.here (is H) hS ht
 |.callv i es,X,x,hX,h=>ag1 h λf l ps h=>by
  apply xN_ (C:=λf=>Snd Z X (.callv i es) (.Call f l [] ps)) (an h).1 λy p h1=>?_;cases l with
  |nil=>show(AJ (an (an h).2).1).elim
  |cons z zs=>cases es with
   |nil=>show(AJ (an (an h).2).2).elim
   |cons e0 er=>
    have i0:=f9 Z e0 X _ hX (an (an (an h).2).2).1;have ir:=G3 Z er X _ hX (an (an (an h).2).2).2;apply Snd.pl ?_ rfl;show cc5 (Z:=Z) (beq_iff_eq.1 (an h1).1) (bj9 (an (an h1).2).1) (J8 (an (an h1).2).2).1 (J8 (an (an h1).2).2).2 hX.fnx hX.clo (V4 i0.v ir.a i0.st) i0.st (ir.pl _)
 |.isT t a,X,x,hX,h=>Y0 h λq p r ps h1 h2=>T3 (C:=λr=>Snd Z X (.isT t a) (.Call (.Name "isinstance" q) [p,r] [] ps)) (an h2).1 λnp=>by
  have hin:t∈P9:=List.contains_iff_mem.1 (an (an (an h2).2).2).1;let{b1,b2,b3,b4}:=cf2 hin;have ia:=f9 Z a X _ hX (an (an (an h2).2).2).2;show Snd.pl (by show cz9 hin (u3 h1) (hX.blt' _) (u3 (an (an h2).2).1) (hX.blt' _ b4) b1 b2 b3 ia.v ia.st) rfl
 |.cmpl ne a b,X,x,hX,h=>X3 h λq p r ps h=>by
  have e:=beq_iff_eq.1 (an h).1;have ia:=f9 Z a X _ hX (an (an h).2).1;have ib:=f9 Z b X _ hX (an (an h).2).2;show Snd.cm (by show cl4 e hX.units ia.v ib.v ib.se) (by unfold wpT;show cl7 e hX.units ia.v ib.v ib.se)
 |.fld a f,X,x,hX,h=>xA_ h λo g ap h=>by
  cases beq_iff_eq.1 (an h).1;show Snd.pl (by show c13 (C:=Z.C) (λc Ca=>hX.cls _ c Ca) (f9 Z a X _ hX (an (an h).2).2).v (J5 (O7 (an (an h).2).1))) rfl
 |.meth a m es,X,x,hX,h=>xM_ h λo ap l cp hl h=>by
  have hbo:=O7 (an (an h).1).1;have ia:=f9 Z a X _ hX (an (an h).1).2;have iall:=G3 Z es X _ hX (an (an h).2).1;apply Snd.pl ?_ rfl;cases l with
  |nil=>
   cases es with
   |nil=>show PE.imp (b65 (F:=Z.F) (Ph:=Z.Phi) (λc Ca=>hX.mth m c Ca) hl hbo ia.v) λ_ _ _=>Z7 λ_ _ _ ht=>(by show ht)
   |cons _ _=>show(AJ (an (an h).2).1).elim
  |cons z zs=>
   cases es with
   |nil=>show(AJ (an (an h).2).1).elim
   |cons e0 er=>
    show cg5 (F:=Z.F) (Ph:=Z.Phi) (λc Ca=>hX.mth m c Ca) (mcF (iall.pl cp) (of_decide_eq_true (an (an h).2).2)) hl hbo ia.v iall.a (f9 Z e0 X _ hX (an (an (an h).2).1).1).st ((G3 Z er X _ hX (an (an (an h).2).1).2).pl _)
 |.methd a m es,X,x,hX,h=>xM_ h λo ap l cp hl h=>by
  have hbo:=O7 (an (an h).1).1;have ia:=f9 Z a X _ hX (an (an h).1).2;have h2:=an (an (an h).2).2;have iall:=G3 Z es X _ hX h2.1;apply Snd.pl ?_ rfl;cases l with
  |nil=>show(AJ (an (an h).2).1).elim
  |cons z zs=>cases es with
   |nil=>show(AJ h2.1).elim
   |cons e0 er=>
    show b74 (F:=Z.F) (Ph:=Z.Phi) (C:=Z.C) (λc Ca i=>hX.mthd m c Ca i) (mcF (iall.pl cp) (of_decide_eq_true h2.2)) hl hbo ia.v iall.a (f9 Z e0 X _ hX (an h2.1).1).st ((G3 Z er X _ hX (an h2.1).2).pl _)
 |.make c es,X,x,hX,h=>xG_ h λq l ps h1 h=>by
  have iall:=G3 Z es X _ hX (an h).2;apply Snd.pl ?_ rfl
  by_cases hF:Z.MF (f8 c "__init__")=AC
  ·let{Ca,k,f,fd,ps,hn,M,Fo,hr,hm,hb}:=hX.mks c hF;cases l with
   |nil=>
    cases es with
    |nil=>show PE.imp (b75 hn M Fo hr (u3 h1) hm hb (J8 (an h).1).1) λ_ _ _=>Z7 λ_ _ _ ht=>(by show ht.2)
    |cons _ _=>show(AJ (an h).2).elim
   |cons z zs=>
    cases es with
    |nil=>show(AJ (an h).2).elim
    |cons e0 er=>
     show PE.imp (ck7 hn M Fo hr (u3 h1) hm hb iall.a (J8 (an h).1).1 (f9 Z e0 X _ hX (an (an h).2).1).st ((G3 Z er X _ hX (an (an h).2).2).pl _)) λ_ _ _=>Z7 λ_ _ _ ht=>ht.2
  ·show ay5 hF λ_ _ _ ht=>ht.1
 |.app a b,X,x,hX,h=>af7 h λo ap p cp hl h1 h2 h3=>
  have ib:=f9 Z b X _ hX h3
  Snd.pl (by show c02 (f9 Z a X _ hX h2).v ib.v (O7 h1) ib.st hl) rfl
 |.ext a b,X,x,hX,h=>af7 h λo ap p cp hl h1 h2 h3=>
  have ib:=f9 Z b X _ hX h3
  Snd.pl (by show cq7 (f9 Z a X _ hX h2).v ib.v (O7 h1) ib.st hl) rfl
 |.popAt a b,X,x,hX,h=>af7 h λo ap p cp hl h1 h2 h3=>
  have ib:=f9 Z b X _ hX h3
  Snd.pl (by show b59 (f9 Z a X _ hX h2).v ib.v (O7 h1) ib.st hl) rfl
 |.pop a,X,x,hX,h=>bs0 h λo ap cp hl h1 h2=>Snd.pl (by show cp1 (f9 Z a X _ hX h2).v (O7 h1) hl) rfl
 |.any a,X,x,hX,h=>L6 h λq p ps h1 h2=>
  have ia:=f9 Z a X _ hX h2
  Snd.pl (by show ct7 hX.calm (u3 h1) (hX.blt' _) ia.v ia.st) rfl
 |.chi a b c,X,x,hX,h=>L6 h λq p ps h1 h2=>bs4 (C:=λp=>Snd Z X (.chi a b c) (.Call (.Name "int" q) [p] [] ps)) h2 λp o l pc h2=>l2_ (C:=λo=>Snd Z X (.chi a b c) (.Call (.Name "int" q) [.Compare p o l pc] [] ps)) h2 λo1 o2 h2=>l2_ (C:=λl=>Snd Z X (.chi a b c) (.Call (.Name "int" q) [.Compare p [o1,o2] l pc] [] ps)) h2 λr t h2=>by
  cases beq_iff_eq.1 (an h2).1;cases beq_iff_eq.1 (an (an h2).2).1;have ic:=f9 Z c X _ hX (an (an (an (an h2).2).2).2).2;show Snd.pl (by show c12 (u3 h1) (hX.blt' _) (f9 Z a X _ hX (an (an (an h2).2).2).1).v (f9 Z b X _ hX (an (an (an (an h2).2).2).2).1).v ic.v (N7 _ _ ic.se)) rfl
 |.rsl a e,X,x,hX,h=>xS_ h λp s ps h=>ax1 (C:=λs=>Snd Z X (.rsl a e) (.Subscript p s ps)) (an h).2 λl u st p2 h2=>by
  cases l with
  |some _=>show(AJ (an h2).1).elim
  |none=>
   cases u with
   |some _=>show(AJ (an (an h2).2).1).elim
   |none=>
    cases st with
    |none=>show(AJ (an (an h2).2).2).elim
    |some y=>show Snd.pl (by show cu4 (f9 Z a X _ hX (an h).1).v (f9 Z e X _ hX (an (an h2).2).2).v) rfl
 |.inl a b,X,x,hX,h=>X3 h λq p r ps h=>by
  have e:=beq_iff_eq.1 (an h).1;cases e;have ia:=f9 Z a X _ hX (an (an h).2).1;have ib:=f9 Z b X _ hX (an (an h).2).2;show Snd.cm (by show cw7 hX.units ia.v ib.v ib.se) (by unfold wpT;show cp5 hX.units ia.v ib.v ib.se)
 |.dnt,X,x,hX,h=>xD_ h λl r p h=>by
  cases l with
  |cons=>show(AJ h).elim
  |nil=>cases r with
   |cons=>show(AJ h).elim
   |nil=>show Snd.pl (by show ct9 (c:=Z.C "!kt") λhz=>by rw[hX.kt];cases e:Z.C "!kt" with|nil=>show absurd e hz|cons _ _=>rfl) rfl
 |.dgt a b,X,x,hX,h=>af7 h λo ap p cp hl h1 h2 h3=>
  have ib:=f9 Z b X _ hX h3
  Snd.pl (by show c25 hX.units (f9 Z a X _ hX h2).v ib.v (O7 h1) ib.st hl) rfl
 |.din ne a b,X,x,hX,h=>X3 h λq p r ps h=>by
  have e:=beq_iff_eq.1 (an h).1;have ia:=f9 Z a X _ hX (an (an h).2).1;have ib:=f9 Z b X _ hX (an (an h).2).2;show Snd.cm (by show cu3 e hX.units ia.v ib.v ib.se) (by unfold wpT;show cr5 e hX.units ia.v ib.v ib.se)
 |.lrev a,X,x,hX,h=>bs0 h λo ap cp hl h1 h2=>Snd.pl (by show cm7 (f9 Z a X _ hX h2).v (O7 h1) hl) rfl
 |.comp Nc fr k t it c e,X,x,hX,h=>dj8 h λel g scope pos h=>by
  apply l1_ (C:=λg=>Snd Z X (.comp Nc fr k t it c e) (.ListComp el g scope pos)) h λg h=>?_;let{tg,itx,ifs,n}:=g;let{h0,h}:=an h;cases(beq_iff_eq.1 h0:n=0);let{h1,h}:=an h;let{h2,h}:=an h;let{h3,h}:=an h;have Sc:=bb1 h1;show Snd.pl (PE.imp (cc7 hX.calm Sc (au1 Z it X tg itx hX h2)
   (λC fp pins s H=>af2 (X:=X.comp scope Nc C fp pins s H) (ow:=AF) hX.calm Sc.nd nofun h3)
   (λC fp pins s H=>br5 (X:=X.comp scope Nc C fp pins s H) (an h).2 λx h=>f9 Z c (X.comp scope Nc C fp pins s H) x (hX.comp (ac1 h1) Sc C fp pins s H) h)
   (λC fp pins s H=>(f9 Z e (X.comp scope Nc C fp pins s H) el (hX.comp (ac1 h1) Sc C fp pins s H) (an h).1).v) (aw8 h2)) λσ H Q q=>ba4 q) rfl
theorem G3(Z:Sg):∀(es:Es)(X:Cx)(xs:List AU),XOk Z X->mEs es X.env.scope X.N xs=AC->SndA Z X es xs
 |.nil,X,xs,hX,h=>by
  cases xs with
  |nil=>show{by show bm1,λ_=>rfl}
  |cons=>show(AJ h).elim
 |.cons e r,X,xs,hX,h=>by
  cases xs with
  |nil=>show(AJ h).elim
  |cons x xs=>
   have i0:=f9 Z e X _ hX (an h).1;have ir:=G3 Z r X _ hX (an h).2;apply{by show V4 i0.v ir.a i0.st,λpos=>?_};rw[r9 i0.st];show ir.pl pos
theorem au1(Z:Sg):∀(it:It)(X:Cx)(tg x:AU),XOk Z X->mIt it X.env.scope X.N tg x=AC->PI X tg x (upI X.K (E1 Z it))
 |.seq e,X,tg,x,hX,h=>by show cw3 (f9 Z e X x hX h).v
 |.rng a,X,tg,x,hX,h=>L6 (C:=λx=>PI X tg x (upI X.K (E1 Z (.rng a)))) h λq p ps h1 h2=>
  have ia:=f9 Z a X _ hX h2
  (by show ct3 (u3 h1) (hX.blt' _) ia.v ia.st)
 |.rng2 a b,X,tg,x,hX,h=>Y0 (C:=λx=>PI X tg x (upI X.K (E1 Z (.rng2 a b)))) h λq p r ps h1 h2=>
  have ia:=f9 Z a X _ hX (an h2).1;have ib:=f9 Z b X _ hX (an h2).2
  (by show ck3 (u3 h1) (hX.blt' _) ia.v ib.v ia.st ib.st)
 |.enum e,X,tg,x,hX,h=>xT_ (C:=λtg=>PI X tg x (upI X.K (E1 Z (.enum e)))) (an h).1 λl n tp _=>L6 (C:=λx=>PI X _ x (upI X.K (E1 Z (.enum e)))) (an h).2 λq p ps h1 h2=>
  have ia:=f9 Z e X _ hX h2
  (by show co1 (u3 h1) (hX.blt' _) ia.v ia.st)
 |.revt e,X,tg,x,hX,h=>L6 (C:=λx=>PI X tg x (upI X.K (E1 Z (.revt e)))) h λq p ps h1 h2=>
  have ia:=f9 Z e X _ hX h2
  (by show ci0 (u3 h1) (hX.blt' _) ia.v ia.st)
 |.rev e,X,tg,x,hX,h=>L6 (C:=λx=>PI X tg x (upI X.K (E1 Z (.rev e)))) h λq p ps h1 h2=>
  have ia:=f9 Z e X _ hX h2
  (by show ct8 (u3 h1) (hX.blt' _) ia.v ia.st)
end
end
section
variable [Tbs]
variable{x:BR}{C:BR->Prop}{e:E}{sc scope:BL}{N:List Str}{el:AU}{gs:List Ib}{n:Nat}{env:Env}
abbrev bo5(x:AU):Bool:=!(x.ctorIdx==25)
abbrev sA(x:BR)(k:List AU->AU->Pos->Bool):Bool:=if h:x.ctorIdx=5 then FX x h k else AF
def sA_{k}(h:sA x k=AC)(H:∀l x p,k l x p=AC->C (.Assign l x p)):C x:=
 dE h λe=>FX x e (λl x p _=>H l x p) e
abbrev sX(x:BR)(k:AU->Pos->Bool):Bool:=if h:x.ctorIdx=24 then GX x h k else AF
def sX_{k}(h:sX x k=AC)(H:∀x p,k x p=AC->C (.Expr x p)):C x:=
 dE h λe=>GX x e (λx p _=>H x p) e
abbrev sI(x:BR)(k:AU->List BR->List BR->Pos->Bool):Bool:=if h:x.ctorIdx=12 then Hd x h k else AF
def sI_{k}(h:sI x k=AC)(H:∀x a b p,k x a b p=AC->C (.If x a b p)):C x:=
 dE h λe=>Hd x e (λx a b p _=>H x a b p) e
abbrev sR(x:BR)(k:Option AU->Pos->Bool):Bool:=if h:x.ctorIdx=3 then FY x h k else AF
def sR_{k}(h:sR x k=AC)(H:∀x p,k x p=AC->C (.Return x p)):C x:=
 dE h λe=>FY x e (λx p _=>H x p) e
abbrev sF(x:BR)(k:AU->AU->List BR->List BR->Pos->Bool):Bool:=if h:x.ctorIdx=9 then Gq x h k else AF
def sF_{k}(h:sF x k=AC)(H:∀g x a b p,k g x a b p=AC->C (.For g x a b p)):C x:=
 dE h λe=>Gq x e (λg x a b p _=>H g x a b p) e
abbrev sW(x:BR)(k:AU->List BR->List BR->Pos->Bool):Bool:=if h:x.ctorIdx=11 then Fv x h k else AF
def sW_{k}(h:sW x k=AC)(H:∀x a b p,k x a b p=AC->C (.While x a b p)):C x:=
 dE h λe=>Fv x e (λx a b p _=>H x a b p) e
abbrev sC(x:BR)(k:Pos->Bool):Bool:=if h:x.ctorIdx=27 then Ej x h k else AF
def sC_{k}(h:sC x k=AC)(H:∀p,k p=AC->C (.Continue p)):C x:=
 dE h λe=>Ej x e (λp _=>H p) e
abbrev sP(x:BR)(k:Pos->Bool):Bool:=if h:x.ctorIdx=25 then GY x h k else AF
def sP_{k}(h:sP x k=AC)(H:∀p,k p=AC->C (.Pass p)):C x:=
 dE h λe=>GY x e (λp _=>H p) e
abbrev sD(x:BR)(k:Str->Co->List BR->List AU->Option AU->List TypeParam->BL->Option BL->Str->Pos->Bool):Bool:=if h:x.ctorIdx=0 then Dw x h k else AF
def sD_{k}(h:sD x k=AC)(H:∀b f c l j i a g d p,k b f c l j i a g d p=AC->C (.FunctionDef b f c l j i a g d p)):C x:=
 dE h λe=>Dw x e (λb f c l j i a g d p _=>H b f c l j i a g d p) e
abbrev sTr(x:BR)(k:List BR->List Gh->List BR->List BR->Pos->Bool):Bool:=if h:x.ctorIdx=17 then Gu x h k else AF
def dk2{k}(h:sTr x k=AC)(H:∀a b c d p,k a b c d p=AC->C (.Try a b c d p)):C x:=
 dE h λe=>Gu x e (λa b c d p _=>H a b c d p) e
def de9{X:Cx}{a:List BR}{h₀}{g:List Gh}{pos}{t}(j:X.xe=λ_ _=>False)(i:PSs X a (upS X.K t)):PS X (.Try a (h₀::g) [] [] pos) (upS X.K t):=λb s c H D I q=>
 wpAny_Try_except (Bk (i b s c H D I q) (λf d h=>by cases f<;>first|show Fa h|show h) λe d h=>by simp_all)
abbrev sA1(s:BR)(k:AU->AU->Bool):Bool:=sA s λl x _=>l1 l λt=>k t x
def R7{s}{k}{C:BR->Prop}(h:sA1 s k=AC)(H:∀t x p,k t x=AC->C (.Assign [t] x p)):=
 sA_ h λl x p h=>l1_ (C:=λl=>C (.Assign l x p)) h λt=>H t x p
mutual
noncomputable def mS:S->BL->List Str->BR->Bool
 |.set i e,sc,N,s=>sA1 s λt x=>mE e sc N x&&xN t λy _=>(N[i]?==AA y)&&(P2 sc y&&!(N.contains (B5 y)))
 |.pre _,_,_,_=>AF
 |.iput o i v,sc,N,s=>sA1 s λt x=>(mE v sc N x&&M7 x)&&xS t λp q _=>mE o sc N p&&mE i sc N q
 |.dput o i v,sc,N,s=>sA1 s λt x=>(mE v sc N x&&M7 x)&&xS t λp q _=>mE o sc N p&&mE i sc N q
 |.put o i v,sc,N,s=>sA1 s λt x=>(mE v sc N x&&M7 x)&&xS t λp q _=>mE o sc N p&&mE i sc N q
 |.fldS o f v,sc,N,s=>sA1 s λt x=>(mE v sc N x&&M7 x)&&xA t λp g _=>(g==f)&&mE o sc N p
 |.unp is e,sc,N,s=>sA1 s λt x=>(mE e sc N x&&(M7 x&&bo5 x))&&xT t λes k p=>mTg AC (.tup is) sc N (.Tuple es k p)
 |.unl is e,sc,N,s=>sA1 s λt x=>(mE e sc N x&&(M7 x&&bo5 x))&&xT t λes k p=>mTg AC (.tup is) sc N (.Tuple es k p)
 |.ex e,sc,N,s=>sX s λx _=>mE e sc N x&&M7 x
 |.iff c a b,sc,N,s=>sI s λx p q _=>(mE c sc N x&&F7 x)&&(mSs a sc N p&&mSs b sc N q)
 |.ret e,sc,N,s=>sR s λx _=>Gp (motive:=λ_=>Bool) x AF (mE e sc N)
 |.retN,_,_,s=>sR s λx _=>x.isNone
 |.for t it b,sc,N,s=>sF s λtg x p q _=>q.isEmpty&&(mTg AC t sc N tg&&(mIt it sc N tg x&&mSs b sc N p))
 |.while c b,sc,N,s=>sW s λx p q _=>q.isEmpty&&((mE c sc N x&&F7 x)&&mSs b sc N p)
 |.tr b,sc,N,s=>sTr s λp hs q r _=>(!hs.isEmpty&&(q.isEmpty&&r.isEmpty))&&mSs b sc N p
 |.cont,_,_,s=>sC s λ_=>AC
 |.dead,_,_,_=>AC
 |.dfn i np Nl cp b,sc,N,s=>sD s λname args body dl rt tp scope ts bind _=>(dl.isEmpty&&rt.isNone&&tp.isEmpty&&ts.isNone)&&(ac4 args).any λps=>(name==bind)&&((N[i]?==AA name)&&(P2 sc name&&(!(N.contains (B5 name))&&(N.contains A6&&(au4 sc N scope Nl ps np cp&&(!(Nl.contains A6)&&mSs b scope Nl body))))))
 |.pass,_,_,s=>sP s λ_=>AC
noncomputable def mSs:Ss->BL->List Str->List BR->Bool
 |.nil,_,_,l=>l.isEmpty
 |.cons s r,sc,N,l=>Dv (motive:=λ_=>Bool) l AF λx xs=>mS s sc N x&&mSs r sc N xs
end
abbrev mFB(b:Ss)(sc:BL)(N:List Str)(fb:Di):Prop:=N.contains A6=AF/\match fb with
 |.stmts l=>mSs b sc N l=AC
 |.expr x=>∃e,b=.cons (.ret e) .nil/\mE e sc N x=AC
@[reducible]noncomputable def HF(X:Cx):Prop:=∀y,Loc X.env.scope y->X.N.contains (B5 y)=AF->X.fn y=AC\/X.env.scope.names.lookup y=AA .local
def c75{p:Pos}:mE e sc N (.SetComp el gs scope p)=AF:=by cases e<;>rfl
def de2{a b}{p}:mE e sc N (.DictComp a b gs scope p)=AF:=by cases e<;>rfl
def c47{p:Pos}(h:mE e sc N (.ListComp el gs scope p)=AC):∃f b k t a c d,e=.comp f b k t a c d:=by
 cases e<;>first|show⟨_,_,_,_,_,_,_,rfl⟩|show absurd h AJ
def U8{x}{t}(h:M7 x=AC):Cc x t n env=pure AF:=by
 cases x<;>first|rfl|cases h
def ar9{x t}(h:M7 x=AC):Dt [t] x n env=pure AF:=U8 h
def by5{p py}{y}:∃b,Cc (.ListComp el gs scope p) (AA (.Name y py)) n env=pure b:=⟨_,rfl⟩
mutual
theorem dh2(Z:Sg)(hm:∀(b:Ss)(sc:BL)(N:List Str)(l:List BR),mSs b sc N l=AC->N.contains A6=AF->Tbs.mt b sc N (.stmts l)):∀(s:S)(X:Cx)(x:BR),XOk Z X->HF X->mS s X.env.scope X.N x=AC->PS X x (upS X.K (wpS Z s))
 |.set i e,X,x,hX,hf,h=>R7 (C:=λx=>PS X x (upS X.K (wpS Z (.set i e)))) h λtx v pos h=>xN_ (C:=λtx=>PS X (.Assign [tx] v pos) (upS X.K (wpS Z (.set i e)))) (an h).2 λy py h2=>by
  have h3:=(an h).1;have ie:=f9 Z e X v hX h3;have h1:=beq_iff_eq.1 (an h2).1;have hl:=W0 (an (an h2).2).1;have hf:=hf y hl (nt (an (an h2).2).2)
  by_cases hc:M7 v=AC
  ·show at7 hX.nd h1 hl ie.v (U8 hc) hf
  ·cases v with
   |ListComp el gs scope p=>
    let{b,hb}:=by5 (el:=el) (gs:=gs) (scope:=scope) (p:=p) (py:=py) (y:=y) (n:=pos.line) (env:=X.env);cases b with
    |false=>show at7 hX.nd h1 hl ie.v hb hf
    |true=>
     let{Nc,fr,k,t,it,c,e,rfl}:=c47 h3;revert hb;apply l1_ (C:=λgs=>Cc (.ListComp el gs scope p) (AA (.Name y py)) pos.line X.env=pure AC->PS X (.Assign [.Name y py] (.ListComp el gs scope p) pos) (upS X.K (wpS Z (.set i (.comp Nc fr k t it c e))))) h3 λg h hb=>?_;let{tg,itx,ifs,n}:=g;let{h0,h}:=an h;cases(beq_iff_eq.1 h0:n=0);let{g1,h}:=an h;let{g2,h}:=an h;let{g3,h}:=an h;have Sc:=bb1 g1;show PS.imp (bw7 hX.calm hX.nd h1 hl hf Sc (au1 Z it X tg itx hX g2)
      (λC fp pins s H=>af2 (X:=X.comp scope Nc C fp pins s H) (ow:=AF) hX.calm Sc.nd nofun g3)
      (λC fp pins s H=>br5 (X:=X.comp scope Nc C fp pins s H) (an h).2 λx h=>f9 Z c (X.comp scope Nc C fp pins s H) x (hX.comp (ac1 g1) Sc C fp pins s H) h)
      (λC fp pins s H=>(f9 Z e (X.comp scope Nc C fp pins s H) el (hX.comp (ac1 g1) Sc C fp pins s H) (an h).1).v) hb (aw8 g2)) λF σ H⟨env,st,Fd,hE,hS,ht',hq⟩=>
      ba4 {env,st,(λd st'=>Fd.nx (env.set i (AA d)) st'),hE,hS,ht',λv d H' st' ev is rs q=>hq.nx _ _ H' st' ev ((hE.mono (ev.tk hS)).set is i) rs q}
   |SetComp el gs scope p=>show(AJ (c75.symm.trans h3)).elim
   |DictComp a b gs scope p=>show(AJ (de2.symm.trans h3)).elim
   |_=>show absurd rfl hc
 |.pre i,X,x,hX,hf,h=>(AJ h).elim
 |.iput o i v,X,x,hX,hf,h=>R7 (C:=λx=>PS X x (upS X.K (wpS Z (.iput o i v)))) h λtx y pos h=>xS_ (C:=λtx=>PS X (.Assign [tx] y pos) (upS X.K (wpS Z (.iput o i v)))) (an h).2 λp q ps h2=>
  (by show ch0 hX.units (f9 Z v X y hX (an (an h).1).1).v (f9 Z o X p hX (an h2).1).v (f9 Z i X q hX (an h2).2).v (U8 (an (an h).1).2))
 |.dput o i v,X,x,hX,hf,h=>R7 (C:=λx=>PS X x (upS X.K (wpS Z (.dput o i v)))) h λtx y pos h=>xS_ (C:=λtx=>PS X (.Assign [tx] y pos) (upS X.K (wpS Z (.dput o i v)))) (an h).2 λp q ps h2=>
  (by show cj6 hX.units (f9 Z v X y hX (an (an h).1).1).v (f9 Z o X p hX (an h2).1).v (f9 Z i X q hX (an h2).2).v (U8 (an (an h).1).2))
 |.put o i v,X,x,hX,hf,h=>R7 (C:=λx=>PS X x (upS X.K (wpS Z (.put o i v)))) h λtx y pos h=>xS_ (C:=λtx=>PS X (.Assign [tx] y pos) (upS X.K (wpS Z (.put o i v)))) (an h).2 λp q ps h2=>by
  have iq:=f9 Z i X q hX (an h2).2;apply cy2 (f9 Z v X y hX (an (an h).1).1).v (f9 Z o X p hX (an h2).1).v iq.v (λw=>?_) (ar9 (an (an h).1).2) rfl;cases q<;>first|rfl|show absurd rfl (iq.sl _ _ _ _)
 |.fldS o f v,X,x,hX,hf,h=>R7 (C:=λx=>PS X x (upS X.K (wpS Z (.fldS o f v)))) h λtx y pos h=>xA_ (C:=λtx=>PS X (.Assign [tx] y pos) (upS X.K (wpS Z (.fldS o f v)))) (an h).2 λp g ps h2=>by
  cases beq_iff_eq.1 (an h2).1;show ch6 (hX.cls _) (f9 Z v X y hX (an (an h).1).1).v (f9 Z o X p hX (an h2).2).v (U8 (an (an h).1).2)
 |.unp is e,X,x,hX,hf,h=>R7 (C:=λx=>PS X x (upS X.K (wpS Z (.unp is e)))) h λtx y pos h=>xT_ (C:=λtx=>PS X (.Assign [tx] y pos) (upS X.K (wpS Z (.unp is e)))) (an h).2 λes k p h2=>by
  apply c22 (f9 Z e X y hX (an (an h).1).1).v (af2 hX.calm hX.nd (λ_=>hf) h2) (ar9 (an (an (an h).1).2).1) ?_ rfl;have h4:=(an (an (an h).1).2).2;cases y<;>first|rfl|show(AJ h4).elim
 |.unl is e,X,x,hX,hf,h=>R7 (C:=λx=>PS X x (upS X.K (wpS Z (.unl is e)))) h λtx y pos h=>xT_ (C:=λtx=>PS X (.Assign [tx] y pos) (upS X.K (wpS Z (.unl is e)))) (an h).2 λes k p h2=>by
  apply xT_ (C:=λx=>∀es k p,x=.Tuple es k p->PS X (.Assign [.Tuple es k p] y pos) (upS X.K (wpS Z (.unl is e)))) h2 (λes k p h2 es' k' p' e'=>?_) es k p rfl;cases e';let{g1,g2,g3}:=bp8 hX.nd (λ_=>hf) is es (beq_iff_eq.1 (an h2).1) (an h2).2;apply cx8 hX.calm (f9 Z e X y hX (an (an h).1).1).v g1 g2 g3 (ar9 (an (an (an h).1).2).1) ?_;have h4:=(an (an (an h).1).2).2;cases y<;>first|rfl|show(AJ h4).elim
 |.ex e,X,x,hX,hf,h=>sX_ (C:=λx=>PS X x (upS X.K (wpS Z (.ex e)))) h λx p h=>(by show c59 (f9 Z e X _ hX (an h).1).v (U8 (an h).2))
 |.iff c a b,X,x,hX,hf,h=>sI_ (C:=λx=>PS X x (upS X.K (wpS Z (.iff c a b)))) h λx p q ps h=>
  (by show dd5 ((f9 Z c X _ hX (an (an h).1).1).t (an (an h).1).2) (O5 Z hm a X _ hX hf (an (an h).2).1) (O5 Z hm b X _ hX hf (an (an h).2).2))
 |.ret e,X,x,hX,hf,h=>sR_ (C:=λx=>PS X x (upS X.K (wpS Z (.ret e)))) h λx p h=>by
  cases x with
  |none=>show(AJ h).elim
  |some x=>show cx3 (f9 Z e X _ hX h).v
 |.retN,X,x,hX,hf,h=>sR_ (C:=λx=>PS X x (upS X.K (wpS Z .retN))) h λx p h=>by
  cases x with
  |some _=>show(AJ h).elim
  |none=>show ck0
 |.for t it b,X,x,hX,hf,h=>sF_ (C:=λx=>PS X x (upS X.K (wpS Z (.for t it b)))) h λtg x p q ps h=>by
  cases q with
  |cons=>show(AJ h).elim
  |nil=>show ct4 hX.pass hX.calm (au1 Z it X _ _ hX (an (an (an h).2).2).1) (af2 hX.calm hX.nd (λ_=>hf) (an (an h).2).1) (O5 Z hm b X _ hX hf (an (an (an h).2).2).2) (aw8 (an (an (an h).2).2).1)
 |.while c b,X,x,hX,hf,h=>sW_ (C:=λx=>PS X x (upS X.K (wpS Z (.while c b)))) h λx p q ps h=>by
  cases q with
  |cons=>show(AJ h).elim
  |nil=>show b48 hX.pass ((f9 Z c X _ hX (an (an (an h).2).1).1).t (an (an (an h).2).1).2) (O5 Z hm b X _ hX hf (an (an h).2).2)
 |.tr b,X,x,hX,hf,h=>dk2 (C:=λx=>PS X x (upS X.K (wpS Z (.tr b)))) h λp hs q r ps h=>by
  cases hs with
  |nil=>show(AJ h).elim
  |cons=>cases q with
   |cons=>show(AJ h).elim
   |nil=>cases r with
    |cons=>show(AJ h).elim
    |nil=>show de9 hX.xe (O5 Z hm b X _ hX hf (an h).2)
 |.cont,X,x,hX,hf,h=>sC_ (C:=λx=>PS X x (upS X.K (wpS Z .cont))) h λ_ _=>(by show cf4)
 |.dfn i np Nl cp b,X,x,hX,hf,h=>sD_ (C:=λx=>PS X x (upS X.K (wpS Z (.dfn i np Nl cp b)))) h λname args body dl rt tp scope ts bind p h=>by
  cases hp:ac4 args with
  |none=>rw[hp]at h;show(AJ (an h).2).elim
  |some ps=>
   rw[hp]at h;let{z,j}:=an h;let{h0,j0}:=an (show(_&&_)=AC from j);let{h1,j1}:=an j0;let{h2,j2}:=an j1;let{h3,j3}:=an j2;let{h4,j4}:=an j3;let{h5,j5}:=an j4;clear h j j0 j1 j2 j3 j4;cases beq_iff_eq.1 h0;cases dl with
   |cons=>show(AJ z).elim
   |nil=>cases rt with
    |some=>show(AJ z).elim
    |none=>cases tp with
     |cons=>show(AJ z).elim
     |nil=>cases ts with
      |some=>show(AJ z).elim
      |none=>
       let{L,hc}:=hX.lam h4;let{a1,a2,a3,a4,a5}:=bv9 hp;show cv9 hX.nd (beq_iff_eq.1 h1) (W0 h2) (hf _ (W0 h2) (nt h3)) a1 a2 a4 L (cd5 h5 hc (hm b scope Nl body (an j5).2 (nt (an j5).1)) (λname qual cl doc pm cv ct us hl=>a5 name qual _ scope cl doc pm cv ct us hl))
 |.dead,X,x,hX,hf,h=>λ_ _ _ _ _ _⟨_,_,_,_,_,ht,_⟩=>ht.elim
 |.pass,X,x,hX,hf,h=>sP_ (C:=λx=>PS X x (upS X.K (wpS Z .pass))) h λ_ _=>(by show ci2)
theorem O5(Z:Sg)(hm:∀(b:Ss)(sc:BL)(N:List Str)(l:List BR),mSs b sc N l=AC->N.contains A6=AF->Tbs.mt b sc N (.stmts l)):∀(l:Ss)(X:Cx)(xs:List BR),XOk Z X->HF X->mSs l X.env.scope X.N xs=AC->PSs X xs (upS X.K (i9 Z l))
 |.nil,X,xs,hX,hf,h=>by
  cases xs with
  |nil=>show cv0
  |cons=>show(AJ h).elim
 |.cons s r,X,xs,hX,hf,h=>by
  cases xs with
  |nil=>show(AJ h).elim
  |cons x xs=>
   rw[i9];show ch7 (dh2 Z hm s X _ hX hf (an h).1) (O5 Z hm r X _ hX hf (an h).2)
end
end
section
variable [Tbs]
variable{mg:Str->Option AG}{h:Heap}{f c m:Str}{st:BR}{ps:List Str}{fa a:AI}{od:Option AI}{sl:Array (Option AG)}{dc pm cd ct:AG}{n:Nat}{fd:Bl}{H:Hp}{X:Cx}
abbrev mP(i:Nat)(sc:BL)(N:List Str)(s:BR):Bool:=sA1 s λt x=>(xD x λl r _=>l.isEmpty&&r.isEmpty)&&xN t λy _=>(N[i]?==AA y)&&P2 sc y
abbrev mB:Ss->BL->List Str->List BR->Bool
 |.cons (.pre i) r,sc,N,s::l=>mP i sc N s&&mB r sc N l
 |b,sc,N,l=>mSs b sc N l
structure Stat0(st:BR)(d:Def)(ps:List Str):Prop where
 sc:FnScope d.N ps (p9 st)
 np:ps.length=d.np
 body:mB d.body (p9 st) d.N (C5 st)=AC
structure Stat(st:BR)(d:Def)(ps:List Str)(x f:Str):Prop extends Stat0 st d ps where
 bind:∀(kV doc pm:AG)(an:Option AI)(cdv ct:AG)(us:List AG),us.length=ps.length->EA (DN x f (B1 st) (C5 st) (p9 st) .none kV doc pm an cdv ct) {us,[]}=pure (ps.zip us)
structure FunD(K:AO)(x qual:Str)(st:BR)(f:AI)(fd:Bl):Prop where
 ex:∃(oc:AG)(od:Option AI)(dV kV doc pm:AG)(an:Option AI)(cdv ct:AG)(osl:Array (Option AG)),
  fd=DN x qual (B1 st) (C5 st) (p9 st) dV kV doc pm an cdv ct/\K.lookup f=AA {oc,od,.func fd,osl}/\Db K cdv qual=AC
 kp:Bv K (.ref f)=AC
structure DefAt(K:AO)(f:Str)(d:Def)(a:AI)(fd:Bl)(ps:List Str):Prop where
 ex:∃(st:BR)(x:Str),FunD K x f st a fd/\Stat0 st d ps
 bd:v6 K fd ps []
 lam:d.N.contains A6=AC->∃c P,fd.code=.ref c/\CS K c P=AC/\P∈Tbs.ps
structure DefOk(K:AO)(mg:Str->Option AG)(df:Option Int)(f:Str)(d:Def):Prop where
 ex:∃(a:AI)(fd:Bl)(ps:List Str),DefAt K f d a fd ps/\mg f=AA (.ref a)/\BB K AN f=AA (AA (.ref a))/\(df=AA 0->v6 K fd ps [.none])
structure MthOk(K:AO)(mg:Str->Option AG)(df:Option Int)(c m:Str)(d:Def):Prop where
 ex:∃(Ca a:AI)(fd:Bl)(ps:List Str),DefAt K (f8 c m) d a fd ps/\BB K AN c=AA (AA (.ref Ca))/\mg c=AA (.ref Ca)/\Cls K Ca/\Meth K Ca m a/\(m="__init__"->Mk K Ca a)/\∀i,df=AA i->∃tk,v6 K fd ps [.int i tk]
 nom:BB K AN (f8 c m)=AA AD
theorem O1:∀{a b d c:List Nat},(46:Nat)∉d->(46:Nat)∉c->a++46::b=d++46::c->a=d/\b=c
 |[],b,[],c,_,_,h=>{rfl,by simpa using h}
 |[],b,x::d,c,i,_,h=>by
  erw[CW,Br,As]at h;show absurd (h.1▸Bu) i
 |x::a,b,[],c,_,g,h=>by
  erw[CW,Br,As]at h;show absurd (h.2▸BJ _ Bu) g
 |x::a,b,y::d,c,i,g,h=>by
  erw[Br,As]at h;let{e,f}:=O1 (λz=>i (Ae _ z)) g h.2;show{by rw[h.1,e],f}
def ct5{K:AO}{e:Option Int}{d:Def}{g:Option AI}{j b:AG}(X:K.In h)(G:h.Ns AN mg)(S:Stat st d ps f f)
  (i:BB K AN f=AA (AA (.ref fa))) (l:K.lookup fa=AA {j,od,.func (DN f f (B1 st) (C5 st) (p9 st) .none b dc pm g cd ct),sl}) (n:Db K cd f=AC) (m:Bv K (.ref fa)=AC)
  (k:d.N.contains A6=AC->∃c P,cd=.ref c/\CS K c P=AC/\P∈Tbs.ps:=by show λh=>absurd h (by decide+kernel)) (a:e=AD:=by decide+kernel):DefOk K mg e f d:=
 {fa,_,ps,{{st,f,{⟨_,_,_,_,_,_,_,_,_,_,rfl,l,n⟩,m},S.toStat0},.all (S.bind b dc pm g cd ct),k},Hn X G i,i,λh=>by rw[a]at h;cases h}
def c37{K:AO}{d:Def}{a:AI}{j:Option AI}{l e:AG}{g:Option Int}(X:K.In h)(G:h.Ns AN mg)(S:Stat st d ps m (f8 c m))
  (s:BB K AN (f8 c m)=AA AD) (k:BB K AN c=AA (AA (.ref a))) (q:Cls K a) (f:Meth K a m fa) (p:m="__init__"->Mk K a fa)
  (o:K.lookup fa=AA {l,od,.func (DN m (f8 c m) (B1 st) (C5 st) (p9 st) .none e dc pm j cd ct),sl}) (r:Db K cd (f8 c m)=AC)
  (n:d.N.contains A6=AC->∃c P,cd=.ref c/\CS K c P=AC/\P∈Tbs.ps:=by show λh=>absurd h (by decide+kernel)) (b:g=AD:=by decide+kernel):MthOk K mg g c m d:=
 {{a,fa,_,ps,{{st,m,{⟨_,_,_,_,_,_,_,_,_,_,rfl,o,r⟩,f.kp},S.toStat0},.all (S.bind e dc pm j cd ct),n},k,Hn X G k,q,f,p,λi h=>by rw[b]at h;cases h},s}
def cg9{K:AO}{d:Def}{b T:AI}{q x:Option AI}{g:Array (Option AG)}{z k y:AG}{v:Option Int}{i:Int}{e:Tok}(X:K.In h)(G:h.Ns AN mg)(S:Stat0 st d ps)
  (u:∀(s:AL)(o:Obj)(n:Nat),s.heap.get? T=AA o->o.data=.seq #[.int i e] n->(∀a:List AG,a.length=ps.length->HA s (DN m (f8 c m) (B1 st) (C5 st) (p9 st) (.ref T) k dc pm q cd ct) {a,[]} (ps.zip a))/\∀a:List AG,a.length+1=ps.length->HA s (DN m (f8 c m) (B1 st) (C5 st) (p9 st) (.ref T) k dc pm q cd ct) {a,[]} (ps.zip (a++[.int i e])))
  (F:BB K AN (f8 c m)=AA AD) (w:BB K AN c=AA (AA (.ref b))) (D:Cls K b) (t:Meth K b m fa) (C:m="__init__"->Mk K b fa)
  (B:K.lookup fa=AA {z,od,.func (DN m (f8 c m) (B1 st) (C5 st) (p9 st) (.ref T) k dc pm q cd ct),sl}) (E:Db K cd (f8 c m)=AC) (r:K.lookup T=AA {y,x,.seq #[.int i e] n,g})
  (A:d.N.contains A6=AC->∃c P,cd=.ref c/\CS K c P=AC/\P∈Tbs.ps:=by show λh=>absurd h (by decide+kernel)) (l:v=AA i:=by decide+kernel):MthOk K mg v c m d:=
 {{b,fa,_,ps,{{st,m,{⟨_,_,_,_,_,_,_,_,_,_,rfl,B,E⟩,t.kp},S},λs a p f=>by
   rw[BF]at f ⊢;show(u s _ _ (p _ _ r) rfl).1 a f,A},w,Hn X G w,D,t,C,λj h=>by
   rw[l]at h;cases h;show{e,λs a p f=>(u s _ _ (p _ _ r) rfl).2 a (by simpa using f)}},F}
def DefAt.binds{K}{d}(D:DefAt K f d a fd ps):=D.bd
theorem DefAt.kp{K}{d}(D:DefAt K f d a fd ps):Bv K (.ref a)=AC:=by
 let{b,x,F,S}:=D.ex;show F.kp
structure AllOk(Pr:Al)(w:Aw)(K:AO)(mg:Str->Option AG)(P:j6)(G:Gs):Prop where
 fns:∀f d,P f=AA d->isM f=AF->DefOk K mg (C6 G.cls f) f d
 mts:∀f d,P f=AA d->isM f=AC->∃c m,f=f8 c m/\isM c=AF/\isM m=AF/\MthOk K mg (C6 G.cls (f8 c m)) c m d
 cls:∀f c Ca,BB K AN c=AA (AA (.ref Ca))->f∈G.cls c->Cls K Ca/\M6 K Ca f
 blt:∀b∈U9,mg b=AD
 tabs:∀g,G.tab g≠[]->GTab Pr w K mg g (G.tab g)
 cst:∀g d,G.cst g=AA d->∃u,mg g=AA u/\O6 K d u=AC
 isc:∀c∈G.cls "!is",∃Ca,mg c=AA (.ref Ca)/\IscOk K c Ca
 kt:Tbs.kt=(G.cls "!kt").isEmpty
def b49:isM (f8 c m)=AC:=by
 unfold isM f8;simp
def b51{c' m'}(d:isM c'=AF)(b:isM m'=AF)(h:f8 c m=f8 c' m'):c=c'/\m=m':=by
 unfold isM at d b;unfold f8 at h;have a:=congrArg (λs=>s.cps.toList) h;erw[FV,Bo]at a;have e:=O1 (by simp_all) (by simp_all) a;show{by cases c;cases c';simpa using e.1,by cases m;cases m';simpa using e.2}
def AllOk.mth{Pr}{w}{K}{P}{G}(h:AllOk Pr w K mg P G){d}(e:P (f8 c m)=AA d):MthOk K mg (C6 G.cls (f8 c m)) c m d:=by
 let{i,g,f,b,a,M}:=h.mts _ d e b49;let{rfl,rfl}:=b51 b a f;show M
def b09{K}{d}{ds}{vs}(r:IsDs K H ds vs):RelE K H (ae5 d ds) (L2.D3 d.N vs):=a88 r
def bc5{pins}{b:L2.St}{s}(I:L2.Inv X pins b H s)(a:∀x,X.fn x=AC)(g k)e:L2.Inv {X with fn:=g,ow:=k,xe:=e} pins b H s:=
 {{I.ok.mod,I.ok.kind,I.ok.glob,I.ok.blt,I.ok.above,I.ok.inj,I.ok.has,λx c _=>I.ok.cab x c (.inl (a x)),I.ok.hd,I.ok.frames,I.ok.stk,I.ok.exf,I.ok.bs,I.ok.bsz,I.ok.noex,I.ok.exfs,I.ok.funs,I.ok.frf},I.os,I.bare,I.base,I.loc,I.cell,I.free,
  λx c h=>.inl ((I.freeC x c h).resolve_right λz=>by simp_all),I.pin,I.hok,I.len}
abbrev Cxa(X:Cx):Cx:={X with fn:=λ_=>AC}
def Z9{pins}{a:L2.St}{s}(I:L2.Inv (Cxa X) pins a H s):L2.Inv X pins a H s:=bc5 I (λ_=>rfl) X.fn X.ow X.xe
abbrev M8(X:Cx)(l:List BR)(t:TS):Prop:=∀(pins:List (AI×Obj))(s:AL)(σ:L2.St)(H:Hp)(D:Ends),Inv (Cxa X) pins σ H s->t D σ H->AW (model X.prog X.w) X.A (execs l X.env) (SP X pins D) X.xe s
def M8.cons{x}{l6}{t u}(E:PS (Cxa X) x (upS X.K t))(C:M8 X l6 (upS X.K u)):M8 X (x::l6) (upS X.K λF g k=>t {F with nx:=u F} g k):=by
 intro e s p H D I h;let{g,k,n,B,A,z,j}:=h;apply Kg (thn (E e s p H {D with nx:=λa d=>∃b c,RelE X.K d b a/\RelS X.K c d/\u n b c/\EndsR X.K c d n D} I {g,k,_,B,A,z,λb a d c G m l q=>{b,c,m,l,q,j.after G},j.bk,j.ct,j.rt}) λf w q=>?_);cases f with
 |next=>
  let{a,d,i,b,c,N,M,L,J}:=q;show C e w a d D i ⟨b,c,n,N,M,L,J⟩
 |ret v=>let{r,a,d,i,q}:=q;show{r,a,d,Z9 i,q}
 |brk=>let{a,d,i,q}:=q;show{a,d,Z9 i,q}
 |cont=>let{a,d,i,q}:=q;show{a,d,Z9 i,q}
theorem br4 Z(g:∀b(n)N(l),mSs b n N l=AC->N.contains A6=AF->Tbs.mt b n N (.stmts l)){X}(f:XOk Z X)(j:HF X):∀(l)c,mB l X.env.scope X.N c=AC->M8 X c (upS X.K (i9 Z l))
 |.nil,c,h=>λa s e H D I=>O5 Z g .nil X c f j h a s e H D (Z9 I)
 |.cons x r,c,h=>by
  have d:mSs (.cons x r) X.env.scope X.N c=AC->M8 X c (upS X.K (i9 Z (.cons x r))):=λh a s e H D I=>O5 Z g (.cons x r) X c f j h a s e H D (Z9 I);cases x with
  |pre i=>
   cases c with
   |nil=>show d h
   |cons s l=>
    have w:=an ((h));apply R7 (C:=λs=>M8 X (s::l) (upS X.K (i9 Z (.cons (.pre i) r)))) w.1 λt x p v=>xN_ (C:=λt=>M8 X (.Assign [t] x p::l) (upS X.K (i9 Z (.cons (.pre i) r)))) (an v).2 λy A u=>?_;apply xD_ (C:=λx=>M8 X (.Assign [.Name y A] x p::l) (upS X.K (i9 Z (.cons (.pre i) r)))) (an v).1 λO M L o=>?_;have J:=GH.1 (an o).1;have G:=GH.1 (an o).2;subst J G;show M8.cons (t:=λF k m=>∀p,m p=AD->F.nx (k.set i (AA (.ref p))) (b0 m p (.dct []))) (PS.imp (at7 f.nd (beq_iff_eq.1 (an u).1) (W0 (an u).2) co5 rfl (.inl rfl)) λF e H q=>q) (br4 Z g f j r l w.2)
  |_=>show d h
abbrev cxF(P:Al)(w:Aw)(K:AO)(mg:Str->Option AG)(base:Heap)(N:List Str)(qual:Str)(scope:BL)(f:AI)(cd:AG)(A:BW)(outer:List Env)(s:AL)(H:Hp):Cx:=
 {ag3 CX0 P w K mg base N qual scope f cd A outer s H E0 with fn:=λy=>!(N.contains (B5 y)),ow:=λ_=>AC,xe:=λ_ _=>False}
def cz5{P}{w}{K}{base}{k}{f}{x qual}{N:List Str}{C:Sp}(F:FunD K x qual st f fd)(S:FnScope N ps (p9 st))
  (l:∀c H Q E,C c H Q E->c.length=ps.length)
  (i:∀(A:BW)(a:List Env)(s)H(c:List V)(Q)E,Room k (A.deeper (HW qual (p9 st) s.heap.objs.size f fd.code))->C c H Q E ->
   ∃t,M8 (cxF P w K mg base N qual (p9 st) f fd.code A a s H) (C5 st) t/\t {nx:=λ_ g=>Q .non g,rt:=Q} (L2.D3 N c) H) :
  FnOk P w K mg base CX0 (k+1) f fd ps C:=by
 let{oc,od,dV,kV,doc,pm,an,j,ct,osl,rfl,lk,R}:=F.ex;apply{l,λA a s H U Y c Q E O z hb r m=>?_};have hl:=l _ _ _ _ m;have X:=z.mod.kin.keeps λb o e=>(z.bs b o e).1;have M:=z.mod.nolimit.keeps λb o e=>(z.bs b o e).1;have h:∀y∈ps.zip Y,(p9 st).names.lookup y.1=AA .local\/(p9 st).names.lookup y.1=AA .cell/\((Km (s.heap.objs.size+1) (p9 st).names []).lookup y.1).isSome=AC:=λ⟨n,v⟩hy=>by
  rcases S.par n (FT hy).1 with q|q
  ·show .inl q
  ·show .inr {q,Jz _ _ _ (.inl q)}
 apply codeAny_call_function O.depth (X _ _ lk) rfl S.co S.gen rfl (W.codeRec_of X R) (hb _ _ _ _ ?_);apply wpAny_newFunctionEnv_cells S.kind h λb he D x=>?_;subst he;apply{M.keeps x.toInCall.keep,codeAny_func ?_};let{t,ht,hq}:=i A a s H c Q E (O.deeper _) m;have I0:Inv (ag3 CX0 P w K mg base N qual (p9 st) f j A a s H E0) [] (L2.D3 N c) H D:=b06 S O.hd z hl r x;have I:Inv (Cxa (cxF P w K mg base N qual (p9 st) f j A a s H)) [] (L2.D3 N c) H D:=bc5 I0 (λ_=>rfl) _ _ _;apply Bk (ht [] D (L2.D3 N c) H _ I hq) (λfl G B=>?_) λe G=>AV;have p:∀{d}{g}{v}{u},Inv (cxF P w K mg base N qual (p9 st) f j A a s H) [] d g G->j7 v u->Q v g->CE a P w H s Q u G:=
  λ{d g v u}J L q=>⟨v,g,J.os,J.bare,J.base,J.hok,L,q⟩
 cases fl with
 |ret u=>
  let{v,d,g,J,L,q}:=B;show p J L q
 |next=>
  let{d,g,J,q}:=B;show p (v:=V.non) J rfl q
 |brk=>
  let{_,_,_,q}:=B;show AV q
 |cont=>
  let{_,_,_,q}:=B;show AV q
section
variable {Pr:Al} {w:Aw} {K:AO} {base:Heap} {P:j6} {G:Gs}
structure LvOk(Pr:Al)(w:Aw)(K:AO)(mg:Str->Option AG)(base:Heap)(P:j6)(G:Gs)(n:Nat):Prop where
 fn:∀m,m<=n->∀(f:Str)(d:Def),P f=AA d->∀(a:AI)(fd:Bl)(ps:List Str),DefAt K f d a fd ps->FnOk Pr w K mg base CX0 m a fd ps (D6 K (sem P G m f))
 clo:∀np N b cs fa fd ps,CloF fd np N ps b->FnOk Pr w K mg base CX0 n fa fd ps (ab2 K fa fd np N cs (O8 P G n np N b cs))
@[reducible]noncomputable def Zl(P:j6)(G:Gs)(n:Nat):Sg:={λf=>(P f).isSome,sem P G n,G.tab,G.cls,(B9 P G n).2.1,λf=>(B9 P G n).2.2.1&&(P f).isSome,O8 P G n,G.cst}
def bk3(q:AllOk Pr w K mg P G)(L:LvOk Pr w K mg base P G n)(z:X.prog=Pr)(y:X.w=w)(f:X.K=K)(o:X.mg=mg)(C:X.base=base)(v:Room n X.A)(calm:X.calm=AC)(xe:X.xe=λ_ _=>False)(nd:X.N.Nodup)
  (lam:X.N.contains A6=AC->LamOk X/\∀x,X.N.contains (B5 x)=AC->X.fn x=AF/\X.ow x=AC)
  (mt:∀b O N Y,mFB b O N Y->Tbs.mt b O N Y):XOk (Zl P G n) X where
 calm:=calm
 xe:=xe
 units:=by have:=v.un;lia
 nd:=nd
 blt:=by rw[o];show q.blt
 fns:=λg F l=>by
  let{p,a}:=BU.mp l;let{j,d,h,k,t,D,_}:=(q.fns g p a F).ex;apply{n,j,d,h,?_,v,by rw[o];show t,by rw[f];show k.kp,by rw[f];show k.binds,by rw[f];show D};rw[z,y,f,o,C];show L.fn n (AR _) g p a j d h k
 fnd:=λg F l hd=>by
  let{p,a}:=BU.mp l;let{j,d,h,k,t,D,Q}:=(q.fns g p a F).ex;apply{n,j,d,h,?_,v,by rw[o];show t,by rw[f];show k.kp,by rw[f];show Q hd};rw[z,y,f,o,C];show L.fn n (AR _) g p a j d h k
 nom:=λg a l W=>by
  let{p,a}:=BU.mp l;cases e:isM g with
  |false=>rfl
  |true=>
   let{c,m,rfl,_,_,M}:=q.mts g p a e;rw[f,M.nom]at W;cases W
 cls:=by rw[f];show q.cls
 mth:=λm c a H l=>by
  let{p,a}:=BU.mp l;let{B,j,d,h,k,r,u,J,I,R,_}:=(q.mth a).ex;rw[f,r]at H;cases H;apply{n,j,d,h,by rw[f];show J,by rw[f];show I,?_,v,by rw[f];show k.binds};rw[z,y,f,o,C];show L.fn n (AR _) _ p a j d h k
 mthd:=λm c a i H l F=>by
  let{p,a}:=BU.mp l;let{B,j,d,h,k,r,u,J,I,R,D1}:=(q.mth a).ex;rw[f,r]at H;cases H;let{Z,Q}:=D1 i F;apply{n,j,d,h,Z,by rw[f];show J,by rw[f];show I,?_,v,by rw[f];show Q};rw[z,y,f,o,C];show L.fn n (AR _) _ p a j d h k
 mks:=λc l=>by
  erw[BG]at l;let{p,a}:=BU.mp l.2;let{B,j,d,h,k,r,u,J,I,R,_}:=(q.mth a).ex;cases n with
  |zero=>show absurd l.1 AJ
  |succ m=>
   apply{B,m,j,d,h,by rw[f];show r,by rw[f];show R rfl,?_,v,by rw[o];show u,by rw[f];show k.binds};rw[z,y,f,o,C];show L.fn m (JB _) _ p a j d h k
 tabs:=by rw[z,y,f,o];show q.tabs
 cst:=by rw[f,o];show q.cst
 isc:=by rw[f,o];show q.isc
 kt:=q.kt
 lam:=lam
 mtE:=λe O N x a b=>mt _ _ _ _ ⟨b,e,rfl,a⟩
 clo:=λa N b c d e g h=>{n,by rw[z,y,f,o,C];show L.clo a N b c d e g h,v}
def cl8:LvOk Pr w K mg base P G 0:=by
 apply{λm x f d y a k p D=>?_,λj N b l q k p z=>?_}
 ·obtain rfl:m=0:=by lia
  have g:∀c H Q E,¬D6 K (sem P G 0 f) c H Q E:=λc H Q E h=>by
   let{r,v,t,_,_,h,_}:=h;show h
  show{λc H Q E h=>absurd h (g c H Q E),λA e s H i o c Q E _ _ _ _ h=>absurd h (g c H Q E)}
 ·have g:∀c H Q E,¬ab2 K q k j N l (O8 P G 0 j N b l) c H Q E:=λc H Q E h=>by
   let{n,r,u,t,_,_,_,_,h,_}:=h;show h
  show{λc H Q E h=>absurd h (g c H Q E),λA e s H i o c Q E _ _ _ _ h=>absurd h (g c H Q E)}
def ck6(hA:AllOk Pr w K mg P G)(hb0:W8 mg base)(hK0:K.In base)(R:∀b o N B,mFB b o N B↔Tbs.mt b o N B)(L:LvOk Pr w K mg base P G n):LvOk Pr w K mg base P G (n+1):=by
 have C:∀(b:Ss)(o:BL)(N:List Str)(l:List BR),mSs b o N l=AC->N.contains A6=AF->Tbs.mt b o N (.stmts l):=λb o N l a c=>(R _ _ _ _).mp ⟨c,a⟩;apply{λm b f d hf a i ps D=>?_,λa N b c fa i e V=>?_}
 ·by_cases hmn:m<=n
  ·show L.fn m hmn f d hf a i ps D
  obtain rfl:m=n+1:=by lia
  let{st,x,F,S}:=D.ex;apply cz5 F S.sc (λa H Q E h=>?_) (λA g s H vs Q E hr h=>?_)
  ·let{ds,s0,Qd,is,_,hs,_}:=h;let{d',k,u,_}:=hs;rw[hf]at k;cases k;rw[<-is.len,u,S.np]
  ·let{ds,s0,Qd,is,rs,hs,hq}:=h;let{d',k,u,T}:=hs;rw[hf]at k;cases k;have U:XOk (Zl P G n) (cxF Pr w K mg base d.N f (p9 st) a i.code A g s H):=bk3 hA L rfl rfl rfl rfl rfl hr rfl rfl S.sc.nd (λu=>by
    let{c,P',e1,e2,e3}:=D.lam u;apply{{{c,P',e1,LK hK0 e2,e3},hb0},λx hx=>{?_,rfl}};change(!(d.N.contains (B5 x)))=AF;have hx':d.N.contains (B5 x)=AC:=hx;rw[hx'];rfl) λb o N B=>(R b o N B).mp
   have hF:HF (cxF Pr w K mg base d.N f (p9 st) a i.code A g s H):=λy _ a=>.inl (by
    change(!(d.N.contains (B5 y)))=AC;have t:d.N.contains (B5 y)=AF:=a;rw[t];rfl)
   apply{_,br4 _ C U hF d.body _ S.body,ae5 d ds,s0,_,b09 is,rs,T,λM a O r J b hS q=>?_,λM σ O r J hE hS q=>q.elim,λM σ O r J hE hS q=>q.elim,λv e O r J is' Y q=>?_}
   ·let{X,j,q}:=q;show hq _ .non O X (J.drop j) .non (hS.sub j) q
   ·let{X,j,q}:=q;show hq v e O X (J.drop j) is' (Y.sub j) q
 ·apply cq9 (Z:=Zl P G n) V λq A g s H hr=>?_;let{hnl,p}:=(R _ _ _ _).mpr V.mt;have U:XOk (Zl P G n) (cxC Pr w K mg base N i.scope i.closure q fa i.code A g s H):=bk3 hA L rfl rfl rfl rfl rfl hr rfl rfl V.sc.nd (λu=>by
   have I:N.contains A6=AC:=u;rw[hnl]at I;cases I) λb o N B=>(R b o N B).mp
  have hF:HF (cxC Pr w K mg base N i.scope i.closure q fa i.code A g s H):=λy hy _=>by
   have t:i.scope.names.lookup y=AA .local\/i.scope.names.lookup y=AA .cell:=hy
   rcases t with z|z
   ·show .inr z
   ·show absurd rfl (V.sc.nocell _ (PySem.mem_of_lookup z))
  cases T:i.body with
  |stmts l=>rw[T]at p;show O5 _ C b _ l U hF p
  |expr x=>
   rw[T]at p;let{e,rfl,he}:=p;show{e,rfl,(f9 _ e _ x U he).v}
theorem bo0(f:AllOk Pr w K mg P G)(a:W8 mg base)(c:K.In base)(e:∀b d N g,mFB b d N g↔Tbs.mt b d N g):∀n,LvOk Pr w K mg base P G n
 |0=>cl8
 |n+1=>ck6 f a c e (bo0 f a c e n)
end
abbrev st0(a:AI)(ns:List Int):Sto:=λb=>if b=a then AA (.fro (ns.map D.int))else AD
theorem a96{K}:∀a:List Int,IsDs K H (a.map D.int) (a.map V.int)
 |[]=>.nil
 |n::r=>.cons (.int n) (a96 r)
abbrev V1(K:AO):Bool:=K.all λp=>!(p.2.cls==.type "list")
def a81{K}{o}(h:V1 K=AC)(e:K.lookup a=AA o):o.cls≠.type "list":=by
 unfold V1 at h;rw[ED]at h;have i:(a,o)∈K:=by
  induction K with
  |nil=>cases e
  |cons p r f=>
   let{b,x}:=p;rw[EC]at e;cases q:a==b with
   |true=>simp_all
   |false=>rw[q]at e;show Ae _ (f (λp g=>h p (Ae _ g)) e)
 have:=h _ i;simpa using this
end
def b29{P:Al}{w:Aw}{K:AO}{l T:Str->Option AG}{k:Nat}{fa a:AI}{fd:Bl}{x:Str}{sp:Sp}{c:AL}{t:List AG}{y:List Int}{ts:List AI}
  (KX:K.In c.heap) (B:c.heap.Ns AN l) (i:c.heap.Ns Cv T) (Y:∀x:Str,x≠"__name__"->T x=BK x) (C:c.heap.NoLimit) (X:W8 l c.heap) (hg:c.gens=#[])
  (D:c.heap.get? a=AA {cls:=.type "list",data:=.seq t.toArray}) (hi:JG t y) (hl:y.length<=sizeLine) (hr:Room k Hy)
  (L:∀P∈ts,c.heap.get? P=AA (Hq #[])/\isCodeTable c.heap P) (Z:∀P∈ts,K.lookup P=AD) (hKa:K.lookup a=AD)
  (F:∀g:Heap,K.In g->g.Ns AN l->W8 l g->FnOk P w K l g CX0 k fa fd [x] sp) (s:HA c fd {[.ref a],[]} [(x,.ref a)])
  (U:∀H:Hp,(∀P∈ts,H P=AA (.tbl #[]))->SqL K H a (y.map V.int)->sp [.ref a] H (λv _=>v=.bl AC) λ_ _ _=>False) :
  EL (model P w) Hy (.call (.ref fa) {[.ref a],[]}) (λr J=>r=.ok (.ret (.bool AC))/\OldK c.heap J.heap/\J.os=c.os/\Gv J.gens) c:=by
 have rv:=bb0 hi;have S:a∉ts:=λz=>by
  have:=(L a z).1;rw[D]at this;cases this
 let H:Hp:=λb=>if b=a then AA (.frz {cls:=.type "list",data:=.seq t.toArray} (.lst (y.map V.int)))else if b∈ts then AA (.tbl #[])else AD
 have Q:H a=AA (.frz {cls:=.type "list",data:=.seq t.toArray} (.lst (y.map V.int))):=if_pos rfl;have Ht:∀P∈ts,H P=AA (.tbl #[]):=λP hP=>by
  have ne:P≠a:=λz=>S (z▸hP);change(if P=a then _ else if P∈ts then _ else _)=_;rw[if_neg ne,if_pos hP]
 have O:∀b u,H b=AA u->b=a\/b∈ts:=λb u e=>by
  by_cases N:b=a
  ·show .inl N
  ·by_cases M:b∈ts
   ·show .inr M
   ·have e':(if b=a then AA (HO.frz {cls:=.type "list",data:=.seq t.toArray} (.lst (y.map V.int)))else if b∈ts then AA (.tbl #[])else AD)=AA u:=e;rw[if_neg N,if_neg M]at e';cases e'
 have W:HOk P w H c.heap:=λb u e=>by
  rcases O b u e with rfl|i
  ·rw[Q]at e;cases e;show{D,by rw[AX];show hl,t,_,rv,D}
  ·rw[Ht b i]at e;cases e;show(L b i).1
 have J5:∀{b:AI}{o:Obj},c.heap.get? b=AA o->H b=AD->(N0 c.heap H).get? b=AA o:=λe n=>b54 e n;have f:∀b o,c.heap.get? b=AA o->(∀R n,o.data≠.seq R n)->(∀R,o.data≠.fields R)->H b=AD:=λb o e n1 n2=>by
  cases q:H b with
  |none=>rfl
  |some u=>
   rcases O b u q with rfl|i
   ·rw[D]at e;cases e;show absurd rfl (n1 _ _)
   ·rw[(L b i).1]at e;cases e;show absurd rfl (n2 _)
 have j:∀{b:AI}{m:Str->Option AG},c.heap.Ns b m->(N0 c.heap H).Ns b m:=λ{b m}⟨o,a,h,e,d,r⟩=>{o,a,h,J5 e (f b o e (by rw[d];show λ_ _=>nofun) (by rw[d];show λ_=>nofun)),d,r};have E:K.In (N0 c.heap H):=λb o e=>J5 (KX b o e) (by
  cases q:H b with
  |none=>rfl
  |some u=>
   rcases O b u q with rfl|i
   ·rw[hKa]at e;cases e
   ·rw[Z b i]at e;cases e)
 have hBb:W8 l (N0 c.heap H):=by
  let{bm,ob,b1,b2,b3,b4,b5,b6}:=X;show{bm,ob,b1,b2,J5 b3 (f bm ob b3 (by rw[b6];show λ_ _=>nofun) (by rw[b6];show λ_=>nofun)),b4,b5,b6}
 have hM:Mod K l (N0 c.heap H):=⟨E,j B,{T,j i,Y},let⟨mc,N,M⟩:=C;{mc,j N,M}⟩;have e0:Env0 P w K l (N0 c.heap H) Hy [] c H:={rfl,hM,λb o e=>cn2 e,Kk (b14 _ _),trivial,λb i=>absurd (show b∈([]:List AI) from i) ∎,W,.of_eq hg};apply HB ((F _ E (j B) hBb).run Hy [] c H {[.ref a],[]} [.ref a] [.ref a] _ _ hr e0 s (.cons rfl .nil) (U H Ht (.inl (.inr ⟨_,Q⟩)))) λr J h=>?_;cases r with
 |error e=>show AV h
 |ok fl=>
  cases fl with
  |next=>show AV h
  |brk=>show AV h
  |cont=>show AV h
  |ret u=>
   let{v,H',os,G,I,p,r',q}:=h;have q':v=.bl AC:=q;subst q';obtain rfl:u=Dz AC:=r';apply{rfl,{λb o e=>?_,λb o e=>I.there b o e ∎},os,G};cases q:H b with
   |none=>show .inl (I.keep b o e q (by intro z;show absurd (show b∈([]:List AI) from z) ∎) ∎)
   |some u=>
    rcases O b u q with rfl|i
    ·rw[Q]at q;cases q;have z2:=I.frzs b _ _ Q;let{e2,_}:=p b _ z2;rw[D]at e;cases e;show .inl e2
    ·let{t1,t2}:=L b i;rw[t1]at e;cases e;let{A,z}:=I.tbls b _ (Ht b i);have e2:=p b _ z;show .inr (.inl {t2,rfl,#[],A,rfl,e2})
def bu2 [Tbs]{K}{h}{a}{o}(X:K.In h)(c:V1 K=AC)(e:h.get? a=AA o)(d:o.cls=.type "list"):K.lookup a=AD:=by
 cases q:K.lookup a with
 |none=>rfl
 |some b=>
  have:=X a b q;rw[e]at this;cases this;show absurd d (a81 c q)
def cn3{l:W.OpenLaw}{q:Al}{k:List Str}{XP:(Str->Option AG)->Heap->Prop}{YP:Aw->Heap->Prop}{d:DefRec}{K:Params->AO}{P:j6}{G:Gs}{n:Nat}{x:Str}{dl:Def}{C:List AI}
  (hn:l.most=AA 63) (O:d.params.defaults=[]) (N:d.name="law") (hr:Room n Hy) (hY:∀(w:Aw)(h:Heap),YP w h->(K w.params).In h/\∀P∈C,h.get? P=AA (Hq #[])) (hl:P "law"=AA dl)
  (L:∀J E,Stat0 J dl E->E=[x])
  (F:∀(w:Aw)(I:Str->Option AG)(h:Heap),(K w.params).In h->h.Ns AN I->(letI:Tbs:={C,mFB,(G.cls "!kt").isEmpty};AllOk l.prog w (K w.params) I P G)/\V1 (K w.params)=AC/\JL (K w.params)=AC/\∀P∈C,∃c,CS (K w.params) c P=AC)
  (D:∀(a:AI)(u:List Int),u.length<=63->sem P G n "law" [.ref a] (st0 a u) λd _=>d=.bl AC) :
  W.WalkO q k XP YP l.row.toRowW d [] (λf Z=>PySem.call f Z):=by
 letI:Tbs:={C,mFB,(G.cls "!kt").isEmpty}
 apply Att.attach_call hn O λw b c I d fa o f g h a Z u B Y l m k M i p j hg=>?_;let{A,r}:=hY w _ Y;let{hA,U,t,hC}:=F w I _ A B.T.g;let{ad,fd,E,X,mf,_,_}:=(hA.fns "law" dl hl (by decide+kernel)).ex;let{J,y,Ff,Sf}:=X.ex;have e:=L J E Sf;subst e;rw[N]at M;have ea:fa=ad:=by lia
 subst ea;have V:(K w.params).lookup a=AD:=bu2 A U i rfl;apply b29 (ts:=C) (sp:=D6 (K w.params) (sem P G n "law")) A B.T.g B.T.b B.T.builtins B.T.nolimit B.T.bmain hg i p (Ap j ∅) hr (λP s=>{r P s,?_}) (λP s=>?_) V (λa R b Q=>(bo0 hA Q R (λ_ _ _ _=>Iff.rfl) n).fn n (AR _) "law" dl hl fa fd [x] X) (X.bd _ [.ref a] A rfl) (λH hH S=>?_)
 ·let{c,hc}:=hC P s;show((LK A hc).tab (r P s)).isCodeTable
 ·cases qq:(K w.params).lookup P with
  |none=>rfl
  |some o'=>
   have z:=A P o' qq;rw[r P s]at z;cases z;unfold JL at t;rw[ED]at t;show absurd (t _ (W.mem_of_lookupK qq)) AJ
 ·apply{[.ref a],st0 a u,_,.cons (.ref a) .nil,{λb o e=>?_,λP s=>{#[],hH P s,trivial,λa b z=>by cases z}},D a u j,λv d' b c d is f q=>?_}
  ·unfold st0 at e
   split at e
   ·rename_i R;cases e;subst R
    rcases S with S|⟨ob,its,m,hk,hc,_⟩
    ·show{_,S,a96 u}
    ·simp_all
   ·cases e
  ·have q':d'=.bl AC:=q;subst q';cases is;rfl
abbrev cj1(P:AI)(o:Obj):Bool:=match o with
 |⟨.type "code",_,.fields vs,_⟩=>(match(vs[11]?:Option AG)with|some (.ref P')=>P'==P|_=>AF)
 |_=>AF
abbrev ax0(K:AO)(ts:List AI):Bool:=ts.all λP=>match K.find? λp=>cj1 P p.2 with
 |some p=>CS K p.1 P
 |none=>AF
def cf3{K}{ts}(h:ax0 K ts=AC):∀P∈ts,∃c,CS K c P=AC:=λP a=>by
 unfold ax0 at h;rw[ED]at h;have:=h P a
 split at this
 ·show⟨_,this⟩
 ·cases this
abbrev aw4(K:AO)(cd:AG):Option (AI×AI):=match cd with
 |.ref c=>(match K.lookup c with
  |some ⟨_,_,.fields vs,_⟩=>(match(vs[11]?:Option AG)with|some (.ref P)=>AA (c,P)|_=>AD)
  |_=>AD)
 |_=>AD
def cr1{K}{cd}{c P}{a:List AI}(h:aw4 K cd=AA (c,P))(b:CS K c P=AC)(d:a.contains P=AC):∃c P,cd=.ref c/\CS K c P=AC/\P∈a:=by
 unfold aw4 at h
 split at h
 ·split at h
  ·split at h
   ·cases h;show{_,_,rfl,b,by simp_all}
   ·cases h
  ·cases h
 ·cases h
end Ek
namespace Ek
open PySem L2
section
def am7 s:Ac s=⟨(s.toList.map Fw).toArray⟩:=by
 unfold Ac;rw[cpsOfBytes_string]
def bv0:∀(x y:Char),x.toNat=y.toNat->x=y:=λx y h=>Char.ext (UInt32.toNat_inj.mp h)
theorem a84:∀(a b:List Char),a.map Fw=b.map Fw->a=b
 |[],[],_=>rfl
 |[],_::_,h=>by simp at h
 |_::_,[],h=>by simp at h
 |x::a,y::b,h=>by
  simp at h;rw[bv0 x y h.1,a84 a b h.2]
def A5{a b}:(Ac a=Ac b)=(a=b):=by
 apply propext {λh=>?_,λh=>by rw[h]};rw[am7,am7]at h;have c:=by simpa using h
 show String.toList_inj.mp (a84 _ _ c)
def u6 s:(D.str (Ac s)).pure=AC:=by
 change Jr (Ac s)=AC;unfold Jr;rw[am7];simp;intro c _;have h:=c.valid;change c.val.toNat<1114112;lia
variable{L:List AI}{st st':Sto}{a b c e v:E}{o u:Ob}{Q:DK}{f g:Str}{np i:Nat}{N:List Str}{es:Es}
abbrev Kp(L:List AI)(st st':Sto):Prop:=∀b o,b∉L->st b=AA o->st' b=AA o
def Kp.refl:Kp L st st:=λ_ _ _ h=>h
def Kp.trans{a b c}(x:Kp L a b)(y:Kp L b c):Kp L a c:=λd o n h=>y d o n (x d o n h)
def Kp.more{M}{a b}(x:Kp L a b)(s:∀d∈L,d∈M):Kp M a b:=λd o n=>x d o λz=>n (s d z)
def Kp.new{p}(x:Kp L st st')(h:st' p=AD):Kp L st (b0 st' p o):=λd u n e=>by
 have a:=x d u n e;rwa[J4 λz=>by grind]
def Kp.put{p}(x:Kp L st st')(h:p∈L):Kp L st (b0 st' p o):=λd u n e=>by
 rw[J4 λz=>n (by rwa[z])];show x d u n e
def Kp.at'{b}(x:Kp L st st')h(n):=x b o n h
def l8{a p}(h:st a=AA o)(b:st p=AD):b0 st p u a=AA o:=by
 rwa[J4 λz=>by grind]
def n8{a p}(h:st a=AA o)(b:st p=AD):a≠p:=λz=>by grind
def c9{a p}(h:st a=AA o)(n:a≠p):b0 st p u a=AA o:=J4 n▸h
def P5{a}:b0 (b0 st a o) a u=b0 st a u:=by
 funext b;unfold b0;split<;>rfl
abbrev l9(st:Sto)(a:AI):Prop:=∃l:List Int,st a=AA (.lst (l.map .int))
def l9.keep{b}(h:l9 st b)(x:Kp L st st')(n:b∉L):l9 st' b:=let⟨l,e⟩:=h;{l,x.at' e n}
def l9.new{b p}(h:l9 st b)(a:st p=AD):l9 (b0 st p u) b:=let⟨l,e⟩:=h;{l,l8 e a}
def l9.ne{b p}(h:l9 st b)(a:st p=AD):=let⟨l,e⟩:=h;n8 e a
abbrev j9(Q:DK):DEnds:={nx:=λ_ st'=>∃s2,Sub s2 st'/\Q .non s2,rt:=λd st'=>∃s2,Sub s2 st'/\Q d s2}
def c7{d:D}(h:Q d st):(j9 Q).rt d st:={st,Sub.refl st,h}
def bh1{env}(h:Q .non st):(j9 Q).nx env st:={st,Sub.refl st,h}
@[reducible]noncomputable def Zg(P:j6)(G:Gs)(n:Nat):Sg:={λf=>(P f).isSome,sem P G n,G.tab,G.cls,(B9 P G n).2.1,λf=>(B9 P G n).2.2.1&&(P f).isSome,O8 P G n,G.cst}
def g9{P}{G}{n}{fd}{ds}(c:P f=AA fd)(a:ds.length=fd.np)env(b:ae5 fd ds=env)
  (h:i9 (Zg P G n) fd.body (j9 Q) env st):sem P G (n+1) f ds st Q:={fd,c,a,by rwa[b]}
def S7{P}{G}{n}{b}{cs ds}(a:ds.length=np)env(c:Q7 N ds cs=env)
  (h:i9 (Zg P G n) b (j9 Q) env st):O8 P G (n+1) np N b cs ds st Q:={a,c▸h}
section
variable {Z:Sg} {F:DEnds} {env:l7} 
def cx0{s}{r}:i9 Z (.cons s r) F env st=wpS Z s {i9 Z r F,F.rt,F.bk,F.ct} env st:=rfl
def c55:i9 Z .nil F env st=F.nx env st:=rfl
def db6:wpS Z (.set i e) F env st=wpE Z e env st λd a=>F.nx (env.set i (AA d)) a:=rfl
def c94:wpS Z (.pre i) F env st=∀p,st p=AD->F.nx (env.set i (AA (.ref p))) (b0 st p (.dct [])):=rfl
def cs1{o i}:wpS Z (.iput o i v) F env st=wpE Z v env st λd e=>wpE Z o env e λx c=>wpE Z i env c λy b=>au3 x y d b λa=>F.nx env a:=rfl
def cr4{o i}:wpS Z (.dput o i v) F env st=wpE Z v env st λd e=>wpE Z o env e λx c=>wpE Z i env c λy b=>av3 x y d b λa=>F.nx env a:=rfl
def dg3{o i}:wpS Z (.put o i v) F env st=wpE Z v env st λd e=>wpE Z o env e λx c=>wpE Z i env c λy b=>∃a j k f,x=.ref a/\y=.int j/\b a=AA (.lst f)/\ixN f.length j=AA k/\F.nx env (b0 b a (.lst (f.set k d))):=rfl
def c93{is}:wpS Z (.unl is e) F env st=wpE Z e env st λd a=>∃q b,d=.ref q/\rdS a q b/\b.length=is.length/\F.nx (C8 env is b) a:=rfl
def dc2{is}:wpS Z (.unp is e) F env st=wpE Z e env st λd b=>G4 (.tup is) d env λa=>F.nx a b:=rfl
def dm7:wpS Z (.ex e) F env st=wpE Z e env st λ_ a=>F.nx env a:=rfl
def de5{a b}:wpS Z (.iff c a b) F env st=wpE Z c env st λd e=>∃k,d=.bl k/\if k=AC then i9 Z a F env e else i9 Z b F env e:=rfl
def dd9:wpS Z (.ret e) F env st=wpE Z e env st F.rt:=rfl
def c27:wpS Z .retN F env st=F.rt .non st:=rfl
def c48{t}{it}{b}:wpS Z (.for t it b) F env st=E1 Z it env st λa d c=>u5 d t (i9 Z b) F a env c:=rfl
def cx1:wpS Z .cont F env st=F.ct env st:=rfl
def dl5{b:Ss}:wpS Z (.tr b) F env st=i9 Z b F env st:=rfl
def cr0:wpS Z .pass F env st=F.nx env st:=rfl
def dg0:wpE Z .non env st Q=Q .non st:=rfl
def dj4{b:Bool}:wpE Z (.bl b) env st Q=Q (.bl b) st:=rfl
def bp0{i:Int}:wpE Z (.int i) env st Q=Q (.int i) st:=rfl
def c92{x:Str}:wpE Z (.str x) env st Q=Q (.str x) st:=rfl
def e_v:wpE Z (.v i) env st Q=vR env[i]? λd=>Q d st:=rfl
def c58:wpE Z (.tup es) env st Q=B3 Z es env st λb a=>Q (.tup b) a:=rfl
def c79:wpE Z (.lst es) env st Q=B3 Z es env st λb a=>∀p,a p=AD->Q (.ref p) (b0 a p (.lst b)):=rfl
def de6{o}:wpE Z (.bin o a b) env st Q=wpE Z a env st λx d=>wpE Z b env d λy c=>E6 o x y c Q:=rfl
def c85:wpE Z (.neg a) env st Q=wpE Z a env st λx b=>∃i,x=.int i/\Q (.int (-i)) b:=rfl
def de3{o}:wpE Z (.cmp o a b) env st Q=wpE Z a env st λx d=>wpE Z b env d λy c=>t6 o x y c Q:=rfl
def db1:wpE Z (.isN a) env st Q=wpE Z a env st λx b=>x=.non/\Q (.bl AC) b\/x≠.non/\Q (.bl AF) b:=rfl
def c08:wpE Z (.notN a) env st Q=wpE Z a env st λx b=>x=.non/\Q (.bl AF) b\/x≠.non/\Q (.bl AC) b:=rfl
def de4:wpE Z (.and a b) env st Q=wpE Z a env st λx d=>∃c,x=.bl c/\if c=AC then wpE Z b env d Q else Q (.bl AF) d:=rfl
def di7:wpE Z (.or a b) env st Q=wpE Z a env st λx d=>∃c,x=.bl c/\if c=AC then Q (.bl AC) d else wpE Z b env d Q:=rfl
def c62:wpE Z (.not a) env st Q=wpE Z a env st λx b=>∃c,x=.bl c/\Q (.bl !c) b:=rfl
def c63:wpE Z (.ite c a b) env st Q=wpE Z c env st λx d=>∃k,x=.bl k/\if k=AC then wpE Z a env d Q else wpE Z b env d Q:=rfl
def dj7:wpE Z (.ix a b) env st Q=wpE Z a env st λx d=>wpE Z b env d λy c=>ixR x y c Q:=rfl
abbrev bnd(Z:Sg)(e:E)(env:l7)(st:Sto):(Option Int->Sto->Prop)->Prop:=if e.isNon=AC then λk=>k AD st else λk=>wpE Z e env st λd st'=>∃i,d=.int i/\k (AA i) st'
def cn5{k}:bnd Z .non env st k=k AD st:=rfl
def P6{k}(h:e.isNon=AF):bnd Z e env st k=wpE Z e env st λd a=>∃i,d=.int i/\k (AA i) a:=by
 unfold bnd;rw[h];rfl
def cf1{i}{k}:bnd Z (.int i) env st k=k (AA i) st:=propext {λ⟨_,h,q⟩=>by simp_all,λq=>⟨_,rfl,q⟩}
def df7{lo hi}:wpE Z (.slw a lo hi) env st Q=wpE Z a env st λx d=>bnd Z lo env d λl c=>bnd Z hi env c λh b=>af4 x l h b Q:=rfl
def dh4{lo hi}:wpE Z (.sl a lo hi) env st Q=wpE Z a env st λx d=>bnd Z lo env d λl c=>bnd Z hi env c λh b=>slR x l h b Q:=rfl
def cv1{k}:wpE Z (.gsel g k) env st Q=(Z.G g≠[]/\wpE Z k env st λx a=>∃w d,x=.str w/\A7 (Z.G g) w=AA d/\Q d a):=rfl
def c60:wpE Z (.len a) env st Q=wpE Z a env st λx b=>U2 x b Q:=rfl
def cd0:wpE Z (.toInt a) env st Q=wpE Z a env st λx b=>J6 x b Q:=rfl
def cu1:wpE Z (.list a) env st Q=wpE Z a env st λx b=>ab0 x b Q:=rfl
def ck2:wpE Z (.tuple a) env st Q=wpE Z a env st λx b=>W4 x b Q:=rfl
def b38:wpE Z (.isList a) env st Q=wpE Z a env st λx b=>V3 x b Q:=rfl
def c95:wpE Z (.min a b) env st Q=wpE Z a env st λx d=>wpE Z b env d λy c=>∃i j,x=.int i/\y=.int j/\Q (.int (if j<i then j else i)) c:=rfl
def c23:wpE Z (.lzip a b) env st Q=wpE Z a env st λx f=>wpE Z b env f λy c=>∃d e,x=.tup d/\y=.tup e/\d.length=e.length/\d.length<=1000000/\∀p,c p=AD->Q (.ref p) (b0 c p (.lst (L8 d e))):=rfl
def c84:wpE Z (.max a b) env st Q=wpE Z a env st λx d=>wpE Z b env d λy c=>∃i j,x=.int i/\y=.int j/\Q (.int (if j>i then j else i)) c:=rfl
def cq1:wpE Z (.call f es) env st Q=(Z.F f=AC/\B3 Z es env st λb a=>Z.Phi f b a Q):=rfl
def di0:wpE Z (.gf f) env st Q=(Z.F f=AC/\Q (.fn f) st):=rfl
def cg0:wpE Z (.callx c es) env st Q=wpE Z c env st λx b=>∃f,x=.fn f/\Z.F f=AC/\B3 Z es env b λd a=>Z.Phi f d a Q:=rfl
def c19{k d}:wpE Z (.gget g k d) env st Q=(Z.G g≠[]/\wpE Z k env st λx b=>wpE Z d env b λy a=>∃w,x=.str w/\Q ((A7 (Z.G g) w).getD y) a):=rfl
def c91:wpE Z (.fld a f) env st Q=wpE Z a env st λx b=>∃p c e d,x=.ref p/\b p=AA (.ins c e)/\f∈Z.C c/\e.lookup f=AA d/\Q d b:=rfl
def cp3{m}:wpE Z (.meth a m es) env st Q=wpE Z a env st λx b=>∃p c e,x=.ref p/\b p=AA (.ins c e)/\e.lookup m=AD/\Z.F (f8 c m)=AC/\B3 Z es env b λf d=>Z.Phi (f8 c m) (.ref p::f) d Q:=rfl
def c16{c}:wpE Z (.make c es) env st Q=(Z.MF (f8 c "__init__")=AC/\B3 Z es env st λd a=>∀p,a p=AD->Z.Mk (f8 c "__init__") (.ref p::d) (b0 a p (.ins c [])) λv b=>v=.non/\Q (.ref p) b):=rfl
def cy1{o}:wpS Z (.fldS o f v) F env st=wpE Z v env st λd b=>wpE Z o env b λx a=>∃p c e,x=.ref p/\a p=AA (.ins c e)/\f∈Z.C c/\e.length<1000/\F.nx env (b0 a p (.ins c (o8 f d e))):=rfl
def c29:wpS Z .dead F env st=False:=rfl
def cf0:wpE Z (.callv i es) env st Q=vR env[i]? λx=>W6 Z (B3 Z es env) st Q x:=rfl
def da4{ta}:W6 Z ta st Q (.fn f)=(Z.F f=AC/\ta st λb a=>Z.Phi f b a Q):=rfl
def c00{ta}{b}{cs}:W6 Z ta st Q (.clo np N b cs)=ta st λc a=>Z.PhiC np N b cs c a Q:=rfl
abbrev X7(env:l7):List Nat->(List D->Prop)->Prop
 |[],k=>k []
 |i::is,k=>vR env[i]? λd=>X7 env is λds=>k (d::ds)
def b81{k:List D->Prop}:X7 env [] k=k []:=rfl
def a95{is:List Nat}{k:List D->Prop}:X7 env (i::is) k=vR env[i]? λd=>X7 env is λds=>k (d::ds):=rfl
theorem au7:∀{cp:List Nat}{k:List D->Prop},(∃cs,P3 env cp=AA cs/\k cs)=X7 env cp k
 |[],k=>propext {λ⟨_,h,q⟩=>by cases h;show q,λq=>⟨_,rfl,q⟩}
 |i::is,k=>by
  rw[a95];apply propext {λ⟨cs,h,q⟩=>?_,λz=>?_}
  ·unfold P3 at h
   split at h
   ·rename_i d ds h1 h2;cases h;show au6 h1 ((au7 (k:=λds=>k (d::ds)))▸⟨ds,h2,q⟩)
   ·cases h
  ·let{d,hd,q}:=au0 z;rw[<-au7]at q;let{ds,h2,q}:=q;show{d::ds,by unfold P3;rw[hd,h2],q}
def da9{cp}{b}:wpS Z (.dfn i np N cp b) F env st=X7 env cp λa=>F.nx (env.set i (AA (.clo np N b a))) st:=au7
def di3:wpE Z (.gc g) env st Q=∃d,Z.Kc g=AA d/\Q d st:=rfl
def df5{t}:wpE Z (.isT t a) env st Q=wpE Z a env st λx b=>ab5 t x b Q:=rfl
def co6{ne}:wpE Z (.cmpl ne a b) env st Q=wpE Z a env st λx d=>wpE Z b env d λy c=>Q8 ne x y c Q:=rfl
def df1:wpE Z (.app a b) env st Q=wpE Z a env st λx c=>F6 x c/\wpE Z b env c λy d=>X6 x y d Q:=rfl
def db2:wpE Z (.ext a b) env st Q=wpE Z a env st λx c=>F6 x c/\wpE Z b env c λy d=>X9 x y d Q:=rfl
def cf5:wpE Z (.popAt a b) env st Q=wpE Z a env st λx c=>F6 x c/\wpE Z b env c λy d=>as6 x y d Q:=rfl
def c76:wpE Z (.pop a) env st Q=wpE Z a env st λx b=>ab7 x b Q:=rfl
def ce8{m}:wpE Z (.methd a m es) env st Q=wpE Z a env st λx b=>∃p c e i,x=.ref p/\b p=AA (.ins c e)/\e.lookup m=AD/\Z.F (f8 c m)=AC/\C6 Z.C (f8 c m)=AA i/\B3 Z es env b λf d=>Z.Phi (f8 c m) (.ref p::(f++[.int i])) d Q:=rfl
def db8:wpE Z (.chi a b c) env st Q=wpE Z a env st λx f=>wpE Z b env f λy d=>∃i j,x=.int i/\y=.int j/\if i<j then wpE Z c env d λz e=>∃k,z=.int k/\J6 (.bl (AB (j<k))) e Q else J6 (.bl AF) d Q:=rfl
def dd1:wpE Z (.rsl a e) env st Q=wpE Z a env st λx c=>wpE Z e env c λy b=>y=.int (-1)/\∃l d,x=.ref l/\rdS b l d/\∀p,b p=AD->Q (.ref p) (b0 b p (.lst d.reverse)):=rfl
def dc3:wpE Z (.inl a b) env st Q=wpE Z a env st λx d=>wpE Z b env d λy c=>U1 x y c Q:=rfl
def dg2:wpE Z (.any a) env st Q=wpE Z a env st λx b=>ax4 x b Q:=rfl
def c64:wpE Z .dnt env st Q=(Z.C "!kt"≠[]/\∀p,st p=AD->Q (.ref p) (b0 st p (.dtt []))):=rfl
def c81:wpE Z (.dgt a b) env st Q=wpE Z a env st λx c=>ay8 x c/\wpE Z b env c λy d=>az3 x y d Q:=rfl
def c96{ne}:wpE Z (.din ne a b) env st Q=wpE Z a env st λx d=>wpE Z b env d λy c=>U3 ne x y c Q:=rfl
def c15:wpE Z (.lrev a) env st Q=wpE Z a env st λx b=>ab8 x b Q:=rfl
def cs0{Q:List D->Sto->Prop}:B3 Z .nil env st Q=Q [] st:=rfl
def cf8{r}{Q}:B3 Z (.cons e r) env st Q=wpE Z e env st λd b=>B3 Z r env b λc a=>Q (d::c) a:=rfl
abbrev L7(Z:Sg)(c:E):DB:=if c.isNon=AC then λ_ st Q=>Q AC st else λenv st Q=>wpE Z c env st λd st'=>∃b,d=.bl b/\Q b st'
def cy0{Nc}{fr}{k}{t}{it}:wpE Z (.comp Nc fr k t it c e) env st Q=E1 Z it env st λa h f=>a.length<=1000000/\B6 h t (L7 Z c) (λenv st Q=>wpE Z e env st Q) (λi d=>∀p,d p=AD->Q (.ref p) (b0 d p (.lst i))) a [] (S6 fr k env) f:=rfl
variable {k:ItK}
def c68:E1 Z (.seq e) env st k=wpE Z e env st λd b=>(∃c,d=.tup c/\k c (λ_=>True) b)\/∃a c,d=.ref a/\rdS b a c/\k c (λf=>rdS f a c) b:=rfl
def c69:E1 Z (.rng a) env st k=wpE Z a env st λd b=>∃j:Int,d=.int j/\(-2^62<=j/\j<2^62)/\k (t5 0 j.toNat) (λ_=>True) b:=rfl
def c24:E1 Z (.rng2 a b) env st k=wpE Z a env st λd f=>wpE Z b env f λe c=>∃i j:Int,d=.int i/\e=.int j/\(-2^62<=i/\i<2^62/\-2^62<=j/\j<2^62)/\k (t5 i (j-i).toNat) (λ_=>True) c:=rfl
def c35:E1 Z (.revt e) env st k=wpE Z e env st λd a=>∃b,d=.tup b/\k b.reverse (λ_=>True) a:=rfl
def cu9:E1 Z (.enum e) env st k=wpE Z e env st λd b=>(∃c,d=.tup c/\k (u4 0 c) (λ_=>True) b)\/∃a c,d=.ref a/\rdS b a c/\k (u4 0 c) (λf=>rdS f a c) b:=rfl
def df4:E1 Z (.rev e) env st k=wpE Z e env st λd b=>∃a f,d=.ref a/\rdS b a f/\k f.reverse (λc=>rdS c a f) b:=rfl
end
end
section
variable{i:Int}{b:Bool}{lo hi:Option Int}{chk:Sto->Prop}{env:l7}
section
variable {st:Sto} {Q:DK} {j:Int} {a p:AI} {ds es xs ys:List D} {x y d:D}
def dn0{a:D}{Q:D->Prop}:vR (AA (AA a)) Q=Q a:=rfl
def c54{Q:Int->Prop}:(∃d,D.int i=.int d/\Q d)=Q i:=propext {λ⟨_,h,q⟩=>⋯,λq=>⟨i,rfl,q⟩}
def ay2{i}{Q:Bool->Prop}:(∃d,D.bl i=.bl d/\Q d)=Q i:=propext {λ⟨_,h,q⟩=>⋯,λq=>⟨i,rfl,q⟩}
def da7{Q:List D->Prop}:(∃d,D.tup ds=.tup d/\Q d)=Q ds:=propext {λ⟨_,h,q⟩=>⋯,λq=>⟨_,rfl,q⟩}
def cs9{b:Type}{a}{Q:b->Prop}:(∃d,AA a=AA d/\Q d)=Q a:=propext {λ⟨_,h,q⟩=>by grind,λq=>⟨a,rfl,q⟩}
def db7{i}{l}{Q:D->Prop}:(∃w d,D.str i=.str w/\A7 l w=AA d/\Q d)=∃d,A7 l i=AA d/\Q d:=propext {λ⟨_,d,h,e,q⟩=>by simp_all,λ⟨d,e,q⟩=>⟨_,d,rfl,e,q⟩}
def cx2{j}{Q:Int->Int->Prop}:(∃a b,D.int i=.int a/\D.int j=.int b/\Q a b)=Q i j:=propext {λ⟨_,_,h,c,q⟩=>by grind,λq=>⟨_,_,rfl,rfl,q⟩}
def c44:E6 .Add (.int i) (.int j) st Q=Q (.int (i+j)) st:=rfl
def cy7:E6 .Add (.tup xs) (.tup ys) st Q=(xs.length+ys.length<=sizeLine/\Q (.tup (xs++ys)) st):=rfl
def cy5:E6 .Sub (.int i) (.int j) st Q=Q (.int (i-j)) st:=rfl
def cr6:E6 .Mult (.int i) (.int j) st Q=(T9 i j/\Q (.int (i*j)) st):=rfl
def bk8:E6 .Mod (.int i) (.int j) st Q=(0<j/\Q (.int (i % j)) st):=rfl
def c14:E6 .FloorDiv (.int i) (.int j) st Q=(av2 i j/\Q (.int (i / j)) st):=rfl
def c32:E6 .Pow (.int i) (.int j) st Q=(az2 i j/\Q (.int (i^j.toNat)) st):=rfl
def Z6:deq (.int i) (.int j)=AB (i=j):=rfl
def O0{x y}:deq (.str x) (.str y)=AB (x=y):=rfl
abbrev F8:List D->List D->Bool
 |[],[]=>AC
 |x::xs,y::ys=>deq x y&&F8 xs ys
 |_,_=>AF
theorem bj4:∀b a,BZ (D.pys b) (D.pys a)=F8 b a
 |[],[]=>rfl
 |[],_::_=>rfl
 |_::_,[]=>rfl
 |x::b,y::a=>by change(Au x.py y.py&&BZ (D.pys b) (D.pys a))=_;rw[bj4 b a];rfl
def V2:deq (.tup xs) (.tup ys)=F8 xs ys:=by
 change Au (.tuple (D.pys xs)) (.tuple (D.pys ys))=_;rw[Au,bj4]
def T2:o9 (.int i)=0:=rfl
def w8{x:Str}:o9 (.str x)=0:=rfl
def c99:t6 .Eq (.int i) (.int j) st Q=Q (.bl (AB (i=j))) st:=propext {λh=>h.2.2.2,λh=>{rfl,rfl,(Av _),h}}
def au8:t6 .NotEq (.int i) (.int j) st Q=Q (.bl !decide (i=j)) st:=propext {λh=>h.2.2.2,λh=>{rfl,rfl,(Av _),h}}
def av5{x y}:t6 .Eq (.str (Ac x)) (.str (Ac y)) st Q=Q (.bl (AB (x=y))) st:=by
 change(_/\_/\_/\_)=_;erw[O0,A5];show propext {λh=>h.2.2.2,λh=>{u6 _,u6 _,Av _,h}}
def ab1{x y}:t6 .NotEq (.str (Ac x)) (.str (Ac y)) st Q=Q (.bl !decide (x=y)) st:=by
 change(_/\_/\_/\_)=_;erw[O0,A5];show propext {λh=>h.2.2.2,λh=>{u6 _,u6 _,Av _,h}}
def aw7:t6 .Eq x y st Q=(x.pure=AC/\y.pure=AC/\Eu (o9 x) (o9 y)<=150/\Q (.bl (deq x y)) st):=rfl
def bp9:t6 .NotEq x y st Q=(x.pure=AC/\y.pure=AC/\Eu (o9 x) (o9 y)<=150/\Q (.bl !deq x y) st):=rfl
def c49{c}:t6 .Is (.bl b) (.bl c) st Q=Q (.bl (b==c)) st:=rfl
def ck5{c}:t6 .IsNot (.bl b) (.bl c) st Q=Q (.bl (b != c)) st:=rfl
def dc8:t6 .Lt (.int i) (.int j) st Q=Q (.bl (AB (i<j))) st:=rfl
def c67:t6 .LtE (.int i) (.int j) st Q=Q (.bl (AB (i<=j))) st:=rfl
def db5:t6 .Gt (.int i) (.int j) st Q=Q (.bl (AB (j<i))) st:=rfl
def db4:t6 .GtE (.int i) (.int j) st Q=Q (.bl (AB (j<=i))) st:=rfl
def br1:t6 .In x (.tup ys) st Q=(x.pure=AC/\D.pures ys=AC/\o9 x<=150/\Q (.bl (ys.any λy=>deq y x)) st):=rfl
def az0{ks}:t6 .In (.int i) (.ktup ks) st Q=Q (.bl (ks.any λk=>AB (k=.inl i))) st:=rfl
def db3:t6 .NotIn x (.tup ys) st Q=(x.pure=AC/\D.pures ys=AC/\o9 x<=150/\Q (.bl !ys.any λy=>deq y x) st):=rfl
def dg8:ixR (.tup ds) (.int i) st Q=∃d,atI ds i=AA d/\Q d st:=propext (by change oR (ixT ds i) _↔_;rw[bl4];show{bq2,λ⟨_,h,q⟩=>by rw[h];show q})
def dl2:ixR (.ref a) (.int i) st Q=((∃c d,rdS st a c/\atI c i=AA d/\Q d st)\/∃b d,st a=AA (.dct b)/\G6 b (.inl i)=AA d/\Q d st):=rfl
def cq2{kvs}(h:rdS st a ds)(b:st a=AA (.dct kvs)):False:=by rcases h with h|h<;>rw[h]at b<;>cases b
def ae2(h:rdS st a xs)(b:rdS st a ys):xs=ys:=by
 rcases h with h|h<;>rcases b with b|b<;>rw[h]at b<;>cases b<;>rfl
def o0(h:rdS st a ds):ixR (.ref a) (.int i) st Q=∃d,atI ds i=AA d/\Q d st:=propext {λz=>z.elim (λ⟨b,d,r,q⟩=>ae2 h r▸⟨d,q⟩) λ⟨_,_,e,_⟩=>(cq2 h e).elim,λ⟨d,q⟩=>.inl ⟨ds,d,h,q⟩}
def D9:rdS (b0 st p (.lst ds)) p ds:=.inl c8
def df2:ixR (.ref p) (.int i) (b0 st p (.lst ds)) Q=∃d,atI ds i=AA d/\Q d (b0 st p (.lst ds)):=o0 D9
def aw9{α}{a:List α}:atI a 0=a[0]?:=by
 unfold atI ixN;simp;split
 ·rfl
 ·simp_all
def dk8{b:Type}{a:List b}:atI a 1=a[1]?:=u0 (k:=1)
def dh3{b:Type}{a:List b}:atI a 2=a[2]?:=u0 (k:=2)
def dk1{b:Type}{a:List b}:atI a 3=a[3]?:=u0 (k:=3)
def c51:af4 (.tup ds) lo hi st Q=Q (.tup (A9 ds lo hi)) st:=rfl
def dl0:slR (.tup ds) lo hi st Q=(¬(HT.sIx ds.length 0 lo=0/\HT.sIx ds.length ds.length hi=ds.length)/\Q (.tup (A9 ds lo hi)) st):=rfl
def ay1(h:rdS st a ds):slR (.ref a) lo hi st Q=∀p,st p=AD->Q (.ref p) (b0 st p (.lst (A9 ds lo hi))):=propext {λ⟨b,r,q⟩=>ae2 h r▸q,λq=>⟨ds,h,q⟩}
def dd6:U2 (.tup ds) st Q=Q (.int ds.length) st:=rfl
def w6(h:rdS st a ds):U2 (.ref a) st Q=Q (.int ds.length) st:=propext {λ⟨b,r,q⟩=>ae2 h r▸q,λq=>⟨ds,h,q⟩}
def c45:U2 (.ref p) (b0 st p (.lst ds)) Q=Q (.int ds.length) (b0 st p (.lst ds)):=w6 D9
def dc1:J6 (.bl b) st Q=Q (.int (if b then 1 else 0)) st:=rfl
def c71:J6 (.int i) st Q=Q (.int i) st:=rfl
def cu8:ab0 (.tup ds) st Q=∀p,st p=AD->Q (.ref p) (b0 st p (.lst ds)):=rfl
def cm6:W4 (.tup ds) st Q=Q (.tup ds) st:=rfl
def bg4(h:rdS st a ds):W4 (.ref a) st Q=Q (.tup ds) st:=propext {λ⟨b,r,q⟩=>ae2 h r▸q,λq=>⟨ds,h,q⟩}
def cc1:W4 (.ref p) (b0 st p (.lst ds)) Q=Q (.tup ds) (b0 st p (.lst ds)):=bg4 D9
def bq1(h:rdS st a ds):V3 (.ref a) st Q=Q (.bl AC) st:=propext {λ⟨b,r,q⟩=>q,λq=>⟨ds,h,q⟩}
def cu6:V3 (.ref p) (b0 st p (.lst ds)) Q=Q (.bl AC) (b0 st p (.lst ds)):=bq1 D9
def y6(h:rdS st a ds):F6 (.ref a) st=True:=propext {λ_=>trivial,λ_=>⟨ds,h⟩}
def ci4:F6 (.ref p) (b0 st p (.lst ds))=True:=y6 D9
def c09:dj6 (.tup ds) st=True:=rfl
def D2(h:st a=AA (.lst ds)):X6 (.ref a) d st Q=(ds.length<sizeLine/\Q .non (b0 st a (.lst (ds++[d])))):=propext {λ⟨b,r,q⟩=>by simp_all,λq=>⟨ds,h,q⟩}
def bo6{b}(h:st a=AA (.lst ds))(c:st b=AA (.lst es)):X9 (.ref a) (.ref b) st Q=(ds.length+es.length<=sizeLine/\Q .non (b0 st a (.lst (ds++es)))):=(propext {λ⟨_,_,r,d,q⟩=>by simp_all,λq=>⟨ds,es,h,c,q⟩})
def cn6{t}{tb}{F}:u5 chk t tb F [] env st=(chk st/\F.nx env st):=by rw[u5]
def b85{t}{tb}{F}:u5 chk t tb F (d::ds) env st=(chk st/\G4 t d env λa=>tb {F with nx:=u5 chk t tb F ds,ct:=u5 chk t tb F ds,bk:=F.nx} a st):=by rw[u5]
def bl5{k}{K}:G4 (.n k) d env K=K (env.set k (AA d)):=rfl
def c18{is}{K}:G4 (.tup is) (.tup ds) env K=(ds.length=is.length/\K (C8 env is ds)):=propext {λ⟨a,r,q⟩=>by simp_all,λq=>⟨ds,rfl,q⟩}
def bv2{k}{is}:C8 env (k::is) (d::ds)=C8 (env.set k (AA d)) is ds:=rfl
def bw3:C8 env [] []=env:=rfl
def be1{t}{tc}{te}{R}{acc}:B6 chk t tc te R [] acc env st=(chk st/\R acc st):=by rw[B6]
def a98{t}{tc}{te}{R}{acc}:B6 chk t tc te R (d::ds) acc env st=(chk st/\G4 t d env λa=>tc a st λb c=>if b=AC then te a c λv e=>B6 chk t tc te R ds (acc++[v]) a e else B6 chk t tc te R ds acc a c):=by rw[B6]
def c87{k:ItK}:((∃b,D.tup ds=.tup b/\k b (λ_=>True) st)\/(∃a b,D.tup ds=.ref a/\rdS st a b/\k b (λc=>rdS c a b) st))=k ds (λ_=>True) st:=
 propext {λh=>by
  simp_all,λq=>.inl ⟨ds,rfl,q⟩}
def c07{k:ItK}:((∃b,D.tup ds=.tup b/\k (u4 0 b) (λ_=>True) st)\/(∃a b,D.tup ds=.ref a/\rdS st a b/\k (u4 0 b) (λc=>rdS c a b) st))=k (u4 0 ds) (λ_=>True) st:=
 propext {λh=>by
  simp_all,λq=>.inl ⟨ds,rfl,q⟩}
end
end
theorem B2{chk}{t}{tb}{F}(I:List D->l7->Sto->Prop)(g:∀a b,I [] a b->chk b/\F.nx a b)
  (f:∀d c a b,(∀a b,I c a b->u5 chk t tb F c a b)->I (d::c) a b->chk b/\G4 t d a λe=>tb {F with nx:=u5 chk t tb F c,ct:=u5 chk t tb F c,bk:=F.nx} e b):∀c a b,I c a b->u5 chk t tb F c a b
 |[],a,b,h=>g a b h
 |d::c,a,b,h=>f d c a b (B2 I g f c) h
theorem G1{chk}{t}{tc}{te}{R}(I:List D->List D->l7->Sto->Prop)(l:∀a c e,I [] a c e->chk e/\R a e)
  (k:∀d g a c e,(∀a c e,I g a c e->B6 chk t tc te R g a c e)->I (d::g) a c e->chk e/\G4 t d c λf=>tc f e λb i=>if b=AC then te f i λv j=>B6 chk t tc te R g (a++[v]) f j else B6 chk t tc te R g a f i):∀g a c e,I g a c e->B6 chk t tc te R g a c e
 |[],a,c,e,h=>l a c e h
 |d::g,a,c,e,h=>k d g a c e (G1 I l k g) h
def ci8{Z}{env}{st}{K}:L7 Z .non env st K=K AC st:=rfl
def Z5{Z}{c}{env}{st}{K}(h:c.isNon=AF):L7 Z c env st K=wpE Z c env st λd a=>∃b,d=.bl b/\K b a:=by unfold L7;rw[h];rfl
def aa6{i j:Int}(h:-(2^64)<j/\j<2^64):T9 i j:=.inl (.inr h)
def W2{i j:Int}(h:-(2^64)<i/\i<2^64):T9 i j:=.inl (.inl h)
def t9{n:Nat}(h:n<=16000000):n<=sizeLine:=Ap h ∅
def B8{n:Nat}(h:n<16000000):n<sizeLine:=An h ∅
end Ek
namespace Ek
abbrev Ss.drop:Nat->Ss->Ss
 |0,s=>s
 |_+1,.nil=>.nil
 |k+1,.cons _ r=>Ss.drop k r
def di9{ds}{R:PySem.Addr->List D->Prop}:(∃a b,D.tup ds=.ref a/\R a b)=False:=propext {λ⟨_,_,h,_⟩=>(by cases h),AV}
def dl3{a}{R:List D->Prop}:(∃b,D.ref a=.tup b/\R b)=False:=propext {λ⟨_,h,_⟩=>(by cases h),AV}
def dm2{a}{R:PySem.Addr->List D->Prop}:(∃b c,D.ref a=.ref b/\R b c)=∃c,R a c:=propext {λ⟨_,c,h,q⟩=>by cases h;show⟨c,q⟩,λ⟨c,q⟩=>⟨a,c,rfl,q⟩}
end Ek
namespace Ek
open PySem L2
section
section
variable {Z:Sg} {env:l7} {st:Sto} {k:Option Int->Sto->Prop} {K:Bool->Sto->Prop} {a b:E}
def ck4{o}:bnd Z (.bin o a b) env st k=wpE Z (.bin o a b) env st λd c=>∃i,d=.int i/\k (AA i) c:=P6 rfl
def c77{j}:bnd Z (.v j) env st k=wpE Z (.v j) env st λd a=>∃i,d=.int i/\k (AA i) a:=P6 rfl
def ca8{g}:bnd Z (.gsel g a) env st k=wpE Z (.gsel g a) env st λd b=>∃i,d=.int i/\k (AA i) b:=P6 rfl
def cg1:bnd Z (.len a) env st k=wpE Z (.len a) env st λd b=>∃i,d=.int i/\k (AA i) b:=P6 rfl
def cc8:bnd Z (.neg a) env st k=wpE Z (.neg a) env st λd b=>∃i,d=.int i/\k (AA i) b:=P6 rfl
def cw9:bnd Z (.ix a b) env st k=wpE Z (.ix a b) env st λd c=>∃i,d=.int i/\k (AA i) c:=P6 rfl
def b61{f}{es}:bnd Z (.call f es) env st k=wpE Z (.call f es) env st λd a=>∃i,d=.int i/\k (AA i) a:=P6 rfl
def cd6{o}:L7 Z (.cmp o a b) env st K=wpE Z (.cmp o a b) env st λd c=>∃b,d=.bl b/\K b c:=Z5 rfl
def ce7:L7 Z (.and a b) env st K=wpE Z (.and a b) env st λd c=>∃b,d=.bl b/\K b c:=Z5 rfl
def cs3:L7 Z (.or a b) env st K=wpE Z (.or a b) env st λd c=>∃b,d=.bl b/\K b c:=Z5 rfl
def ce0:L7 Z (.not a) env st K=wpE Z (.not a) env st λd c=>∃b,d=.bl b/\K b c:=Z5 rfl
def b86{f}{es}:L7 Z (.call f es) env st K=wpE Z (.call f es) env st λd a=>∃b,d=.bl b/\K b a:=Z5 rfl
end
def bi1{n d:Nat}:HT.sIx n d AD=d:=rfl
def bl9{n d k:Nat}:HT.sIx n d (AA k)=min k n:=rfl
def cq8{ds}{k:Nat}:A9 ds AD (AA k)=ds.take k:=by
 unfold A9;rw[bi1,bl9]
 simp_all
def b91{ds}{k:Nat}:A9 ds (AA k) AD=ds.drop k:=by
 unfold A9;rw[bi1,bl9]
 by_cases h:k<=ds.length
 ·rw[Jt h,Cr (by rw[Bz];lia)]
 ·rw[Jh ⋯,Er (AR _),Er ⋯,List.take_nil]
variable{st:Sto}{a:AI}{ds:List D}{Q:DK}
def dd4{es}(h:st a=AA (.lst ds)):X9 (.ref a) (.tup es) st Q=(ds.length+es.length<=sizeLine/\Q .non (b0 st a (.lst (ds++es)))):=propext {λ⟨_,r,q⟩=>by simp_all,λq=>⟨ds,h,q⟩}
def cm0{Z}{F}{env}{c}{b}:wpS Z (.while c b) F env st=∃n,C9 (wpT Z c) (i9 Z b) F n env st:=rfl
def cm4{Z}{e}{env}{K}:wpT Z e env st K=wpE Z e env st λd a=>∃b,d=.bl b/\K b a:=rfl
def by8{tc}{tb}{F}(I:Nat->l7->Sto->Prop)(f:∀m a d W,I m a d->(∀i c e,i<m->I i c e->W c e)->tc a d λb g=>if b=AC then tb {F with nx:=W,ct:=W,bk:=F.nx} a g else F.nx a g):∀m a d,I m a d->∃n,C9 tc tb F n a d:=by
 have h:∀k m a d,m<=k->I m a d->C9 tc tb F (k+1) a d:=by
  intro k
  induction k with
  |zero=>
   intro m a d r j;show f m a d _ j λi c e l _=>by lia
  |succ k q=>
   intro m a d r j;show f m a d _ j λi c e l=>q i c e ⋯
 show λm a d j=>{m+1,h m m a d (AR _) j}
def X2{d}(h:st a=AA (.lst (ds++[d]))):ab7 (.ref a) st Q=Q d (b0 st a (.lst ds)):=by
 apply propext {λ b=>?_,λq=>⟨ds,d,h,q⟩};let{c,e,r,q}:=b;simp_all
def dc7(h:st a=AA (.lst ds)):ab8 (.ref a) st Q=Q .non (b0 st a (.lst ds.reverse)):=propext {λ⟨_,r,q⟩=>by grind,λq=>⟨ds,h,q⟩}
def dm1{f}{Q:Str->Prop}:(∃g,AA (AA (D.fn f))=AA (AA (.fn g))/\Q g)=Q f:=propext {λ⟨_,h,q⟩=>by grind,λq=>⟨f,rfl,q⟩}
end
section
variable{x:String}
section
variable {Z:Sg} {F:DEnds} {env:l7} {st:Sto} {Q:DK} {a b c e:D} {l:List D} {A B:Prop} {i:Nat} {s:S} {t u:Ss}
def di6:ixR (.tup (a::l)) (.int 0) st Q=Q a st:=rfl
def dl8:ixR (.tup (b::a::l)) (.int 1) st Q=Q a st:=rfl
def dl6:ixR (.tup (b::c::a::l)) (.int 2) st Q=Q a st:=rfl
def dm5:ixR (.tup (b::c::e::a::l)) (.int 3) st Q=Q a st:=rfl
def dj2:(∃k,D.bl AC=.bl k/\if k=AC then A else B)=A:=propext {λ⟨_,h,q⟩=>by simp_all,λq=>⟨_,rfl,q⟩}
def dk7:(∃k,D.bl AF=.bl k/\if k=AC then A else B)=B:=propext {λ⟨_,h,q⟩=>by simp_all,λq=>⟨_,rfl,q⟩}
def c83:t6 .Eq (.str (Ac x)) (.str (Ac x)) st Q=Q (.bl AC) st:=by rw[av5,decide_eq_true rfl]
def dd0{y}(h:AB (x=y)=AF):t6 .Eq (.str (Ac x)) (.str (Ac y)) st Q=Q (.bl AF) st:=by rw[av5,h]
def dd3:t6 .NotEq (.str (Ac x)) (.str (Ac x)) st Q=Q (.bl AF) st:=by rw[ab1,decide_eq_true rfl];rfl
def de8{y}(h:AB (x=y)=AF):t6 .NotEq (.str (Ac x)) (.str (Ac y)) st Q=Q (.bl AC) st:=by rw[ab1,h];rfl
def dg5(h:wpS Z s {i9 Z t F,F.rt,F.bk,F.ct} env st):i9 Z (.cons s t) F env st:=h
def av4{j:Nat}{k:Int}{ds:List D}{d:D}(h:env[j]?=AA (AA (.tup ds)))(e:ixT ds k=AA d)(q:i9 Z t F (env.set i (AA d)) st):i9 Z (.cons (.set i (.ix (.v j) (.int k))) t) F env st:=by
 apply au6 h ?_;change oR (ixT ds k) _;rw[e];show q
end
end
inductive Kd where
 |non|one|eith (a b:Kd)|both (a b:Kd)|way (a b:Kd)
 deriving DecidableEq
abbrev Kd.d:Kd->D
 |.non=>.tup [.str "none"]
 |.one=>.tup [.str "one"]
 |.eith a b=>.tup [.str "either",a.d,b.d]
 |.both a b=>.tup [.str "both",a.d,b.d]
 |.way a b=>.tup [.str "way",a.d,b.d]
abbrev Kd.cnt:Kd->Nat
 |.non=>0|.one=>1
 |.eith a b=>a.cnt+b.cnt
 |.both a b=>a.cnt*b.cnt
 |.way a b=>b.cnt^a.cnt
abbrev Kd.nest:Kd->Nat
 |.non=>0|.one=>0
 |.eith a b=>1+max a.nest b.nest
 |.both a b=>1+max a.nest b.nest
 |.way a b=>1+max a.nest b.nest
abbrev Kd.bd(m:Nat):Kd->Prop
 |.non=>True|.one=>1<=m
 |.eith a b=>a.bd m/\b.bd m/\a.cnt+b.cnt<=m
 |.both a b=>a.bd m/\b.bd m/\a.cnt*b.cnt<=m
 |.way a b=>a.bd m/\b.bd m/\b.cnt^a.cnt<=m
def Kd.bd_le{m:Nat}:∀{k:Kd},k.bd m->k.cnt<=m
 |.non,_=>Av _
 |.one,h=>h
 |.eith _ _,h=>h.2.2
 |.both _ _,h=>h.2.2
 |.way _ _,h=>h.2.2
def bn4:∀a b:Kd,deq a.d b.d=AB (a=b):=by
 intro a
 induction a with
 |non=>intro b;cases b<;>simp[Kd.d,V2,F8,O0,A5]
 |one=>intro b;cases b<;>simp[Kd.d,V2,F8,O0,A5]
 |eith a c f e=>intro b;cases b<;>simp[Kd.d,V2,F8,O0,A5,f,e]
 |both a c f e=>intro b;cases b<;>simp[Kd.d,V2,F8,O0,A5,f,e]
 |way a c f e=>intro b;cases b<;>simp[Kd.d,V2,F8,O0,A5,f,e]
def E9{d}{r}:D.pures (d::r)=(d.pure&&D.pures r):=rfl
def M0:D.pures []=AC:=rfl
def P7{r:List D}:(D.tup r).pure=D.pures r:=rfl
def b66{i:Int}:(D.int i).pure=AC:=rfl
theorem N9:∀k:Kd,k.d.pure=AC
 |.non=>by erw[Kd.d,P7,E9,M0,u6,Bm]
 |.one=>by erw[Kd.d,P7,E9,M0,u6,Bm]
 |.eith a b=>by erw[Kd.d,P7,E9,M0,u6,N9 a,N9 b,Bm]
 |.both a b=>by erw[Kd.d,P7,E9,M0,u6,N9 a,N9 b,Bm]
 |.way a b=>by erw[Kd.d,P7,E9,M0,u6,N9 a,N9 b,Bm]
abbrev t0:List D->Nat
 |[]=>0
 |d::r=>max (o9 d) (t0 r)
theorem aq2:∀l,Bf (D.pys l)=t0 l
 |[]=>rfl
 |d::r=>by change max (CA d.py) (Bf (D.pys r))=_;rw[aq2 r];rfl
def A0{l}:o9 (.tup l)=t0 l+1:=by
 change CA (.tuple (D.pys l))=_;rw[CA,aq2]
theorem G8:∀k:Kd,o9 k.d=k.nest+1
 |.non=>by rfl
 |.one=>by rfl
 |.eith a b=>by erw[Kd.d,A0,t0,w8,Kd.nest,G8 a,G8 b,Lm];lia
 |.both a b=>by erw[Kd.d,A0,t0,w8,Kd.nest,G8 a,G8 b,Lm];lia
 |.way a b=>by erw[Kd.d,A0,t0,w8,Kd.nest,G8 a,G8 b,Lm];lia
inductive Pg where
 |name (n:Nat)|star|pair (t u:Pg)|first (t:Pg)|second (t:Pg)|left (b:Kd) (t:Pg)|right (a:Kd) (t:Pg)
 |case (t u v:Pg)|way (a:Kd) (t:Pg)|give (t u:Pg)|lets (t u:Pg)|never (k:Kd) (t:Pg)
abbrev Pg.d:Pg->D
 |.name n=>.tup [.str "name",.int n]
 |.star=>.tup [.str "star"]
 |.pair t u=>.tup [.str "pair",t.d,u.d]
 |.first t=>.tup [.str "first",t.d]
 |.second t=>.tup [.str "second",t.d]
 |.left b t=>.tup [.str "left",b.d,t.d]
 |.right a t=>.tup [.str "right",a.d,t.d]
 |.case t u v=>.tup [.str "case",t.d,u.d,v.d]
 |.way a t=>.tup [.str "way",a.d,t.d]
 |.give t u=>.tup [.str "give",t.d,u.d]
 |.lets t u=>.tup [.str "let",t.d,u.d]
 |.never k t=>.tup [.str "never",k.d,t.d]
abbrev Pg.kind(Γ:List Kd):Pg->Option Kd
 |.name n=>Γ[n]?
 |.star=>AA .one
 |.pair t u=>match t.kind Γ,u.kind Γ with
  |some a,AA b=>AA (.both a b)
  |_,_=>AD
 |.first t=>match t.kind Γ with
  |some (.both a _)=>AA a
  |_=>AD
 |.second t=>match t.kind Γ with
  |some (.both _ b)=>AA b
  |_=>AD
 |.left b t=>match t.kind Γ with
  |some a=>AA (.eith a b)
  |_=>AD
 |.right a t=>match t.kind Γ with
  |some b=>AA (.eith a b)
  |_=>AD
 |.case t u v=>match t.kind Γ with
  |some (.eith a b)=>match u.kind (a::Γ),v.kind (b::Γ)with
   |some k,AA l=>if k=l then AA k else AD
   |_,_=>AD
  |_=>AD
 |.way a t=>match t.kind (a::Γ)with
  |some b=>AA (.way a b)
  |_=>AD
 |.give t u=>match t.kind Γ,u.kind Γ with
  |some (.way a b),AA c=>if a=c then AA b else AD
  |_,_=>AD
 |.lets t u=>match t.kind Γ with
  |some a=>u.kind (a::Γ)
  |_=>AD
 |.never k t=>match t.kind Γ with
  |some .non=>AA k
  |_=>AD
abbrev Pg.kids:Pg->List Pg
 |.name _=>[]|.star=>[]
 |.pair t u=>[t,u]|.first t=>[t]|.second t=>[t]|.left _ t=>[t]|.right _ t=>[t]
 |.case t u v=>[t,u,v]|.way _ t=>[t]|.give t u=>[t,u]|.lets t u=>[t,u]|.never _ t=>[t]
abbrev Pg.hgt:Pg->Nat
 |.name _=>1|.star=>1
 |.pair t u=>1+max t.hgt u.hgt|.first t=>1+t.hgt|.second t=>1+t.hgt|.left _ t=>1+t.hgt|.right _ t=>1+t.hgt
 |.case t u v=>1+max t.hgt (max u.hgt v.hgt)|.way _ t=>1+t.hgt|.give t u=>1+max t.hgt u.hgt|.lets t u=>1+max t.hgt u.hgt|.never _ t=>1+t.hgt
abbrev Pg.parts:Pg->Nat
 |.name _=>1|.star=>1
 |.pair t u=>1+t.parts+u.parts|.first t=>1+t.parts|.second t=>1+t.parts|.left _ t=>1+t.parts|.right _ t=>1+t.parts
 |.case t u v=>1+t.parts+u.parts+v.parts|.way _ t=>1+t.parts|.give t u=>1+t.parts+u.parts|.lets t u=>1+t.parts+u.parts|.never _ t=>1+t.parts
abbrev Pg.kn(m:Nat):Pg->Prop
 |.name _=>True|.star=>True
 |.pair t u=>t.kn m/\u.kn m|.first t=>t.kn m|.second t=>t.kn m|.left b t=>b.nest<=m/\t.kn m|.right a t=>a.nest<=m/\t.kn m
 |.case t u v=>t.kn m/\u.kn m/\v.kn m|.way a t=>a.nest<=m/\t.kn m|.give t u=>t.kn m/\u.kn m|.lets t u=>t.kn m/\u.kn m|.never k t=>k.nest<=m/\t.kn m
def Q1(p:Pg):p.d.pure=AC:=by
 induction p<;>simp only[Pg.d,P7,E9,M0,u6,b66,N9,Bm, *]
def ab4{m:Nat}(p:Pg)(h:p.kn m):o9 p.d<=p.hgt+m+1:=by
 have f:∀a b c:Nat,a<=c->b<=c->max a b<=c:=λa b c h A=>Nat.max_le.mpr ⟨h,A⟩;have j:∀a b:Nat,a<=max a b:=λa b=>Ju a b;have i:∀a b:Nat,b<=max a b:=λa b=>Ji a b
 induction p with
 |name n=>erw[Pg.d,A0,t0,w8,T2,Pg.hgt];simp
 |star=>erw[Pg.d,A0,t0,w8,Pg.hgt];simp
 |pair t u e g=>erw[Pg.d,A0,t0,w8,Pg.hgt];have:=e h.1;have:=g h.2;have:=j t.hgt u.hgt;have:=i t.hgt u.hgt;apply Bw;apply f _ _ _ ⋯ (f _ _ _ ⋯ (f _ _ _ ⋯ ⋯))
 |give t u e g=>erw[Pg.d,A0,t0,w8,Pg.hgt];have:=e h.1;have:=g h.2;have:=j t.hgt u.hgt;have:=i t.hgt u.hgt;apply Bw;apply f _ _ _ ⋯ (f _ _ _ ⋯ (f _ _ _ ⋯ ⋯))
 |lets t u e g=>erw[Pg.d,A0,t0,w8,Pg.hgt];have:=e h.1;have:=g h.2;have:=j t.hgt u.hgt;have:=i t.hgt u.hgt;apply Bw;apply f _ _ _ ⋯ (f _ _ _ ⋯ (f _ _ _ ⋯ ⋯))
 |first t e=>erw[Pg.d,A0,t0,w8,Pg.hgt];have:=e h;apply Bw;apply f _ _ _ ⋯ (f _ _ _ ⋯ ⋯)
 |second t e=>erw[Pg.d,A0,t0,w8,Pg.hgt];have:=e h;apply Bw;apply f _ _ _ ⋯ (f _ _ _ ⋯ ⋯)
 |left k t e=>erw[Pg.d,A0,t0,w8,G8,Pg.hgt];have:=e h.2;have:=h.1;apply Bw;apply f _ _ _ ⋯ (f _ _ _ ⋯ (f _ _ _ ⋯ ⋯))
 |right k t e=>erw[Pg.d,A0,t0,w8,G8,Pg.hgt];have:=e h.2;have:=h.1;apply Bw;apply f _ _ _ ⋯ (f _ _ _ ⋯ (f _ _ _ ⋯ ⋯))
 |way k t e=>erw[Pg.d,A0,t0,w8,G8,Pg.hgt];have:=e h.2;have:=h.1;apply Bw;apply f _ _ _ ⋯ (f _ _ _ ⋯ (f _ _ _ ⋯ ⋯))
 |never k t e=>erw[Pg.d,A0,t0,w8,G8,Pg.hgt];have:=e h.2;have:=h.1;apply Bw;apply f _ _ _ ⋯ (f _ _ _ ⋯ (f _ _ _ ⋯ ⋯))
 |case t u v e g q=>
  erw[Pg.d,A0,t0,w8,Pg.hgt];have:=e h.1;have:=g h.2.1;have:=q h.2.2;have:=j t.hgt (max u.hgt v.hgt);have:=i t.hgt (max u.hgt v.hgt);have:=j u.hgt v.hgt;have:=i u.hgt v.hgt;apply Bw;apply f _ _ _ ⋯ (f _ _ _ ⋯ (f _ _ _ ⋯ (f _ _ _ ⋯ ⋯)))
inductive Kn:List Kd->Pg->Kd->Prop
 |name {Γ n k}:Γ[n]?=AA k->Kn Γ (.name n) k
 |star {Γ}:Kn Γ .star .one
 |pair {Γ t u a b}:Kn Γ t a->Kn Γ u b->Kn Γ (.pair t u) (.both a b)
 |first {Γ t a b}:Kn Γ t (.both a b)->Kn Γ (.first t) a
 |second {Γ t a b}:Kn Γ t (.both a b)->Kn Γ (.second t) b
 |left {Γ t a b}:Kn Γ t a->Kn Γ (.left b t) (.eith a b)
 |right {Γ t a b}:Kn Γ t b->Kn Γ (.right a t) (.eith a b)
 |case {Γ t u v a b c}:Kn Γ t (.eith a b)->Kn (a::Γ) u c->Kn (b::Γ) v c->Kn Γ (.case t u v) c
 |way {Γ t a b}:Kn (a::Γ) t b->Kn Γ (.way a t) (.way a b)
 |give {Γ t u a b}:Kn Γ t (.way a b)->Kn Γ u a->Kn Γ (.give t u) b
 |lets {Γ t u a b}:Kn Γ t a->Kn (a::Γ) u b->Kn Γ (.lets t u) b
 |never {Γ t b}:Kn Γ t .non->Kn Γ (.never b t) b
theorem Kn.kind{Γ}{p}{k}(h:Kn Γ p k):p.kind Γ=AA k:=by
 induction h with
 |name h=>show h
 |star=>rfl
 |pair _ _ i j=>unfold Pg.kind;rw[i,j]
 |give _ _ i j=>unfold Pg.kind;rw[i,j];show if_pos rfl
 |first _ i|second _ i|left _ i|right _ i|way _ i|never _ i=>unfold Pg.kind;rw[i]
 |lets _ _ i j=>unfold Pg.kind;rw[i];show j
 |case _ _ _ i j l=>unfold Pg.kind;rw[i];change(match Pg.kind _ _,Pg.kind _ _ with|some k,AA l=>if k=l then AA k else AD|_,_=>AD)=_;rw[j,l];show if_pos rfl
def T4:∀{p:Pg}{m:List Kd}{k:Kd},p.kind m=AA k->Kn m p k:=by
 intro p
 induction p with
 |name n=>show λh=>.name h
 |star=>intro m k h;cases h;show .star
 |pair t u i j=>
  intro m k h;unfold Pg.kind at h;cases e:t.kind m with
  |none=>rw[e]at h;cases h
  |some a=>cases f:u.kind m with
   |none=>rw[e,f]at h;cases h
   |some b=>rw[e,f]at h;cases h;show .pair (i e) (j f)
 |first t i=>
  intro m k h;unfold Pg.kind at h;cases e:t.kind m with
  |none=>rw[e]at h;cases h
  |some a=>rw[e]at h;cases a<;>cases h;show .first (i e)
 |second t i=>
  intro m k h;unfold Pg.kind at h;cases e:t.kind m with
  |none=>rw[e]at h;cases h
  |some a=>rw[e]at h;cases a<;>cases h;show .second (i e)
 |left b t i=>
  intro m k h;unfold Pg.kind at h;cases e:t.kind m with
  |none=>rw[e]at h;cases h
  |some a=>rw[e]at h;cases h;show .left (i e)
 |right b t i=>
  intro m k h;unfold Pg.kind at h;cases e:t.kind m with
  |none=>rw[e]at h;cases h
  |some a=>rw[e]at h;cases h;show .right (i e)
 |case t u v i j l=>
  intro m k h;unfold Pg.kind at h;cases e:t.kind m with
  |none=>rw[e]at h;cases h
  |some a=>
   rw[e]at h;cases a<;>first|cases h;done|skip
   rename_i a b;replace h:(match u.kind (a::m),v.kind (b::m)with|some k,AA l=>if k=l then AA k else AD|_,_=>AD)=AA k:=h;cases f:u.kind (a::m)with
   |none=>rw[f]at h;cases h
   |some c=>cases g:v.kind (b::m)with
    |none=>rw[f,g]at h;cases h
    |some d=>
     rw[f,g]at h
     by_cases z:c=d
     ·cases(if_pos z).symm.trans h;cases z;show .case (i e) (j f) (l g)
     ·cases(if_neg z).symm.trans h
 |way a t i=>
  intro m k h;unfold Pg.kind at h;cases e:t.kind (a::m)with
  |none=>rw[e]at h;cases h
  |some a=>rw[e]at h;cases h;show .way (i e)
 |give t u i j=>
  intro m k h;unfold Pg.kind at h;cases e:t.kind m with
  |none=>rw[e]at h;cases h
  |some a=>cases f:u.kind m with
   |none=>rw[e,f]at h;cases a<;>cases h
   |some c=>
    rw[e,f]at h;cases a<;>first|cases h;done|skip
    rename_i a b
    by_cases z:a=c
    ·cases(if_pos z).symm.trans h;cases z;show .give (i e) (j f)
    ·cases(if_neg z).symm.trans h
 |lets t u i j=>
  intro m k h;unfold Pg.kind at h;cases e:t.kind m with
  |none=>rw[e]at h;cases h
  |some a=>rw[e]at h;show .lets (i e) (j h)
 |never b t i=>
  intro m k h;unfold Pg.kind at h;cases e:t.kind m with
  |none=>rw[e]at h;cases h
  |some a=>rw[e]at h;cases a<;>cases h;show .never (i e)
end Ek
namespace Ek
open PySem
abbrev aj1:Def:={3,["whole","parts_of","made","order","done","here","many"],#v[.set 3 (.call "order_of_few" #v[.v 0,.v 1]),.iff (.isN (.v 3)) #v[.dead] .nil,.set 4 (.lst .nil),.for (.tup [5,6]) (.rev (.v 3)) #v[.ex (.app (.v 4) (.callv 2 #v[.v 5,.ite (.cmp .Gt (.v 6) (.int 0)) (.call "taken" #v[.v 4,.v 6]) (.lst .nil)]))],.ret (.ix (.v 4) (.int 0))]}
abbrev ak5:Def:={2,["whole","parts_of","order","ahead","here","parts"],#v[.set 2 (.lst .nil),.set 3 (.lst #v[.v 0]),.while (.cmp .Gt (.len (.v 3)) (.int 0)) #v[.set 4 (.pop (.v 3)),.set 5 (.callv 1 #v[.v 4]),.ex (.app (.v 2) (.tup #v[.v 4,.len (.v 5)])),.ex (.ext (.v 3) (.v 5)),.iff (.cmp .Gt (.len (.v 2)) (.gc "FEW")) #v[.ret .non] .nil],.ret (.v 2)]}
abbrev ar1:Def:={2,["done","many","parts","number"],#v[.set 2 (.lst .nil),.for (.n 3) (.rng (.v 1)) #v[.ex (.app (.v 2) (.pop (.v 0)))],.ex (.lrev (.v 2)),.ret (.v 2)]}
abbrev ah2:Def:={1,["self"],#v[.fldS (.v 0) "numbers" .dnt,.fldS (.v 0) "stored" (.lst .nil),.fldS (.v 0) "parts" (.lst .nil),.fldS (.v 0) "waiting" (.lst .nil)]}
abbrev Y4:Def:={3,["self","kind","deep"],#v[.iff (.cmp .Eq (.len (.v 1)) (.int 1)) #v[.ret (.meth (.v 0) "numbered" #v[.v 1,.tup .nil])] .nil,.iff (.cmp .Eq (.v 2) (.int 0)) #v[.ret (.meth (.v 0) "laid" #v[.v 1])] .nil,.ret (.meth (.v 0) "built" #v[.ix (.v 1) (.int 0),.meth (.v 0) "laid_kind" #v[.ix (.v 1) (.int 1),.bin .Sub (.v 2) (.int 1)],.meth (.v 0) "laid_kind" #v[.ix (.v 1) (.int 2),.bin .Sub (.v 2) (.int 1)]])]}
abbrev am3:Def:={4,["self","word","first","second"],#v[.ret (.meth (.v 0) "numbered" #v[.tup #v[.v 1],.tup #v[.v 2,.v 3]])]}
abbrev ah9:Def:={3,["self","front","numbers","key","number"],#v[.set 3 (.tup #v[.v 1,.v 2]),.set 4 (.dgt (.fld (.v 0) "numbers") (.v 3)),.iff (.isN (.v 4)) #v[.set 4 (.len (.fld (.v 0) "stored")),.dput (.fld (.v 0) "numbers") (.v 3) (.v 4),.ex (.app (.fld (.v 0) "stored") (.bin .Add (.v 1) (.tuple (.comp ["self","part"] [0] 1 (.n 1) (.seq (.v 2)) .non (.ix (.fld (.v 0) "stored") (.v 1)))))),.ex (.app (.fld (.v 0) "parts") (.v 2))] .nil,.ret (.v 4)]}
abbrev ak3:Def:={2,["self","kind"],#v[.ex (.app (.fld (.v 0) "waiting") (.tup #v[.v 1,.non])),.ret (.neg (.len (.fld (.v 0) "waiting")))]}
abbrev ah6:Def:={2,["self","number","waited"],#v[.iff (.cmp .GtE (.v 1) (.int 0)) #v[.ret (.v 1)] .nil,.set 2 (.ix (.fld (.v 0) "waiting") (.bin .Sub (.neg (.int 1)) (.v 1))),.iff (.isN (.ix (.v 2) (.int 1))) #v[.set 2 (.tup #v[.ix (.v 2) (.int 0),.methd (.v 0) "laid_kind" #v[.ix (.v 2) (.int 0)]]),.put (.fld (.v 0) "waiting") (.bin .Sub (.neg (.int 1)) (.v 1)) (.v 2)] .nil,.ret (.ix (.v 2) (.int 1))]}
abbrev ah3:Def:={2,["self","number"],#v[.ret (.ix (.fld (.v 0) "stored") (.v 1))]}
abbrev ai4:Def:={2,["self","number"],#v[.ret (.ix (.ix (.fld (.v 0) "stored") (.v 1)) (.int 0))]}
abbrev al4:Def:={2,["self","number"],#v[.ret (.ix (.fld (.v 0) "parts") (.v 1))]}
abbrev ai9:Def:={4,["self","program","inside","number"],#v[.fldS (.v 0) "program" (.v 1),.fldS (.v 0) "inside" (.v 2),.fldS (.v 0) "number" (.v 3),.fldS (.v 0) "holders" (.int 0),.fldS (.v 0) "ways" (.int 0),.fldS (.v 0) "used" .non,.fldS (.v 0) "kind" .non]}
abbrev ar2:Def:={1,["program"],#v[.ret (.list (.sl (.v 0) (.gsel "INNER_FROM" (.ix (.v 0) (.int 0))) .non))]}
abbrev Y8:Def:={2,["program","parts"],#v[.ret (.bin .Add (.sl (.v 0) .non (.gsel "INNER_FROM" (.ix (.v 0) (.int 0)))) (.tuple (.v 1)))]}
abbrev am6:Def:={2,["program","number"],#v[.ret (.ite (.cmp .In (.v 1) (.gget "UNDER_ONE_MORE" (.ix (.v 0) (.int 0)) (.tup .nil))) (.int 1) (.int 0))]}
abbrev aq6:Def:={2,["program","nodes","made","!nodes","!"],#v[.dfn 2 2 ["here","inside","nodes","node","part"] [1] #v[.set 3 (.make "Node" #v[.v 0,.v 1,.len (.v 2)]),.ex (.app (.v 2) (.v 3)),.for (.n 4) (.seq (.v 1)) #v[.fldS (.v 4) "holders" (.bin .Add (.fld (.v 4) "holders") (.int 1)),.fldS (.v 3) "ways" (.max (.fld (.v 3) "ways") (.fld (.v 4) "ways"))],.iff (.cmp .Eq (.ix (.v 0) (.int 0)) (.str "way")) #v[.fldS (.v 3) "ways" (.bin .Add (.fld (.v 3) "ways") (.int 1))] .nil,.ret (.v 3)],.ret (.call "made_of_parts" #v[.v 0,.gf "inner",.v 2])]}
abbrev P8:Def:={4,["node","known","named","made","begun","answers","before","here","number","key","answer"],#v[.set 4 (.lst #v[.v 0]),.set 5 (.lst #v[.lst .nil]),.set 6 .dnt,.while (.bl AC) #v[.set 7 (.ix (.v 4) (.neg (.int 1))),.set 8 (.len (.ix (.v 5) (.neg (.int 1)))),.set 9 (.ite (.cmp .Gt (.fld (.v 7) "holders") (.int 1)) (.call "known_for" #v[.v 7,.v 1]) .non),.iff (.and (.din AC (.v 9) (.v 6)) (.cmp .Lt (.v 8) (.len (.fld (.v 7) "inside")))) #v[.iff (.cmp .Eq (.call "names_more" #v[.fld (.v 7) "program",.v 8]) (.int 1)) #v[.ex (.app (.v 1) (.callv 2 #v[.fld (.v 7) "program",.ix (.v 5) (.neg (.int 1)),.v 8]))] .nil,.ex (.app (.v 4) (.ix (.fld (.v 7) "inside") (.v 8))),.ex (.app (.v 5) (.lst .nil)),.cont] .nil,.set 10 (.ite (.din AF (.v 9) (.v 6)) (.ix (.v 6) (.v 9)) (.callv 3 #v[.v 7,.ix (.v 5) (.neg (.int 1)),.v 1])),.iff (.notN (.v 9)) #v[.dput (.v 6) (.v 9) (.v 10)] .nil,.ex (.pop (.v 4)),.ex (.pop (.v 5)),.iff (.cmp .Eq (.len (.v 4)) (.int 0)) #v[.ret (.v 10)] .nil,.iff (.cmp .Eq (.call "names_more" #v[.fld (.ix (.v 4) (.neg (.int 1))) "program",.len (.ix (.v 5) (.neg (.int 1)))]) (.int 1)) #v[.ex (.pop (.v 1))] .nil,.ex (.app (.ix (.v 5) (.neg (.int 1))) (.v 10))]]}
abbrev ao1:Def:={2,["program","names","shelf"],#v[.set 2 (.make "Shelf" .nil),.ret (.meth (.v 2) "tuple_at" #v[.call "shelved_kind" #v[.v 0,.call "shelved_names" #v[.v 1,.v 2],.v 2]])]}
abbrev ai7:Def:={2,["names","shelf"],#v[.ret (.comp ["shelf","kind"] [1] 1 (.n 1) (.revt (.v 0)) .non (.meth (.v 0) "put_by" #v[.v 1]))]}
abbrev ak6:Def:={3,["program","known","shelf"],#v[.ret (.call "kind_of_node" #v[.call "noded" #v[.v 0,.lst .nil],.v 1,.v 2])]}
abbrev al0:Def:={3,["node","known","shelf","named","made","!shelf","!"],#v[.dfn 3 3 ["here","kinds","number","shelf"] [2] #v[.ret (.call "new_name" #v[.v 0,.v 1,.v 2,.v 3])],.dfn 4 3 ["here","kinds","known_here","shelf","kind"] [2] #v[.set 4 (.call "kind_by_parts" #v[.fld (.v 0) "program",.v 1,.v 2,.v 3]),.fldS (.v 0) "kind" (.ite (.or (.isN (.fld (.v 0) "kind")) (.cmp .Eq (.fld (.v 0) "kind") (.v 4))) (.v 4) (.neg (.int 1))),.ret (.v 4)],.ret (.call "folded" #v[.v 0,.v 1,.v 3,.v 4])]}
abbrev aj4:Def:={4,["program","kinds","known","shelf"],#v[.ret (.callx (.gsel "BY_WORD" (.ix (.v 0) (.int 0))) #v[.v 0,.v 1,.v 2,.v 3])]}
abbrev an8:Def:={4,["program","kinds","number","shelf"],#v[.iff (.cmp .Eq (.ix (.v 0) (.int 0)) (.str "way")) #v[.ret (.methd (.v 3) "laid_kind" #v[.ix (.v 0) (.int 1)])] .nil,.iff (.cmp .Eq (.ix (.v 0) (.int 0)) (.str "let")) #v[.ret (.ix (.v 1) (.int 0))] .nil,.ret (.ix (.call "halves_of" #v[.str "either",.ix (.v 1) (.int 0),.v 3]) (.bin .Sub (.v 2) (.int 1)))]}
abbrev an0:Def:={3,["word","kind","shelf"],#v[.iff (.cmp .NotEq (.meth (.v 2) "word_at" #v[.v 1]) (.v 0)) #v[.dead] .nil,.ret (.meth (.v 2) "within" #v[.v 1])]}
abbrev aj8:Def:={4,["program","kinds","known","shelf","number"],#v[.set 4 (.ix (.v 0) (.int 1)),.iff (.or (.cmp .Lt (.v 4) (.int 0)) (.cmp .GtE (.v 4) (.len (.v 2)))) #v[.dead] .nil,.ret (.meth (.v 3) "taken_up" #v[.ix (.v 2) (.bin .Sub (.bin .Sub (.len (.v 2)) (.int 1)) (.v 4))])]}
abbrev al2:Def:={4,["program","kinds","known","shelf"],#v[.ret (.meth (.v 3) "numbered" #v[.tup #v[.str "one"],.tup .nil])]}
abbrev ak1:Def:={4,["program","kinds","known","shelf"],#v[.ret (.meth (.v 3) "built" #v[.str "both",.ix (.v 1) (.int 0),.ix (.v 1) (.int 1)])]}
abbrev ai6:Def:={4,["program","kinds","known","shelf"],#v[.ret (.ix (.call "halves_of" #v[.str "both",.ix (.v 1) (.int 0),.v 3]) (.int 0))]}
abbrev ah8:Def:={4,["program","kinds","known","shelf"],#v[.ret (.ix (.call "halves_of" #v[.str "both",.ix (.v 1) (.int 0),.v 3]) (.int 1))]}
abbrev ak0:Def:={4,["program","kinds","known","shelf"],#v[.ret (.meth (.v 3) "built" #v[.str "either",.ix (.v 1) (.int 0),.methd (.v 3) "laid_kind" #v[.ix (.v 0) (.int 1)]])]}
abbrev aj3:Def:={4,["program","kinds","known","shelf"],#v[.ret (.meth (.v 3) "built" #v[.str "either",.methd (.v 3) "laid_kind" #v[.ix (.v 0) (.int 1)],.ix (.v 1) (.int 0)])]}
abbrev al3:Def:={4,["program","kinds","known","shelf"],#v[.iff (.cmp .NotEq (.ix (.v 1) (.int 1)) (.ix (.v 1) (.int 2))) #v[.dead] .nil,.ret (.ix (.v 1) (.int 1))]}
abbrev am1:Def:={4,["program","kinds","known","shelf"],#v[.ret (.meth (.v 3) "built" #v[.str "way",.methd (.v 3) "laid_kind" #v[.ix (.v 0) (.int 1)],.ix (.v 1) (.int 0)])]}
abbrev al5:Def:={4,["program","kinds","known","shelf","ends"],#v[.set 4 (.call "halves_of" #v[.str "way",.ix (.v 1) (.int 0),.v 3]),.iff (.cmp .NotEq (.ix (.v 4) (.int 0)) (.ix (.v 1) (.int 1))) #v[.dead] .nil,.ret (.ix (.v 4) (.int 1))]}
abbrev am2:Def:={4,["program","kinds","known","shelf"],#v[.ret (.ix (.v 1) (.int 1))]}
abbrev aj0:Def:={4,["program","kinds","known","shelf"],#v[.iff (.cmp .NotEq (.meth (.v 3) "word_at" #v[.ix (.v 1) (.int 0)]) (.str "none")) #v[.dead] .nil,.ret (.methd (.v 3) "laid_kind" #v[.ix (.v 0) (.int 1)])]}
abbrev ap0:Def:={3,["program","many","least","changed","!least","!many","!"],#v[.iff (.cmp .Eq (.v 1) (.int 0)) #v[.ret (.v 0)] .nil,.dfn 3 2 ["part","under","least","many"] [2,1] #v[.iff (.and (.cmp .Eq (.ix (.v 0) (.int 0)) (.str "name")) (.and (.cmp .GtE (.ix (.v 0) (.int 1)) (.v 1)) (.cmp .GtE (.bin .Sub (.ix (.v 0) (.int 1)) (.v 1)) (.v 2)))) #v[.ret (.tup #v[.str "name",.bin .Add (.ix (.v 0) (.int 1)) (.v 3)])] .nil,.ret .non],.ret (.call "with_parts" #v[.v 0,.v 3])]}
abbrev ap4:Def:={2,["program","other","copies","changed","!copies","!other","!"],#v[.pre 2,.dfn 3 2 ["part","under","copies","other"] [2,1] #v[.iff (.or (.cmp .NotEq (.ix (.v 0) (.int 0)) (.str "name")) (.cmp .Lt (.ix (.v 0) (.int 1)) (.v 1))) #v[.ret .non] .nil,.iff (.cmp .Eq (.ix (.v 0) (.int 1)) (.v 1)) #v[.ret (.call "copy_under" #v[.v 2,.v 3,.v 1])] .nil,.ret (.tup #v[.str "name",.bin .Sub (.ix (.v 0) (.int 1)) (.int 1)])],.ret (.call "with_parts" #v[.v 0,.v 3])]}
abbrev am5:Def:={3,["copies","program","under"],#v[.iff (.cmp .NotIn (.v 2) (.v 0)) #v[.iput (.v 0) (.v 2) (.call "lifted" #v[.v 1,.v 2,.int 0])] .nil,.ret (.ix (.v 0) (.v 2))]}
abbrev am9:Def:={2,["program","changed","parts_of","made","!changed","!"],#v[.dfn 2 1 ["here","changed"] [1] #v[.ret (.ite (.notN (.callv 1 #v[.ix (.v 0) (.int 0),.ix (.v 0) (.int 1)])) (.lst .nil) (.call "inner_under" #v[.v 0]))],.dfn 3 2 ["here","parts","changed","other"] [1] #v[.set 3 (.ite (.cmp .Eq (.len (.v 1)) (.int 0)) (.callv 2 #v[.ix (.v 0) (.int 0),.ix (.v 0) (.int 1)]) .non),.iff (.any (.comp ["part"] [] 1 (.n 0) (.seq (.v 1)) .non (.ix (.v 0) (.int 1)))) #v[.set 3 (.call "with_inner" #v[.ix (.v 0) (.int 0),.comp ["part"] [] 1 (.n 0) (.seq (.v 1)) .non (.ix (.v 0) (.int 0))])] .nil,.ret (.ite (.isN (.v 3)) (.tup #v[.ix (.v 0) (.int 0),.bl AF]) (.tup #v[.v 3,.bl AC]))],.ret (.ix (.call "made_of_parts" #v[.tup #v[.v 0,.int 0],.v 2,.v 3]) (.int 0))]}
abbrev al9:Def:={1,["here","part"],#v[.set 1 (.ix (.v 0) (.int 0)),.ret (.comp ["here","part","number","one"] [0,1] 2 (.tup [2,3]) (.enum (.call "inner" #v[.v 1])) .non (.tup #v[.v 3,.bin .Add (.ix (.v 0) (.int 1)) (.call "names_more" #v[.v 1,.v 2])]))]}
abbrev ab9:Def:={2,["one","other","ahead","turn","here","shelf"],#v[.set 2 (.lst #v[.tup #v[.v 0,.v 1]]),.for (.n 3) (.rng (.gc "FEW")) #v[.iff (.cmp .Eq (.len (.v 2)) (.int 0)) #v[.ret (.bl AC)] .nil,.set 4 (.pop (.v 2)),.iff (.and (.isT "tuple" (.ix (.v 4) (.int 0))) (.isT "tuple" (.ix (.v 4) (.int 1)))) #v[.iff (.cmp .NotEq (.len (.ix (.v 4) (.int 0))) (.len (.ix (.v 4) (.int 1)))) #v[.ret (.bl AF)] .nil,.ex (.ext (.v 2) (.lzip (.ix (.v 4) (.int 0)) (.ix (.v 4) (.int 1))))] #v[.iff (.cmp .NotEq (.ix (.v 4) (.int 0)) (.ix (.v 4) (.int 1))) #v[.ret (.bl AF)] .nil]],.dead,.dead]}
abbrev ak4:Def:={2,["program","place","here","number","parts"],#v[.set 2 (.v 0),.for (.n 3) (.seq (.v 1)) #v[.set 4 (.call "inner" #v[.v 2]),.iff (.or (.cmp .Lt (.v 3) (.int 0)) (.cmp .GtE (.v 3) (.len (.v 4)))) #v[.ret .non] .nil,.set 2 (.ix (.v 4) (.v 3))],.ret (.v 2)]}
abbrev ak9:Def:={3,["program","place","other","above","here","number","answer","outer","parts"],#v[.set 3 (.lst .nil),.set 4 (.v 0),.for (.n 5) (.seq (.v 1)) #v[.ex (.app (.v 3) (.tup #v[.v 4,.v 5])),.set 4 (.ix (.call "inner" #v[.v 4]) (.v 5))],.set 6 (.v 2),.for (.tup [7,5]) (.rev (.v 3)) #v[.set 8 (.call "inner" #v[.v 7]),.put (.v 8) (.v 5) (.v 6),.set 6 (.call "with_inner" #v[.v 7,.v 8])],.ret (.v 6)]}
abbrev R8:Def:={3,["known","shelf","step","word","one","other"],#v[.set 3 (.ix (.v 2) (.int 0)),.set 4 (.ix (.v 2) (.int 1)),.set 5 (.ix (.v 2) (.int 2)),.iff (.cmp .NotIn (.v 3) (.gc "WORDS")) #v[.ret (.bl AF)] .nil,.tr #v[.iff (.cmp .NotEq (.call "shelved_kind" #v[.v 4,.list (.v 0),.v 1]) (.call "shelved_kind" #v[.v 5,.list (.v 0),.v 1])) #v[.ret (.bl AF)] .nil],.iff (.cmp .Eq (.v 3) (.str "split")) #v[.ret (.or (.call "forth_split" #v[.v 4,.v 5,.v 0,.v 1,.ix (.v 2) (.int 3)]) (.call "forth_split" #v[.v 5,.v 4,.v 0,.v 1,.ix (.v 2) (.int 3)]))] .nil,.ret (.or (.callx (.gsel "FORTH" (.v 3)) #v[.v 4,.v 5]) (.callx (.gsel "FORTH" (.v 3)) #v[.v 5,.v 4]))]}
abbrev ai3:Def:={2,["one","other"],#v[.ret (.and (.cmp .Eq (.ix (.v 0) (.int 0)) (.str "let")) (.call "are_alike" #v[.v 1,.call "put_in" #v[.ix (.v 0) (.int 2),.ix (.v 0) (.int 1)]]))]}
abbrev ah5:Def:={2,["one","other"],#v[.ret (.and (.cmp .Eq (.ix (.v 0) (.int 0)) (.str "give")) (.and (.cmp .Eq (.ix (.ix (.v 0) (.int 1)) (.int 0)) (.str "way")) (.call "are_alike" #v[.v 1,.call "put_in" #v[.ix (.ix (.v 0) (.int 1)) (.int 2),.ix (.v 0) (.int 2)]])))]}
abbrev ah0:Def:={2,["one","other"],#v[.ret (.and (.cmp .Eq (.ix (.v 0) (.int 0)) (.str "first")) (.and (.cmp .Eq (.ix (.ix (.v 0) (.int 1)) (.int 0)) (.str "pair")) (.call "are_alike" #v[.v 1,.ix (.ix (.v 0) (.int 1)) (.int 1)])))]}
abbrev ag5:Def:={2,["one","other"],#v[.ret (.and (.cmp .Eq (.ix (.v 0) (.int 0)) (.str "second")) (.and (.cmp .Eq (.ix (.ix (.v 0) (.int 1)) (.int 0)) (.str "pair")) (.call "are_alike" #v[.v 1,.ix (.ix (.v 0) (.int 1)) (.int 2)])))]}
abbrev ai0:Def:={2,["one","other"],#v[.ret (.and (.cmp .Eq (.ix (.v 0) (.int 0)) (.str "case")) (.and (.cmp .Eq (.ix (.ix (.v 0) (.int 1)) (.int 0)) (.str "left")) (.call "are_alike" #v[.v 1,.call "put_in" #v[.ix (.v 0) (.int 2),.ix (.ix (.v 0) (.int 1)) (.int 2)]])))]}
abbrev ag6:Def:={2,["one","other"],#v[.ret (.and (.cmp .Eq (.ix (.v 0) (.int 0)) (.str "case")) (.and (.cmp .Eq (.ix (.ix (.v 0) (.int 1)) (.int 0)) (.str "right")) (.call "are_alike" #v[.v 1,.call "put_in" #v[.ix (.v 0) (.int 3),.ix (.ix (.v 0) (.int 1)) (.int 2)]])))]}
abbrev ah4:Def:={2,["one","other"],#v[.ret (.cmp .Eq (.v 1) (.tup #v[.str "star"]))]}
abbrev ah1:Def:={2,["one","other"],#v[.ret (.and (.cmp .Eq (.ix (.v 1) (.int 0)) (.str "pair")) (.call "are_alike" #v[.v 1,.tup #v[.str "pair",.tup #v[.str "first",.v 0],.tup #v[.str "second",.v 0]]]))]}
abbrev ai2:Def:={2,["one","other"],#v[.ret (.and (.cmp .Eq (.ix (.v 1) (.int 0)) (.str "way")) (.call "are_alike" #v[.ix (.v 1) (.int 2),.tup #v[.str "give",.call "lifted" #v[.v 0,.int 1,.int 0],.tup #v[.str "name",.int 0]]]))]}
abbrev ag7:Def:={5,["one","other","known","shelf","through","halves"],#v[.iff (.or (.isN (.v 4)) (.or (.cmp .NotEq (.ix (.v 1) (.int 0)) (.str "case")) (.not (.call "are_alike" #v[.v 0,.call "put_in" #v[.v 4,.ix (.v 1) (.int 1)]])))) #v[.ret (.bl AF)] .nil,.set 5 (.meth (.v 3) "tuple_at" #v[.call "shelved_kind" #v[.ix (.v 1) (.int 1),.list (.v 2),.v 3]]),.ret (.call "are_alike" #v[.v 1,.call "split" #v[.v 4,.ix (.v 1) (.int 1),.v 5]])]}
abbrev an1:Def:={3,["through","asked","halves","deeper","left"],#v[.set 3 (.call "lifted" #v[.v 0,.int 1,.int 1]),.set 4 (.call "put_in" #v[.v 3,.tup #v[.str "left",.ix (.v 2) (.int 2),.tup #v[.str "name",.int 0]]]),.ret (.tup #v[.str "case",.v 1,.v 4,.call "put_in" #v[.v 3,.tup #v[.str "right",.ix (.v 2) (.int 1),.tup #v[.str "name",.int 0]]]])]}
abbrev ag8:Def:={2,["one","other"],#v[.ret (.cmp .Eq (.ix (.v 1) (.int 0)) (.str "never"))]}
abbrev al7:Def:={3,["program","place","names","shelf","known"],#v[.set 3 (.make "Shelf" .nil),.set 4 (.call "known_at" #v[.v 0,.v 1,.call "shelved_names" #v[.v 2,.v 3],.v 3]),.ret (.bin .Add (.tuple (.comp ["shelf","kind"] [3] 1 (.n 1) (.rev (.sl (.v 4) (.len (.v 2)) .non)) .non (.meth (.v 0) "tuple_at" #v[.v 1]))) (.v 2))]}
abbrev D8:Def:={4,["program","place","names","shelf","here","known","number","kinds"],#v[.set 4 (.v 0),.set 5 (.list (.v 2)),.for (.n 6) (.seq (.v 1)) #v[.iff (.cmp .Eq (.call "names_more" #v[.v 4,.v 6]) (.int 1)) #v[.set 7 (.ite (.cmp .Eq (.ix (.v 4) (.int 0)) (.str "way")) (.lst .nil) (.lst #v[.call "shelved_kind" #v[.ix (.v 4) (.int 1),.list (.v 5),.v 3]])),.ex (.app (.v 5) (.call "new_name" #v[.v 4,.v 7,.v 6,.v 3]))] .nil,.set 4 (.ix (.call "inner" #v[.v 4]) (.v 6))],.ret (.v 5)]}
abbrev am8:Def:={3,["program","names","row","shelf","known","here","number","step"],#v[.set 3 (.make "Shelf" .nil),.set 4 (.call "shelved_names" #v[.v 1,.v 3]),.set 5 (.v 0),.for (.tup [6,7]) (.enum (.v 2)) #v[.iff (.not (.call "leads_on" #v[.v 5,.v 4,.v 3,.v 7])) #v[.dead] .nil,.set 5 (.call "replaced" #v[.v 5,.ix (.v 7) (.int 0),.ix (.v 7) (.int 3)])],.ret (.v 5)]}
abbrev al1:Def:={4,["program","names","shelf","step","there","known"],#v[.set 4 (.call "at_place" #v[.v 0,.ix (.v 3) (.int 0)]),.iff (.or (.isN (.v 4)) (.not (.call "are_alike" #v[.v 4,.ix (.v 3) (.int 2)]))) #v[.ret (.bl AF)] .nil,.tr #v[.set 5 (.call "known_at" #v[.v 0,.ix (.v 3) (.int 0),.v 1,.v 2])],.ret (.call "is_step_over" #v[.v 5,.v 2,.sl (.v 3) (.int 1) .non])]}
abbrev am0:Def:={1,["row"],#v[.ret (.comp ["place","word","one","other","through"] [] 5 (.tup [0,1,2,3,4]) (.rev (.v 0)) .non (.tup #v[.v 0,.v 1,.v 3,.v 2,.v 4]))]}
abbrev L9:Def:={1,["_law_script","_law_deck_here","_law_k","_law_cell","_law_j","_law_number"],#v[.set 1 (.lst .nil),.for (.n 2) (.rng (.min (.int 63) (.len (.v 0)))) #v[.set 3 (.ix (.v 0) (.v 2)),.iff (.cmp .GtE (.v 3) (.bin .Pow (.int 10) (.int 18))) #v[.for (.n 4) (.rng (.int 60)) #v[.iff (.cmp .Gt (.v 3) (.int 0)) #v[.ex (.app (.v 1) (.bin .Mod (.v 3) (.int 720720))),.set 3 (.bin .FloorDiv (.v 3) (.int 720720))] .nil]] #v[.set 5 (.bin .Mod (.bin .Add (.bin .Add (.bin .Mult (.bin .Mod (.v 3) (.int 2147483629)) (.int 48271)) (.bin .Mult (.int 7919) (.v 2))) (.int 13)) (.int 2147483629)),.set 5 (.bin .Mod (.bin .Add (.bin .Mult (.v 5) (.bin .Add (.bin .FloorDiv (.v 5) (.int 5)) (.int 16807))) (.bin .Mult (.int 69621) (.v 2))) (.int 2147483587)),.ex (.ext (.v 1) (.lst #v[.bin .Mod (.v 5) (.int 720720),.bin .Mod (.bin .Mod (.bin .Mult (.v 5) (.int 40692)) (.int 2147483399)) (.int 720720)]))]],.for (.n 2) (.rng2 (.len (.v 1)) (.int 150)) #v[.set 5 (.int 11),.iff (.cmp .Gt (.len (.v 0)) (.int 0)) #v[.set 5 (.bin .Mod (.ix (.v 0) (.bin .Mod (.v 2) (.min (.int 63) (.len (.v 0))))) (.int 2147483629))] .nil,.set 5 (.bin .Mod (.bin .Add (.bin .Add (.bin .Mult (.v 5) (.int 48271)) (.bin .Mult (.int 7919) (.v 2))) (.int 13)) (.int 2147483629)),.set 5 (.bin .Mod (.bin .Add (.bin .Mult (.v 5) (.bin .Add (.bin .FloorDiv (.v 5) (.int 5)) (.int 16807))) (.bin .Mult (.int 69621) (.v 2))) (.int 2147483587)),.ex (.app (.v 1) (.bin .Mod (.bin .Mod (.bin .Mult (.v 5) (.int 40692)) (.int 2147483399)) (.int 720720)))],.ret (.sl (.v 1) .non (.int 150))]}
abbrev aj9:Def:={2,["_law_deck_here","_law_many_here"],#v[.iff (.cmp .Eq (.len (.v 0)) (.int 0)) #v[.ret (.int 0)] .nil,.ret (.bin .Mod (.popAt (.v 0) (.int 0)) (.v 1))]}
abbrev ak2:Def:={2,["_law_deck_here","_law_deep","_law_two_here","_law_way","_law_one"],#v[.set 2 (.tup #v[.str "either",.tup #v[.str "one"],.tup #v[.str "one"]]),.set 3 (.call "_law_next" #v[.v 0,.ix (.lst #v[.int 3,.int 9]) (.toInt (.cmp .Gt (.v 1) (.int 0)))]),.iff (.cmp .Lt (.v 3) (.int 3)) #v[.ret (.ix (.lst #v[.tup #v[.str "one"],.v 2,.v 2]) (.v 3))] .nil,.iff (.cmp .Eq (.v 3) (.int 3)) #v[.ret (.tup #v[.str "way",.tup #v[.str "none"],.v 2])] .nil,.iff (.cmp .Eq (.v 3) (.int 8)) #v[.ret (.tup #v[.str "either",.tup #v[.str "none"],.call "_law_kind" #v[.v 0,.bin .Sub (.v 1) (.int 1)]])] .nil,.set 4 (.call "_law_kind" #v[.v 0,.bin .Sub (.v 1) (.int 1)]),.ret (.tup #v[.ix (.lst #v[.str "either",.str "both",.str "way",.str "both"]) (.bin .Sub (.v 3) (.int 4)),.v 4,.call "_law_kind" #v[.v 0,.int 0]])]}
abbrev ac0:Def:={1,["_law_kind_here","_law_one","_law_other","_law_found","_law_turn"],#v[.iff (.cmp .In (.ix (.v 0) (.int 0)) (.tup #v[.str "none",.str "one"])) #v[.ret (.toInt (.cmp .Eq (.ix (.v 0) (.int 0)) (.str "one")))] .nil,.set 1 (.call "_law_many" #v[.ix (.v 0) (.int 1)]),.set 2 (.call "_law_many" #v[.ix (.v 0) (.int 2)]),.iff (.cmp .Eq (.ix (.v 0) (.int 0)) (.str "either")) #v[.ret (.bin .Add (.v 1) (.v 2))] .nil,.iff (.cmp .Eq (.ix (.v 0) (.int 0)) (.str "both")) #v[.ret (.bin .Mult (.v 1) (.v 2))] .nil,.set 3 (.int 1),.for (.n 4) (.rng (.v 1)) #v[.set 3 (.bin .Mult (.v 3) (.v 2))],.ret (.v 3)]}
abbrev U5:Def:={1,["_law_kind_here"],#v[.iff (.cmp .Eq (.ix (.v 0) (.int 0)) (.str "one")) #v[.ret (.tup #v[.str "star"])] .nil,.iff (.cmp .Eq (.ix (.v 0) (.int 0)) (.str "both")) #v[.ret (.tup #v[.str "pair",.call "_law_plain" #v[.ix (.v 0) (.int 1)],.call "_law_plain" #v[.ix (.v 0) (.int 2)]])] .nil,.iff (.and (.cmp .Eq (.ix (.v 0) (.int 0)) (.str "either")) (.cmp .Gt (.call "_law_many" #v[.ix (.v 0) (.int 1)]) (.int 0))) #v[.ret (.tup #v[.str "left",.ix (.v 0) (.int 2),.call "_law_plain" #v[.ix (.v 0) (.int 1)]])] .nil,.iff (.cmp .Eq (.ix (.v 0) (.int 0)) (.str "either")) #v[.ret (.tup #v[.str "right",.ix (.v 0) (.int 1),.call "_law_plain" #v[.ix (.v 0) (.int 2)]])] .nil,.iff (.cmp .Eq (.call "_law_many" #v[.ix (.v 0) (.int 1)]) (.int 0)) #v[.ret (.tup #v[.str "way",.ix (.v 0) (.int 1),.tup #v[.str "never",.ix (.v 0) (.int 2),.tup #v[.str "name",.int 0]]])] .nil,.ret (.tup #v[.str "way",.ix (.v 0) (.int 1),.call "_law_plain" #v[.ix (.v 0) (.int 2)]])]}
abbrev al6:Def:={4,["_law_deck_here","_law_kind_here","_law_names_here","_law_room","_law_one"],#v[.iff (.cmp .Eq (.ix (.v 1) (.int 0)) (.str "one")) #v[.ret (.tup #v[.str "star"])] .nil,.iff (.cmp .Eq (.ix (.v 1) (.int 0)) (.str "both")) #v[.set 4 (.call "_law_term" #v[.v 0,.ix (.v 1) (.int 1),.v 2,.bin .FloorDiv (.v 3) (.int 2)]),.ret (.tup #v[.str "pair",.v 4,.call "_law_term" #v[.v 0,.ix (.v 1) (.int 2),.v 2,.bin .FloorDiv (.v 3) (.int 2)]])] .nil,.iff (.and (.cmp .Eq (.ix (.v 1) (.int 0)) (.str "way")) (.cmp .Gt (.call "_law_many" #v[.ix (.v 1) (.int 1)]) (.int 0))) #v[.ret (.tup #v[.str "way",.ix (.v 1) (.int 1),.call "_law_term" #v[.v 0,.ix (.v 1) (.int 2),.bin .Add (.tup #v[.ix (.v 1) (.int 1)]) (.v 2),.bin .Sub (.v 3) (.int 1)]])] .nil,.iff (.cmp .Eq (.ix (.v 1) (.int 0)) (.str "way")) #v[.ret (.tup #v[.str "way",.ix (.v 1) (.int 1),.tup #v[.str "never",.ix (.v 1) (.int 2),.tup #v[.str "name",.int 0]]])] .nil,.iff (.or (.cmp .Eq (.call "_law_many" #v[.ix (.v 1) (.int 2)]) (.int 0)) (.and (.cmp .Gt (.call "_law_many" #v[.ix (.v 1) (.int 1)]) (.int 0)) (.cmp .Eq (.call "_law_next" #v[.v 0,.int 2]) (.int 0)))) #v[.ret (.tup #v[.str "left",.ix (.v 1) (.int 2),.call "_law_term" #v[.v 0,.ix (.v 1) (.int 1),.v 2,.bin .Sub (.v 3) (.int 1)]])] .nil,.ret (.tup #v[.str "right",.ix (.v 1) (.int 1),.call "_law_term" #v[.v 0,.ix (.v 1) (.int 2),.v 2,.bin .Sub (.v 3) (.int 1)]])]}
abbrev aj2:Def:={4,["_law_deck_here","_law_kind_here","_law_names_here","_law_room","_law_way","_law_more","_law_half","_law_one","_law_other","_law_third","_law_yes"],#v[.set 4 (.call "_law_next" #v[.v 0,.int 5]),.set 5 (.call "_law_kind" #v[.v 0,.bin .Sub (.int 1) (.toInt (.cmp .Lt (.v 3) (.int 6)))]),.set 6 (.bin .FloorDiv (.bin .Sub (.v 3) (.int 1)) (.int 2)),.iff (.cmp .Eq (.v 4) (.int 0)) #v[.ret (.tup #v[.str "first",.call "_law_term" #v[.v 0,.tup #v[.str "both",.v 1,.v 5],.v 2,.bin .Sub (.v 3) (.int 1)]])] .nil,.iff (.cmp .Eq (.v 4) (.int 1)) #v[.ret (.tup #v[.str "second",.call "_law_term" #v[.v 0,.tup #v[.str "both",.v 5,.v 1],.v 2,.bin .Sub (.v 3) (.int 1)]])] .nil,.iff (.cmp .Eq (.v 4) (.int 2)) #v[.set 7 (.call "_law_term" #v[.v 0,.tup #v[.str "way",.v 5,.v 1],.v 2,.v 6]),.ret (.tup #v[.str "give",.v 7,.call "_law_term" #v[.v 0,.v 5,.v 2,.v 6]])] .nil,.iff (.cmp .Eq (.v 4) (.int 3)) #v[.set 7 (.call "_law_term" #v[.v 0,.v 5,.v 2,.v 6]),.ret (.tup #v[.str "let",.v 7,.call "_law_term" #v[.v 0,.v 1,.bin .Add (.tup #v[.v 5]) (.v 2),.v 6]])] .nil,.set 8 (.call "_law_kind" #v[.v 0,.int 0]),.set 9 (.bin .FloorDiv (.bin .Sub (.v 3) (.int 1)) (.int 3)),.set 7 (.call "_law_term" #v[.v 0,.tup #v[.str "either",.v 5,.v 8],.v 2,.v 9]),.set 10 (.call "_law_term" #v[.v 0,.v 1,.bin .Add (.tup #v[.v 5]) (.v 2),.v 9]),.ret (.tup #v[.str "case",.v 7,.v 10,.call "_law_term" #v[.v 0,.v 1,.bin .Add (.tup #v[.v 8]) (.v 2),.v 9]])]}
abbrev Y6:Def:={4,["_law_deck_here","_law_kind_here","_law_names_here","_law_room","_law_some","_law_form"],#v[.set 4 (.comp ["_law_kind_here","_law_names_here","_law_k"] [1,2] 1 (.n 2) (.rng (.len (.v 2))) (.cmp .Eq (.ix (.v 1) (.v 2)) (.v 0)) (.v 2)),.set 5 (.call "_law_next" #v[.v 0,.int 4]),.iff (.and (.cmp .Gt (.len (.v 4)) (.int 0)) (.or (.cmp .Lt (.v 5) (.int 2)) (.cmp .Lt (.v 3) (.int 3)))) #v[.ret (.tup #v[.str "name",.ix (.v 4) (.call "_law_next" #v[.v 0,.len (.v 4)])])] .nil,.iff (.cmp .Lt (.v 3) (.int 3)) #v[.ret (.call "_law_plain" #v[.v 1])] .nil,.iff (.cmp .Eq (.v 5) (.int 3)) #v[.ret (.call "_law_taken" #v[.v 0,.v 1,.v 2,.v 3])] .nil,.ret (.call "_law_made" #v[.v 0,.v 1,.v 2,.v 3])]}
abbrev ai5:Def:={1,["_law_program","_law_form"],#v[.set 1 (.ix (.v 0) (.int 0)),.iff (.cmp .In (.v 1) (.tup #v[.str "name",.str "star"])) #v[.ret (.lst .nil)] .nil,.iff (.cmp .In (.v 1) (.tup #v[.str "pair",.str "give"])) #v[.ret (.lst #v[.tup #v[.int 1,.int 0],.tup #v[.int 2,.int 0]])] .nil,.iff (.cmp .In (.v 1) (.tup #v[.str "first",.str "second"])) #v[.ret (.lst #v[.tup #v[.int 1,.int 0]])] .nil,.iff (.cmp .In (.v 1) (.tup #v[.str "left",.str "right",.str "never"])) #v[.ret (.lst #v[.tup #v[.int 2,.int 0]])] .nil,.iff (.cmp .Eq (.v 1) (.str "way")) #v[.ret (.lst #v[.tup #v[.int 2,.int 1]])] .nil,.iff (.cmp .Eq (.v 1) (.str "let")) #v[.ret (.lst #v[.tup #v[.int 1,.int 0],.tup #v[.int 2,.int 1]])] .nil,.ret (.lst #v[.tup #v[.int 1,.int 0],.tup #v[.int 2,.int 1],.tup #v[.int 3,.int 1]])]}
abbrev aj7:Def:={3,["_law_program","_law_many_here","_law_least","_law_found","_law_at_here","_law_more"],#v[.iff (.cmp .Eq (.ix (.v 0) (.int 0)) (.str "name")) #v[.ret (.tup #v[.str "name",.bin .Add (.ix (.v 0) (.int 1)) (.bin .Mult (.v 1) (.toInt (.cmp .GtE (.ix (.v 0) (.int 1)) (.v 2))))])] .nil,.set 3 (.list (.v 0)),.for (.tup [4,5]) (.seq (.call "_law_under" #v[.v 0])) #v[.put (.v 3) (.v 4) (.call "_law_lift" #v[.ix (.v 0) (.v 4),.v 1,.bin .Add (.v 2) (.v 5)])],.ret (.tuple (.v 3))]}
abbrev al8:Def:={3,["_law_program","_law_other","_law_deep","_law_found","_law_at_here","_law_more"],#v[.iff (.and (.cmp .Eq (.ix (.v 0) (.int 0)) (.str "name")) (.cmp .Eq (.ix (.v 0) (.int 1)) (.v 2))) #v[.ret (.call "_law_lift" #v[.v 1,.v 2,.int 0])] .nil,.iff (.cmp .Eq (.ix (.v 0) (.int 0)) (.str "name")) #v[.ret (.tup #v[.str "name",.bin .Sub (.ix (.v 0) (.int 1)) (.toInt (.cmp .Gt (.ix (.v 0) (.int 1)) (.v 2)))])] .nil,.set 3 (.list (.v 0)),.for (.tup [4,5]) (.seq (.call "_law_under" #v[.v 0])) #v[.put (.v 3) (.v 4) (.call "_law_put" #v[.ix (.v 0) (.v 4),.v 1,.bin .Add (.v 2) (.v 5)])],.ret (.tuple (.v 3))]}
abbrev am4:Def:={4,["_law_deck_here","_law_word_here","_law_kind_here","_law_names_here","_law_more","_law_under_here","_law_one","_law_body","_law_other","_law_next_kind","_law_yes","_law_no"],#v[.set 4 (.call "_law_kind" #v[.v 0,.int 1]),.set 5 (.bin .Add (.tup #v[.v 4]) (.v 3)),.iff (.cmp .Eq (.v 1) (.str "let")) #v[.set 6 (.call "_law_term" #v[.v 0,.v 4,.v 3,.int 5]),.set 7 (.call "_law_term" #v[.v 0,.v 2,.v 5,.int 6]),.ret (.tup #v[.tup #v[.str "let",.v 6,.v 7],.call "_law_put" #v[.v 7,.v 6,.int 0],.non])] .nil,.iff (.cmp .Eq (.v 1) (.str "give")) #v[.set 6 (.call "_law_term" #v[.v 0,.v 4,.v 3,.int 5]),.set 7 (.call "_law_term" #v[.v 0,.v 2,.v 5,.int 6]),.ret (.tup #v[.tup #v[.str "give",.tup #v[.str "way",.v 4,.v 7],.v 6],.call "_law_put" #v[.v 7,.v 6,.int 0],.non])] .nil,.set 6 (.call "_law_term" #v[.v 0,.v 2,.v 3,.int 7]),.set 8 (.call "_law_term" #v[.v 0,.v 4,.v 3,.int 4]),.iff (.cmp .Eq (.v 1) (.str "first")) #v[.ret (.tup #v[.tup #v[.str "first",.tup #v[.str "pair",.v 6,.v 8]],.v 6,.non])] .nil,.iff (.cmp .Eq (.v 1) (.str "second")) #v[.ret (.tup #v[.tup #v[.str "second",.tup #v[.str "pair",.v 8,.v 6]],.v 6,.non])] .nil,.set 9 (.call "_law_kind" #v[.v 0,.int 0]),.set 10 (.call "_law_term" #v[.v 0,.v 2,.v 5,.int 6]),.set 11 (.call "_law_term" #v[.v 0,.v 2,.bin .Add (.tup #v[.v 9]) (.v 3),.int 5]),.iff (.cmp .Eq (.v 1) (.str "left")) #v[.ret (.tup #v[.tup #v[.str "case",.tup #v[.str "left",.v 9,.v 8],.v 10,.v 11],.call "_law_put" #v[.v 10,.v 8,.int 0],.non])] .nil,.ret (.tup #v[.tup #v[.str "case",.tup #v[.str "right",.v 9,.v 8],.v 11,.v 10],.call "_law_put" #v[.v 10,.v 8,.int 0],.non])]}
abbrev ak8:Def:={1,["_law_deck_here","_law_two_here","_law_none","_law_some"],#v[.set 1 (.tup #v[.str "either",.tup #v[.str "one"],.tup #v[.str "one"]]),.set 2 (.tup #v[.str "none"]),.set 3 (.lst #v[.v 2,.v 2,.tup #v[.str "both",.v 1,.v 2],.tup #v[.str "either",.v 2,.v 2],.tup #v[.str "way",.v 1,.v 2]]),.ret (.ix (.v 3) (.call "_law_next" #v[.v 0,.int 5]))]}
abbrev ag9:Def:={2,["_law_kind_here","_law_one"],#v[.iff (.cmp .Eq (.ix (.v 0) (.int 0)) (.str "both")) #v[.ret (.tup #v[.str "second",.v 1])] .nil,.iff (.cmp .Eq (.ix (.v 0) (.int 0)) (.str "either")) #v[.ret (.tup #v[.str "case",.v 1,.tup #v[.str "name",.int 0],.tup #v[.str "name",.int 0]])] .nil,.iff (.cmp .Eq (.ix (.v 0) (.int 0)) (.str "way")) #v[.ret (.tup #v[.str "give",.v 1,.tup #v[.str "left",.tup #v[.str "one"],.tup #v[.str "star"]]])] .nil,.ret (.v 1)]}
abbrev ah7:Def:={4,["_law_deck_here","_law_word_here","_law_kind_here","_law_names_here","_law_one","_law_more","_law_at_here","_law_either","_law_asked","_law_through","_law_wide","_law_yes","_law_no"],#v[.iff (.cmp .Eq (.v 1) (.str "star")) #v[.ret (.tup #v[.call "_law_taken" #v[.v 0,.tup #v[.str "one"],.v 3,.int 8],.tup #v[.str "star"],.non])] .nil,.iff (.cmp .Eq (.v 1) (.str "pair")) #v[.set 4 (.call "_law_term" #v[.v 0,.tup #v[.str "both",.v 2,.call "_law_kind" #v[.v 0,.int 0]],.v 3,.int 8]),.ret (.tup #v[.v 4,.tup #v[.str "pair",.tup #v[.str "first",.v 4],.tup #v[.str "second",.v 4]],.non])] .nil,.iff (.cmp .Eq (.v 1) (.str "way")) #v[.set 5 (.call "_law_kind" #v[.v 0,.int 1]),.set 4 (.call "_law_term" #v[.v 0,.tup #v[.str "way",.v 5,.v 2],.v 3,.int 8]),.ret (.tup #v[.v 4,.tup #v[.str "way",.v 5,.tup #v[.str "give",.call "_law_lift" #v[.v 4,.int 1,.int 0],.tup #v[.str "name",.int 0]]],.non])] .nil,.iff (.cmp .Eq (.v 1) (.str "never")) #v[.set 6 (.ix (.comp ["_law_names_here","_law_k"] [3] 1 (.n 1) (.rng (.len (.v 3))) (.cmp .Eq (.call "_law_many" #v[.ix (.v 0) (.v 1)]) (.int 0)) (.v 1)) (.int 0)),.set 4 (.call "_law_term" #v[.v 0,.v 2,.v 3,.int 8]),.ret (.tup #v[.v 4,.tup #v[.str "never",.v 2,.call "_law_nothing" #v[.ix (.v 3) (.v 6),.tup #v[.str "name",.v 6]]],.non])] .nil,.set 7 (.tup #v[.str "either",.call "_law_kind" #v[.v 0,.int 1],.call "_law_kind" #v[.v 0,.int 0]]),.set 8 (.call "_law_term" #v[.v 0,.v 7,.v 3,.int 6]),.set 9 (.call "_law_term" #v[.v 0,.v 2,.bin .Add (.tup #v[.v 7]) (.v 3),.int 8]),.set 10 (.call "_law_lift" #v[.v 9,.int 1,.int 1]),.set 11 (.call "_law_put" #v[.v 10,.tup #v[.str "left",.ix (.v 7) (.int 2),.tup #v[.str "name",.int 0]],.int 0]),.set 12 (.call "_law_put" #v[.v 10,.tup #v[.str "right",.ix (.v 7) (.int 1),.tup #v[.str "name",.int 0]],.int 0]),.ret (.tup #v[.call "_law_put" #v[.v 9,.v 8,.int 0],.tup #v[.str "case",.v 8,.v 11,.v 12],.v 9])]}
abbrev ak7:Def:={4,["_law_deck_here","_law_word_here","_law_kind_here","_law_names_here"],#v[.iff (.cmp .In (.v 1) (.tup #v[.str "let",.str "give",.str "first",.str "second",.str "left",.str "right"])) #v[.ret (.call "_law_two" #v[.v 0,.v 1,.v 2,.v 3])] .nil,.ret (.call "_law_spread" #v[.v 0,.v 1,.v 2,.v 3])]}
abbrev aj6:Def:={1,["_law_deck_here","_law_words"],#v[.set 1 (.lst #v[.str "let",.str "give",.str "first",.str "second",.str "left",.str "right",.str "star",.str "pair",.str "way",.str "split",.str "never",.str "split"]),.ret (.ix (.v 1) (.call "_law_next" #v[.v 0,.int 12]))]}
abbrev U4:Def:={3,["_law_deck_here","_law_names_here","_law_deep","_law_wraps","_law_k","_law_way","_law_more"],#v[.set 3 (.lst .nil),.for (.n 4) (.rng (.v 2)) #v[.set 5 (.call "_law_next" #v[.v 0,.int 7]),.set 6 (.call "_law_kind" #v[.v 0,.chi (.int 0) (.v 5) (.int 4)]),.iff (.cmp .Gt (.v 5) (.int 3)) #v[.ex (.app (.v 3) (.lst #v[.ix (.lst #v[.str "pair",.str "second",.str "left"]) (.bin .Sub (.v 5) (.int 4)),.v 1,.v 6,.non]))] #v[.iff (.cmp .Lt (.v 5) (.int 2)) #v[.ex (.app (.v 3) (.lst #v[.ix (.lst #v[.str "way",.str "let"]) (.v 5),.v 1,.v 6,.non])),.set 1 (.bin .Add (.tup #v[.v 6]) (.v 1))] #v[.ex (.app (.v 3) (.lst #v[.ix (.lst #v[.str "yes",.str "no"]) (.bin .Sub (.v 5) (.int 2)),.v 1,.v 6,.call "_law_kind" #v[.v 0,.int 0]])),.set 1 (.bin .Add (.tup #v[.v 6]) (.v 1))]]],.ret (.tup #v[.v 3,.v 1])]}
abbrev ai8:Def:={3,["_law_deck_here","_law_wrap","_law_kind_here","_law_word_here","_law_names_here","_law_more","_law_other","_law_no"],#v[.unl [3,4,5,6] (.v 1),.iff (.cmp .Eq (.v 3) (.str "way")) #v[.ret (.lst #v[.tup #v[.tup #v[.str "way",.v 5],.tup .nil,.int 0]])] .nil,.iff (.cmp .Eq (.v 3) (.str "let")) #v[.ret (.lst #v[.tup #v[.tup #v[.str "let",.call "_law_term" #v[.v 0,.v 5,.v 4,.int 4]],.tup .nil,.int 1]])] .nil,.iff (.cmp .Eq (.v 3) (.str "left")) #v[.ret (.lst #v[.tup #v[.tup #v[.str "left",.v 5],.tup .nil,.int 0]])] .nil,.iff (.cmp .Eq (.v 3) (.str "pair")) #v[.ret (.lst #v[.tup #v[.tup #v[.str "pair"],.tup #v[.call "_law_term" #v[.v 0,.v 5,.v 4,.int 3]],.int 0],.tup #v[.tup #v[.str "first"],.tup .nil,.int 0]])] .nil,.iff (.cmp .Eq (.v 3) (.str "second")) #v[.ret (.lst #v[.tup #v[.tup #v[.str "pair",.call "_law_term" #v[.v 0,.v 5,.v 4,.int 3]],.tup .nil,.int 1],.tup #v[.tup #v[.str "second"],.tup .nil,.int 0]])] .nil,.set 7 (.call "_law_term" #v[.v 0,.v 2,.bin .Add (.tup #v[.v 6]) (.v 4),.int 3]),.iff (.cmp .Eq (.v 3) (.str "yes")) #v[.ret (.lst #v[.tup #v[.tup #v[.str "case",.call "_law_term" #v[.v 0,.tup #v[.str "either",.v 5,.v 6],.v 4,.int 4]],.tup #v[.v 7],.int 1]])] .nil,.ret (.lst #v[.tup #v[.tup #v[.str "case",.call "_law_term" #v[.v 0,.tup #v[.str "either",.v 6,.v 5],.v 4,.int 4],.v 7],.tup .nil,.int 2]])]}
abbrev Y3:Def:={2,["_law_wrap","_law_kind_here"],#v[.iff (.cmp .Eq (.ix (.v 0) (.int 0)) (.str "way")) #v[.ret (.tup #v[.str "way",.ix (.v 0) (.int 2),.v 1])] .nil,.iff (.cmp .Eq (.ix (.v 0) (.int 0)) (.str "left")) #v[.ret (.tup #v[.str "either",.v 1,.ix (.v 0) (.int 2)])] .nil,.ret (.v 1)]}
abbrev aj5:Def:={5,["_law_deck_here","_law_wraps","_law_one","_law_other","_law_kind_here","_law_place","_law_wrap","_law_before","_law_after","_law_k"],#v[.set 5 (.tup .nil),.for (.n 6) (.rev (.v 1)) #v[.for (.tup [7,8,9]) (.seq (.call "_law_shell" #v[.v 0,.v 6,.v 4])) #v[.set 2 (.bin .Add (.bin .Add (.v 7) (.tup #v[.v 2])) (.v 8)),.set 3 (.bin .Add (.bin .Add (.v 7) (.tup #v[.v 3])) (.v 8)),.set 5 (.bin .Add (.tup #v[.v 9]) (.v 5))],.set 4 (.call "_law_kind_about" #v[.v 6,.v 4])],.ret (.tup #v[.v 2,.v 3,.v 4,.v 5])]}
abbrev Y5:Def:={2,["_law_deck_here","_law_names_here","_law_word_here","_law_wraps","_law_under_here","_law_one","_law_other","_law_through","_law_whole","_law_after","_law_kind_here","_law_place"],#v[.set 2 (.call "_law_word" #v[.v 0]),.unp [3,4] (.call "_law_wrapped" #v[.v 0,.v 1,.call "_law_next" #v[.v 0,.int 5]]),.iff (.and (.cmp .Eq (.v 2) (.str "never")) (.inl (.int 0) (.comp ["_law_name"] [] 1 (.n 0) (.seq (.v 4)) .non (.call "_law_many" #v[.v 0])))) #v[.set 2 (.str "split")] .nil,.unp [5,6,7] (.call "_law_step" #v[.v 0,.v 2,.call "_law_kind" #v[.v 0,.int 1],.v 4]),.unp [8,9,10,11] (.call "_law_about" #v[.v 0,.v 3,.v 5,.v 6,.call "kind_of" #v[.v 5,.v 4]]),.ret (.lst #v[.v 8,.v 9,.v 10,.tup #v[.v 11,.v 2,.v 5,.v 6,.v 7],.v 4])]}
abbrev ai1:Def:={1,["_law_parts","_law_program","_law_one"],#v[.set 1 (.ix (.v 0) (.neg (.int 1))),.for (.n 2) (.rev (.sl (.v 0) .non (.neg (.int 1)))) #v[.set 1 (.tup #v[.str "pair",.v 2,.v 1])],.ret (.v 1)]}
abbrev Y7:Def:={3,["_law_k","_law_many_here","_law_step_here","_law_place"],#v[.set 3 (.bin .Mult (.tup #v[.int 1]) (.v 0)),.iff (.cmp .Lt (.v 0) (.bin .Sub (.v 1) (.int 1))) #v[.set 3 (.bin .Add (.v 3) (.tup #v[.int 0]))] .nil,.ret (.bin .Add (.tup #v[.bin .Add (.v 3) (.ix (.v 2) (.int 0))]) (.sl (.v 2) (.int 1) .non))]}
abbrev E8:Def:={1,["_law_script","_law_deck_here","_law_names_here","_law_many_here","_law_parts","_law_row","_law_now","_law_turn","_law_k","_law_whole","_law_after","_law_kind_here","_law_step_here","_law_under_here","_law_program","_law_handed","_law_back","_law_due","_law_there"],#v[.set 1 (.call "_law_deck" #v[.v 0]),.set 2 (.tuple (.comp ["_law_deck_here","_law_k"] [1] 1 (.n 1) (.rng (.call "_law_next" #v[.v 1,.int 3])) .non (.call "_law_kind" #v[.v 0,.int 1]))),.iff (.cmp .Eq (.call "_law_next" #v[.v 1,.int 4]) (.int 0)) #v[.set 2 (.bin .Add (.slw (.v 2) .non (.int 1)) (.tup #v[.call "_law_void" #v[.v 1]]))] .nil,.iff (.cmp .Eq (.call "_law_next" #v[.v 1,.int 8]) (.int 0)) #v[.set 2 (.bin .Add (.bin .Mult (.tup #v[.tup #v[.str "one"]]) (.bin .Add (.int 3) (.call "_law_next" #v[.v 1,.int 3]))) (.v 2))] .nil,.set 3 (.bin .Add (.int 2) (.call "_law_next" #v[.v 1,.int 2])),.set 4 (.comp ["_law_deck_here","_law_names_here","_law_k"] [1,2] 1 (.n 2) (.rng (.v 3)) .non (.call "_law_placed" #v[.v 0,.v 1])),.set 5 (.lst .nil),.set 6 (.comp ["_law_piece"] [] 1 (.n 0) (.seq (.v 4)) .non (.ix (.v 0) (.int 0))),.for (.n 7) (.rng (.bin .Add (.v 3) (.call "_law_next" #v[.v 1,.int 3]))) #v[.set 8 (.bin .Mod (.bin .Add (.v 7) (.call "_law_next" #v[.v 1,.v 3])) (.v 3)),.unl [9,10,11,12,13] (.ix (.v 4) (.v 8)),.iff (.cmp .Eq (.ix (.v 6) (.v 8)) (.v 9)) #v[.ex (.app (.v 5) (.call "_law_at" #v[.v 8,.v 3,.v 12])),.put (.v 6) (.v 8) (.v 10)] #v[.ex (.app (.v 5) (.call "_law_at" #v[.v 8,.v 3,.tup #v[.ix (.v 12) (.int 0),.ix (.v 12) (.int 1),.ix (.v 12) (.int 3),.ix (.v 12) (.int 2),.ix (.v 12) (.int 4)]])),.put (.v 6) (.v 8) (.v 9)]],.set 14 (.call "_law_joined" #v[.comp ["_law_piece"] [] 1 (.n 0) (.seq (.v 4)) .non (.ix (.v 0) (.int 0))]),.set 15 (.list (.v 5)),.iff (.or (.cmp .NotEq (.call "walked" #v[.v 14,.v 2,.v 15]) (.call "_law_joined" #v[.v 6])) (.cmpl AC (.v 15) (.v 5))) #v[.ret (.bl AF)] .nil,.set 16 (.call "reverse" #v[.v 15]),.set 17 (.comp ["_law_place","_law_word_here","_law_one","_law_other","_law_through"] [] 5 (.tup [0,1,2,3,4]) (.seq (.rsl (.v 5) (.neg (.int 1)))) .non (.tup #v[.v 0,.v 1,.v 3,.v 2,.v 4])),.iff (.or (.not (.isList (.v 16))) (.or (.cmpl AC (.v 16) (.v 17)) (.cmpl AC (.v 15) (.v 5)))) #v[.ret (.bl AF)] .nil,.iff (.or (.cmp .NotEq (.call "walked" #v[.call "_law_joined" #v[.v 6],.v 2,.v 16]) (.v 14)) (.cmp .NotEq (.call "walked" #v[.v 14,.v 2,.lst .nil]) (.v 14))) #v[.ret (.bl AF)] .nil,.for (.n 8) (.rng (.v 3)) #v[.set 18 (.call "names_at" #v[.v 14,.ix (.call "_law_at" #v[.v 8,.v 3,.ix (.ix (.v 4) (.v 8)) (.int 3)]) (.int 0),.v 2]),.iff (.or (.not (.isT "tuple" (.v 18))) (.cmp .NotEq (.v 18) (.ix (.ix (.v 4) (.v 8)) (.int 4)))) #v[.ret (.bl AF)] .nil],.ret (.bl AC)]}
abbrev aa1:List (Str×Def):=[(("Shelf.__init__":Str),ah2),(("Shelf.laid_kind":Str),Y4),(("Shelf.built":Str),am3),(("Shelf.numbered":Str),ah9),(("Shelf.put_by":Str),ak3),(("Shelf.taken_up":Str),ah6),(("Shelf.tuple_at":Str),ah3),(("Shelf.word_at":Str),ai4),(("Shelf.within":Str),al4),(("Node.__init__":Str),ai9),(("made_of_parts":Str),aj1),(("order_of_few":Str),ak5),(("taken":Str),ar1),(("are_alike":Str),ab9),(("inner":Str),ar2),(("with_inner":Str),Y8),(("names_more":Str),am6),(("at_place":Str),ak4),(("replaced":Str),ak9),(("noded":Str),aq6),(("folded":Str),P8),(("kind_of":Str),ao1),(("shelved_names":Str),ai7),(("shelved_kind":Str),ak6),(("kind_of_node":Str),al0),(("kind_by_parts":Str),aj4),(("new_name":Str),an8),(("halves_of":Str),an0),(("kind_of_name":Str),aj8),(("kind_of_star":Str),al2),(("kind_of_pair":Str),ak1),(("kind_of_first":Str),ai6),(("kind_of_second":Str),ah8),(("kind_of_left":Str),ak0),(("kind_of_right":Str),aj3),(("kind_of_case":Str),al3),(("kind_of_way":Str),am1),(("kind_of_give":Str),al5),(("kind_of_let":Str),am2),(("kind_of_never":Str),aj0),(("lifted":Str),ap0),(("put_in":Str),ap4),(("copy_under":Str),am5),(("with_parts":Str),am9),(("inner_under":Str),al9),(("is_step_over":Str),R8),(("forth_let":Str),ai3),(("forth_give":Str),ah5),(("forth_first":Str),ah0),(("forth_second":Str),ag5),(("forth_left":Str),ai0),(("forth_right":Str),ag6),(("forth_star":Str),ah4),(("forth_pair":Str),ah1),(("forth_way":Str),ai2),(("forth_split":Str),ag7),(("split":Str),an1),(("forth_never":Str),ag8),(("names_at":Str),al7),(("known_at":Str),D8),(("walked":Str),am8),(("leads_on":Str),al1),(("reverse":Str),am0),(("_law_deck":Str),L9),(("_law_next":Str),aj9),(("_law_kind":Str),ak2),(("_law_many":Str),ac0),(("_law_plain":Str),U5),(("_law_made":Str),al6),(("_law_taken":Str),aj2),(("_law_term":Str),Y6),(("_law_under":Str),ai5),(("_law_lift":Str),aj7),(("_law_put":Str),al8),(("_law_two":Str),am4),(("_law_void":Str),ak8),(("_law_nothing":Str),ag9),(("_law_spread":Str),ah7),(("_law_step":Str),ak7),(("_law_word":Str),aj6),(("_law_wrapped":Str),U4),(("_law_shell":Str),ai8),(("_law_kind_about":Str),Y3),(("_law_about":Str),aj5),(("_law_placed":Str),Y5),(("_law_joined":Str),ai1),(("_law_at":Str),Y7),(("law":Str),E8)]
abbrev N8:j6:=λf=>aa1.lookup f
abbrev v5:Gs:={λg=>if g="INNER_FROM" then [("name",.int 2),("star",.int 1),("pair",.int 1),("first",.int 1),("second",.int 1),("left",.int 2),("right",.int 2),("case",.int 1),("way",.int 2),("give",.int 1),("let",.int 1),("never",.int 2)]else if g="UNDER_ONE_MORE" then [("case",.ktup [.inl 1,.inl 2]),("way",.ktup [.inl 0]),("let",.ktup [.inl 1])]else if g="BY_WORD" then [("name",.fn "kind_of_name"),("star",.fn "kind_of_star"),("pair",.fn "kind_of_pair"),("first",.fn "kind_of_first"),("second",.fn "kind_of_second"),("left",.fn "kind_of_left"),("right",.fn "kind_of_right"),("case",.fn "kind_of_case"),("way",.fn "kind_of_way"),("give",.fn "kind_of_give"),("let",.fn "kind_of_let"),("never",.fn "kind_of_never")]else if g="FORTH" then [("let",.fn "forth_let"),("give",.fn "forth_give"),("first",.fn "forth_first"),("second",.fn "forth_second"),("left",.fn "forth_left"),("right",.fn "forth_right"),("star",.fn "forth_star"),("pair",.fn "forth_pair"),("way",.fn "forth_way"),("never",.fn "forth_never")]else [],λc=>if c="!kt" then ["n"]else if c="!Shelf.laid_kind" then ["d","d","d","d"]else if c="Shelf" then ["numbers","stored","parts","waiting"]else if c="Node" then ["program","inside","number","holders","ways","used","kind"]else [],λg=>if g="FEW" then AA (.int 2000)else if g="WORDS" then AA (.ktup [.inr "let",.inr "give",.inr "first",.inr "second",.inr "left",.inr "right",.inr "star",.inr "pair",.inr "way",.inr "split",.inr "never"])else AD}
end Ek
namespace Ek
open PySem L2
section
variable{f:Str}{st:BR}{n:Nat}
@[reducible]noncomputable def bo7(K:AO)(cd:AG)(ts:List AI):Prop:=∃c P,cd=.ref c/\CS K c P=AC/\P∈ts
abbrev FnA(K:AO)(ts:List AI)(m:Bool)(f:Str)(st:BR):Prop:=∃(fa:AI)(od an:Option AI)(sl:Array (Option AG))(oc kV dc pm cd ct:AG),
 BB K AN f=AA (AA (.ref fa))/\K.lookup fa=AA {oc,od,.func (DN f f (B1 st) (C5 st) (p9 st) .none kV dc pm an cd ct),sl}/\Db K cd f=AC/\Bv K (.ref fa)=AC/\(m=AC->bo7 K cd ts)
section
variable {K:AO} {ts:List AI} {c m:Str} {fa Ca:AI} {od an:Option AI} {sl:Array (Option AG)} {oc kV dc pm cd ct:AG} {hc hp:AI}
def fnA(d:BB K AN f=AA (AA (.ref fa)))(a:K.lookup fa=AA {oc,od,.func (DN f f (B1 st) (C5 st) (p9 st) .none kV dc pm an cd ct),sl})(c:Db K cd f=AC)(b:Bv K (.ref fa)=AC):FnA K ts AF f st:=
 ⟨_,_,_,_,_,_,_,_,_,_,d,a,c,b,nofun⟩
def fnM(h:BB K AN f=AA (AA (.ref fa)))(a:K.lookup fa=AA {oc,od,.func (DN f f (B1 st) (C5 st) (p9 st) .none kV dc pm an cd ct),sl})(g:Db K cd f=AC)(b:Bv K (.ref fa)=AC)
  (e:aw4 K cd=AA (hc,hp)) (d:CS K hc hp=AC) (c:ts.contains hp=AC):FnA K ts AC f st:=
 {_,_,_,_,_,_,_,_,_,_,h,a,g,b,λ_=>cr1 e d c}
structure ClA(K:AO)(c:Str)(Ca:AI):Prop where
 a:BB K AN c=AA (AA (.ref Ca))
 cl:Cls K Ca
 ms:IR K Ca=AC
 kp:Bv K (.ref Ca)=AC
def clA(h:BB K AN c=AA (AA (.ref Ca)))(g:GQ K Ca Str.empty=AC)(f:HR K Ca=AC)(e:Iz K Ca=AC)(d:Bc K (.ref Ca) "__setattr__"=AA (AA (.builtin "object.__setattr__")))(b:IR K Ca=AC)(a:Bv K (.ref Ca)=AC):ClA K c Ca:={h,⟨g,f,e,d⟩,b,a}
abbrev MtA(K:AO)(ts:List AI)(b:Bool)(c:Str)(Ca:AI)(m:Str)(st:BR):Prop:=∃(fa:AI)(od an:Option AI)(sl:Array (Option AG))(oc kV dc pm cd ct:AG),
 BB K AN (f8 c m)=AA AD/\Meth K Ca m fa/\K.lookup fa=AA {oc,od,.func (DN m (f8 c m) (B1 st) (C5 st) (p9 st) .none kV dc pm an cd ct),sl}/\Db K cd (f8 c m)=AC/\(b=AC->bo7 K cd ts)
def mtA(g:BB K AN (f8 c m)=AA AD)(f:Bc K (.ref Ca) m=AA (AA (.ref fa)))(e:JW K (.ref fa)=AC)(d:Bv K (.ref fa)=AC)
  (a:K.lookup fa=AA {oc,od,.func (DN m (f8 c m) (B1 st) (C5 st) (p9 st) .none kV dc pm an cd ct),sl}) (b:Db K cd (f8 c m)=AC):MtA K ts AF c Ca m st:={_,_,_,_,_,_,_,_,_,_,g,⟨f,e,d⟩,a,b,nofun}
abbrev MtD(K:AO)(c:Str)(Ca:AI)(m:Str)(st:BR)(i:Int):Prop:=∃(fa T:AI)(od an td:Option AI)(sl tsl:Array (Option AG))(oc kV dc pm cd ct tc:AG)(tk:Tok)(n:Nat),
 BB K AN (f8 c m)=AA AD/\Meth K Ca m fa/\K.lookup fa=AA {oc,od,.func (DN m (f8 c m) (B1 st) (C5 st) (p9 st) (.ref T) kV dc pm an cd ct),sl}/\Db K cd (f8 c m)=AC/\K.lookup T=AA {tc,td,.seq #[.int i tk] n,tsl}
def mtD{T:AI}{td:Option AI}{tsl:Array (Option AG)}{tc:AG}{tk:Tok}{i:Int}(a1:BB K AN (f8 c m)=AA AD)(a2:Bc K (.ref Ca) m=AA (AA (.ref fa)))(a3:JW K (.ref fa)=AC)(a4:Bv K (.ref fa)=AC)
  (l1:K.lookup fa=AA {oc,od,.func (DN m (f8 c m) (B1 st) (C5 st) (p9 st) (.ref T) kV dc pm an cd ct),sl}) (c1:Db K cd (f8 c m)=AC) (t1:K.lookup T=AA {tc,td,.seq #[.int i tk] n,tsl}):MtD K c Ca m st i:=
 {_,_,_,_,_,_,_,_,_,_,_,_,_,_,_,_,a1,⟨a2,a3,a4⟩,l1,c1,t1}
end
def bdS{α:Type}{P:List α->Prop}(h:∀a us,us.length=n->P (a::us)):∀us,us.length=n+1->P us:=λus hl=>by
 cases us with
 |nil=>cases hl
 |cons a us=>show h a us (Dm hl)
def bdT{b:Type}{P:List b->Prop}(h:∀a,a.length=n->P a):∀a,a.length+1=n+1->P a:=λa c=>h a (Dm c)
def bdZ{b:Type}{P:List b->Prop}(h:P []):∀a,a.length=0->P a:=λa c=>by
 grind
theorem bi2:∀{a:List Str}{b:List AG}{n},b.length=a.length->n∈a->((a.zip b).lookup n).isNone=AF
 |[],_,_,_,h=>by cases h
 |m::a,[],_,c,_=>by cases c
 |m::a,u::b,n,c,h=>by
  change(match n==m with|true=>AA u|false=>(a.zip b).lookup n).isNone=AF;cases e:n==m with
  |true=>rfl
  |false=>show bi2 (Dm c) ((AM.1 h).resolve_left λz=>by simp_all)
theorem bm4:∀{a:List Str}{b:List AG}{l:List (Str×AG)},b.length=a.length->a.Nodup->(∀n∈a,∀s,(l++s).lookup n=s.lookup n)->a.filterMap (λn=>((l++a.zip b).lookup n).map (n,·))=a.zip b
 |[],_,_,_,_,_=>rfl
 |m::a,[],_,c,_,_=>by cases c
 |m::a,u::b,l,c,d,h=>by
  have g:(l++(m::a).zip (u::b)).lookup m=AA u:=by simp_all
  rw[Cw,g];have:=bm4 (l:=l++[(m,u)]) (Dm c) (BP.1 d).2 λn f s=>by
   rw[Bo,h n (.tail _ f)];change(match n==m with|true=>AA u|false=>s.lookup n)=_;cases e:n==m with
   |true=>simp_all
   |false=>rfl
  rw[Bo]at this;show congrArg _ this
def cr7{A:Co}{x}{b:List BR}{sc}{kV dc pm}{y:Option AI}{cd ct}{d:List AG}
  (m:A.posonlyargs=[]) (o:A.kwonlyargs=[]) (k:A.vararg=AD) (j:A.kwarg=AD) (i:(A.args.map (·.arg)).Nodup) (e:d.length=(A.args.map (·.arg)).length) :
  EA (DN x f A b sc .none kV dc pm y cd ct) {d,[]}=pure ((A.args.map (·.arg)).zip d):=by
 let{B,a,z,D,E,C,G}:=A;dsimp only at m o k j i e ⊢;subst m o k j;have r:((a.map (·.arg)).filter λn=>(((a.map (·.arg)).zip d).lookup n).isNone)=[]:=IA.2 λn s=>by rw[bi2 e s];nofun
 have q:=bm4 (l:=[]) e i λ_ _ _=>rfl;have F:¬(d.length>(a.map (·.arg)).length):=by lia
 have w:¬((AB (d.length>(a.map (·.arg)).length)&&(AD:Option Arg).isNone)=AC):=by simp_all
 have t:Gg (0-(a.map (·.arg)).length) ([]:List AG)=[]:=KH;apply(if_neg w).trans ?_;generalize v:Gg _ ((AD:Option (Array AG)).getD #[]).toList=dl;have h:dl=[]:=v▸t;subst h;have p:(((a.map (·.arg)).take ((a.map (·.arg)).length-0)).filter λn=>(((a.map (·.arg)).zip d).lookup n).isNone)=[]:=by rw[Ll,Ep];show r
 apply(if_neg (c:=(!List.isEmpty (((a.map (·.arg)).take ((a.map (·.arg)).length-0)).filter λn=>(((a.map (·.arg)).zip d).lookup n).isNone))=AC) (by rw[p];nofun)).trans ?_;generalize u:List.zip _ ([]:List AG)=zl;have g:zl=[]:=u▸Im;subst g;show congrArg (pure:_->Sem (List (Str×AG))) ((congrArg (List.filterMap λn=>(((a.map (·.arg)).zip d).lookup n).map (n,·)) (BF _)).trans q)
abbrev stC(st:BR)(d:Def):Bool:=AB (((p9 st).kind=.function/\(p9 st).isCoroutine=AF/\(p9 st).isGenerator=AF/\d.N.Nodup/\(∀x∈d.N.take d.np,(p9 st).names.lookup x=AA .local\/(p9 st).names.lookup x=AA .cell)/\(∀y∈(p9 st).names,y.2≠.free)/\d.np<=d.N.length)/\mB d.body (p9 st) d.N (C5 st)=AC/\(B1 st).args.map (·.arg)=d.N.take d.np/\(B1 st).posonlyargs.isEmpty=AC/\(B1 st).kwonlyargs.isEmpty=AC/\(B1 st).vararg.isNone=AC/\(B1 st).kwarg.isNone=AC)
def bh6{d}{x}(h:stC st d=AC):Stat st d (d.N.take d.np) x f:=by
 let{{q,p,o,k,n,m,u},l,j,e,c,b,a}:=of_decide_eq_true h;have i:(d.N.take d.np).length=d.np:=by rw[By];lia
 apply{{{q,p,o,k,by rw[i],n,m},i,l},λt v s z y w r g=>?_};rw[<-j]at g ⊢;show cr7 (GH.1 e) (GH.1 c) (Cq.1 b) (Cq.1 a) (j▸(GI _ _).nodup k) g
abbrev fnC(U:Str->List Str)(st:BR)(d:Def)(f:Str)(b:Bool):Bool:=stC st d&&(!d.N.contains A6||b)&&(C6 U f).isNone
abbrev mtC(U:Str->List Str)(st:BR)(d:Def)(c m:Str)(b:Bool):Bool:=fnC U st d (f8 c m) b&&(!isM c&&!isM m)
def bm2{U}{d}{b}(h:fnC U st d f b=AC):stC st d=AC/\(d.N.contains A6=AC->b=AC)/\C6 U f=AD:=by
 erw[fnC,BG,KG,Cq]at h;show{h.1.1,λz=>h.1.2.resolve_left (by rw[z];nofun),h.2}
section
variable [Tbs] {K:AO} {mg:Str->Option AG} {h:Heap} {c m:Str} {d:Def} {Ca:AI} {b:Bool} {U:Str->List Str}
def FnA.ok(A:FnA K Tbs.ps b f st)(X:K.In h)(G:h.Ns AN mg)(C:fnC U st d f b=AC:=by decide+kernel):DefOk K mg (C6 U f) f d:=by
 let{q,n,u,l,o,p,r,m,t,s,k,e,j,g,c}:=A;let{S,i,a}:=bm2 C;show ct5 X G (bh6 S) k e j g (λz=>c (i z)) a
def MtA.ok(A:MtA K Tbs.ps b c Ca m st)(C:ClA K c Ca)(X:K.In h)(G:h.Ns AN mg)(W:mtC U st d c m b=AC:=by decide+kernel)(j:f=f8 c m:=by decide+kernel):∃c m,f=f8 c m/\isM c=AF/\isM m=AF/\MthOk K mg (C6 U (f8 c m)) c m d:=by
 let{t,q,x,o,r,s,u,p,w,v,n,M,i,l,g}:=A;subst j;erw[mtC,BG,EM]at W;let{S,k,e}:=bm2 W.1;show{c,m,rfl,W.2.1,W.2.2,c37 X G (bh6 S) n C.a C.cl M (λz=>by subst z;show⟨C.ms,M.at_,M.fn,C.kp⟩) i l (λz=>g (k z)) e}
def MtD.ok{i:Int}{e:List Str}(A:MtD K c Ca m st i)(C:ClA K c Ca)(X:K.In h)(G:h.Ns AN mg)(S:Stat0 st d e)
  (u:∀(T:AI)(k l j:AG)(r:Option AI)(q p:AG)(g:Tok)(s:AL)(o:Obj)(n:Nat),s.heap.get? T=AA o->o.data=.seq #[.int i g] n->(∀b:List AG,b.length=e.length->HA s (DN m (f8 c m) (B1 st) (C5 st) (p9 st) (.ref T) k l j r q p) {b,[]} (e.zip b))/\∀b:List AG,b.length+1=e.length->HA s (DN m (f8 c m) (B1 st) (C5 st) (p9 st) (.ref T) k l j r q p) {b,[]} (e.zip (b++[.int i g])))
  (D:(d.N.contains A6=AF):=by decide+kernel) (t:C6 U (f8 c m)=AA i:=by decide+kernel) (F:isM c=AF:=by decide+kernel) (E:isM m=AF:=by decide+kernel) (y:m≠"__init__":=by decide+kernel) (B:f=f8 c m:=by decide+kernel):∃c m,f=f8 c m/\isM c=AF/\isM m=AF/\MthOk K mg (C6 U (f8 c m)) c m d:=by
 let{R,T,P,r,J,O,v,Q,k,l,j,q,p,L,g,n,I,M,x,H,w}:=A;subst B;show{c,m,rfl,F,E,cg9 X G S (λs o n=>u T k l j r q p g s o n) I C.a C.cl M (λz=>absurd z y) x H w (λz=>by rw[D]at z;cases z) t}
end
def i8{g c:Type}{P:g->c->Prop}{a}{b}{l}(h:P a b)(t:∀f d,(f,d)∈l->P f d):∀f d,(f,d)∈(a,b)::l->P f d:=λf d i=>(AM.1 i).elim λe=>by grind (t f d)
def bp4{b a:Type}{P:b->a->Prop}:∀f d,(f,d)∈[]->P f d:=nofun
end
section
local macro_rules|`(tactic|rfl')=>do
 let l:=("db6 dg3 cr4 cs1 c94 dc2 c93 dm7 de5 dd9 c27 c48 cm0 cx1 cr0 dl5 c55 dg0 dj4 bp0 c92 e_v c58 c79 de6 c85 de3 db1 c08 de4 di7 c62 c63 dj7 dh4 df7 c51 cn5 cf1 ck4 c77 ca8 cg1 cc8 cw9 b61 ci8 cd6 ce7 cs3 ce0 b86 cv1 c60 cd0 cu1 ck2 b38 c84 c95 c23 cq1 di0 cf0 da4 c00 da9 b81 a95 di3 cg0 c19 c91 cp3 c16 cy1 c29 df5 co6 df1 db2 cf5 c76 c64 dg2 dc3 db8 dd1 ce8 c81 c96 c15 cy0 cs0 cf8 c68 c69 c24 c35 cu9 df4 dj2 dk7 dn0 dm1 c54 ay2 da7 cs9 db7 cx2 di9 dl3 dm2 or_false false_or c44 cy7 cy5 cr6 bk8 c14 c32 c99 au8 c83 dd0 dd3 de8 av5 ab1 c49 ck5 dc8 c67 db5 db4 br1 db3 dg8 df2 aw9 dk8 dh3 dk1 dl0 dd6 c45 dc1 c71 cu8 cm6 cc1 cu6 ci4 c09 bl5 c18 bv2 bw3 c87 c07 List.set_cons_zero List.set_cons_succ List.getElem?_cons_zero List.getElem?_cons_succ decide_eq_true_eq not_eq_true' decide_eq_false_iff_not if_true if_false true_and and_true false_eq_true Bool.true_eq_false length_cons length_nil String.reduceEq decide_true decide_false Bool.not_true Bool.not_false".splitOn " ").toArray.map fun n=>Lean.mkIdent n.toName
 `(tactic|try simp only[↓di6,↓dl8,↓dl6,↓dm5,$[$l:ident],*])
set_option hygiene false
local macro_rules | `(tactic| ∎)=>`(tactic| ((try dsimp only);(first | refine dg5 ?_ | rw [cx0]);rfl'))
set_option hygiene true
variable{n m M i u m1:Nat}{P:j6}{G:Gs}{st st':Sto}{Q:DK}{x l y o c:Pg}{L X as:List AI}{dn sh sa pa wa a ca ka la na ba aa da:AI}{ds fr A:List D}{f:Nat->Nat->Option Pg}{h h' w':Int}{b:Kd}{ws ws':List (Kd×Bool)}{Γ ks Δ Γ':List Kd}{kd' nd nm md tt:D}{gs:List Fm}{p0:List Pg}
structure PB0(P:j6):Prop where
 mixed:P "_law_mixed"=AA d_law_mixed
 deck:P "_law_deck"=AA d_law_deck
 next:P "_law_next"=AA d_law_next
 power:P "_law_power"=AA d_law_power
 count:P "_law_count"=AA d_law_count
 kind:P "_law_kind"=AA d_law_kind
structure PB(P:j6):Prop extends PB0 P where
 least:P "_law_least"=AA d_law_least
 made:P "_law_made"=AA d_law_made
 nest:P "_law_nest"=AA d_law_nest
 asked:P "_law_asked"=AA d_law_asked
 grown:P "_law_grown"=AA d_law_grown
 inner:P "_law_inner"=AA d_law_inner
 parts:P "_law_parts"=AA d_law_parts
 program:P "_law_program"=AA d_law_program
 names:P "_law_names"=AA d_law_names
def cb6{ns:List Int}{lo hi:Option Int}:∃a:List Int,A9 (ns.map D.int) lo hi=a.map D.int/\a.length<=ns.length:=by
 apply{(ns.drop (HT.sIx (ns.map D.int).length 0 lo)).take (HT.sIx (ns.map D.int).length (ns.map D.int).length hi-HT.sIx (ns.map D.int).length 0 lo),by unfold A9;rw[Ln,KJ],?_};rw[By,Bz];lia
def B0{a:Int}:(t5 a n).length=n:=by simp[t5]
def an4{b:Type}(l:List b):l=[]\/∃a c,l=a++[c]:=by
 rcases FA l with h|⟨a,c,h⟩
 ·show .inl h
 ·show .inr {a,c,by rw[h,FB]}
abbrev G5(P:j6)(G:Gs)(n:Nat):D->Spec
 |.fn f=>sem P G n f
 |.clo np N b cs=>O8 P G n np N b cs
 |_=>λ_ _ _=>False
abbrev Cok(P:j6):D->Prop
 |.fn f=>(P f).isSome=AC
 |.clo _ _ _ _=>True
 |_=>False
def V0{ta}{x}(h:Cok P x)(q:ta st λb a=>G5 P G n x b a Q):W6 (Zg P G n) ta st Q x:=by
 cases x<;>first|show h.elim|show⟨h,q⟩|show q
section
variable {T:Type} (subs:T->List T)
inductive Ord:List T->List T->Prop where
 |nil:Ord [] []
 |cons {S l:List T} {c:T}:Ord (S++subs c) l->Ord (S++[c]) (c::l)
inductive Rn:List T->List T->T->Prop where
 |done (t:T):Rn [] [t] t
 |step {h r:T} {l S:List T}:Rn l (S++[h]) r->Rn (h::l) (S++subs h) r
def cz2{S l}(h:Ord subs S l):∀{a S0}{r},Rn subs a (S0++S) r->Rn subs (l.reverse++a) S0 r:=by
 induction h with
 |nil=>simp_all
 |@cons S l c _ d=>
  intro a S0 r q;rw[DH,Bo];apply d ?_;rw[<-Bo];apply .step ?_;rwa[Bo]
end
def none_of{p}(K:Kp [] st st')(h:st' p=AD):st p=AD:=by
 cases z:st p with
 |none=>rfl
 |some u=>rw[K.at' z ∎]at h;cases h
def bd2{W:Type}{J:W->Sto->Prop}{p}{s}(K:Kp L st st')(g:∀a∈L,∃o,st a=AA o)(h:st' p=AD)(f:J s st')(c:∀{s st},J s st->∀a∈L,∃o,st a=AA o):st p=AD:=by
 cases z:st p with
 |none=>rfl
 |some u=>
  by_cases d:p∈L
  ·let{o,e}:=c f p d;rw[h]at e;cases e
  ·rw[K.at' z d]at h;cases h
abbrev ae3(st st':Sto)(d:D)(xs:List D):Prop:=d=.tup xs\/∃a,d=.ref a/\st a=AD/\st' a=AA (.lst xs)
theorem ar4{T:Type}(f:T->Nat):∀{l:List T}{c},c∈l->f c<=(l.map f).sum
 |a::l,c,h=>by
  rw[Ar,DP]
  rcases AM.mp h with rfl|h
  ·lia
  ·have:=ar4 f h;lia
theorem as1{T:Type}{b:T->Nat}{c:T->List T}(d:∀t,b t=1+((c t).map b).sum):∀l:List T,l.length<=(l.map b).sum
 |[]=>by simp
 |a::l=>by have:=d a;have:=as1 d l;erw[Ar,DP,AT];lia
def ch8{T}{subs}{size}(a:∀t,size t=1+((subs t).map size).sum){l S}{r:T}(h:Rn subs l S r):(S.map size).sum<=size r:=by
 induction h with
 |done t=>simp
 |@step h r l S _ b=>
  have:=a h;erw[Ad,DC,Ar,Eo,DP,HN]at b ⊢;lia
structure PM(P:j6)(G:Gs):Prop where
 mop:P "made_of_parts"=AA aj1
 few:P "order_of_few"=AA ak5
 taken:P "taken"=AA ar1
 cst:G.cst "FEW"=AA (.int 2000)
section
variable (T0:PM P G) {T:Type} {enc:T->D} {subs:T->List T} {size:T->Nat} {Dj:T->Prop}
include T0
def c21{J:Sto->Prop}(U:∀{H g i},J H->j i=AD->i∉L->Kp [i] H g->J g)(j0:J j)(hJL:∀{j},J j->∀a∈L,∃o,j a=AA o)(M:∀t,size t=1+((subs t).map size).sum)(hg:∀t,Dj t->∀c∈subs t,Dj c){F:D}(hF:Cok P F)(t:T)(hs:size t<=2000)(hgt:Dj t)
  (hp:∀c f Q,Dj c->J f->Kp L j f->(∀d g,ae3 f g d ((subs c).map enc)->J g->Kp L f g->Q d g)->G5 P G n F [enc c] f Q)
  (q:∀a f l,j a=AD->Ord subs [t] l->(∀c∈l,Dj c)->f a=AA (.lst (l.map λc=>.tup [enc c,.int (subs c).length]))->J f->Kp L j f->l.length<=size t->Q (.ref a) f):sem P G (n+1) "order_of_few" [enc t,F] j Q:=by
 have I:∀{p:AI},j p=AD->p∉L:=λ{p}hp z=>by
  let{o,e}:=hJL j0 p z;rw[hp]at e;cases e
 apply g9 T0.few rfl [AA (enc t),AA F,AD,AD,AD,AD] rfl ?_;intro o w;∎;intro h E;have s:o≠h:=n8 c8 E;have k:j h=AD:=by
  cases z:j h with
  |none=>rfl
  |some u=>rw[l8 z w]at E;cases E
 have B:=I w;have v:=I k;apply by8 (λm W f=>∃(i S:List T)(x y:Option D),W=[AA (enc t),AA F,AA (.ref o),AA (.ref h),x,y]/\f o=AA (.lst (i.map λc=>.tup [enc c,.int (subs c).length]))/\f h=AA (.lst (S.map enc))/\(∀l,Ord subs S l->Ord subs [t] (i++l))/\(∀c∈i,Dj c)/\(∀c∈S,Dj c)/\(S.map size).sum=m/\i.length+m=size t/\J f/\Kp L j f) ?_ _ _ _ {[],[t],AD,AD,rfl,l8 c8 E,c8,λl z=>z,∎,by simpa using hgt,rfl,∎,U (U j0 w B (Kp.refl.new w)) k v (Kp.refl.new E),(Kp.refl.new w).new E};rintro m W f _ ⟨i,S,x,y,rfl,h1,h2,h3,gd,gS,h4,h5,Js,K⟩ ih;rw[cm4];rfl';rw[w6 (.inl h2)];rfl'
 rcases an4 S with rfl|⟨S,c,rfl⟩
 ·∎;apply c7 (q o f i w ?_ gd h1 Js K ⋯);have:=h3 [] .nil;simpa using this
 ·rw[if_pos (by erw[Ad,Ar,Eo,Af,AX,AT,Aq];lia)];rw[Ad,Ar,Eo]at h2;erw[Ad,Ar,Eo,DC,DP,HN]at h4;have sc:=M c;have gc:Dj c:=gS c ∎;have A:∀l:List T,l.length<=(l.map size).sum:=λl=>by
   induction l with
   |nil=>simp
   |cons a l ih=>have:=M a;erw[Ar,DP,AT];lia
  have hl3:=A S;have hl4:=A (subs c);∎;rw[X2 h2];have V:b0 f h (.lst (S.map enc)) o=AA (.lst (i.map λc=>.tup [enc c,.int (subs c).length])):=c9 h1 s;∎;apply V0 hF ?_;rfl';have K1:Kp L j (b0 f h (.lst (S.map enc))):=λb u X e=>c9 (K b u X e) (λz=>by rw[z,k]at e;cases e);have J1:J (b0 f h (.lst (S.map enc))):=U Js k v (Kp.refl.put ∎);apply hp c _ _ gc J1 K1 λd g hd Js2 K2=>?_;have o2:=K2.at' V B;have s2:=K2.at' (c8 (st:=f) (a:=h) (o:=.lst (S.map enc))) v;∎;rw[y6 (.inl o2)];have C:∀{R:DK},R (.int (subs c).length) g->U2 d g R:=λ{R}z=>by
   rcases hd with rfl|⟨a,rfl,_,ha⟩
   ·change R _ g;simpa using z
   ·rw[w6 (.inl ha)];simpa using z
  apply{trivial,C ?_};rw[D2 o2];apply{B8 (by erw[AX];lia),?_};∎;have Y:b0 g o (.lst ((i.map λc=>D.tup [enc c,.int (subs c).length])++[.tup [enc c,.int (subs c).length]])) h=AA (.lst (S.map enc)):=c9 s2 s.symm;rw[y6 (.inl Y)];have N:∀{R:DK},R .non (b0 (b0 g o (.lst ((i.map λc=>D.tup [enc c,.int (subs c).length])++[.tup [enc c,.int (subs c).length]]))) h (.lst (S.map enc++(subs c).map enc)))->X9 (.ref h) d (b0 g o (.lst ((i.map λc=>D.tup [enc c,.int (subs c).length])++[.tup [enc c,.int (subs c).length]]))) R:=λ{R}z=>by
   rcases hd with rfl|⟨a,rfl,O,ha⟩
   ·rw[dd4 Y];show{t9 (by erw[AX];lia),z}
   ·have Z:a≠o:=λz=>by rw[z,V]at O;cases O
    rw[bo6 Y (c9 ha Z)];show{t9 (by erw[AX];lia),z}
  apply{trivial,N ?_};∎;rw[w6 (.inl (c9 c8 s))];rfl';apply{.int 2000,T0.cst,?_};rfl';rw[if_neg (by erw[Af,AX,AT,Aq];lia)];rfl';apply ih ((S++subs c).map size).sum _ _ (by erw[Ad,DC];lia) {i++[c],S++subs c,_,_,rfl,?_,?_,?_,?_,?_,rfl,?_,U (U Js2 w B (Kp.refl.put ∎)) k v (Kp.refl.put ∎),?_}
  ·rw[Ad];show c9 c8 s
  ·rw[Ad];show c8
  ·intro l hl;have:=h3 (c::l) (.cons hl);simpa using this
  ·intro z r
   rcases BD.mp r with r|r
   ·show gd z r
   ·simp at r;rw[r];show gc
  ·intro z r
   rcases BD.mp r with r|r
   ·show gS z (by simp[r])
   ·show hg c gc z r
  ·erw[Af,AT,Aq,Ad,DC];lia
  ·intro b u X e;have eh:b≠h:=λz=>by rw[z,k]at e;cases e
   have eo:b≠o:=λz=>by rw[z,w]at e;cases e
   show c9 (c9 (K2.at' (K1 b u X e) X) eo) eh
def cb5{j:List D}(w:j.length=m)(p:st dn=AA (.lst (ds++j)))(A:j.length<=2000)
  (q:∀a f,st a=AD->a≠dn->f a=AA (.lst j)->f dn=AA (.lst ds)->Kp [dn] st f->Q (.ref a) f):sem P G (n+1) "taken" [.ref dn,.int m] st Q:=by
 subst w;apply g9 T0.taken rfl [AA (.ref dn),AA (.int j.length),AD,AD] rfl ?_;intro o s;have k:dn≠o:=n8 p s;∎;apply{{⋯,⋯},?_};apply B2 (λl r f=>∃(g h:List D)(x:Option D),j=g++h/\l.length=g.length/\(∀d∈l,∃i,d=.int i)/\r=[AA (.ref dn),AA (.int j.length),AA (.ref o),x]/\f dn=AA (.lst (ds++g))/\f o=AA (.lst h.reverse)/\Kp [dn] st f) ?_ ?_ _ _ _ ⟨j,[],AD,∎,by simp[t5],λd p=>by simp[t5]at p;let{i,_,rfl}:=p;show⟨_,rfl⟩,rfl,by rw[l8 p s],c8,Kp.refl.new s⟩
 ·rintro r f ⟨g,h,x,e,hl,_,rfl,h1,h2,K⟩;have:g=[]:=by simpa using hl.symm
  subst this;subst e;∎;rw[dc7 h2];∎;apply c7 (q o _ s (λz=>k z.symm) ?_ (c9 (by simpa using h1) k) λb u t e=>c9 (K b u t e) (λz=>by rw[z,s]at e;cases e));rw[c8,FM]
 ·rintro d0 dl r f ih ⟨g,h,x,e,hl,hi,rfl,h1,h2,K⟩;rcases an4 g with rfl|⟨g,c,rfl⟩
  ·simp at hl
  rfl';∎;rw[y6 (.inl h2),X2 (by rw[h1,Bo]:f dn=AA (.lst ((ds++g)++[c])))];have v:b0 f dn (.lst (ds++g)) o=AA (.lst h.reverse):=c9 h2 k.symm;rw[D2 v];have y:h.length<=j.length:=by rw[e];simp;lia
  apply{trivial,B8 (by rw[GC];lia),?_};rfl';apply ih _ _ {g,c::h,_,by rw[e];simp,by simp at hl ⊢;lia,λd p=>hi d (by simp[p]),rfl,c9 c8 k,by rw[c8,DH],λb u t e=>c9 (c9 (K b u t e) (λz=>t (by simp[z]))) (λz=>by rw[z,s]at e;cases e)}
abbrev KpN(L:List AI)(st st':Sto):Prop:=∀b o,b∉L->(∀c fs,o≠.ins c fs)->st b=AA o->st' b=AA o
def bg3{J:Sto->Prop}{L:List AI}(hJ:∀{s g i},J s->k i=AD->i∉L->Kp [i] s g->J g)(j0:J k)(U:∀{k},J k->∀a∈L,∃o,k a=AA o)(A:∀t,size t=1+((subs t).map size).sum)(hg:∀t,Dj t->∀c∈subs t,Dj c){F M:D}(hF:Cok P F)(hM:Cok P M)(t:T)(hs:size t<=2000)(hgt:Dj t){Y:AI->List T->List D->Sto->Prop}(hYL:∀{i S m s},Y i S m s->∀a∈L,∃o,s a=AA o)
  (hY0:∀i f,k i=AD->J f->Kp L k f->Y i [] [] f) (hYk:∀{i S m s g},k i=AD->Y i S m s->Kp [i] s g->Y i S m g)
  (Z:∀c f Q,Dj c->J f->Kp L k f->(∀d g,ae3 f g d ((subs c).map enc)->J g->Kp L f g->Q d g)->G5 P G n F [enc c] f Q)
  (hm:∀c i x f Q S m B,Dj c->Kp L k f->k i=AD->x∉L->x≠i->k x=AD->f x=AA (.lst B)->B.length=(subs c).length->m.length=S.length->Y i (S++subs c) (m++B) f->f i=AA (.lst m)->(S.map size).sum+size c<=size t->(∀d g,Y i (S++[c]) (m++[d]) g->KpN L f g->Kp L k g->Q d g)->G5 P G (n+1) M [enc c,.ref x] f Q)
  (q:∀i d f,k i=AD->Y i [t] [d] f->Kp L k f->Q d f):sem P G (n+2) "made_of_parts" [enc t,F,M] k Q:=by
 apply g9 T0.mop rfl [AA (enc t),AA F,AA M,AD,AD,AD,AD] rfl ?_;∎;apply{by rw[T0.few];rfl,c21 T0 (Dj:=λc=>Dj c/\size c<=2000) (J:=J) (L:=L) hJ j0 U A (λc a b d=>{hg c a.1 b d,Ap (ar4 size d) (by have:=A c;lia)}) hF t hs ⟨hgt,hs⟩ (λc f Q a=>Z c f Q a.1) λH s l hoa0 hord gl N Js1 K1 h=>?_};have hL:=U j0;∎;apply .inr {nofun,?_};intro i w;have hod:H≠i:=n8 N w;have j:k i=AD:=by
  cases e:k i with
  |none=>rfl
  |some u=>
   by_cases z:i∈L
   ·let{o,e}:=U Js1 i z;rw[w]at e;cases e
   ·rw[K1.at' e z]at w;cases w
 have hdL:i∉L:=λz=>by let{o,e}:=hL i z;rw[j]at e;cases e
 have hoL:H∉L:=λz=>by let{o,e}:=hL H z;rw[hoa0]at e;cases e
 ∎;apply{_,.inl (l8 N w),?_};rw[<-Jj];have kdn:∀(u:Ob)(g:Sto),Kp L k g->Kp L k (b0 g i u):=λu g K b o a e=>c9 (K b o a e) (λz=>by rw[z,j]at e;cases e);apply B2 (λll V f=>∃(y S:List T)(m:List D)(x5 x6:Option D),ll=y.map (λc=>D.tup [enc c,.int (subs c).length])/\(∀c∈y,Dj c/\size c<=2000)/\Rn subs y S t/\V=[AA (enc t),AA F,AA M,AA (.ref H),AA (.ref i),x5,x6]/\f i=AA (.lst m)/\m.length=S.length/\S.length+y.length<=100000/\Y i S m f/\f H=AA (.lst (l.map λc=>.tup [enc c,.int (subs c).length]))/\Kp L k f) ?_ ?_ _ _ _ {l.reverse,[],[],AD,AD,rfl,λc a=>gl c (by simpa using a),by simpa using cz2 subs hord (.done t) (S0:=[]) ,rfl,c8,rfl,by simp;lia,hY0 i _ j (hJ Js1 j hdL (Kp.refl.new w)) (K1.new w),l8 N w,(K1.new w).more ∎}
 ·rintro V f ⟨y,S,m,x5,x6,el,_,W,rfl,hd,hl',_,hv,hoa',K⟩;have es:y=[]:=by simpa using el.symm
  subst es;apply{.inl hoa',?_};cases W;obtain⟨d,rfl⟩:∃d,m=[d]:=by match m,hl' with|[d],_=>show⟨d,rfl⟩
  ∎;rw[o0 (.inl hd)];show{d,rfl,c7 (q i d f j hv K)}
 ·rintro d0 dl V f ih ⟨y,S,m,x5,x6,el,hin,W,rfl,hd,hl',hb,hv,hoa',K⟩;apply{.inl hoa',?_};cases y with
  |nil=>simp at el
  |cons h y=>
   erw[Ar,As]at el;let{rfl,rfl}:=el;erw[AT]at hb;have gh:Dj h:=(hin h ∎).1;cases W with
   |@step _ _ _ S W=>
   erw[Af]at hl' hb;obtain⟨m,B,rfl,hlS,hlx⟩:∃ds' B,m=ds'++B/\ds'.length=S.length/\B.length=(subs h).length:={m.take S.length,m.drop S.length,(FC _ _).symm,by rw[By];lia,by rw[Bz];lia};have hss:(subs h).length<=2000:=by
    have h1:=(hin h ∎).2;have h2:=A h;have h3:=as1 A (subs h);lia
   have I:∀x g,x∉L->x≠i->k x=AD->g x=AA (.lst B)->g i=AA (.lst m)->Kp [i] f g->G5 P G (n+1) M [enc h,.ref x] g λd X=>X6 (.ref i) d X λ_ a=>u5 (λf=>rdS f H (l.map λc=>.tup [enc c,.int (subs c).length])) (.tup [5,6]) (i9 (Zg P G (n+1)) (.cons (.ex (.app (.v 4) (.callv 2 (.cons (.v 5) (.cons (.ite (.cmp .Gt (.v 6) (.int 0)) (.call "taken" (.cons (.v 4) (.cons (.v 6) .nil))) (.lst .nil)) .nil))))) .nil)) {i9 (Zg P G (n+1)) (.cons (.ret (.ix (.v 4) (.int 0))) .nil) (j9 Q),(j9 Q).rt,(j9 Q).bk,(j9 Q).ct} (y.map λc=>D.tup [enc c,.int (subs c).length]) [AA (enc t),AA F,AA M,AA (.ref H),AA (.ref i),AA (enc h),AA (.int (subs h).length)] a:=λx g r O hl0 R E K2=>by
    have KK:Kp L k g:=λb u a e=>K2.at' (K b u a e) (by simp;show λz=>by rw[z,j]at e;cases e);apply hm h i x g _ S m B gh KK j r O hl0 R hlx hlS (hYk j hv K2) E (by have:=ch8 A W;simpa using this) λd X vd N3 K3=>?_;have hd3:=N3 i _ hdL (λ_ _ z=>by cases z) E;rw[D2 hd3];apply{B8 ⋯,?_};show ih _ _ {y,S++[h],m++[d],_,_,rfl,λc a=>hin c (by simp[a]),W,rfl,c8,by simp[hlS],by simp;lia,hYk j vd (Kp.refl.put ∎),c9 (N3 H _ hoL (λ_ _ z=>by cases z) (K2.at' hoa' (by simpa using hod))) hod,kdn _ _ K3}
   have C:∀{p:AI},f p=AD->p∉L/\k p=AD:=λ{p}Z=>by
    by_cases z:p∈L
    ·let{o,e}:=hYL hv p z;rw[Z]at e;cases e
    ·apply{z,?_};cases e:k p with
     |none=>rfl
     |some u=>rw[K.at' e z]at Z;cases Z
   rfl';∎;rw[y6 (.inl hd)];apply{trivial,V0 hM ?_};rfl'
   by_cases h0:(subs h).length=0
   ·rw[if_neg ⋯];intro x r;have exs:B=[]:=Bh ⋯;subst exs;show I x _ (C r).1 (n8 hd r).symm (C r).2 c8 (l8 (by simpa using hd) r) (Kp.refl.new r)
   ·rw[if_pos ⋯];apply{by rw[T0.taken];rfl,?_};show cb5 T0 hlx hd ⋯ λx g r O R E a=>I x g (C r).1 O (C r).2 R E a
def cg7{W:Type}{J:W->Sto->Prop}{le:W->W->Prop}{L:List AI}(lr:∀s,le s s)(lt:∀{s t u},le s t->le t u->le s u)(hJ:∀{s st f j},J s st->j∉L->Kp [j] st f->J s f)(w:∀t,size t=1+((subs t).map size).sum)(hg:∀t,Dj t->∀c∈subs t,Dj c){F M:D}(hF:Cok P F)(hM:Cok P M)(t:T)(hs:size t<=2000)(X:Dj t){V:AI->W->T->D->Sto->Prop}(hV:∀{j s l k d st f},V j s k d st->le s l->Kp (j::L) st f->V j l k d f)
  {s0:W} {μ:W->Nat} {B:Nat} (hB:μ s0+size t<=B) (j0:J s0 st) (A:∀{s st},J s st->∀a∈L,∃o,st a=AA o)
  (hp:∀c f Q s,Dj c->μ s+1<=B->J s f->Kp L st f->(∀d l g,ae3 f g d ((subs c).map enc)->le s l->μ l<=μ s->J l g->Kp L f g->Q d g)->G5 P G n F [enc c] f Q)
  (hm:∀c j r f Q I s,Dj c->μ s+1<=B->J s f->Kp L st f->st j=AD->r∉L->r≠j->st r=AD->f r=AA (.lst I)->I.length=(subs c).length->(∀(i:Nat)N d,(subs c)[i]?=AA N->I[i]?=AA d->V j s N d f)->(∃R,f j=AA (.lst R))->(∀d l g,V j l c d g->le s l->μ l<=μ s+1->J l g->Kp L f g->Q d g)->G5 P G (n+1) M [enc c,.ref r] f Q)
  (q:∀j d l f,st j=AD->V j l t d f->le s0 l->μ l<=B->J l f->Kp L st f->Q d f):sem P G (n+2) "made_of_parts" [enc t,F,M] st Q:=by
 apply bg3 T0 (J:=λf=>∃s,J s f/\le s0 s/\μ s<=μ s0) (L:=L) (λ⟨s,E,C⟩_ a b=>{s,hJ E a b,C}) {s0,j0,lr s0,AR _} (λ⟨s,h,_⟩=>A h) w hg hF hM t hs X (Y:=λj S I f=>∃s,J s f/\le s0 s/\μ s<=μ s0+(S.map size).sum/\j∉L/\∀(i:Nat)c d,S[i]?=AA c->I[i]?=AA d->V j s c d f) (λ⟨s,h,_⟩=>A h)
  (λj f h⟨s,a,b,c⟩_=>{s,a,b,c,(λz=>by let{o,e}:=A j0 j z;rw[h]at e;cases e),nofun}) (λ_⟨s,a,b,c,d,e⟩K=>{s,hJ a d K,b,c,d,λi x y E C=>hV (e i x y E C) (lr s) (K.more ∎)})
  (λc f Q h⟨s,a,b,e⟩K k=>hp c f Q s h (by have:=w t;lia) a K λd l g E C a Z=>k d g E {l,Z,lt b C,⋯})
  (λc j r f Q S I R gc K h0 E C h3 Z h5 h6 hY h7 l k=>?_) λj d f c⟨s,a,b,e,_,v⟩K=>q j d s f c (v 0 t d rfl rfl) b (by simp at e;lia) a K
 let{s,a,b,e,dL,v}:=hY;have sc:=w c;rw[Ad,DC]at e;apply hm c j r f Q R s gc ⋯ a K h0 E C h3 Z h5 (λi N d p H=>v (S.length+i) N d (by rw[Ai ⋯,IB];show p) (by rw[Ai ⋯,h6,IB];show H)) ⟨_,h7⟩ λd l g vd O c f K2=>k d g {l,f,lt b O,by erw[Ad,Ar,Eo,DC,DP,HN];lia,dL,λi N d' p H=>?_} (λb o nb _ e=>K2 b o nb e) (K.trans K2)
 by_cases hi:i<S.length
 ·rw[AZ hi]at p;rw[AZ ⋯]at H;show hV (v i N d' (by rw[AZ hi];show p) (by rw[AZ ⋯];show H)) O (K2.more (by intro x hx;simp[hx]))
 ·rw[Ai ⋯]at p;rw[Ai ⋯]at H;have U:i-S.length=0:=by
   have:=(AS.mp p).1;simp at this;lia
  rw[U]at p;rw[show i-I.length=0 by lia]at H;cases p;cases H;show vd
end
abbrev Kd.size:Kd->Nat
 |.non=>1|.one=>1
 |.eith a b=>1+a.size+b.size
 |.both a b=>1+a.size+b.size
 |.way a b=>1+a.size+b.size
def b33(k:Kd):k.size+1<=2^(k.nest+1):=by
 have e:∀a b:Kd,a.size+1<=2^(a.nest+1)->b.size+1<=2^(b.nest+1)->1+a.size+b.size+1<=2^(1+max a.nest b.nest+1):=λa b m l=>by
  have o:2^(a.nest+1)<=2^(max a.nest b.nest+1):=DI ∅ ⋯;have n:2^(b.nest+1)<=2^(max a.nest b.nest+1):=DI ∅ ⋯;lia
 induction k with
 |non=>decide
 |one=>decide
 |eith a b d c=>show e a b d c
 |both a b d c=>show e a b d c
 |way a b d c=>show e a b d c
structure PT0(P:j6)(G:Gs):Prop extends PM P G where
 bu:P "built_up"=AA d_built_up
mutual
noncomputable def D.lit:D->Bool
 |.int _=>AC
 |.str x=>CQ (.str x)
 |.tup ds=>D.lits ds
 |_=>AF
noncomputable def D.lits:List D->Bool
 |[]=>AC
 |d::r=>d.lit&&D.lits r
end
mutual
theorem Z0:∀d:D,d.lit=AC->d.pure=AC
 |.int _,_=>rfl
 |.str _,h=>h
 |.tup ds,h=>by rw[P7];show a07 ds h
 |.non,h=>nomatch h
 |.bl _,h=>nomatch h
 |.ref _,h=>nomatch h
 |.fn _,h=>nomatch h
theorem a07:∀ds:List D,D.lits ds=AC->D.pures ds=AC
 |[],_=>rfl
 |d::r,h=>by
  have h':d.lit=AC/\D.lits r=AC:=by simpa[D.lits]using h
  rw[E9,Z0 d h'.1,a07 r h'.2];rfl
end
mutual
theorem ad1:∀x y:D,x.lit=AC->y.lit=AC->(deq x y=AC↔x=y)
 |.int i,y,hx,hy=>by
  cases y<;>first|(simp[D.lit]at hy;done)|skip
  ·rw[Z6];simp
  ·constructor
   ·intro h;simp[deq,D.py,Au]at h
   ·intro h;cases h
  ·constructor
   ·intro h;simp[deq,D.py,Au]at h
   ·intro h;cases h
 |.str x,y,hx,hy=>by
  cases y<;>first|(simp[D.lit]at hy;done)|skip
  ·constructor
   ·intro h;simp[deq,D.py,Au]at h
   ·intro h;cases h
  ·rw[O0];simp
  ·constructor
   ·intro h;simp[deq,D.py,Au]at h
   ·intro h;cases h
 |.tup xs,y,hx,hy=>by
  cases y<;>first|(simp[D.lit]at hy;done)|skip
  ·constructor
   ·intro h;simp[deq,D.py,Au]at h
   ·intro h;cases h
  ·constructor
   ·intro h;simp[deq,D.py,Au]at h
   ·intro h;cases h
  ·rename_i ys;rw[V2,bc3 xs ys hx hy];simp
 |.non,y,hx,hy=>nomatch hx
 |.bl _,y,hx,hy=>nomatch hx
 |.ref _,y,hx,hy=>nomatch hx
 |.fn _,y,hx,hy=>nomatch hx
theorem bc3:∀xs ys:List D,D.lits xs=AC->D.lits ys=AC->(F8 xs ys=AC↔xs=ys)
 |[],[],_,_=>by simp[F8]
 |[],y::ys,_,_=>by simp[F8]
 |x::xs,[],_,_=>by simp[F8]
 |x::xs,y::ys,hx,hy=>by
  have h1:x.lit=AC/\D.lits xs=AC:=by simpa[D.lits]using hx
  have h2:y.lit=AC/\D.lits ys=AC:=by simpa[D.lits]using hy
  rw[F8,BG,ad1 x y h1.1 h2.1,bc3 xs ys h1.2 h2.2,As]
end
def b88{x y:D}(hx:x.lit=AC)(hy:y.lit=AC)(h:x≠y):deq x y=AF:=by
 cases e:deq x y with
 |false=>rfl
 |true=>show absurd ((ad1 x y hx hy).mp e) h
def Z3{x}(a:x.lit=AC):deq x x=AC:=(ad1 x x a a).mpr rfl
def Z2:D.lits ds=AC↔∀d∈ds,d.lit=AC:=by
 induction ds with
 |nil=>simp[D.lits]
 |cons d r c=>simp[D.lits,c]
def bt8(s:String):(D.str (Ac s)).lit=AC:=u6 s
def ar5:(D.tup ds).lit=D.lits ds:=rfl
def ac5{d:D}{r:List D}:D.lits (d::r)=(d.lit&&D.lits r):=rfl
def b73:D.lits []=AC:=rfl
theorem ao3{g:Type}:∀{l:List g},l.Nodup->∀(i j:Nat)(x:g),l[i]?=AA x->l[j]?=AA x->i=j
 |[],_,i,j,x,h,_=>by simp at h
 |a::l,k,i,j,x,f,e=>by
  have d:=BP.mp k;cases i with
  |zero=>
   cases j with
   |zero=>rfl
   |succ j=>
    simp at f;subst f;show absurd (BE (by simpa using e)) d.1
  |succ i=>
   cases j with
   |zero=>
    simp at e;subst e;show absurd (BE (by simpa using f)) d.1
   |succ j=>rw[ao3 d.2 i j x (by simpa using f) (by simpa using e)]
structure PSh(P:j6)(G:Gs):Prop extends PM P G where
 init:P (f8 "Shelf" "__init__")=AA ah2
 numb:P (f8 "Shelf" "numbered")=AA ah9
 tup:P (f8 "Shelf" "tuple_at")=AA ah3
 word:P (f8 "Shelf" "word_at")=AA ai4
 wthn:P (f8 "Shelf" "within")=AA al4
 cls:G.cls "Shelf"=[("numbers":Str),("stored":Str),("parts":Str),("waiting":Str)]
 kt:G.cls "!kt"≠[]
abbrev E2(ns:List Nat):D:=.tup (ns.map λ(n:Nat)=>D.int (n:Int))
structure It3 where
 fr:List D
 ns:List Nat
 t:D
variable{e:It3}{S':List It3}
abbrev It3.key(e:It3):D:=.tup [.tup e.fr,E2 e.ns]
structure Wf(S:List It3):Prop where
 wh:∀(i:Nat)(e:It3),S[i]?=AA e->(∀d∈e.fr,∃s:String,d=.str s)/\∃inn,e.t=.tup (e.fr++inn)/\inn.length=e.ns.length/\∀(j n:Nat),e.ns[j]?=AA n->n<i/\∃e',S[n]?=AA e'/\inn[j]?=AA e'.t
 nd:(S.map It3.key).Nodup
structure ShA(sh dn sa pa wa:AI)(S:List It3)(st:Sto):Prop where
 ins:st sh=AA (.ins "Shelf" [(("numbers":Str),D.ref dn),(("stored":Str),D.ref sa),(("parts":Str),D.ref pa),(("waiting":Str),D.ref wa)])
 num:st dn=AA (.dtt (S.mapIdx λi e=>(e.key.py,.int i)))
 sto:st sa=AA (.lst (S.map It3.t))
 par:st pa=AA (.lst (S.map λe=>E2 e.ns))
 wai:∃o,st wa=AA o
 wf:Wf S
 ml:S.length<=10000000
 fl:∀e∈S,e.fr.length<=10/\e.ns.length<=1000
def bi3{a inn inn'}(j:∀d∈fr,∃s:String,d=.str s)(i:∀d∈a,∃s:String,d=.str s)(n:∀d∈inn,∃l,d=.tup l)(m:∀d∈inn',∃l,d=.tup l)(h:fr++inn=a++inn'):fr=a/\inn=inn':=by
 induction fr generalizing a with
 |nil=>
  cases a with
  |nil=>show⟨rfl,h⟩
  |cons x a=>
   let{s,rfl}:=i x ∎;rw[CW,Br]at h;let{l,e}:=n (.str s) (by rw[h];simp);cases e
 |cons x fr k=>
  cases a with
  |nil=>
   let{s,rfl}:=j x ∎;rw[CW]at h;let{l,e}:=m (.str s) (by rw[<-h];simp);cases e
  |cons y a=>
   rw[Br,Br,As]at h;let{rfl,h}:=h;let{rfl,rfl}:=k (λd g=>j d (by simp[g])) (λd g=>i d (by simp[g])) h;show⟨rfl,rfl⟩
theorem Wf.inn{S}(w:Wf S)(h:S[i]?=AA e):∃inn,e.t=.tup (e.fr++inn)/\inn.length=e.ns.length/\(∀d∈inn,∃l,d=.tup l)/\∀(j n:Nat),e.ns[j]?=AA n->n<i/\∃a,S[n]?=AA a/\inn[j]?=AA a.t:=by
 let{_,inn,r,p,o}:=w.wh i e h;apply{inn,r,p,λd q=>?_,o};let{j,k}:=CM.mp q;have b:j<e.ns.length:=(p▸(AS.mp k).1)
 let{_,a,c,m}:=o j _ (AH b);rw[k]at m;let{_,g,f,_}:=w.wh _ a c;cases m;show⟨_,f⟩
def Wf.inj{S:List It3}(w:Wf S):∀(m:Nat){i j:Nat}{e a:It3},i<=m->S[i]?=AA e->S[j]?=AA a->e.t=a.t->i=j:=by
 intro m
 induction m using HP with
 |ind m z=>
 intro i j e a A o n u;let{g,E,v,D,C}:=w.inn o;let{b,s,d,r,q}:=w.inn n;rw[E,s]at u;have h:e.fr++g=a.fr++b:=by injection u
 let{J,I}:=bi3 (w.wh i e o).1 (w.wh j a n).1 D r h;subst I;have G:e.ns=a.ns:=by
  apply EN λk=>?_
  by_cases l:k<e.ns.length
  ·have c:k<a.ns.length:=by rw[<-d,v];show l
   let{L,f,B,F}:=C k _ (AH l);let{K,M,p,x}:=q k _ (AH c);rw[F]at x;have:=z e.ns[k] ⋯ (AR _) B p (by injection x);rw[AH l,AH c,this]
  ·rw[Be ⋯,Be (by rw[<-d,v];lia)]
 have H:e.key=a.key:=by unfold It3.key;rw[J,G]
 show ao3 w.nd i j e.key (by rw[AY,o];rfl) (by rw[AY,n,H];rfl)
mutual
theorem ae1:∀d:D,d.lit=AC->NK.lit d.py=AC
 |.int _,_=>rfl
 |.str _,h=>h
 |.tup ds,h=>bg5 ds h
 |.non,h=>nomatch h
 |.bl _,h=>nomatch h
 |.ref _,h=>nomatch h
 |.fn _,h=>nomatch h
theorem bg5:∀ds:List D,D.lits ds=AC->NK.lits (D.pys ds)=AC
 |[],_=>rfl
 |d::r,h=>by
  have h':d.lit=AC/\D.lits r=AC:=by simpa[D.lits]using h
  change(NK.lit d.py&&NK.lits (D.pys r))=AC;rw[ae1 d h'.1,bg5 r h'.2];rfl
end
def bk9{x y:D}(hx)hy(h:x.py=y.py):=by
 apply(ad1 x y hx hy).mp ?_;unfold deq;rw[h];show(NK.eqv_lit _ _ (ae1 y hy) (ae1 y hy)).mpr rfl
def bf6(h:∀d∈e.fr,∃s:String,d=.str s):e.key.lit=AC:=by
 have c:=Z2.mpr λd a=>by let{s,rfl}:=h d a;show bt8 s
 have b:(E2 e.ns).lit=AC:=Z2.mpr λd a=>by
  let{n,_,rfl}:=CO.mp a;rfl
 change D.lits [.tup e.fr,E2 e.ns]=AC;rw[ac5,ac5,ar5,c,b];rfl
def cr8(h:∀d∈e.fr,∃s:String,d=.str s):o9 e.key<=2:=by
 unfold It3.key;have k:t0 e.fr<=0:=by
  generalize e.fr=l at h
  induction l with
  |nil=>show AR _
  |cons d l f=>
   let{s,rfl}:=h d ∎;have:=f λd g=>h d (by simp[g]);change max (o9 (.str s)) (t0 l)<=0;rw[w8];lia
 have i:∀b:List Nat,t0 (b.map λ(n:Nat)=>D.int (n:Int))<=0:=λb=>by
  induction b with
  |nil=>show AR _
  |cons n b f=>
   change max (o9 (.int n)) (t0 _)<=0;rw[T2];lia
 have j:=i e.ns;change max (o9 (.tup e.fr)) (max (o9 (E2 e.ns)) 0)+1<=2;unfold E2;rw[A0,A0];lia
theorem bb2:∀(S:List It3)(k:D)o,(∀e∈S,e.key.py≠k.py)->F0 (S.mapIdx λi e=>(e.key.py,D.int ((o+i:Nat)))) k.py=AD
 |[],k,o,_=>rfl
 |e::S,k,o,h=>by
  have:=bb2 S k (o+1) λb a=>h b (by simp[a]);rw[Jk];unfold F0 at this ⊢;rw[CD,decide_eq_false (h e ∎)];simpa[ER,LX 1]using this
theorem ba8:∀(S:List It3)(k:D)(o i:Nat)(e:It3),S[i]?=AA e->e.key.py=k.py->(∀j a,j<i->S[j]?=AA a->a.key.py≠k.py)->F0 (S.mapIdx λi e=>(e.key.py,D.int ((o+i:Nat):Int))) k.py=AA (.int ((o+i:Nat):Int))
 |[],k,o,i,e,h,_,_=>by simp at h
 |x::S,k,o,0,e,h,b,_=>by
  simp at h;subst h;rw[Jk];unfold F0;rw[CD,decide_eq_true b];rfl
 |x::S,k,o,i+1,e,h,b,d=>by
  have:=ba8 S k (o+1) i e (by simpa using h) b λj a f c=>d (j+1) a ⋯ (by simpa using c);rw[Jk];unfold F0 at this ⊢;rw[CD,decide_eq_false (d 0 x ⋯ rfl)];simpa[ER,LX 1]using this
def b41:∀{a b},E2 a=E2 b->a=b:=by
 intro a b h;injection h with h
 induction a generalizing b with
 |nil=>simp_all
 |cons x a e=>cases b with
  |nil=>simp at h
  |cons y b=>
   grind
def cw4{S:List It3}{a:List Nat}{x y:List D}(l:x.length=a.length)(k:y.length=a.length)(g:∀(j n:Nat),a[j]?=AA n->∃e,S[n]?=AA e/\x[j]?=AA e.t)(f:∀(j n:Nat),a[j]?=AA n->∃e,S[n]?=AA e/\y[j]?=AA e.t):x=y:=by
 apply EN λj=>?_
 by_cases c:j<a.length
 ·let{e,d,i}:=g j _ (AH c);let{m,b,h}:=f j _ (AH c);rw[d]at b;cases b;rw[i,h]
 ·simp_all
section
variable (T:PSh P G)
include T
def bu9{S:List It3}(A:ShA sh dn sa pa wa S st)(hd:[sh,dn,sa,pa].Nodup){inn:List D}{C:List Nat}(V:∀d∈fr,∃s:String,d=.str s)(I:inn.length=C.length)(O:∀(j n:Nat),C[j]?=AA n->∃e,S[n]?=AA e/\inn[j]?=AA e.t)(b1:fr.length<=10)(b2:C.length<=1000)(b3:S.length<10000000)
  (q:∀m S' h,ShA sh dn sa pa wa S' h->S <+: S'->S'.length<=S.length+1->S'[m]?=AA {fr,C,.tup (fr++inn)}->Kp [dn,sa,pa] st h->Q (.int (m:Nat)) h):sem P G (n+1) (f8 "Shelf" "numbered") [.ref sh,.tup fr,E2 C] st Q:=by
 obtain⟨E,N⟩:∃E:It3,E=⟨fr,C,.tup (fr++inn)⟩:=⟨_,rfl⟩;have hk:E.key=.tup [.tup fr,E2 C]:=by rw[N];rfl
 have U:=bf6 (e:=E) (by rw[N];show V);have hdE:=cr8 (e:=E) (by rw[N];show V);have L:D.key (.tup [.tup fr,E2 C]):=by
  rw[<-hk];show{ae1 _ U,Ap hdE ∅}
 have hlS:∀e∈S,e.key.lit=AC:=λe w=>by
  let{i,r}:=CM.mp w;show bf6 (A.wf.wh i e r).1
 have M:(S.mapIdx λi e=>(e.key.py,D.int i))=S.mapIdx λi e=>(e.key.py,D.int ((0+i:Nat):Int)):=by
  congr 1;funext i e;rw[Ky]
 apply g9 T.numb rfl [AA (.ref sh),AA (.tup fr),AA (E2 C),AD,AD] rfl ?_;(iterate 2 ∎);apply{sh,"Shelf",_,.ref dn,rfl,A.ins,by change _∈G.cls "Shelf";rw[T.cls];simp,rfl,⟨_,A.num⟩,_,A.num,L,?_};rw[<-hk]
 by_cases hex:∃(i:Nat)(e:It3),S[i]?=AA e/\e.key=E.key
 ·let{i,e,r,w}:=hex;have hl:F0 (S.mapIdx λi e=>(e.key.py,D.int i)) E.key.py=AA (.int i):=by
   rw[M,ba8 S E.key 0 i e r (by rw[w]) λj W Z k z=>?_,Ky];have hz:=bk9 (hlS W (BE k)) U z;have:=ao3 A.wf.nd j i E.key (by rw[AY,k];show congrArg AA hz) (by rw[AY,r];show congrArg AA w);lia
  rw[hl];∎;apply .inr {nofun,?_};∎;apply c7 (q i S st A (DD S) ⋯ ?_ Kp.refl);rw[r];have K:e.key=.tup [.tup fr,E2 C]:=by rw[w,hk]
  injection K with K
  erw[As,and_true]at K;let{k1,k2}:=K;injection k1 with k1
  have k3:e.ns=C:=b41 k2;let{H,h1,h2,_,h4}:=A.wf.inn r;have:H=inn:=cw4 h2 (by rw[k3];show I) (λj n Z=>(h4 j n Z).2) (by rw[k3];show O);let{a,b,c}:=e;simp only at k1 k3 h1;subst k1;subst k3;subst this;rw[h1]
 ·have R:∀e∈S,e.key.py≠E.key.py:=λe w z=>hex (by
   let{i,r}:=CM.mp w;show{i,e,r,bk9 (hlS e w) U z})
  have hl:F0 (S.mapIdx λi e=>(e.key.py,D.int i)) E.key.py=AD:=by rw[M];show bb2 S E.key 0 R
  rw[hl];∎;apply .inl {rfl,?_};rfl';∎;have hc:∀f∈[("numbers":Str),("stored":Str),("parts":Str),("waiting":Str)],f∈G.cls "Shelf":=λf hf=>by rw[T.cls];show hf
  apply{sh,"Shelf",_,.ref sa,rfl,A.ins,hc _ ∎,rfl,?_};rw[w6 (.inl A.sto),AX];∎;apply{sh,"Shelf",_,.ref dn,rfl,A.ins,hc _ ∎,rfl,?_};rw[hk];apply{_,A.num,L,B8 (by rw[Gi];lia),?_};rw[<-hk];erw[BP,AM,Ah,or_false,not_or]at hd;let{{d1,d2,d3},{d4,d5},d6,_}:=hd;have hput:X5 (S.mapIdx λi e=>(e.key.py,D.int i)) E.key.py (.int S.length)=(S++[E]).mapIdx λi e=>(e.key.py,D.int i):=by
   unfold X5;rw[if_neg,Ip]
   ·simp
   ·rw[Bool.not_eq_true,Gy];intro x hx;rw[List.mem_mapIdx]at hx;let{i,r,rfl}:=hx;simpa using R _ (DE r)
  rw[hput];have a1:∀u,b0 st dn u sh=AA (.ins "Shelf" [(("numbers":Str),D.ref dn),(("stored":Str),D.ref sa),(("parts":Str),D.ref pa),(("waiting":Str),D.ref wa)]):=λu=>c9 A.ins d1;∎;have n1:=c9 (u:=.dtt ((S++[E]).mapIdx λi e=>(e.key.py,D.int i))) A.sto (λz=>d4 z.symm);have n2:=c9 (u:=.dtt ((S++[E]).mapIdx λi e=>(e.key.py,D.int i))) A.par (λz=>d5 z.symm);have n0:b0 st dn (.dtt ((S++[E]).mapIdx λi e=>(e.key.py,D.int i))) dn=_:=c8;have a0:=a1 (.dtt ((S++[E]).mapIdx λi e=>(e.key.py,D.int i)));have nw:∃o,b0 st dn (.dtt ((S++[E]).mapIdx λi e=>(e.key.py,D.int i))) wa=AA o:=by
   by_cases z:wa=dn
   ·show{_,by rw[z];show c8}
   ·let{o,e}:=A.wai;show{o,c9 e z}
  have K0:Kp [dn,sa,pa] st (b0 st dn (.dtt ((S++[E]).mapIdx λi e=>(e.key.py,D.int i)))):=Kp.refl.put ∎;revert n1 n2 n0 a0 nw K0;generalize b0 st dn (.dtt ((S++[E]).mapIdx λi e=>(e.key.py,D.int i)))=st1;intro n1 n2 n0 a0 nw K0;apply{sh,"Shelf",_,.ref sa,rfl,a0,hc _ ∎,rfl,by rw[y6 (.inl n1)];trivial,.inl {_,rfl,by erw[AX];lia,?_}};apply G1 (λl X J h=>h=st1/\∃(B v:List Nat)(x:Option D),C=B++v/\l=v.map (λ(n:Nat)=>D.int (n:Int))/\X=inn.take B.length/\J=[AA (.ref sh),x]) ?_ ?_ _ _ _ _ {rfl,[],C,AD,rfl,rfl,∎,rfl}
  ·rintro X J h ⟨rfl,B,v,x,e,el,rfl,rfl⟩;have:v=[]:=by simpa using el.symm
   subst this;rw[BF]at e;subst e;rw[<-I,Ep];apply{trivial,λp Y=>{t9 ⋯,?_}};have g1:=l8 (u:=.lst inn) n1 Y;rw[D2 g1];apply{B8 (by rw[AX];lia),?_};have g2:=c9 (u:=.lst (S.map It3.t++[.tup (fr++inn)])) (l8 (u:=.lst inn) n2 Y) (λz=>d6 z.symm);have g3:=c9 (u:=.lst (S.map It3.t++[.tup (fr++inn)])) (l8 (u:=.lst inn) n0 Y) d4;have g4:=c9 (u:=.lst (S.map It3.t++[.tup (fr++inn)])) (l8 (u:=.lst inn) a0 Y) d2;have g5:b0 (b0 h p (.lst inn)) sa (.lst (S.map It3.t++[.tup (fr++inn)])) sa=_:=c8;have gw:∃o,b0 (b0 h p (.lst inn)) sa (.lst (S.map It3.t++[.tup (fr++inn)])) wa=AA o:=by
    by_cases z:wa=sa
    ·show{_,by rw[z];show c8}
    ·let{o,e}:=nw;show{o,c9 (l8 e Y) z}
   have K1:Kp [dn,sa,pa] st (b0 (b0 h p (.lst inn)) sa (.lst (S.map It3.t++[.tup (fr++inn)]))):=(K0.new Y).put ∎;revert g2 g3 g4 g5 gw K1;generalize b0 (b0 h p (.lst inn)) sa (.lst (S.map It3.t++[.tup (fr++inn)]))=st2;intro g2 g3 g4 g5 gw K1;∎;apply{sh,"Shelf",_,.ref pa,rfl,g4,hc _ ∎,rfl,by rw[y6 (.inl g2)];trivial,?_};rw[D2 g2];apply{B8 (by rw[AX];lia),?_};rfl';∎;apply c7 (q S.length (S++[E]) _ {c9 g4 d3,c9 g3 d5,?_,?_,?_,{λi e r=>?_,?_},by simp;lia,λe w=>?_} (List.prefix_append S [E]) ∎ (by rw[Ai (AR _),Kz,N];rfl) (K1.put ∎))
   ·rw[Ad,N];show c9 g5 d6
   ·rw[c8,Ad,N];rfl
   ·by_cases z:wa=pa
    ·show{_,by rw[z];show c8}
    ·let{o,e}:=gw;show{o,c9 e z}
   ·by_cases hil:i<S.length
    ·rw[AZ hil]at r;let{h1,H,h2,h3,h4}:=A.wf.wh i e r;apply{h1,H,h2,h3,λj n Z=>?_};let{l1,W,k,g}:=h4 j n Z;show{l1,W,by rw[AZ ⋯];show k,g}
    ·rw[Ai ⋯]at r;have hi0:i-S.length=0:=by have:=(AS.mp r).1;simp at this;lia
     rw[hi0]at r;simp at r;subst r;rw[N];apply{V,inn,rfl,I,λj n Z=>?_};let{W,k,g}:=O j n Z;have:=(AS.mp k).1;show{⋯,W,by rw[AZ this];show k,g}
   ·rw[Ad,EO];apply{A.wf.nd,∎,λx hx y hy z=>?_};simp at hy;subst hy;let{e,w,rfl}:=CO.mp hx;show R e w (by rw[z])
   ·rcases BD.mp w with w|w
    ·show A.fl e w
    ·rw[Ao]at w;subst w;rw[N];show⟨b1,b2⟩
  ·rintro d ds X J h ih ⟨rfl,B,v,x,e,el,rfl,rfl⟩;apply{trivial,?_};cases v with
   |nil=>simp at el
   |cons m v=>
    erw[Ar,As]at el;let{rfl,rfl}:=el;let{W,k,g}:=O B.length m (by rw[e];simp);rfl';apply{sh,"Shelf",_,.ref sa,rfl,a0,hc _ ∎,rfl,?_};rw[o0 (.inl n1)];apply{W.t,by rw[u0,AY,k];rfl,ih _ _ _ {rfl,B++[m],v,_,by rw[e];simp,rfl,?_,rfl}};rw[Af,AT,Aq,GO,g];rfl
end
section
variable (T:PSh P G)
include T
omit T in
theorem ShA.keepL{S:List It3}(A:ShA sh dn sa pa wa S st)(K:Kp L st st')(h:∀x∈L,x∉[sh,dn,sa,pa,wa]):ShA sh dn sa pa wa S st':=
 {K.at' A.ins (λz=>h _ z ∎),K.at' A.num (λz=>h _ z ∎),K.at' A.sto (λz=>h _ z ∎),K.at' A.par (λz=>h _ z ∎),(by let{o,e}:=A.wai;show{o,K.at' e (λz=>h _ z ∎)}),A.wf,A.ml,A.fl}
end
abbrev Has(S:List It3)(t:D):Prop:=∃(m:Nat)(e:It3),S[m]?=AA e/\e.t=t
open Classical in
abbrev nb(S:List It3)(t:D):Nat:=if h:Has S t then Classical.choose h else 0
def W3{S}{t}(h:Has S t):∃e,S[nb S t]?=AA e/\e.t=t:=by
 unfold nb;rw[dif_pos h];show Classical.choose_spec h
def au2{S}(w:Wf S){t}(h:S[m]?=AA e)(a:e.t=t):nb S t=m:=by
 let{d,c,b}:=W3 ⟨m,e,h,a⟩;show w.inj _ (AR _) c h (b.trans a.symm)
def Has.mono{S}{t}(h:Has S t)(b:S <+: S'):Has S' t:=by
 let{m,e,a,c}:=h;let{r,rfl}:=b;show{m,e,AZ (AS.mp a).1▸a,c}
def bm3{S:List It3}(w:Wf S){inn:List D}(h:Has S (.tup (fr++inn)))(q:∀d∈fr,∃s:String,d=.str s)(p:∀d∈inn,∃l,d=.tup l):(∀d∈inn,Has S d)/\∃e,S[nb S (.tup (fr++inn))]?=AA e/\e.ns=inn.map (nb S):=by
 let{e,i,v}:=W3 h;let{b,x,u,r,m}:=w.inn i;have n:e.fr++b=fr++inn:=by simp_all
 let{_,rfl}:=bi3 (w.wh _ e i).1 q r p n;apply{λd o=>?_,e,i,?_}
 ·let{j,c}:=CM.mp o;have g:j<e.ns.length:=by rw[<-u];show(AS.mp c).1
  let{_,k,a,f}:=m j _ (AH g);rw[c]at f;cases f;show⟨_,k,a,rfl⟩
 ·apply EN λj=>?_
  by_cases c:j<e.ns.length
  ·let{_,k,a,f}:=m j _ (AH c);rw[AH c,AY,f];change AA _=AA (nb S k.t);rw[au2 w a rfl]
  ·simp_all
def az1{w:String}:∀d∈([.str w]:List D),∃s:String,d=.str s:=λd a=>by simp at a;subst a;show⟨w,rfl⟩
def cu5:∀k:Kd,∃l,k.d=.tup l
 |.non=>⟨_,rfl⟩
 |.one=>⟨_,rfl⟩
 |.eith _ _=>⟨_,rfl⟩
 |.both _ _=>⟨_,rfl⟩
 |.way _ _=>⟨_,rfl⟩
section
variable (T:PSh P G)
include T
def b00{S}(A:ShA sh dn sa pa wa S st){inn}(h:Has S (.tup (fr++inn)))(f:∀d∈fr,∃s:String,d=.str s)(c:∀d∈inn,∃l,d=.tup l)(q:Q (E2 (inn.map (nb S))) st):sem P G (n+1) (f8 "Shelf" "within") [.ref sh,.int (nb S (.tup (fr++inn)))] st Q:=by
 let{_,e,b,a}:=bm3 A.wf h f c;apply g9 T.wthn rfl [AA (.ref sh),AA (.int (nb S (.tup (fr++inn))))] rfl ?_;∎;apply{sh,"Shelf",_,.ref pa,rfl,A.ins,by rw[T.cls];simp,rfl,?_};rw[o0 (.inl A.par)];apply{E2 e.ns,by rw[u0,AY,b];rfl,c7 ?_};rwa[a]
def ap7{S}(A:ShA sh dn sa pa wa S st){t}(h:Has S t)(q:Q t st):sem P G (n+1) (f8 "Shelf" "tuple_at") [.ref sh,.int (nb S t)] st Q:=by
 let{e,b,a}:=W3 h;apply g9 T.tup rfl [AA (.ref sh),AA (.int (nb S t))] rfl ?_;∎;apply{sh,"Shelf",_,.ref sa,rfl,A.ins,by rw[T.cls];simp,rfl,?_};rw[o0 (.inl A.sto)];show{t,by rw[u0,AY,b,<-a];rfl,c7 q}
def bj6{S}(A:ShA sh dn sa pa wa S st){d}{r}(h:Has S (.tup (d::r)))(q:Q d st):sem P G (n+1) (f8 "Shelf" "word_at") [.ref sh,.int (nb S (.tup (d::r)))] st Q:=by
 let{e,b,a}:=W3 h;apply g9 T.word rfl [AA (.ref sh),AA (.int (nb S (.tup (d::r))))] rfl ?_;∎;apply{sh,"Shelf",_,.ref sa,rfl,A.ins,by rw[T.cls];simp,rfl,?_};rw[o0 (.inl A.sto)];apply{.tup (d::r),by rw[u0,AY,b,<-a];rfl,?_};rfl';show c7 q
def ba5(O:st sh=AD)(q:∀c g h p k,ShA sh c g h p [] k->[sh,c,g,h].Nodup->(∀a∈[sh,c,g,h,p],st a=AD)->p∉[c,g,h]->p≠sh->k p=AA (.lst [])->Kp [] st k->Q .non k):sem P G (n+1) (f8 "Shelf" "__init__") [.ref sh] (b0 st sh (.ins "Shelf" [])) Q:=by
 apply g9 T.init rfl [AA (.ref sh)] rfl ?_;have v:∀f∈([("numbers":Str),("stored":Str),("parts":Str),("waiting":Str)]:List Str),f∈G.cls "Shelf":=λf Y=>by rw[T.cls];show Y
 ∎;apply{T.kt,λc m=>{sh,"Shelf",[],rfl,l8 c8 m,v _ ∎,∅,?_}};have r:sh≠c:=n8 c8 m;have Z:st c=AD:=by rw[J4 r.symm]at m;show m
 have s:∀{k:Sto}{u:Ob},Kp [] st k->Kp [] st (b0 k sh u):=λK b o U e=>c9 (K b o U e) (n8 e O);have F:b0 (b0 (b0 st sh (.ins "Shelf" [])) c (.dtt [])) sh (.ins "Shelf" (o8 "numbers" (.ref c) [])) sh=AA (.ins "Shelf" [(("numbers":Str),D.ref c)]):=by rw[c8];rfl
 have E:b0 (b0 (b0 st sh (.ins "Shelf" [])) c (.dtt [])) sh (.ins "Shelf" (o8 "numbers" (.ref c) [])) c=AA (.dtt []):=c9 c8 r.symm;have J:Kp [] st (b0 (b0 (b0 st sh (.ins "Shelf" [])) c (.dtt [])) sh (.ins "Shelf" (o8 "numbers" (.ref c) []))):=s ((s Kp.refl).new m);revert F E J;generalize b0 (b0 (b0 st sh (.ins "Shelf" [])) c (.dtt [])) sh (.ins "Shelf" (o8 "numbers" (.ref c) []))=s1;intro F E J;∎;apply λg l=>{sh,"Shelf",_,rfl,l8 F l,v _ ∎,∎,?_};have t:sh≠g:=n8 F l;have X:c≠g:=n8 E l;have C:b0 (b0 s1 g (.lst [])) sh (.ins "Shelf" (o8 "stored" (.ref g) [(("numbers":Str),D.ref c)])) sh=AA (.ins "Shelf" [(("numbers":Str),D.ref c),(("stored":Str),D.ref g)]):=by rw[c8];simp[o8,A5]
 have B:b0 (b0 s1 g (.lst [])) sh (.ins "Shelf" (o8 "stored" (.ref g) [(("numbers":Str),D.ref c)])) c=AA (.dtt []):=c9 (l8 E l) r.symm;have A:b0 (b0 s1 g (.lst [])) sh (.ins "Shelf" (o8 "stored" (.ref g) [(("numbers":Str),D.ref c)])) g=AA (.lst []):=c9 c8 t.symm;have I:Kp [] st (b0 (b0 s1 g (.lst [])) sh (.ins "Shelf" (o8 "stored" (.ref g) [(("numbers":Str),D.ref c)]))):=s (J.new l);have R:st g=AD:=none_of J l;revert C B A I;generalize b0 (b0 s1 g (.lst [])) sh (.ins "Shelf" (o8 "stored" (.ref g) [(("numbers":Str),D.ref c)]))=s2;intro C B A I;∎;apply λh j=>{sh,"Shelf",_,rfl,l8 C j,v _ ∎,∎,?_};have M:sh≠h:=n8 C j;have W:c≠h:=n8 B j;have V:g≠h:=n8 A j;have z:b0 (b0 s2 h (.lst [])) sh (.ins "Shelf" (o8 "parts" (.ref h) [(("numbers":Str),D.ref c),(("stored":Str),D.ref g)])) sh=AA (.ins "Shelf" [(("numbers":Str),D.ref c),(("stored":Str),D.ref g),(("parts":Str),D.ref h)]):=by rw[c8];simp[o8,A5]
 have y:b0 (b0 s2 h (.lst [])) sh (.ins "Shelf" (o8 "parts" (.ref h) [(("numbers":Str),D.ref c),(("stored":Str),D.ref g)])) c=AA (.dtt []):=c9 (l8 B j) r.symm;have x:b0 (b0 s2 h (.lst [])) sh (.ins "Shelf" (o8 "parts" (.ref h) [(("numbers":Str),D.ref c),(("stored":Str),D.ref g)])) g=AA (.lst []):=c9 (l8 A j) t.symm;have w:b0 (b0 s2 h (.lst [])) sh (.ins "Shelf" (o8 "parts" (.ref h) [(("numbers":Str),D.ref c),(("stored":Str),D.ref g)])) h=AA (.lst []):=c9 c8 M.symm;have H:Kp [] st (b0 (b0 s2 h (.lst [])) sh (.ins "Shelf" (o8 "parts" (.ref h) [(("numbers":Str),D.ref c),(("stored":Str),D.ref g)]))):=s (I.new j);have S:st h=AD:=none_of I j;revert z y x w H;generalize b0 (b0 s2 h (.lst [])) sh (.ins "Shelf" (o8 "parts" (.ref h) [(("numbers":Str),D.ref c),(("stored":Str),D.ref g)]))=s3;intro z y x w H;∎;apply λp i=>{sh,"Shelf",_,rfl,l8 z i,v _ ∎,∎,?_};have L:sh≠p:=n8 z i;apply bh1 (q c g h p _ {by rw[c8];simp[o8,A5],c9 (l8 y i) r.symm,c9 (l8 x i) t.symm,c9 (l8 w i) M.symm,{_,c9 c8 L.symm},{∎,∎},∎,∎} ?_ ?_ ?_ L.symm (c9 c8 L.symm) (s (H.new i)))
 ·simp[r,t,M,X,W,V]
 ·intro a N;erw[AM,Ah,or_false]at N
  rcases N with rfl|rfl|rfl|rfl|rfl
  ·show O
  ·show Z
  ·show R
  ·show S
  ·show none_of H i
 ·erw[AM,Ah,or_false,not_or];show{(n8 y i).symm,(n8 x i).symm,(n8 w i).symm}
end
abbrev Pg.oc:Nat->Pg->Nat
 |i,.name n=>if n=i then 1 else 0
 |_,.star=>0
 |i,.pair t u=>t.oc i+u.oc i
 |i,.first t=>t.oc i
 |i,.second t=>t.oc i
 |i,.left _ t=>t.oc i
 |i,.right _ t=>t.oc i
 |i,.case t u v=>t.oc i+u.oc (i+1)+v.oc (i+1)
 |i,.way _ t=>t.oc (i+1)
 |i,.give t u=>t.oc i+u.oc i
 |i,.lets t u=>t.oc i+u.oc (i+1)
 |i,.never _ t=>t.oc i
abbrev Pg.withKids:Pg->List Pg->Pg
 |.pair a b,l=>match l with|[t,u]=>.pair t u|_=>.pair a b
 |.first a,l=>match l with|[t]=>.first t|_=>.first a
 |.second a,l=>match l with|[t]=>.second t|_=>.second a
 |.left b a,l=>match l with|[t]=>.left b t|_=>.left b a
 |.right b a,l=>match l with|[t]=>.right b t|_=>.right b a
 |.case a b c,l=>match l with|[t,u,v]=>.case t u v|_=>.case a b c
 |.way b a,l=>match l with|[t]=>.way b t|_=>.way b a
 |.give a b,l=>match l with|[t,u]=>.give t u|_=>.give a b
 |.lets a b,l=>match l with|[t,u]=>.lets t u|_=>.lets a b
 |.never b a,l=>match l with|[t]=>.never b t|_=>.never b a
 |.name n,_=>.name n
 |.star,_=>.star
def Pg.with_cases{motive:Pg->List Pg->Prop}(w:∀n,motive (.name n) [])(s:motive .star [])(r:∀a b t u,motive (.pair a b) [t,u])(q:∀a t,motive (.first a) [t])(o:∀a t,motive (.second a) [t])
  (m:∀k a t,motive (.left k a) [t]) (j:∀k a t,motive (.right k a) [t]) (i:∀a b c t u v,motive (.case a b c) [t,u,v]) (g:∀k a t,motive (.way k a) [t]) (f:∀a b t u,motive (.give a b) [t,u]) (e:∀a b t u,motive (.lets a b) [t,u]) (d:∀k a t,motive (.never k a) [t]) :
  ∀(p:Pg)(l:List Pg),l.length=p.kids.length->motive p l:=by
 intro p l h;cases p<;>erw[Pg.kids,AT,Aq]at h
 case name=>simp_all
 case star=>simp_all
 case pair=>
  obtain⟨a,b,rfl⟩:∃a b,l=[a,b]:=by match l,h with|[a,b],_=>show⟨a,b,rfl⟩
  show r _ _ _ _
 case give=>
  obtain⟨a,b,rfl⟩:∃a b,l=[a,b]:=by match l,h with|[a,b],_=>show⟨a,b,rfl⟩
  show f _ _ _ _
 case lets=>
  obtain⟨a,b,rfl⟩:∃a b,l=[a,b]:=by match l,h with|[a,b],_=>show⟨a,b,rfl⟩
  show e _ _ _ _
 case case=>
  obtain⟨a,b,c,rfl⟩:∃a b c,l=[a,b,c]:=by match l,h with|[a,b,c],_=>show⟨a,b,c,rfl⟩
  show i _ _ _ _ _ _
 case first=>
  obtain⟨a,rfl⟩:∃a,l=[a]:=by match l,h with|[a],_=>show⟨a,rfl⟩
  show q _ _
 case second=>
  obtain⟨a,rfl⟩:∃a,l=[a]:=by match l,h with|[a],_=>show⟨a,rfl⟩
  show o _ _
 case left=>
  obtain⟨a,rfl⟩:∃a,l=[a]:=by match l,h with|[a],_=>show⟨a,rfl⟩
  show m _ _ _
 case right=>
  obtain⟨a,rfl⟩:∃a,l=[a]:=by match l,h with|[a],_=>show⟨a,rfl⟩
  show j _ _ _
 case way=>
  obtain⟨a,rfl⟩:∃a,l=[a]:=by match l,h with|[a],_=>show⟨a,rfl⟩
  show g _ _ _
 case never=>
  obtain⟨a,rfl⟩:∃a,l=[a]:=by match l,h with|[a],_=>show⟨a,rfl⟩
  show d _ _ _
abbrev c46:List (Str×D):=[("name",.int 2),("star",.int 1),("pair",.int 1),("first",.int 1),("second",.int 1),("left",.int 2),("right",.int 2),("case",.int 1),("way",.int 2),("give",.int 1),("let",.int 1),("never",.int 2)]
def cd3{lo hi}:(A9 ds lo hi).length<=ds.length:=by
 unfold A9;rw[By,Bz];lia
abbrev dd8:List (Str×D):=[("case",.ktup [.inl 1,.inl 2]),("way",.ktup [.inl 0]),("let",.ktup [.inl 1])]
abbrev Pg.mp(f:Nat->Nat->Option Pg):Nat->Pg->Pg
 |u,.name n=>(f n u).getD (.name n)
 |_,.star=>.star
 |u,.pair t v=>.pair (t.mp f u) (v.mp f u)
 |u,.first t=>.first (t.mp f u)
 |u,.second t=>.second (t.mp f u)
 |u,.left b t=>.left b (t.mp f u)
 |u,.right b t=>.right b (t.mp f u)
 |u,.case t v w=>.case (t.mp f u) (v.mp f (u+1)) (w.mp f (u+1))
 |u,.way b t=>.way b (t.mp f (u+1))
 |u,.give t v=>.give (t.mp f u) (v.mp f u)
 |u,.lets t v=>.lets (t.mp f u) (v.mp f (u+1))
 |u,.never b t=>.never b (t.mp f u)
abbrev Pg.chd(f:Nat->Nat->Option Pg):Nat->Pg->Bool
 |u,.name n=>(f n u).isSome
 |_,.star=>AF
 |u,.pair t v=>t.chd f u||v.chd f u
 |u,.first t=>t.chd f u
 |u,.second t=>t.chd f u
 |u,.left _ t=>t.chd f u
 |u,.right _ t=>t.chd f u
 |u,.case t v w=>t.chd f u||(v.chd f (u+1)||w.chd f (u+1))
 |u,.way _ t=>t.chd f (u+1)
 |u,.give t v=>t.chd f u||v.chd f u
 |u,.lets t v=>t.chd f u||v.chd f (u+1)
 |u,.never _ t=>t.chd f u
def Pg.mp_same(p:Pg):∀{u},p.chd f u=AF->p.mp f u=p:=by
 induction p with
 |name n=>intro u h;erw[Pg.chd]at h;erw[Pg.mp];cases e:f n u with|none=>rfl|some r=>simp_all
 |star=>intro u _;rfl
 |pair t v a c=>intro u h;erw[Pg.chd,Fe]at h;erw[Pg.mp,a h.1,c h.2]
 |give t v a c=>intro u h;erw[Pg.chd,Fe]at h;erw[Pg.mp,a h.1,c h.2]
 |lets t v a c=>intro u h;erw[Pg.chd,Fe]at h;erw[Pg.mp,a h.1,c h.2]
 |case t v w a c i=>intro u h;erw[Pg.chd,Fe]at h;erw[Pg.mp,a h.1,c h.2.1,i h.2.2]
 |first t a=>intro u h;erw[Pg.mp,a h]
 |second t a=>intro u h;erw[Pg.mp,a h]
 |left b t a=>intro u h;erw[Pg.mp,a h]
 |right b t a=>intro u h;erw[Pg.mp,a h]
 |way b t a=>intro u h;erw[Pg.mp,a h]
 |never b t a=>intro u h;erw[Pg.mp,a h]
abbrev Pg.more:Pg->Nat->Nat
 |.case _ _ _,i=>if i=1\/i=2 then 1 else 0
 |.way _ _,i=>if i=0 then 1 else 0
 |.lets _ _,i=>if i=1 then 1 else 0
 |_,_=>0
abbrev Pg.kidsU(u:Nat)(p:Pg):List (Pg×Nat):=p.kids.mapIdx λi c=>(c,u+p.more i)
def Pg.mp_kids{p:Pg}(h:p.kids≠[]):p.mp f u=p.withKids ((p.kidsU u).map λc=>c.1.mp f c.2):=by
 cases p<;>first|rfl|show absurd rfl h
def Pg.chd_kids{p:Pg}(h:p.kids≠[]):p.chd f u=((p.kidsU u).map λc=>c.1.chd f c.2).any id:=by
 cases p<;>first|show absurd rfl h|(simp[Pg.chd,Pg.kidsU,Pg.kids,Pg.more,EQ,Dk])
def Pg.parts_U(p:Pg)u:p.parts=1+((p.kidsU u).map λc=>c.1.parts).sum:=by
 cases p<;>simp[Pg.parts,Pg.kidsU,Pg.kids,Pg.more,Dk]<;>lia
def Pg.hgt_U(p:Pg)u:∀c∈p.kidsU u,c.2+c.1.hgt<=u+p.hgt:=by
 cases p<;>simp[Pg.hgt,Pg.kidsU,Pg.kids,Pg.more,Dk]<;>lia
def Pg.mp_hgt(s:∀n u r,f n u=AA r->r.hgt<=m)(y:1<=m)(p:Pg):∀{u:Nat},(p.mp f u).hgt+1<=p.hgt+m:=by
 induction p with
 |name n=>intro u;erw[Pg.mp,Pg.hgt];cases e:f n u with|none=>erw[KL,Pg.hgt];lia|some r=>have:=s n u r e;erw[KL];lia
 |star=>intro u;erw[Pg.mp,Pg.hgt];lia
 |pair t v a c=>intro u;have:=@a u;have:=@c u;erw[Pg.mp,Pg.hgt];lia
 |give t v a c=>intro u;have:=@a u;have:=@c u;erw[Pg.mp,Pg.hgt];lia
 |lets t v a c=>intro u;have:=@a u;have:=@c (u+1);erw[Pg.mp,Pg.hgt];lia
 |case t v w a c h=>intro u;have:=@a u;have:=@c (u+1);have:=@h (u+1);erw[Pg.mp,Pg.hgt];lia
 |first t a=>intro u;have:=@a u;erw[Pg.mp,Pg.hgt];lia
 |second t a=>intro u;have:=@a u;erw[Pg.mp,Pg.hgt];lia
 |left b t a=>intro u;have:=@a u;erw[Pg.mp,Pg.hgt];lia
 |right b t a=>intro u;have:=@a u;erw[Pg.mp,Pg.hgt];lia
 |way b t a=>intro u;have:=@a (u+1);erw[Pg.mp,Pg.hgt];lia
 |never b t a=>intro u;have:=@a u;erw[Pg.mp,Pg.hgt];lia
def Pg.mp_kn(x:∀n u r,f n u=AA r->r.kn m)(p:Pg):∀{u},p.kn m->(p.mp f u).kn m:=by
 induction p with
 |name n=>intro u _;erw[Pg.mp];cases e:f n u with|none=>trivial|some r=>show x n u r e
 |star=>intro u h;show h
 |pair t v a c=>show λh=>{a h.1,c h.2}
 |give t v a c=>show λh=>{a h.1,c h.2}
 |lets t v a c=>show λh=>{a h.1,c h.2}
 |case t v w a c i=>show λh=>{a h.1,c h.2.1,i h.2.2}
 |first t a=>show a
 |second t a=>show a
 |left b t a=>show λh=>{h.1,a h.2}
 |right b t a=>show λh=>{h.1,a h.2}
 |way b t a=>show λh=>{h.1,a h.2}
 |never b t a=>show λh=>{h.1,a h.2}
abbrev lfF(m l n u:Nat):Option Pg:=if u+l<=n then AA (.name (n+m))else AD
abbrev Pg.lf(m l:Nat)(p:Pg):Pg:=p.mp (lfF m l) 0
abbrev sbF(o:Pg)(n u:Nat):Option Pg:=if n<u then AD else if n=u then AA (o.lf u 0)else AA (.name (n-1))
abbrev Pg.sb(p o:Pg):Pg:=p.mp (sbF o) 0
def aa5{m l}{p:Pg}:(p.lf m l).hgt<=p.hgt:=by
 have:=Pg.mp_hgt (f:=lfF m l) (λn u r h=>by unfold lfF at h;split at h<;>cases h;show AR _) (AR _) p (u:=0);unfold Pg.lf;lia
def av7{l k}{p:Pg}(h:p.kn k):(p.lf m l).kn k:=Pg.mp_kn λn u r h=>by unfold lfF at h;split at h<;>cases h;trivial p h
def bn8{p:Pg}:(p.sb o).hgt<=p.hgt+o.hgt:=by
 have a:∀q:Pg,1<=q.hgt:=λq=>by cases q<;>erw[Pg.hgt]<;>lia
 have:=Pg.mp_hgt (f:=sbF o) (λn u r h=>by
  unfold sbF at h
  split at h
  ·cases h
  ·split at h<;>cases h
   ·show aa5
   ·show a o) (a o) p (u:=0)
 unfold Pg.sb;lia
def bq6{k}{p:Pg}(a:o.kn k)(h:p.kn k):(p.sb o).kn k:=Pg.mp_kn λn u r h=>by
 unfold sbF at h
 split at h
 ·cases h
 ·split at h<;>cases h
  ·show av7 a
  ·trivial p h
def cb9{l}(p:Pg):∀{u},(p.mp (lfF m l) u).parts=p.parts:=by
 induction p with
 |name n=>intro u;erw[Pg.mp,lfF];split<;>rfl
 |star=>intro u;rfl
 |pair t v a c=>intro u;erw[Pg.mp,Pg.parts,@a u,@c u]
 |give t v a c=>intro u;erw[Pg.mp,Pg.parts,@a u,@c u]
 |lets t v a c=>intro u;erw[Pg.mp,Pg.parts,@a u,@c (u+1)]
 |case t v w a c f=>intro u;erw[Pg.mp,Pg.parts,@a u,@c (u+1),@f (u+1)]
 |first t a=>intro u;erw[Pg.mp,Pg.parts,@a u]
 |second t a=>intro u;erw[Pg.mp,Pg.parts,@a u]
 |left b t a=>intro u;erw[Pg.mp,Pg.parts,@a u]
 |right b t a=>intro u;erw[Pg.mp,Pg.parts,@a u]
 |way b t a=>intro u;erw[Pg.mp,Pg.parts,@a (u+1)]
 |never b t a=>intro u;erw[Pg.mp,Pg.parts,@a u]
def dc0{g h}{a b c:Nat->Nat}(o:∀u,a (u+1)=a u+1)(m:∀u,b (u+1)=b u+1)(l:∀u,c (u+1)=c u+1)
  (H:∀n u,((Pg.name n).mp f (a u)).mp g (b u)=(Pg.name n).mp h (c u)) (p:Pg):∀u,(p.mp f (a u)).mp g (b u)=p.mp h (c u):=by
 induction p with
 |name n=>show H n
 |star=>intro u;rfl
 |pair t v d e=>intro u;erw[Pg.mp,d u,e u]
 |give t v d e=>intro u;erw[Pg.mp,d u,e u]
 |lets t v d e=>intro u;erw[Pg.mp,d u];rw[<-o,<-m,<-l,e]
 |case t v w d e k=>intro u;erw[Pg.mp,d u];rw[<-o,<-m,<-l,e,k]
 |first t d=>intro u;erw[Pg.mp,d u]
 |second t d=>intro u;erw[Pg.mp,d u]
 |left b t d=>intro u;erw[Pg.mp,d u]
 |right b t d=>intro u;erw[Pg.mp,d u]
 |way b t d=>intro u;erw[Pg.mp];rw[<-o,<-m,<-l,d]
 |never b t d=>intro u;erw[Pg.mp,d u]
def c70(p:Pg)u:p.mp (λ_ _=>AD) u=p:=Pg.mp_same p (by
 induction p generalizing u with
 |name n=>rfl
 |star=>rfl
 |_=>simp only[Pg.chd, *,Bool.or_self])
def be4{l:Nat}:(Pg.name n).mp (lfF m l) u=.name (if u+l<=n then n+m else n):=by
 erw[Pg.mp,lfF];split<;>rfl
theorem az8:∀a(i),(u4 i a).length=a.length
 |[],_=>rfl
 |_::a,i=>by change(u4 (i+1) a).length+1=a.length+1;rw[az8 a]
def Pg.parts_kids(p:Pg):p.parts=1+(p.kids.map Pg.parts).sum:=by
 cases p<;>erw[Pg.parts,Pg.kids,Ar,Eo,DP,HN]<;>lia
def Pg.kn_kids(p:Pg)(h:p.kn m):∀c∈p.kids,c.kn m:=by
 cases p<;>erw[Pg.kids,AM,Ah,or_false,false_imp_iff,implies_true,forall_eq_or_imp,forall_eq]at h ⊢<;>first|show h|show h.2
structure PIn(P:j6)(G:Gs):Prop where
 inner:P "inner"=AA ar2
 more:P "names_more"=AA am6
 tab:G.tab "INNER_FROM"=c46
 tab2:G.tab "UNDER_ONE_MORE"=dd8
structure PNm(P:j6)(G:Gs):Prop extends PM P G,PIn P G where
 winner:P "with_inner"=AA Y8
 lift:P "lifted"=AA ap0
 put:P "put_in"=AA ap4
 copy:P "copy_under"=AA am5
 wparts:P "with_parts"=AA am9
 under:P "inner_under"=AA al9
abbrev E7(c:Pg×Nat):D:=.tup [c.1.d,.int c.2]
abbrev R6(f:Nat->Nat->Option Pg):Pg->Nat->D
 |.name n,u=>match f n u with
  |some r=>r.d
  |none=>.non
 |_,_=>.non
def ae0{p:Pg}:p.d≠.non:=by cases p<;>show nofun
def b94{p:Pg}(h:R6 f p u≠.non):p.kids=[]:=by
 cases p<;>first|rfl|show absurd rfl h
def ca2{p}(h:p.kids=[]):R6 f p u=.non/\p.mp f u=p/\p.chd f u=AF\/R6 f p u=(p.mp f u).d/\p.chd f u=AC:=by
 cases p<;>first|(cases h;done)|skip
 case name n=>
  erw[R6,Pg.mp,Pg.chd];cases f n u with
  |none=>show .inl ⟨rfl,rfl,rfl⟩
  |some r=>show .inr ⟨rfl,rfl⟩
 case star=>show .inl ⟨rfl,rfl,rfl⟩
section
variable (J:PIn P G) 
include J
def U7(p:Pg)(q:∀a,st a=AD->Q (.ref a) (b0 st a (.lst (p.kids.map Pg.d)))):sem P G (n+1) "inner" [p.d] st Q:=by
 apply g9 J.inner rfl [AA p.d] rfl ?_;cases p<;>erw[Pg.d]
 all_goals
  ∎;apply{by change G.tab "INNER_FROM"≠[];rw[J.tab];show λz=>(by cases z),?_};erw[J.tab];apply{_,rfl,_,rfl,∅,λa b=>c7 (q a b)}
def ad2(p:Pg)(i:Nat)(q:Q (.int (p.more i:Nat)) st):sem P G (n+1) "names_more" [p.d,.int i] st Q:=by
 apply g9 J.more rfl [AA p.d,AA (.int i)] rfl ?_;cases p<;>erw[Pg.d]
 all_goals
  ∎;apply{by change G.tab "UNDER_ONE_MORE"≠[];rw[J.tab2];show λz=>(by cases z),?_};erw[J.tab2];apply{_,rfl,?_}
 case case=>
  change t6 .In (.int i) (.ktup [.inl 1,.inl 2]) _ _;rw[az0];rfl'
  by_cases h:i=1\/i=2
  ·rw[if_pos (by simp;lia)];erw[Pg.more,if_pos h]at q;show c7 q
  ·rw[if_neg (by simp;lia)];erw[Pg.more,if_neg h]at q;show c7 q
 case way=>
  change t6 .In (.int i) (.ktup [.inl 0]) _ _;rw[az0];rfl'
  by_cases h:i=0
  ·rw[if_pos (by simp;lia)];erw[Pg.more,if_pos h]at q;show c7 q
  ·rw[if_neg (by simp;lia)];erw[Pg.more,if_neg h]at q;show c7 q
 case lets=>
  change t6 .In (.int i) (.ktup [.inl 1]) _ _;rw[az0];rfl'
  by_cases h:i=1
  ·rw[if_pos (by simp;lia)];erw[Pg.more,if_pos h]at q;show c7 q
  ·rw[if_neg (by simp;lia)];erw[Pg.more,if_neg h]at q;show c7 q
 all_goals
  change t6 .In (.int i) (.tup []) _ _;apply{rfl,rfl,Av _,?_};rfl';show c7 q
end
section
variable (J:PNm P G) 
include J
def bd4{p:Pg}{l:List Pg}(h:rdS st a (l.map Pg.d))(c:l.length=p.kids.length)(b:p.kids≠[])(q:Q (p.withKids l).d st):sem P G (n+1) "with_inner" [p.d,.ref a] st Q:=by
 apply g9 J.winner rfl [AA p.d,AA (.ref a)] rfl ?_;revert b h q;apply Pg.with_cases (motive:=λp l=>rdS st a (l.map Pg.d)->p.kids≠[]->Q (p.withKids l).d st->i9 (Zg P G n) Y8.body (j9 Q) [AA p.d,AA (.ref a)] st) ?_ ?_ ?_ ?_ ?_ ?_ ?_ ?_ ?_ ?_ ?_ ?_ p l c
 ·intro k h b q;show absurd rfl b
 ·intro h b q;show absurd rfl b
 all_goals
  intros
  rename_i h b q;erw[Pg.d,Y8];∎;apply{by change G.tab "INNER_FROM"≠[];rw[J.tab];show λz=>(by cases z),?_};erw[J.tab];apply{_,rfl,_,rfl,∅,?_};rw[bg4 h];rfl';show{t9 (Ap (Nat.add_le_add_right cd3 _) (by erw[AT,Aq,AX];decide)),c7 q}
def cb4(p:Pg)(u:Nat)(t:2<=n)(q:∀a f,st a=AD->f a=AA (.lst ((p.kidsU u).map E7))->Kp [] st f->Q (.ref a) f):sem P G n "inner_under" [E7 (p,u)] st Q:=by
 obtain⟨n,rfl⟩:∃m,n=m+2:={n-2,⋯};apply g9 J.under rfl [AA (E7 (p,u)),AD] rfl ?_;unfold al9 E7;(iterate 2 ∎);apply{oy J.inner,U7 J.toPIn p λa s=>?_};rfl';apply{_,.inl c8,by rw[az8,AX];cases p<;>erw[Pg.kids,AT,Aq]<;>decide,?_};apply G1 (λl j h f=>f=b0 st a (.lst (p.kids.map Pg.d))/\∃(g e:List Pg)(x y:Option D),p.kids=g++e/\l=u4 g.length (e.map Pg.d)/\h=[AA (.tup [p.d,.int u]),AA p.d,x,y]/\j=(g.mapIdx λi c=>E7 (c,u+p.more i))) ?_ ?_ _ _ _ _ {rfl,[],p.kids,AD,AD,rfl,rfl,rfl,rfl}
 ·rintro j h f ⟨rfl,g,e,x,y,ek,el,rfl,rfl⟩;apply{.inl c8,λb r=>c7 (q b _ ?_ ?_ ((Kp.refl.new s).new r))}
  ·show none_of (Kp.refl.new s) r
  ·cases e with
   |cons c e=>simp[u4]at el
   |nil=>
    rw[BF]at ek;rw[c8,<-ek];unfold Pg.kidsU;show congrArg (λl=>AA (Ob.lst l)) (EN λi=>by erw[AY,List.getElem?_mapIdx,Option.map_map];rfl)
 ·rintro d ds j h f ih ⟨rfl,g,e,x,y,ek,el,rfl,rfl⟩;apply{.inl c8,?_};cases e with
  |nil=>simp[u4]at el
  |cons c e=>
   erw[Ar,u4,As]at el;let{rfl,rfl}:=el;rfl';apply{oy J.more,ad2 J.toPIn p g.length ?_};apply ih _ _ _ {rfl,g++[c],e,_,_,by rw[ek];simp,∎,rfl,?_};simp[E7]
end
structure PKd(P:j6)(G:Gs):Prop extends PSh P G where
 lkd:P (f8 "Shelf" "laid_kind")=AA Y4
 blt:P (f8 "Shelf" "built")=AA am3
 ptb:P (f8 "Shelf" "put_by")=AA ak3
 tku:P (f8 "Shelf" "taken_up")=AA ah6
 dfl:C6 G.cls (f8 "Shelf" "laid_kind")=AA 3
structure ShD(sh dn sa pa wa:AI):Prop where
 nd:[sh,dn,sa,pa].Nodup
 wd:wa∉[dn,sa,pa]
 ws:wa≠sh
@[reducible]noncomputable def shL(sh dn sa pa wa:AI):List AI:=[sh,dn,sa,pa,wa]
def O4{S}{t}(w:Wf S')(h:Has S t)(b:S <+: S'):nb S' t=nb S t:=by
 let{e,a,c}:=W3 h;let{l,rfl}:=b;show au2 w (AZ (AS.mp a).1▸a) c
section
variable (T:PKd P G) {S:List It3} {wo:Ob}
include T
def ar6{w:String}{inn}(A:ShA sh dn sa pa wa S st)(g:ShD sh dn sa pa wa)(i:st wa=AA wo)(o:∀d∈inn,Has S d)(t:inn.length<=1000)(u:S.length<9000000)
  (q:∀b a,Has b (.tup (.str w::inn))->S <+: b->b.length<=S.length+1->ShA sh dn sa pa wa b a->a wa=AA wo->Kp (shL sh dn sa pa wa) st a->Q (.int (nb b (.tup (.str w::inn)))) a):sem P G (n+1) (f8 "Shelf" "numbered") [.ref sh,.tup [.str w],E2 (inn.map (nb S))] st Q:=by
 apply bu9 T.toPSh A g.nd (inn:=inn) az1 ∎ (λj m c=>?_) ∎ (by simp_all) ⋯ λm b a h k f c K=>?_
 ·rw[AY]at c;cases e:inn[j]? with
  |none=>simp_all
  |some d=>
   rw[e]at c;cases c;let{s,r,p}:=W3 (o d (BE e));show{s,r,by rw[p]}
 ·have l:=au2 h.wf c rfl;rw[<-l];show q b a ⟨m,_,c,rfl⟩ k f h (K.at' i g.wd) (K.more ∎)
def Y9{w:String}{a:Kd}(A:ShA sh dn sa pa wa S st)(r:ShD sh dn sa pa wa)(f:st wa=AA wo)(h:Has S a.d)(g:Has S b.d)(i:S.length<9000000)
  (q:∀e c,Has e (.tup [.str w,a.d,b.d])->S <+: e->e.length<=S.length+1->ShA sh dn sa pa wa e c->c wa=AA wo->Kp (shL sh dn sa pa wa) st c->Q (.int (nb e (.tup [.str w,a.d,b.d]))) c):sem P G (n+2) (f8 "Shelf" "built") [.ref sh,.str w,.int (nb S a.d),.int (nb S b.d)] st Q:=by
 apply g9 T.blt rfl [AA (.ref sh),AA (.str w),AA (.int (nb S a.d)),AA (.int (nb S b.d))] rfl ?_;∎;apply{sh,"Shelf",_,rfl,A.ins,rfl,oy T.numb,?_};show ar6 T A r f (by simp[h,g]) ∎ i λe c p o m l k j=>c7 (q e c p o m l k j)
abbrev LdQ(sh dn sa pa wa:AI)(S:List It3)(wo:Ob)(st:Sto)(k:Kd)(Q:DK):Prop:=∀S' st',Has S' k.d->S <+: S'->S'.length<=S.length+k.size->ShA sh dn sa pa wa S' st'->st' wa=AA wo->Kp (shL sh dn sa pa wa) st st'->Q (.int (nb S' k.d:Nat)) st'
abbrev LkS(P:j6)(G:Gs)(sh dn sa pa wa:AI)(wo:Ob)(k:Kd):Prop:=∀(deep:Nat){n:Nat}{st:Sto}{Q:DK}{S:List It3},deep+8<=n->k.nest<=deep->ShA sh dn sa pa wa S st->ShD sh dn sa pa wa->st wa=AA wo->S.length+k.size<=9000000->LdQ sh dn sa pa wa S wo st k Q->sem P G n (f8 "Shelf" "laid_kind") [.ref sh,k.d,.int deep] st Q
def bm7{w:String}{k}(e:k.d=.tup [.str w])(c:k.size=1):LkS P G sh dn sa pa wa wo k:=by
 intro a n r Q S s _ A p f t q;unfold LdQ at q;rw[e,c]at q;rw[e];obtain⟨n,rfl⟩:∃m,n=m+2:={n-2,⋯};apply g9 T.lkd rfl [AA (.ref sh),AA (.tup [.str w]),AA (.int a)] rfl ?_;∎;∎;apply{sh,"Shelf",_,rfl,A.ins,rfl,oy T.numb,?_};show ar6 T A p f ∎ ∎ ⋯ λo b c l j i h g=>c7 (q o b c l j i h g)
def cy9{w:String}{k a:Kd}(j:k.d=.tup [.str w,a.d,b.d])(R:k.nest=1+max a.nest b.nest)(u:k.size=1+(a.size+b.size))(g:LkS P G sh dn sa pa wa wo a)(f:LkS P G sh dn sa pa wa wo b):LkS P G sh dn sa pa wa wo k:=by
 intro c n L Q S M N A i t O q;unfold LdQ at q;rw[j,u]at q;rw[j];obtain⟨n,rfl⟩:∃m,n=m+3:={n-3,⋯};apply g9 T.lkd rfl [AA (.ref sh),AA (.tup [.str w,a.d,b.d]),AA (.int c)] rfl ?_;∎;∎;have U:¬(c:Int)=0:=by lia
 obtain⟨c,rfl⟩:∃m,c=m+1:={c-1,⋯};have v:((c+1:Nat):Int)-1=(c:Nat):=by lia
 ∎;apply{sh,"Shelf",_,rfl,A.ins,rfl,oy T.blt,sh,"Shelf",_,rfl,A.ins,rfl,oy T.lkd,?_};rw[v];apply g c ⋯ ⋯ A i t ⋯ λZ s l J X p I H=>?_;apply{sh,"Shelf",_,rfl,p.ins,rfl,oy T.lkd,?_};apply f c ⋯ ⋯ p i I ⋯ λY r F h W o E D=>?_;rw[<-O4 o.wf l h];show Y9 T o i E (l.mono h) F ⋯ λK e C B V z y x=>c7 (q K e C ((J.trans h).trans B) ⋯ z y ((H.trans D).trans x))
def cb8 k:LkS P G sh dn sa pa wa wo k:=by
 induction k with
 |non=>show bm7 T rfl rfl
 |one=>show bm7 T rfl rfl
 |eith a b d c|both a b d c|way a b d c=>show cy9 T rfl rfl (ER _ _ _) d c
end
def X0{k:Kd}(h:k.nest<=3):k.size<=127:=by
 have:=b33 k;have:2^(k.nest+1)<=2^4:=DI ∅ ⋯;lia
abbrev E4(S:List It3)(w:Kd×Bool):D:=.tup [w.1.d,if w.2=AC then .int (nb S w.1.d:Nat)else .non]
structure KA(sh dn sa pa wa:AI)(S:List It3)(ws:List (Kd×Bool))(st:Sto):Prop where
 A:ShA sh dn sa pa wa S st
 D0:ShD sh dn sa pa wa
 W:st wa=AA (.lst (ws.map (E4 S)))
 H:∀w∈ws,w.2=AC->Has S w.1.d
 N:∀w∈ws,w.1.nest<=3
 L:ws.length<=2000
section
variable {S:List It3} 
def ce9(b:Wf S')(c:S <+: S'){w}(h:w.2=AC->Has S w.1.d):E4 S' w=E4 S w:=by
 unfold E4
 by_cases a:w.2=AC
 ·rw[if_pos a,if_pos a,O4 b (h a) c]
 ·rw[if_neg a,if_neg a]
def KA.up(k:KA sh dn sa pa wa S ws st)(c:ShA sh dn sa pa wa S' st')(b:S <+: S')(d:st' wa=AA (.lst (ws.map (E4 S)))):KA sh dn sa pa wa S' ws st':=
 {c,k.D0,(d▸congrArg (λl=>AA (Ob.lst l)) (Fh λw a=>(ce9 c.wf b (k.H w a)).symm)),λw a e=>(k.H w a e).mono b,k.N,k.L}
theorem KA.keepL(k:KA sh dn sa pa wa S ws st)(K:Kp L st st')(h:∀x∈L,x∉shL sh dn sa pa wa):KA sh dn sa pa wa S ws st':=
 {k.A.keepL K h,k.D0,K.at' k.W (λz=>h wa z ∎),k.H,k.N,k.L}
def KA.keep(k:KA sh dn sa pa wa S ws st)(K:Kp [] st st'):=k.keepL K ∎
abbrev En(S:List It3)(ws:List (Kd×Bool))(e:Int)(k:Kd):Prop:=(e=(nb S k.d:Nat)/\Has S k.d)\/∃(j:Nat)(b:Bool),e=-((j:Int)+1)/\ws[j]?=AA (k,b)
abbrev WUp(ws ws':List (Kd×Bool)):Prop:=ws'.map (·.1)=ws.map (·.1)
def En.up{e}{k}(h:En S ws e k)(d:Wf S')(c:S <+: S')(f:WUp ws ws'):En S' ws' e k:=by
 rcases h with⟨rfl,h⟩|⟨j,b,rfl,h⟩
 ·show .inl {by rw[O4 d h c],h.mono c}
 ·have a:(ws'.map (·.1))[j]?=AA k:=by rw[f,AY,h];rfl
  rw[AY]at a;cases e2:ws'[j]? with
  |none=>simp_all
  |some x=>
   rw[e2]at a;cases a;show .inr ⟨j,x.2,rfl,e2⟩
structure KnOk(S:List It3)(ws:List (Kd×Bool))(Γ:List Kd)(kn:List Int):Prop where
 len:kn.length=Γ.length
 at':∀(m:Nat)k,Γ[m]?=AA k->∃e,kn.reverse[m]?=AA e/\En S ws e k
theorem KnOk.up{kn}(h:KnOk S ws Γ kn)(a:Wf S')(c:S <+: S')(b:WUp ws ws'):KnOk S' ws' Γ kn:=
 ⟨h.len,λm k d=>let⟨e,g,f⟩:=h.at' m k d;{e,g,f.up a c b}⟩
def KnOk.cons{kn}{k}{e}(h:KnOk S ws Γ kn)(f:En S ws e k):KnOk S ws (k::Γ) (kn++[e]):=
 {by simp[h.len],λm c d=>by
  rw[Ef];cases m with
  |zero=>cases d;show⟨e,rfl,f⟩
  |succ m=>show h.at' m c d}
abbrev Up(S:List It3)(ws:List (Kd×Bool))(S':List It3)(ws':List (Kd×Bool))(p:Pg):Prop:=S <+: S'/\S'.length<=S.length+256*p.parts/\WUp ws ws'
theorem WUp.trans{w1 w2 w3}(a:WUp w1 w2)(b:WUp w2 w3):WUp w1 w3:=Ka b a
end
section
variable (T:PKd P G) {S:List It3} 
include T
def V7{k:Kd}(l:11<=n)(e:k.nest<=3)(K:KA sh dn sa pa wa S ws st)(f:S.length+k.size<=9000000)
  (q:∀b a,Has b k.d->S <+: b->b.length<=S.length+k.size->KA sh dn sa pa wa b ws a->Kp (shL sh dn sa pa wa) st a->Q (.int (nb b k.d)) a):sem P G n (f8 "Shelf" "laid_kind") [.ref sh,k.d,.int 3] st Q:=
 cb8 T k 3 ⋯ e K.A K.D0 K.W f λb a j c i h g=>q b a j c i (K.up h c g)
def cb1{k:Kd}(K:KA sh dn sa pa wa S ws st)(i:k.nest<=3)(m:ws.length<2000)(q:∀b,KA sh dn sa pa wa S (ws++[(k,AF)]) b->Kp [wa] st b->Q (.int (-((ws.length:Int)+1))) b):sem P G (n+1) (f8 "Shelf" "put_by") [.ref sh,k.d] st Q:=by
 apply g9 T.ptb rfl [AA (.ref sh),AA k.d] rfl ?_;have c:(("waiting":Str))∈G.cls "Shelf":=by rw[T.cls];simp
 ∎;apply{sh,"Shelf",_,.ref wa,rfl,K.A.ins,c,rfl,?_};rw[y6 (.inl K.W)];apply{trivial,?_};rw[D2 K.W];apply{B8 (by erw[AX];lia),?_};have l:Kp [wa] st (b0 st wa (.lst (ws.map (E4 S)++[.tup [k.d,.non]]))):=Kp.refl.put ∎;have g:b0 st wa (.lst (ws.map (E4 S)++[.tup [k.d,.non]])) wa=AA (.lst ((ws++[(k,AF)]).map (E4 S))):=by rw[c8,Ad];rfl
 have h:ShA sh dn sa pa wa S (b0 st wa (.lst (ws.map (E4 S)++[.tup [k.d,.non]]))):=by
  have d:=K.D0;have w:=d.wd;erw[AM,Ah,or_false,not_or]at w;show{c9 K.A.ins (λz=>d.ws z.symm),c9 K.A.num (λz=>w.1 z.symm),c9 K.A.sto (λz=>w.2.1 z.symm),c9 K.A.par (λz=>w.2.2 z.symm),⟨_,c8⟩,K.A.wf,K.A.ml,K.A.fl}
 have j:KA sh dn sa pa wa S (ws++[(k,AF)]) (b0 st wa (.lst (ws.map (E4 S)++[.tup [k.d,.non]]))):=by
  apply{h,K.D0,g,λw a f=>?_,λw a=>?_,by simp;lia}
  ·rcases BD.mp a with a|a
   ·show K.H w a f
   ·simp at a;subst a;cases f
  ·rcases BD.mp a with a|a
   ·show K.N w a
   ·simp at a;subst a;show i
 ∎;apply{sh,"Shelf",_,.ref wa,rfl,h.ins,c,rfl,?_};rw[w6 (.inl g)];rfl';have e:-(((ws++[(k,AF)]).map (E4 S)).length:Int)=-((ws.length:Int)+1):=by simp
 rw[e];show c7 (q _ j l)
def by1{k:Kd}{e:Int}(M:12<=n)(K:KA sh dn sa pa wa S ws st)(h:En S ws e k)(O:S.length+128<=9000000)
  (q:∀c l a,Has c k.d->S <+: c->c.length<=S.length+128->KA sh dn sa pa wa c l a->WUp ws l->Kp (shL sh dn sa pa wa) st a->Q (.int (nb c k.d:Nat)) a):sem P G n (f8 "Shelf" "taken_up") [.ref sh,.int e] st Q:=by
 obtain⟨n,rfl⟩:∃m,n=m+1:={n-1,⋯};apply g9 T.tku rfl [AA (.ref sh),AA (.int e),AD] rfl ?_;have t:(("waiting":Str))∈G.cls "Shelf":=by rw[T.cls];simp
 ∎
 rcases h with⟨rfl,h⟩|⟨j,b,rfl,h⟩
 ·rw[if_pos ⋯];∎;show c7 (q S ws st h (DD _) ⋯ K rfl Kp.refl)
 ∎;apply{sh,"Shelf",_,.ref wa,rfl,K.A.ins,t,rfl,?_};have v:(-1:Int) - -((j:Int)+1)=(j:Nat):=by lia
 rw[v,o0 (.inl K.W)];apply{E4 S (k,b),by rw[u0,AY,h];rfl,?_};have r:=K.N _ (BE h);have x:=(AS.mp h).1;cases b with
 |true=>
  have s:E4 S (k,AC)=.tup [k.d,.int (nb S k.d:Nat)]:=rfl;have B:=K.H _ (BE h) rfl;rw[s];∎;apply .inr {nofun,?_};rfl';∎;show c7 (q S ws st B (DD _) ⋯ K rfl Kp.refl)
 |false=>
  have s:E4 S (k,AF)=.tup [k.d,.non]:=rfl;rw[s];∎;apply .inl ?_;∎;apply{sh,"Shelf",_,3,rfl,K.A.ins,rfl,oy T.lkd,T.dfl,?_};have J:k.size<=127:=X0 (k:=k) r;apply V7 T ⋯ r K ⋯ λc a u D R f F=>?_;rfl';∎;apply{sh,"Shelf",_,.ref wa,rfl,f.A.ins,t,rfl,?_};rw[v];apply{wa,(j:Nat),j,_,rfl,rfl,f.W,?_,?_}
  ·unfold ixN;rw[if_pos ⋯,if_pos (by simp;lia)];simp
  have p:wa∉[dn,sa,pa]/\wa≠sh:=⟨K.D0.wd,K.D0.ws⟩;erw[AM,Ah,or_false,not_or]at p;have I:∀o,ShA sh dn sa pa wa c (b0 a wa o):=λo=>{c9 f.A.ins (λz=>p.2 z.symm),c9 f.A.num (λz=>p.1.1 z.symm),c9 f.A.sto (λz=>p.1.2.1 z.symm),c9 f.A.par (λz=>p.1.2.2 z.symm),⟨_,c8⟩,f.A.wf,f.A.ml,f.A.fl};have E:(ws.map (E4 c)).set j (.tup [k.d,.int (nb c k.d:Nat)])=(ws.set j (k,AC)).map (E4 c):=by rw[Kb];rfl
  rw[E];∎;apply c7 (q c (ws.set j (k,AC)) _ u D ⋯ {I _,K.D0,c8,λw g C=>?_,λw g=>?_,by simpa using K.L} ?_ (F.put ∎))
  ·rcases He g with g|rfl
   ·show f.H w g C
   ·show u
  ·rcases He g with g|rfl
   ·show K.N w g
   ·show r
  ·unfold WUp;rw[Kb];apply EN λi=>?_;rw[GK]
   split
   ·rename_i y;subst y;rw[AY,h,if_pos (by simpa using x)];rfl
   ·rfl
end
abbrev Pg.kk(Γ:List Kd):Pg->List Kd->Option Kd
 |.name n,[]=>Γ[n]?
 |.star,[]=>AA .one
 |.pair _ _,[a,b]=>AA (.both a b)
 |.first _,[.both a _]=>AA a
 |.second _,[.both _ b]=>AA b
 |.left b _,[a]=>AA (.eith a b)
 |.right a _,[b]=>AA (.eith a b)
 |.case _ _ _,[.eith _ _,k,l]=>if k=l then AA k else AD
 |.way a _,[b]=>AA (.way a b)
 |.give _ _,[.way a b,c]=>if a=c then AA b else AD
 |.lets _ _,[_,k]=>AA k
 |.never k _,[.non]=>AA k
 |_,_=>AD
abbrev Pg.nw:Pg->List Kd->Nat->Option Kd
 |.way a _,_,_=>AA a
 |.lets _ _,ks,_=>ks.head?
 |.case _ _ _,.eith a b::_,i=>AA (if i=1 then a else b)
 |_,_,_=>AD
abbrev Cxt(p:Pg)(ks:List Kd)(i:Nat)(Γ Δ:List Kd):Prop:=(p.more i=0/\Δ=Γ)\/(p.more i=1/\∃a,p.nw ks i=AA a/\Δ=a::Γ)
def Pg.kind_inv{p:Pg}{k:Kd}(h:p.kind Γ=AA k):∃e:List Kd,e.length=p.kids.length/\p.kk Γ e=AA k/\∀(i:Nat)c,p.kids[i]?=AA c->∃a f,e[i]?=AA a/\Cxt p (e.take i) i Γ f/\c.kind f=AA a:=by
 cases T4 h
 case name=>show{[],rfl,h,λi c d=>nomatch d}
 case star=>show{[],rfl,h,λi c d=>nomatch d}
 case first t b h1=>show{[.both k b],rfl,rfl,λi c d=>match i,d with
  |0,d=>by cases d;show{_,Γ,rfl,.inl ⟨rfl,rfl⟩,h1.kind}
  |i+1,d=>nomatch d}
 case second t a h1=>show{[.both a k],rfl,rfl,λi c d=>match i,d with
  |0,d=>by cases d;show{_,Γ,rfl,.inl ⟨rfl,rfl⟩,h1.kind}
  |i+1,d=>nomatch d}
 case left t a b h1=>show{[a],rfl,rfl,λi c d=>match i,d with
  |0,d=>by cases d;show{_,Γ,rfl,.inl ⟨rfl,rfl⟩,h1.kind}
  |i+1,d=>nomatch d}
 case right t a b h1=>show{[b],rfl,rfl,λi c d=>match i,d with
  |0,d=>by cases d;show{_,Γ,rfl,.inl ⟨rfl,rfl⟩,h1.kind}
  |i+1,d=>nomatch d}
 case never t h1=>show{[.non],rfl,rfl,λi c d=>match i,d with
  |0,d=>by cases d;show{_,Γ,rfl,.inl ⟨rfl,rfl⟩,h1.kind}
  |i+1,d=>nomatch d}
 case way t a b h1=>show{[b],rfl,rfl,λi c d=>match i,d with
  |0,d=>by cases d;show{_,a::Γ,rfl,.inr ⟨rfl,a,rfl,rfl⟩,h1.kind}
  |i+1,d=>nomatch d}
 case pair t u a b h1 h2=>show{[a,b],rfl,rfl,λi c d=>match i,d with
  |0,d=>by cases d;show{_,Γ,rfl,.inl ⟨rfl,rfl⟩,h1.kind}
  |1,d=>by cases d;show{_,Γ,rfl,.inl ⟨rfl,rfl⟩,h2.kind}
  |i+2,d=>nomatch d}
 case give t u a h2 h1=>show{[.way a k,a],rfl,if_pos rfl,λi c d=>match i,d with
  |0,d=>by cases d;show{_,Γ,rfl,.inl ⟨rfl,rfl⟩,h1.kind}
  |1,d=>by cases d;show{_,Γ,rfl,.inl ⟨rfl,rfl⟩,h2.kind}
  |i+2,d=>nomatch d}
 case lets t u a h1 h2=>show{[a,k],rfl,rfl,λi c d=>match i,d with
  |0,d=>by cases d;show{_,Γ,rfl,.inl ⟨rfl,rfl⟩,h1.kind}
  |1,d=>by cases d;show{_,a::Γ,rfl,.inr ⟨rfl,a,rfl,rfl⟩,h2.kind}
  |i+2,d=>nomatch d}
 case case t u v a b h1 h2 h3=>show{[.eith a b,k,k],rfl,if_pos rfl,λi c d=>match i,d with
  |0,d=>by cases d;show{_,Γ,rfl,.inl ⟨rfl,rfl⟩,h1.kind}
  |1,d=>by cases d;show{_,a::Γ,rfl,.inr ⟨rfl,a,rfl,rfl⟩,h2.kind}
  |2,d=>by cases d;show{_,b::Γ,rfl,.inr ⟨rfl,b,rfl,rfl⟩,h3.kind}
  |i+3,d=>nomatch d}
abbrev c73:List (Str×D):=[("name",.fn "kind_of_name"),("star",.fn "kind_of_star"),("pair",.fn "kind_of_pair"),("first",.fn "kind_of_first"),("second",.fn "kind_of_second"),("left",.fn "kind_of_left"),("right",.fn "kind_of_right"),("case",.fn "kind_of_case"),("way",.fn "kind_of_way"),("give",.fn "kind_of_give"),("let",.fn "kind_of_let"),("never",.fn "kind_of_never")]
structure PKo(P:j6)(G:Gs):Prop extends PKd P G,PIn P G where
 kbp:P "kind_by_parts"=AA aj4
 nnm:P "new_name"=AA an8
 hvs:P "halves_of"=AA an0
 k0:P "kind_of_name"=AA aj8
 k1:P "kind_of_star"=AA al2
 k2:P "kind_of_pair"=AA ak1
 k3:P "kind_of_first"=AA ai6
 k4:P "kind_of_second"=AA ah8
 k5:P "kind_of_left"=AA ak0
 k6:P "kind_of_right"=AA aj3
 k7:P "kind_of_case"=AA al3
 k8:P "kind_of_way"=AA am1
 k9:P "kind_of_give"=AA al5
 k10:P "kind_of_let"=AA am2
 k11:P "kind_of_never"=AA aj0
 tbw:G.tab "BY_WORD"=c73
abbrev p8(S:List It3)(ks:List Kd):List D:=ks.map λk=>.int (nb S k.d:Nat)
section
variable (T:PKo P G) {S:List It3} 
include T
def ac3{w:String}{k a:Kd}(g:k.d=.tup [.str w,a.d,b.d])(K:KA sh dn sa pa wa S ws st)(h:Has S k.d)(q:Has S a.d->Has S b.d->Q (.tup [.int (nb S a.d:Nat),.int (nb S b.d:Nat)]) st):sem P G (n+2) "halves_of" [.str w,.int (nb S k.d:Nat),.ref sh] st Q:=by
 apply g9 T.hvs rfl [AA (.str w),AA (.int (nb S k.d:Nat)),AA (.ref sh)] rfl ?_;rw[g]at h ⊢;have c:∀d∈[a.d,b.d],∃l,d=.tup l:=λd f=>by simp at f;rcases f with rfl|rfl<;>show cu5 _
 let{e,_}:=bm3 K.A.wf (fr:=[.str w]) (inn:=[a.d,b.d]) h az1 c;∎;apply{sh,"Shelf",_,rfl,K.A.ins,rfl,oy T.word,bj6 T.toPSh K.A h ?_};rfl';∎;apply{sh,"Shelf",_,rfl,K.A.ins,rfl,oy T.wthn,b00 T.toPSh K.A (fr:=[.str w]) (inn:=[a.d,b.d]) h az1 c ?_};show c7 (q (e _ ∎) (e _ ∎))
end
abbrev Pg.told(m:Nat):Pg->Prop
 |.left b _=>b.nest<=m
 |.right b _=>b.nest<=m
 |.way b _=>b.nest<=m
 |.never b _=>b.nest<=m
 |_=>True
def Pg.told_kn{p:Pg}(h:p.kn m):p.told m:=by cases p<;>first|trivial|show h.1
abbrev StQ(sh dn sa pa wa:AI)(S:List It3)(ws:List (Kd×Bool))(st:Sto)(k:Kd)(Q:DK):Prop:=∀S' ws' st',Has S' k.d->S <+: S'->S'.length<=S.length+128->KA sh dn sa pa wa S' ws' st'->WUp ws ws'->Kp (shL sh dn sa pa wa) st st'->Q (.int (nb S' k.d:Nat)) st'
section
variable (T:PKo P G) {S:List It3} 
include T
def a09{p:Pg}{a:Kd}(J:14<=n)(K:KA sh dn sa pa wa S ws st)(s:p.told 3)(j:p.more i=1)(c:p.nw ks i=AA a)(B:st ca=AA (.lst (p8 S ks)))(z:∀k∈ks,Has S k.d)(L:S.length+128<=9000000)
  (q:StQ sh dn sa pa wa S ws st a Q):sem P G n "new_name" [p.d,.ref ca,.int i,.ref sh] st Q:=by
 obtain⟨n,rfl⟩:∃m,n=m+3:={n-3,⋯};apply g9 T.nnm rfl [AA p.d,AA (.ref ca),AA (.int i),AA (.ref sh)] rfl ?_;cases p<;>first|(cases c;done)|skip
 case case t u v=>
  cases ks with
  |nil=>cases c
  |cons r ks=>
   cases r<;>first|(cases c;done)|skip
   rename_i x y;erw[Pg.d];(iterate 3 ∎);apply{oy T.hvs,?_};rw[o0 (.inl B)];apply{.int (nb S (Kd.eith x y).d:Nat),by rw[aw9];rfl,?_};apply ac3 T (w:="either") (k:=.eith x y) rfl K (z _ ∎) λo l=>?_;rfl';erw[Pg.more]at j;have D:i=1\/i=2:=by
    split at j
    ·assumption
    ·cases j
   rcases D with rfl|rfl
   ·cases c;show{_,rfl,c7 (q S ws st o (DD _) ⋯ K rfl Kp.refl)}
   ·cases c;show{_,rfl,c7 (q S ws st l (DD _) ⋯ K rfl Kp.refl)}
 case way b t=>
  cases(c);erw[Pg.d];(iterate 2 ∎);apply{sh,"Shelf",_,3,rfl,K.A.ins,rfl,oy T.lkd,T.dfl,?_};have I:=X0 s;have C:a.nest<=3:=s;show V7 T.toPKd ⋯ ⋯ K ⋯ λH g o l M F E=>c7 (q H ws g o l ⋯ F rfl E)
 case lets t u=>
  cases ks with
  |nil=>cases c
  |cons r ks=>
   cases(c);erw[Pg.d];(iterate 3 ∎);rw[o0 (.inl B)];show{.int (nb S a.d:Nat),by rw[aw9];rfl,c7 (q S ws st (z _ ∎) (DD _) ⋯ K rfl Kp.refl)}
def cs5{p:Pg}{k:Kd}{X:List Int}(hn:16<=n)(K:KA sh dn sa pa wa S ws st)(Y:p.told 3)(f:p.kk Γ ks=AA k)(y:st ca=AA (.lst (p8 S ks)))(x:∀k∈ks,Has S k.d)(I:st ka=AA (.lst (X.map D.int)))(O:KnOk S ws Γ X)(R:ca∉shL sh dn sa pa wa)(hS:S.length+128<=9000000)
  (q:StQ sh dn sa pa wa S ws st k Q):sem P G n "kind_by_parts" [p.d,.ref ca,.ref ka,.ref sh] st Q:=by
 obtain⟨n,rfl⟩:∃m,n=m+5:={n-5,⋯};have tb:(Zg P G (n+4)).G "BY_WORD"≠[]:=by change G.tab "BY_WORD"≠[];rw[T.tbw];show λz=>by cases z
 have j:∀{k:Kd},StQ sh dn sa pa wa S ws st k Q->Has S k.d->Q (.int (nb S k.d:Nat)) st:=λq h=>q S ws st h (DD _) ⋯ K rfl Kp.refl;apply g9 T.kbp rfl [AA p.d,AA (.ref ca),AA (.ref ka),AA (.ref sh)] rfl ?_;cases p<;>erw[Pg.d]
 all_goals
  ∎;apply{tb,?_};erw[T.tbw];apply{_,rfl,?_}
 case name m=>
  cases ks with
  |cons _ _=>cases f
  |nil=>
   apply{_,rfl,oy T.k0,?_};apply g9 T.k0 rfl [AA (.tup [.str "name",.int m]),AA (.ref ca),AA (.ref ka),AA (.ref sh),AD] rfl ?_;unfold aj8;have f:Γ[m]?=AA k:=f;have hm:=(AS.mp f).1;let{e,he,hen}:=O.at' m k f;have hl:=O.len;(iterate 2 ∎);rw[w6 (.inl I)];rfl';rw[if_neg ⋯,if_neg (by erw[AX];lia)];∎;apply{sh,"Shelf",_,rfl,K.A.ins,rfl,oy T.tku,?_};rw[w6 (.inl I)];rfl';rw[o0 (.inl I)];have ei:(((X.map D.int).length:Nat):Int)-1-(m:Int)=((X.length-1-m:Nat):Int):=by rw[AX];lia
   rw[ei];apply{.int e,by rw[u0,AY];rw[Ex ⋯]at he;rw[he];rfl,?_};show by1 T.toPKd ⋯ K hen ⋯ λE Z g l i M C B F=>c7 (c7 (q E Z g l i ⋯ C B F))
 case star=>
  cases ks with
  |cons _ _=>cases f
  |nil=>
   cases f;apply{_,rfl,oy T.k1,?_};apply g9 T.k1 rfl [AA (.tup [.str "star"]),AA (.ref ca),AA (.ref ka),AA (.ref sh)] rfl ?_;unfold al2;∎;apply{sh,"Shelf",_,rfl,K.A.ins,rfl,oy T.numb,?_};show ar6 T.toPKd (w:="one") (inn:=[]) K.A K.D0 K.W ∎ ∎ ⋯ λE g l i M C B F=>c7 (c7 (q E ws g l i ⋯ (K.up C i B) rfl F))
 case pair t u=>
  match ks,f with
  |[a,b],f=>
   cases f;apply{_,rfl,oy T.k2,?_};apply g9 T.k2 rfl [AA (.tup [.str "pair",t.d,u.d]),AA (.ref ca),AA (.ref ka),AA (.ref sh)] rfl ?_;unfold ak1;∎;apply{sh,"Shelf",_,rfl,K.A.ins,rfl,oy T.blt,?_};rw[o0 (.inl y)];apply{_,rfl,?_};rw[o0 (.inl y)];apply{_,rfl,?_};show Y9 T.toPKd (w:="both") K.A K.D0 K.W (x _ ∎) (x _ ∎) ⋯ λE g l i M C B F=>c7 (c7 (q E ws g l i ⋯ (K.up C i B) rfl F))
 case first t=>
  match ks,f with
  |[.both a b],f=>
   cases(f);apply{_,rfl,oy T.k3,?_};apply g9 T.k3 rfl [AA (.tup [.str "first",t.d]),AA (.ref ca),AA (.ref ka),AA (.ref sh)] rfl ?_;unfold ai6;∎;apply{oy T.hvs,?_};rw[o0 (.inl y)];apply{_,rfl,ac3 T (w:="both") (k:=.both k b) rfl K (x _ ∎) λl i=>?_};rfl';show c7 (c7 (j q l))
 case second t=>
  match ks,f with
  |[.both a b],f=>
   cases(f);apply{_,rfl,oy T.k4,?_};apply g9 T.k4 rfl [AA (.tup [.str "second",t.d]),AA (.ref ca),AA (.ref ka),AA (.ref sh)] rfl ?_;unfold ah8;∎;apply{oy T.hvs,?_};rw[o0 (.inl y)];apply{_,rfl,ac3 T (w:="both") (k:=.both a k) rfl K (x _ ∎) λl i=>?_};rfl';show c7 (c7 (j q i))
 case case t u v=>
  match ks,f with
  |[.eith a b,c,d],f=>
   have f:(if c=d then AA c else AD)=AA k:=f
   split at f
   ·rename_i J;cases f;subst J;apply{_,rfl,oy T.k7,?_};apply g9 T.k7 rfl [AA (.tup [.str "case",t.d,u.d,v.d]),AA (.ref ca),AA (.ref ka),AA (.ref sh)] rfl ?_;unfold al3;∎;rw[o0 (.inl y)];apply{_,rfl,?_};rw[o0 (.inl y)];apply{_,rfl,?_};rw[au8];rfl';∎;rw[o0 (.inl y)];show{_,rfl,c7 (c7 (j q (x _ ∎)))}
   ·cases f
 case lets t u=>
  match ks,f with
  |[a,c],f=>
   cases f;apply{_,rfl,oy T.k10,?_};apply g9 T.k10 rfl [AA (.tup [.str "let",t.d,u.d]),AA (.ref ca),AA (.ref ka),AA (.ref sh)] rfl ?_;unfold am2;∎;rw[o0 (.inl y)];show{_,rfl,c7 (c7 (j q (x _ ∎)))}
 case give t u=>
  match ks,f with
  |[.way a b,c],f=>
   have f:(if a=c then AA b else AD)=AA k:=f
   split at f
   ·rename_i J;cases(f);subst J;apply{_,rfl,oy T.k9,?_};apply g9 T.k9 rfl [AA (.tup [.str "give",t.d,u.d]),AA (.ref ca),AA (.ref ka),AA (.ref sh),AD] rfl ?_;unfold al5;∎;apply{oy T.hvs,?_};rw[o0 (.inl y)];apply{_,rfl,ac3 T (w:="way") (k:=.way a k) rfl K (x _ ∎) λl i=>?_};∎;rw[o0 (.inl y)];apply{_,rfl,?_};rw[au8];rfl';∎;show c7 (c7 (j q i))
   ·cases f
 case left b t=>
  match ks,f with
  |[a],f=>
   cases f;have s:b.nest<=3:=Y;have hz:=X0 s;apply{_,rfl,oy T.k5,?_};apply g9 T.k5 rfl [AA (.tup [.str "left",b.d,t.d]),AA (.ref ca),AA (.ref ka),AA (.ref sh)] rfl ?_;unfold ak0;∎;apply{sh,"Shelf",_,rfl,K.A.ins,rfl,oy T.blt,?_};rw[o0 (.inl y)];apply{_,rfl,sh,"Shelf",_,3,rfl,K.A.ins,rfl,oy T.lkd,T.dfl,?_};apply V7 T.toPKd ⋯ ⋯ K ⋯ λS1 N V H b o L=>?_;rfl';rw[<-O4 o.A.wf (x a ∎) H];show Y9 T.toPKd (w:="either") o.A o.D0 o.W ((x _ ∎).mono H) V ⋯ λE g l i M C B F=>c7 (c7 (q E ws g l (H.trans i) ⋯ (o.up C i B) rfl (L.trans F)))
 case right b t=>
  match ks,f with
  |[a],f=>
   cases f;have s:b.nest<=3:=Y;have hz:=X0 s;apply{_,rfl,oy T.k6,?_};apply g9 T.k6 rfl [AA (.tup [.str "right",b.d,t.d]),AA (.ref ca),AA (.ref ka),AA (.ref sh)] rfl ?_;unfold aj3;∎;apply{sh,"Shelf",_,rfl,K.A.ins,rfl,oy T.blt,sh,"Shelf",_,3,rfl,K.A.ins,rfl,oy T.lkd,T.dfl,?_};apply V7 T.toPKd ⋯ ⋯ K ⋯ λS1 N V H b o L=>?_;rfl';rw[o0 (.inl (L.at' y R))];apply{.int (nb S a.d:Nat),rfl,?_};rw[<-O4 o.A.wf (x a ∎) H];show Y9 T.toPKd (w:="either") o.A o.D0 o.W V ((x _ ∎).mono H) ⋯ λE g l i M C B F=>c7 (c7 (q E ws g l (H.trans i) ⋯ (o.up C i B) rfl (L.trans F)))
 case way b t=>
  match ks,f with
  |[a],f=>
   cases f;have s:b.nest<=3:=Y;have hz:=X0 s;apply{_,rfl,oy T.k8,?_};apply g9 T.k8 rfl [AA (.tup [.str "way",b.d,t.d]),AA (.ref ca),AA (.ref ka),AA (.ref sh)] rfl ?_;unfold am1;∎;apply{sh,"Shelf",_,rfl,K.A.ins,rfl,oy T.blt,sh,"Shelf",_,3,rfl,K.A.ins,rfl,oy T.lkd,T.dfl,?_};apply V7 T.toPKd ⋯ ⋯ K ⋯ λS1 N V H b o L=>?_;rfl';rw[o0 (.inl (L.at' y R))];apply{.int (nb S a.d:Nat),rfl,?_};rw[<-O4 o.A.wf (x a ∎) H];show Y9 T.toPKd (w:="way") o.A o.D0 o.W V ((x _ ∎).mono H) ⋯ λE g l i M C B F=>c7 (c7 (q E ws g l (H.trans i) ⋯ (o.up C i B) rfl (L.trans F)))
 case never b t=>
  match ks,f with
  |[.non],f=>
   cases(f);have s:k.nest<=3:=Y;have hz:=X0 s;apply{_,rfl,oy T.k11,?_};apply g9 T.k11 rfl [AA (.tup [.str "never",k.d,t.d]),AA (.ref ca),AA (.ref ka),AA (.ref sh)] rfl ?_;∎;apply{sh,"Shelf",_,rfl,K.A.ins,rfl,oy T.word,?_};rw[o0 (.inl y)];apply{.int (nb S (D.tup [.str "none"]):Nat),rfl,bj6 T.toPSh K.A (d:=.str "none") (r:=[]) (x .non ∎) ?_};rfl';∎;apply{sh,"Shelf",_,3,rfl,K.A.ins,rfl,oy T.lkd,T.dfl,?_};show V7 T.toPKd ⋯ ⋯ K ⋯ λE g l i M C B=>c7 (c7 (q E ws g l i ⋯ C rfl B))
end
def af1{f}(h:sem P G n f ds st Q):(B9 P G (n+1)).2.1 f ds st Q:=h
section
variable (T0:PM P G) {T:Type} {enc:T->D} {subs:T->List T} {size:T->Nat} {Dj:T->Prop}
include T0
def cm5{L}hsz(u:∀t,Dj t->∀c∈subs t,Dj c){F M}hF(v:Cok P M)t(r:size t<=2000)hgt(w:∀a∈L,∃o,st a=AA o){Y:AI->List T->List D->Sto->Prop}hYL
  (l:∀i f,st i=AD->Kp [] st f->Y i [] [] f) hYk
  (s:∀c f Q,Dj c->Kp [] st f->(∀d g,ae3 f g d ((subs c).map enc)->Kp [] f g->Q d g)->G5 P G n F [enc c] f Q)
  hm
  (q:∀i d f,st i=AD->Y i [t] [d] f->Kp L st f->Q d f):=
 bg3 T0 (λa y _ K b o p e=>K b o (by grind) (a b o p e)) Kp.refl (λK a h=>(w a h).elim λo e=>{o,K a o ∎ e}) hsz u hF v t r hgt hYL (λi f h j _=>l i f h j) hYk (λc f Q x j K k=>s c f Q x j λd g h m=>k d g h (j.trans m) (m.more ∎)) hm q
end
abbrev ndF(p:Pg)(la:AI)(x h w:Int)(kd:D):List (Str×D):=[(("program":Str),p.d),(("inside":Str),.ref la),(("number":Str),.int x),(("holders":Str),.int h),(("ways":Str),.int w),(("used":Str),.non),(("kind":Str),kd)]
abbrev ndO(p:Pg)(la:AI)(x h w:Int)(kd:D):Ob:=.ins "Node" (ndF p la x h w kd)
abbrev F9(d:D):Prop:=d=.non\/∃j:Int,d=.int j
inductive Nd(st0:Sto)(X:List AI)(st:Sto):Int->Pg->AI->List AI->Prop where
 |mk {h:Int} {p:Pg} {a la:AI} {x w:Int} {kd:D} {as:List AI} {fs:List (List AI)}:st a=AA (ndO p la x h w kd)->F9 kd->st la=AA (.lst (as.map D.ref))->la∉X->st0 la=AD->st0 a=AD->as.length=p.kids.length->fs.length=p.kids.length->(∀(i:Nat)c b f,p.kids[i]?=AA c->as[i]?=AA b->fs[i]?=AA f->Nd st0 X st 1 c b f)->Nd st0 X st h p a (a::fs.flatten)
section
variable {st0:Sto} {p:Pg} {f:List AI}
def Nd.stay(n:Nd st0 X st h p a f)(d:∀b∈f,∀o,st b=AA o->st' b=AA o)(l:KpN X st st'):Nd st0 X st' h p a f:=by
 induction n with
 |@mk h p a j x w D F E y v u e t s r q _ k=>
  show .mk (d a ∎ _ y) v (l j _ e (λ_ _ z=>by cases z) u) e t s r q λi c b f B A g=>k i c b f B A g λC m=>d C (Ae _ (CT.mpr {f,BE g,m}))
theorem Nd.ins(n:Nd st0 X st h p a f):∀b∈f,∃l,st b=AA (.ins "Node" l):=by
 induction n with
 |@mk h p a o x w q m k j A z y v u t s r d=>
  intro b c
  rcases AM.mp c with rfl|c
  ·show⟨_,j⟩
  ·let{f,g,c}:=CT.mp c;let{i,e,rfl}:=FN.mp g;show d i p.kids[i] m[i] k[i] (AH ⋯) (AH ⋯) (AH e) b c
def Nd.root(n:Nd st0 X st h p a f):∃c x w b,st a=AA (ndO p c x h w b)/\F9 b/\a∈f/\st0 a=AD:=by
 cases n with
 |mk g e q o m d l k j=>show{_,_,_,_,g,e,∎,d}
def Nd.upd(n:Nd st0 X st h p a f)(r:f.Nodup){x w kd}(k:st a=AA (ndO p la x h w kd))(u:F9 kd'):Nd st0 X (b0 st a (ndO p la x h' w' kd')) h' p a f:=by
 cases n with
 |@mk _ _ _ s I J t N L m K l F E C B A j=>
  rw[k]at m;erw[ndO,ndF,CH,Ob.ins.injEq,As,JU,D.ref.injEq,D.int.injEq,true_and,and_true]at m;let{rfl,rfl,rfl,rfl}:=m;have g:la≠a:=λz=>by rw[z,k]at l;cases l
  have y:KpN X st (b0 st a (ndO p la x h' w' kd')):=λb o _ d e=>c9 e (λz=>by rw[z,k]at e;cases e;show d _ _ rfl);apply .mk c8 u (c9 l g) F E C B A λi c b f H G q=>(j i c b f H G q).stay (λM v o d=>c9 d λz=>?_) y;subst z;show(BP.mp r).1 (CT.mpr {f,BE q,v})
end
structure PNo(P:j6)(G:Gs):Prop extends PKo P G where
 nin:P (f8 "Node" "__init__")=AA ai9
 ncl:G.cls "Node"=[("program":Str),("inside":Str),("number":Str),("holders":Str),("ways":Str),("used":Str),("kind":Str)]
 nod:P "noded"=AA aq6
 fol:P "folded"=AA P8
 kon:P "kind_of_node"=AA al0
 ko:P "kind_of"=AA ao1
 shn:P "shelved_names"=AA ai7
 shk:P "shelved_kind"=AA ak6
section
variable (T:PNo P G) 
include T
def cf7{a:AI}{p:Pg}{x:Int}(q:Q .non (b0 st a (ndO p la x 0 0 .non))):sem P G (n+1) (f8 "Node" "__init__") [.ref a,p.d,.ref la,.int x] (b0 st a (.ins "Node" [])) Q:=by
 apply g9 T.nin rfl [AA (.ref a),AA p.d,AA (.ref la),AA (.int x)] rfl ?_;have b:∀f∈([("program":Str),("inside":Str),("number":Str),("holders":Str),("ways":Str),("used":Str),("kind":Str)]:List Str),f∈G.cls "Node":=λf c=>by rw[T.ncl];show c
 ∎;apply{a,"Node",_,rfl,c8,b _ ∎,∅,?_};rw[P5];∎;apply{a,"Node",_,rfl,c8,b _ ∎,by simp[o8],?_};rw[P5];∎;apply{a,"Node",_,rfl,c8,b _ ∎,by simp[o8,A5],?_};rw[P5];∎;apply{a,"Node",_,rfl,c8,b _ ∎,by simp[o8,A5],?_};rw[P5];∎;apply{a,"Node",_,rfl,c8,b _ ∎,by simp[o8,A5],?_};rw[P5];∎;apply{a,"Node",_,rfl,c8,b _ ∎,by simp[o8,A5],?_};rw[P5];∎;apply{a,"Node",_,rfl,c8,b _ ∎,by simp[o8,A5],?_};rw[P5];apply bh1 ?_;have e:o8 "kind" .non (o8 "used" .non (o8 "ways" (.int 0) (o8 "holders" (.int 0) (o8 "number" (.int x) (o8 "inside" (.ref la) (o8 "program" p.d []))))))=ndF p la x 0 0 .non:=rfl
 show q
end
@[reducible]noncomputable def Tre:=Int×Pg×AI×List AI
structure FO(st0:Sto)(X:List AI)(l:List Tre)(st:Sto):Prop where
 nd:∀e∈l,Nd st0 X st e.1 e.2.1 e.2.2.1 e.2.2.2
 dj:(l.map (·.2.2.2)).flatten.Nodup
section
variable {st0:Sto} {l l1 l2:List Tre}
theorem FO.stay(h:FO st0 X l st)(d:∀b∈(l.map (·.2.2.2)).flatten,∀o,st b=AA o->st' b=AA o)(c:KpN X st st'):FO st0 X l st':=
 {λe a=>(h.nd e a).stay (λb f=>d b (CT.mpr {_,CO.mpr ⟨e,a,rfl⟩,f})) c,h.dj}
theorem FO.upd{w x:Int}{b k:AI}{f:List AI}{kd:D}(F:FO st0 X (l1++(h,c,b,f)::l2) st)(m:st b=AA (ndO c k x h w kd))(s:F9 kd'):FO st0 X (l1++(h',c,b,f)::l2) (b0 st b (ndO c k x h' w' kd')):=by
 have n:=F.nd (h,c,b,f) ∎;let{_,_,_,_,_,_,i,_}:=n.root;have l:=F.dj;erw[Ad,Ar,Dl,De]at l;have r:=EO.mp l;have q:=EO.mp r.2.1;have p:KpN X st (b0 st b (ndO c k x h' w' kd')):=λj o _ g e=>c9 e (λz=>by rw[z,m]at e;cases e;show g _ _ rfl);apply{λe t=>?_,by simpa using l}
 rcases BD.mp t with d|d
 ·apply(F.nd e (by simp[d])).stay (λj a o g=>c9 g (λz=>?_)) p;show r.2.2 j (CT.mpr {_,CO.mpr ⟨e,d,rfl⟩,a}) b (EF _ i) z
 ·rcases AM.mp d with rfl|d
  ·show n.upd q.1 m s
  ·apply(F.nd e (by simp[d])).stay (λj a o g=>c9 g (λz=>?_)) p;show q.2.2 b i j (CT.mpr {_,CO.mpr ⟨e,d,rfl⟩,a}) z.symm
def Nd.monoX{Y}{p}{f}(n:Nd st0 X st h p a f)(c:∀y∈Y,y∈X):Nd st0 Y st h p a f:=by
 induction n with
 |mk m l k j i g e d _ b=>show .mk m l k (λz=>j (c _ z)) i g e d b
end
def b42{p}{x w}{kd}:o8 "holders" (.int h') (ndF p la x h w kd)=ndF p la x h' w kd:=rfl
def bd6{p}{x w}{kd}:o8 "ways" (.int w') (ndF p la x h w kd)=ndF p la x h w' kd:=rfl
def b68{p}{x w}{kd}:o8 "kind" kd' (ndF p la x h w kd)=ndF p la x h w kd':=rfl
section
variable (T:PNo P G) 
include T
def cc4{p:Pg}(hn:5<=n)(hp:p.parts<=2000)(hna:st na=AA (.lst []))(hX:∀x∈X,∃o,st x=AA o)
  (q:∀a f j,Nd st X j 0 p a f->Kp [na] st j->Q (.ref a) j):sem P G n "noded" [p.d,.ref na] st Q:=by
 obtain⟨n,rfl⟩:∃m,n=m+5:={n-5,⋯};have hc:∀f∈([("program":Str),("inside":Str),("number":Str),("holders":Str),("ways":Str),("used":Str),("kind":Str)]:List Str),f∈G.cls "Node":=λf R=>by rw[T.ncl];show R
 apply g9 T.nod rfl [AA p.d,AA (.ref na),AD,AD,AD] rfl ?_;(iterate 2 ∎);apply{oy T.mop,by rw[T.inner];rfl,?_};apply cm5 T.toPM (n:=n+2) (T:=Pg) (enc:=Pg.d) (subs:=Pg.kids) (size:=Pg.parts) (Dj:=λ_=>True) (L:=[na]) Pg.parts_kids (λ_ _ _ _=>trivial) (F:=.fn "inner") (show(P _).isSome=AC by rw[T.inner];rfl) (show Cok P (.clo _ _ _ _) from trivial) p hp trivial (by simp;show⟨_,hna⟩)
  (Y:=λU S ds j=>∃(l:List Tre)(A:List D),FO st (U::na::X) l j/\l.map (·.2.1)=S/\ds=l.map (λe=>D.ref e.2.2.1)/\(∀e∈l,e.1=0)/\U∉(l.map (·.2.2.2)).flatten/\j na=AA (.lst A)/\A.length=(S.map Pg.parts).sum) ?_ ?_ ?_ ?_ ?_ ?_
 ·rintro U S ds st1 ⟨l,A,_,_,_,_,_,h,_⟩ a ha;simp at ha;subst ha;show⟨_,h⟩
 ·intro U j hdn K;show{[],[],{∎,∎},rfl,rfl,∎,∎,K.at' hna ∎,∎}
 ·rintro U S ds st1 st2 hdn ⟨l,A,F,e1,e2,e3,e4,e5,e6⟩ K;apply{l,A,F.stay (λb s o B=>K.at' B (by simp;show λz=>e4 (z▸s))) (λb o s _ B=>K.at' B (by simp at s ⊢;show s.1)),e1,e2,e3,e4,K.at' e5 (by simp;show λz=>by rw[z,hdn]at hna;cases hna),e6}
 ·intro c j Q _ K k;apply U7 T.toPIn c λa b=>k _ _ (.inr ⟨a,rfl,b,c8⟩) (Kp.refl.new b)
 ·rintro c U la j Q S ds xs _ K hdn hlaL hne hl0 hla hlx hlS ⟨l,A,F,e1,e2,e3,e4,e5,e6⟩ hd hsum k;obtain⟨E,O,rfl,m1,m2⟩:∃E O:List Tre,l=E++O/\E.map (·.2.1)=S/\O.map (·.2.1)=c.kids:=by
   apply{l.take S.length,l.drop S.length,(FC _ _).symm,?_,?_}
   ·rw[Ln,e1,Jc];rfl
   ·rw[KJ,e1,List.drop_left'];rfl
  rw[Ad]at e2;have hl1:E.length=S.length:=by rw[<-m1,AX]
  let{x1,x2}:=List.append_inj e2 (by rw[hlS,AX,hl1]);subst x1 x2;have hpc:=Pg.parts_kids c;rw[Ad,DC]at e6;apply S7 rfl [AA c.d,AA (.ref la),AA (.ref na),AD,AD] rfl ?_;∎;apply{by change(AC&&_)=AC;rw[T.nin];rfl,?_};rw[w6 (.inl e5)];intro r C;apply af1 (n:=n+1) ?_;apply cf7 T ?_;have H:na≠r:=n8 e5 C;have hnd0:st r=AD:=by
   cases z:st r with
   |none=>rfl
   |some u=>
    by_cases hz:r=na
    ·show absurd hz.symm H
    ·rw[K.at' z (by simpa using hz)]at C;cases C
  have fr:∀b∈((E++O).map (·.2.2.2)).flatten,b≠r:=λb s z=>by
   let{f,R,s}:=CT.mp s;let{e,t,rfl}:=CO.mp R;let{fl,h}:=(F.nd e t).ins b s;rw[z,C]at h;cases h
  have fna:∀b∈((E++O).map (·.2.2.2)).flatten,b≠na:=λb s z=>by
   let{f,R,s}:=CT.mp s;let{e,t,rfl}:=CO.mp R;let{fl,h}:=(F.nd e t).ins b s;rw[z,e5]at h;cases h
  ∎;have e5':b0 j r (ndO c la A.length 0 0 .non) na=AA (.lst A):=l8 e5 C;rw[y6 (.inl e5'),D2 e5'];apply{trivial,B8 ⋯,?_};have N1:KpN [na] j (b0 (b0 j r (ndO c la A.length 0 0 .non)) na (.lst (A++[.ref r]))):=λb o s _ B=>c9 (l8 B C) (by simpa using s);have K1:Kp [na] st (b0 (b0 j r (ndO c la A.length 0 0 .non)) na (.lst (A++[.ref r]))):=(K.new C).put ∎;have F1:FO st (U::na::X) (E++O) (b0 (b0 j r (ndO c la A.length 0 0 .non)) na (.lst (A++[.ref r]))):=F.stay (λb s o B=>c9 (l8 B C) (fna b s)) (λb o s _ B=>c9 (l8 B C) (by simp at s;show s.2.1));have d1:(b0 (b0 j r (ndO c la A.length 0 0 .non)) na (.lst (A++[.ref r]))) r=AA (ndO c la A.length 0 0 .non):=c9 c8 H.symm;have na1:(b0 (b0 j r (ndO c la A.length 0 0 .non)) na (.lst (A++[.ref r]))) na=AA (.lst (A++[.ref r])):=c8;have la1:=N1 la _ hlaL (λ_ _ z=>by cases z) hla;revert N1 K1 F1 d1 na1 la1;generalize b0 (b0 j r (ndO c la A.length 0 0 .non)) na (.lst (A++[.ref r]))=s1;intro N1 K1 F1 d1 na1 la1;have e3':∀e∈E,e.1=0:=λe t=>e3 e (by simp[t]);have e32:∀e∈O,e.1=0:=λe t=>e3 e (by simp[t]);∎;apply{_,.inl la1,?_};apply B2 (λll env N=>∃(g v:List Tre)(w:Int)(x4:Option D),ll=v.map (λe=>D.ref e.2.2.1)/\(g++v).map (·.2)=O.map (·.2)/\(∀e∈g,e.1=1)/\(∀e∈v,e.1=0)/\env=[AA c.d,AA (.ref la),AA (.ref na),AA (.ref r),x4]/\FO st (U::na::X) (E++(g++v)) N/\N r=AA (ndO c la A.length 0 w .non)/\KpN [na] j N/\Kp [na] st N/\N na=AA (.lst (A++[.ref r]))) ?_ ?_ _ _ _ {[],O,0,AD,rfl,rfl,∎,e32,rfl,F1,d1,N1,K1,na1}
  ·rintro env N ⟨g,v,w,x4,el,em,hp1,_,rfl,F2,d2,N2,K2,na2⟩;have es:v=[]:=by simpa using el.symm
   subst es;rw[BF]at em F2;apply{.inl (N2 la _ hlaL (λ_ _ z=>by cases z) hla),?_};have fin:∀(w:Int)(W:Sto),FO st (U::na::X) (E++g) W->W r=AA (ndO c la A.length 0 w .non)->KpN [na] j W->Kp [na] st W->W na=AA (.lst (A++[.ref r]))->Q (.ref r) W:=by
    intro w W F3 d3 N3 K3 Z;have hk:g.map (·.2.1)=c.kids:=by
     have:=congrArg (FP (λz:Pg×AI×List AI=>z.1)) em;rw[CU,CU]at this;rw[<-m2];show this
    have R:g.map (·.2.2.2)=O.map (·.2.2.2):=by
     have:=congrArg (FP (λz:Pg×AI×List AI=>z.2.2)) em;rw[CU,CU]at this;show this
    have hr:g.map (λe=>D.ref e.2.2.1)=O.map (λe=>D.ref e.2.2.1):=by
     have:=congrArg (FP (λz:Pg×AI×List AI=>D.ref z.2.1)) em;rw[CU,CU]at this;show this
    have hla3:W la=AA (.lst ((g.map (·.2.2.1)).map D.ref)):=by
     rw[N3 la _ hlaL (λ_ _ z=>by cases z) hla,CU,<-hr];rfl
    have hkl:g.length=c.kids.length:=by rw[<-hk,AX]
    have hf2:((E++g).map (·.2.2.2)).flatten=((E++O).map (·.2.2.2)).flatten:=by rw[Ad,Ad,R]
    have hfl:((E++[((0:Int),c,r,r::(g.map (·.2.2.2)).flatten)]).map (·.2.2.2)).flatten=(E.map (·.2.2.2)).flatten++r::(g.map (·.2.2.2)).flatten:=by simp
    apply k (.ref r) W {E++[(0,c,r,r::(g.map (·.2.2.2)).flatten)],A++[.ref r],{λe t=>?_,?_},by rw[Ad,m1];rfl,by rw[Ad];rfl,λe t=>?_,?_,Z,by erw[Af,AT,Aq,Ad,Ar,Eo,DC,DP,HN];lia} N3 K3
    ·rcases BD.mp t with t|t
     ·show F3.nd e (by simp[t])
     ·erw[Ao]at t;subst t;apply .mk d3 (.inl rfl) hla3 ?_ hl0 hnd0 (by rw[AX,hkl]) (by rw[AX,hkl]) λi a b c x1 x2 x3=>?_
      ·erw[AM,not_or];apply{hne,by simpa using hlaL,λz=>?_};let{o,h}:=hX la z;rw[hl0]at h;cases h
      ·rw[AY]at x2 x3;rw[<-hk,AY]at x1;cases hi:g[i]? with
       |none=>rw[hi]at x1;cases x1
       |some e=>
        rw[hi]at x1 x2 x3;cases x1;cases x2;cases x3;have hm:=BE hi;have:=F3.nd e (by simp[hm]);rw[hp1 e hm]at this;show this
    ·rw[hfl];have dj:=F3.dj;rw[Ad,Dl]at dj;let{g1,g2,g3}:=EO.mp dj;have gn:∀x∈((E++g).map (·.2.2.2)).flatten,x≠r:=λx a=>fr x (by rw[<-hf2];show a);rw[EO];apply{g1,BP.mpr {λz=>gn r (by rw[Ad,Dl];show BJ _ z) rfl,g2},λx hx y hy=>?_}
     rcases AM.mp hy with rfl|hy
     ·show gn x (by rw[Ad,Dl];show EF _ hx)
     ·show g3 x hx y hy
    ·rcases BD.mp t with t|t
     ·show e3' e t
     ·erw[Ao]at t;subst t;rfl
    ·rw[hfl];intro z;have hdnd:U≠r:=n8 hd C
     rcases BD.mp z with z|z
     ·show e4 (by rw[Ad,Dl];show EF _ z)
     ·rcases AM.mp z with z|z
      ·show hdnd z
      ·show e4 (by rw[Ad,Dl,<-R];show BJ _ z)
   obtain⟨w0,r0,hcd⟩:∃(w0:String)(r0:List D),c.d=.tup (.str w0::r0):=by cases c<;>show⟨_,_,rfl⟩
   rw[hcd];∎
   by_cases hw:w0="way"
   ·erw[hw,if_true];∎;apply{r,"Node",_,.int w,rfl,d2,hc _ ∎,rfl,?_};rfl';apply{r,"Node",_,rfl,d2,hc _ ∎,by simp[ndF],?_};rw[bd6];∎;have hx:∀b∈((E++g).map (·.2.2.2)).flatten,b≠r:=λb s=>fr b (by
     have R:g.map (·.2.2.2)=O.map (·.2.2.2):=by
      have:=congrArg (FP (λz:Pg×AI×List AI=>z.2.2)) em;rw[CU,CU]at this;show this
     rw[Ad,<-R,<-Ad];show s)
    apply c7 (fin (w+1) _ (F2.stay (λb s o B=>c9 B (hx b s)) λb o _ B h=>c9 h (λz=>by rw[z,d2]at h;cases h;show B _ _ rfl)) c8 (λb o s B h=>c9 (N2 b o s B h) (λz=>by rw[z,C]at h;cases h)) (λb o s h=>c9 (K2 b o s h) (λz=>by rw[z,hnd0]at h;cases h)) (c9 na2 H))
   ·erw[hw,if_false];∎;show c7 (fin w N F2 d2 N2 K2 na2)
  ·rintro d0 dl env N ih ⟨g,v,w,x4,el,em,hp1,hs0,rfl,F2,d2,N2,K2,na2⟩;apply{.inl (N2 la _ hlaL (λ_ _ z=>by cases z) hla),?_};cases v with
   |nil=>simp at el
   |cons e v=>
    erw[Ar,As]at el;let{rfl,rfl}:=el;let{h0,M,b,f}:=e;have hh:h0=0:=hs0 (h0,M,b,f) ∎;subst hh;have ne:=F2.nd (0,M,b,f) ∎;let{lb,xb,V,kb,s,hkb,hbf,_}:=ne.root;have hbn:b≠r:=fr b (by
     have R:(g++(0,M,b,f)::v).map (·.2.2.2)=O.map (·.2.2.2):=by
      have:=congrArg (FP (λz:Pg×AI×List AI=>z.2.2)) em;rw[CU,CU]at this;show this
     rw[Ad,<-R,<-Ad];show CT.mpr {f,CO.mpr {(0,M,b,f),∎,rfl},hbf})
    have hbna:b≠na:=λz=>by rw[z,na2]at s;cases s
    have hb0:st b=AD:=by
     let{_,_,_,_,_,_,_,h}:=ne.root;show h
    have hbst:∀o,(∀c fs,o≠.ins c fs)->j b≠AA o:=λo B h=>by
     have:=N2 b o (by simpa using hbna) B h;rw[s]at this;cases this;show B _ _ rfl
    rfl';∎;apply{b,"Node",_,.int 0,rfl,s,hc _ ∎,rfl,?_};rfl';apply{b,"Node",_,rfl,s,hc _ ∎,by simp[ndF],?_};rw[b42];have F3:FO st (U::na::X) ((E++g)++(1,M,b,f)::v) (b0 N b (ndO M lb xb 1 V kb)):=FO.upd (h:=0) (w:=V) (kd:=kb) (by rw[Bo];show F2) s hkb;have d3:(b0 N b (ndO M lb xb 1 V kb)) r=AA (ndO c la A.length 0 w .non):=c9 d2 hbn.symm;have b3:(b0 N b (ndO M lb xb 1 V kb)) b=AA (ndO M lb xb 1 V kb):=c8;have N3:KpN [na] j (b0 N b (ndO M lb xb 1 V kb)):=λa o I B h=>c9 (N2 a o I B h) (λz=>hbst o B (z▸h));have K3:Kp [na] st (b0 N b (ndO M lb xb 1 V kb)):=λa o I h=>c9 (K2 a o I h) (λz=>by rw[z,hb0]at h;cases h);have Z:=c9 (u:=ndO M lb xb 1 V kb) na2 hbna.symm;have e01:((0:Int)+1)=1:=by decide
    rw[e01];change i9 _ _ _ _ (b0 N b (ndO M lb xb 1 V kb));revert F3 d3 b3 N3 K3 Z;generalize b0 N b (ndO M lb xb 1 V kb)=W;intro F3 d3 b3 N3 K3 Z;∎;apply{r,"Node",_,.int w,rfl,d3,hc _ ∎,rfl,?_};rfl';apply{b,"Node",_,.int V,rfl,b3,hc _ ∎,rfl,?_};rfl';apply{r,"Node",_,rfl,d3,hc _ ∎,by simp[ndF],?_};rw[bd6];rfl';apply ih _ _ {g++[(1,M,b,f)],v,_,_,rfl,by rw[<-em];simp,λe t=>?_,λe t=>hs0 e (by simp[t]),rfl,?_,c8,λa o I B h=>c9 (N3 a o I B h) (λz=>by rw[z,C]at h;cases h),λa o I h=>c9 (K3 a o I h) (λz=>by rw[z,hnd0]at h;cases h),c9 Z H}
    ·rcases BD.mp t with t|t
     ·show hp1 e t
     ·erw[Ao]at t;subst t;rfl
    ·have F4:FO st (U::na::X) (E++((g++[(1,M,b,f)])++v)) W:=by simpa using F3
     apply F4.stay (λa I o B=>c9 B (fr a ?_)) λa o _ B h=>c9 h (λz=>by rw[z,d3]at h;cases h;show B _ _ rfl);have R:((g++[((1:Int),M,b,f)])++v).map (·.2.2.2)=O.map (·.2.2.2):=by
      have:=congrArg (FP (λz:Pg×AI×List AI=>z.2.2)) em;rw[CU,CU]at this;apply Ka ?_ this;simp[Function.comp_def]
     rw[Ad,<-R,<-Ad];show I
 ·rintro U d j hdn ⟨l,A,F,e1,e2,e3,e4,e5,e6⟩ K
  match l,e1 with
  |[e],e1=>
   have e1:e.2.1=p:=by simpa using e1
   have n:=F.nd e ∎;rw[e3 e ∎,e1]at n;have:d=.ref e.2.2.1:=by simpa using e2
   subst this;show c7 (q _ _ j (n.monoX (by intro y hy;simp[hy])) K)
end
structure KpI(R L:List AI)(st st':Sto):Prop where
 n:KpN L st st'
 i:∀b c la x h w kd,st b=AA (ndO c la x h w kd)->F9 kd->∃kd',F9 kd'/\st' b=AA (ndO c la x h w kd')
 e:∀b,st' b=AD->st b=AD
 k:∀b o,b∉L->b∉R->st b=AA o->st' b=AA o
section
variable {R M:List AI} {s1 s2 s3:Sto} {p:AI} {o:Ob} {es:List D}
def N6{q}(h:b0 st p o q=AD):st q=AD:=by
 by_cases z:q=p
 ·rw[z,c8]at h;cases h
 ·cases e:st q with
  |none=>rfl
  |some u=>rw[c9 e z]at h;cases h
def KpI.refl:KpI R L st st:={λ_ _ _ _ h=>h,λ_ _ _ _ _ _ a h k=>⟨a,k,h⟩,λ_ h=>h,λ_ _ _ _ h=>h}
def KpI.trans(a:KpI R L s1 s2)(b:KpI R L s2 s3):KpI R L s1 s3:=⟨λx o n g h=>b.n x o n g (a.n x o n g h),λx c f y h w j e k=>by
 let{d,l,p}:=a.i x c f y h w j e k;show b.i x c f y h w d p l,λx h=>a.e x (b.e x h),λx o n m h=>b.k x o n m (a.k x o n m h)⟩
def KpI.more(a:KpI R L s1 s2)(s:∀d∈L,d∈M):KpI R M s1 s2:={λx o n b=>a.n x o (λz=>n (s x z)) b,a.i,a.e,λx o n m=>a.k x o (λz=>n (s x z)) m}
def KpI.new(a:KpI R L st st')(h:st' p=AD):KpI R L st (b0 st' p o):=a.trans {λx o n f e=>l8 e h,λx c d y g w b e k=>{b,k,l8 e h},λ_=>N6,λ_ _ _ _ e=>l8 e h}
def KpI.put(a:KpI R L st st')(h:p∈L)(d:st' p=AA (.lst ds)):KpI R L st (b0 st' p o):=a.trans {λx o n g e=>c9 e λz=>n (z▸h),λx c f y i w b e k=>{b,k,c9 e λz=>by rw[z,d]at e;cases e},λ_=>N6,λx o n _ e=>c9 e λz=>n (z▸h)}
def KpI.drop(a:KpI R (p::L) st st')(h:st p=AD):KpI R L st st':={λx o n b e=>a.n x o (λz=>by rcases AM.mp z with z|z;show n8 e h z;show n z) b e,a.i,a.e,λx o n m e=>a.k x o (λz=>by rcases AM.mp z with z|z;show n8 e h z;show n z) m e}
theorem KpI.lst(a:KpI R L st st')(h:st p=AA (.lst ds))(n:p∉L):st' p=AA (.lst ds):=a.n p _ n (λ_ _ z=>by cases z) h
def KA.noNode{b}{S}(K:KA sh dn sa pa wa S ws st){fl}(h:st b=AA (.ins "Node" fl)):b∉shL sh dn sa pa wa:=by
 intro z;erw[AM,Ah,or_false]at z
 rcases z with rfl|rfl|rfl|rfl|rfl
 ·have:=K.A.ins;rw[h]at this;simp[A5]at this
 ·have:=K.A.num;rw[h]at this;simp at this
 ·have:=K.A.sto;rw[h]at this;simp at this
 ·have:=K.A.par;rw[h]at this;simp at this
 ·have:=K.W;rw[h]at this;simp at this
def KpI.ofKp{S}(K:KA sh dn sa pa wa S ws st)(d:KA sh dn sa pa wa S' ws' st')(x:Kp (shL sh dn sa pa wa) st st'):KpI R (shL sh dn sa pa wa) st st':={λb o n _=>x b o n,λb c g y h w f e k=>{f,k,x b _ (K.noNode e) e},λb a=>(by
 by_cases z:b∈shL sh dn sa pa wa
 ·erw[AM,Ah,or_false]at z
  rcases z with rfl|rfl|rfl|rfl|rfl
  ·have:=d.A.ins;rw[a]at this;cases this
  ·have:=d.A.num;rw[a]at this;cases this
  ·have:=d.A.sto;rw[a]at this;cases this
  ·have:=d.A.par;rw[a]at this;cases this
  ·have:=d.W;rw[a]at this;cases this
 ·cases e:st b with
  |none=>rfl
  |some u=>rw[x b u z e]at a;cases a),λb o n _=>x b o n}
def Nd.kpi{st0}{p}{f}(n:Nd st0 X st h p a f)(K:KpI R L st st')(k:∀y∈L,y∈X):Nd st0 X st' h p a f:=by
 induction n with
 |@mk h p a c x w e A v t s r b q o m l _ j=>
  let{d,g,u}:=K.i a p c x h w e t s;show .mk u g (K.lst r λz=>b (k _ z)) b q o m l j
def Nd.addX{st0}{p}{f}{x}(n:Nd st0 X st h p a f)(m:st x=AD):Nd st0 (x::X) st h p a f:=by
 induction n with
 |mk k j i o g e d c _ b=>show .mk k j i λz=>by simp_all g e d c b
end
abbrev ay4(P:j6)(G:Gs)(n:Nat)(sh dn sa pa wa:AI)(nm:D):Prop:=∀(st:Sto)(S:List It3)(ws:List (Kd×Bool))(ca:AI)(p:Pg)(i:Nat)(a:Kd)(ks:List Kd)(Q:DK),KA sh dn sa pa wa S ws st->p.told 3->p.more i=1->p.nw ks i=AA a->st ca=AA (.lst (p8 S ks))->(∀k∈ks,Has S k.d)->S.length+128<=9000000->StQ sh dn sa pa wa S ws st a Q->G5 P G n nm [p.d,.ref ca,.int i] st Q
abbrev ay7(P:j6)(G:Gs)(n:Nat)(sh dn sa pa wa:AI)(md:D):Prop:=∀(st:Sto)(S:List It3)(ws:List (Kd×Bool))(ca ka b la:AI)(p:Pg)(Γ:List Kd)(k:Kd)(ks:List Kd)(kn:List Int)(x h w:Int)(kd:D)(Q:DK),KA sh dn sa pa wa S ws st->p.told 3->p.kk Γ ks=AA k->st ca=AA (.lst (p8 S ks))->(∀k∈ks,Has S k.d)->st ka=AA (.lst (kn.map D.int))->KnOk S ws Γ kn->ca∉shL sh dn sa pa wa->S.length+128<=9000000->st b=AA (ndO p la x h w kd)->F9 kd->(∀S' ws' st' kd',Has S' k.d->S <+: S'->S'.length<=S.length+128->KA sh dn sa pa wa S' ws' st'->WUp ws ws'->Kp (b::shL sh dn sa pa wa) st st'->st' b=AA (ndO p la x h w kd')->F9 kd'->Q (.int (nb S' k.d:Nat)) st')->G5 P G n md [.ref b,.ref ca,.ref ka] st Q
structure FS(sh dn sa pa wa ka ba aa da:AI)(S:List It3)(ws:List (Kd×Bool))(kn:List Int)(B A:List D)(st:Sto):Prop where
 K:KA sh dn sa pa wa S ws st
 k:st ka=AA (.lst (kn.map D.int))
 b:st ba=AA (.lst B)
 a:st aa=AA (.lst A)
 d:st da=AA (.dtt [])
@[reducible]noncomputable def fL(sh dn sa pa wa ka ba aa:AI):List AI:=ka::ba::aa::shL sh dn sa pa wa
abbrev L0:Ss:=match P8.body with
 |.cons _ (.cons _ (.cons _ (.cons (.while _ b) _)))=>b
 |_=>.nil
def O2{α}{xs}{x:α}:atI (xs++[x]) (-1)=AA x:=by
 unfold atI ixN;rw[if_neg ∅,if_pos (by simp;lia)];have:(-1+((xs.length:Int)+1)).toNat=xs.length:=by lia
 simp[this]
section
variable {R:List AI} (T:PNo P G) {S:List It3} 
include T
def bz2(hnm:Cok P nm)(N:ay4 P G (n+1) sh dn sa pa wa nm)(dj:(ka::ba::aa::da::shL sh dn sa pa wa).Nodup){F:DEnds}{r:List Int}{B:List D}{x w:Int}{kd:D}{x7 x8 x9 I:Option D}{p:Pg}{b:AI}
  (H:FS sh dn sa pa wa ka ba aa da S ws r (B++[.ref a]) (A++[.ref ca]) st) (hc:st ca=AA (.lst (p8 S ks))) (hh:∀k∈ks,Has S k.d) (Q:st a=AA (ndO p la x h w kd)) (hkd:F9 kd) (h1:h<=1) (hl:st la=AA (.lst (as.map D.ref))) (hi:p.kids[ks.length]?=AA c) (hb:as[ks.length]?=AA b) (ht:p.told 3) (hC:Cxt p ks ks.length Γ Δ) (L:KnOk S ws Γ r) (hS:S.length+128<=9000000) (hB:B.length+1<100000) (hA:A.length+1<100000) (hK:r.length<100000) (O:ca∉ka::ba::aa::da::shL sh dn sa pa wa) (E:la∉ka::ba::aa::da::shL sh dn sa pa wa)
  (q:∀o j g l u y7 y8 y9 Z,FS sh dn sa pa wa ka ba aa da o j l (B++[.ref a]++[.ref b]) (A++[.ref ca]++[.ref u]) g->g u=AA (.lst [])->st u=AD->S <+: o->o.length<=S.length+128->WUp ws j->KnOk o j Δ l->l.take r.length=r->l.length=r.length+p.more ks.length->KpI R (fL sh dn sa pa wa ka ba aa) st g->F.ct [AA nd,AA (.ref ka),AA nm,AA md,AA (.ref ba),AA (.ref aa),AA (.ref da),y7,y8,y9,Z] g) :
  i9 (Zg P G (n+1)) L0 F [AA nd,AA (.ref ka),AA nm,AA md,AA (.ref ba),AA (.ref aa),AA (.ref da),x7,x8,x9,I] st:=by
 have m:∀f∈([("program":Str),("inside":Str),("number":Str),("holders":Str),("ways":Str),("used":Str),("kind":Str)]:List Str),f∈G.cls "Node":=λf hf=>by rw[T.ncl];show hf
 unfold L0 P8;simp only;∎;rw[o0 (.inl H.b)];apply{_,O2,?_};∎;rw[o0 (.inl H.a)];apply{_,O2,?_};rw[w6 (.inl hc)];∎;apply{a,"Node",_,.int h,rfl,Q,m _ ∎,rfl,?_};rfl';rw[if_neg ⋯];∎;apply{H.d,?_};rfl';apply{a,"Node",_,.ref la,rfl,Q,m _ ∎,rfl,?_};rw[w6 (.inl hl)];rfl';have z:(p8 S ks).length=ks.length:=by simp[p8]
 have hlt:=(AS.mp hb).1;rw[if_pos (by rw[z,AX];lia),z];erw[BP,AM,Ah,or_false,not_or]at dj;let{{d1,d2,d3,d4},{Y,d6,d7},{d8,d9},d10,_}:=dj;have hcl0:=O;have hll0:=E;erw[AM,Ah,or_false,not_or]at O E;have l6:∀(F':DEnds)o j g l,F'.ct=F.ct->FS sh dn sa pa wa ka ba aa da o j l (B++[.ref a]) (A++[.ref ca]) g->S <+: o->o.length<=S.length+128->WUp ws j->KnOk o j Δ l->l.take r.length=r->l.length=r.length+p.more ks.length->KpI R (fL sh dn sa pa wa ka ba aa) st g ->
   i9 (Zg P G (n+1)) (.cons (.ex (.app (.v 4) (.ix (.fld (.v 7) "inside") (.v 8)))) (.cons (.ex (.app (.v 5) (.lst .nil))) (.cons .cont .nil))) F' [AA nd,AA (.ref ka),AA nm,AA md,AA (.ref ba),AA (.ref aa),AA (.ref da),AA (.ref a),AA (.int ks.length),AA .non,I] g:=by
  intro F' o j g l eF t e1 e2 e3 e4 e5 e6 X;let{kd',_,ha'}:=X.i a p la x h w kd Q hkd;have hl':=X.lst hl (by simp[E]);∎;rw[y6 (.inl t.b)];apply{trivial,a,"Node",_,.ref la,rfl,ha',m _ ∎,rfl,?_};rw[o0 (.inl hl')];apply{.ref b,by rw[u0,AY,hb];rfl,?_};rw[D2 t.b];apply{B8 (by simp;lia),?_};∎;rw[y6 (.inl (c9 t.a (Ax Y)))];apply{trivial,λu s=>?_};have C:=N6 s;have cbb:ba≠u:=n8 t.b C;have cba:aa≠u:=n8 t.a C;rw[D2 (l8 (c9 t.a (Ax Y)) s)];apply{B8 (by simp;lia),?_};∎;rw[eF];have W:Kp [ba,aa] g (b0 (b0 (b0 g ba (.lst (B++[.ref a]++[.ref b]))) u (.lst [])) aa (.lst (A++[.ref ca]++[.ref u]))):=((Kp.refl.put ∎).new s).put ∎;apply q o j _ l u _ _ _ _ {t.K.keepL W ?_,W.at' t.k (by simp[d1,d2]),c9 (c9 c8 cbb) Y,c8,W.at' t.d (by simp[Ax d6,Ax d8])} (c9 c8 (Ax cba)) (X.e _ C) e1 e2 e3 e4 e5 e6 (((X.put ∎ t.b).new s).put ∎ (l8 (c9 t.a (Ax Y)) s));intro y J;erw[AM,Ah,or_false]at J ⊢
  rcases J with rfl|rfl
  ·simp[d7]
  ·simp[d9]
 ∎;apply{oy T.more,a,"Node",_,p.d,rfl,Q,m _ ∎,rfl,ad2 T.toPIn p ks.length ?_};rfl'
 rcases hC with⟨m0,rfl⟩|⟨m1,V,hw,rfl⟩
 ·erw[m0];rw[if_neg ∅];show l6 _ S ws st r rfl H (DD _) ⋯ rfl L (Ep ..) ⋯ KpI.refl
 ·erw[m1];∎;rw[y6 (.inl H.k)];apply{trivial,V0 hnm ?_};rfl';apply{a,"Node",_,p.d,rfl,Q,m _ ∎,rfl,?_};rw[o0 (.inl H.a)];apply{_,O2,?_};apply N st S ws ca p ks.length V ks _ H.K ht m1 hw hc hh hS λo j g g1 g2 g3 g4 g5 U=>?_;have M:=U.at' H.k (by simp[d4]);rw[D2 M];apply{B8 (by simp;lia),?_};have ek:r.map D.int++[D.int (nb o V.d:Nat)]=(r++[((nb o V.d:Nat):Int)]).map D.int:=by simp
  rw[ek];have W:Kp [ka] g (b0 g ka (.lst ((r++[((nb o V.d:Nat):Int)]).map D.int))):=Kp.refl.put ∎;apply l6 _ o j _ (r++[((nb o V.d:Nat):Int)]) rfl {g4.keepL W (by simp[d4]),c8,c9 (U.at' H.b (by simp[d7])) (Ax d1),c9 (U.at' H.a (by simp[d9])) (Ax d2),c9 (U.at' H.d (by simp[d10])) (Ax d3)} g2 g3 g5 ((L.up g4.A.wf g2 g5).cons (.inl ⟨rfl,g1⟩)) ∎ (by simp[m1]) (((KpI.ofKp H.K g4 U).more (by intro y J;erw[AM,Ah,or_false]at J ⊢;simp[J])).put ∎ M)
end
def KpI.ofMd{R}{b}{S}{x w}{kd}(K:KA sh dn sa pa wa S ws st)(d:KA sh dn sa pa wa S' ws' st')(y:Kp (b::shL sh dn sa pa wa) st st')(j:st b=AA (ndO c la x h w kd))(i:st' b=AA (ndO c la x h w kd'))(r:F9 kd')(g:b∈R):KpI R (shL sh dn sa pa wa) st st':=by
 apply{λz o n p e=>y z o (λq=>?_) e,λz C l s B v f e k=>?_,λz a=>?_,λz o n m e=>y z o (λq=>by rcases AM.mp q with rfl|q;show m g;show n q) e}
 ·rcases AM.mp q with rfl|q
  ·rw[j]at e;cases e;show p _ _ rfl
  ·show n q
 ·by_cases q:z=b
  ·subst q;rw[j]at e;apply{kd',r,?_};rw[i];erw[ndO,ndF,CH,Ob.ins.injEq,As,true_and,and_true]at e ⊢;show⟨e.1,e.2.1,e.2.2.1,e.2.2.2.1,e.2.2.2.2.1⟩
  ·apply{f,k,y z _ (λt=>?_) e}
   rcases AM.mp t with t|t
   ·show q t
   ·show K.noNode e t
 ·by_cases q:z∈shL sh dn sa pa wa
  ·erw[AM,Ah,or_false]at q
   rcases q with rfl|rfl|rfl|rfl|rfl
   ·have:=d.A.ins;rw[a]at this;cases this
   ·have:=d.A.num;rw[a]at this;cases this
   ·have:=d.A.sto;rw[a]at this;cases this
   ·have:=d.A.par;rw[a]at this;cases this
   ·have:=d.W;rw[a]at this;cases this
  ·cases e:st z with
   |none=>rfl
   |some u=>
    by_cases t:z=b
    ·simp_all
    ·rw[y z u (by simp_all) e]at a;cases a
def bj1(p:Pg)(i:Nat):p.more i=0\/p.more i=1:=by
 cases p<;>first|show .inl rfl|(erw[Pg.more];split<;>simp)
abbrev Ss.tl:Ss->Ss
 |.cons _ r=>r
 |.nil=>.nil
abbrev aa7:Ss:=L0.tl.tl.tl.tl.tl.tl.tl.tl
section
variable {R:List AI} (T:PNo P G) {S:List It3} 
include T
def bd3(J:Cok P md)(M:ay7 P G (n+1) sh dn sa pa wa md)(dj:(ka::ba::aa::da::shL sh dn sa pa wa).Nodup){F:DEnds}{v:List Int}{B:List D}{b C:AI}{x w:Int}{I:D}{x7 x8 x9 E:Option D}{k:Kd}
  (H:FS sh dn sa pa wa ka ba aa da S ws v (B++[.ref b]) (A++[.ref C]) st) (Z:st C=AA (.lst (p8 S ks))) (hh:∀k∈ks,Has S k.d) (p:st b=AA (ndO c la x h w I)) (N:F9 I) (h1:h<=1) (hl:st la=AA (.lst (as.map D.ref))) (hn:as.length=ks.length) (ht:c.told 3) (hk:c.kk Δ ks=AA k) (L:KnOk S ws Δ v) (hS:S.length+128<=9000000) (U:C∉shL sh dn sa pa wa) (V:b∈R)
  (q:∀o i g y7 y8,FS sh dn sa pa wa ka ba aa da o i v B A g->Has o k.d->S <+: o->o.length<=S.length+128->WUp ws i->KpI R (fL sh dn sa pa wa ka ba aa) st g->i9 (Zg P G (n+1)) aa7 F [AA nd,AA (.ref ka),AA nm,AA md,AA (.ref ba),AA (.ref aa),AA (.ref da),y7,y8,AA .non,AA (.int (nb o k.d:Nat))] g) :
  i9 (Zg P G (n+1)) L0 F [AA nd,AA (.ref ka),AA nm,AA md,AA (.ref ba),AA (.ref aa),AA (.ref da),x7,x8,x9,E] st:=by
 have l:∀f∈([("program":Str),("inside":Str),("number":Str),("holders":Str),("ways":Str),("used":Str),("kind":Str)]:List Str),f∈G.cls "Node":=λf hf=>by rw[T.ncl];show hf
 unfold L0 P8;simp only;∎;rw[o0 (.inl H.b)];apply{_,O2,?_};∎;rw[o0 (.inl H.a)];apply{_,O2,?_};rw[w6 (.inl Z)];∎;apply{b,"Node",_,.int h,rfl,p,l _ ∎,rfl,?_};rfl';rw[if_neg ⋯];∎;apply{H.d,?_};rfl';apply{b,"Node",_,.ref la,rfl,p,l _ ∎,rfl,?_};rw[w6 (.inl hl)];rfl';have j:(p8 S ks).length=ks.length:=by simp[p8]
 rw[if_neg (by rw[j,AX];lia),j];erw[BP,AM,Ah,or_false,not_or]at dj;let{{d1,d2,d3,d4},{W,d6,d7},{d8,d9},X,_}:=dj;∎;apply{H.d,?_};rfl';apply V0 J ?_;rfl';rw[o0 (.inl H.a)];apply{_,O2,?_};apply M st S ws C ka b la c Δ k ks v x h w I _ H.K ht hk Z hh H.k L U hS p N λo i g a g1 g2 g3 g4 g5 u g7 g8=>?_;have m:∀{y:AI}{ds:List D},st y=AA (.lst ds)->y≠b:=λe z=>by rw[z,p]at e;cases e
 have s:=u.at' H.b (by erw[AM,Ah,or_false,not_or];show{m H.b,d7});have t:=u.at' H.a (by erw[AM,Ah,or_false,not_or];show{m H.a,d9});have O:=u.at' H.k (by erw[AM,Ah,or_false,not_or];show{m H.k,d4});have Q:=u.at' H.d (by erw[AM,Ah,or_false,not_or];show{λz=>(by have:=H.d;rw[z,p]at this;cases this),X});∎;apply .inl ?_;∎;rw[X2 s];∎;rw[X2 (c9 t (Ax W))];have Y:Kp [ba,aa] g (b0 (b0 g ba (.lst B)) aa (.lst A)):=(Kp.refl.put ∎).put ∎;apply q o i _ _ _ {g4.keepL Y ?_,Y.at' O (by simp[d1,d2]),c9 c8 W,c8,Y.at' Q (by simp[Ax d6,Ax d8])} g1 g2 g3 g5 ((((KpI.ofMd H.K g4 u p g7 g8 V).more (by intro y r;erw[AM,Ah,or_false]at r ⊢;simp[r])).put ∎ s).put ∎ (c9 t (Ax W)));intro y r;erw[AM,Ah,or_false]at r ⊢
 rcases r with rfl|rfl
 ·simp[d7]
 ·simp[d9]
theorem ca7{F}{kn}{y7 y8 y9}{r}(H:FS sh dn sa pa wa ka ba aa da S ws kn [] A st)(q:F.rt r st):i9 (Zg P G (n+1)) aa7 F [AA nd,AA (.ref ka),AA nm,AA md,AA (.ref ba),AA (.ref aa),AA (.ref da),y7,y8,y9,AA r] st:=by
 ∎;rw[w6 (.inl H.b)];rfl';∎;show q
def ci3(M:(ka::ba::aa::da::shL sh dn sa pa wa).Nodup){F:DEnds}{j kn0:List Int}{B:List D}{x w:Int}{O:D}{z y u:Option D}{p:Pg}{r:D}{i:List D}(H:FS sh dn sa pa wa ka ba aa da S ws j (B++[.ref a]) (A++[.ref ca]) st)(I:st ca=AA (.lst i))(hl:i.length<100000)(U:st a=AA (ndO p la x h w O))(t:ca∉ka::ba::aa::da::shL sh dn sa pa wa)(C:j.take kn0.length=kn0)(L:j.length=kn0.length+p.more i.length)
  (q:∀c,FS sh dn sa pa wa ka ba aa da S ws kn0 (B++[.ref a]) (A++[.ref ca]) c->c ca=AA (.lst (i++[r]))->KpI R (ca::fL sh dn sa pa wa ka ba aa) st c->F.nx [AA nd,AA (.ref ka),AA nm,AA md,AA (.ref ba),AA (.ref aa),AA (.ref da),z,y,u,AA r] c):i9 (Zg P G (n+1)) aa7 F [AA nd,AA (.ref ka),AA nm,AA md,AA (.ref ba),AA (.ref aa),AA (.ref da),z,y,u,AA r] st:=by
 have s:∀f∈([("program":Str),("inside":Str),("number":Str),("holders":Str),("ways":Str),("used":Str),("kind":Str)]:List Str),f∈G.cls "Node":=λf Q=>by rw[T.ncl];show Q
 erw[BP,AM,Ah,or_false,not_or]at M t;let{{d1,Y,X,W},{d5,d6,d7},{d8,d9},Z,_}:=M;let{N,c2,c3,c4,c5}:=t;∎;rw[w6 (.inl H.b)];rfl';rw[if_neg (by erw[Af,AT,Aq];lia)];have J:∀c,FS sh dn sa pa wa ka ba aa da S ws kn0 (B++[.ref a]) (A++[.ref ca]) c->c ca=AA (.lst i)->KpI R (ca::fL sh dn sa pa wa ka ba aa) st c->i9 (Zg P G (n+1)) (.cons (.ex (.app (.ix (.v 5) (.neg (.int 1))) (.v 10))) .nil) F [AA nd,AA (.ref ka),AA nm,AA md,AA (.ref ba),AA (.ref aa),AA (.ref da),z,y,u,AA r] c:=by
  intro c m l KI;∎;rw[o0 (.inl m.a)];apply{_,O2,?_};rw[y6 (.inl l)];apply{trivial,?_};rw[D2 l];apply{B8 ⋯,?_};have g:Kp [ca] c (b0 c ca (.lst (i++[r]))):=Kp.refl.put ∎;show q _ {m.K.keepL g (by simp[c5]),g.at' m.k (by simp[Ax N]),g.at' m.b (by simp[Ax c2]),g.at' m.a (by simp[Ax c3]),g.at' m.d (by simp[Ax c4])} c8 (KI.put ∎ l)
 ∎;apply{oy T.more,?_};rw[o0 (.inl H.b)];apply{_,O2,a,"Node",_,p.d,rfl,U,s _ ∎,rfl,?_};rw[o0 (.inl H.a)];apply{_,O2,?_};rw[w6 (.inl I)];apply ad2 T.toPIn p i.length ?_;rfl';have o:=bj1 p i.length
 rcases o with o|o
 ·rw[o]at L ⊢;have e:j=kn0:=by rw[Cr ⋯]at C;show C
  subst e;show J st H I KpI.refl
 ·rw[o]at L ⊢;rw[if_pos ∅];obtain⟨e,rfl⟩:∃e,j=kn0++[e]:=by
   have V:(j.drop kn0.length).length=1:=by rw[Bz];lia
   match h4:j.drop kn0.length,V with
   |[e],_=>show⟨e,by have:=FC kn0.length j;rw[C,h4]at this;show this.symm⟩
  have E:=H.k;rw[Ad]at E;∎;rw[X2 E];have g:Kp [ka] st (b0 st ka (.lst (kn0.map D.int))):=Kp.refl.put ∎;show J _ {H.K.keepL g (by simp[W]),c8,g.at' H.b (by simp[Ax d1]),g.at' H.a (by simp[Ax Y]),g.at' H.d (by simp[Ax X])} (g.at' I (by simp[N])) (KpI.refl.put ∎ E)
end
def FS.fresh{cb}{S}{kn}{B}(H:FS sh dn sa pa wa ka ba aa da S ws kn B A st)(h:st cb=AD):cb∉ka::ba::aa::da::shL sh dn sa pa wa:=by
 intro z;simp at z
 rcases z with rfl|rfl|rfl|rfl|rfl|rfl|rfl|rfl|rfl
 ·have:=H.k;rw[h]at this;cases this
 ·have:=H.b;rw[h]at this;cases this
 ·have:=H.a;rw[h]at this;cases this
 ·have:=H.d;rw[h]at this;cases this
 ·have:=H.K.A.ins;rw[h]at this;cases this
 ·have:=H.K.A.num;rw[h]at this;cases this
 ·have:=H.K.A.sto;rw[h]at this;cases this
 ·have:=H.K.A.par;rw[h]at this;cases this
 ·have:=H.K.W;rw[h]at this;cases this
def wl{Z}{tb}{F}{t}{env}(h:tb {F with nx:=C9 (wpT Z (.bl AC)) tb F t,ct:=C9 (wpT Z (.bl AC)) tb F t,bk:=F.nx} env st):C9 (wpT Z (.bl AC)) tb F (t+1) env st:=⟨AC,rfl,h⟩
def cm8{S}(w:Wf S')(a:S <+: S')(h:∀k∈ks,Has S k.d):p8 S' ks=p8 S ks:=Fh λk b=>by rw[O4 w (h k b) a]
section
variable {R:List AI} (T:PNo P G) 
include T
def b76(hnm:Cok P nm)(N:ay4 P G (n+1) sh dn sa pa wa nm)(hmd:Cok P md)(M:ay7 P G (n+1) sh dn sa pa wa md)(dj:(ka::ba::aa::da::shL sh dn sa pa wa).Nodup){F:DEnds}:∀(z:Nat)(p:Pg),p.parts<=z->p.kn 3->∀{Γ:List Kd}{k:Kd}{h:Int}{st0 st:Sto}{X:List AI}{S:List It3}{ws:List (Kd×Bool)}{kn:List Int}{B A:List D}{a ca:AI}{f:List AI}{x7 x8 x9 x10:Option D}{m:Nat},
  p.kind Γ=AA k->h<=1->Nd st0 X st h p a f->(∀y∈f,y∈R)->(∀y∈ca::da::fL sh dn sa pa wa ka ba aa,y∈X)->FS sh dn sa pa wa ka ba aa da S ws kn (B++[.ref a]) (A++[.ref ca]) st->st ca=AA (.lst [])->KnOk S ws Γ kn->S.length+256*p.parts<=9000000->B.length+p.parts<100000->A.length+p.parts<100000->kn.length+p.parts<100000->ca∉ka::ba::aa::da::shL sh dn sa pa wa ->
  (∀S' ws' st' ks y7 y8 y9 y10,FS sh dn sa pa wa ka ba aa da S' ws' kn (B++[.ref a]) (A++[.ref ca]) st'->st' ca=AA (.lst (p8 S' ks))->ks.length=p.kids.length->(∀k∈ks,Has S' k.d)->p.kk Γ ks=AA k->S <+: S'->S'.length+256<=S.length+256*p.parts->WUp ws ws'->KpI R (ca::fL sh dn sa pa wa ka ba aa) st st'->C9 (wpT (Zg P G (n+1)) (.bl AC)) (i9 (Zg P G (n+1)) L0) F m [AA nd,AA (.ref ka),AA nm,AA md,AA (.ref ba),AA (.ref aa),AA (.ref da),y7,y8,y9,y10] st') ->
  C9 (wpT (Zg P G (n+1)) (.bl AC)) (i9 (Zg P G (n+1)) L0) F (m+2*(p.parts-1)) [AA nd,AA (.ref ka),AA nm,AA md,AA (.ref ba),AA (.ref aa),AA (.ref da),x7,x8,x9,x10] st:=by
 intro z
 induction z with
 |zero=>intro p hz;have:=Pg.parts_kids p;lia
 |succ z ih=>
  intro p hz hkn7 Γ k h st0 st X S ws kn B A a ca f x7 x8 x9 x10 m hk h1 nd0 hR hX H hc hkn hS hB hA hK hcl q;let{ks,kl,hkk,hkid}:=Pg.kind_inv hk;have hpk:=Pg.parts_kids p;have inner:∀(j i:Nat),i+j=p.kids.length->∀{S1:List It3}{ws1:List (Kd×Bool)}{st1:Sto}{y7 y8 y9 y10:Option D},FS sh dn sa pa wa ka ba aa da S1 ws1 kn (B++[.ref a]) (A++[.ref ca]) st1->st1 ca=AA (.lst (p8 S1 (ks.take i)))->(∀k∈ks.take i,Has S1 k.d)->S <+: S1->S1.length+256*((p.kids.drop i).map Pg.parts).sum+256<=S.length+256*p.parts->WUp ws ws1->KpI R (ca::fL sh dn sa pa wa ka ba aa) st st1->C9 (wpT (Zg P G (n+1)) (.bl AC)) (i9 (Zg P G (n+1)) L0) F (m+2*((p.kids.drop i).map Pg.parts).sum) [AA nd,AA (.ref ka),AA nm,AA md,AA (.ref ba),AA (.ref aa),AA (.ref da),y7,y8,y9,y10] st1:=by
   intro j
   induction j with
   |zero=>
    intro i hi S1 ws1 st1 y7 y8 y9 y10 H1 hc1 hh1 p1 l1 w1 K1;rw[Er ⋯]at l1 ⊢;rw[Cr ⋯]at hc1 hh1;erw[Eo,HN,Nat.mul_zero,LA]at l1 ⊢;show q S1 ws1 st1 ks _ _ _ _ H1 hc1 kl hh1 hkk p1 l1 w1 K1
   |succ j ihj=>
    intro i hi S1 ws1 st1 y7 y8 y9 y10 H1 hc1 hh1 p1 l1 w1 K1;have hil:i<p.kids.length:=by lia
    obtain⟨c,hci⟩:∃c,p.kids[i]?=AA c:={_,AH hil};let{a0,Δ,hai,hC,hck}:=hkid i c hci;have hdr:p.kids.drop i=c::p.kids.drop (i+1):=by
     rw[BA hil];rw[AH hil]at hci;cases hci;rfl
    rw[hdr]at l1 ⊢;erw[Ar,DP]at l1 ⊢;have cpos:=Pg.parts_kids c;have hcm:c∈p.kids:=BE hci;have hcs:=ar4 Pg.parts hcm;have htl:(ks.take i).length=i:=by rw[By];lia
    have n1:=nd0.kpi K1 (λy hy=>hX y (by erw[AM]at hy ⊢;rcases hy with h|h;show .inl h;show .inr (.inr h)));obtain⟨hkX⟩:Nonempty (p.told 3):=⟨Pg.told_kn hkn7⟩;generalize hr:((p.kids.drop (i+1)).map Pg.parts).sum=r at l1 ⊢;rw[show m+2*(c.parts+r)=((m+2*r+1)+2*(c.parts-1))+1 by lia];apply wl ?_;cases n1 with
    |@mk _ _ _ la x w kd as fs e1 e2 e3 e4 e5 e6 e7 e8 e9=>
    obtain⟨b,hbi⟩:∃b,as[i]?=AA b:={_,AH ⋯};obtain⟨fb,hfi⟩:∃b,fs[i]?=AA b:={_,AH ⋯};have nb1:=e9 i c b fb hci hbi hfi;have hRb:∀y∈fb,y∈R:=λy hy=>hR y (Ae _ (CT.mpr {fb,BE hfi,hy}));have hla:la∉ka::ba::aa::da::shL sh dn sa pa wa:=λz=>e4 (hX _ (by erw[AM,Ah,or_false]at z ⊢;rcases z with z|z|z|z|z|z|z|z|z<;>simp[z]));apply bz2 (R:=R) T hnm N dj (ks:=ks.take i) (Γ:=Γ) (Δ:=Δ) H1 hc1 hh1 e1 e2 h1 e3 (by rw[htl];show hci) (by rw[htl];show hbi) hkX (by rw[htl];show hC) (hkn.up H1.K.A.wf p1 w1) ⋯ ⋯ ⋯ ⋯ hcl hla λS2 ws2 st2 kn2 cb v7 v8 v9 v10 H2 hcb hcb0 p2 l2 w2 k2 k3 k4 K2=>?_;rw[htl]at k4;have cbf:=H1.fresh hcb0;have hm01:=bj1 p i;have nb2:=(nb1.addX hcb0).kpi K2 (λy hy=>Ae _ (hX y (by erw[AM]at hy ⊢;show .inr (.inr hy))));apply ih c ⋯ (Pg.kn_kids p hkn7 c hcm) hck ∅ nb2 hRb (λy hy=>by
     rcases AM.mp hy with rfl|hy
     ·simp
     ·show Ae _ (hX y (Ae _ hy))) H2 hcb k2 ⋯ (by simp;lia) (by simp;lia) ⋯ cbf λS3 ws3 st3 ks3 u7 u8 u9 u10 H3 hc3 kl3 hh3 hkk3 p3 l3 w3 K3=>?_
    apply wl ?_;have nb3:=nb2.kpi K3 (λy hy=>by
     rcases AM.mp hy with rfl|hy
     ·simp
     ·show Ae _ (hX y (by erw[AM]at hy ⊢;show .inr (.inr hy))))
    cases nb3 with
    |@mk _ _ _ lb xb wb kdb asb fsb b1 b2 b3 b4 b5 b6 b7 b8 b9=>
    apply bd3 (R:=R) T hmd M dj H3 hc3 hh3 b1 b2 ∅ b3 ⋯ (Pg.told_kn (Pg.kn_kids p hkn7 c hcm)) hkk3 (k2.up H3.K.A.wf p3 w3) ⋯ (by erw[AM,Ah,or_false,not_or]at cbf ⊢;simp[cbf]) (hRb b (by let{_,_,_,_,_,_,h,_}:=nb1.root;show h)) λS4 ws4 st4 t7 t8 H4 g1 p4 l4 w4 K4=>?_;have K14:KpI R (ca::fL sh dn sa pa wa ka ba aa) st1 st4:=by
     apply KpI.drop (p:=cb) ?_ hcb0;show((K2.more (λd hd=>by erw[AM]at hd ⊢;show .inr (.inr hd))).trans (K3.more (λd hd=>by erw[AM]at hd ⊢;rcases hd with h|h;show .inl h;show .inr (.inr h)))).trans (K4.more (λd hd=>by erw[AM]at hd ⊢;show .inr (.inr hd)))
    have hcaf:ca∉fL sh dn sa pa wa ka ba aa:=by erw[AM,Ah,or_false,not_or]at hcl ⊢;simp[hcl]
    have hcab:ca≠cb:=n8 hc1 hcb0;have hca4:st4 ca=AA (.lst (p8 S1 (ks.take i))):=K4.lst (K3.lst (K2.lst hc1 hcaf) (by erw[AM,not_or];erw[AM,not_or]at hcaf;show⟨hcab,hcaf⟩)) hcaf;let{kd4,_,ha4}:=K14.i a p la x h w kd e1 e2;have hp14:S1 <+: S4:=p2.trans (p3.trans p4);apply ci3 (R:=R) T dj (p:=p) (kn0:=kn) H4 hca4 (by have:=as1 Pg.parts_kids p.kids;erw[p8,AX,htl];lia) ha4 hcl k3 (by rw[k4];erw[p8,AX,htl]) λst5 H5 hc5 K5=>?_;have ek:ks.take (i+1)=ks.take i++[a0]:=by rw[List.take_succ,hai];rfl
    rw[<-hr];apply ihj (i+1) ⋯ H5 ?_ ?_ (p1.trans hp14) (by rw[hr];lia) (w1.trans (w2.trans (w3.trans w4))) (K1.trans (K14.trans K5))
    ·rw[hc5,ek];have:p8 S4 (ks.take i++[a0])=p8 S4 (ks.take i)++[.int (nb S4 a0.d:Nat)]:=by simp[p8]
     rw[this,cm8 H4.K.A.wf hp14 hh1]
    ·rw[ek];intro y hy
     rcases BD.mp hy with hy|hy
     ·show(hh1 y hy).mono hp14
     ·erw[Ao]at hy;subst hy;show g1
  have:=inner p.kids.length 0 ⋯ (y7:=x7) (y8:=x8) (y9:=x9) (y10:=x10) H (by simpa[p8]using hc) ∎ (DD _) (by erw[Io];lia) rfl KpI.refl;erw[Io]at this;rw[show p.parts-1=(p.kids.map Pg.parts).sum by lia];show this
end
def KA.fresh{x}{S}(K:KA sh dn sa pa wa S ws st)(h:st x=AD):x∉shL sh dn sa pa wa:=by
 intro z;erw[AM,Ah,or_false]at z
 rcases z with rfl|rfl|rfl|rfl|rfl
 ·have:=K.A.ins;rw[h]at this;cases this
 ·have:=K.A.num;rw[h]at this;cases this
 ·have:=K.A.sto;rw[h]at this;cases this
 ·have:=K.A.par;rw[h]at this;cases this
 ·have:=K.W;rw[h]at this;cases this
def ShD.all(h:ShD sh dn sa pa wa):(shL sh dn sa pa wa).Nodup:=by
 have c:=h.nd;have b:=h.wd;have a:=h.ws;grind
section
variable (T:PNo P G) {S:List It3} 
include T
def b16(hnm:Cok P nm)(N:ay4 P G (n+1) sh dn sa pa wa nm)(H:Cok P md)(M:ay7 P G (n+1) sh dn sa pa wa md){p:Pg}{k:Kd}{F:Sto}{f:List AI}{O:List Int}(hkt:G.cls "!kt"≠[])(hk:p.kind Γ=AA k)(h7:p.kn 3)(nd:Nd F X st 0 p a f)(K:KA sh dn sa pa wa S ws st)(o:st ka=AA (.lst (O.map D.int)))(J:KnOk S ws Γ O)(hS:S.length+256*p.parts<=9000000)(hkl:O.length<=50000)(I:ka∉shL sh dn sa pa wa)(hX:∀y∈ka::shL sh dn sa pa wa,y∈X)
  (q:∀V E w,Has V k.d->KA sh dn sa pa wa V E w->Up S ws V E p->KpI f (ka::shL sh dn sa pa wa) st w->Q (.int (nb V k.d:Nat)) w):sem P G (n+2) "folded" [.ref a,.ref ka,nm,md] st Q:=by
 apply g9 T.fol rfl [AA (.ref a),AA (.ref ka),AA nm,AA md,AD,AD,AD,AD,AD,AD,AD] rfl ?_;∎;intro g B;intro c s;intro i r;apply{hkt,λj l=>?_};have u:st g=AD:=B;have t:st c=AD:=N6 s;have v:st i=AD:=N6 (N6 r);have C:st j=AD:=N6 (N6 (N6 l));have U:g≠c:=n8 c8 s;have ab:g≠i:=n8 (c9 c8 U) r;have ac:c≠i:=n8 c8 r;have db:g≠j:=n8 (c9 (c9 c8 U) ab) l;have dc:c≠j:=n8 (c9 c8 ac) l;have dA:i≠j:=n8 c8 l;have kb:ka≠g:=n8 o u;have kc:ka≠c:=n8 o t;have kA:ka≠i:=n8 o v;have kD:ka≠j:=n8 o C;have Y:KpI f (ka::shL sh dn sa pa wa) st (b0 (b0 (b0 (b0 st g (.lst [.ref a])) c (.lst [])) i (.lst [.ref c])) j (.dtt [])):=((((KpI.refl.new B).new s).new r).new l);have W:Kp [] st (b0 (b0 (b0 (b0 st g (.lst [.ref a])) c (.lst [])) i (.lst [.ref c])) j (.dtt [])):=((((Kp.refl.new B).new s).new r).new l);have m:Nd F (j::i::c::g::X) (b0 (b0 (b0 (b0 st g (.lst [.ref a])) c (.lst [])) i (.lst [.ref c])) j (.dtt [])) 0 p a f:=(((nd.addX u).addX t).addX v |>.addX C).kpi Y (λy b=>by simp[hX y b]);have H4:FS sh dn sa pa wa ka g i j S ws O ([]++[.ref a]) ([]++[.ref c]) (b0 (b0 (b0 (b0 st g (.lst [.ref a])) c (.lst [])) i (.lst [.ref c])) j (.dtt [])):={K.keep W,W.at' o ∎,c9 (c9 (c9 c8 U) ab) db,c9 c8 dA,c8};have z:(b0 (b0 (b0 (b0 st g (.lst [.ref a])) c (.lst [])) i (.lst [.ref c])) j (.dtt [])) c=AA (.lst []):=c9 (c9 c8 ac) dc;have dj:(ka::g::i::j::shL sh dn sa pa wa).Nodup:=by
  apply BP.mpr {?_,BP.mpr {?_,BP.mpr {?_,BP.mpr {K.fresh C,K.D0.all}}}}
  ·erw[AM,not_or];erw[AM,not_or]at I;show⟨kb,kA,kD,I⟩
  ·have:=K.fresh u;erw[AM,not_or]at this ⊢;show⟨ab,db,this⟩
  ·have:=K.fresh v;erw[AM,not_or]at this ⊢;show⟨dA,this⟩
 have x:c∉ka::g::i::j::shL sh dn sa pa wa:=by
  have:=K.fresh t;erw[AM,not_or]at this ⊢;show{Ax kc,Ax U,ac,dc,this}
 apply{1+2*(p.parts-1),?_};revert Y W m H4 z;generalize b0 (b0 (b0 (b0 st g (.lst [.ref a])) c (.lst [])) i (.lst [.ref c])) j (.dtt [])=st4;intro Y W m H4 z;have L:∀y∈c::j::fL sh dn sa pa wa ka g i,y∈j::i::c::g::X:=by
  intro y b
  rcases AM.mp b with rfl|b
  ·simp
  rcases AM.mp b with rfl|b
  ·simp
  rcases AM.mp b with rfl|b
  ·simp[hX y ∎]
  rcases AM.mp b with rfl|b
  ·simp
  rcases AM.mp b with rfl|b
  ·simp
  ·simp[hX y (Ae _ b)]
 apply b76 (R:=f) T hnm N H M dj p.parts p (AR _) h7 hk ∅ m (λy b=>b) L H4 z J hS (by simp;lia) (by simp;lia) ⋯ x λS1 d b h k y8 y9 y10 H1 hc1 l hh1 hkk p1 l1 w1 K1=>?_;apply wl ?_;have nd1:=m.kpi K1 (λy b=>L y (by erw[AM]at b ⊢;rcases b with h|h;show .inl h;show .inr (.inr h)));have har:a∈f:=by let{_,_,_,_,_,_,h,_}:=m.root;show h
 cases nd1 with
 |@mk _ _ _ lb xb wb kdb asb fsb b1 b2 b3 b4 b5 b6 b7 b8 b9=>
 apply bd3 (R:=a::fsb.flatten) T H M dj H1 hc1 hh1 b1 b2 ∅ b3 ⋯ (Pg.told_kn h7) hkk (J.up H1.K.A.wf p1 w1) ⋯ (by erw[AM,not_or]at x ⊢;show x.2.2.2.2) har λS2 Z st2 t7 t8 H2 g1 p2 l2 w2 K2=>?_;apply ca7 T H2 (c7 (q S2 Z st2 g1 H2.K {p1.trans p2,⋯,w1.trans w2} ?_));apply KpI.drop (p:=g) (KpI.drop (p:=i) (KpI.drop (p:=c) ?_ t) v) u;apply((Y.more λy b=>?_).trans (K1.more λy b=>?_)).trans (K2.more λy b=>?_)
 ·erw[AM]at b ⊢;show .inr (.inr (.inr b))
 ·erw[AM]at b ⊢
  rcases b with h|h|h|h|h
  ·show .inl h
  ·show .inr (.inr (.inr (.inl h)))
  ·show .inr (.inr (.inl h))
  ·show .inr (.inl h)
  ·show .inr (.inr (.inr (.inr h)))
 ·erw[AM]at b ⊢
  rcases b with h|h|h|h
  ·show .inr (.inr (.inr (.inl h)))
  ·show .inr (.inr (.inl h))
  ·show .inr (.inl h)
  ·show .inr (.inr (.inr (.inr h)))
end
def Nd.fresh{st0}{f}{p}(n:Nd st0 X st h p a f):∀b∈f,st0 b=AD:=by
 induction n with
 |@mk h p a m x w o l k z y v u t j s r q d=>
  intro b c
  rcases AM.mp c with rfl|c
  ·show j
  ·let{f,g,c}:=CT.mp c;let{i,e,rfl}:=FN.mp g;show d i p.kids[i] l[i] k[i] (AH ⋯) (AH ⋯) (AH e) b c
section
variable (T:PNo P G) {S:List It3} 
include T
def bz5(hn:19<=n){p:Pg}{k:Kd}{Y:Sto}{f:List AI}{O:List Int}(E:p.kind Γ=AA k)(h7:p.kn 3)(nd:Nd Y X B 0 p a f)(K:KA sh dn sa pa wa S N B)(u:B s=AA (.lst (O.map D.int)))(t:KnOk S N Γ O)(F:S.length+256*p.parts<=9000000)(hkl:O.length<=50000)(hks:s∉shL sh dn sa pa wa)(hX:∀y∈s::shL sh dn sa pa wa,y∈X)
  (q:∀o l e,Has o k.d->KA sh dn sa pa wa o l e->Up S N o l p->KpI f (s::shL sh dn sa pa wa) B e->Q (.int (nb o k.d:Nat)) e):sem P G n "kind_of_node" [.ref a,.ref s,.ref sh] B Q:=by
 obtain⟨n,rfl⟩:∃m,n=m+3:={n-3,⋯};have C:∀f∈([("program":Str),("inside":Str),("number":Str),("holders":Str),("ways":Str),("used":Str),("kind":Str)]:List Str),f∈G.cls "Node":=λf hf=>by rw[T.ncl];show hf
 apply g9 T.kon rfl [AA (.ref a),AA (.ref s),AA (.ref sh),AD,AD,AD,AD] rfl ?_;(iterate 3 ∎);apply{oy T.fol,b16 T (show Cok P (.clo _ _ _ _) from trivial) ?_ (show Cok P (.clo _ _ _ _) from trivial) ?_ T.kt E h7 nd K u t F hkl hks hX λo l e M J I H=>c7 (q o l e M J I H)}
 ·intro B S N W p i a ks Q K Z hm E C hh F q;apply S7 rfl [AA p.d,AA (.ref W),AA (.int i),AA (.ref sh)] rfl ?_;∎;show{oy T.nnm,a09 T.toPKo ⋯ K Z hm E C hh F λo l e M J I H a V=>c7 (q o l e M J I H a V)}
 ·intro B S N W s b la p Γ k ks O x h w kd Q K Z E hca hh u t hcl F U hkd q;apply S7 rfl [AA (.ref b),AA (.ref W),AA (.ref s),AA (.ref sh),AD] rfl ?_;∎;apply{oy T.kbp,b,"Node",_,p.d,rfl,U,C _ ∎,rfl,?_};apply cs5 T.toPKo ⋯ K Z E hca hh u t hcl F λo l e M J I H h5 V=>?_;have A:=V.at' U (K.noNode U);have fin:∀g,F9 g->Q (.int (nb o k.d:Nat)) (b0 e b (ndO p la x h w g)):=λg z=>q o l _ g M J I (H.keepL (Kp.refl.put (L:=[b]) ∎) (by intro y R;erw[Ao]at R;subst R;show K.noNode U)) h5 ((V.more (by intro y R;show Ae _ R)).put ∎) c8 z;∎;apply{b,"Node",_,kd,rfl,A,C _ ∎,rfl,?_};have r:∀g,F9 g->∃p c fs,D.ref b=D.ref p/\e p=AA (.ins c fs)/\("kind":Str)∈G.cls c/\fs.length<1000/\i9 (Zg P G n) (.cons (.ret (.v 4)) .nil) (j9 Q) [AA (.ref b),AA (.ref W),AA (.ref s),AA (.ref sh),AA (.int (nb o k.d:Nat))] (b0 e p (.ins c (o8 "kind" g fs))):=λg z=>{b,"Node",_,rfl,A,C _ ∎,by simp[ndF],by
   rw[b68];∎;show c7 (fin g z)}
  rcases hkd with rfl|⟨j,rfl⟩
  ·show .inl {rfl,r _ (.inr ⟨_,rfl⟩)}
  ·apply .inr {nofun,b,"Node",_,.int j,rfl,A,C _ ∎,rfl,?_};rfl'
   split
   ·show r _ (.inr ⟨_,rfl⟩)
   ·show r _ (.inr ⟨_,rfl⟩)
def ba7(hn:20<=n){p:Pg}{k:Kd}{w:List Int}(N:p.parts<=2000)(O:p.kind Γ=AA k)(U:p.kn 3)(K:KA sh dn sa pa wa S ws st)(j:st ka=AA (.lst (w.map D.int)))(E:KnOk S ws Γ w)(R:S.length+256*p.parts<=9000000)(F:w.length<=50000)(C:ka∉shL sh dn sa pa wa)
  (q:∀l h i,Has l k.d->KA sh dn sa pa wa l h i->Up S ws l h p->Kp (ka::shL sh dn sa pa wa) st i->Q (.int (nb l k.d:Nat)) i):sem P G n "shelved_kind" [p.d,.ref ka,.ref sh] st Q:=by
 obtain⟨n,rfl⟩:∃m,n=m+1:={n-1,⋯};apply g9 T.shk rfl [AA p.d,AA (.ref ka),AA (.ref sh)] rfl ?_;∎;apply{oy T.kon,by rw[T.nod];rfl,?_};intro v c;have K0:Kp [] st (b0 st v (.lst [])):=Kp.refl.new c;have g:=K.keep K0;have s:∀x∈ka::shL sh dn sa pa wa,∃o,b0 st v (.lst []) x=AA o:=by
  intro x s;erw[AM,Ah,or_false]at s
  rcases s with rfl|rfl|rfl|rfl|rfl|rfl
  ·show{_,l8 j c}
  ·show⟨_,g.A.ins⟩
  ·show⟨_,g.A.num⟩
  ·show⟨_,g.A.sto⟩
  ·show⟨_,g.A.par⟩
  ·show⟨_,g.W⟩
 apply cc4 T (X:=ka::shL sh dn sa pa wa) ⋯ N c8 s λa f i J I=>?_;have B:ka≠v:=n8 j c;apply bz5 T ⋯ O U J (g.keepL I (by intro y r;erw[Ao]at r;subst r;show K.fresh c)) (I.at' (l8 j c) (by simpa using B)) E R F C (λy r=>r) λl h t Z Y M V=>c7 (q l h t Z Y M λb o nb e=>?_);have H:=l8 (u:=.lst []) e c;show V.k b o nb (λz=>by rw[J.fresh b z]at H;cases H) (I.at' H (by simpa using n8 e c))
end
def En.app{S}{l}{e}{k}(h:En S ws e k):En S (ws++l) e k:=by
 rcases h with h|⟨j,b,e,h⟩
 ·show .inl h
 ·show .inr {j,b,e,AZ (AS.mp h).1▸h}
theorem KnOk.app{S}{l}{kn}(h:KnOk S ws Γ kn):KnOk S (ws++l) Γ kn:=
 ⟨h.len,λm k a=>let⟨e,c,b⟩:=h.at' m k a;⟨e,c,b.app⟩⟩
section
variable (T:PNo P G) {S:List It3}
include T
def an3(hΓ:∀k∈Γ,k.nest<=3)(hl:Γ.length<2000)(K:KA sh dn sa pa wa S [] st)
  (q:∀ws' kn ka st',KA sh dn sa pa wa S ws' st'->st ka=AD->st' ka=AA (.lst (kn.map D.int))->KnOk S ws' Γ kn->kn.length=Γ.length->Kp [wa] st st'->Q (.ref ka) st'):sem P G (n+2) "shelved_names" [.tup (Γ.map Kd.d),.ref sh] st Q:=by
 apply g9 T.shn rfl [AA (.tup (Γ.map Kd.d)),AA (.ref sh)] rfl ?_;unfold ai7;∎;apply{by simp;lia,?_};apply G1 (λl acc env' st'=>∃(pre suf:List Kd)(x:Option D)(kn:List Int),Γ.reverse=pre++suf/\l=suf.map Kd.d/\acc=kn.map D.int/\env'=[AA (.ref sh),x]/\KA sh dn sa pa wa S (pre.map λk=>(k,AF)) st'/\KnOk S (pre.map λk=>(k,AF)) pre.reverse kn/\Kp [wa] st st') ?_ ?_ _ _ _ _ {[],Γ.reverse,AD,[],rfl,by rw[Jj],rfl,rfl,K,{rfl,λm k hk=>(by simp at hk)},Kp.refl}
 ·rintro acc env' st' ⟨pre,suf,x,kn,e1,e2,rfl,rfl,K1,k1,K2⟩;have es:suf=[]:=by simpa using e2.symm
  subst es;rw[BF]at e1;apply{trivial,λka hka=>?_};have eg:pre.reverse=Γ:=by rw[<-e1,FM]
  rw[eg]at k1;have hka0:st ka=AD:=by
   cases e:st ka with
   |none=>rfl
   |some o=>
    by_cases z:ka=wa
    ·have:=K1.W;rw[<-z,hka]at this;cases this
    ·rw[K2.at' e (by simpa using z)]at hka;cases hka
  show c7 (q _ kn ka _ (K1.keep (Kp.refl.new hka)) hka0 c8 k1 k1.len (K2.new hka))
 ·rintro d ds acc env' st' ih ⟨pre,suf,x,kn,e1,e2,rfl,rfl,K1,k1,K2⟩;apply{trivial,?_};cases suf with
  |nil=>simp at e2
  |cons k suf=>
   erw[Ar,As]at e2;let{rfl,rfl}:=e2;have hkm:k∈Γ:=by
    have:k∈Γ.reverse:=by rw[e1];simp
    simpa using this
   have hpl:pre.length<2000:=by
    have:=congrArg BI e1;simp at this;lia
   apply{sh,"Shelf",_,rfl,K1.A.ins,rfl,oy T.ptb,?_};apply cb1 T.toPKd K1 (hΓ k hkm) (by simpa using hpl) λst2 K3 K4=>?_;apply ih _ _ _ {pre++[k],suf,_,kn++[-(((pre.map λk=>(k,AF)).length:Int)+1)],by rw[e1];simp,rfl,∎,rfl,by simpa using K3,?_,K2.trans K4};rw[Ef,Ad];show(k1.app).cons (.inr {pre.length,AF,∎,∎})
def b31(hn:24<=n){p:Pg}{k:Kd}(hp:p.parts<=2000)(h:∀k∈Γ,k.nest<=3)(M:Γ.length<2000)(O:p.kind Γ=AA k)(S:p.kn 3)(q:∀c,Kp [] st c->Q k.d c):sem P G n "kind_of" [p.d,.tup (Γ.map Kd.d)] st Q:=by
 obtain⟨n,rfl⟩:∃m,n=m+3:={n-3,⋯};apply g9 T.ko rfl [AA p.d,AA (.tup (Γ.map Kd.d)),AD] rfl ?_;∎;apply{oy T.init,λg r=>?_};apply af1 (n:=n+1) ?_;apply ba5 T.toPSh r λF B C y L H R v l j i Y=>{rfl,?_};have f:KA g F B C y [] [] L:={H,⟨R,l,j⟩,i,∎,∎,∎};∎;apply{g,"Shelf",_,rfl,H.ins,rfl,oy T.tup,by rw[T.shk];rfl,oy T.shn,?_};apply an3 T (n:=n) h M f λJ b d Z x a u t N X=>?_;have s:=f.fresh a;apply ba7 T ⋯ ⋯ O S x u t (by simp;lia) ⋯ s λb I K U w _ W=>?_;apply ap7 T.toPSh w.A U (c7 (q K λb o _ e=>?_));have E:=Y.at' e ∎;have D:b∉shL g F B C y:=λz=>by rw[v b z]at e;cases e
 have V:=X.at' E (by show λz=>D (by simp[z]));show W.at' V (by erw[AM,not_or];show{n8 E a,by simpa using D})
end
theorem ap9{chk}{tc}{te}{R}{f}(j:l7->Prop){M:List D}(c:∀a d,j a->j (a.set i (AA d)))(g:∀a K,K AC st->tc a st K)(e:∀a d K,d∈M->j a->K (f d) st->te (a.set i (AA d)) st K)(k:chk st):
  ∀h b(a),(∀d∈h,d∈M)->j a->R (b++h.map f) st->B6 chk (.n i) tc te R h b a st
 |[],b,a,_,l,p=>{k,by simp_all}
 |d::h,b,a,m,l,p=>({k,g _ _ (e a d _ (m d ∎) l (ap9 j c g e k h (b++[f d]) _ (λx o=>m x (by simp[o])) (c a d l) (by simp_all)))})
def c31{T:Type}{l:List T}{g}(b:ds.length=l.length)(a:∀(i:Nat)c d,l[i]?=AA c->ds[i]?=AA d->d=g c):ds=l.map g:=by
 apply EN λi=>?_;rw[AY]
 by_cases h:i<l.length
 ·rw[AH h,AH (show i<ds.length by lia)];show congrArg AA (a i _ _ (AH h) (AH ⋯))
 ·simp_all
section
variable (J:PNm P G) 
include J
def ba1{C:D}{f:Nat->Nat->Option Pg}{L:List AI}{Jv:Sto->Prop}(hC:Cok P C)(hJ:∀{w e:Sto}{K:List AI},Jv w->(∀a∈L,a∉K)->Kp K w e->Jv e)(H:∀{w},Jv w->∀a∈L,∃o,w a=AA o){p:Pg}(hp:p.parts<=2000)(hm:p.hgt<=m)(hn:6<=n)(j0:Jv w)
  (hc:∀(k:Nat)(c:Pg)(u:Nat)e Q,n<=k+4->u+c.hgt<=m->Jv e->Kp L w e->(∀g,Jv g->Kp L e g->Q (R6 f c u) g)->G5 P G k C [c.d,.int u] e Q)
  (q:∀e,Jv e->Kp L w e->Q (p.mp f 0).d e):sem P G n "with_parts" [p.d,C] w Q:=by
 obtain⟨n,rfl⟩:∃m,n=m+4:={n-4,⋯};have Z:∀{w:Sto}{a:AI}{o:Ob},Jv w->w a=AD->Jv (b0 w a o):=λh I=>hJ (K:=[]) h ∎ (Kp.refl.new I);apply g9 J.wparts rfl [AA p.d,AA C,AD,AD,AD,AD] rfl ?_;(iterate 3 ∎);apply{oy J.mop,?_};apply cg7 J.toPM (n:=n+1) (T:=Pg×Nat) (enc:=E7) (subs:=λc=>c.1.kidsU c.2) (size:=λc=>c.1.parts) (Dj:=λc=>c.2+c.1.hgt<=m) (W:=Unit) (J:=λ_=>Jv) (le:=λ_ _=>True) (L:=L) (λ_=>trivial) (λ_ _=>trivial) (λ{_ _ _ b}h N K=>hJ h (λa I z=>by simp at z;subst z;show N I) K) (λc=>Pg.parts_U c.1 c.2) (λc a b d=>Ap (Pg.hgt_U c.1 c.2 b d) a) (show Cok P (.clo _ _ _ _) from trivial) (show Cok P (.clo _ _ _ _) from trivial) (p,0) hp ⋯ (V:=λ_ _ c d _=>d=.tup [(c.1.mp f c.2).d,.bl (c.1.chd f c.2)]) (λv _ _=>v) (s0:=()) (μ:=λ_=>0) (B:=2000) ⋯ j0 H ?_ ?_ ?_
 ·rintro⟨c,u⟩ e Q _ gc _ O K k;apply S7 rfl [AA (E7 (c,u)),AA C] rfl ?_;∎;apply V0 hC ?_;unfold E7;rfl';apply hc n c u e _ ⋯ gc O K λg E t=>?_
  by_cases hz:R6 f c u=.non
  ·apply .inl {hz,?_};rfl';apply{oy J.under,cb4 J c u ⋯ λa b I c d=>c7 (k _ () _ (.inr {a,rfl,?_,c}) trivial (AR _) (hJ (K:=[]) E ∎ d) (t.trans (d.more ∎)))};show bd2 (J:=λ(_:Unit)=>Jv) (s:=()) t (H O) I E H
  ·apply .inr {hz,?_};intro a I;have hk:c.kidsU u=[]:=by unfold Pg.kidsU;rw[b94 hz];rfl
   apply c7 (k _ () _ (.inr {a,rfl,bd2 (J:=λ(_:Unit)=>Jv) (s:=()) t (H O) I E H,?_}) trivial (AR _) (Z E I) (t.new I));rw[c8,hk];rfl
 ·rintro⟨c,u⟩ dn la e Q ds _ gc _ O K hdn hlaL hne hl0 hla hlen hv hx k;have U:ds=(c.kidsU u).map λc=>D.tup [(c.1.mp f c.2).d,.bl (c.1.chd f c.2)]:=c31 hlen hv;apply S7 rfl [AA (E7 (c,u)),AA (.ref la),AA C,AD] rfl ?_;have S:∀(x:D)(g:Sto),(x=.non/\c.mp f u=c/\c.chd f u=AF\/x=(c.mp f u).d/\c.chd f u=AC)->Jv g->Kp L e g->i9 (Zg P G (n+1)) (.cons (.ret (.ite (.isN (.v 3)) (.tup (.cons (.ix (.v 0) (.int 0)) (.cons (.bl AF) .nil))) (.tup (.cons (.v 3) (.cons (.bl AC) .nil))))) .nil) (j9 Q) [AA (E7 (c,u)),AA (.ref la),AA C,AA x] g:=by
   intro x g hx2 E t;unfold E7;∎
   rcases hx2 with⟨rfl,e1,e2⟩|⟨rfl,e2⟩
   ·apply .inl {rfl,?_};rfl';show c7 (k _ () _ (by erw[e1,e2]) trivial (Av _) E t)
   ·apply .inr {ae0,?_};rfl';show c7 (k _ () _ (by erw[e2]) trivial (Av _) E t)
  have Y:∀(x:D)(g:Sto),Jv g->Kp L e g->(c.kids=[]->(x=.non/\c.mp f u=c/\c.chd f u=AF\/x=(c.mp f u).d/\c.chd f u=AC))->(c.kids≠[]->x=.non)->i9 (Zg P G (n+1)) (.cons (.iff (.any (.comp ["part"] [] 1 (.n 0) (.seq (.v 1)) .non (.ix (.v 0) (.int 1))))
    (.cons (.set 3 (.call "with_inner" (.cons (.ix (.v 0) (.int 0)) (.cons (.comp ["part"] [] 1 (.n 0) (.seq (.v 1)) .non (.ix (.v 0) (.int 0))) .nil))))
   .nil)
    .nil)
  (.cons (.ret (.ite (.isN (.v 3)) (.tup (.cons (.ix (.v 0) (.int 0)) (.cons (.bl AF) .nil))) (.tup (.cons (.v 3) (.cons (.bl AC) .nil)))))
  .nil)) (j9 Q) [AA (E7 (c,u)),AA (.ref la),AA C,AA x] g:=by
   intro x g E t hx0 hx1;have F:g la=AA (.lst ds):=t.at' hla hlaL;have hds:ds.length<=3:=by
    rw[hlen];change(c.kidsU u).length<=3;unfold Pg.kidsU;rw[Gi];cases c<;>erw[Pg.kids,AT,Aq]<;>lia
   ∎;apply{_,.inl F,⋯,?_}
   let sn:D->D:=λd=>match d with|.tup [_,b]=>b|_=>.non
   let fs:D->D:=λd=>match d with|.tup [a,_]=>a|_=>.non
   have e1:ds.map sn=((c.kidsU u).map λc=>c.1.chd f c.2).map D.bl:=by rw[U,CU,CU];rfl
   have e2:ds.map fs=((c.kidsU u).map λc=>c.1.mp f c.2).map Pg.d:=by rw[U,CU,CU];rfl
   have X:∀d∈ds,∃a b,d=.tup [a,b]:=λd N=>by
    rw[U]at N;let{c',_,rfl}:=CO.mp N;show⟨_,_,rfl⟩
   apply ap9 (f:=sn) (λi=>i.length=1) (λi d h=>by simpa using h) (λi K R=>R) (λi d K N hE R=>?_) (.inl F) ds [] [AD] (λ_ h=>h) rfl ?_
   ·let{a,b,rfl}:=X d N
    match i,hE with
    |[y],_=>
     rfl';show R
   intro fa j;rw[CW,e1];apply{_,.inl c8,?_};rfl'
   by_cases A:c.kids=[]
   ·have hk:c.kidsU u=[]:=by unfold Pg.kidsU;rw[A];rfl
    rw[hk,if_neg ∎];rfl';show S x _ (hx0 A) (Z E j) (t.new j)
   ·have hxn:=hx1 A;subst hxn
    by_cases r:((c.kidsU u).map λc=>c.1.chd f c.2).any id=AC
    ·rw[if_pos r];∎;apply{oy J.winner,?_};unfold E7;rfl';have M:=l8 (u:=.lst (((c.kidsU u).map λc=>c.1.chd f c.2).map D.bl)) F j;apply{_,.inl M,⋯,?_};apply ap9 (f:=fs) (λi=>i.length=1) (λi d h=>by simpa using h) (λi K R=>R) (λi d K N hE R=>?_) (.inl M) ds [] [AD] (λ_ h=>h) rfl ?_
     ·let{a,b,rfl}:=X d N
      match i,hE with
      |[y],_=>
       rfl';show R
     intro ga hga;rw[CW,e2];apply bd4 J (p:=c) (l:=(c.kidsU u).map λc=>c.1.mp f c.2) (.inl c8) (by unfold Pg.kidsU;rw[AX,Gi]) A ?_;rw[<-Pg.mp_kids A];rfl';show S _ _ (.inr {rfl,(Pg.chd_kids A).trans r}) (Z (Z E j) hga) ((t.new j).new hga)
    ·rw[if_neg r];rfl';have hc0:c.chd f u=AF:=by rw[Pg.chd_kids A];simpa using r
     show S .non _ (.inl {rfl,Pg.mp_same c hc0,hc0}) (Z E j) (t.new j)
  ∎;rw[w6 (.inl hla)];rfl';have hkl:ds.length=c.kids.length:=by rw[hlen];change(c.kidsU u).length=_;unfold Pg.kidsU;rw[Gi]
  by_cases A:c.kids=[]
  ·rw[if_pos (by rw[hkl,A];rfl)];apply V0 hC ?_;unfold E7;rfl';apply hc (n+1) c u e _ ⋯ gc O K λg E t=>?_;show Y _ g E t (λ_=>(ca2 A).elim (λ⟨a,b,d⟩=>.inl ⟨a,b,d⟩) .inr) (λh=>absurd A h)
  ·rw[if_neg (by rw[hkl];have:=List.length_pos_iff.mpr A;lia)];show Y .non e O Kp.refl (λh=>absurd h A) λ_=>rfl
 ·intro dn d _ e _ v _ _ O K;subst v;rfl';show c7 (q e O K)
end
def cj2(p:Pg)l:p.lf 0 l=p:=by
 have:=dc0 (f:=λ_ _=>AD) (h:=λ_ _=>AD) (b:=id) (λ_=>rfl) (λ_=>rfl) (λ_=>rfl) λn u=>by
  change(Pg.name n).mp (lfF 0 l) u=.name n;rw[be4];split<;>lia p 0
 rwa[c70]at this
section
variable (J:PNm P G) 
include J
def ao0{p:Pg}{l:Nat}(i:p.parts<=2000)(r:7<=n)(q:∀a,Kp [] st a->Q (p.lf m l).d a):sem P G n "lifted" [p.d,.int m,.int l] st Q:=by
 obtain⟨n,rfl⟩:∃k,n=k+1:={n-1,⋯};apply g9 J.lift rfl [AA p.d,AA (.int m),AA (.int l),AD,AD,AD,AD] rfl ?_;∎
 by_cases h:(m:Int)=0
 ·erw[h,if_true];∎;obtain rfl:m=0:=by lia
  have:=q st Kp.refl;rw[cj2]at this;show c7 this
 erw[h,if_false];(iterate 2 ∎);apply{oy J.wparts,ba1 J (f:=lfF m l) (L:=[]) (Jv:=λ_=>True) (show Cok P (.clo _ _ _ _) from trivial) (λ_ _ _=>trivial) (λ_=>∎) i (AR _) ⋯ trivial ?_ λa _ K=>c7 (q a K)};intro k c u a Q s o _ K b;obtain⟨k,rfl⟩:∃j,k=j+1:={k-1,⋯};apply S7 rfl [AA c.d,AA (.int u),AA (.int l),AA (.int m)] rfl ?_;replace b:=b a trivial Kp.refl;cases c<;>erw[Pg.d]
 case name x=>
  ∎;erw[R6,lfF]at b
  by_cases g:(u:Int)<=(x:Int)
  ·erw[g,if_true]
   by_cases e:(l:Int)<=(x:Int)-(u:Int)
   ·erw[e,if_true];∎;rw[if_pos ⋯]at b;show c7 b
   ·erw[e,if_false];∎;rw[if_neg ⋯]at b;show c7 b
  ·erw[g,if_false];∎;rw[if_neg ⋯]at b;show c7 b
 all_goals
  (iterate 2 ∎);show c7 b
abbrev X4(o:Pg)(us:List Nat):List (Key×D):=us.map λ(u:Nat)=>(.inl (u:Int),(o.lf u 0).d)
abbrev Cps(o:Pg)(m:Nat)(a:AI)(st:Sto):Prop:=∃us:List Nat,us.Nodup/\(∀u∈us,u<=m)/\st a=AA (.dct (X4 o us))
omit J in
theorem ac8{o:Pg}(u:Nat):∀(us:List Nat),G6 (X4 o us) (.inl (u:Int))=if u∈us then AA (o.lf u 0).d else AD
 |[]=>rfl
 |v::us=>by
  have ih:=ac8 (o:=o) u us;unfold G6 X4 at ih ⊢;rw[Ar,CD]
  by_cases h:v=u
  ·subst h;simp
  ·have e:AB ((FZ (v:Int):Key)=.inl (u:Int))=AF:=by simp;lia
   erw[e];rw[ih]
   by_cases h2:u∈us
   ·rw[if_pos h2,if_pos (by simp[h2])]
   ·rw[if_neg h2,if_neg (by simp[h2];lia)]
omit J in
theorem a89:∀(m:Nat){us:List Nat},us.Nodup->(∀u∈us,u<m)->us.length<=m
 |0,us,_,h=>by
  cases us with
  |nil=>show AR _
  |cons a us=>show absurd (h a ∎) ⋯
 |m+1,us,hn,h=>by
  have h1:=a89 m (hn.erase m) (λu hu=>by
   let{a,b}:=hn.mem_erase_iff.mp hu;have:=h u b;lia)
  have h2:=List.length_erase (a:=m) (l:=us)
  split at h2<;>lia
def ci9(t:o.parts<=2000)(y:8<=n)(s:u<=m)(A:m<=1000)(C:Cps o m a st)(q:∀f,Cps o m a f->Kp [a] st f->Q (o.lf u 0).d f):sem P G n "copy_under" [.ref a,o.d,.int u] st Q:=by
 obtain⟨n,rfl⟩:∃k,n=k+1:={n-1,⋯};apply g9 J.copy rfl [AA (.ref a),AA o.d,AA (.int u)] rfl ?_;have r:∀(e:List Nat)(c:Sto),u∈e->e.Nodup->(∀u∈e,u<=m)->c a=AA (.dct (X4 o e))->Kp [a] st c->i9 (Zg P G n) (.cons (.ret (.ix (.v 0) (.v 2))) .nil) (j9 Q) [AA (.ref a),AA o.d,AA (.int u)] c:=by
  intro e c b j i h p;∎;apply .inr {_,(o.lf u 0).d,h,?_,c7 (q c ⟨e,j,i,h⟩ p)};rw[ac8,if_pos b]
 let{e,j,i,h}:=C;∎;apply{_,h,?_};rw[ac8];rfl'
 by_cases b:u∈e
 ·rw[if_pos b];show r e st b j i h Kp.refl
 ·rw[if_neg b];∎;apply{oy J.lift,?_};apply ao0 J (l:=0) t ⋯ λc p=>?_;have w:=p.at' h ∎;apply{_,w,by rw[ac8,if_neg b],B8 (by unfold X4;rw[AX];have:=a89 (m+1) j (λu s=>by have:=i u s;lia);lia),?_};apply r (e++[u]) _ ∎ ?_ ?_ ?_ ((p.more ∎).put ∎)
  ·rw[EO];show{j,∎,by simp;show λx g z=>b (z▸g)}
  ·intro x g
   rcases BD.mp g with g|g
   ·show i x g
   ·simp at g;lia
  ·rw[c8];unfold X4;rw[Ad];rfl
def S5{p:Pg}(v:p.parts<=2000)(w:o.parts<=2000)(y:p.hgt<=1000)(F:14<=n)(q:∀g,Kp [] st g->Q (p.sb o).d g):sem P G n "put_in" [p.d,o.d] st Q:=by
 obtain⟨n,rfl⟩:∃k,n=k+1:={n-1,⋯};apply g9 J.put rfl [AA p.d,AA o.d,AD,AD,AD,AD,AD] rfl ?_;unfold ap4;∎;intro s l;(iterate 2 ∎);apply{oy J.wparts,ba1 J (f:=sbF o) (L:=[s]) (Jv:=Cps o 1000 s) (show Cok P (.clo _ _ _ _) from trivial) ?_ ?_ v y ⋯ {[],Kt,∎,c8} ?_ λg _ K=>c7 (q g ?_)}
 ·rintro st g K ⟨us,h,m,h3⟩ hK K1;show{us,h,m,K1.at' h3 (hK s ∎)}
 ·rintro st ⟨us,h,m,h3⟩ a ha;simp at ha;subst ha;show⟨_,h3⟩
 ·intro k c u g Q H E C K r;obtain⟨k,rfl⟩:∃j,k=j+1:={k-1,⋯};have h:∀q:Pg,1<=q.hgt:=λq=>by cases q<;>erw[Pg.hgt]<;>lia
  have:=h c;apply S7 rfl [AA c.d,AA (.int u),AA (.ref s),AA o.d] rfl ?_;have i:=r g C Kp.refl;cases c<;>erw[Pg.d]
  case name x=>
   erw[R6,sbF]at r i;∎
   by_cases h:(x:Int)<(u:Int)
   ·erw[h,if_true];∎;rw[if_pos ⋯]at i;show c7 i
   ·erw[h,if_false];∎
    by_cases m:(x:Int)=(u:Int)
    ·erw[m,if_true];∎;rw[if_neg ⋯,if_pos ⋯]at r;show{oy J.copy,ci9 J w ⋯ ⋯ (AR _) C λt B A=>c7 (r t B A)}
    ·erw[m,if_false];∎;rw[if_neg ⋯,if_neg ⋯]at i;have e:(x:Int)-1=((x-1:Nat):Int):=by lia
     rw[e];show c7 i
  all_goals
   (iterate 2 ∎);show c7 i
 ·intro b u D e;apply K b u (by simp;show λz=>by rw[z,l]at e;cases e) ?_;show l8 e l
end
def mp_kn(s:∀a(n)k,(a++Γ)[n]?=AA k->((Pg.name n).mp f a.length).kind (a++Γ')=AA k){Θ}{p}{k}(h:Kn Θ p k):∀a,Θ=a++Γ->Kn (a++Γ') (p.mp f a.length) k:=by
 induction h with
 |name h=>intro a e;subst e;show T4 (s a _ _ h)
 |star=>intro a e;show .star
 |pair _ _ i j=>show λa e=>.pair (i a e) (j a e)
 |first _ i=>show λa e=>.first (i a e)
 |second _ i=>show λa e=>.second (i a e)
 |left _ i=>show λa e=>.left (i a e)
 |right _ i=>show λa e=>.right (i a e)
 |case _ _ _ i j l=>show λa e=>.case (i a e) (j (_::a) (congrArg _ e)) (l (_::a) (congrArg _ e))
 |way _ i=>show λa e=>.way (i (_::a) (congrArg _ e))
 |give _ _ i j=>show λa e=>.give (i a e) (j a e)
 |lets _ _ i j=>show λa e=>.lets (i a e) (j (_::a) (congrArg _ e))
 |never _ i=>show λa e=>.never (i a e)
def bf7(a:∀Δ(n)k,(Δ++Γ)[n]?=AA k->((Pg.name n).mp f Δ.length).kind (Δ++Γ')=AA k)(p:Pg){k}(h:p.kind (Δ++Γ)=AA k):=(mp_kn a (T4 h) Δ rfl).kind
def aq0{p:Pg}{Γ₁ Γ₂ M}{k}(h:p.kind (Γ₁++Γ₂)=AA k):(p.lf M.length Γ₁.length).kind (Γ₁++(M++Γ₂))=AA k:=by
 apply bf7 (Γ:=Γ₁++Γ₂) (Γ':=Γ₁++(M++Γ₂)) (λa n k h=>?_) p (Δ:=[]) h;rw[be4];erw[Pg.kind];rw[<-Bo]at h ⊢
 split
 ·rw[Ai (by rw[Af];lia)]at h ⊢;rw[Ai (by rw[Af];lia)];rw[<-h]
  congr 1
  lia
 ·rwa[AZ (by rw[Af];lia)]at h ⊢
def bd0{p:Pg}{Γ:List Kd}{a k:Kd}(h:p.kind (a::Γ)=AA k)(ho:o.kind Γ=AA a):(p.sb o).kind Γ=AA k:=by
 apply bf7 (f:=sbF o) (Γ:=a::Γ) (Γ':=Γ) (λΔ n k h=>?_) p (Δ:=[]) h;erw[Pg.mp,sbF]
 by_cases h1:n<Δ.length
 ·rw[if_pos h1];rw[AZ h1]at h;erw[GJ,Pg.kind];rw[AZ h1];show h
 ·rw[if_neg h1];rw[Ai ⋯]at h
  by_cases h2:n=Δ.length
  ·rw[if_pos h2];rw[h2,Kz]at h;cases h;show aq0 (Γ₁:=[]) (M:=Δ) (Γ₂:=Γ) ho
  ·rw[if_neg h2];erw[Iq,Pg.kind];rw[Ai ⋯];rw[show n-Δ.length=(n-1-Δ.length)+1 by lia,List.getElem?_cons_succ]at h;show h
structure P41(P:j6)(G:Gs):Prop where
 deck:P "_law_deck"=AA L9
 next:P "_law_next"=AA aj9
 kind:P "_law_kind"=AA ak2
 many:P "_law_many"=AA ac0
 plain:P "_law_plain"=AA U5
 made:P "_law_made"=AA al6
 taken:P "_law_taken"=AA aj2
 term:P "_law_term"=AA Y6
 under:P "_law_under"=AA ai5
 lift:P "_law_lift"=AA aj7
 put:P "_law_put"=AA al8
 two:P "_law_two"=AA am4
 void:P "_law_void"=AA ak8
 nothing:P "_law_nothing"=AA ag9
 spread:P "_law_spread"=AA ah7
 step:P "_law_step"=AA ak7
 word:P "_law_word"=AA aj6
abbrev Kd.gd:Kd->Prop
 |.non=>False|.one=>True
 |.eith a b=>(a=.non\/a.gd)/\b.gd
 |.both a b=>a.gd/\b.gd
 |.way a b=>(a=.non\/a.gd)/\b.gd
theorem Kd.gd_pos:∀{k:Kd},k.gd->0<k.cnt
 |.one,_=>LM
 |.eith a b,h=>An (gd_pos h.2) (HQ _ _)
 |.both a b,h=>LN (gd_pos h.1) (gd_pos h.2)
 |.way a b,h=>LO (gd_pos h.2)
@[reducible]noncomputable def Kd.sm(k:Kd):Prop:=k.gd/\k.nest<=2
@[reducible]noncomputable def Kd.smn(k:Kd):Prop:=k=.non\/k.sm
abbrev Kd.gw(M:Nat):Kd->Prop
 |.non=>False|.one=>True
 |.eith a b=>(a=.non\/a.gw M/\a.nest<=M)/\b.sm
 |.both a b=>a.gw M/\b.gw M
 |.way a b=>a.smn/\(a=.non->b.nest<=M)/\b.gw M
def S8{a:Kd}(h:1+max a.nest b.nest<=m+1):a.nest<=m:=Ap (Ju a.nest b.nest) ⋯
def Q6{a:Kd}(h:1+max a.nest b.nest<=m+1):b.nest<=m:=Ap (Ji a.nest b.nest) ⋯
theorem Kd.gd_gw(d:3<=M):∀{k:Kd},k.gd->k.nest<=3->k.gw M
 |.one,_,_=>trivial
 |.eith a b,h,c=>have f:=S8 c;{h.1.imp_right λz=>{gd_gw d z ⋯,⋯},h.2,Q6 c}
 |.both a b,h,c=>{gd_gw d h.1 (Cp (S8 c)),gd_gw d h.2 (Cp (Q6 c))}
 |.way a b,h,c=>have e:=Q6 c;{h.1.imp_right λz=>{z,S8 c},λ_=>⋯,gd_gw d h.2 ⋯}
theorem Kd.sm.gw(a:3<=M){k:Kd}(h:k.sm):k.gw M:=gd_gw a h.1 (Cp h.2)
theorem Kd.gw_pos:∀{k:Kd},k.gw M->0<k.cnt
 |.one,_=>LM
 |.eith a b,h=>An (gd_pos h.2.1) (HQ _ _)
 |.both a b,h=>LN (gw_pos h.1) (gw_pos h.2)
 |.way a b,h=>LO (gw_pos h.2.2)
abbrev Kd.wd:Kd->Prop
 |.non=>True|.one=>True
 |.eith a b=>a.wd/\b.wd
 |.both a b=>a.wd/\b.wd
 |.way a b=>a.wd/\b.wd/\a.cnt<=4
theorem Kd.few:∀(m:Nat){k:Kd},k.nest<=m->m<=2->k.cnt<=2^m/\k.bd 4
 |_,.non,_,_=>{Av _,trivial}
 |m,.one,_,_=>{JM,by change 1<=4;decide}
 |0,.eith a b,h,_|0,.both a b,h,_|0,.way a b,h,_=>by erw[Kd.nest]at h;lia
 |1,.eith a b,h,_|1,.both a b,h,_|1,.way a b,h,_=>by
  let{l,i}:=few 0 (S8 h) ∅;let{j,g}:=few 0 (Q6 h) ∅;have d:a.cnt=0\/a.cnt=1:=by lia
  have c:b.cnt=0\/b.cnt=1:=by lia
  apply{?_,i,g,?_}<;>(try erw[Kd.cnt])<;>(rcases d with e|e<;>rcases c with f|f<;>rw[e,f]<;>decide)
 |2,.eith a b,h,_|2,.both a b,h,_|2,.way a b,h,_=>by
  let{l,i}:=few 1 (S8 h) ∅;let{j,g}:=few 1 (Q6 h) ∅;have d:a.cnt=0\/a.cnt=1\/a.cnt=2:=by lia
  have c:b.cnt=0\/b.cnt=1\/b.cnt=2:=by lia
  apply{?_,i,g,?_}<;>(try erw[Kd.cnt])<;>(rcases d with e|e|e<;>rcases c with f|f|f<;>rw[e,f]<;>decide)
 |m+3,_,_,h=>by lia
theorem Kd.bd_wd:∀{k:Kd},k.bd 4->k.wd
 |.non,_=>trivial|.one,_=>trivial
 |.eith a b,h=>{bd_wd h.1,bd_wd h.2.1}
 |.both a b,h=>{bd_wd h.1,bd_wd h.2.1}
 |.way a b,h=>{bd_wd h.1,bd_wd h.2.1,bd_le h.1}
def Kd.wd2{k:Kd}(h:k.nest<=2):k.wd:=bd_wd (few 2 h (AR _)).2
theorem Kd.gw_wd:∀{k:Kd},k.gw M->k.wd
 |.one,_=>trivial
 |.eith a b,h=>{h.1.elim (λe=>e▸trivial) λz=>gw_wd z.1,wd2 h.2.2}
 |.both a b,h=>{gw_wd h.1,gw_wd h.2}
 |.way a b,h=>
  have c:=h.1.elim (λe=>e▸Av _) λz=>z.2
  {wd2 c,gw_wd h.2.2,(few 2 c (AR _)).1}
theorem Kd.wd_cnt:∀{n}{k:Kd},k.wd->k.nest<=n->k.cnt<=2^4^n
 |_,.non,_,_=>Av _
 |_,.one,_,_=>JM
 |0,.eith a b,_,h|0,.both a b,_,h|0,.way a b,_,h=>by erw[Kd.nest]at h;lia
 |n+1,.eith a b,w,h=>by
  apply Ap (Ds (wd_cnt w.1 (S8 h)) (wd_cnt w.2 (Q6 h))) ?_;rw[<-Nat.two_mul,<-Nat.pow_succ'];show DI ∅ (by grind)
 |n+1,.both a b,w,h=>by
  apply Ap (Hf (wd_cnt w.1 (S8 h)) (wd_cnt w.2 (Q6 h))) ?_;rw[<-Nat.pow_add];show DI ∅ (by rw[IN];lia)
 |n+1,.way a b,w,h=>by
  apply Ap (Ir (wd_cnt w.2.1 (Q6 h)) _) ?_;rw[<-LP];show DI ∅ (by show Iu _ w.2.2)
abbrev Kd.ms:Kd->Nat
 |.non=>7|.one=>3
 |.eith a b=>2+a.ms+b.ms
 |.both a b=>2+a.ms+b.ms
 |.way a b=>2+a.ms+b.ms
abbrev Kd.pl:Kd->Pg
 |.non=>.star|.one=>.star
 |.eith a b=>if 0<a.cnt then .left b a.pl else .right a b.pl
 |.both a b=>.pair a.pl b.pl
 |.way a b=>if a.cnt=0 then .way a (.never b (.name 0))else .way a b.pl
section
variable (T:P41 P G)
include T
def E3{m}(c:0<m)(h:l9 st a)(q:∀r b,0<=r->r<m->l9 b a->Kp [a] st b->Q (.int r) b):sem P G (n+1) "_law_next" [.ref a,.int m] st Q:=by
 let{l,h}:=h;apply g9 T.next rfl [AA (.ref a),AA (.int m)] rfl ?_;∎;rw[w6 (.inl h)];rfl';cases l with
 |nil=>
  show c7 (q 0 st (LL _) c {[],h} Kp.refl)
 |cons x l=>
  ∎;rw[y6 (.inl h)];apply{trivial,{∅,∅},_,0,.int x,h,by simp[ixN],rfl,?_};apply{c,c7 (q _ _ (FD _ ⋯) (EI _ c) {l,?_} (Kp.refl.put ∎))};rw[c8];rfl
def R9:∀(k:Kd){n:Nat}{c:Sto}{Q:DK},k.nest+1<=n->k.nest<=7->k.wd->Q (.int k.cnt) c->sem P G n "_law_many" [k.d] c Q:=by
 have g:∀(w:String)(n:Nat)(c:Sto)(Q:DK),(w="none"\/w="one")->Q (.int (if w="one" then 1 else 0)) c->sem P G (n+1) "_law_many" [.tup [.str w]] c Q:=λw n c Q s q=>by
  apply g9 T.many rfl [AA (.tup [.str w]),AD,AD,AD,AD] rfl ?_;unfold ac0;∎;apply{u6 _,by erw[E9,M0,u6,Bm],Av _,?_};rw[if_pos (by rcases s with rfl|rfl<;>decide)];∎
  rcases s with rfl|rfl<;>show c7 q
 have r:∀(w:String)(a b:Kd)(n:Nat)(c:Sto)(Q:DK)(v:Nat),(∀Q:DK,Q (.int a.cnt) c->sem P G n "_law_many" [a.d] c Q)->(∀Q:DK,Q (.int b.cnt) c->sem P G n "_law_many" [b.d] c Q)->a.cnt<2^20000->(∀i,i<=4->b.cnt^i<2^20000)->(w="way"->a.cnt<=4) ->
   ((w="either"/\v=a.cnt+b.cnt)\/(w="both"/\v=a.cnt*b.cnt)\/(w="way"/\v=b.cnt^a.cnt))->Q (.int v) c->sem P G (n+1) "_law_many" [.tup [.str w,a.d,b.d]] c Q:=λw a b n c Q v K p I t A s q=>by
  apply g9 T.many rfl [AA (.tup [.str w,a.d,b.d]),AD,AD,AD,AD] rfl ?_;unfold ac0;∎;apply{u6 _,by erw[E9,M0,u6,Bm],Av _,?_};rw[if_neg (by rcases s with⟨rfl,_⟩|⟨rfl,_⟩|⟨rfl,_⟩<;>decide)];∎;apply⟨oy T.many,K _ ?_⟩;∎;apply⟨oy T.many,p _ ?_⟩
  rcases s with⟨rfl,rfl⟩|⟨rfl,rfl⟩|⟨rfl,rfl⟩
  ·(iterate 2 ∎);show c7 (by simpa using q)
  ·(iterate 3 ∎);show{.inr ⟨I,by have:=t 1 ∅;rwa [LQ]at this⟩,c7 (by simpa using q)}
  ·have A:=A rfl;(iterate 4 ∎);apply{⋯,?_};apply B2 (λl o h=>h=c/\∃(i:Nat)(x:Option D),o=[AA (.tup [.str "way",a.d,b.d]),AA (.int a.cnt),AA (.int b.cnt),AA (.int (b.cnt^i:Nat)),x]/\i+l.length=a.cnt) ?_ ?_ _ _ _ {rfl,0,AD,rfl,by simp[t5]}
   ·rintro o h ⟨rfl,f,x,rfl,e⟩;apply{trivial,?_};∎;have:f=a.cnt:=by rw[<-e];simp
    rw[this];show c7 q
   ·rintro d ds o h ih ⟨rfl,f,x,rfl,e⟩;apply{trivial,?_};rfl';∎;erw[AT]at e;show{.inr ⟨t f ⋯,by have:=t 1 ∅;rwa [LQ]at this⟩,ih _ _ {rfl,f+1,_,by rw[IN,Jp],⋯}}
 intro k
 induction k with
 |non=>intro n c Q u _ _ q;obtain⟨n,rfl⟩:∃k,n=k+1:={n-1,⋯};show g "none" n c Q (.inl rfl) q
 |one=>intro n c Q u _ _ q;obtain⟨n,rfl⟩:∃k,n=k+1:={n-1,⋯};show g "one" n c Q (.inr rfl) q
 |eith a b m j|both a b m j|way a b m j=>
  intro n c Q u L p q;obtain⟨n,rfl⟩:∃k,n=k+1:={n-1,⋯};erw[Kd.nest]at u L;have z:a.wd:=p.1;have y:b.wd:=by first|show p.2.1|show p.2
  apply r _ a b n c Q _ (λQ q=>m ⋯ ⋯ z q) (λQ q=>j ⋯ ⋯ y q) (Ea (Kd.wd_cnt (n:=6) z ⋯) (Ic ∅ ∅)) (λi J=>?_) (λe=>by first|show p.2.2|show absurd e ∅) (by first|show .inl ⟨rfl,rfl⟩|show .inr (.inl ⟨rfl,rfl⟩)|show .inr (.inr ⟨rfl,rfl⟩)) q;apply Ea (Ir (Kd.wd_cnt (n:=6) y ⋯) i) ?_;rw[<-LP];show Ic ∅ (Ea (Iu _ J) ∅)
end
mutual
noncomputable def D.sz:D->Nat
 |.tup ds=>1+D.szs ds
 |_=>1
noncomputable def D.szs:List D->Nat
 |[]=>0
 |d::r=>d.sz+D.szs r
end
def r6:(D.tup ds).sz=1+D.szs ds:=rfl
def r8:D.szs []=0:=rfl
def p7{d:D}{r:List D}:D.szs (d::r)=d.sz+D.szs r:=rfl
theorem bg2:∀a b,D.szs (a++b)=D.szs a+D.szs b
 |[],b=>by simp[r8]
 |d::a,b=>by rw[Br,p7,p7,bg2 a b];lia
def bl6(d:D):1<=d.sz:=by cases d<;>first|show AR _|(rw[r6];lia)
def dg4{a b}{S0}{A E:Sto->Prop}(r:a.lit=AC)(q:b.lit=AC)(v:∀l j,a=.tup l->b=.tup j->A S0)(B:(¬∃l j,a=.tup l/\b=.tup j)->E S0):
  ab5 "tuple" a S0 λx e=>∃c,x=D.bl c/\if c=AC then ab5 "tuple" b e λd e=>∃k,d=D.bl k/\if k=AC then A e else E e else E e:=by
 have f:∀x,x.lit=AC->(∃h,x=.tup h)\/(∀h,x≠.tup h)/\∃g,(g=="tuple"||(g=="bool"&&"tuple"=="int"))=AF/\∀s,tyD x s=AA g:=λx u=>by
  cases x with
  |tup h=>show .inl ⟨h,rfl⟩
  |int i=>show .inr {λ_=>nofun,"int",∅,λ_=>rfl}
  |str y=>show .inr {λ_=>nofun,"str",∅,λ_=>rfl}
  |_=>simp[D.lit]at u
 rcases f a r with⟨l,rfl⟩|⟨z,g,n,m⟩
 ·apply .inl {"tuple",rfl,AC,rfl,?_};rcases f b q with⟨j,rfl⟩|⟨w,g,n,m⟩
  ·show .inl {"tuple",rfl,AC,rfl,by show v l j rfl rfl}
  ·apply .inl {g,m _,AF,by rw[n],?_};simp_all
 ·apply .inl {g,m _,AF,by rw[n],?_};simp_all
abbrev pd(l:List (D×D)):List D:=l.map λp=>.tup [p.1,p.2]
def bi4{x:String}:(D.str (Ac x)).lit=AC:=u6 x
def ci6{i:Int}:(D.int i).lit=AC:=rfl
def as8(k:Kd):k.d.lit=AC:=by
 induction k<;>simp only[Kd.d,ar5,D.lits,bi4,Bm, *]
def V6(p:Pg):p.d.lit=AC:=by
 induction p<;>simp only[Pg.d,ar5,D.lits,bi4,as8,ci6,Bm, *]
def b58{l:List D}:∀p∈l.zip l,p.1=p.2:=by
 induction l with
 |nil=>nofun
 |cons d l e=>
  intro p a
  rcases AM.mp a with rfl|a
  ·rfl
  ·show e p a
theorem bl8:∀(a b:List D),a.length=b.length->((a.zip b).map λp=>p.1.sz).sum=D.szs a
 |[],_,_=>rfl
 |d::a,e::b,c=>by erw[Gf,Ar,DP,p7];rw[bl8 a b (by simpa using c)]
def bn7(l:List (D×D)):l.length<=(l.map λp=>p.1.sz).sum:=by
 induction l with
 |nil=>show AR _
 |cons p l c=>have:=bl6 p.1;simp;lia
def b17(T:P "are_alike"=AA ab9)(hc:G.cst "FEW"=AA (.int 2000)){s:Sto}{t u:D}(X:t.lit=AC)(W:u.lit=AC)(hs:t.sz<=1990)(q:∀b c,(t=u->b=AC)->Kp [] s c->Q (.bl b) c):sem P G (n+1) "are_alike" [t,u] s Q:=by
 apply g9 T rfl [AA t,AA u,AD,AD,AD,AD] rfl ?_;∎;intro h N;apply{.int 2000,hc,?_};rfl';apply{{∅,∅},?_};apply B2 (λl k c=>∃(d:List (D×D))(x y:Option D),(t=u->∀p∈d,p.1=p.2)/\(∀p∈d,p.1.lit=AC/\p.2.lit=AC)/\(d.map λp=>p.1.sz).sum+1<=l.length/\l.length<=2000/\k=[AA t,AA u,AA (.ref h),x,y,AD]/\c h=AA (.lst (pd d))/\Kp [] s c) ?_ ?_ _ _ _ {[(t,u)],AD,AD,λe p m=>by cases Ao.mp m;show e,λp m=>by cases Ao.mp m;show⟨X,W⟩,by simp[t5];lia,by simp[t5],rfl,c8,Kp.refl.new N}
 ·rintro k c ⟨d,x,y,_,_,hl,_⟩;simp at hl
 ·rintro d0 dl k c ih ⟨d,x,y,he,m,hl,hz,rfl,hs',K⟩;erw[AT]at hl hz;rfl';∎;rw[w6 (.inl hs')];rfl'
  rcases an4 d with rfl|⟨d,⟨a,b⟩,rfl⟩
  ·∎;show c7 (q AC c (λ_=>rfl) K)
  ·rw[if_neg (by simp[pd];lia)];let{C,v}:=m (a,b) ∎;have B:t=u->a=b:=λe=>he e (a,b) ∎;have w:∀p∈d,p.1.lit=AC/\p.2.lit=AC:=λp z=>m p (by simp[z]);have A:t=u->∀p∈d,p.1=p.2:=λe p z=>he e p (by simp[z]);erw[Ad,Ar,Eo,DC,DP,HN]at hl;have pa:=bl6 a;have I:c h=AA (.lst (pd d++[.tup [a,b]])):=by rw[hs'];simp[pd]
   have hlp:=bn7 d;∎;rw[X2 I];∎;have E:∀u:Ob,Kp [] s (b0 c h u):=λu b o F e=>c9 (K b o F e) (n8 e N);have O:∀{r},Kp [] s r->¬(a=b)->(j9 Q).rt (.bl AF) r:=λa L=>c7 (q AF _ (λe=>absurd (B e) L) a);apply dg4 C v (λf i ea eb=>?_) λJ=>?_
   ·subst ea eb;∎
    by_cases j:f.length=i.length
    ·rw[if_neg ⋯];∎;rw[r6]at hl;have H:=bl8 f i j;have Y:=bn7 (f.zip i);have Z:(f.zip i).length=f.length:=by rw[Je];lia
     apply{_,_,rfl,rfl,j,⋯,λa g=>?_};have M:=l8 (u:=.lst (L8 f i)) (c8 (st:=c) (a:=h) (o:=.lst (pd d))) g;rw[bo6 M c8];have S:L8 f i=pd (f.zip i):=rfl;apply{t9 (by rw[S];erw[pd,AX];lia),?_};rfl';apply ih _ _ {d++f.zip i,_,_,λe p g=>?_,λp g=>?_,?_,⋯,rfl,?_,λb o F e=>c9 (l8 (E _ b o F e) g) (n8 e N)}
     ·rcases BD.mp g with z|z
      ·show A e p z
      ·cases B e;show b58 p z
     ·rcases BD.mp g with z|z
      ·show w p z
      ·let{V,U}:=FT z;show{Z2.mp C _ V,Z2.mp v _ U}
     ·rw[Ad,DC,H];lia
     ·rw[c8,S];simp[pd]
    ·rw[if_pos ⋯];∎;show O (E _) λz=>j (by cases z;rfl)
   ·∎;rw[bp9];apply{Z0 _ C,Z0 _ v,?_,?_}
    ·have z:∀x:D,x.lit=AC->(∀ds,x≠.tup ds)->o9 x=0:=λx a n=>by
      cases x<;>first|rfl|show absurd rfl (n _)
     by_cases R:∃f,a=.tup f
     ·let{f,rfl}:=R;show Ap (HC _ _) (by rw[z b v λi e=>J ⟨f,i,rfl,e⟩];lia)
     ·show Ap (Dy _ _) (by rw[z a C λf e=>R ⟨f,e⟩];lia)
    cases hde:deq a b with
    |false=>
     rfl';∎;show O (E _) λz=>by rw[z,Z3 v]at hde;cases hde
    |true=>
     rfl';show ih _ _ {d,_,_,A,w,⋯,⋯,rfl,c8,E _}
def as3{k:Kd}(h:k.smn):0<k.cnt/\k.sm\/k.cnt=0/\k=.non:=by
 rcases h with rfl|h
 ·show .inr ⟨rfl,rfl⟩
 ·show .inl {Kd.gd_pos h.1,h}
def ap1{k:Kd}(h:k.smn):k.nest<=2:=by
 rcases h with rfl|h
 ·show Av _
 ·show h.2
theorem F5:∀k:Kd,k.d.sz<=k.ms
 |.non=>by decide
 |.one=>by decide
 |.eith a b|.both a b|.way a b=>by have:=F5 a;have:=F5 b;erw[Kd.d,r6,p7,r8,D.sz,Kd.ms];lia
def ar3{k:Kd}(h:k=.non\/k.gw M/\k.nest<=M):0<k.cnt/\k.gw M/\k.nest<=M\/k.cnt=0/\k=.non:=by
 rcases h with rfl|h
 ·show .inr ⟨rfl,rfl⟩
 ·show .inl {Kd.gw_pos h.1,h}
def bk0(a:M<=7){k:Kd}(h:k=.non\/k.gw M/\k.nest<=M):k.nest<=7/\k.wd:=by
 rcases h with rfl|h
 ·show{Av _,trivial}
 ·show{Ap h.2 a,Kd.gw_wd h.1}
structure Gr(M:Nat)(Γ:List Kd)(k:Kd)(o m h:Nat)(p:Pg):Prop where
 kn:Kn Γ p k
 told:p.kn M
 oc:∀u,p.oc u<=o
 sz:p.d.sz<=m
 hg:p.hgt<=h
theorem X1(c:3<=M/\M<=7):∀{k:Kd}{Γ:List Kd},k.gw M->Gr M Γ k 0 k.ms (k.nest+2) k.pl
 |.one,Γ,_=>{.star,trivial,λ_=>AR _,∅,∅}
 |.both a b,Γ,h=>by
  have x:=X1 c (Γ:=Γ) h.1;have y:=X1 c (Γ:=Γ) h.2;apply{.pair x.kn y.kn,⟨x.told,y.told⟩,λu=>?_,?_,?_}
  ·have:=x.oc u;have:=y.oc u;erw[Kd.pl,Pg.oc];lia
  ·have:=x.sz;have:=y.sz;erw[Kd.pl,Pg.d,r6,p7,r8,D.sz,Kd.ms];lia
  ·have:=x.hg;have:=y.hg;erw[Kd.pl,Pg.hgt,Kd.nest];lia
 |.eith a b,Γ,h=>by
  have i:=F5 a;have g:=F5 b;have j:=h.2.2;unfold Kd.pl
  rcases ar3 h.1 with⟨f,e⟩|⟨f,e⟩
  ·rw[if_pos f];have x:=X1 c (Γ:=Γ) e.1;have:=x.sz;have:=x.hg;show{.left x.kn,{⋯,x.told},x.oc,by erw[Pg.d,r6,p7,r8,D.sz,Kd.ms];lia,by erw[Pg.hgt,Kd.nest];lia}
  ·rw[if_neg ⋯];have x:=X1 c (Γ:=Γ) (Kd.sm.gw c.1 h.2);have:=x.sz;have:=x.hg;show{.right x.kn,{by rw[e];show Av _,x.told},x.oc,by erw[Pg.d,r6,p7,r8,D.sz,Kd.ms];lia,by erw[Pg.hgt,Kd.nest];lia}
 |.way a b,Γ,h=>by
  have i:=F5 a;have g:=F5 b;have l:=ap1 h.1;unfold Kd.pl
  rcases as3 h.1 with⟨f,e⟩|⟨f,e⟩
  ·rw[if_neg ⋯];have x:=X1 c (Γ:=a::Γ) h.2.2;have:=x.sz;have:=x.hg;show{.way x.kn,{⋯,x.told},λu=>x.oc (u+1),by erw[Pg.d,r6,p7,r8,D.sz,Kd.ms];lia,by erw[Pg.hgt,Kd.nest];lia}
  ·rw[if_pos f];subst e;show{.way (.never (.name rfl)),{Av _,h.2.1 rfl,trivial},λu=>by simp[Pg.oc],by erw[Pg.d,Kd.d,r6,p7,r8,D.sz,Kd.ms];lia,by erw[Pg.hgt,Kd.nest];lia}
section
variable (T:P41 P G)
include T
theorem U6(c:3<=M/\M<=7):∀{k:Kd}{n:Nat}{e:Sto}{Q:DK},k.gw M->k.nest+4<=n->Q k.pl.d e->sem P G n "_law_plain" [k.d] e Q
 |.one,n,e,Q,_,f,q=>by
  obtain⟨n,rfl⟩:∃k,n=k+1:={n-1,⋯};apply g9 T.plain rfl [AA Kd.one.d] rfl ?_;unfold U5;erw[Kd.d];(iterate 2 ∎);show c7 q
 |.both a b,n,e,Q,h,f,q=>by
  obtain⟨n,rfl⟩:∃k,n=k+1:={n-1,⋯};erw[Kd.nest]at f;apply g9 T.plain rfl [AA (Kd.both a b).d] rfl ?_;unfold U5;erw[Kd.d];(iterate 3 ∎);show{oy T.plain,U6 c h.1 ⋯ {oy T.plain,U6 c h.2 ⋯ (c7 q)}}
 |.eith a b,n,e,Q,h,f,q=>by
  obtain⟨n,rfl⟩:∃k,n=k+1:={n-1,⋯};erw[Kd.nest]at f;have j:=bk0 c.2 h.1;unfold Kd.pl at q;apply g9 T.plain rfl [AA (Kd.eith a b).d] rfl ?_;unfold U5;erw[Kd.d];(iterate 3 ∎);apply{oy T.many,R9 T a ⋯ j.1 j.2 ?_};rfl'
  rcases ar3 h.1 with⟨g,i⟩|⟨g,i⟩
  ·rw[if_pos ⋯];rw[if_pos g]at q;∎;show{oy T.plain,U6 c i.1 ⋯ (c7 q)}
  ·rw[if_neg ⋯];rw[if_neg ⋯]at q;(iterate 2 ∎);show{oy T.plain,U6 c (Kd.sm.gw c.1 h.2) ⋯ (c7 q)}
 |.way a b,n,e,Q,h,f,q=>by
  obtain⟨n,rfl⟩:∃k,n=k+1:={n-1,⋯};erw[Kd.nest]at f;have l:=ap1 h.1;unfold Kd.pl at q;apply g9 T.plain rfl [AA (Kd.way a b).d] rfl ?_;unfold U5;erw[Kd.d];(iterate 5 ∎);apply{oy T.many,R9 T a ⋯ ⋯ (Kd.wd2 l) ?_};rfl'
  rcases as3 h.1 with⟨g,i⟩|⟨g,i⟩
  ·rw[if_neg ⋯];rw[if_neg ⋯]at q;∎;show{oy T.plain,U6 c h.2.2 ⋯ (c7 q)}
  ·rw[if_pos ⋯];rw[if_pos g]at q;∎;show c7 q
def G0(d:Nat):∀{n:Nat}{u:Sto}{Q:DK}{a:AI},d<=2->d+2<=n->l9 u a->(∀(k:Kd)g,k.gd->k.nest<=d+1->k.ms<=8+10*d->l9 g a->Kp [a] u g->Q k.d g)->sem P G n "_law_kind" [.ref a,.int d] u Q:=by
 induction d using HP with
 |_ d A=>
 intro n u Q a hd hn h q;obtain⟨n,rfl⟩:∃k,n=k+2:={n-2,⋯};apply g9 T.kind rfl [AA (.ref a),AA (.int d),AD,AD,AD] rfl ?_;(iterate 2 ∎);apply{oy T.next,λp F=>?_};obtain⟨m,e,M,m9,m3⟩:∃m:Int,atI [D.int 3,D.int 9] (if 0<(d:Int)then 1 else 0)=AA (.int m)/\0<m/\m<=9/\(d=0->m=3):=by
  by_cases R:d=0
  ·rw[if_neg ⋯];show{3,rfl,∅,∅,λ_=>rfl}
  ·rw[if_pos ⋯];show{9,rfl,∅,∅,λz=>absurd z R}
 apply{_,e,E3 T M (h.new F) λr t Z Y v o=>?_};have o:Kp [a] u t:=(Kp.refl.new F).trans o;∎
 by_cases J:r<3
 ·rw[if_pos J];∎;intro E b;have j:∀k:Kd,k.gd->k.nest<=1->k.ms<=8->(j9 Q).rt k.d (b0 t E (.lst [Kd.one.d,(Kd.eith .one .one).d,(Kd.eith .one .one).d])):=λk f L K=>c7 (q k _ f ⋯ ⋯ (v.new b) (o.new b));obtain rfl|rfl|rfl:r=0\/r=1\/r=2:=by lia
  ·show{_,rfl,j .one trivial ∅ ∅}
  ·show{_,rfl,j (.eith .one .one) {.inr trivial,trivial} ∅ ∅}
  ·show{_,rfl,j (.eith .one .one) {.inr trivial,trivial} ∅ ∅}
 rw[if_neg J];have d0:d≠0:=λz=>by lia
 have s:((d:Int)-1)=((d-1:Nat):Int):=by lia
 ∎
 by_cases I:r=3
 ·rw[if_pos I];∎;show c7 (q (.way .non (.eith .one .one)) _ {.inl rfl,.inr trivial,trivial} (by erw[Kd.nest];lia) (by erw[Kd.ms];lia) v o)
 rw[if_neg I];∎
 by_cases H:r=8
 ·rw[if_pos H];∎;rw[s];show{oy T.kind,A (d-1) ⋯ ⋯ ⋯ v λk y f L K C B=>c7 (q (.eith .non k) _ {.inl rfl,f} (by erw[Kd.nest];lia) (by erw[Kd.ms];lia) C (o.trans B))}
 rw[if_neg H];∎;rw[s];apply{oy T.kind,A (d-1) ⋯ ⋯ ⋯ v λk y f L K C B=>?_};∎;intro E b;obtain⟨w,S,O⟩:∃w:String,atI [D.str "either",D.str "both",D.str "way",D.str "both"] (r-4)=AA (.str w)/\∀l:Kd,l.gd->∃c:Kd,c.d=.tup [.str w,k.d,l.d]/\c.gd/\c.nest=1+max k.nest l.nest/\c.ms=2+k.ms+l.ms:=by
  obtain rfl|rfl|rfl|rfl:r=4\/r=5\/r=6\/r=7:=by lia
  ·show{"either",rfl,λl i=>{.eith k l,rfl,{.inr f,i},rfl,rfl}}
  ·show{"both",rfl,λl i=>{.both k l,rfl,⟨f,i⟩,rfl,rfl}}
  ·show{"way",rfl,λl i=>{.way k l,rfl,{.inr f,i},rfl,rfl}}
  ·show{"both",rfl,λl i=>{.both k l,rfl,⟨f,i⟩,rfl,rfl}}
 apply{_,S,oy T.kind,A 0 ⋯ ⋯ ⋯ (C.new b) λl x N a c X W=>?_};let{c,U,V,c2,c3}:=O l N;have:=c7 (Q:=Q) (q c x V ⋯ ⋯ X ((o.trans B).trans ((Kp.refl.new b).trans W)));rw[U]at this;show this
def b36{s:List Int}(hl:s.length<=63)(h:rdS st a (s.map D.int))(q:∀p f,l9 f p->Kp [] st f->Q (.ref p) f):sem P G (n+1) "_law_deck" [.ref a] st Q:=by
 apply g9 T.deck rfl [AA (.ref a),AD,AD,AD,AD,AD] rfl ?_;unfold L9;∎;intro p F;have H:a≠p:=h.elim (λh=>n8 h F) (λh=>n8 h F);have N:rdS (b0 st p (.lst [])) a (s.map D.int):=h.elim (λh=>.inl (l8 h F)) (λh=>.inr (l8 h F));have v:∀{f:Sto}{u:Ob},rdS f a (s.map D.int)->rdS (b0 f p u) a (s.map D.int):=λh=>h.elim (λh=>.inl (c9 h H)) (λh=>.inr (c9 h H));have t:∀{f:Sto}{u:Ob},Kp [] st f->Kp [] st (b0 f p u):=λK b o S e=>c9 (K b o S e) (n8 e F);∎;rw[w6 N];rfl';rw[AX];have B:(if(s.length:Int)<63 then(s.length:Int)else 63)=(s.length:Int):=by split<;>lia
 rw[B];have O:∀z:Int,0<=z % 2147483629/\z % 2147483629<2147483629:=λz=>{FD _ ∅,EI _ ∅};apply{⋯,?_};apply B2 (λl k f=>∃(m:List Int)(C A w y:Option D),(∀d∈l,∃i:Nat,d=.int i/\i<s.length)/\k=[AA (.ref a),AA (.ref p),C,A,w,y]/\f p=AA (.lst (m.map D.int))/\m.length+60*l.length<=3780/\rdS f a (s.map D.int)/\Kp [] st f) ?_ ?_ _ _ _ ⟨[],AD,AD,AD,AD,λd g=>by erw[t5,CO,mem_range]at g;let{i,M,rfl}:=g;show{i,∎,by simpa using M},rfl,c8,by rw[B0];erw[Aq,Bx];lia,N,Kp.refl.new F⟩
 ·rintro k f ⟨m,C,A,w,y,el,rfl,g,hb,hra,K⟩;apply{trivial,?_};∎;rw[w6 (.inl g)];rfl';rw[AX];erw[Aq]at hb;apply{⋯,?_};apply B2 (λl k f=>∃(m:List Int)(C A w y:Option D),(∀d∈l,∃i:Int,d=.int i/\0<=i)/\k=[AA (.ref a),AA (.ref p),C,A,w,y]/\f p=AA (.lst (m.map D.int))/\m.length+l.length<=10000/\rdS f a (s.map D.int)/\Kp [] st f) ?_ ?_ _ _ _ ⟨m,_,_,_,_,λd g=>by erw[t5,CO]at g;let{i,_,rfl}:=g;show{_,rfl,⋯},rfl,g,by rw[B0];lia,hra,K⟩
  ·rintro k f ⟨m,C,A,w,y,el,rfl,g,hb,hra,K⟩;apply{trivial,?_};∎;rw[ay1 (.inl g)];intro r V;let{U,Z,_}:=cb6 (ns:=m) (lo:=AD) (hi:=AA 150);rw[Z];show c7 (q r _ ⟨U,c8⟩ (K.new V))
  ·rintro d ds k f ih ⟨m,C,A,w,y,el,rfl,g,hb,hra,K⟩;let{i,rfl,Y}:=el d ∎;erw[AT]at hb;apply{trivial,?_};rfl';(iterate 2 ∎);rw[w6 hra];rfl';rw[AX];have I:∀E:Int,i9 (Zg P G n) (match L9.body.drop 2 with|.cons (.for _ _ b) _=>b.drop 2|_=>.nil) ⟨u5 (λ_=>True) (.n 2) (i9 (Zg P G n) (match L9.body.drop 2 with|.cons (.for _ _ b) _=>b|_=>.nil)) ⟨i9 (Zg P G n) (L9.body.drop 3) (j9 Q),(j9 Q).rt,(j9 Q).bk,(j9 Q).ct⟩ ds,(j9 Q).rt,i9 (Zg P G n) (L9.body.drop 3) (j9 Q),u5 (λ_=>True) (.n 2) (i9 (Zg P G n) (match L9.body.drop 2 with|.cons (.for _ _ b) _=>b|_=>.nil)) ⟨i9 (Zg P G n) (L9.body.drop 3) (j9 Q),(j9 Q).rt,(j9 Q).bk,(j9 Q).ct⟩ ds⟩ [AA (.ref a),AA (.ref p),AA (.int i),A,w,AA (.int E)] f:=by
    intro E;erw[L9,Ss.drop];∎;apply{aa6 {∅,∅},W2 {∅,∅},∅,?_};∎;apply{{∅,∅},W2 (by have:=O (E*48271+7919*i+13);lia),W2 {∅,∅},∅,?_};∎;rw[y6 (.inl g)];apply{trivial,aa6 {∅,∅},∅,∅,?_};rw[D2 g];apply{B8 (by erw[AX];lia),?_};show ih _ _ {m++[_],_,_,_,_,λd g=>el d (by simp[g]),rfl,by rw[c8,Ad];rfl,by erw[Af,AT,Aq];lia,v hra,t K}
   by_cases J:(0:Int)<(s.length:Int)
   ·rw[if_pos J];∎;rw[w6 hra];rfl';rw[AX,B];apply{J,?_};rw[o0 hra];let{j,X}:=BY (FD i (show(s.length:Int)≠0 by lia));have L:j<s.length:=by have:=EI i J;lia
    rw[X];apply{.int s[j],by rw[u0,AY,AH L];rfl,?_};rfl';show{∅,I _}
   ·rw[if_neg J];rfl';show I _
 ·rintro d ds k f ih ⟨m,C,A,w,y,el,rfl,g,hb,hra,K⟩;let{i,rfl,M}:=el d ∎;erw[AT]at hb;apply{trivial,?_};rfl';∎;rw[o0 hra];apply{.int s[i],by rw[u0,AY,AH M];rfl,?_};∎;apply{{∅,∅,∅},?_};generalize s[i]=c
  split
  ·∎;apply{∅,?_};apply B2 (λl k f=>∃(m:List Int)(c:Int)(w:Option D),k=[AA (.ref a),AA (.ref p),AA (.int i),AA (.int c),w,y]/\f p=AA (.lst (m.map D.int))/\m.length+l.length+60*ds.length<=3780/\rdS f a (s.map D.int)/\Kp [] st f) ?_ ?_ _ _ _ ⟨m,c,_,rfl,g,by rw[B0];have:Int.toNat 60=60:=rfl;lia,hra,K⟩
   ·rintro k f ⟨m,c,w,rfl,g,hb,hra,K⟩;apply{trivial,?_};rfl';show ih _ _ {m,_,_,_,_,λd g=>el d (by simp[g]),rfl,g,by simpa using hb,hra,K}
   ·rintro d' ds' k f ih2 ⟨m,c,w,rfl,g,hb,hra,K⟩;erw[AT]at hb;apply{trivial,?_};rfl';∎
    split
    ·∎;rw[y6 (.inl g)];apply{trivial,∅,?_};rw[D2 g];apply{B8 (by erw[AX];lia),?_};∎;show{{∅,∅},ih2 _ _ {m++[_],_,_,rfl,by rw[c8,Ad];rfl,by erw[Af,AT,Aq];lia,v hra,t K}}
    ·rfl';show ih2 _ _ {m,_,_,rfl,g,⋯,hra,K}
  ·∎;apply{∅,aa6 {∅,∅},W2 {∅,∅},∅,?_};∎;apply{{∅,∅},W2 (by have:=O (c % 2147483629*48271+7919*i+13);lia),W2 {∅,∅},∅,?_};∎;rw[y6 (.inl g)];apply{trivial,∅,aa6 {∅,∅},∅,∅,λR x=>?_};have W:p≠R:=n8 g x;apply{m.map D.int,_,l8 g x,c8,t9 (by erw[AX,AT,Aq];lia),?_};show ih _ _ {m++[_,_],_,_,_,_,λd g=>el d (by simp[g]),rfl,by rw[c8,Ad];rfl,by erw[Af,AT,Aq];lia,v (hra.elim (λh=>.inl (l8 h x)) (λh=>.inr (l8 h x))),t (K.new x)}
end
section
variable {a c k:Kd} {t u v:Pg} {o o1 o2 m2 o3 m3 h h':Nat}
def Gr.mono(g:Gr M Γ k o m h t)(c:o<=o1)(b:m<=m1)(a:h<=h'):Gr M Γ k o1 m1 h' t:={g.kn,g.told,λu=>Ap (g.oc u) c,Ap g.sz b,Ap g.hg a}
theorem Gr.pair(x:Gr M Γ a o1 m1 h t)(y:Gr M Γ b o2 m2 h u):Gr M Γ (.both a b) (o1+o2) (2+m1+m2) (h+1) (.pair t u):=
 ⟨.pair x.kn y.kn,⟨x.told,y.told⟩,λi=>Ds (x.oc i) (y.oc i),by have:=x.sz;have:=y.sz;erw[Pg.d,r6,p7,r8,D.sz];lia,by have:=x.hg;have:=y.hg;erw[Pg.hgt];lia⟩
theorem Gr.give(x:Gr M Γ (.way a b) o1 m1 h t)(y:Gr M Γ a o2 m2 h u):Gr M Γ b (o1+o2) (2+m1+m2) (h+1) (.give t u):=
 ⟨.give x.kn y.kn,⟨x.told,y.told⟩,λi=>Ds (x.oc i) (y.oc i),by have:=x.sz;have:=y.sz;erw[Pg.d,r6,p7,r8,D.sz];lia,by have:=x.hg;have:=y.hg;erw[Pg.hgt];lia⟩
theorem Gr.lets(x:Gr M Γ a o1 m1 h t)(y:Gr M (a::Γ) b o2 m2 h u):Gr M Γ b (o1+o2) (2+m1+m2) (h+1) (.lets t u):=
 ⟨.lets x.kn y.kn,⟨x.told,y.told⟩,λi=>Ds (x.oc i) (y.oc (i+1)),by have:=x.sz;have:=y.sz;erw[Pg.d,r6,p7,r8,D.sz];lia,by have:=x.hg;have:=y.hg;erw[Pg.hgt];lia⟩
theorem Gr.case(x:Gr M Γ (.eith a b) o1 m1 h t)(y:Gr M (a::Γ) c o2 m2 h u)(z:Gr M (b::Γ) c o3 m3 h v):Gr M Γ c (o1+o2+o3) (2+m1+m2+m3) (h+1) (.case t u v):=
 ⟨.case x.kn y.kn z.kn,⟨x.told,y.told,z.told⟩,λi=>Ds (Ds (x.oc i) (y.oc (i+1))) (z.oc (i+1)),by have:=x.sz;have:=y.sz;have:=z.sz;erw[Pg.d,r6,p7,r8,D.sz];lia,by have:=x.hg;have:=y.hg;have:=z.hg;erw[Pg.hgt];lia⟩
theorem Gr.first(x:Gr M Γ (.both a b) o m h t):Gr M Γ a o (2+m) (h+1) (.first t):=⟨.first x.kn,x.told,x.oc,by have:=x.sz;erw[Pg.d,r6,p7,r8,D.sz];lia,by have:=x.hg;erw[Pg.hgt];lia⟩
theorem Gr.second(x:Gr M Γ (.both a b) o m h t):Gr M Γ b o (2+m) (h+1) (.second t):=⟨.second x.kn,x.told,x.oc,by have:=x.sz;erw[Pg.d,r6,p7,r8,D.sz];lia,by have:=x.hg;erw[Pg.hgt];lia⟩
theorem Gr.left(x:Gr M Γ a o m h t)(c:b.nest<=M):Gr M Γ (.eith a b) o (2+b.ms+m) (h+1) (.left b t):=⟨.left x.kn,⟨c,x.told⟩,x.oc,by have:=x.sz;have:=F5 b;erw[Pg.d,r6,p7,r8,D.sz];lia,by have:=x.hg;erw[Pg.hgt];lia⟩
theorem Gr.right(x:Gr M Γ b o m h t)(c:a.nest<=M):Gr M Γ (.eith a b) o (2+a.ms+m) (h+1) (.right a t):=⟨.right x.kn,⟨c,x.told⟩,x.oc,by have:=x.sz;have:=F5 a;erw[Pg.d,r6,p7,r8,D.sz];lia,by have:=x.hg;erw[Pg.hgt];lia⟩
theorem Gr.way(x:Gr M (a::Γ) b o m h t)(c:a.nest<=M):Gr M Γ (.way a b) o (2+a.ms+m) (h+1) (.way a t):=⟨.way x.kn,⟨c,x.told⟩,λi=>x.oc (i+1),by have:=x.sz;have:=F5 a;erw[Pg.d,r6,p7,r8,D.sz];lia,by have:=x.hg;erw[Pg.hgt];lia⟩
theorem Gr.never(x:Gr M Γ .non o m h t)(a:k.nest<=M):Gr M Γ k o (2+k.ms+m) (h+1) (.never k t):=⟨.never x.kn,⟨a,x.told⟩,x.oc,by have:=x.sz;have:=F5 k;erw[Pg.d,r6,p7,r8,D.sz];lia,by have:=x.hg;erw[Pg.hgt];lia⟩
theorem Gr.star:Gr M Γ .one 0 2 1 .star:={.star,trivial,λ_=>AR _,AR _,AR _}
theorem Gr.name(e:Γ[n]?=AA k):Gr M Γ k 1 3 1 (.name n):={.name e,trivial,λi=>by erw[Pg.oc];split<;>lia,AR _,AR _}
end
abbrev Tr(r m:Nat):Nat:=if r<3 then m else 2*m+42*(r-2)
abbrev Lr(r:Nat):Nat:=if r<3 then 1 else if r<6 then 3 else 6
def T6{r:Nat}(h:r<3):Tr r m=m:=if_pos h
def J9{r:Nat}(h:3<=r):Tr r m=2*m+42*(r-2):=if_neg ⋯
def T7{r:Nat}:Tr r m<=2*m+42*(r-2):=by unfold Tr;split<;>lia
def bo8{r:Nat}(h:3<=r)(a:r<=8):2*Lr (r / 2)<=Lr r/\2*Lr ((r-1) / 2)<=Lr r/\3*Lr ((r-1) / 3)<=Lr r/\Lr (r-1)<=Lr r/\3<=Lr r:=by
 obtain rfl|rfl|rfl|rfl|rfl|rfl:r=3\/r=4\/r=5\/r=6\/r=7\/r=8:=by lia
 all_goals decide
structure Ask(M:Nat)(k:Kd)(Γ:List Kd)(r:Nat):Prop where
 gw:k.gw M
 nest:k.nest+r<=16
 all:∀l∈Γ,l.nest<=3
 len:Γ.length+r<=40
 hM:3<=M/\M<=7
abbrev af3(M:Nat)(P:j6)(G:Gs)(r:Nat):Prop:=∀{n:Nat}{st:Sto}{Q:DK}{a:AI}{k:Kd}{Γ:List Kd},3*r+30<=n->Ask M k Γ r->l9 st a->(∀(p:Pg)st',Gr M Γ k (Lr r) (Tr r k.ms) (18+r) p->l9 st' a->Kp [a] st st'->Q p.d st')->sem P G n "_law_term" [.ref a,k.d,.tup (Γ.map Kd.d),.int r] st Q
section
variable (T:P41 P G) {r:Nat} 
include T
def b92(m:3<=r)(h8:r<=8)(B:∀s,s<r->af3 M P G s):∀{k:Kd},3*r+29<=n->Ask M k Γ r->l9 st da->(∀(p:Pg)i,Gr M Γ k (Lr r) (Tr r k.ms) (18+r) p->l9 i da->Kp [da] st i->Q p.d i)->sem P G n "_law_made" [.ref da,k.d,.tup (Γ.map Kd.d),.int r] st Q:=by
 intro k hn A I q;obtain⟨n,rfl⟩:∃k,n=k+1:={n-1,⋯};let{L1,L2,L3,K,L5}:=bo8 m h8;have Z:=A.len;have z:=A.nest;have j:=A.hM;have h:((r:Int)-1)=((r-1:Nat):Int):=by lia
 have C:((r:Int) / 2)=((r / 2:Nat):Int):=by lia
 apply g9 T.made rfl [AA (.ref da),AA k.d,AA (.tup (Γ.map Kd.d)),AA (.int r),AD] rfl ?_;unfold al6;cases k with
 |non=>show A.gw.elim
 |one=>
  erw[Kd.d];(iterate 2 ∎);show c7 (q .star _ (Gr.star.mono (Av _) (by rw[J9 m];lia) ⋯) I Kp.refl)
 |both a b=>
  erw[Kd.nest]at z;erw[Kd.d];(iterate 3 ∎);rw[C];apply{oy T.term,{∅,∅},B (r / 2) ⋯ ⋯ {A.gw.1,⋯,A.all,⋯,j} I λt w o e f=>?_};∎;rw[C];apply{oy T.term,{∅,∅},B (r / 2) ⋯ ⋯ {A.gw.2,⋯,A.all,⋯,j} e λu s2 g2 I2 D=>?_};have E:Tr (r / 2) a.ms<=_:=T7;have t2:Tr (r / 2) b.ms<=_:=T7;show c7 (q (.pair t u) _ ((o.pair g2).mono ⋯ (by rw[J9 m];erw[Kd.ms];lia) ⋯) I2 (f.trans D))
 |way a b=>
  erw[Kd.nest]at z;erw[Kd.d];have Y:=ap1 A.gw.1;have hg:=A.gw.2.2;(iterate 3 ∎);apply{oy T.many,R9 T a ⋯ ⋯ (Kd.wd2 Y) ?_};rfl'
  rcases as3 A.gw.1 with⟨J,g⟩|⟨J,g⟩
  ·rw[if_pos ⋯];∎;rw[h];apply{oy T.term,t9 (by erw[AX,AT,Aq];lia),B (r-1) ⋯ ⋯ (Γ:=a::Γ) {hg,⋯,λl H=>?_,by erw[AT];lia,j} I λt w o e f=>?_}
   ·rcases AM.mp H with rfl|H
    ·lia
    ·show A.all l H
   have E:Tr (r-1) b.ms<=_:=T7;show c7 (q (.way a t) _ ((o.way ⋯).mono K (by rw[J9 m];erw[Kd.ms];lia) ⋯) e f)
  ·rw[if_neg ⋯];(iterate 2 ∎);subst g;have O:=A.gw.2.1 rfl;show c7 (q (.way .non (.never b (.name 0))) _ (((Gr.name (k:=.non) rfl).never O).way (Av _) |>.mono ⋯ (by rw[J9 m];erw[Kd.ms];lia) ⋯) I Kp.refl)
 |eith a b=>
  erw[Kd.d];have L:=bk0 j.2 A.gw.1;have X:=A.gw.2.2;have O:=Kd.gd_pos A.gw.2.1;have F:∀(c:Sto),a.gw M/\a.nest<=M->l9 c da->Kp [da] st c->i9 (Zg P G n) (.cons (.ret (.tup (.cons (.str "left") (.cons (.ix (.v 1) (.int 2)) (.cons (.call "_law_term" (.cons (.v 0) (.cons (.ix (.v 1) (.int 1)) (.cons (.v 2) (.cons (.bin .Sub (.v 3) (.int 1)) .nil))))) .nil))))) .nil) (j9 Q) [AA (.ref da),AA (.tup [.str "either",a.d,b.d]),AA (.tup (Γ.map Kd.d)),AA (.int r),AD] c:=by
   intro c g e f;∎;rw[h];apply{oy T.term,B (r-1) ⋯ ⋯ {g.1,⋯,A.all,⋯,j} e λt w o e D=>?_};have E:Tr (r-1) a.ms<=_:=T7;show c7 (q (.left b t) _ ((o.left ⋯).mono K (by rw[J9 m];erw[Kd.ms];lia) ⋯) e (f.trans D))
  have y:∀(c:Sto),a.nest<=M->l9 c da->Kp [da] st c->i9 (Zg P G n) (.cons (.ret (.tup (.cons (.str "right") (.cons (.ix (.v 1) (.int 1)) (.cons (.call "_law_term" (.cons (.v 0) (.cons (.ix (.v 1) (.int 2)) (.cons (.v 2) (.cons (.bin .Sub (.v 3) (.int 1)) .nil))))) .nil))))) .nil) (j9 Q) [AA (.ref da),AA (.tup [.str "either",a.d,b.d]),AA (.tup (Γ.map Kd.d)),AA (.int r),AD] c:=by
   intro c hna e f;∎;rw[h];apply{oy T.term,B (r-1) ⋯ ⋯ {Kd.sm.gw j.1 A.gw.2,⋯,A.all,⋯,j} e λt w o e D=>?_};have E:Tr (r-1) b.ms<=_:=T7;show c7 (q (.right a t) _ ((o.right ⋯).mono K (by rw[J9 m];erw[Kd.ms];lia) ⋯) e (f.trans D))
  (iterate 5 ∎);apply{oy T.many,R9 T b ⋯ ⋯ (Kd.wd2 X) ?_};rfl';rw[if_neg ⋯];apply{oy T.many,R9 T a ⋯ L.1 L.2 ?_};rfl'
  rcases ar3 A.gw.1 with⟨J,g⟩|⟨J,g⟩
  ·rw[if_pos ⋯];obtain⟨n,rfl⟩:∃k,n=k+1:={n-1,⋯};apply{oy T.next,E3 T ∅ I λx w a b e f=>?_};rfl'
   by_cases N:x=0
   ·rw[if_pos N];show F w g e f
   ·rw[if_neg N];rfl';show y w g.2 e f
  ·rw[if_neg ⋯];rfl';show y st (by rw[g];show Av _) I Kp.refl
end
theorem bs3:∀k:Kd,3<=k.ms
 |.non|.one=>by decide
 |.eith a b|.both a b|.way a b=>by have:=bs3 a;erw[Kd.ms];lia
def Ask.cons{k a}{r s}(A:Ask M k Γ r)(c:a.nest<=3)(d:s<r):Ask M k (a::Γ) s:=
 ⟨A.gw,by have:=A.nest;lia,λl b=>by
  rcases AM.mp b with rfl|b
  ·show c
  ·show A.all l b,by have:=A.len;erw[AT];lia,A.hM⟩
def Ask.sub{k l}{r s}(A:Ask M k Γ r)(g:l.gw M)(a:l.nest+s<=16)(b:s<=r):Ask M l Γ s:=⟨g,a,A.all,by have:=A.len;lia,A.hM⟩
section
variable (T:P41 P G) {r:Nat} 
include T
def bb4(O:3<=r)(h8:r<=8)(b:∀s,s<r->af3 M P G s){k:Kd}(hn:3*r+29<=n)(A:Ask M k Γ r)(I:l9 st da)(q:∀(p:Pg)i,Gr M Γ k (Lr r) (Tr r k.ms) (18+r) p->l9 i da->Kp [da] st i->Q p.d i):sem P G n "_law_taken" [.ref da,k.d,.tup (Γ.map Kd.d),.int r] st Q:=by
 obtain⟨n,rfl⟩:∃k,n=k+2:={n-2,⋯};let{L1,L2,L3,V,L5}:=bo8 O h8;have X:=A.len;have W:=A.nest;have a:((r:Int)-1)=((r-1:Nat):Int):=by lia
 have K:(((r-1:Nat):Int) / 2)=(((r-1) / 2:Nat):Int):=by lia
 have H:(((r-1:Nat):Int) / 3)=(((r-1) / 3:Nat):Int):=by lia
 have ge:=J9 (m:=k.ms) O;have h:∀x:Kd,[x.d].length+(Γ.map Kd.d).length<=sizeLine:=λx=>t9 (by erw[AX,AT,Aq];lia);apply g9 T.taken rfl [AA (.ref da),AA k.d,AA (.tup (Γ.map Kd.d)),AA (.int r),AD,AD,AD,AD,AD,AD,AD] rfl ?_;unfold aj2;∎;apply{oy T.next,E3 T ∅ I λx d g x5 I1 K1=>?_};∎;obtain⟨d,ed,Z⟩:∃d:Nat,((1:Int)-if(r:Int)<6 then 1 else 0)=(d:Int)/\d<=1:=by
  split
  ·show{0,rfl,∅}
  ·show{1,rfl,∅}
 rw[ed];apply{oy T.kind,G0 T d ⋯ ⋯ I1 λm d L g g3 E j=>?_};have o:m.sm:={L,⋯};have j:=K1.trans j;∎;rw[a,K];apply{{∅,∅},?_};∎
 by_cases U:x=0
 ·rw[if_pos U];∎;rw[a];apply{oy T.term,b (r-1) ⋯ ⋯ (k:=.both k m) (A.sub {A.gw,(o.gw A.hM.1)} (by erw[Kd.nest];lia) ⋯) E λt F g e c=>?_};have J:Tr (r-1) (Kd.both k m).ms<=_:=T7;erw[Kd.ms]at J;show c7 (q (.first t) _ (g.first.mono V (by erw[Kd.ms];lia) ⋯) e (j.trans c))
 rw[if_neg U];∎
 by_cases S:x=1
 ·rw[if_pos S];∎;rw[a];apply{oy T.term,b (r-1) ⋯ ⋯ (k:=.both m k) (A.sub {(o.gw A.hM.1),A.gw} (by erw[Kd.nest];lia) ⋯) E λt F g e c=>?_};have J:Tr (r-1) (Kd.both m k).ms<=_:=T7;erw[Kd.ms]at J;show c7 (q (.second t) _ (g.second.mono V (by erw[Kd.ms];lia) ⋯) e (j.trans c))
 rw[if_neg S];∎
 by_cases R:x=2
 ·rw[if_pos R];∎;apply{oy T.term,b ((r-1) / 2) ⋯ ⋯ (k:=.way m k) (A.sub {.inr o,λz=>by rw[z]at L;show L.elim,A.gw} (by erw[Kd.nest];lia) ⋯) E λt F B e c=>?_};∎;apply{oy T.term,b ((r-1) / 2) ⋯ ⋯ (A.sub (o.gw A.hM.1) ⋯ ⋯) e λu N y D C=>?_};apply c7 (q (.give t u) _ ((B.give y).mono ⋯ ?_ ⋯) D ((j.trans c).trans C))
  by_cases f:(r-1) / 2<3
  ·rw[T6 f,T6 f];erw[Kd.ms];lia
  ·rw[J9 ⋯,J9 ⋯];erw[Kd.ms];lia
 rw[if_neg R];∎
 by_cases w:x=3
 ·rw[if_pos w];∎;apply{oy T.term,b ((r-1) / 2) ⋯ ⋯ (A.sub (o.gw A.hM.1) ⋯ ⋯) E λt F B e c=>?_};∎;apply{oy T.term,h m,b ((r-1) / 2) ⋯ ⋯ (Γ:=m::Γ) (A.cons ⋯ ⋯) e λu N y D C=>?_};apply c7 (q (.lets t u) _ ((B.lets y).mono ⋯ ?_ ⋯) D ((j.trans c).trans C))
  by_cases f:(r-1) / 2<3
  ·rw[T6 f,T6 f];lia
  ·rw[J9 ⋯,J9 ⋯];lia
 rw[if_neg w];∎;apply{oy T.kind,G0 T 0 ⋯ ⋯ E λl F Y d g e c=>?_};∎;rw[a,H];apply{{∅,∅},?_};have f:(r-1) / 3<3:=by lia
 ∎;apply{oy T.term,b ((r-1) / 3) ⋯ ⋯ (k:=.eith m l) (A.sub {.inr ⟨o.gw A.hM.1,by have:=A.hM;lia⟩,Y,⋯} (by erw[Kd.nest];lia) ⋯) e λt N B D C=>?_};∎;apply{oy T.term,h m,b ((r-1) / 3) ⋯ ⋯ (Γ:=m::Γ) (A.cons ⋯ ⋯) D λu d y I5 K5=>?_};∎;apply{oy T.term,h l,b ((r-1) / 3) ⋯ ⋯ (Γ:=l::Γ) (A.cons ⋯ ⋯) I5 λv a gv I6 K6=>?_};apply c7 (q (.case t u v) _ ((B.case y gv).mono ⋯ ?_ ⋯) I6 ((((j.trans c).trans C).trans K5).trans K6));rw[T6 f,T6 f];erw[Kd.ms];lia
def bd5(r:Nat)(X:r<=8):af3 M P G r:=by
 induction r using HP with
 |_ r K=>
 intro n st Q N k c hn A I q;have K:∀s,s<r->af3 M P G s:=λs d=>K s d ⋯;obtain⟨n,rfl⟩:∃k,n=k+2:={n-2,⋯};have len:=A.len;have nst:=A.nest;apply g9 T.term rfl [AA (.ref N),AA k.d,AA (.tup (c.map Kd.d)),AA (.int r),AD,AD] rfl ?_;∎;erw[AX];apply{{⋯,⋯},by rw[B0];lia,?_};apply G1 (λl o m b=>b=st/\(∀d∈l,∃i:Nat,d=.int i/\i<c.length)/\∃(a:List Nat)(x:Option D),o=a.map (λj:Nat=>D.int j)/\(∀j∈a,c[j]?=AA k)/\m=[AA k.d,AA (.tup (c.map Kd.d)),x]/\a.length+l.length<=40) ?_ ?_ _ _ _ _ ⟨rfl,λd u=>by erw[t5,CO,mem_range]at u;let{i,F,rfl}:=u;show{i,∎,by simpa using F},[],AD,rfl,nofun,rfl,by rw[B0];erw[Aq,Bx];lia⟩
 ·rintro o m b ⟨rfl,_,a,x,rfl,hj,_,hl⟩;apply{trivial,λp L=>?_};∎;apply{oy T.next,E3 T ∅ (I.new L) λx J d e O t=>?_};have f:J p=AA (.lst (a.map λj:Nat=>D.int j)):=t.at' c8 (by simpa using(I.ne L).symm);have t:Kp [N] b J:=(Kp.refl.new L).trans t;∎;rw[w6 (.inl f)];rfl';rw[AX];have V:i9 (Zg P G (n+1)) (Y6.body.drop 3) (j9 Q) [AA (.ref N),AA k.d,AA (.tup (c.map Kd.d)),AA (.int r),AA (.ref p),AA (.int x)] J:=by
   erw[Y6,Ss.drop];∎
   by_cases Y:r<3
   ·rw[if_pos ⋯];∎;show{oy T.plain,U6 T A.hM A.gw ⋯ (c7 (q _ _ ((X1 A.hM A.gw).mono (Av _) (by rw[T6 Y];lia) ⋯) O t))}
   ·rw[if_neg ⋯];∎
    by_cases W:x=3
    ·rw[if_pos W];∎;show{oy T.taken,bb4 T ⋯ X K ⋯ A O λp B g H w=>c7 (q p B g H (t.trans w))}
    ·rw[if_neg W];∎;show{oy T.made,b92 T ⋯ X K ⋯ A O λp B g H w=>c7 (q p B g H (t.trans w))}
  have C:0<a.length->i9 (Zg P G (n+1)) (.cons (.ret (.tup (.cons (.str "name") (.cons (.ix (.v 4) (.call "_law_next" (.cons (.v 0) (.cons (.len (.v 4)) .nil)))) .nil)))) .nil) (j9 Q) [AA (.ref N),AA k.d,AA (.tup (c.map Kd.d)),AA (.int r),AA (.ref p),AA (.int x)] J:=by
   intro U;∎;rw[w6 (.inl f)];rfl';rw[AX];apply{oy T.next,E3 T ⋯ O λy B y0 e H w=>?_};have R:B p=AA (.lst (a.map λj:Nat=>D.int j)):=w.at' f (by simpa using(I.ne L).symm);rw[o0 (.inl R)];let{j,rfl}:=BY y0;have E:j<a.length:=by lia
   apply{.int a[j],by rw[u0,AY,AH E];rfl,c7 (q (.name a[j]) _ ((Gr.name (hj _ (DE E))).mono ?_ ?_ ⋯) H (t.trans w))}
   ·unfold Lr;split
    ·show AR _
    ·split<;>decide
   ·have:=bs3 k;unfold Tr;split<;>lia
  by_cases U:0<a.length
  ·rw[if_pos ⋯]
   by_cases Z:x<2
   ·rw[if_pos Z];show C U
   ·rw[if_neg Z]
    by_cases Y:r<3
    ·rw[if_pos ⋯];show C U
    ·rw[if_neg ⋯];rfl';show V
  ·rw[if_neg ⋯];show V
 ·rintro d ds o m b ih2 ⟨rfl,u,a,x,rfl,hj,rfl,hl⟩;let{i,rfl,F}:=u d ∎;erw[AT]at hl;rfl';apply{c[i].d,by rw[u0,AY,AH F];rfl,?_};apply{N9 _,N9 _,?_,?_}
  ·have:=A.all _ (DE F);show Ap (Dy _ _) (by rw[G8];lia)
  rw[bn4]
  by_cases e:c[i]=k
  ·erw[e,decide_true,ay2,if_true];show ih2 _ _ _ {rfl,λd h=>u d (by simp[h]),a++[i],_,∎,λj S=>by
    rcases BD.mp S with z|z
    ·show hj j z
    ·rw[Ao.mp z,AH F,e],rfl,by erw[Af,AT,Aq];lia}
  ·erw[e,decide_false,ay2,if_false,BN];show ih2 _ _ _ {rfl,λd h=>u d (by simp[h]),a,_,rfl,hj,rfl,⋯}
end
abbrev Pg.w:Pg->String
 |.name _=>"name"|.star=>"star"|.pair _ _=>"pair"|.first _=>"first"|.second _=>"second"|.left _ _=>"left"|.right _ _=>"right"
 |.case _ _ _=>"case"|.way _ _=>"way"|.give _ _=>"give"|.lets _ _=>"let"|.never _ _=>"never"
abbrev Pg.frt:Pg->List D
 |.name n=>[.int n]|.left b _=>[b.d]|.right b _=>[b.d]|.way b _=>[b.d]|.never b _=>[b.d]|_=>[]
def Pg.d_w(p:Pg)u:p.d=.tup (.str p.w::(p.frt++(p.kidsU u).map λc=>c.1.d)):=by cases p<;>rfl
def Pg.mp_w{p:Pg}u(h:p.w≠"name"):(p.mp f u).d=.tup (.str p.w::(p.frt++(p.kidsU u).map λc=>(c.1.mp f c.2).d)):=by cases p<;>first|rfl|show absurd rfl h
@[reducible]noncomputable def isW(w:String)(l:List D):Prop:=(l.any λy=>deq y (.str w))=AC
abbrev ay3(w:String):List (Nat×Nat):=
 if isW w [.str "name",.str "star"]then []else if isW w [.str "pair",.str "give"]then [(1,0),(2,0)]else if isW w [.str "first",.str "second"]then [(1,0)]
 else if isW w [.str "left",.str "right",.str "never"]then [(2,0)]else if w="way" then [(2,1)]else if w="let" then [(1,0),(2,1)]else [(1,0),(2,1),(3,1)]
@[reducible]noncomputable def ax8(x:Nat×Nat):D:=.tup [.int x.1,.int x.2]
def c38(p:Pg)u:ay3 p.w=(p.kidsU u).mapIdx λi c=>(1+p.frt.length+i,c.2-u):=by
 cases p<;>simp[Pg.kidsU,Pg.kids,Pg.more,Pg.frt,Pg.w]<;>decide
section
variable (T:P41 P G) 
include T
def b08{w:String}{d:List D}(q:∀a,st a=AD->Q (.ref a) (b0 st a (.lst ((ay3 w).map ax8)))):sem P G (n+1) "_law_under" [.tup (.str w::d)] st Q:=by
 have c:∀l:List String,D.pures (l.map λx=>D.str (Ac x))=AC:=λl=>by
  induction l with
  |nil=>rfl
  |cons x l o=>rw[Ar,E9,u6,o];rfl
 unfold ay3 at q;apply g9 T.under rfl [AA (.tup (.str w::d)),AD] rfl ?_;unfold ai5;(iterate 2 ∎);apply{u6 _,c ["name","star"],Av _,?_}
 by_cases j:isW w [.str "name",.str "star"]
 ·rw[if_pos j]at q ⊢;∎;show λa b=>c7 (q a b)
 rw[if_neg j]at q ⊢;∎;apply{u6 _,c ["pair","give"],Av _,?_}
 by_cases i:isW w [.str "pair",.str "give"]
 ·rw[if_pos i]at q ⊢;∎;show λa b=>c7 (q a b)
 rw[if_neg i]at q ⊢;∎;apply{u6 _,c ["first","second"],Av _,?_}
 by_cases h:isW w [.str "first",.str "second"]
 ·rw[if_pos h]at q ⊢;∎;show λa b=>c7 (q a b)
 rw[if_neg h]at q ⊢;∎;apply{u6 _,c ["left","right","never"],Av _,?_}
 by_cases g:isW w [.str "left",.str "right",.str "never"]
 ·rw[if_pos g]at q ⊢;∎;show λa b=>c7 (q a b)
 rw[if_neg g]at q ⊢;∎
 by_cases f:w="way"
 ·rw[if_pos f]at q ⊢;∎;show λa b=>c7 (q a b)
 rw[if_neg f]at q ⊢;∎
 by_cases e:w="let"
 ·rw[if_pos e]at q ⊢;∎;show λa b=>c7 (q a b)
 rw[if_neg e]at q ⊢;∎;show λa b=>c7 (q a b)
end
def Pg.w_name{p:Pg}(h:p.w="name"):∃n,p=.name n:=by cases p<;>simp[Pg.w]at h ⊢
def Pg.hgt_lt(p:Pg)u:∀c∈p.kidsU u,c.1.hgt<p.hgt/\u<=c.2:=by
 cases p<;>simp[Pg.hgt,Pg.kidsU,Pg.kids,Pg.more,Dk]<;>lia
@[reducible]noncomputable def lpB(F:Str):Ss:=.cons (.set 3 (.list (.v 0))) (.cons (.for (.tup [4,5]) (.seq (.call "_law_under" (.cons (.v 0) .nil))) (.cons (.put (.v 3) (.v 4) (.call F (.cons (.ix (.v 0) (.v 4)) (.cons (.v 1) (.cons (.bin .Add (.v 2) (.v 5)) .nil))))) .nil)) (.cons (.ret (.tuple (.v 3))) .nil))
section
variable (T:P41 P G) 
include T
def bj3{F:Str}(S:(P F).isSome=AC){p:Pg}{x:D}{y:Int}(O:p.w≠"name")
  (M:∀c∈p.kidsU u,∀(t:Sto)(Q:DK),(∀j,Kp [] t j->Q (c.1.mp f c.2).d j)->sem P G (n+1) F [c.1.d,x,.int (y+((c.2-u:Nat):Int))] t Q) (q:∀j,Kp [] t j->Q (p.mp f u).d j) :
  i9 (Zg P G (n+1)) (lpB F) (j9 Q) [AA p.d,AA x,AA (.int y),AD,AD,AD] t:=by
 rw[Pg.mp_w u O]at q;rw[Pg.d_w p u];generalize R:p.kidsU u=ks at M q;have I:=c38 p u;rw[R]at I;∎;intro h J;∎;apply{oy T.under,b08 T λa H=>?_};rw[I];rfl';have z:h≠a:=n8 c8 H;apply{_,.inl c8,?_};generalize N:FP ax8 (EQ (λi c=>(1+p.frt.length+i,c.2-u)) ks)=L;have Y:L.length=ks.length:=by rw[<-N];simp
 have V:∀(i:Nat)(A:i<ks.length),L[i]?=AA (ax8 (1+p.frt.length+i,ks[i].2-u)):=λi A=>by rw[<-N];simp[A]
 have m:∀{j:Sto}{v:Ob},rdS j a L->rdS (b0 j h v) a L:=λr=>r.elim (λr=>.inl (c9 r z.symm)) (λr=>.inr (c9 r z.symm));apply B2 (λl s j=>∃(i:Nat)(E C:Option D),i<=ks.length/\l=L.drop i/\s=[AA (.tup (.str p.w::(p.frt++ks.map λc=>c.1.d))),AA x,AA (.int y),AA (.ref h),E,C]/\j h=AA (.lst ((.str p.w::p.frt)++((ks.take i).map (λc=>(c.1.mp f c.2).d)++(ks.drop i).map λc=>c.1.d)))/\rdS j a L/\Kp [] t j) ?_ ?_ _ _ _ {0,AD,AD,Av _,rfl,rfl,l8 c8 H,.inl c8,(Kp.refl.new J).new H}
 ·rintro s j ⟨i,E,C,A,el,rfl,h1,h2,K⟩;have e:i=ks.length:=by have:=congrArg BI el;rw[Bz]at this;erw[Aq]at this;lia
  subst e;apply{h2,?_};∎;apply{_,.inl h1,c7 ?_};have:=q j K;simpa using this
 ·rintro d ds s j ih ⟨i,E,C,A,el,rfl,h1,h2,K⟩;apply{h2,?_};have k:i<ks.length:=by
   have:=congrArg BI el;rw[Bz,AT]at this;lia
  rw[BA ⋯]at el;let{rfl,rfl}:=Ag el;have g:=V i k;rw[AH ⋯]at g;rw[Ay g];rfl';∎;apply{S,ks[i].1.d,?_,M ks[i] (DE k) j _ λW B=>?_}
  ·rw[u0,<-Br,Ai (by erw[AT];lia),AY];rw[show 1+p.frt.length+i-(D.str p.w::p.frt).length=i by erw[AT];lia,AH k];rfl
  have U:=B.at' h1 ∎;apply{h,_,1+p.frt.length+i,_,rfl,rfl,U,?_,?_}
  ·erw[Af,AT,AX,By,Bz];unfold ixN;rw[if_pos ⋯,if_pos ⋯,Bx]
  apply ih _ _ {i+1,_,_,k,rfl,rfl,?_,?_,λb o X e=>c9 (B.at' (K.at' e ∎) ∎) (n8 e J)}
  ·rw[c8]
   congr 2
   rw[IP _ _ (by erw[AT];lia),IP _ _ (by erw[AT,AX,By];lia)];rw[BA k,Ar,show 1+p.frt.length+i-(D.str p.w::p.frt).length-((ks.take i).map λc=>(c.1.mp f c.2).d).length=0 by erw[AT,AX,By];lia,List.set_cons_zero];rw[List.take_succ_eq_append_getElem k,Ad,Bo];rfl
  ·show m (h2.elim (λr=>.inl (B.at' r ∎)) (λr=>.inr (B.at' r ∎)))
theorem ac7{l:Nat}:∀(n:Nat)(p:Pg)(u:Nat){st:Sto}{Q:DK},p.hgt+2<=n->(∀st',Kp [] st st'->Q (p.mp (lfF m l) u).d st')->sem P G n "_law_lift" [p.d,.int m,.int (u+l:Nat)] st Q
 |0,p,u,st,Q,hn,q=>by lia
 |1,p,u,st,Q,hn,q=>by lia
 |n+2,p,u,st,Q,hn,q=>by
  apply g9 T.lift rfl [AA p.d,AA (.int m),AA (.int (u+l:Nat)),AD,AD,AD] rfl ?_;by_cases hw:p.w="name"
  ·let{k,rfl}:=Pg.w_name hw;erw[Pg.d];(iterate 2 ∎);apply{aa6 (by split<;>decide),?_};have:=q st Kp.refl;erw[Pg.mp,lfF]at this
   by_cases h:u+l<=k
   ·rw[if_pos h]at this;rw[if_pos ⋯];show c7 (by simpa[Pg.d]using this)
   ·rw[if_neg h]at this;rw[if_neg ⋯];show c7 (by simpa[Pg.d]using this)
  ·have:=bj3 T (n:=n) (F:="_law_lift") (oy T.lift) (x:=.int m) (y:=(u+l:Nat)) (f:=lfF m l) (u:=u) hw (λc hc st Q k=>by
    have z:=Pg.hgt_lt p u c hc;have e:(((u+l:Nat):Int)+((c.2-u:Nat):Int))=((c.2+l:Nat):Int):=by lia
    rw[e];show ac7 (n+1) c.1 c.2 ⋯ k) q
   rw[Pg.d_w p u]at this ⊢;∎;rw[if_neg hw];show this
theorem Q3:∀(n:Nat)(p:Pg)(u:Nat){b:Sto}{Q:DK},p.hgt+o.hgt+3<=n->(∀a,Kp [] b a->Q (p.mp (sbF o) u).d a)->sem P G n "_law_put" [p.d,o.d,.int u] b Q
 |0,p,u,b,Q,i,q=>by lia
 |1,p,u,b,Q,i,q=>by lia
 |n+2,p,u,b,Q,i,q=>by
  apply g9 T.put rfl [AA p.d,AA o.d,AA (.int u),AD,AD,AD] rfl ?_;by_cases g:p.w="name"
  ·let{k,rfl}:=Pg.w_name g;erw[Pg.mp,sbF]at q;erw[Pg.d];∎
   by_cases h:k=u
   ·rw[if_neg ⋯,if_pos h]at q;rw[if_pos ⋯];∎;show{oy T.lift,ac7 T (m:=u) (l:=0) (n+1) o 0 ⋯ λa K=>c7 (q a K)}
   ·rw[if_neg ⋯];(iterate 2 ∎);have:=q b Kp.refl
    by_cases j:k<u
    ·rw[if_pos j]at this;rw[if_neg ⋯];show c7 (by simpa[Pg.d]using this)
    ·rw[if_neg j,if_neg h]at this;rw[if_pos ⋯];have e:(k:Int)-1=((k-1:Nat):Int):=by lia
     rw[e];show c7 this
  ·have:=bj3 T (n:=n) (F:="_law_put") (oy T.put) (x:=o.d) (y:=u) (f:=sbF o) (u:=u) g (λc r b Q k=>by
    have z:=Pg.hgt_lt p u c r;have e:((u:Int)+((c.2-u:Nat):Int))=((c.2:Nat):Int):=by lia
    rw[e];show Q3 (n+1) c.1 c.2 ⋯ k) q
   rw[Pg.d_w p u]at this ⊢;∎;rw[if_neg g];∎;rw[if_neg g];show this
end
abbrev au9:List (Str×D):=[("let",.fn "forth_let"),("give",.fn "forth_give"),("first",.fn "forth_first"),("second",.fn "forth_second"),("left",.fn "forth_left"),("right",.fn "forth_right"),("star",.fn "forth_star"),("pair",.fn "forth_pair"),("way",.fn "forth_way"),("never",.fn "forth_never")]
abbrev ae7:List Key:=[.inr "let",.inr "give",.inr "first",.inr "second",.inr "left",.inr "right",.inr "star",.inr "pair",.inr "way",.inr "split",.inr "never"]
structure PBk(P:j6)(G:Gs):Prop where
 alike:P "are_alike"=AA ab9
 few:G.cst "FEW"=AA (.int 2000)
 words:G.cst "WORDS"=AA (.ktup ae7)
 forth:G.tab "FORTH"=au9
 over:P "is_step_over"=AA R8
 flet:P "forth_let"=AA ai3
 fgive:P "forth_give"=AA ah5
 ffirst:P "forth_first"=AA ah0
 fsecond:P "forth_second"=AA ag5
 fleft:P "forth_left"=AA ai0
 fright:P "forth_right"=AA ag6
 fstar:P "forth_star"=AA ah4
 fpair:P "forth_pair"=AA ah1
 fway:P "forth_way"=AA ai2
 fsplit:P "forth_split"=AA ag7
 split:P "split"=AA an1
 fnever:P "forth_never"=AA ag8
section
variable {p:Pg}
def cz8(h:p.w="let"):∃t u,p=.lets t u:=by cases p<;>first|show⟨_,_,rfl⟩|show absurd h (of_decide_eq_false rfl)
def cz3(h:p.w="give"):∃t u,p=.give t u:=by cases p<;>first|show⟨_,_,rfl⟩|show absurd h (of_decide_eq_false rfl)
def bn3(h:p.w="pair"):∃t u,p=.pair t u:=by cases p<;>first|show⟨_,_,rfl⟩|show absurd h (of_decide_eq_false rfl)
def bq0(h:p.w="way"):∃t u,p=.way t u:=by cases p<;>first|show⟨_,_,rfl⟩|show absurd h (of_decide_eq_false rfl)
def cs4(h:p.w="left"):∃t u,p=.left t u:=by cases p<;>first|show⟨_,_,rfl⟩|show absurd h (of_decide_eq_false rfl)
def ch1(h:p.w="right"):∃t u,p=.right t u:=by cases p<;>first|show⟨_,_,rfl⟩|show absurd h (of_decide_eq_false rfl)
def cm1(h:p.w="first"):∃t,p=.first t:=by cases p<;>first|show⟨_,rfl⟩|show absurd h (of_decide_eq_false rfl)
def b72(h:p.w="second"):∃t,p=.second t:=by cases p<;>first|show⟨_,rfl⟩|show absurd h (of_decide_eq_false rfl)
def at4(h:p.w="case"):∃t u v,p=.case t u v:=by cases p<;>first|show⟨_,_,_,rfl⟩|show absurd h (of_decide_eq_false rfl)
structure Ft(p:Pg):Prop where
 kn:p.kn 3
 sz:p.d.sz<=1700
theorem bg9{d}:∀{l},d∈l->d.sz<=D.szs l
 |e::l,h=>by
  rw[p7]
  rcases AM.mp h with rfl|h
  ·lia
  ·have:=bg9 h;lia
def Pg.kn_kid(h:p.kn m)(a:c∈p.kids):c.kn m:=by
 cases p<;>erw[Pg.kids,AM,Ah,or_false]at a
 all_goals first|rfl|(subst a;first|show h|show h.2)|(rcases a with rfl|rfl;show h.1;show h.2)|(rcases a with rfl|rfl|rfl;show h.1;show h.2.1;show h.2.2)
def Ft.kid(h:Ft p)(a:c∈p.kids):Ft c:=by
 apply{Pg.kn_kid h.kn a,Ap ?_ h.sz};rw[Pg.d_w p 0,r6,p7,bg2];have b:c.d∈(p.kidsU 0).map λc=>c.1.d:=by
  have e:((p.kidsU 0).map λc=>c.1.d)=p.kids.map Pg.d:=by cases p<;>rfl
  rw[e];show Ie a
 have:=bg9 b;lia
def be2(p:Pg):2*p.parts<=p.d.sz/\p.hgt<=p.parts:=by
 induction p<;>erw[Pg.parts,Pg.d,Pg.hgt,r6,p7,r8,D.sz]<;>lia
theorem Ft.parts(h:Ft p):p.parts<=850/\p.hgt<=850:=by
 have:=be2 p;have:=h.sz;lia
end
abbrev Fok(P:j6)(G:Gs)(n:Nat)(f:Str)(W:Pg->Pg->Prop):Prop:=∀{x y:Pg}{st:Sto}{Q:DK},Ft x->Ft y->(∀b st',(W x y->b=AC)->Kp [] st st'->Q (.bl b) st')->sem P G n f [x.d,y.d] st Q
section
variable (B:PBk P G) (J:PNm P G) 
include B
def J3(c:Ft x)(q:∀b a,(x=y->b=AC)->Kp [] st a->Q (.bl b) a):sem P G (n+1) "are_alike" [x.d,y.d] st Q:=
 b17 B.alike B.few (V6 x) (V6 y) (Ap c.sz ∅) λb a h=>q b a λe=>h (e▸rfl)
include J
def cv5(j:14<=n):Fok P G (n+1) "forth_let" λx y=>∃t u,x=.lets t u/\y=u.sb t:=by
 intro x y f Q a i q;apply g9 B.flet rfl [AA x.d,AA y.d] rfl ?_;by_cases h:x.w="let"
 ·let{t,u,rfl}:=cz8 h;have C:=(a.kid (c:=t) (by simp[Pg.kids])).parts;have A:=(a.kid (c:=u) (by simp[Pg.kids])).parts;obtain⟨n,rfl⟩:∃k,n=k+1:={n-1,⋯};erw[Pg.d];∎;show{oy B.alike,by rw[J.put];rfl,S5 J ⋯ ⋯ ⋯ j λz r=>J3 B i λb g l p=>c7 (q b g (λ⟨v,s,o,m⟩=>l (by cases o;show m)) (r.trans p))}
 ·rw[Pg.d_w x 0];∎;rw[if_neg h];show c7 (q AF f (λ⟨t,u,e,_⟩=>absurd (by rw[e];rfl) h) Kp.refl)
def cn8(o:14<=n):Fok P G (n+1) "forth_give" λx y=>∃a t u,x=.give (.way a u) t/\y=u.sb t:=by
 intro x y g Q i m q;apply g9 B.fgive rfl [AA x.d,AA y.d] rfl ?_;by_cases h:x.w="give"
 ·let{z,t,rfl}:=cz3 h;have l:=i.kid (c:=z) (by simp[Pg.kids]);have H:=(i.kid (c:=t) (by simp[Pg.kids])).parts
  by_cases f:z.w="way"
  ·let{a,u,rfl}:=bq0 f;have F:=(l.kid (c:=u) (by simp[Pg.kids])).parts;obtain⟨n,rfl⟩:∃k,n=k+1:={n-1,⋯};erw[Pg.d];∎;show{oy B.alike,by rw[J.put];rfl,S5 J ⋯ ⋯ ⋯ o λE A=>J3 B m λb j p v=>c7 (q b j (λ⟨I,D,C,s,r⟩=>p (by cases s;show r)) (A.trans v))}
  ·erw[Pg.d];rw[Pg.d_w z 0];∎;rw[if_neg f];show c7 (q AF g (λ⟨a,t,u,e,_⟩=>absurd (by cases e;rfl) f) Kp.refl)
 ·rw[Pg.d_w x 0];∎;rw[if_neg h];show c7 (q AF g (λ⟨a,t,u,e,_⟩=>absurd (by rw[e];rfl) h) Kp.refl)
def ce3(o:14<=n):Fok P G (n+1) "forth_left" λx y=>∃c t u v,x=.case (.left c t) u v/\y=u.sb t:=by
 intro x y g Q i m q;apply g9 B.fleft rfl [AA x.d,AA y.d] rfl ?_;by_cases h:x.w="case"
 ·let{z,u,v,rfl}:=at4 h;have l:=i.kid (c:=z) (by simp[Pg.kids]);have I:=(i.kid (c:=u) (by simp[Pg.kids])).parts
  by_cases f:z.w="left"
  ·let{a,t,rfl}:=cs4 f;have K:=(l.kid (c:=t) (by simp[Pg.kids])).parts;obtain⟨n,rfl⟩:∃k,n=k+1:={n-1,⋯};erw[Pg.d];∎;show{oy B.alike,by rw[J.put];rfl,S5 J ⋯ ⋯ ⋯ o λH C=>J3 B m λb j p A=>c7 (q b j (λ⟨L,F,E,D,s,r⟩=>p (by cases s;show r)) (C.trans A))}
  ·erw[Pg.d];rw[Pg.d_w z 0];∎;rw[if_neg f];show c7 (q AF g (λ⟨a,t,u,v,e,_⟩=>absurd (by cases e;rfl) f) Kp.refl)
 ·rw[Pg.d_w x 0];∎;rw[if_neg h];show c7 (q AF g (λ⟨a,t,u,v,e,_⟩=>absurd (by rw[e];rfl) h) Kp.refl)
def b50(o:14<=n):Fok P G (n+1) "forth_right" λx y=>∃c t u v,x=.case (.right c t) u v/\y=v.sb t:=by
 intro x y g Q i m q;apply g9 B.fright rfl [AA x.d,AA y.d] rfl ?_;by_cases h:x.w="case"
 ·let{z,u,v,rfl}:=at4 h;have l:=i.kid (c:=z) (by simp[Pg.kids]);have I:=(i.kid (c:=v) (by simp[Pg.kids])).parts
  by_cases f:z.w="right"
  ·let{a,t,rfl}:=ch1 f;have K:=(l.kid (c:=t) (by simp[Pg.kids])).parts;obtain⟨n,rfl⟩:∃k,n=k+1:={n-1,⋯};erw[Pg.d];∎;show{oy B.alike,by rw[J.put];rfl,S5 J ⋯ ⋯ ⋯ o λH C=>J3 B m λb j p A=>c7 (q b j (λ⟨L,F,E,D,s,r⟩=>p (by cases s;show r)) (C.trans A))}
  ·erw[Pg.d];rw[Pg.d_w z 0];∎;rw[if_neg f];show c7 (q AF g (λ⟨a,t,u,v,e,_⟩=>absurd (by cases e;rfl) f) Kp.refl)
 ·rw[Pg.d_w x 0];∎;rw[if_neg h];show c7 (q AF g (λ⟨a,t,u,v,e,_⟩=>absurd (by rw[e];rfl) h) Kp.refl)
def cx9(C:14<=n):Fok P G (n+1) "forth_way" λx y=>∃a,y=.way a (.give (x.lf 1 0) (.name 0)):=by
 intro x y f Q j i q;apply g9 B.fway rfl [AA x.d,AA y.d] rfl ?_;by_cases h:y.w="way"
 ·let{a,u,rfl}:=bq0 h;have o:=i.kid (c:=u) (by simp[Pg.kids]);have A:=j.parts;obtain⟨n,rfl⟩:∃k,n=k+1:={n-1,⋯};erw[Pg.d];∎;show{oy B.alike,by rw[J.lift];rfl,ao0 J (p:=x) (m:=1) (l:=0) ⋯ ⋯ λz v=>J3 B (y:=.give (x.lf 1 0) (.name 0)) o λb g r t=>c7 (q b g (λ⟨D,s⟩=>r (by cases s;rfl)) (v.trans t))}
 ·rw[Pg.d_w y 0];∎;rw[if_neg h];show c7 (q AF f (λ⟨a,e⟩=>absurd (by rw[e];rfl) h) Kp.refl)
omit J
theorem b90:Fok P G (n+2) "forth_first" λx y=>∃t u,x=.first (.pair t u)/\y=t:=by
 intro x y c Q p g q;apply g9 B.ffirst rfl [AA x.d,AA y.d] rfl ?_;by_cases h:x.w="first"
 ·let{z,rfl}:=cm1 h
  by_cases a:z.w="pair"
  ·let{t,u,rfl}:=bn3 a;erw[Pg.d];∎;show{oy B.alike,J3 B g λb f i l=>c7 (q b f (λ⟨o,m,k,j⟩=>i (by cases k;show j)) l)}
  ·erw[Pg.d];rw[Pg.d_w z 0];∎;rw[if_neg a];show c7 (q AF c (λ⟨t,u,e,_⟩=>absurd (by cases e;rfl) a) Kp.refl)
 ·rw[Pg.d_w x 0];∎;rw[if_neg h];show c7 (q AF c (λ⟨t,u,e,_⟩=>absurd (by rw[e];rfl) h) Kp.refl)
theorem b01:Fok P G (n+2) "forth_second" λx y=>∃t u,x=.second (.pair u t)/\y=t:=by
 intro x y c Q p g q;apply g9 B.fsecond rfl [AA x.d,AA y.d] rfl ?_;by_cases h:x.w="second"
 ·let{z,rfl}:=b72 h
  by_cases a:z.w="pair"
  ·let{t,u,rfl}:=bn3 a;erw[Pg.d];∎;show{oy B.alike,J3 B g λb f i l=>c7 (q b f (λ⟨o,m,k,j⟩=>i (by cases k;show j)) l)}
  ·erw[Pg.d];rw[Pg.d_w z 0];∎;rw[if_neg a];show c7 (q AF c (λ⟨t,u,e,_⟩=>absurd (by cases e;rfl) a) Kp.refl)
 ·rw[Pg.d_w x 0];∎;rw[if_neg h];show c7 (q AF c (λ⟨t,u,e,_⟩=>absurd (by rw[e];rfl) h) Kp.refl)
theorem cc9:Fok P G (n+1) "forth_star" λx y=>y=.star:=by
 intro x y a Q c b q;apply g9 B.fstar rfl [AA x.d,AA y.d] rfl ?_;∎;show{Q1 y,Q1 .star,Ap (HC _ _) ∅,c7 (q _ a (λe=>e▸Z3 (V6 .star)) Kp.refl)}
theorem cd8:Fok P G (n+2) "forth_pair" λx y=>y=.pair (.first x) (.second x):=by
 intro x y a Q j f q;apply g9 B.fpair rfl [AA x.d,AA y.d] rfl ?_;rw[Pg.d_w y 0];∎;rw[<-Pg.d_w y 0]
 by_cases h:y.w="pair"
 ·rw[if_pos h];show{oy B.alike,J3 B f λb c g i=>c7 (q b c g i)}
 ·rw[if_neg h];show c7 (q AF a (λe=>absurd (by rw[e];rfl) h) Kp.refl)
theorem cc3:Fok P G (n+1) "forth_never" λx y=>∃k t,y=.never k t:=by
 intro x y a Q c b q;apply g9 B.fnever rfl [AA x.d,AA y.d] rfl ?_;rw[Pg.d_w y 0];∎;show c7 (q _ a λ⟨k,t,e⟩=>by rw[e];rfl Kp.refl)
end
structure Kw(sh dn sa pa wa:AI)(L:List (AI×List Kd))(S:List It3)(st:Sto):Prop where
 ex:∃ws:List (Kd×Bool),KA sh dn sa pa wa S ws st/\∀e∈L,∃kn:List Int,st e.1=AA (.lst (kn.map D.int))/\KnOk S ws e.2 kn/\kn.length<=2000
 out:∀e∈L,e.1∉shL sh dn sa pa wa
theorem Kw.keep{L}{S}(h:Kw sh dn sa pa wa L S st)(K:Kp [] st st'):Kw sh dn sa pa wa L S st':=by
 let{c,i,g}:=h.ex;show{⟨c,i.keep K,λe f=>let⟨d,a,b⟩:=g e f;{d,K.at' a ∎,b}⟩,h.out}
def Kw.tail{e}{L}{S}(h:Kw sh dn sa pa wa (e::L) S st):Kw sh dn sa pa wa L S st:=
 ⟨let⟨b,d,c⟩:=h.ex;{b,d,λe a=>c e (Ae _ a)},λe a=>h.out e (Ae _ a)⟩
section
variable (B:PBk P G) (J:PNm P G) (T:PNo P G) {L:List (AI×List Kd)} {S:List It3}
include T
def ae6(E:20<=n){p}{k}(s:Ft p)(F:p.kind Γ=AA k)(C:Kw sh dn sa pa wa L S st)(I:(ka,Γ)∈L)(H:S.length+256*p.parts<=9000000)(q:∀g f,Has g k.d->Kw sh dn sa pa wa L g f->Wf g->S <+: g->g.length<=S.length+256*p.parts->Kp (shL sh dn sa pa wa) st f->Q (.int (nb g k.d)) f):
  ab0 (.ref ka) st λl j=>sem P G n "shelved_kind" [p.d,l,.ref sh] j Q:=by
 let{O,v,w}:=C.ex;let{m,M,J,R}:=w _ I;apply{_,.inl M,λl t=>?_};have B:=s.parts;have x:Kp [] st (b0 st l (.lst (m.map D.int))):=Kp.refl.new t;apply ba7 T E ⋯ F s.kn (v.keep x) c8 J H ⋯ (v.fresh t) λg i f N r h K=>?_;have y:Kp (shL sh dn sa pa wa) st f:=λb o nb e=>K.at' (x.at' e ∎) (by grind);show q g f N {⟨i,r,λe u=>let⟨m,a,b,c⟩:=w e u;{m,y.at' a (C.out e u),b.up r.A.wf h.1 h.2.2,c}⟩,C.out} r.A.wf h.1 h.2.1 y
omit T
include B J
theorem b43{t:Pg}{a:Kd}(v:16<=n)(g:Ft c)(q:∀e,Kp [] st e->Q (Pg.case t ((c.lf 1 1).sb (.left b (.name 0))) ((c.lf 1 1).sb (.right a (.name 0)))).d e):sem P G n "split" [c.d,t.d,(Kd.eith a b).d] st Q:=by
 obtain⟨n,rfl⟩:∃k,n=k+1:={n-1,⋯};have u:=g.parts;have x:(c.lf 1 1).parts=c.parts:=cb9 c;have w:(c.lf 1 1).hgt<=c.hgt:=aa5;apply g9 B.split rfl [AA c.d,AA t.d,AA (Kd.eith a b).d,AD,AD] rfl ?_;erw[Kd.d];∎;apply{oy J.lift,ao0 J (p:=c) (m:=1) (l:=1) ⋯ ⋯ λs j=>?_};∎;apply{oy J.put,S5 J (o:=.left b (.name 0)) ⋯ (by erw[Pg.parts];lia) ⋯ ⋯ λr i=>?_};∎;show{oy J.put,S5 J (o:=.right a (.name 0)) ⋯ (by erw[Pg.parts];lia) ⋯ ⋯ λf h=>c7 (q f ((j.trans i).trans h))}
include T
@[reducible]noncomputable def Sp(Γ:List Kd)(c x y:Pg):Prop:=∃t a b,t.kind Γ=AA (.eith a b)/\x=c.sb t/\y=.case t ((c.lf 1 1).sb (.left b (.name 0))) ((c.lf 1 1).sb (.right a (.name 0)))
def be3{c x:Pg}{k:Kd}(hn:24<=n)(z:Ft c)(R:Ft x)(r:Ft y)(N:y.kind Γ=AA k)(C:Kw sh dn sa pa wa L S st)(W:(ka,Γ)∈L)(hS:S.length<=8600000)(q:∀b j f,(Sp Γ c x y->b=AC)->Kw sh dn sa pa wa L j f->j.length<=S.length+217600->Kp (shL sh dn sa pa wa) st f->Q (.bl b) f):
  sem P G n "forth_split" [x.d,y.d,.ref ka,.ref sh,c.d] st Q:=by
 obtain⟨n,rfl⟩:∃k,n=k+2:={n-2,⋯};have hp:=z.parts;apply g9 B.fsplit rfl [AA x.d,AA y.d,AA (.ref ka),AA (.ref sh),AA c.d,AD] rfl ?_;by_cases h:y.w="case"
 ·let{t,u,v,rfl}:=at4 h;have s:=r.kid (c:=t) (by simp[Pg.kids]);have U:=s.parts;obtain⟨a,b,l⟩:∃a b,t.kind Γ=AA (.eith a b):=by
   cases T4 N with
   |case o _ _=>show⟨_,_,o.kind⟩
  erw[Pg.d];∎;apply .inr {ae0,?_};apply{oy B.alike,by rw[J.put];rfl,S5 J ⋯ ⋯ ⋯ ⋯ λa i=>J3 B R λb1 M V g=>?_};rfl';cases b1 with
  |false=>
   rw[if_pos ∅];∎;show c7 (q AF S M (λ⟨I,a,b,_,e,p⟩=>by cases p;show V e) ((C.keep i).keep g) ⋯ ((i.trans g).more ∎))
  |true=>
   rw[if_neg ∅];∎;let{ws,Y,_}:=((C.keep i).keep g).ex;apply{sh,"Shelf",_,rfl,Y.A.ins,rfl,oy T.tup,by rw[T.shk];rfl,?_};apply ae6 T ⋯ s l ((C.keep i).keep g) W ⋯ λj a o F b c d K3=>?_;let{H,X,_}:=F.ex;apply ap7 T.toPSh X.A o ?_;∎;apply{oy B.alike,by rw[B.split];rfl,b43 B J (t:=t) ⋯ z λa E=>?_};apply J3 B (x:=.case t u v) r λZ K m D=>c7 (q Z j K (λ⟨I,a,b,O,_,p⟩=>m (by cases p;rw[O]at l;cases l;rfl)) ((F.keep E).keep D) ⋯ ((((i.trans g).more ∎).trans K3).trans ((E.trans D).more ∎)))
 ·rw[Pg.d_w y 0];∎;apply .inr {ae0,?_};rw[if_pos (by simpa using h)];∎;show c7 (q AF S st (λ⟨t,a,b,_,_,e⟩=>absurd (by rw[e];rfl) h) C ⋯ Kp.refl)
end
section
variable (B:PBk P G) (J:PNm P G) (T:PNo P G) {L:List (AI×List Kd)} {S:List It3}
include B T
def bf8{w:String}{k:Kd}(hn:20<=n)(hw:(ae7.any λk=>AB (k=.inr (Ac w)))=AC)(hx:Ft x)(hy:Ft y)(kx:x.kind Γ=AA k)(ky:y.kind Γ=AA k)(C:Kw sh dn sa pa wa L S st)(hL:(ka,Γ)∈L)(hS:S.length<=7900000)
  (q:∀S' st',Kw sh dn sa pa wa L S' st'->S'.length<=S.length+435200->Kp (shL sh dn sa pa wa) st st'->i9 (Zg P G n) (R8.body.drop 5) (j9 Q) [AA (.ref ka),AA (.ref sh),AA (.tup [.str w,x.d,y.d,tt]),AA (.str w),AA x.d,AA y.d] st') :
  sem P G (n+1) "is_step_over" [.ref ka,.ref sh,.tup [.str w,x.d,y.d,tt]] st Q:=by
 apply g9 B.over rfl [AA (.ref ka),AA (.ref sh),AA (.tup [.str w,x.d,y.d,tt]),AD,AD,AD] rfl ?_;unfold R8;erw[R8,Ss.drop]at q;apply av4 rfl rfl (av4 rfl rfl (av4 rfl rfl ?_));∎;apply{_,B.words,u6 _,?_};rw[hw];rfl';(iterate 2 ∎);have px:=hx.parts;have py:=hy.parts;apply{oy T.shk,ae6 T hn hx kx C hL ⋯ λS1 s1 h1 C1 w1 p1 l1 K1=>?_};rfl';apply{oy T.shk,ae6 T hn hy ky C1 hL ⋯ λS2 s2 h2 C2 w2 p2 l2 K2=>?_};rw[O4 w2 h1 p2];rfl';show q S2 s2 C2 ⋯ (K1.trans K2)
def b64{w}{k}{f}{W}(E:20<=n)(A:(ae7.any λk=>AB (k=.inr (Ac w)))=AC)(D:w≠"split")(l:A7 au9 w=AA (.fn f))(m:(P f).isSome=AC)(F:Fok P G n f W)(I:W x y\/W y x)(i:Ft x)(h:Ft y)(v:x.kind Γ=AA k)(u:y.kind Γ=AA k)(C:Kw sh dn sa pa wa L S st)(K:(ka,Γ)∈L)(J:S.length<=7900000)
  (q:∀c a,Kw sh dn sa pa wa L c a->c.length<=S.length+870400->Kp (shL sh dn sa pa wa) st a->Q (.bl AC) a):sem P G (n+1) "is_step_over" [.ref ka,.ref sh,.tup [.str w,x.d,y.d,tt]] st Q:=by
 apply bf8 B T E A i h v u C K J λc M r N p=>?_;∎;rw[if_neg D];∎;erw[B.forth];apply{λz=>(by cases z),_,l,f,rfl,m,F i h λb t H g=>?_};rfl';cases b with
 |true=>show c7 (q c t (r.keep g) ⋯ (p.trans (g.more ∎)))
 |false=>
  apply{λz=>(by cases z),_,l,f,rfl,m,F h i λb s j o=>?_};have e:=j (I.resolve_left λz=>AJ (H z));rw[e];show c7 (q c s ((r.keep g).keep o) ⋯ (p.trans ((g.trans o).more ∎)))
include J
def b60{k:Kd}(R:26<=n)(o:Ft c)(w:Sp Γ c x y\/Sp Γ c y x)(g:Ft x)(f:Ft y)(m:x.kind Γ=AA k)(l:y.kind Γ=AA k)(C:Kw sh dn sa pa wa L S st)(i:(ka,Γ)∈L)(A:S.length<=7900000)
  (q:∀j a,Kw sh dn sa pa wa L j a->j.length<=S.length+870400->Kp (shL sh dn sa pa wa) st a->Q (.bl AC) a):sem P G (n+1) "is_step_over" [.ref ka,.ref sh,.tup [.str "split",x.d,y.d,c.d]] st Q:=by
 apply bf8 B T ⋯ ∅ g f m l C i A λj K I O r=>?_;(iterate 2 ∎);apply{oy B.fsplit,be3 B J T ⋯ o g f l I i ⋯ λb E u v s N p=>?_};rfl';cases b with
 |true=>show c7 (q E u s ⋯ (r.trans p))
 |false=>
  apply{oy B.fsplit,be3 B J T ⋯ o f g m s i ⋯ λb D t h H M F=>?_};have e:b=AC:=h (w.resolve_left λz=>AJ (v z));rw[e];show c7 (q D t H ⋯ ((r.trans p).trans F))
end
def aw0{l:Nat}(p:Pg):∀{u:Nat},(p.mp (lfF m l) u).d.sz=p.d.sz:=by
 induction p with
 |name n=>intro u;erw[Pg.mp,lfF];split<;>rfl
 |star=>intro u;rfl
 |pair t v a c|give t v a c=>intro u;erw[Pg.mp,Pg.d,r6,p7,r8,@a u,@c u]
 |lets t v a c=>intro u;erw[Pg.mp,Pg.d,r6,p7,r8,@a u,@c (u+1)]
 |case t v w a c g=>intro u;erw[Pg.mp,Pg.d,r6,p7,r8,@a u,@c (u+1),@g (u+1)]
 |first t a|second t a|left b t a|right b t a|never b t a=>intro u;erw[Pg.mp,Pg.d,r6,p7,r8,@a u]
 |way b t a=>intro u;erw[Pg.mp,Pg.d,r6,p7,r8,@a (u+1)]
def de0(p:Pg):∀{u},(p.mp (lfF 1 1) u).oc u=p.oc u:=by
 induction p with
 |name n=>
  intro u;erw[Pg.mp,lfF]
  split
  ·erw[Iq,Pg.oc];grind
  ·rfl
 |star=>intro u;rfl
 |pair t v a c|give t v a c=>intro u;erw[Pg.mp,Pg.oc,@a u,@c u]
 |lets t v a c=>intro u;erw[Pg.mp,Pg.oc,@a u,@c (u+1)]
 |case t v w a c f=>intro u;erw[Pg.mp,Pg.oc,@a u,@c (u+1),@f (u+1)]
 |first t a|second t a|left b t a|right b t a|never b t a=>intro u;erw[Pg.mp,Pg.oc,@a u]
 |way b t a=>intro u;erw[Pg.mp,Pg.oc,@a (u+1)]
def bp6(p:Pg):∀{u:Nat},(p.mp (sbF o) u).d.sz<=p.d.sz+p.oc u*o.d.sz:=by
 induction p with
 |name n=>
  intro u;erw[Pg.mp,sbF,Pg.oc]
  by_cases m:n<u
  ·rw[if_pos m];show HL _ _
  ·rw[if_neg m]
   by_cases h:n=u
   ·rw[if_pos h,if_pos h,Nat.one_mul];change(o.mp (lfF u 0) 0).d.sz<=_;rw[aw0];show HQ _ _
   ·rw[if_neg h];show HL 3 _
 |star=>intro u;show HL _ _
 |pair t v a c|give t v a c=>intro u;have:=@a u;have:=@c u;erw[Pg.mp,Pg.d,r6,p7,r8,Pg.oc,add_mul];lia
 |lets t v a c=>intro u;have:=@a u;have:=@c (u+1);erw[Pg.mp,Pg.d,r6,p7,r8,Pg.oc,add_mul];lia
 |case t v w a c g=>intro u;have:=@a u;have:=@c (u+1);have:=@g (u+1);erw[Pg.mp,Pg.d,r6,p7,r8,Pg.oc,add_mul];lia
 |first t a|second t a|left b t a|right b t a|never b t a=>intro u;have:=@a u;erw[Pg.mp,Pg.d,r6,p7,r8,Pg.oc];lia
 |way b t a=>intro u;have:=@a (u+1);erw[Pg.mp,Pg.d,r6,p7,r8,Pg.oc];lia
structure Okp(Γ:List Kd)(k:Kd)(m:Nat)(p:Pg):Prop where
 kd:p.kind Γ=AA k
 kn:p.kn 3
 sz:p.d.sz<=m
 hg:p.hgt<=80
section
variable {a k:Kd} {t u v:Pg} {o o1 o2 m2 h h1 h':Nat}
def Gr.ok(g:Gr 3 Γ k o m h t)(a:h<=80:=by decide):Okp Γ k m t:={g.kn.kind,g.told,g.sz,Ap g.hg a}
def Okp.ft(g:Okp Γ k m t)(a:m<=1700):Ft t:={g.kn,Ap g.sz a}
theorem Gr.sb(g:Gr 3 (a::Γ) k o m h t)(x:Gr 3 Γ a o1 m1 h1 u)(b:h+h1<=80:=by decide):Okp Γ k (m+o*m1) (t.sb u):=
 {bd0 g.kn.kind x.kn.kind,bq6 x.told g.told,Ap (bp6 t) (Ds g.sz (Hf (g.oc 0) x.sz)),Ap bn8 (Ap (Ds g.hg x.hg) b)}
def Gr.wide(g:Gr 3 (a::Γ) k o m h t)(c:h<=80:=by decide):Okp (a::b::Γ) k m (t.lf 1 1)/\(t.lf 1 1).oc 0<=o:=
 ⟨⟨aq0 (Γ₁:=[a]) (M:=[b]) (Γ₂:=Γ) g.kn.kind,av7 g.told,by have e:(t.lf 1 1).d.sz=t.d.sz:=aw0 t;rw[e];show g.sz,Ap aa5 (Ap g.hg c)⟩,by have e:(t.lf 1 1).oc 0=t.oc 0:=de0 t;rw[e];show g.oc 0⟩
end
inductive Ste(Γ:List Kd):String->Pg->Pg->D->Prop
 |lets (t u:Pg):Ste Γ "let" (.lets t u) (u.sb t) .non
 |give (a:Kd) (t u:Pg):Ste Γ "give" (.give (.way a u) t) (u.sb t) .non
 |first (t u:Pg):Ste Γ "first" (.first (.pair t u)) t .non
 |second (t u:Pg):Ste Γ "second" (.second (.pair u t)) t .non
 |left (c:Kd) (t u v:Pg):Ste Γ "left" (.case (.left c t) u v) (u.sb t) .non
 |right (c:Kd) (t u v:Pg):Ste Γ "right" (.case (.right c t) u v) (v.sb t) .non
 |star (x:Pg):Ste Γ "star" x .star .non
 |pair (x:Pg):Ste Γ "pair" x (.pair (.first x) (.second x)) .non
 |way (a:Kd) (x:Pg):Ste Γ "way" x (.way a (.give (x.lf 1 0) (.name 0))) .non
 |never (k:Kd) (t x:Pg):Ste Γ "never" x (.never k t) .non
 |split {c x y:Pg}:Ft c->Sp Γ c x y->Ste Γ "split" x y c.d
structure Stk(Γ:List Kd)(w:String)(x y:Pg)(tt:D):Prop where
 st:Ste Γ w x y tt
 fx:Ft x
 fy:Ft y
 th:tt=.non\/∃c:Pg,tt=c.d/\c.hgt<=80/\c.kn 3
 hx:x.hgt<=80
 hy:y.hgt<=80
 kd:∃k:Kd,x.kind Γ=AA k/\y.kind Γ=AA k/\k.gd/\k.nest<=3
def Stk.mk'{w:String}{k:Kd}(h:Ste Γ w x y tt)(j:k.gd)(i:k.nest<=3)(g:Okp Γ k m x)(b:Okp Γ k m1 y)(f:m<=1700)(a:m1<=1700)(e:tt=.non\/∃c:Pg,tt=c.d/\c.hgt<=80/\c.kn 3:=by show .inl rfl):Stk Γ w x y tt:={h,g.ft f,b.ft a,e,g.hg,b.hg,k,g.kd,b.kd,j,i}
section
variable (B:PBk P G) (J:PNm P G) (T:PNo P G) 
include B J T
def ck8{L:List (AI×List Kd)}{S:List It3}{w:String}{p q:Pg}(hn:30<=n)(C:Kw sh dn sa pa wa L S st)(H:(ka,Γ)∈L)(E:S.length<=7900000)(h:Stk Γ w x y tt)(o:(p=x/\q=y)\/(p=y/\q=x))(k:∀N e,Kw sh dn sa pa wa L N e->N.length<=S.length+870400->Kp (shL sh dn sa pa wa) st e->Q (.bl AC) e):sem P G n "is_step_over" [.ref ka,.ref sh,.tup [.str w,p.d,q.d,tt]] st Q:=by
 obtain⟨n,rfl⟩:∃m,n=m+3:={n-3,⋯};let{U,fx,fy,_,_,_,c,kx,ky,_}:=h;have M:Ft p:=by rcases o with⟨rfl,rfl⟩|⟨rfl,rfl⟩<;>assumption
 have K:Ft q:=by rcases o with⟨rfl,rfl⟩|⟨rfl,rfl⟩<;>assumption
 have D:p.kind Γ=AA c:=by rcases o with⟨rfl,rfl⟩|⟨rfl,rfl⟩<;>assumption
 have A:q.kind Γ=AA c:=by rcases o with⟨rfl,rfl⟩|⟨rfl,rfl⟩<;>assumption
 have j:∀{W:Pg->Pg->Prop},W x y->W p q\/W q p:=λz=>by
  rcases o with⟨rfl,rfl⟩|⟨rfl,rfl⟩
  ·show .inl z
  ·show .inr z
 have b:∀{w:String}{f:Str}{W:Pg->Pg->Prop},Fok P G (n+2) f W->W x y->(ae7.any λk=>AB (k=.inr (Ac w)))=AC->w≠"split"->A7 au9 w=AA (.fn f)->(P f).isSome=AC->sem P G (n+3) "is_step_over" [.ref ka,.ref sh,.tup [.str w,p.d,q.d,tt]] st Q:=
  λF z Z Y X V=>b64 B T ⋯ Z Y X V F (j z) M K D A C H E k
 cases U with
 |lets t u=>show b (cv5 B J ⋯) ⟨t,u,rfl,rfl⟩ ∅ ∅ rfl (oy B.flet)
 |give a t u=>show b (cn8 B J ⋯) ⟨a,t,u,rfl,rfl⟩ ∅ ∅ rfl (oy B.fgive)
 |first t u=>show b (b90 B) ⟨_,u,rfl,rfl⟩ ∅ ∅ rfl (oy B.ffirst)
 |second t u=>show b (b01 B) ⟨_,u,rfl,rfl⟩ ∅ ∅ rfl (oy B.fsecond)
 |left c t u v=>show b (ce3 B J ⋯) ⟨c,t,u,v,rfl,rfl⟩ ∅ ∅ rfl (oy B.fleft)
 |right c t u v=>show b (b50 B J ⋯) ⟨c,t,u,v,rfl,rfl⟩ ∅ ∅ rfl (oy B.fright)
 |star=>show b (cc9 B) rfl ∅ ∅ rfl (oy B.fstar)
 |pair=>show b (cd8 B) rfl ∅ ∅ rfl (oy B.fpair)
 |way a=>show b (cx9 B J ⋯) ⟨a,rfl⟩ ∅ ∅ rfl (oy B.fway)
 |never R t=>show b (cc3 B) ⟨R,t,rfl⟩ ∅ ∅ rfl (oy B.fnever)
 |split fc h=>show b60 B J T ⋯ fc (j (W:=Sp Γ _) h) M K D A C H E k
end
def ch5{r a b}(h:a<=b):Tr r a<=Tr r b:=by unfold Tr;split<;>lia
abbrev Kd.vd(k:Kd):Prop:=k=.non\/k=.both (.eith .one .one) .non\/k=.eith .non .non\/k=.way (.eith .one .one) .non
structure Nmk(Γ:List Kd):Prop where
 all:∀l∈Γ,(l.gd\/l.vd)/\l.nest<=2
 len:Γ.length<=20
structure Drw(k:Kd)(c:Nat):Prop where
 gd:k.gd
 nest:k.nest<=2
 ms:k.ms<=c
def Nmk.ask{k:Kd}{r:Nat}(h:Nmk Γ)(g:k.gw M)(d:k.nest<=8)(c:r<=8)(b:3<=M/\M<=7:=by decide):Ask M k Γ r:=⟨g,⋯,λl a=>Cp (h.all l a).2,by have:=h.len;lia,b⟩
def Nmk.askC{k a:Kd}{r:Nat}(h:Nmk Γ)(g:k.gw M)(f:k.nest<=8)(e:r<=8)(c:a.nest<=3)(d:3<=M/\M<=7:=by decide):Ask M k (a::Γ) r:=⟨g,⋯,λl b=>by
 rcases AM.mp b with rfl|b
 ·show c
 ·show Cp (h.all l b).2,by have:=h.len;erw[AT];lia,d⟩
section
variable (T:P41 P G) 
include T
def B7 r(e:r<=8){k}{c}(f:54<=n)(A:Ask M k Γ r)(b:k.ms<=c)(I:l9 st da)(q:∀p a,Gr M Γ k (Lr r) (Tr r c) (18+r) p->l9 a da->Kp [da] st a->Q p.d a):sem P G n "_law_term" [.ref da,k.d,.tup (Γ.map Kd.d),.int r] st Q:=
 bd5 T r e ⋯ A I λp s g=>q p s (g.mono (AR _) (ch5 b) (AR _))
def cz7{w:String}{k:Kd}(hn:60<=n)(hw:w∈["let","give","first","second","left","right"])(N:Nmk Γ)(D:Drw k 28)(I:l9 st da)(q:∀x y e,Stk Γ w x y .non->l9 e da->Kp [da] st e->Q (.tup [x.d,y.d,.non]) e):sem P G n "_law_two" [.ref da,.str w,k.d,.tup (Γ.map Kd.d)] st Q:=by
 obtain⟨n,rfl⟩:∃m,n=m+1:={n-1,⋯};have hk:=D.nest;have g:=Kd.gd_gw (M:=3) ∅ D.gd ⋯;have Z:=N.len;apply g9 T.two rfl [AA (.ref da),AA (.str w),AA k.d,AA (.tup (Γ.map Kd.d)),AD,AD,AD,AD,AD,AD,AD,AD] rfl ?_;∎;apply{oy T.kind,G0 T 1 ⋯ ⋯ I λm c Y d R V z=>?_};have U:=Kd.gd_gw (M:=3) ∅ Y ⋯;∎;apply{t9 (by erw[AX];lia),?_};∎
 by_cases J:w="let"
 ·rw[if_pos J];subst J;∎;apply{oy T.term,B7 T 5 ∅ (c:=18) ⋯ (N.ask U ⋯ ∅) R V λt W b A i=>?_};∎;apply{oy T.term,B7 T 6 ∅ ⋯ (Γ:=m::Γ) (N.askC g ⋯ ∅ ⋯) D.ms A λu C a j h=>?_};∎;apply{oy T.put,Q3 T n u 0 (by have:=b.hg;have:=a.hg;lia) λB f=>?_};show c7 (q (.lets t u) (u.sb t) B (.mk' (.lets t u) D.gd ⋯ ((b.mono (AR _) (AR _) ∅).lets a).ok (a.sb b) ∅ ∅) (j.keep f ∎) (((z.trans i).trans h).trans (f.more ∎)))
 rw[if_neg J];∎
 by_cases H:w="give"
 ·rw[if_pos H];subst H;∎;apply{oy T.term,B7 T 5 ∅ (c:=18) ⋯ (N.ask U ⋯ ∅) R V λt W b A i=>?_};∎;apply{oy T.term,B7 T 6 ∅ ⋯ (Γ:=m::Γ) (N.askC g ⋯ ∅ ⋯) D.ms A λu C a j h=>?_};∎;apply{oy T.put,Q3 T n u 0 (by have:=b.hg;have:=a.hg;lia) λB f=>?_};show c7 (q (.give (.way m u) t) (u.sb t) B (.mk' (m:=1600) (.give m t u) D.gd ⋯ ((a.way ⋯).give (b.mono (AR _) (AR _) ∅) |>.mono (AR _) (by have:Tr 6 28=224:=rfl;have:Tr 5 18=162:=rfl;lia) (AR _)).ok (a.sb b) ∅ ∅) (j.keep f ∎) (((z.trans i).trans h).trans (f.more ∎)))
 rw[if_neg H];∎;apply{oy T.term,B7 T 7 ∅ ⋯ (N.ask g ⋯ ∅) D.ms V λt W b A i=>?_};∎;apply{oy T.term,B7 T 4 ∅ (c:=18) ⋯ (N.ask U ⋯ ∅) R A λu C a j h=>?_};have r:=a.mono (h':=18+7) (AR _) (AR _) ∅;∎
 by_cases F:w="first"
 ·rw[if_pos F];subst F;∎;show c7 (q (.first (.pair t u)) t C (.mk' (.first t u) D.gd ⋯ (b.pair r).first.ok b.ok ∅ ∅) j ((z.trans i).trans h))
 rw[if_neg F];∎
 by_cases E:w="second"
 ·rw[if_pos E];subst E;∎;show c7 (q (.second (.pair u t)) t C (.mk' (.second t u) D.gd ⋯ (r.pair b).second.ok b.ok ∅ ∅) j ((z.trans i).trans h))
 rw[if_neg E];∎;apply{oy T.kind,G0 T 0 ⋯ ⋯ j λl B c d l3 I4 f=>?_};∎;apply{oy T.term,B7 T 6 ∅ ⋯ (Γ:=m::Γ) (N.askC g ⋯ ∅ ⋯) D.ms I4 λy c K I5 K5=>?_};∎;apply{oy T.term,t9 (by erw[AX];lia),B7 T 5 ∅ ⋯ (Γ:=l::Γ) (N.askC g ⋯ ∅ ⋯) D.ms I5 λv c gv X L=>?_};have o:=K.mono (h':=18+6) (AR _) (AR _) ∅;have p:=gv.mono (h':=18+6) (AR _) (AR _) ∅;have e1:Tr 6 28=224:=rfl;have e2:Tr 5 28=182:=rfl;have e3:Tr 4 18=120:=rfl;have hg:u.hgt<=22:=a.hg;have hy:=K.hg;have L:=((((z.trans i).trans h).trans f).trans K5).trans L;∎
 by_cases S:w="left"
 ·rw[if_pos S];subst S;∎;apply{oy T.put,Q3 T n y 0 ⋯ λO s=>?_};show c7 (q (.case (.left l u) y v) (y.sb u) O (.mk' (m:=1600) (.left l u y v) D.gd ⋯ (((a.left ⋯).mono (h':=18+6) (AR _) (AR _) ∅).case o p |>.mono (AR _) ⋯ (AR _)).ok (K.sb a) ∅ ∅) (X.keep s ∎) (L.trans (s.more ∎)))
 have h6:w="right":=by simpa[J,H,F,E,S]using hw
 subst h6;∎;apply{oy T.put,Q3 T n y 0 ⋯ λO s=>?_};show c7 (q (.case (.right l u) v y) (y.sb u) O (.mk' (m:=1600) (.right l u v y) D.gd ⋯ (((a.right ⋯).mono (h':=18+6) (AR _) (AR _) ∅).case p o |>.mono (AR _) ⋯ (AR _)).ok (K.sb a) ∅ ∅) (X.keep s ∎) (L.trans (s.more ∎)))
def bx4{k:Kd}{t:Pg}(a:k.vd)(g:Gr 3 Γ k 1 3 1 t)(q:∀u:Pg,Gr 3 Γ .non 3 20 3 u->Q u.d st):sem P G (n+1) "_law_nothing" [k.d,t.d] st Q:=by
 apply g9 T.nothing rfl [AA k.d,AA t.d] rfl ?_;rcases a with rfl|rfl|rfl|rfl<;>erw[Kd.d]
 ·(iterate 4 ∎);show c7 (q t (g.mono ∅ ∅ ∅))
 ·(iterate 2 ∎);show c7 (q (.second t) (g.second.mono ∅ ∅ ∅))
 ·(iterate 3 ∎);show c7 (q (.case t (.name 0) (.name 0)) ((g.case (Gr.name rfl) (Gr.name rfl)).mono ∅ ∅ ∅))
 ·(iterate 4 ∎);show c7 (q (.give t (.left .one .star)) (((g.mono (o1:=1) (m1:=3) (h':=2) ∅ ∅ ∅).give ((Gr.star (Γ:=Γ)).left (b:=.one) ∅)).mono ∅ ∅ ∅))
end
section
variable (T:P41 P G) 
include T
def b28{w:String}{k:Kd}(hn:60<=n)(hw:w∈["star","pair","way","split","never"])(N:Nmk Γ)(hv:w="never"->∃l∈Γ,l.vd)(F:Drw k 28)(I:l9 st da)(q:∀x y tt f,Stk Γ w x y tt->l9 f da->Kp [da] st f->Q (.tup [x.d,y.d,tt]) f):sem P G n "_law_spread" [.ref da,.str w,k.d,.tup (Γ.map Kd.d)] st Q:=by
 obtain⟨n,rfl⟩:∃m,n=m+1:={n-1,⋯};have hk:=F.nest;have g:=Kd.gd_gw (M:=3) ∅ F.gd ⋯;have hms:=F.ms;have len:=N.len;apply g9 T.spread rfl [AA (.ref da),AA (.str w),AA k.d,AA (.tup (Γ.map Kd.d)),AD,AD,AD,AD,AD,AD,AD,AD,AD] rfl ?_;unfold ah7;∎
 by_cases V:w="star"
 ·rw[if_pos V];subst V;∎;apply{oy T.taken,bb4 T (r:=8) (k:=.one) ∅ ∅ (λs a=>bd5 T s ⋯) ⋯ (N.ask (M:=3) trivial ∅ ∅) I λx s1 v R K=>?_};show c7 (q x .star _ s1 (.mk' (k:=.one) (.star x) trivial ∅ v.ok Gr.star.ok ∅ ∅) R K)
 rw[if_neg V];∎
 by_cases U:w="pair"
 ·rw[if_pos U];subst U;∎;apply{oy T.term,by rw[T.kind];rfl,G0 T 0 ⋯ ⋯ I λm a Z b c R K=>?_};have gm:=Kd.gd_gw (M:=3) ∅ Z ⋯;apply B7 T 8 ∅ (c:=38) (k:=.both k m) ⋯ (N.ask ⟨g,gm⟩ (by erw[Kd.nest];lia) ∅) (by erw[Kd.ms];lia) R λx Y v O J=>?_;∎;show c7 (q x (.pair (.first x) (.second x)) _ Y (.mk' (k:=.both k m) (.pair x) ⟨F.gd,Z⟩ (by erw[Kd.nest];lia) v.ok (v.first.pair v.second).ok ∅ ∅) O (K.trans J))
 rw[if_neg U];∎
 by_cases S:w="way"
 ·rw[if_pos S];subst S;∎;apply{oy T.kind,G0 T 1 ⋯ ⋯ I λm a Z b c R K=>?_};∎;apply{oy T.term,B7 T 8 ∅ (c:=48) (k:=.way m k) ⋯ (N.ask {.inr {Z,⋯},λ_=>⋯,g} (by erw[Kd.nest];lia) ∅) (by erw[Kd.ms];lia) R λx Y v O J=>?_};∎;apply{oy T.lift,ac7 T (m:=1) (l:=0) n x 0 (by have:=v.hg;lia) λs3 K3=>?_};have hlf:(x.lf 1 0).kind (m::Γ)=AA (.way m k):=aq0 (Γ₁:=[]) (M:=[m]) (Γ₂:=Γ) v.kn.kind;apply c7 (q x (.way m (.give (x.lf 1 0) (.name 0))) _ s3 (.mk' (k:=.way m k) (m1:=1000) (.way m x) {.inr Z,F.gd} (by erw[Kd.nest];lia) v.ok {(Kn.way (.give (T4 hlf) (.name rfl))).kind,{⋯,av7 v.told,trivial},?_,?_} ∅ ∅) (O.keep K3 ∎) ((K.trans J).trans (K3.more ∎)))
  ·have e:(x.lf 1 0).d.sz=x.d.sz:=aw0 x;have e2:x.d.sz<=348:=v.sz;have e3:=F5 m;erw[Pg.d,r6,p7,r8,D.sz,e];lia
  ·have e:(x.lf 1 0).hgt<=x.hgt:=aa5;have:=v.hg;erw[Pg.hgt];lia
 rw[if_neg S];∎
 by_cases h4:w="never"
 ·rw[if_pos h4];let{l,hl,hvl}:=hv h4;subst h4;∎;erw[AX];apply{{⋯,⋯},by rw[B0];lia,?_};apply G1 (λL H E f=>f=st/\∃(i:Nat)(B:List Nat)(x:Option D),L=(t5 0 Γ.length).drop i/\i<=Γ.length/\H=B.map (λj:Nat=>D.int j)/\(∀j∈B,∃l,Γ[j]?=AA l/\l.vd)/\(∀(j:Nat)l,j<i->Γ[j]?=AA l->l.vd->B≠[])/\E=[AA (.tup (Γ.map Kd.d)),x]) ?_ ?_ _ _ _ _ {rfl,0,[],AD,∎,Av _,rfl,nofun,λj l h=>⋯,rfl}
  ·rintro H E f ⟨rfl,i,B,x,el,hi,rfl,hj,hne,_⟩;apply{trivial,λp hp=>?_};have ei:i=Γ.length:=by have:=congrArg BI el;rw[Bz,B0]at this;erw[Aq]at this;lia
   let{j0,hj0,e0}:=FN.mp hl;have hjs:=hne j0 l ⋯ (by rw[AH hj0,e0]) hvl;let{j,B,rfl}:=List.exists_cons_of_ne_nil hjs;let{c,hc,vc}:=hj j ∎;apply{.int j,rfl,?_};∎;apply{oy T.term,B7 T 8 ∅ (c:=28) ⋯ (N.ask g ⋯ ∅) hms (I.new hp) λx Y v O J=>?_};∎;obtain⟨n,rfl⟩:∃m,n=m+1:={n-1,⋯};apply{oy T.nothing,c.d,by rw[u0,AY,hc];rfl,bx4 T (t:=.name j) vc (Gr.name hc) λu gu=>?_};have gy:=gu.never (k:=k) ⋯;show c7 (q x (.never k u) _ Y (.mk' (m1:=1000) (.never k u x) F.gd ⋯ v.ok (gy.mono (AR _) ⋯ (AR _)).ok ∅ ∅) O ((Kp.refl.new hp).trans J))
  ·rintro d ds H E f ih ⟨rfl,i,B,x,el,hi,rfl,hj,hne,rfl⟩;have A:i<Γ.length:=by
    have:=congrArg BI el;rw[Bz,B0,AT]at this;lia
   rw[BA (by rw[B0];lia)]at el;let{rfl,rfl}:=Ag el;have ed:(t5 0 Γ.length)[i]'(by rw[B0];lia)=.int i:=by simp[t5]
   rw[ed];apply{trivial,?_};rfl';have hN:=N.all _ (DE A);apply{oy T.many,Γ[i].d,by rw[u0,AY,AH A];rfl,R9 T Γ[i] ⋯ ⋯ (Kd.wd2 hN.2) ?_};rfl'
   by_cases h0:Γ[i].cnt=0
   ·rw[if_pos ⋯];have vi:Γ[i].vd:=hN.1.resolve_left λz=>by have:=Kd.gd_pos z;lia
    show ih _ _ _ {rfl,i+1,B++[i],_,rfl,A,∎,λj z=>by
     rcases BD.mp z with z|z
     ·show hj j z
     ·rw[Ao.mp z];show{_,AH A,vi},λ_ _ _ _ _=>∎,rfl}
   ·rw[if_neg ⋯];apply ih _ _ _ {rfl,i+1,B,_,rfl,A,rfl,hj,λj l a C vl=>?_,rfl}
    by_cases e:j=i
    ·subst e;rw[AH A]at C;cases C
     rcases vl with z|z|z|z<;>(rw[z]at h0;show absurd rfl h0)
    ·show hne j l ⋯ C vl
 have h5:w="split":=by simpa[V,U,S,h4]using hw
 subst h5;∎;apply{oy T.kind,G0 T 1 ⋯ ⋯ I λa b a1 d e R K=>?_};apply{oy T.kind,G0 T 0 ⋯ ⋯ R λb Y b1 c b3 O J=>?_};have ge:(Kd.eith a b).gw 3:={.inr {Kd.gd_gw ∅ a1 ⋯,⋯},b1,⋯};have ne:(Kd.eith a b).nest<=3:=by erw[Kd.nest];lia
 ∎;apply{oy T.term,B7 T 6 ∅ (c:=28) (k:=.eith a b) ⋯ (N.ask ge ⋯ ∅) (by erw[Kd.ms];lia) O λt s3 W I3 K3=>?_};∎;apply{oy T.term,t9 (by erw[AX];lia),B7 T 8 ∅ (c:=28) (Γ:=.eith a b::Γ) ⋯ (N.askC g ⋯ ∅ ne) hms I3 λc s4 gc I4 K4=>?_};have hc:=gc.hg;have ht:=W.hg;have hlc:(c.lf 1 1).hgt<=c.hgt:=aa5;∎;apply{oy T.lift,ac7 T (m:=1) (l:=1) n c 0 ⋯ λs5 K5=>?_};∎;apply{oy T.put,Q3 T (o:=.left b (.name 0)) n (c.lf 1 1) 0 (by erw[Pg.hgt];lia) λs6 K6=>?_};∎;apply{oy T.put,Q3 T (o:=.right a (.name 0)) n (c.lf 1 1) 0 (by erw[Pg.hgt];lia) λs7 K7=>?_};∎;apply{oy T.put,Q3 T n c 0 ⋯ λs8 K8=>?_};have K8:=((K5.trans K6).trans K7).trans K8;have X:∀{m:Kd}{o:Pg}{z:Nat},o.kind (m::Γ)=AA (.eith a b)->o.kn 3->o.hgt<=2->o.d.sz<=23->((c.lf 1 1).sb o).kind (m::Γ)=AA k/\((c.lf 1 1).sb o).kn 3/\((c.lf 1 1).sb o).d.sz<=446/\((c.lf 1 1).sb o).hgt<=40:=λ{m o z}V U h0 S=>by
  let{w1,w2}:=gc.wide (b:=m);apply{bd0 w1.kd V,bq6 U w1.kn,Ap (bp6 _) ?_,Ap bn8 ⋯};have:(c.lf 1 1).oc 0*o.d.sz<=6*23:=Hf w2 S;have:(c.lf 1 1).d.sz<=308:=w1.sz;lia
 have za:=F5 a;have zb:=F5 b;let{y1,y2,y3,y4}:=X (m:=a) (o:=.left b (.name 0)) (z:=0) (Kn.left (.name rfl)).kind {⋯,trivial} (AR 2) (by erw[Pg.d,r6,p7,r8,D.sz];lia);let{v1,v2,v3,v4}:=X (m:=b) (o:=.right a (.name 0)) (z:=0) (Kn.right (.name rfl)).kind {⋯,trivial} (AR 2) (by erw[Pg.d,r6,p7,r8,D.sz];lia);have gts:t.d.sz<=224:=W.sz;apply c7 (q (c.sb t) (.case t ((c.lf 1 1).sb (.left b (.name 0))) ((c.lf 1 1).sb (.right a (.name 0)))) c.d s8 (.mk' (m1:=1600) (.split (gc.ok.ft ∅) ⟨t,a,b,W.kn.kind,rfl,rfl⟩) F.gd ⋯ (gc.sb W) {(Kn.case W.kn (T4 y1) (T4 v1)).kind,⟨W.told,y2,v2⟩,?_,by erw[Pg.hgt];lia} ∅ ∅ (.inr {c,rfl,⋯,gc.told})) (I4.keep K8 ∎) ((((K.trans J).trans K3).trans K4).trans (K8.more ∎)));erw[Pg.d,r6,p7,r8,D.sz];lia
def b98{w:String}{k:Kd}(g:61<=n)(e:w∈["let","give","first","second","left","right"]\/w∈["star","pair","way","split","never"])(N:Nmk Γ)(f:w="never"->∃l∈Γ,l.vd)(c:Drw k 28)(I:l9 st da)(q:∀x y b a,Stk Γ w x y b->l9 a da->Kp [da] st a->Q (.tup [x.d,y.d,b]) a):sem P G n "_law_step" [.ref da,.str w,k.d,.tup (Γ.map Kd.d)] st Q:=by
 obtain⟨n,rfl⟩:∃m,n=m+1:={n-1,⋯};apply g9 T.step rfl [AA (.ref da),AA (.str w),AA k.d,AA (.tup (Γ.map Kd.d))] rfl ?_;∎;apply{u6 _,by erw[E9,M0,u6,Bm],Av _,?_};erw[HG,List.any_nil,O0,A5,KG,decide_eq_true_eq,Hj]
 split
 ·rename_i h;∎;apply{oy T.two,cz7 T ⋯ ?_ N c I λx y s h I K=>c7 (q x y _ s h I K)};erw[AM,Ah,or_false]
  rcases h with h|h|h|h|h|h<;>simp[<-h]
 ·rename_i h;∎;apply{oy T.spread,b28 T ⋯ (e.resolve_left λz=>h ?_) N f c I λx y b s h I K=>c7 (q x y b s h I K)};erw[AM,Ah,or_false]at z
  rcases z with z|z|z|z|z|z<;>simp[z]
end
inductive Fm|way (a:Kd)|lets (t:Pg)|left (b:Kd)|pr (u:Pg)|ps (t:Pg)|first|second|c1 (t v:Pg)|c2 (t u:Pg)
abbrev Fm.fl:Fm->Pg->Pg
 |.way a,c=>.way a c|.lets t,c=>.lets t c|.left b,c=>.left b c|.pr u,c=>.pair c u|.ps t,c=>.pair t c
 |.first,c=>.first c|.second,c=>.second c|.c1 t v,c=>.case t c v|.c2 t u,c=>.case t u c
abbrev Fm.ix:Fm->Nat
 |.way _=>0|.lets _=>1|.left _=>0|.pr _=>0|.ps _=>1|.first=>0|.second=>0|.c1 _ _=>1|.c2 _ _=>2
def ad9(f:Fm)c:(f.fl c).kids[f.ix]?=AA c:=by cases f<;>rfl
def c33(f:Fm)c d:(f.fl c).withKids ((f.fl c).kids.set f.ix d)=f.fl d:=by cases f<;>rfl
abbrev j8(fs:List Fm)(x:Pg):Pg:=fs.foldr Fm.fl x
abbrev plD(fs:List Fm):List D:=fs.map λf=>.int (f.ix:Nat)
structure Fs(p:Pg):Prop where
 ft:Ft p
 few:p.parts<=150
inductive Nmf(Γ:List Kd):Fm->List Kd->Prop
 |way {a:Kd}:a.nest<=3->Nmf Γ (.way a) (a::Γ)
 |lets {t:Pg} {a:Kd}:Fs t->t.kind Γ=AA a->Nmf Γ (.lets t) (a::Γ)
 |c1 {t v:Pg} {a b:Kd}:Fs t->t.kind Γ=AA (.eith a b)->Nmf Γ (.c1 t v) (a::Γ)
 |c2 {t u:Pg} {a b:Kd}:Fs t->t.kind Γ=AA (.eith a b)->Nmf Γ (.c2 t u) (b::Γ)
 |same {f:Fm}:(∀c:Pg,(f.fl c).more f.ix=0)->Nmf Γ f Γ
inductive Nms:List Kd->List Fm->List Kd->Prop
 |nil {Γ:List Kd}:Nms Γ [] Γ
 |cons {Γ Γ' Δ:List Kd} {f:Fm} {fs:List Fm}:Nmf Γ f Γ'->Nms Γ' fs Δ->Nms Γ (f::fs) Δ
structure PW(P:j6):Prop where
 atp:P "at_place"=AA ak4
 rep:P "replaced"=AA ak9
 kna:P "known_at"=AA D8
 nma:P "names_at"=AA al7
 ldo:P "leads_on"=AA al1
 wlk:P "walked"=AA am8
 rvs:P "reverse"=AA am0
section
variable (R:PW P) (J:PNm P G) 
include R J
def c39{e:List Fm}(q:∀b,Kp [] st b->Q x.d b):sem P G (n+2) "at_place" [(j8 e x).d,.tup (plD e)] st Q:=by
 apply g9 R.atp rfl [AA (j8 e x).d,AA (.tup (plD e)),AD,AD,AD] rfl ?_;(iterate 2 ∎);apply B2 (λl f b=>Kp [] st b/\∃(c:List Fm)(y z:Option D),l=plD c/\f=[AA (j8 e x).d,AA (.tup (plD e)),AA (j8 c x).d,y,z]) ?_ ?_ _ _ _ ⟨Kp.refl,e,AD,AD,rfl,rfl⟩
 ·rintro f b ⟨K,c,y,z,el,rfl⟩;cases c with
  |nil=>
   ∎;show c7 (q b K)
  |cons g c=>cases el
 ·rintro d ds f b ih ⟨K,c,y,z,el,rfl⟩;cases c with
  |nil=>cases el
  |cons g c=>
   let{rfl,rfl}:=Ag el;rfl';∎;apply{oy J.inner,U7 J.toPIn (j8 (g::c) x) λa k=>?_};have j:(j8 (g::c) x).kids[g.ix]?=AA (j8 c x):=ad9 g _;have m:=(AS.mp j).1;∎;rw[if_neg ⋯,if_neg (by rw[AX];lia)];∎;show{_,by rw[u0,AY,j];rfl,ih _ _ {K.new k,c,_,_,rfl,rfl}}
def cm9{c:List Fm}(H:c.length<=1000)(q:∀f,Kp [] st f->Q (j8 c y).d f):sem P G (n+2) "replaced" [(j8 c x).d,.tup (plD c),y.d] st Q:=by
 apply g9 R.rep rfl [AA (j8 c x).d,AA (.tup (plD c)),AA y.d,AD,AD,AD,AD,AD,AD] rfl ?_;intro w u;(iterate 2 ∎);apply B2 (λl k f=>Kp [] st f/\∃(m j:List Fm)(p:List D)(z:Option D),l=plD j/\c=m++j/\k=[AA (j8 c x).d,AA (.tup (plD c)),AA y.d,AA (.ref w),AA (j8 j x).d,z,AD,AD,AD]/\f w=AA (.lst p)/\p.length=m.length/\∀(i:Nat)g A,m.drop i=g::A->p[i]?=AA (.tup [(j8 (g::A++j) x).d,.int (g.ix:Nat)])) ?_ ?_ _ _ _ {Kp.refl.new u,[],c,[],AD,rfl,rfl,rfl,c8,rfl,λi g A e=>by simp at e}
 ·rintro k f ⟨K,m,j,p,z,el,e1,rfl,hst,hle,he⟩;cases j with
  |cons g j=>cases el
  |nil=>
   rw[BF]at e1;subst e1;(iterate 2 ∎);apply{_,.inl hst,?_};apply B2 (λl k f=>Kp [] st f/\∃(i:Nat)(E C B:Option D),l=(p.take i).reverse/\i<=c.length/\k=[AA (j8 c x).d,AA (.tup (plD c)),AA y.d,AA (.ref w),AA (j8 [] x).d,E,AA (j8 (c.drop i) y).d,C,B]/\f w=AA (.lst p)) ?_ ?_ _ _ _ {K,c.length,_,_,_,by rw[<-hle,Ep],AR _,by rw[Ho];rfl,hst}
   ·rintro k f ⟨K,i,E,C,B,el,r,rfl,hst⟩;apply{.inl hst,?_};∎;have:i=0:=by have:=congrArg BI el;erw[Aq,GC,By]at this;lia
    subst this;show c7 (q _ K)
   ·rintro d ds k f ih ⟨K,i,E,C,B,el,r,rfl,hst⟩;apply{.inl hst,?_};cases i with
    |zero=>simp at el
    |succ i=>
     have t:i<c.length:=by lia
     have S:=he i c[i] (c.drop (i+1)) (BA t);rw[GO,S,IT,Ef]at el;let{rfl,rfl}:=Ag el;erw[BF];rfl';∎;apply{oy J.inner,U7 J.toPIn (j8 (c[i]::c.drop (i+1)) x) λa s=>?_};have T:w≠a:=n8 hst s;have I:(j8 (c[i]::c.drop (i+1)) x).kids[c[i].ix]?=AA (j8 (c.drop (i+1)) x):=ad9 _ _;have H:=(AS.mp I).1;∎;apply{a,_,c[i].ix,_,rfl,rfl,c8,by unfold ixN;rw[if_pos ⋯,if_pos (by rw[AX];lia)];simp,?_};rw[P5,<-Kb];∎;apply{oy J.winner,bd4 J (l:=(j8 (c[i]::c.drop (i+1)) x).kids.set c[i].ix (j8 (c.drop (i+1)) y)) D9 ∎ (λz=>by rw[z]at H;simp at H) ?_};have U:(j8 (c[i]::c.drop (i+1)) x).withKids ((j8 (c[i]::c.drop (i+1)) x).kids.set c[i].ix (j8 (c.drop (i+1)) y))=j8 (c.drop i) y:=by rw[BA t];show c33 _ _ _
     rw[U];show ih _ _ {K.new s,i,_,_,_,rfl,⋯,rfl,l8 hst s}
 ·rintro d ds k f ih ⟨K,m,j,p,z,el,e1,rfl,hst,hle,he⟩;cases j with
  |nil=>cases el
  |cons g j=>
   let{rfl,rfl}:=Ag el;have O:m.length<=1000:=by have:=congrArg BI e1;simp at this;lia
   rfl';∎;rw[y6 (.inl hst),D2 hst];apply{trivial,B8 ⋯,?_};∎;apply{oy J.inner,U7 J.toPIn (j8 (g::j) x) λa s=>?_};have I:(j8 (g::j) x).kids[g.ix]?=AA (j8 j x):=ad9 g _;rw[o0 D9];apply{_,by rw[u0,AY,I];rfl,ih _ _ {?_,m++[g],j,p++[.tup [(j8 (g::j) x).d,.int (g.ix:Nat)]],_,rfl,by rw[e1];simp,rfl,l8 c8 s,by simp[hle],λi h A e=>?_}}
   ·show λb o N e=>l8 (c9 (K b o N e) (n8 e u)) s
   ·by_cases r:i<m.length
    ·rw[Gm ⋯]at e;rw[AZ ⋯];rw[BA r,Br]at e;let{W,V}:=Ag e;have:=he i m[i] _ (BA r);rw[this,<-V,<-W];erw[Br,Bo,CW]
    ·have r:i=m.length:=by
      have:=congrArg BI e;simp at this;lia
     subst r;rw[Gm (AR _),Ho]at e;let{rfl,rfl}:=Ag e;rw[<-hle,Dx];rfl
end
def Nmf.asks{f}(h:Nmf Γ f Γ')(c:Pg):((f.fl c).more f.ix=0/\Γ'=Γ)\/((f.fl c).more f.ix=1/\(f.fl c).told 3/\∃a,Γ'=a::Γ/\(((f.fl c).w="way"/\(f.fl c).nw [] f.ix=AA a)\/((f.fl c).w≠"way"/\∃t l k,(f.fl c).d=.tup (.str (f.fl c).w::t.d::l)/\Fs t/\t.kind Γ=AA k/\(f.fl c).nw [k] f.ix=AA a))):=by
 cases h with
 |way h=>show .inr {rfl,h,_,rfl,.inl ⟨rfl,rfl⟩}
 |@lets t a g e=>show .inr {rfl,trivial,_,rfl,.inr {of_decide_eq_true rfl,t,_,a,rfl,g,e,rfl}}
 |@c1 t v a b g e=>show .inr {rfl,trivial,_,rfl,.inr {of_decide_eq_true rfl,t,_,_,rfl,g,e,rfl}}
 |@c2 t v a b g e=>show .inr {rfl,trivial,_,rfl,.inr {of_decide_eq_true rfl,t,_,_,rfl,g,e,rfl}}
 |same h=>show .inl {h c,rfl}
abbrev Kns(kb:AI)(Γ Γ':List Kd)(S:List It3)(st:Sto):Prop:=∃(kn:List Int)(Θ:List Kd),st kb=AA (.lst (kn.map D.int++p8 S Θ))/\kn.length=Γ.length/\(∀k∈Θ,Has S k.d)/\Γ'=Θ.reverse++Γ
def Kns.up{kb}{S}(h:Kns kb Γ Γ' S st)(w:Wf S')(c:S <+: S')(g:∀o,st kb=AA o->st' kb=AA o):Kns kb Γ Γ' S' st':=by
 let{f,a,l,j,d,i}:=h;apply{f,a,?_,j,λk b=>(d k b).mono c,i};have e:p8 S' a=p8 S a:=Fh λk b=>by rw[O4 w (d k b) c]
 rw[e];show g _ l
section
variable (R:PW P) (T:PNo P G) {L:List (AI×List Kd)} {S:List It3}
include R T
def be0{fs:List Fm}(hn:22<=n)(hf:Nms Γ fs Δ)(hl:Γ.length+fs.length<=100)(C:Kw sh dn sa pa wa L S st)(hL:(ka,Γ)∈L)(hS:S.length+39000*fs.length<=8900000)
  (q:∀kb S' st',Kw sh dn sa pa wa ((kb,Δ)::L) S' st'->S'.length<=S.length+39000*fs.length->Kns kb Γ Δ S' st'->Kp (shL sh dn sa pa wa) st st'->st kb=AD->Q (.ref kb) st'):sem P G n "known_at" [(j8 fs x).d,.tup (plD fs),.ref ka,.ref sh] st Q:=by
 obtain⟨n,rfl⟩:∃m,n=m+2:={n-2,⋯};apply g9 R.kna rfl [AA (j8 fs x).d,AA (.tup (plD fs)),AA (.ref ka),AA (.ref sh),AD,AD,AD,AD] rfl ?_;(iterate 2 ∎);let{ws,h1,h0}:=C.ex;let{kn,h2,h3,h4}:=h0 _ hL;apply{_,.inl h2,λkb hkb=>?_};have K0:Kp [] st (b0 st kb (.lst (kn.map D.int))):=Kp.refl.new hkb;have hbs:=h1.fresh hkb;have C0:Kw sh dn sa pa wa ((kb,Γ)::L) S (b0 st kb (.lst (kn.map D.int))):={⟨ws,h1.keep K0,λe he=>by
  rcases AM.mp he with rfl|he
  ·show⟨kn,c8,h3,h4⟩
  ·let{kn,a,b}:=h0 e he;show{kn,K0.at' a ∎,b}⟩,λe he=>by
  rcases AM.mp he with rfl|he
  ·show hbs
  ·show C.out e he}
 have hne:∀e∈L,e.1≠kb:=λe he=>by let{kn,a,b}:=h0 e he;show n8 a hkb
 ∎;apply B2 (λl env st'=>∃(gs:List Fm)(Γ':List Kd)(S':List It3)(z1 z2:Option D),l=plD gs/\Nms Γ' gs Δ/\Γ'.length+gs.length<=100/\S'.length+39000*gs.length<=S.length+39000*fs.length/\env=[AA (j8 fs x).d,AA (.tup (plD fs)),AA (.ref ka),AA (.ref sh),AA (j8 gs x).d,AA (.ref kb),z1,z2]/\Kw sh dn sa pa wa ((kb,Γ')::L) S' st'/\Kns kb Γ Γ' S' st'/\Kp (shL sh dn sa pa wa) st st') ?_ ?_ _ _ _ {fs,Γ,S,AD,AD,rfl,hf,hl,AR _,rfl,C0,{kn,[],by rw[c8];simp[p8],h3.len,nofun,rfl},K0.more ∎}
 ·rintro env st' ⟨gs,Γ',S',z1,z2,el,hg,_,hs,rfl,C1,N1,K1⟩;cases gs with
  |cons g gs=>cases el
  |nil=>
   cases hg;∎;show c7 (q kb S' st' C1 (by simpa using hs) N1 K1 hkb)
 ·rintro d ds env st' ih ⟨gs,Γ',S',z1,z2,el,hg,hlg,hs,rfl,C1,N1,K1⟩;cases gs with
  |nil=>cases el
  |cons g gs=>
   let{rfl,rfl}:=Ag el;cases hg with
   |@cons _ Γ1 _ _ _ h5o h6=>
   erw[AT]at hlg hs;rfl';∎;obtain⟨p,ep⟩:∃p,p=j8 (g::gs) x:=⟨_,rfl⟩;have hk:p.kids[g.ix]?=AA (j8 gs x):=by rw[ep];show ad9 g _
   have h5:=h5o.asks (j8 gs x);clear h5o;rw[show g.fl (j8 gs x)=p from ep.symm]at h5;rw[<-ep];have fin:∀(S2:List It3)(st2:Sto)(z:Option D),S2.length<=S'.length+39000->Kw sh dn sa pa wa ((kb,Γ1)::L) S2 st2->Kns kb Γ Γ1 S2 st2->Γ1.length<=Γ'.length+1->Kp (shL sh dn sa pa wa) st st2->i9 (Zg P G (n+1)) (.cons (.set 4 (.ix (.call "inner" (.cons (.v 4) .nil)) (.v 6))) .nil) {u5 (λ_=>True) (.n 6) (i9 (Zg P G (n+1)) (match D8.body.drop 2 with|.cons (.for _ _ b) _=>b|_=>.nil)) ⟨i9 (Zg P G (n+1)) (D8.body.drop 3) (j9 Q),(j9 Q).rt,(j9 Q).bk,(j9 Q).ct⟩ (plD gs),(j9 Q).rt,i9 (Zg P G (n+1)) (D8.body.drop 3) (j9 Q),u5 (λ_=>True) (.n 6) (i9 (Zg P G (n+1)) (match D8.body.drop 2 with|.cons (.for _ _ b) _=>b|_=>.nil)) ⟨i9 (Zg P G (n+1)) (D8.body.drop 3) (j9 Q),(j9 Q).rt,(j9 Q).bk,(j9 Q).ct⟩ (plD gs)} [AA (j8 fs x).d,AA (.tup (plD fs)),AA (.ref ka),AA (.ref sh),AA p.d,AA (.ref kb),AA (.int (g.ix:Nat)),z] st2:=by
    intro S2 st2 z l2 C2 N2 lg K2;erw[D8,Ss.drop];∎;apply{oy T.inner,U7 T.toPIn p λa ha=>?_};rw[o0 D9];show{_,by rw[u0,AY,hk];rfl,ih _ _ {gs,Γ1,S2,_,_,rfl,h6,⋯,⋯,rfl,C2.keep (Kp.refl.new ha),(let⟨kn,Θ,j1,j2⟩:=N2;{kn,Θ,l8 j1 ha,j2}),K2.new ha}}
   apply{oy T.more,ad2 T.toPIn p g.ix ?_}
   rcases h5 with⟨h5,rfl⟩|⟨h5,ht,a,rfl,h7⟩
   ·rw[h5];rfl';show fin S' st' z2 ⋯ C1 N1 ⋯ K1
   ·rw[h5];rfl';have l6:∀(ks:List Kd)(S2:List It3)(st2:Sto)(kc:AI),p.nw ks g.ix=AA a->S2.length<=S'.length+38400->Kw sh dn sa pa wa ((kb,Γ')::L) S2 st2->Kns kb Γ Γ' S2 st2->st2 kc=AA (.lst (p8 S2 ks))->(∀k∈ks,Has S2 k.d)->Kp (shL sh dn sa pa wa) st st2->i9 (Zg P G (n+1)) (.cons (.ex (.app (.v 5) (.call "new_name" (.cons (.v 4) (.cons (.v 7) (.cons (.v 6) (.cons (.v 3) .nil))))))) .nil) {i9 (Zg P G (n+1)) (.cons (.set 4 (.ix (.call "inner" (.cons (.v 4) .nil)) (.v 6))) .nil) {u5 (λ_=>True) (.n 6) (i9 (Zg P G (n+1)) (match D8.body.drop 2 with|.cons (.for _ _ b) _=>b|_=>.nil)) ⟨i9 (Zg P G (n+1)) (D8.body.drop 3) (j9 Q),(j9 Q).rt,(j9 Q).bk,(j9 Q).ct⟩ (plD gs),(j9 Q).rt,i9 (Zg P G (n+1)) (D8.body.drop 3) (j9 Q),u5 (λ_=>True) (.n 6) (i9 (Zg P G (n+1)) (match D8.body.drop 2 with|.cons (.for _ _ b) _=>b|_=>.nil)) ⟨i9 (Zg P G (n+1)) (D8.body.drop 3) (j9 Q),(j9 Q).rt,(j9 Q).bk,(j9 Q).ct⟩ (plD gs)},(j9 Q).rt,i9 (Zg P G (n+1)) (D8.body.drop 3) (j9 Q),u5 (λ_=>True) (.n 6) (i9 (Zg P G (n+1)) (match D8.body.drop 2 with|.cons (.for _ _ b) _=>b|_=>.nil)) ⟨i9 (Zg P G (n+1)) (D8.body.drop 3) (j9 Q),(j9 Q).rt,(j9 Q).bk,(j9 Q).ct⟩ (plD gs)} [AA (j8 fs x).d,AA (.tup (plD fs)),AA (.ref ka),AA (.ref sh),AA p.d,AA (.ref kb),AA (.int (g.ix:Nat)),AA (.ref kc)] st2:=by
     intro ks S2 st2 kc hnw l2 C2 N2 hkc hh K2;let{w2,g1,g0}:=C2.ex;let{kn2,g2,g3,g4}:=g0 (kb,Γ') ∎;∎;rw[y6 (.inl g2)];apply{trivial,oy T.nnm,?_};apply a09 T.toPKo ⋯ g1 ht h5 hnw hkc hh ⋯ λS3 w3 st3 i1 i2 i3 i4 i5 i6=>?_;have g5:=i6.at' g2 hbs;rw[D2 g5];apply{B8 (by erw[AX];lia),?_};have gl:kn2.length=Γ'.length:=g3.len;have N3:=N2.up i4.A.wf i2 (st':=st3) λo ho=>i6.at' ho hbs;apply fin S3 _ _ ⋯ {{w3,i4.keepL (Kp.refl.put (L:=[kb]) ∎) (by intro y hy;erw[Ao]at hy;subst hy;show hbs),λe he=>?_},λe he=>?_} ?_ ∎ ?_
     ·rcases AM.mp he with rfl|he
      ·show{kn2++[(nb S3 a.d:Int)],by rw[c8,Ad];rfl,(g3.up i4.A.wf i2 i5).cons (.inl ⟨rfl,i1⟩),by simp;lia}
      ·let{kn3,j1,j2,j3}:=g0 e (Ae _ he);show{kn3,c9 (i6.at' j1 (C.out e he)) (hne e he),j2.up i4.A.wf i2 i5,j3}
     ·rcases AM.mp he with rfl|he
      ·show hbs
      ·show C.out e he
     ·let{kn3,Θ,j1,j2,j3,j4}:=N3;rw[g5]at j1;apply{kn3,Θ++[a],?_,j2,λk hk=>?_,by rw[j4];simp}
      ·rw[c8];injection j1 with j1
       injection j1 with j1
       rw[j1,Bo];simp[p8]
      ·rcases BD.mp hk with hk|hk
       ·show j3 k hk
       ·rw[Ao.mp hk];show i1
     ·show λb o nb e=>c9 (i6 b o nb (K2 b o nb e)) (n8 e hkb)
    rcases h7 with⟨hw,hnw⟩|⟨hw,t,td,k,ed,ft,tk,hnw⟩
    ·rw[Pg.d_w p 0]at fin l6 ⊢;∎;rw[if_pos hw];rfl';intro kc hkc;show l6 [] S' _ kc hnw ⋯ (C1.keep (Kp.refl.new hkc)) (let⟨kn,Θ,j1,j2⟩:=N1;{kn,Θ,l8 j1 hkc,j2}) c8 nofun (K1.new hkc)
    ·rw[ed]at fin l6 ⊢;∎;rw[if_neg hw];rfl';have hp:=ft.few;apply{oy T.shk,ae6 T ⋯ ft.ft tk C1 ∎ ⋯ λS2 st2 i1 C2 w2 p2 l2 K2=>?_};rfl';intro kc hkc;show l6 [k] S2 _ kc hnw ⋯ (C2.keep (Kp.refl.new hkc)) (N1.up w2 p2 λo ho=>l8 (K2.at' ho hbs) hkc) c8 (λl hl=>by rw[Ao.mp hl];show i1) ((K1.trans K2).new hkc)
end
@[reducible]noncomputable def stD(fs:List Fm)(w:String)(x y:Pg)(tt:D):D:=.tup [.tup (plD fs),.str w,x.d,y.d,tt]
structure Sx(Γ:List Kd)(fs:List Fm)(w:String)(x y:Pg)(tt:D):Prop where
 ex:∃Δ,Nms Γ fs Δ/\(Stk Δ w x y tt\/Stk Δ w y x tt)
 len:fs.length<=12
 few:Γ.length<=40
theorem Sx.symm{fs}{w}(h:Sx Γ fs w x y tt):Sx Γ fs w y x tt:=⟨let⟨c,a,b⟩:=h.ex;⟨c,a,b.symm⟩,h.len,h.few⟩
inductive Row(Γ:List Kd):Pg->List D->Pg->Prop
 |nil {p:Pg}:Row Γ p [] p
 |cons {fs:List Fm} {w:String} {x y p:Pg} {tt:D} {r:List D}:Sx Γ fs w x y tt->Row Γ (j8 fs y) r p->Row Γ (j8 fs x) (stD fs w x y tt::r) p
def cg6{fs}(h:Nms Γ fs Δ):Δ.length<=Γ.length+fs.length:=by
 induction h with
 |nil=>show AR _
 |cons d _ c=>cases d<;>simp at c ⊢<;>lia
section
variable (R:PW P) (B:PBk P G) (J:PNm P G) (T:PNo P G) {L:List (AI×List Kd)} {S:List It3}
include R B J T
def b40{c:List Fm}{w:String}{y:Pg}(X:34<=n)(h:Sx Γ c w x y tt)(C:Kw sh dn sa pa wa L S st)(F:(ka,Γ)∈L)(Z:S.length<=7400000)
  (q:∀k a,Kw sh dn sa pa wa L k a->k.length<=S.length+1340000->Kp (shL sh dn sa pa wa) st a->Q (.bl AC) a):sem P G n "leads_on" [(j8 c x).d,.ref ka,.ref sh,stD c w x y tt] st Q:=by
 obtain⟨n,rfl⟩:∃m,n=m+3:={n-3,⋯};let{{t,D,i},Y,j}:=h;have H:Ft x:=i.elim (λz=>z.fx) λz=>z.fy;apply g9 R.ldo rfl [AA (j8 c x).d,AA (.ref ka),AA (.ref sh),AA (stD c w x y tt),AD,AD] rfl ?_;∎;apply{by rw[R.atp];rfl,c39 R J λU s=>?_};∎;apply .inr {ae0,?_};apply{oy B.alike,J3 B (y:=x) H λb O E l=>?_};rw[E rfl];rfl';(iterate 2 ∎);apply{by rw[R.kna];rfl,be0 R T ⋯ D ⋯ ((C.keep s).keep l) F ⋯ λv b g N W _ f A=>?_};∎;apply{oy B.over,?_};have f:Kp (shL sh dn sa pa wa) st g:=((s.trans l).more ∎).trans f;have e:∀(p r:Pg),(p=x/\r=y)\/(p=y/\r=x)->Stk t w p r tt->sem P G (n+2) "is_step_over" [.ref v,.ref sh,.tup [.str w,x.d,y.d,tt]] g (j9 Q).rt:=λp r o z=>by
  apply ck8 B J T ⋯ N (Bu) ⋯ z (p:=x) (q:=y) (by rcases o with⟨rfl,rfl⟩|⟨rfl,rfl⟩;show .inl ⟨rfl,rfl⟩;show .inr ⟨rfl,rfl⟩) λI u M V K=>c7 (q I u M.tail ⋯ (f.trans K))
 apply{∅,?_}
 rcases i with z|z
 ·show e x y (.inl ⟨rfl,rfl⟩) z
 ·show e y x (.inr ⟨rfl,rfl⟩) z
omit R B J
theorem ba2(l:∀k∈Γ,k.nest<=3)(r:Γ.length<2000)(i:st sh=AD)(q:∀e c d b a,Kp [] st a->(∀x∈shL sh e c d b,st x=AD)->KA sh e c d b [] [] a->Q .non a):sem P G (n+1) (f8 "Shelf" "__init__") [.ref sh] (b0 st sh (.ins "Shelf" [])) Q:=
 ba5 T.toPSh i λe c d b a p m j h g f o=>q e c d b a o j {p,⟨m,h,g⟩,f,∎,∎,∎}
omit T
theorem Kp.out{s0 s1 s2}(h:∀x∈X,s0 x=AD)(K1:Kp [] s0 s1)(K2:Kp X s1 s2):Kp [] s0 s2:=λb o _ e=>K2 b o λz=>by simp_all (K1.at' e ∎)
include R B J T
def ao5{p W:Pg}{b:AI}(hn:40<=n)(s:∀k∈Γ,k.nest<=3)(hg:Γ.length<=40)(u:st b=AA (.lst ds))(hd:ds.length<=5)(h:Row Γ p ds W)(q:∀a,Kp [] st a->Q W.d a):sem P G n "walked" [p.d,.tup (Γ.map Kd.d),.ref b] st Q:=by
 obtain⟨n,rfl⟩:∃m,n=m+3:={n-3,⋯};apply g9 R.wlk rfl [AA p.d,AA (.tup (Γ.map Kd.d)),AA (.ref b),AD,AD,AD,AD,AD] rfl ?_;∎;apply{oy T.init,λo Z=>?_};apply af1 (n:=n+1) ?_;apply ba2 T s ⋯ Z λM H I F d K1 f E=>{rfl,?_};∎;apply{oy T.shn,an3 T (n:=n) s ⋯ E λU kn Y V KA2 v hka hkn hkl j=>?_};have C2:Kw o M H I F [(Y,Γ)] [] V:={{U,KA2,λe he=>by rw[Ao.mp he];show{kn,hka,hkn,⋯}},λe he=>by rw[Ao.mp he];show E.fresh v};have j:Kp [] st V:=K1.out (λx t=>f x (by simp at t ⊢;show .inr (.inr (.inr (.inr t))))) j;have t:b∉shL o M H I F:=λz=>by rw[f b z]at u;cases u
 (iterate 2 ∎);apply{ds,.inl (j.at' u ∎),?_};apply B2 (λl g a=>∃(i:Nat)(r:List D)(L:Pg)(S:List It3)(O N:Option D),l=u4 i r/\Row Γ L r W/\g=[AA p.d,AA (.tup (Γ.map Kd.d)),AA (.ref b),AA (.ref o),AA (.ref Y),AA L.d,O,N]/\Kw o M H I F [(Y,Γ)] S a/\S.length+1340000*r.length<=6700000/\Kp (shL o M H I F) V a) ?_ ?_ _ _ _ {0,ds,p,[],AD,AD,rfl,h,rfl,C2,by simp;lia,Kp.refl}
 ·rintro g a ⟨i,r,L,S,O,N,el,h,rfl,C,hS,K⟩;have c:=K.at' (j.at' u ∎) t;apply{.inl c,?_};cases h with
  |cons _ _=>cases el
  |nil=>
   ∎;show c7 (q a (j.out f K))
 ·rintro d ds' g a ih ⟨i,r,L,S,O,N,el,h,rfl,C,hS,K⟩;have c:=K.at' (j.at' u ∎) t;apply{.inl c,?_};cases h with
  |nil=>cases el
  |@cons fs w x y _ tt r hs h=>
   let{rfl,rfl}:=Ag el;erw[AT]at hS;rfl';∎;apply{by rw[R.ldo];rfl,b40 R B J T ⋯ hs C ∎ ⋯ λS3 s3 C3 l3 K3=>?_};rfl';∎;apply{by rw[R.rep];rfl,cm9 R J (by have:=hs.len;lia) λs4 K4=>?_};show ih _ _ {i+1,r,j8 fs y,S3,_,_,rfl,h,rfl,C3.keep K4,⋯,(K.trans K3).trans (K4.more ∎)}
omit B J
theorem bw8{i:List Fm}(hn:30<=n)(s:∀k∈Γ,k.nest<=3)(hg:Γ.length<=40)(hl:i.length<=12)(S:Nms Γ i Δ)(q:∀b,Kp [] st b->Q (.tup (Δ.map Kd.d)) b):sem P G n "names_at" [(j8 i x).d,.tup (plD i),.tup (Γ.map Kd.d)] st Q:=by
 obtain⟨n,rfl⟩:∃m,n=m+3:={n-3,⋯};apply g9 R.nma rfl [AA (j8 i x).d,AA (.tup (plD i)),AA (.tup (Γ.map Kd.d)),AD,AD] rfl ?_;∎;apply{oy T.init,λB C=>?_};apply af1 (n:=n+1) ?_;apply ba2 T s ⋯ C λdn X Z W d K1 v w=>{rfl,?_};∎;apply{by rw[R.kna];rfl,oy T.shn,an3 T (n:=n) s ⋯ w λy kn ka M I u F E e K=>?_};have C2:Kw B dn X Z W [(ka,Γ)] [] M:={{y,I,λe H=>by rw[Ao.mp H];show{kn,F,E,⋯}},λe H=>by rw[Ao.mp H];show w.fresh u};have K:Kp [] st M:=K1.out (λx O=>v x (by simp at O ⊢;show .inr (.inr (.inr (.inr O))))) K;apply be0 R T ⋯ S ⋯ C2 ∎ (by simp;lia) λa p Y C3 c N3 J e=>?_;have J:=K.out v J;let{w3,g3,_}:=C3.ex;let{r,f,j1,j2,j3,N}:=N3;∎;rw[ay1 (.inl j1)];intro L t;have ec:A9 (r.map D.int++p8 p f) (AA ((Γ.map Kd.d).length:Nat)) AD=p8 p f:=by
  rw[b91,AX,<-j2,<-AX (as:=r) D.int,List.drop_left]
 rw[ec];apply{L,_,rfl,D9,?_};have U:=g3.keep (Kp.refl.new (o:=.lst (p8 p f)) t);have hle:f.length<=12:=by have:=cg6 S;rw[N]at this;simp at this;lia
 apply{by simp[p8];lia,?_};apply G1 (λl h g b=>∃(j c:List Kd)(z:Option D),l=p8 p c/\h=j.map Kd.d/\f.reverse=j++c/\g=[AA (.ref B),z]/\b=b0 Y L (.lst (p8 p f))) ?_ ?_ _ _ _ _ {[],f.reverse,AD,by simp[p8],rfl,rfl,rfl,rfl}
 ·rintro h g b ⟨j,c,z,el,rfl,e,rfl,rfl⟩;have eb:c=[]:=by simpa[p8]using el.symm
  subst eb;apply{D9,λa ha=>?_};rw[BF]at e;apply{t9 (by have:=congrArg BI e;simp at this ⊢;lia),?_};have:j.map Kd.d++Γ.map Kd.d=Δ.map Kd.d:=by rw[N,e,Ad]
  rw[this];show c7 (q _ ((J.new t).new ha))
 ·rintro d ds h g b ih ⟨j,c,z,el,rfl,e,rfl,rfl⟩;cases c with
  |nil=>simp[p8]at el
  |cons k c=>
   erw[p8,Ar]at el;let{rfl,rfl}:=Ag el;have hk:Has p k.d:=j3 k (by rw[<-mem_reverse,e];simp);apply{D9,?_};rfl';apply{B,"Shelf",_,rfl,U.A.ins,rfl,oy T.tup,ap7 T.toPSh U.A hk ?_};show ih _ _ _ {j++[k],c,_,rfl,∎,by rw[e];simp,rfl,rfl}
omit T
abbrev bkD:D->D
 |.tup l=>.tup [l.getD 0 .non,l.getD 1 .non,l.getD 3 .non,l.getD 2 .non,l.getD 4 .non]
 |d=>d
omit R in
theorem bp1{Z:Sg}{chk:Sto->Prop}{K:List D->Sto->Prop}{xs:List D}(hc:chk st)(h:∀d∈xs,∃a b c e f,d=.tup [a,b,c,e,f])(r:K (xs.map bkD) st):B6 chk (.tup [0,1,2,3,4]) (L7 Z .non) (λenv st Q=>vR env[0]? λd=>vR env[1]? λd_1=>vR env[3]? λd_2=>vR env[2]? λd_3=>vR env[4]? λd_4=>Q (D.tup [d,d_1,d_2,d_3,d_4]) st) K xs [] [AD,AD,AD,AD,AD] st:=by
 apply G1 (λl acc env st'=>∃(as:List D)(z1 z2 z3 z4 z5:Option D),acc=as.map bkD/\xs=as++l/\env=[z1,z2,z3,z4,z5]/\st'=st) ?_ ?_ _ _ _ _ {[],AD,AD,AD,AD,AD,rfl,rfl,rfl,rfl}
 ·rintro acc env st' ⟨as,z1,z2,z3,z4,z5,rfl,e,rfl,rfl⟩;rw[BF]at e;apply{hc,?_};rw[<-e];show r
 ·rintro d ds' acc env st' ih ⟨as,z1,z2,z3,z4,z5,rfl,e,rfl,rfl⟩;let{a,b,c,e',f,rfl}:=h d (by rw[e];simp);apply{hc,?_};rfl';show ih _ _ _ {as++[.tup [a,b,c,e',f]],_,_,_,_,_,by rw[Ad];rfl,by rw[e];simp,rfl,rfl}
theorem bw2{row}(g:st row=AA (.lst ds))(k:ds.length<=100)(h:∀d∈ds,∃a b c e f,d=.tup [a,b,c,e,f])(q:∀a,st a=AD->Q (.ref a) (b0 st a (.lst (ds.reverse.map bkD)))):sem P G (n+1) "reverse" [.ref row] st Q:=by
 apply g9 R.rvs rfl [AA (.ref row)] rfl ?_;∎;show{_,.inl g,by simp;lia,bp1 (.inl g) (λd i=>h d (GE.mp i)) λa j=>c7 (q a j)}
end
structure P43(P:j6):Prop where
 wrapped:P "_law_wrapped"=AA U4
 shell:P "_law_shell"=AA ai8
 kab:P "_law_kind_about"=AA Y3
 about:P "_law_about"=AA aj5
 placed:P "_law_placed"=AA Y5
 joined:P "_law_joined"=AA ai1
 lat:P "_law_at"=AA Y7
def cj3{k:Kd}(h:k.vd):k.nest<=2:=by rcases h with rfl|rfl|rfl|rfl<;>decide
inductive Wr|way|lets|left|pair|second|yes (b:Kd)|no (b:Kd)
abbrev Wr.word:Wr->String
 |.way=>"way"|.lets=>"let"|.left=>"left"|.pair=>"pair"|.second=>"second"|.yes _=>"yes"|.no _=>"no"
abbrev Wr.oth:Wr->D
 |.yes b=>b.d|.no b=>b.d|_=>.non
abbrev Wr.ok:Wr->Prop
 |.yes b=>b.sm/\b.ms<=18|.no b=>b.sm/\b.ms<=18|_=>True
abbrev Wr.names(a:Kd)(Γ:List Kd):Wr->List Kd
 |.left=>Γ|.pair=>Γ|.second=>Γ|_=>a::Γ
abbrev Wr.kd(a k:Kd):Wr->Kd
 |.way=>.way a k|.left=>.eith k a|_=>k
structure Wp where
 w:Wr
 a:Kd
 Γ:List Kd
variable{v:Wp}
abbrev Wp.d(v:Wp):List D:=[.str v.w.word,.tup (v.Γ.map Kd.d),v.a.d,v.w.oth]
inductive Wch(Γ:List Kd):List Wp->List Kd->Prop
 |nil:Wch Γ [] Γ
 |cons {v:Wp} {V:List Wp}:Wch Γ V v.Γ->Nmk v.Γ->v.a.sm->v.a.ms<=18->v.w.ok->Wch Γ (v::V) (v.w.names v.a v.Γ)
abbrev Wst(st:Sto):List AI->List Wp->Prop
 |a::as,v::V=>st a=AA (.lst v.d)/\Wst st as V
 |[],[]=>True
 |_,_=>False
theorem Wst.keep(I:l9 st da)(K:Kp [da] st st'):∀{as}{V},Wst st as V->Wst st' as V
 |a::as,v::V,h=>{K.at' h.1 (λz=>by
   rw[Ao.mp z]at h;let{l,e}:=I;have b:=h.1;rw[e]at b;cases l with
   |nil=>cases b
   |cons x l=>cases b),Wst.keep I K h.2}
 |[],[],_=>trivial
 |[],_::_,h=>h.elim
 |_::_,[],h=>h.elim
theorem Wst.new{p}{o}(b:st p=AD):∀{as}{V},Wst st as V->Wst (b0 st p o) as V
 |a::as,v::V,h=>{l8 h.1 b,Wst.new b h.2}
 |[],[],_=>trivial
 |[],_::_,h=>h.elim
 |_::_,[],h=>h.elim
theorem Wst.put{p}{o}:∀{as}{V},p∉as->Wst st as V->Wst (b0 st p o) as V
 |a::as,v::V,n,h=>{c9 h.1 λz=>n (by simp[z]),Wst.put (λz=>n (by simp[z])) h.2}
 |[],[],_,_=>trivial
 |[],_::_,_,h=>h.elim
 |_::_,[],_,h=>h.elim
section
variable (T:P41 P G) 
include T
@[reducible]noncomputable def ag0:List String:=["let","give","first","second","left","right"]
@[reducible]noncomputable def af6:List String:=["star","pair","way","split","never"]
def ca4(I:l9 st da)(q:∀w a,w∈ag0\/w∈af6->l9 a da->Kp [da] st a->Q (.str w) a):sem P G (n+2) "_law_word" [.ref da] st Q:=by
 apply g9 T.word rfl [AA (.ref da),AD] rfl ?_;intro p e;∎;apply{oy T.next,E3 T ∅ (I.new e) λr g i l k b=>?_};rw[o0 (.inl (b.at' c8 (by simpa using(I.ne e).symm)))];have b:Kp [da] st g:=(Kp.refl.new e).trans b;let{r,rfl}:=BY i;have c:∀r:Nat,r<12->∃w:String,(["let","give","first","second","left","right","star","pair","way","split","never","split"]:List String)[r]?=AA w/\(w∈ag0\/w∈af6):=λr h=>by
  have f:∀w∈(["let","give","first","second","left","right","star","pair","way","split","never","split"]:List String),w∈ag0\/w∈af6:=by decide
  show{_,AH h,f _ (DE h)}
 let{w,j,d}:=c r ⋯;apply{.str w,?_,c7 (q w g d k b)};rw[u0];change((["let","give","first","second","left","right","star","pair","way","split","never","split"]:List String).map λw=>D.str (Ac w))[r]?=_;rw[AY,j];rfl
def b45(I:l9 st da)(q:∀(k:Kd)b,k.vd->l9 b da->Kp [da] st b->Q k.d b):sem P G (n+2) "_law_void" [.ref da] st Q:=by
 apply g9 T.void rfl [AA (.ref da),AD,AD,AD] rfl ?_;(iterate 3 ∎);intro p f;∎;apply{oy T.next,E3 T ∅ (I.new f) λr c h g e a=>?_};rw[o0 (.inl (a.at' c8 (by simpa using(I.ne f).symm)))];have a:Kp [da] st c:=(Kp.refl.new f).trans a;obtain rfl|rfl|rfl|rfl|rfl:r=0\/r=1\/r=2\/r=3\/r=4:=by lia
 ·show{_,rfl,c7 (q .non c (.inl rfl) e a)}
 ·show{_,rfl,c7 (q .non c (.inl rfl) e a)}
 ·show{_,rfl,c7 (q (.both (.eith .one .one) .non) c (.inr (.inl rfl)) e a)}
 ·show{_,rfl,c7 (q (.eith .non .non) c (.inr (.inr (.inl rfl))) e a)}
 ·show{_,rfl,c7 (q (.way (.eith .one .one) .non) c (.inr (.inr (.inr rfl))) e a)}
end
def ca6{a}(N:Nmk Γ)(ha:a.sm)(hl:Γ.length<=19):Nmk (a::Γ):={λl hl=>by
 rcases AM.mp hl with rfl|hl
 ·simp_all
 ·show N.all l hl,by simp_all}
section
variable (T:P41 P G) (W:P43 P) 
include T W
def by4{d:Nat}(hn:8<=n)(hd:d<=4)(N:Nmk g)(hl:g.length<=12)(I:l9 st da)(q:∀v A V f c,c v=AA (.lst (A.reverse.map D.ref))->v≠da->Wst c A V->Wch g V f->V.length<=4->Nmk f->l9 c da->Kp [da] st c->Q (.tup [.ref v,.tup (f.map Kd.d)]) c):sem P G n "_law_wrapped" [.ref da,.tup (g.map Kd.d),.int d] st Q:=by
 obtain⟨n,rfl⟩:∃m,n=m+3:={n-3,⋯};apply g9 W.wrapped rfl [AA (.ref da),AA (.tup (g.map Kd.d)),AA (.int d),AD,AD,AD,AD] rfl ?_;intro v F;have i:v≠da:=(I.ne F).symm;∎;apply{⋯,?_};apply B2 (λl R c=>∃(A:List AI)(V:List Wp)(f:List Kd)(z1 z2 z3:Option D),R=[AA (.ref da),AA (.tup (f.map Kd.d)),AA (.int d),AA (.ref v),z1,z2,z3]/\c v=AA (.lst (A.reverse.map D.ref))/\v∉A/\Wst c A V/\Wch g V f/\V.length+l.length<=4/\A.length<=4/\A.length+l.length<=4/\f.length+l.length<=16/\Nmk f/\l9 c da/\Kp [da] st c) ?_ ?_ _ _ _ {[],[],g,AD,AD,AD,rfl,c8,∎,trivial,.nil,by simp[B0];lia,∎,by simp[B0];lia,by simp[B0];lia,N,I.new F,Kp.refl.new F}
 ·rintro R c ⟨A,V,f,z1,z2,z3,rfl,hst,hna,S,C,hv,_,_,hd2,N2,I2,K2⟩;∎;show c7 (q v A V f c hst i S C (by simpa using hv) N2 I2 K2)
 ·rintro x ds R c ih ⟨A,V,f,z1,z2,z3,rfl,hst,hna,S,C,hv,ha1,ha2,hd2,N2,I2,K2⟩;erw[AT]at hv hd2 ha2;rfl';∎;apply{oy T.next,E3 T ∅ I2 λr s1 b r1 I3 K3=>?_};∎;have O:∀(w:Wr)(a:Kd)(s:Sto)(y:AI),w.ok->a.sm->a.ms<=18->l9 s da->Kp [da] c s->s y=AD->∀K:DK,(∀Y,(∀z,u5 (λ_=>True) (.n 4) (i9 (Zg P G (n+2)) (match U4.body.drop 1 with|.cons (.for _ _ b) _=>b|_=>.nil)) ⟨i9 (Zg P G (n+2)) (U4.body.drop 2) (j9 Q),(j9 Q).rt,(j9 Q).bk,(j9 Q).ct⟩ ds [AA (.ref da),AA (.tup ((w.names a f).map Kd.d)),AA (.int d),AA (.ref v),AA x,z,AA a.d] Y)->K .non Y)->X6 (.ref v) (.ref y) (b0 s y (.lst (Wp.d ⟨w,a,f⟩))) K:=by
   intro w a s y U j E Is Ks B K k;have h1:=Ks.at' hst (by simpa using i);have h2:=l8 (u:=.lst (Wp.d ⟨w,a,f⟩)) h1 B;have Z:v≠y:=n8 h1 B;rw[D2 h2];apply{B8 (by simp;lia),k _ λz=>?_};erw[U4,Ss.drop];have Sy:=(Wst.keep I2 Ks S);apply ih _ _ {y::A,⟨w,a,f⟩::V,w.names a f,_,_,_,rfl,by rw[c8];simp,by simp;show⟨Z,hna⟩,{c9 c8 (Ax Z),(Sy.new B).put hna},.cons C N2 j E U,by erw[AT];lia,by erw[AT];lia,by erw[AT];lia,?_,?_,?_,?_}
   ·cases w<;>erw[Wr.names,AT]<;>lia
   ·cases w<;>first|show N2|show ca6 N2 j ⋯
   ·let{l,e}:=Is;show{l,c9 (l8 e B) (Ax i)}
   ·show λb o a e=>c9 (l8 ((K2.trans Ks) b o a e) B) (n8 e F)
  have kin:∀K:DK,(∀(a:Kd)s,a.sm->a.ms<=18->l9 s da->Kp [da] c s->K a.d s)->if 0<r then sem P G (n+2) "_law_kind" [.ref da,.int (if r<4 then 1 else 0)] s1 K else sem P G (n+2) "_law_kind" [.ref da,.int 0] s1 K:=λK k=>by
   have M:∀t:Nat,t<=1->sem P G (n+2) "_law_kind" [.ref da,.int t] s1 K:=λt b=>G0 T t ⋯ ⋯ I3 λa s b d e h L=>k a s {b,⋯} ⋯ h (K3.trans L)
   split
   ·split
    ·show M 1 ∅
    ·show M 0 ∅
   ·show M 0 ∅
  apply{oy T.kind,kin _ λa s j E I4 L=>?_};∎
  by_cases h3:3<r
  ·rw[if_pos h3];∎;apply{by rw[y6 (.inl (L.at' hst (by simpa using i)))];trivial,λp J=>?_};obtain⟨w,H,U,X⟩:∃w:Wr,atI [D.str "pair",D.str "second",D.str "left"] (r-4)=AA (.str w.word)/\w.ok/\w.oth=.non/\∀a g,w.names a g=g:=by
    obtain rfl|rfl|rfl:r=4\/r=5\/r=6:=by lia
    ·show{.pair,rfl,trivial,rfl,λ_ _=>rfl}
    ·show{.second,rfl,trivial,rfl,λ_ _=>rfl}
    ·show{.left,rfl,trivial,rfl,λ_ _=>rfl}
   apply{_,H,λy B=>?_};rw[<-X.1];apply O w a _ y U j E (I4.new J) (L.new J) B _ λY k=>?_;have k:=k (AA (.int r));rw[X.2]at k;show k
  ·rw[if_neg h3];∎;have hz:[a.d].length+(f.map Kd.d).length<=sizeLine:=t9 (by simp;lia)
   by_cases h2:r<2
   ·rw[if_pos h2];∎;apply{by rw[y6 (.inl (L.at' hst (by simpa using i)))];trivial,λp J=>?_};obtain⟨w,H,U,X⟩:∃w:Wr,atI [D.str "way",D.str "let"] r=AA (.str w.word)/\w.ok/\w.oth=.non/\∀a g,w.names a g=a::g:=by
     obtain rfl|rfl:r=0\/r=1:=by lia
     ·show{.way,rfl,trivial,rfl,λ_ _=>rfl}
     ·show{.lets,rfl,trivial,rfl,λ_ _=>rfl}
    apply{_,H,λy B=>?_};rw[<-X.1];apply O w a _ y U j E (I4.new J) (L.new J) B _ λY k=>?_;have k:=k (AA (.int r));rw[X.2]at k;∎;show⟨hz,k⟩
   ·rw[if_neg h2];∎;apply{by rw[y6 (.inl (L.at' hst (by simpa using i)))];trivial,λp J=>?_};obtain⟨w,H⟩:∃w:Kd->Wr,atI [D.str "yes",D.str "no"] (r-2)=AA (.str (w a).word)/\(∀b,(w b).word=(w a).word)/\(∀b,b.sm/\b.ms<=18->(w b).ok)/\(∀b,(w b).oth=b.d)/\∀b a g,(w b).names a g=a::g:=by
     obtain rfl|rfl:r=2\/r=3:=by lia
     ·show{.yes,rfl,λ_=>rfl,λ_ h=>h,λ_=>rfl,λ_ _ _=>rfl}
     ·show{.no,rfl,λ_=>rfl,λ_ h=>h,λ_=>rfl,λ_ _ _=>rfl}
    apply{_,H.1,oy T.kind,G0 T 0 ⋯ ⋯ (I4.new J) λb s5 b1 d e I5 K5 y B=>?_};rw[<-H.2.1 b,<-H.2.2.2.1 b];apply O (w b) a _ y (H.2.2.1 b {{b1,⋯},⋯}) j E I5 ((L.new J).trans K5) B _ λY k=>?_;have k:=k (AA (.int r));rw[H.2.2.2.2]at k;∎;show⟨hz,k⟩
end
abbrev Fm.bf:Fm->List D
 |.way a=>[.str "way",a.d]|.lets t=>[.str "let",t.d]|.left b=>[.str "left",b.d]|.pr _=>[.str "pair"]|.ps t=>[.str "pair",t.d]
 |.first=>[.str "first"]|.second=>[.str "second"]|.c1 t _=>[.str "case",t.d]|.c2 t u=>[.str "case",t.d,u.d]
abbrev Fm.af:Fm->List D
 |.pr u=>[u.d]|.c1 _ v=>[v.d]|_=>[]
def bs5(f:Fm)c:D.tup (f.bf++[c.d]++f.af)=(f.fl c).d:=by cases f<;>rfl
def c40(f:Fm):f.bf.length<=3/\f.af.length<=1:=by cases f<;>simp[Fm.bf,Fm.af]
abbrev frD(f:Fm):D:=.tup [.tup f.bf,.tup f.af,.int (f.ix:Nat)]
abbrev Fg(f:Fm):Prop:=∀(c:Pg)(h:Nat),30<=h->c.kn 6->c.hgt<=h->(f.fl c).kn 6/\(f.fl c).hgt<=h+1
def bc2{a}{h}(b:∀f∈a,Fg f)(n:30<=h)(m:x.kn 6)(l:x.hgt<=h):(j8 a x).kn 6/\(j8 a x).hgt<=h+a.length:=by
 induction a with
 |nil=>show⟨m,l⟩
 |cons f a e=>
  let{j,i}:=e λg k=>b g (Ae _ k);show b f ∎ (j8 a x) (h+a.length) ⋯ j i
def Nms.app{Θ}{fs}(h:Nms Γ fs Δ)(h':Nms Δ gs Θ):Nms Γ (fs++gs) Θ:=by
 induction h with
 |nil=>show h'
 |cons a _ ih=>show .cons a (ih h')
def Pg.kn_mono{m'}(h:m<=m')(p:Pg):p.kn m->p.kn m':=by
 induction p<;>intro z
 case name|star=>trivial
 case pair a b|give a b|lets a b=>show{a z.1,b z.2}
 case case a b c=>show{a z.1,b z.2.1,c z.2.2}
 case first a|second a=>show a z
 case left a|right a|way a|never a=>show{Ap z.1 h,a z.2}
structure Shl(v:Wp)(gs:List Fm):Prop where
 nms:Nms v.Γ gs.reverse (v.w.names v.a v.Γ)
 len:gs.length<=2
 low:∀f∈gs,Fg f
def aw6{M:Nat}{k}{o h}{t}(g:Gr 3 Γ k o m h t)(a:m<=300):Fs t:=⟨⟨g.told,by have:=g.sz;lia⟩,by have:=g.sz;have:=be2 t;lia⟩
section
variable (T:P41 P G) (W:P43 P) 
include T W
def b93{k:Kd}(hn:60<=n)(N:Nmk v.Γ)(Z:v.a.sm)(A:v.a.ms<=18)(y:v.w.ok)(hk:k.gw 6)(X:k.nest<=8)(hw:st wa=AA (.lst v.d))(I:l9 st da)(q:∀gs l z,z l=AA (.lst (gs.map frD))->Shl v gs->l9 z da->Kp [da] st z->Q (.ref l) z):sem P G n "_law_shell" [.ref da,.ref wa,k.d] st Q:=by
 obtain⟨n,rfl⟩:∃m,n=m+1:={n-1,⋯};apply g9 W.shell rfl [AA (.ref da),AA (.ref wa),AA k.d,AD,AD,AD,AD,AD] rfl ?_;let{w,a,E}:=v;have O:=Kd.sm.gw (M:=3) ∅ Z;have V:=N.len;simp only at Z A y N na O V;∎;apply{_,.inl hw,rfl,?_};have x:∀{f:Fm}{l:AI}{s:Sto},Nms E [f] (w.names a E)->Fg f->l9 s da->Kp [da] st s->s l=AD->Q (.ref l) (b0 s l (.lst [frD f])):=λ{f l s}i p a b K=>q [f] l _ c8 {i,∎,λg a=>by rw[Ao.mp a];show p} (a.new K) (b.new K);have F:∀{f g:Fm}{l:AI}{s:Sto},Nms E [g,f] (w.names a E)->Fg f->Fg g->l9 s da->Kp [da] st s->s l=AD->Q (.ref l) (b0 s l (.lst [frD f,frD g])):=λ{f g l s}i p a b c K=>q [f,g] l _ c8 {i,∎,λe Y=>by
  rcases AM.mp Y with rfl|Y
  ·show p
  ·rw[Ao.mp Y];show a} (b.new K) (c.new K)
 have B:Fg .first:=λc h _ i p=>{i,by erw[Fm.fl,Pg.hgt];lia};have r:Fg .second:=λc h _ i p=>{i,by erw[Fm.fl,Pg.hgt];lia};have H:∀{b:Kd},b.sm->Ask 6 k (b::E) 3:=λa=>N.askC hk X ∅ ⋯;cases w with
 |way=>
  erw[Wp.d,Wr.word,Wr.oth,C8,List.set];(iterate 2 ∎);show λl o=>c7 (x (f:=.way a) (.cons (.way ⋯) .nil) (λc h _ i p=>{{⋯,i},by erw[Fm.fl,Pg.hgt];lia}) I Kp.refl o)
 |left=>
  erw[Wp.d,Wr.word,Wr.oth,C8,List.set];(iterate 4 ∎);show λl o=>c7 (x (f:=.left a) (.cons (.same λ_=>rfl) .nil) (λc h _ i p=>{{⋯,i},by erw[Fm.fl,Pg.hgt];lia}) I Kp.refl o)
 |lets=>
  erw[Wp.d,Wr.word,Wr.oth,C8,List.set];(iterate 3 ∎);apply{oy T.term,B7 T 4 ∅ (c:=18) ⋯ (N.ask O ⋯ ∅) A I λt S j D C=>?_};have U:t.hgt<=22:=j.hg;show λl o=>c7 (x (f:=.lets t) (.cons (.lets (aw6 (M:=3) j ∅) j.kn.kind) .nil) (λc h _ i p=>{{Pg.kn_mono ∅ t j.told,i},by erw[Fm.fl,Pg.hgt];lia}) D C o)
 |pair=>
  erw[Wp.d,Wr.word,Wr.oth,C8,List.set];(iterate 5 ∎);apply{oy T.term,B7 T 3 ∅ (c:=18) ⋯ (N.ask O ⋯ ∅) A I λt S j D C=>?_};have U:t.hgt<=21:=j.hg;show λl o=>c7 (F (f:=.pr t) (g:=.first) (.cons (.same λ_=>rfl) (.cons (.same λ_=>rfl) .nil)) (λc h _ i p=>{{i,Pg.kn_mono ∅ t j.told},by erw[Fm.fl,Pg.hgt];lia}) B D C o)
 |second=>
  erw[Wp.d,Wr.word,Wr.oth,C8,List.set];(iterate 6 ∎);apply{oy T.term,B7 T 3 ∅ (c:=18) ⋯ (N.ask O ⋯ ∅) A I λt S j D C=>?_};have U:t.hgt<=21:=j.hg;show λl o=>c7 (F (f:=.ps t) (g:=.second) (.cons (.same λ_=>rfl) (.cons (.same λ_=>rfl) .nil)) (λc h _ i p=>{{Pg.kn_mono ∅ t j.told,i},by erw[Fm.fl,Pg.hgt];lia}) r D C o)
 |yes b=>
  let{y,J}:=y;have nb:=y.2;erw[Wp.d,Wr.word,Wr.oth,C8,List.set];(iterate 6 ∎);apply{oy T.term,t9 (by simp;lia),B7 T 3 ∅ (Γ:=b::E) ⋯ (H y) (AR _) I λu S L D C=>?_};have U:u.hgt<=21:=L.hg;(iterate 2 ∎);apply{oy T.term,B7 T 4 ∅ (k:=.eith a b) (c:=40) ⋯ (N.ask (M:=3) {.inr {O,⋯},y} (by erw[Kd.nest];lia) ∅) (by erw[Kd.ms];lia) D λt a j I2 K2=>?_};have gh2:t.hgt<=22:=j.hg;show λl o=>c7 (x (f:=.c1 t u) (.cons (.c1 (aw6 (M:=3) j ∅) j.kn.kind) .nil) (λc h _ i p=>{{Pg.kn_mono ∅ t j.told,i,L.told},by erw[Fm.fl,Pg.hgt];lia}) I2 (C.trans K2) o)
 |no b=>
  let{y,J}:=y;have nb:=y.2;erw[Wp.d,Wr.word,Wr.oth,C8,List.set];(iterate 6 ∎);apply{oy T.term,t9 (by simp;lia),B7 T 3 ∅ (Γ:=b::E) ⋯ (H y) (AR _) I λu S L D C=>?_};have U:u.hgt<=21:=L.hg;(iterate 2 ∎);apply{oy T.term,B7 T 4 ∅ (k:=.eith b a) (c:=40) ⋯ (N.ask (M:=3) {.inr {Kd.sm.gw ∅ y,⋯},Z} (by erw[Kd.nest];lia) ∅) (by erw[Kd.ms];lia) D λt a j I2 K2=>?_};have gh2:t.hgt<=22:=j.hg;show λl o=>c7 (x (f:=.c2 t u) (.cons (.c2 (aw6 (M:=3) j ∅) j.kn.kind) .nil) (λc h _ i p=>{{Pg.kn_mono ∅ t j.told,L.told,i},by erw[Fm.fl,Pg.hgt];lia}) I2 (C.trans K2) o)
end
def c80{k:Kd}(c:v.a.sm)(g:k.gw 6)(j:k.nest<=6):(v.w.kd v.a k).gw 6/\(v.w.kd v.a k).nest<=max 2 k.nest+1:=by
 let{w,a,l}:=v;simp only at c na ⊢;cases w with
 |way=>show{{.inr c,λz=>by rw[z]at c;show c.1.elim,g},by erw[Wr.kd,Kd.nest];lia}
 |left=>show{{.inr ⟨g,j⟩,c},by erw[Wr.kd,Kd.nest];lia}
 |lets|pair|second|yes b|no b=>show{g,by erw[Wr.kd];lia}
section
variable (T:P41 P G) (W:P43 P) 
include W
def c34{k:Kd}(hw:st wa=AA (.lst v.d))(q:Q (v.w.kd v.a k).d st):sem P G (n+1) "_law_kind_about" [.ref wa,k.d] st Q:=by
 apply g9 W.kab rfl [AA (.ref wa),AA k.d] rfl ?_;let{w,a,Γ}:=v;∎;rw[o0 (.inl hw)];apply{_,rfl,?_};rfl';have l6:∀w:Wr,w.word≠"way"->st wa=AA (.lst (Wp.d ⟨w,a,Γ⟩))->Q (w.kd a k).d st->i9 (Zg P G n) (Y3.body.drop 1) (j9 Q) [AA (.ref wa),AA k.d] st:=λw hn hw q=>by
  ∎;rw[o0 (.inl hw)];apply{_,rfl,?_};cases w with
  |way=>show absurd rfl hn
  |left=>
   rfl';∎;rw[o0 (.inl hw)];show{_,rfl,c7 q}
  |lets|pair|second|yes b|no b=>
   erw[Wr.word];rfl';∎;show c7 q
 cases w with
 |way=>
  ∎;rw[o0 (.inl hw)];show{_,rfl,c7 q}
 |left|lets|pair|second|yes b|no b=>
  rfl';show l6 _ (of_decide_eq_true rfl) hw q
include T
def ca9{V:List Wp}{L:List AI}{A:AI}{k:Kd}(hn:62<=n)(B:st A=AA (.lst (L.reverse.map D.ref)))(N:A≠da)(S:Wst st L V)(C:Wch Γ V Δ)(hV:V.length<=4)(g:k.gw 6)(hk:k.nest<=3)(I:l9 st da)
  (q:∀(c:List Fm)(o:Kd)a,Nms Γ c Δ->(∀f∈c,Fg f)->c.length<=8->l9 a da->Kp [da] st a->Q (.tup [(j8 c x).d,(j8 c y).d,o.d,.tup (plD c)]) a):sem P G n "_law_about" [.ref da,.ref A,x.d,y.d,k.d] st Q:=by
 obtain⟨n,rfl⟩:∃m,n=m+2:={n-2,⋯};apply g9 W.about rfl [AA (.ref da),AA (.ref A),AA x.d,AA y.d,AA k.d,AD,AD,AD,AD,AD] rfl ?_;(iterate 2 ∎);apply{_,.inl B,?_};rw[<-Jj,FM];have F:∀{s:Sto},Kp [da] st s->rdS s A (L.reverse.map D.ref):=λK=>.inl (K.at' B (by simpa using N));apply B2 (λl e a=>∃(i:List AI)(U:List Wp)(J:List Kd)(c:List Fm)(o:Kd)(M z w t:Option D),l=i.map D.ref/\Wst a i U/\Wch Γ U J/\Nms J c Δ/\(∀f∈c,Fg f)/\c.length+2*U.length<=8/\o.gw 6/\o.nest+U.length<=7/\e=[AA (.ref da),AA (.ref A),AA (j8 c x).d,AA (j8 c y).d,AA o.d,AA (.tup (plD c)),M,z,w,t]/\l9 a da/\Kp [da] st a) ?_ ?_ _ _ _ {L,V,Δ,[],k,AD,AD,AD,AD,rfl,S,C,.nil,nofun,by simp;lia,g,⋯,rfl,I,Kp.refl}
 ·rintro e a ⟨i,U,J,c,o,M,z,w,t,el,S1,C1,N1,F1,l1,g1,_,rfl,I1,K1⟩;apply{F K1,?_};cases i with
  |cons b i=>cases el
  |nil=>
   cases U with
   |cons u U=>show S1.elim
   |nil=>
    cases C1;∎;show c7 (q c o a N1 F1 (by simpa using l1) I1 K1)
 ·rintro d ds e a ih ⟨i,U,J,c,o,M,z,w,t,el,S1,C1,N1,F1,l1,g1,n1,rfl,I1,K1⟩;apply{F K1,?_};cases i with
  |nil=>cases el
  |cons b i=>
   let{rfl,rfl}:=Ag el;cases C1 with
   |nil=>show S1.elim
   |@cons v U C2 Nv X mv wv=>
   erw[AT]at l1 n1;∎;apply{by rw[W.shell];rfl,b93 T W ⋯ Nv X mv wv g1 ⋯ S1.1 I1 λR l s2 O H I2 Z=>?_};rfl';apply{_,.inl O,?_};have Y:=Wst.keep I1 Z (as:=b::i) (V:=v::U) S1;have hlg:=H.len;apply B2 (λl' e s=>s=s2/\∃(r p:List Fm)(z w t:Option D),l'=p.map frD/\R=r++p/\e=[AA (.ref da),AA (.ref A),AA (j8 (r.reverse++c) x).d,AA (j8 (r.reverse++c) y).d,AA o.d,AA (.tup (plD (r.reverse++c))),AA (.ref b),z,w,t]) ?_ ?_ _ _ _ {rfl,[],R,_,_,_,rfl,rfl,rfl}
   ·rintro e s ⟨rfl,r,p,z,w,t,el,e1,rfl⟩;have er:p=[]:=by simpa using el.symm
    subst er;rw[BF]at e1;subst e1;apply{.inl O,?_};∎;apply{by rw[W.kab];rfl,c34 W Y.1 ?_};let{k1,k2}:=c80 X g1 ⋯;show ih _ _ {i,U,v.Γ,R.reverse++c,_,_,_,_,_,rfl,Y.2,C2,H.nms.app N1,λf E=>by
     rcases BD.mp E with E|E
     ·show H.low f (GE.mp E)
     ·show F1 f E,by simp;lia,k1,⋯,rfl,I2,K1.trans Z}
   ·rintro d ds' e s ih2 ⟨rfl,r,p,z,w,t,el,e1,rfl⟩;cases p with
    |nil=>cases el
    |cons f p=>
     let{rfl,rfl}:=Ag el;apply{.inl O,?_};let{f1,f2}:=c40 f;erw[frD];rfl';∎;apply{t9 (by simp;lia),t9 (by simp;lia),?_};∎;apply{t9 (by simp;lia),t9 (by simp;lia),?_};∎;have hle:r.length<=2:=by have:=congrArg BI e1;simp at this;lia
     apply{t9 (by simp[plD];lia),?_};rw[bs5,bs5];show ih2 _ _ {rfl,r++[f],p,_,_,_,rfl,by rw[e1];simp,by rw[Ef];rfl}
variable (O:PNo P G)
include O
def bz8(hn:66<=n)(N:Nmk Γ)(hl:Γ.length<=12)(I:l9 st da)
  (q:∀a(fs:List Fm)(w:String)(x y:Pg)(tt:D)(k:Kd)(Δ:List Kd)st',st a=AD->st' a=AA (.lst [(j8 fs x).d,(j8 fs y).d,k.d,stD fs w x y tt,.tup (Δ.map Kd.d)])->Nms Γ fs Δ->Nmk Δ->Stk Δ w x y tt->(∀f∈fs,Fg f)->fs.length<=8->l9 st' da->Kp [da] st st'->Q (.ref a) st'):sem P G n "_law_placed" [.ref da,.tup (Γ.map Kd.d)] st Q:=by
 obtain⟨n,rfl⟩:∃m,n=m+3:={n-3,⋯};apply g9 W.placed rfl [AA (.ref da),AA (.tup (Γ.map Kd.d)),AD,AD,AD,AD,AD,AD,AD,AD,AD,AD] rfl ?_;unfold Y5;∎;apply{oy T.word,ca4 T I λw s1 hw I1 K1=>?_};∎;apply{by rw[W.wrapped];rfl,oy T.next,E3 T ∅ I1 λr s2 r0 r1 I2 K2=>?_};let{r,rfl}:=BY r0;apply by4 T W ⋯ ⋯ N hl I2 λwl as V Δ s3 hwl hwd S C hV N3 I3 K3=>?_;have K3:=(K1.trans K2).trans K3;rfl';have l6:∀(w:String)(s4:Sto),(w∈ag0\/w∈af6)->(w="never"->∃l∈Δ,l.vd)->s4 wl=AA (.lst (as.reverse.map D.ref))->Wst s4 as V->l9 s4 da->Kp [da] st s4->i9 (Zg P G (n+2)) (Y5.body.drop 3) (j9 Q) [AA (.ref da),AA (.tup (Γ.map Kd.d)),AA (.str w),AA (.ref wl),AA (.tup (Δ.map Kd.d)),AD,AD,AD,AD,AD,AD,AD] s4:=by
  intro w s4 hw hv hwl S I4 K4;erw[Y5,Ss.drop];∎;apply{oy T.step,by rw[T.kind];rfl,G0 T 1 ⋯ ⋯ I4 λk s5 k1 k2 k3 I5 K5=>?_};apply b98 T ⋯ hw N3 hv {k1,⋯,⋯} I5 λx y tt s6 X I6 K6=>?_;have K6:=K5.trans K6;rfl';∎;let{c,kx,ky,cg,cn}:=X.kd;have px:=X.fx.parts;apply{by rw[W.about];rfl,oy O.ko,b31 O ⋯ ⋯ (λl hl=>Cp (N3.all l hl).2) (by have:=N3.len;lia) kx X.fx.kn λs7 K7=>?_};have hwl7:=K7.at' (K6.at' hwl (by simpa using hwd)) ∎;apply ca9 T W ⋯ hwl7 hwd (Wst.keep I6 (K7.more ∎) (Wst.keep I4 K6 S)) C hV (Kd.gd_gw ∅ cg cn) cn (I6.keep K7 ∎) λfs k' s8 Nf Ff lf I8 K8=>?_;rfl';∎;intro a ha;have K8:=(K4.trans K6).trans ((K7.more ∎).trans K8);have h0:st a=AD:=by
   cases e:st a with
   |none=>rfl
   |some o=>
    have hd:a≠da:=(I8.ne ha).symm;rw[K8.at' e (by simpa using hd)]at ha;cases ha
  show c7 (q a fs w x y tt k' Δ _ h0 c8 Nf N3 X Ff lf (I8.new ha) (K8.new ha))
 ∎;have len:=N3.len
 by_cases h:w="never"
 ·rw[if_pos h];subst h;apply{by simp;lia,?_};apply G1 (λl acc env s=>s=s3/\∃(cs bs:List Kd)(z:Option D),l=bs.map Kd.d/\Δ=cs++bs/\acc=cs.map (λc=>D.int c.cnt)/\env=[z]) ?_ ?_ _ _ _ _ {rfl,[],Δ,AD,rfl,rfl,rfl,rfl}
  ·rintro acc env s ⟨rfl,cs,bs,z,el,e1,rfl,rfl⟩;have eb:bs=[]:=by simpa using el.symm
   subst eb;rw[BF]at e1;apply{trivial,λp hp=>?_};have K4:Kp [da] st (b0 s p (.lst (cs.map λc=>D.int c.cnt))):=K3.new hp;apply{_,D9,rfl,?_,Av _,_,rfl,?_}
   ·have:∀l:List Kd,D.pures (l.map λc=>D.int c.cnt)=AC:=λl=>by induction l with|nil=>rfl|cons a l ih=>show ih
    show this cs
   by_cases h0:∃c∈cs,c.cnt=0
   ·let{c,hc,c0}:=h0;have ea:((cs.map λc=>D.int c.cnt).any λy=>deq y (.int 0))=AC:=GF.mpr {_,Ie hc,by rw[Z6,c0];rfl};rw[ea];rfl';apply l6 "never" _ hw (λ_=>{c,by rw[e1];show hc,?_}) (l8 hwl hp) (S.new hp) (I3.new hp) K4;show(N3.all c (by rw[e1];show hc)).1.resolve_left λz=>by have:=Kd.gd_pos z;lia
   ·have ea:((cs.map λc=>D.int c.cnt).any λy=>deq y (.int 0))=AF:=by
     rw[Bool.eq_false_iff];intro z;let{y,hy,e}:=any_eq_true.mp z;let{c,hc,rfl}:=CO.mp hy;rw[Z6]at e;show h0 {c,hc,by simpa using e}
    rw[ea];rfl';∎;show l6 "split" _ (.inr ∅) (λz=>absurd z ∅) (l8 hwl hp) (S.new hp) (I3.new hp) K4
  ·rintro d ds acc env s ih ⟨rfl,cs,bs,z,el,e1,rfl,rfl⟩;cases bs with
   |nil=>cases el
   |cons b bs=>
    let{rfl,rfl}:=Ag el;have hb:=N3.all b (by rw[e1];simp);apply{trivial,oy T.many,au6 rfl (R9 T b ⋯ ⋯ (Kd.wd2 hb.2) ?_)};show ih _ _ _ {rfl,cs++[b],bs,_,rfl,by rw[e1];simp,∎,rfl}
 ·rw[if_neg h];rfl';show l6 w s3 hw (λz=>absurd z h) hwl S I3 K3
end
abbrev jn(l:Pg)(is:List Pg):Pg:=is.foldr .pair l
abbrev pf(l:Pg):List Pg->Nat->List Fm
 |[],_=>[]
 |_::is,0=>[.pr (jn l is)]
 |p::is,k+1=>.ps p::pf l is k
theorem au5{p}:∀{is}{k},(is++[l])[k]?=AA p->jn l is=j8 (pf l is k) p
 |[],0,h=>by cases h;rfl
 |[],k+1,h=>by cases h
 |a::is,0,h=>by cases h;rfl
 |a::is,k+1,h=>congrArg (Pg.pair a) (au5 h)
theorem bo2{l y}:∀{is}{k},k<=is.length->∃b c,(is++[l]).set k y=b++[c]/\b.length=is.length/\jn c b=j8 (pf l is k) y
 |[],0,_=>{[],y,rfl,rfl,rfl}
 |[],k+1,h=>by simp at h
 |a::is,0,_=>{y::is,l,rfl,rfl,rfl}
 |a::is,k+1,h=>by
  let{b,c,f,e,d}:=bo2 (is:=is) (k:=k) (by simp_all);show{a::b,c,congrArg (a::·) f,congrArg (·+1) e,congrArg (Pg.pair a) d}
theorem av6{l:Pg}:∀{is:List Pg}{k:Nat},k<=is.length->plD (pf l is k)=Ab k (.int 1)++if k<is.length then [.int 0]else []
 |[],0,_=>rfl
 |[],k+1,h=>by simp at h
 |a::is,0,_=>rfl
 |a::is,k+1,h=>by
  have e:=av6 (l:=l) (is:=is) (k:=k) (by simp at h;lia);change D.int 1::plD (pf l is k)=_;rw[e,Ce,Br,AT]
  by_cases h:k<is.length
  ·rw[if_pos h,if_pos ⋯]
  ·rw[if_neg h,if_neg ⋯]
theorem at9:∀{a}{k},Nms Γ (pf l a k) Γ
 |[],_=>.nil
 |_::a,0=>.cons (.same λ_=>rfl) .nil
 |p::a,k+1=>.cons (.same λ_=>rfl) at9
theorem as5:∀{is}{k},(pf l is k).length<=is.length
 |[],_=>AR _
 |_::is,0=>by simp[pf]
 |p::is,k+1=>Bw as5
def bh9{a:List Fm}:plD (a++gs)=plD a++plD gs:=Ad
def aq3{fs}:j8 (fs++gs) x=j8 fs (j8 gs x):=List.foldr_append
theorem as9{l}{h}:∀{is},(∀p∈is++[l],p.kn 6/\p.hgt<=h)->(jn l is).kn 6/\(jn l is).hgt<=h+is.length
 |[],H=>H l ∎
 |a::is,H=>by
  let{d,f}:=as9 λp b=>H p (Ae _ b);let{c,e}:=H a ∎;show{⟨c,d⟩,by change 1+max a.hgt (jn l is).hgt<=_;simp;lia}
section
variable (W:P43 P) 
include W
def ap2{f:List Pg}(k:f.length=1\/f.length=2)(h:st a=AA (.lst ((f++[l]).map Pg.d)))(q:∀j,Kp [] st j->Q (jn l f).d j):sem P G (n+1) "_law_joined" [.ref a] st Q:=by
 apply g9 W.joined rfl [AA (.ref a),AD,AD] rfl ?_;have e:(∃b,f=[b])\/∃b c,f=[b,c]:=by
  match f,k with
  |[b],_=>show .inl ⟨b,rfl⟩
  |[b,c],_=>show .inr ⟨b,c,rfl⟩
  |[],k=>simp at k
  |_::_::_::_,k=>simp at k
 ∎;rw[o0 (.inl h)];apply{l.d,by rcases e with⟨b,rfl⟩|⟨b,c,rfl⟩<;>rfl,?_};∎;rw[ay1 (.inl h)];intro p r;have t:A9 ((f++[l]).map Pg.d) AD (AA (-1))=f.map Pg.d:=by rcases e with⟨b,rfl⟩|⟨b,c,rfl⟩<;>rfl
 rw[t];apply{p,_,rfl,D9,?_};apply B2 (λo i s=>s=b0 st p (.lst (f.map Pg.d))/\∃(g m:List Pg)(z:Option D),o=(g.map Pg.d).reverse/\f=g++m/\i=[AA (.ref a),AA (jn l m).d,z]) ?_ ?_ _ _ _ {rfl,f,[],AD,rfl,∎,rfl}
 ·rintro i s ⟨rfl,g,m,z,el,e1,rfl⟩;have u:g=[]:=by simpa using el.symm
  subst u;subst e1;apply{D9,?_};∎;show c7 (q _ (Kp.refl.new r))
 ·rintro d ds i s ih ⟨rfl,g,m,z,el,e1,rfl⟩;apply{D9,?_}
  rcases FA g with rfl|⟨g,b,rfl⟩
  ·cases el
  ·rw[FB]at el e1;rw[Ad,Ef]at el;let{rfl,rfl}:=Ag el;∎;show ih _ _ {rfl,g,b::m,_,rfl,by rw[e1];simp,rfl}
def as4{k:Nat}{a:List D}{b c d e:D}(r:k<3)(p:m<=3)(o:a.length<=100)(q:Q (.tup [.tup ((Ab k (.int 1)++if k+1<m then [.int 0]else [])++a),b,c,d,e]) st):sem P G (n+1) "_law_at" [.int k,.int m,.tup [.tup a,b,c,d,e]] st Q:=by
 apply g9 W.lat rfl [AA (.int k),AA (.int m),AA (.tup [.tup a,b,c,d,e]),AD] rfl ?_;unfold Y7;∎;apply{∎,⋯,⋯,t9 (by simp;lia),?_};have j:(Ab (k:Int).toNat [D.int 1]).flatten=Ab k (D.int 1):=by rw[Bx,DR]
 rw[j];∎;have f:∀g:List D,g=(Ab k (.int 1)++if k+1<m then [.int 0]else [])->g.length<=10->i9 (Zg P G n) (Y7.body.drop 2) (j9 Q) [AA (.int k),AA (.int m),AA (.tup [.tup a,b,c,d,e]),AA (.tup g)] st:=λg i l=>by
  erw[Y7,Ss.drop];∎;apply{t9 ⋯,∅,t9 (Nat.le_of_ble_eq_true rfl),?_};rw[i];show c7 q
 by_cases h:(k:Int)<(m:Int)-1
 ·rw[if_pos h];∎;apply{t9 (by simp;lia),f _ (by rw[if_pos ⋯]) (by simp;lia)}
 ·rw[if_neg h];rfl';show f _ (by rw[if_neg ⋯,BF]) (by simp;lia)
end
abbrev Std(d:D):Prop:=∃(fs:List Fm)(w:String)(x y:Pg)(tt:D),d=stD fs w x y tt/\(x.hgt<=80/\x.kn 3)/\(y.hgt<=80/\y.kn 3)/\(tt=.non\/∃c:Pg,tt=c.d/\c.hgt<=80/\c.kn 3)
def Std.bk{d}(h:Std d):Std (bkD d):=by
 let{f,w,x,y,a,rfl,e,c,b}:=h;show⟨f,w,y,x,a,rfl,c,e,b⟩
def Std.low{d:D}(h:Std d):d.pure=AC/\o9 d<=100:=by
 let{fs,w,x,y,tt,rfl,h1,h2,h3}:=h;have hp:D.pures (plD fs)=AC/\t0 (plD fs)<=1:=by
  induction fs with
  |nil=>show{rfl,∅}
  |cons f fs ih=>show{ih.1,by change max (o9 (.int _)) (t0 (plD fs))<=1;rw[T2];lia}
 have d1:=ab4 x h1.2;have d2:=ab4 y h2.2;have ht:tt.pure=AC/\o9 tt<=90:=by
  rcases h3 with rfl|⟨c,rfl,h4,h5⟩
  ·show{rfl,∅}
  ·show⟨Q1 c,by have:=ab4 c h5;lia⟩
 apply{by erw[P7,E9,M0,u6,Q1,hp.1,ht.1,Bm],?_};erw[A0,t0,w8];lia
def cn1(h:∀d∈ds,Std d):D.pures ds=AC/\t0 ds<=100:=by
 induction ds with
 |nil=>show{rfl,Av _}
 |cons d ds f=>
  let{j,l}:=(h d ∎).low;let{i,k}:=f λe g=>h e (Ae _ g);show{by rw[E9,j,i];rfl,by erw[t0];lia}
def Row.snoc{p}{fs}{w}{z}(h:Row Γ p ds z):z=j8 fs x->Sx Γ fs w x y tt->Row Γ p (ds++[stD fs w x y tt]) (j8 fs y):=by
 induction h with
 |nil=>intro e s;rw[e];show .cons s .nil
 |cons s _ d=>intro e b;show .cons s (d e b)
def Row.back{p z}(h:Row Γ p ds z):Row Γ z (ds.reverse.map bkD) p:=by
 induction h with
 |nil=>show .nil
 |@cons d w x y p a r s _ c=>
  rw[DH,Ad];show c.snoc (tt:=a) rfl s.symm
def ao8{b}(f:rdS st a ds)(e:rdS st b ds)(h:∀d∈ds,Std d)(q:Q (.bl AF) st):Q8 AC (.ref a) (.ref b) st Q:=by
 let{c,g}:=cn1 h;apply{ds,ds,f,e,c,c,by rw[aq2];lia,?_};rwa[SeqAt.eqvAll_refl _ (@Q2 {[],λ_ _ _ _=>True,AC} ds c)]
structure Pc where
 fs:List Fm
 w:String
 x:Pg
 y:Pg
 tt:D
 k:Kd
 Δ:List Kd
variable{cs:List Pc}
@[reducible]noncomputable def Pc.p(c:Pc):Pg:=j8 c.fs c.x
@[reducible]noncomputable def Pc.q(c:Pc):Pg:=j8 c.fs c.y
abbrev Pc.d(c:Pc):List D:=[c.p.d,c.q.d,c.k.d,stD c.fs c.w c.x c.y c.tt,.tup (c.Δ.map Kd.d)]
structure Pc.ok(Γ:List Kd)(c:Pc):Prop where
 nms:Nms Γ c.fs c.Δ
 nmk:Nmk c.Δ
 stk:Stk c.Δ c.w c.x c.y c.tt
 low:∀f∈c.fs,Fg f
 len:c.fs.length<=8
def Pc.ok.lows{c:Pc}(h:c.ok Γ):(c.p.kn 6/\c.p.hgt<=88)/\c.q.kn 6/\c.q.hgt<=88:=by
 have:=h.len;let{a1,a2}:=bc2 h.low ∅ (Pg.kn_mono ∅ _ h.stk.fx.kn) h.stk.hx;let{b1,b2}:=bc2 h.low ∅ (Pg.kn_mono ∅ _ h.stk.fy.kn) h.stk.hy;show{{a1,Ap a2 ⋯},b1,Ap b2 ⋯}
def Pc.ok.std{c:Pc}(h:c.ok Γ)fs:Std (stD fs c.w c.x c.y c.tt):={fs,c.w,c.x,c.y,c.tt,rfl,⟨h.stk.hx,h.stk.fx.kn⟩,⟨h.stk.hy,h.stk.fy.kn⟩,h.stk.th}
abbrev Pst(st:Sto)(as:List AI)(cs:List Pc):Prop:=as.length=cs.length/\∀(i:Nat)c,cs[i]?=AA c->∃a,as[i]?=AA a/\st a=AA (.lst c.d)
def Pst.keep(h:Pst st as cs)(K:Kp L st st')(f:∀b∈L,b∉as):Pst st' as cs:=⟨h.1,λi c e=>let⟨a,d,g⟩:=h.2 i c e;{a,d,K.at' g λz=>f a z (BE d)}⟩
def Pst.ne(h:Pst st as cs)(I:l9 st da):da∉as:=λz=>by
 let{i,f}:=CM.mp z;have m:=(AS.mp f).1;have d:i<cs.length:=by have:=h.1;lia
 let{a,g,b}:=h.2 i cs[i] (AH d);rw[f]at g;cases g;let{l,e}:=I;rw[e]at b;injection b with b
 injection b with b
 cases l with
 |nil=>cases b
 |cons x l=>
  injection b with b _
  cases c:cs[i].p<;>rw[c]at b<;>cases b
section
variable (T:P41 P G) (W:P43 P) (R:PW P) (B:PBk P G) (J:PNm P G) (O:PNo P G) 
include W R O
def b24{l0:Pg}(hn:40<=n)(N:Nmk Γ)(hl:Γ.length<=12)(hm:cs.length=2\/cs.length=3)(ok:∀c∈cs,c.ok Γ)(e0:p0++[l0]=cs.map Pc.p)(S:Pst st as cs)(hpa:st pa=AA (.lst (as.map D.ref))){a0 a1 a5 a6 a7 a8 a9 a10 a11 a12 a13 a15 a16 a17 a18:Option D}:
  i9 (Zg P G n) (E8.body.drop 16) (j9 λd _=>d=.bl AC) [a0,a1,AA (.tup (Γ.map Kd.d)),AA (.int cs.length),AA (.ref pa),a5,a6,a7,a8,a9,a10,a11,a12,a13,AA (jn l0 p0).d,a15,a16,a17,a18] st:=by
 obtain⟨n,rfl⟩:∃m,n=m+1:={n-1,⋯};have hp0:p0.length+1=cs.length:=by have:=congrArg BI e0;simpa using this
 erw[E8,Ss.drop];∎;apply{⋯,?_};apply B2 (λl env s=>Kp [] st s/\∃(i:Nat)(z8 z18:Option D),l=(t5 0 cs.length).drop i/\i<=cs.length/\env=[a0,a1,AA (.tup (Γ.map Kd.d)),AA (.int cs.length),AA (.ref pa),a5,a6,a7,z8,a9,a10,a11,a12,a13,AA (jn l0 p0).d,a15,a16,a17,z18]) ?_ ?_ _ _ _ {Kp.refl,0,_,_,rfl,Av _,rfl}
 ·rintro env s ⟨K,i,z8,z18,el,hi,rfl⟩;apply{trivial,?_};∎;show c7 rfl
 ·rintro d ds env s ih ⟨K,i,z8,z18,el,hi,rfl⟩;have hi':i<cs.length:=by
   have:=congrArg BI el;rw[Bz,B0,AT]at this;lia
  rw[BA (by rw[B0];lia)]at el;let{rfl,rfl}:=Ag el;have ed:(t5 0 cs.length)[i]'(by rw[B0];lia)=.int i:=by simp[t5]
  rw[ed];apply{trivial,?_};let{a,h1,h2}:=S.2 i cs[i] (AH hi');have hc:=ok _ (DE hi');have hlc:=hc.len;rfl';∎;apply{by rw[R.nma];rfl,by rw[W.lat];rfl,?_};rw[o0 (.inl (K.at' hpa ∎))];apply{.ref a,by rw[u0,AY,h1];rfl,?_};rw[o0 (.inl (K.at' h2 ∎))];apply{_,rfl,as4 W ⋯ ⋯ (by simp[plD];lia) ?_};rfl';have e1:(Ab i (D.int 1)++if i+1<cs.length then [.int 0]else [])++plD cs[i].fs=plD (pf l0 p0 i++cs[i].fs):=by
   rw[bh9,av6 ⋯]
   by_cases h:i<p0.length
   ·rw[if_pos h,if_pos ⋯]
   ·rw[if_neg h,if_neg ⋯]
  have e2:jn l0 p0=j8 (pf l0 p0 i++cs[i].fs) cs[i].x:=by
   rw[aq3];show au5 (by rw[e0,AY,AH hi'];rfl)
  rw[e1,e2];have hpl:=as5 (l:=l0) (is:=p0) (k:=i);apply bw8 R O ⋯ (λl hl=>Cp (N.all l hl).2) ⋯ (by rw[Af];lia) (at9.app hc.nms) λs2 K2=>?_;rfl';∎;apply .inl {"tuple",rfl,_,rfl,?_};rw[if_neg ∅];rw[o0 (.inl (K2.at' (K.at' hpa ∎) ∎))];apply{.ref a,by rw[u0,AY,h1];rfl,?_};rw[o0 (.inl (K2.at' (K.at' h2 ∎) ∎))];apply{_,rfl,?_};have hlit:(D.tup (cs[i].Δ.map Kd.d)).lit=AC:=Z2.mpr λd hd=>by let{k,_,rfl}:=CO.mp hd;show as8 k
  have hdp:∀l:List Kd,(∀k∈l,k.nest<=2)->t0 (l.map Kd.d)<=3:=λl=>by
   induction l with
   |nil=>intro _;show Av _
   |cons k l ih=>intro h;have:=ih λk hk=>h k (Ae _ hk);have:=h k ∎;erw[Ar,t0,G8];lia
  rw[bp9,Z3 hlit];apply{Z0 _ hlit,Z0 _ hlit,Ap (Dy _ _) (by rw[A0];have:=hdp cs[i].Δ λk hk=>(hc.nmk.all k hk).2;lia),?_};rfl';rw[<-e2];show ih _ _ {K.trans K2,i+1,_,_,rfl,hi',rfl}
end
abbrev wix(w:String):Nat:=
 if w="name" then 0 else if w="star" then 1 else if w="pair" then 2 else if w="first" then 3 else if w="second" then 4 else if w="left" then 5 else if w="right" then 6 else if w="case" then 7 else if w="way" then 8 else if w="give" then 9 else if w="let" then 10 else 11
def Pg.ix_w(p:Pg):p.ctorIdx=wix p.w:=by cases p<;>rfl
def Pg.ci{p q:Pg}(h:p.d=q.d):q.ctorIdx=p.ctorIdx:=by
 rw[Pg.d_w p 0,Pg.d_w q 0]at h;rw[p.ix_w,q.ix_w,A5.mp (D.str.inj (Ag (D.tup.inj h)).1)]
def ae8{a:Kd}(h:a.d=b.d):a=b:=of_decide_eq_true ((bn4 a b).symm.trans (h▸Z3 (as8 a)))
def tl2{w x a b:D}(h:D.tup [w,a]=.tup [x,b]):a=b:=(Ag (Ag (D.tup.inj h)).2).1
def tl3{w x a b c e:D}(h:D.tup [w,a,c]=.tup [x,b,e]):a=b/\c=e:={(Ag (Ag (D.tup.inj h)).2).1,(Ag (Ag (Ag (D.tup.inj h)).2).2).1}
def tl4{w x a b c e f g:D}(h:D.tup [w,a,c,f]=.tup [x,b,e,g]):a=b/\c=e/\f=g:={(Ag (Ag (D.tup.inj h)).2).1,(Ag (Ag (Ag (D.tup.inj h)).2).2).1,(Ag (Ag (Ag (Ag (D.tup.inj h)).2).2).2).1}
def Pg.d_inj{p:Pg}:∀{q:Pg},p.d=q.d->p=q:=by
 induction p with
 |name n=>show λh=>Pg.name.elim (motive:=λq=>(Pg.name n).d=q.d->Pg.name n=q) _ (Pg.ci h) (λm h=>congrArg Pg.name (Int.ofNat.inj (D.int.inj (tl2 h)))) h
 |star=>show λh=>Pg.star.elim (motive:=λq=>Pg.star=q) _ (Pg.ci h) rfl
 |pair t u a b=>show λh=>Pg.pair.elim (motive:=λq=>(Pg.pair t u).d=q.d->Pg.pair t u=q) _ (Pg.ci h) (λv w h=>congr (congrArg Pg.pair (a (tl3 h).1)) (b (tl3 h).2)) h
 |give t u a b=>show λh=>Pg.give.elim (motive:=λq=>(Pg.give t u).d=q.d->Pg.give t u=q) _ (Pg.ci h) (λv w h=>congr (congrArg Pg.give (a (tl3 h).1)) (b (tl3 h).2)) h
 |lets t u a b=>show λh=>Pg.lets.elim (motive:=λq=>(Pg.lets t u).d=q.d->Pg.lets t u=q) _ (Pg.ci h) (λv w h=>congr (congrArg Pg.lets (a (tl3 h).1)) (b (tl3 h).2)) h
 |first t a=>show λh=>Pg.first.elim (motive:=λq=>(Pg.first t).d=q.d->Pg.first t=q) _ (Pg.ci h) (λv h=>congrArg Pg.first (a (tl2 h))) h
 |second t a=>show λh=>Pg.second.elim (motive:=λq=>(Pg.second t).d=q.d->Pg.second t=q) _ (Pg.ci h) (λv h=>congrArg Pg.second (a (tl2 h))) h
 |left k t a=>show λh=>Pg.left.elim (motive:=λq=>(Pg.left k t).d=q.d->Pg.left k t=q) _ (Pg.ci h) (λv w h=>congr (congrArg Pg.left (ae8 (tl3 h).1)) (a (tl3 h).2)) h
 |right k t a=>show λh=>Pg.right.elim (motive:=λq=>(Pg.right k t).d=q.d->Pg.right k t=q) _ (Pg.ci h) (λv w h=>congr (congrArg Pg.right (ae8 (tl3 h).1)) (a (tl3 h).2)) h
 |way k t a=>show λh=>Pg.way.elim (motive:=λq=>(Pg.way k t).d=q.d->Pg.way k t=q) _ (Pg.ci h) (λv w h=>congr (congrArg Pg.way (ae8 (tl3 h).1)) (a (tl3 h).2)) h
 |never k t a=>show λh=>Pg.never.elim (motive:=λq=>(Pg.never k t).d=q.d->Pg.never k t=q) _ (Pg.ci h) (λv w h=>congr (congrArg Pg.never (ae8 (tl3 h).1)) (a (tl3 h).2)) h
 |case t u v a b c=>show λh=>Pg.case.elim (motive:=λq=>(Pg.case t u v).d=q.d->Pg.case t u v=q) _ (Pg.ci h) (λx y z h=>congr (congr (congrArg Pg.case (a (tl4 h).1)) (b (tl4 h).2.1)) (c (tl4 h).2.2)) h
def bi8{p:Pg}:deq p.d p.d=AC:=Z3 (V6 p)
def ce4{p q:Pg}(h:¬p=q):deq p.d q.d=AF:=b88 (V6 p) (V6 q) λe=>h (Pg.d_inj e)
section
variable (W:P43 P) (R:PW P) (B:PBk P G) (J:PNm P G) (O:PNo P G) 
def bn0(S:Pst st as cs)(hpa:st pa=AA (.lst (as.map D.ref)))(hl:cs.length<=3){Q:List D->Sto->Prop}(q:Q (cs.map λc=>c.p.d) st):(as.map D.ref).length<=1000000/\B6 (λst'=>rdS st' pa (as.map D.ref)) (.n 0) (L7 (Zg P G n) .non) (λenv st Q=>vR env[0]? λd=>ixR d (.int 0) st Q) Q (as.map D.ref) [] [AD] st:=by
 have hl2:=S.1;apply{by simp;lia,?_};apply G1 (λl acc env s=>s=st/\∃(i:Nat)(z:Option D),l=(as.map D.ref).drop i/\i<=cs.length/\acc=(cs.take i).map (λc=>c.p.d)/\env=[z]) ?_ ?_ _ _ _ _ {rfl,0,AD,rfl,Av _,rfl,rfl}
 ·rintro acc env s ⟨rfl,i,z,el,hi,rfl,rfl⟩;apply{.inl hpa,?_};have:i=cs.length:=by have:=congrArg BI el;simp at this;lia
  rw[this,Ep];show q
 ·rintro d ds acc env s ih ⟨rfl,i,z,el,hi,rfl,rfl⟩;have hi':i<cs.length:=by have:=congrArg BI el;simp at this;lia
  let{a,h1,h2}:=S.2 i cs[i] (AH hi');have ha:i<(as.map D.ref).length:=by simp;lia
  rw[BA ha]at el;let{rfl,rfl}:=Ag el;have ed:(as.map D.ref)[i]=.ref a:=by
   have:=AH ha;rw[AY,h1]at this;show(Ay this).symm
  rw[ed];apply{.inl hpa,?_};rfl';rw[o0 (.inl h2)];show{_,rfl,ih _ _ _ {rfl,i+1,_,rfl,hi',by rw[GO,AH hi',IT,Ad];rfl,rfl}}
def av8(e:x=y)(hx:x.kn 6/\x.hgt<=100)(q:Q (.bl AF) st):t6 .NotEq x.d y.d st Q:=by
 subst e;apply{Q1 x,Q1 x,Ap (Dy _ _) (by have:=ab4 x hx.1;lia),?_};rw[bi8];show q
include W R B J O
def cb2{ra:AI}{is:List Pg}{l0 l:Pg}(hn:50<=n)(N:Nmk Γ)(Y:Γ.length<=12)(hm:cs.length=2\/cs.length=3)(ok:∀c∈cs,c.ok Γ)(K:p0++[l0]=cs.map Pc.p)(S:Pst st as cs)(q:st pa=AA (.lst (as.map D.ref)))
  (g:st ra=AA (.lst ds)) (A:st na=AA (.lst ((is++[l]).map Pg.d))) (hi:is.length=p0.length) (s:ds.length<=5) (hr:Row Γ (jn l0 p0) ds (jn l is)) (I:∀d∈ds,Std d) (V:∀p∈is++[l],p.kn 6/\p.hgt<=88) {a0 a1 a7 a8 a9 a10 a11 a12 a13 a14 a15 a16 a17 a18:Option D} :
  i9 (Zg P G n) (E8.body.drop 9) (j9 λd _=>d=.bl AC) [a0,a1,AA (.tup (Γ.map Kd.d)),AA (.int cs.length),AA (.ref pa),AA (.ref ra),AA (.ref na),a7,a8,a9,a10,a11,a12,a13,a14,a15,a16,a17,a18] st:=by
 obtain⟨n,rfl⟩:∃m,n=m+1:={n-1,⋯};have hp0:p0.length+1=cs.length:=by have:=congrArg BI K;simpa using this
 have j1:(jn l0 p0).kn 6/\(jn l0 p0).hgt<=100:=by
  let{a,b}:=as9 (h:=88) (l:=l0) (is:=p0) λp hp=>by
   rw[K]at hp;let{c,hc,rfl}:=CO.mp hp;show(ok c hc).lows.1
  show{a,⋯}
 have j2:(jn l is).kn 6/\(jn l is).hgt<=100:=by
  let{a,b}:=as9 (h:=88) V;show{a,⋯}
 have j:∀k∈Γ,k.nest<=3:=λl Y=>Cp (N.all l Y).2;have i:∀d∈ds,∃a b c e f,d=.tup [a,b,c,e,f]:=λd s=>by
  let{fs,w,x,y,tt,rfl,_}:=I d s;show⟨_,_,_,_,_,rfl⟩
 have X:∀d∈ds.reverse.map bkD,Std d:=λd s=>by
  let{e,he,rfl}:=CO.mp s;show(I e (GE.mp he)).bk
 ∎;apply{by rw[W.joined];rfl,_,.inl q,bn0 S q ⋯ λa hc0=>?_};have e1:(cs.map λc=>c.p.d)=(p0++[l0]).map Pg.d:=by rw[K,CU];rfl
 rw[e1];apply ap2 W ⋯ c8 λU Q=>?_;have Q:Kp [] st U:=(Kp.refl.new hc0).trans Q;∎;apply{_,.inl (Q.at' g ∎),λha Z=>?_};have K2:Kp [] st (b0 U ha (.lst ds)):=Q.new Z;∎;apply{by rw[R.wlk];rfl,ao5 R B J O ⋯ j ⋯ c8 s hr λs3 H=>?_};have hh3:=H.at' (c8 (st:=U) (a:=ha) (o:=.lst ds)) ∎;have H:=K2.trans H;apply{by rw[W.joined];rfl,ap2 W ⋯ (H.at' A ∎) λT F=>?_};have r:=F.at' hh3 ∎;have F:=H.trans F;apply av8 rfl j2 ?_;rfl';apply ao8 (.inl r) (.inl (F.at' g ∎)) I ?_;rfl';∎;apply{by rw[R.rvs];rfl,bw2 R r ⋯ i λb hb=>?_};have E:b0 T b (.lst (ds.reverse.map bkD)) b=AA (.lst (ds.reverse.map bkD)):=c8;have C:=l8 (u:=.lst (ds.reverse.map bkD)) r hb;have K5:Kp [] st (b0 T b (.lst (ds.reverse.map bkD))):=F.new hb;generalize b0 T b (.lst (ds.reverse.map bkD))=s5 at E C K5 ⊢;∎;apply{_,.inl (K5.at' g ∎),λc hc=>{_,D9,by simp;lia,bp1 D9 (λd s=>i d (GE.mp s)) λe he=>?_}};have z:Kp [] s5 (b0 (b0 s5 c (.lst ds.reverse)) e (.lst (ds.reverse.map bkD))):=(Kp.refl.new hc).new he;have he6:b0 (b0 s5 c (.lst ds.reverse)) e (.lst (ds.reverse.map bkD)) e=AA (.lst (ds.reverse.map bkD)):=c8;have t:=z.at' E ∎;have hh6:=z.at' C ∎;have z:=K5.trans z;∎;rw[bq1 (.inl t)];rfl';apply ao8 (.inl t) (.inl he6) X ?_;rfl';apply ao8 (.inl hh6) (.inl (z.at' g ∎)) I ?_;rfl';∎;apply{by rw[R.wlk];rfl,by rw[W.joined];rfl,ap2 W ⋯ (z.at' A ∎) λs7 M=>?_};have hb7:=M.at' t ∎;have M:=z.trans M;apply ao5 R B J O ⋯ j ⋯ hb7 (by simp;lia) hr.back λs8 K8=>?_;have K8:=M.trans K8;rfl';apply av8 rfl j1 ?_;rfl';apply{by rw[R.wlk];rfl,λf hf=>?_};apply ao5 R B J O ⋯ j ⋯ c8 ∅ .nil λs9 L=>?_;have L:=(K8.new hf).trans L;apply av8 rfl j1 ?_;rfl';show b24 W R O ⋯ N Y hm ok K (S.keep L ∎) (L.at' q ∎)
end
section
variable (T:P41 P G) (W:P43 P) (R:PW P) (B:PBk P G) (J:PNm P G) (O:PNo P G) 
include T W R B J O
def ca5{ra:AI}{l0:Pg}(hn:50<=n)(N:Nmk Γ)(hl:Γ.length<=12)(hm:cs.length=2\/cs.length=3)(ok:∀c∈cs,c.ok Γ)(e0:p0++[l0]=cs.map Pc.p)(I:l9 st da)(S:Pst st as cs)(hpa:st pa=AA (.lst (as.map D.ref)))
  (hra:st ra=AA (.lst [])) (hna:st na=AA (.lst ((p0++[l0]).map Pg.d))) (h1:da≠ra) (h2:da≠na) (h3:ra≠na) (h4:pa∉[da,ra,na]) (h5:∀b∈[da,ra,na],b∉as) {a0 a7 a8 a9 a10 a11 a12 a13 a14 a15 a16 a17 a18:Option D} :
  i9 (Zg P G n) (E8.body.drop 8) (j9 λd _=>d=.bl AC) [a0,AA (.ref da),AA (.tup (Γ.map Kd.d)),AA (.int cs.length),AA (.ref pa),AA (.ref ra),AA (.ref na),a7,a8,a9,a10,a11,a12,a13,a14,a15,a16,a17,a18] st:=by
 obtain⟨n,rfl⟩:∃m,n=m+1:={n-1,⋯};have hp0:p0.length+1=cs.length:=by have:=congrArg BI e0;simpa using this
 erw[E8,Ss.drop];∎;apply{oy T.next,E3 T ∅ I λr s1 r0 r1 I1 K1=>?_};apply{_,rfl,{⋯,⋯},?_};have K1':=K1;have K1:Kp [da,ra,na] st s1:=K1.more ∎;apply B2 (λL env st'=>(∀d∈L,∃t:Nat,d=.int t)/\Kp [da,ra,na] st st'/\l9 st' da/\∃(ds:List D)(is:List Pg)(l:Pg)(z7 z8 z9 z10 z11 z12 z13:Option D),env=[a0,AA (.ref da),AA (.tup (Γ.map Kd.d)),AA (.int cs.length),AA (.ref pa),AA (.ref ra),AA (.ref na),z7,z8,z9,z10,z11,z12,z13,a14,a15,a16,a17,a18]/\st' ra=AA (.lst ds)/\st' na=AA (.lst ((is++[l]).map Pg.d))/\is.length=p0.length/\ds.length+L.length<=5/\Row Γ (jn l0 p0) ds (jn l is)/\(∀d∈ds,Std d)/\∀(i:Nat)c p,cs[i]?=AA c->(is++[l])[i]?=AA p->p=c.p\/p=c.q) ?_ ?_ _ _ _ ?_
 ·rintro env st' ⟨_,K,I,ds,is,l,z7,z8,z9,z10,z11,z12,z13,rfl,f1,f2,f3,f4,f5,f6,f7⟩;apply{trivial,?_};apply cb2 W R B J O (l0:=l0) (is:=is) (l:=l) ⋯ N hl hm ok e0 (S.keep K h5) (K.at' hpa h4) f1 f2 f3 (by simpa using f4) f5 f6 λp hp=>?_;let{i,hi}:=CM.mp hp;have hlt:i<cs.length:=by have:=(AS.mp hi).1;simp at this;lia
  have lw:=(ok _ (DE hlt)).lows
  rcases f7 i cs[i] p (AH hlt) hi with rfl|rfl
  ·show lw.1
  ·show lw.2
 ·rintro d L env st' ih ⟨hL,K,I,ds,is,l,z7,z8,z9,z10,z11,z12,z13,rfl,f1,f2,f3,f4,f5,f6,f7⟩;let{t,rfl}:=hL d ∎;erw[AT]at f4;apply{trivial,?_};rfl';∎;apply{oy T.next,E3 T ⋯ I λx s2 x0 x1 I2 K2=>?_};have K2':Kp [da,ra,na] st' s2:=K2.more ∎;have f1:=K2.at' f1 (by simpa using h1.symm);have f2:=K2.at' f2 (by simpa using h2.symm);have K:=K.trans K2';rfl';apply{⋯,?_};let{k,hk}:=BY (FD ((t:Int)+x) (show(cs.length:Int)≠0 by lia));have hkl:k<cs.length:=by have:=EI ((t:Int)+x) (show(0:Int)<cs.length by lia);lia
  rw[hk];let{a,g1,g2}:=S.2 k cs[k] (AH hkl);have ok':=ok _ (DE hkl);have hai:a∉[da,ra,na]:=λz=>h5 a z (BE g1);generalize hc:cs[k]=c at g2 ok';have hlc:=ok'.len;have hck:cs[k]?=AA c:=by rw[AH hkl,hc]
  ∎;rw[o0 (.inl (K.at' hpa h4))];apply{.ref a,by rw[u0,AY,g1];rfl,?_};rfl';apply{_,.inl (K.at' g2 hai),rfl,?_};erw[Pc.d,C8,List.set];obtain⟨p,hp⟩:∃p,(is++[l])[k]?=AA p:={_,AH (by simp;lia)};have hpc:=f7 k c p hck hp;have ejn:jn l is=j8 (pf l is k) p:=au5 hp;have hpf:=as5 (l:=l) (is:=is) (k:=k);have epl:∀fs:List Fm,(Ab k (D.int 1)++if k+1<cs.length then [.int 0]else [])++plD fs=plD (pf l is k++fs):=λfs=>by
   rw[bh9,av6 ⋯]
   by_cases h:k<is.length
   ·rw[if_pos h,if_pos ⋯]
   ·rw[if_neg h,if_neg ⋯]
  have nx:Nms Γ (pf l is k++c.fs) c.Δ:=at9.app ok'.nms;have lw:=ok'.lows;have go:∀(x y:Pg)(s':Sto),p=j8 c.fs x->(x=c.x/\y=c.y)\/(x=c.y/\y=c.x)->s' na=AA (.lst (((is++[l]).map Pg.d).set k (j8 c.fs y).d))->s' ra=AA (.lst (ds++[stD (pf l is k++c.fs) c.w x y c.tt]))->Kp [da,ra,na] s2 s'->∃(ds':List D)(is':List Pg)(l':Pg),s' ra=AA (.lst ds')/\s' na=AA (.lst ((is'++[l']).map Pg.d))/\is'.length=p0.length/\ds'.length+L.length<=5/\Row Γ (jn l0 p0) ds' (jn l' is')/\(∀d∈ds',Std d)/\∀(i:Nat)c p,cs[i]?=AA c->(is'++[l'])[i]?=AA p->p=c.p\/p=c.q:=by
   intro x y s' ep exy hna' hra' _;let{is',l',i1,i2,i3}:=bo2 (l:=l) (y:=j8 c.fs y) (is:=is) (k:=k) ⋯;have hsx:Sx Γ (pf l is k++c.fs) c.w x y c.tt:={{_,nx,by rcases exy with⟨rfl,rfl⟩|⟨rfl,rfl⟩;show .inl ok'.stk;show .inr ok'.stk},by rw[Af];lia,⋯};have hst:Std (stD (pf l is k++c.fs) c.w x y c.tt):=by
    rcases exy with⟨rfl,rfl⟩|⟨rfl,rfl⟩
    ·show ok'.std _
    ·show(ok'.std (pf l is k++c.fs)).bk
   apply{_,is',l',hra',by rw[hna',<-Kb,i1],⋯,by simp;lia,?_,λd hd=>?_,λi c' p' hc' hp'=>?_}
   ·rw[i3,<-aq3];show f5.snoc (by rw[ejn,ep,aq3]) hsx
   ·rcases BD.mp hd with hd|hd
    ·show f6 d hd
    ·rw[Ao.mp hd];show hst
   ·rw[<-i1]at hp'
    by_cases h:i=k
    ·subst h;rw[Em (by simp;lia)]at hp';rw[hck]at hc';cases hp';cases hc'
     rcases exy with⟨rfl,rfl⟩|⟨rfl,rfl⟩
     ·show .inr rfl
     ·show .inl rfl
    ·rw[FK (Ax h)]at hp';show f7 i c' p' hc' hp'
  have pl:p.kn 6/\p.hgt<=88:=by rcases hpc with rfl|rfl;show lw.1;show lw.2
  ∎;rw[o0 (.inl f2)];apply{p.d,by rw[u0,AY,hp];rfl,?_};rw[aw7];apply{Q1 p,Q1 _,Ap (Dy _ _) (by have:=ab4 p pl.1;lia),?_}
  by_cases e:p=c.p
  ·rw[show deq p.d c.p.d=AC from e▸bi8];rfl';∎;rw[y6 (.inl f1)];apply{trivial,by rw[W.lat];rfl,as4 W ⋯ ⋯ (by simp[plD];lia) ?_};rw[epl,D2 f1];apply{B8 ⋯,?_};∎;apply{na,_,k,_,rfl,rfl,c9 f2 (Ax h3),by unfold ixN;rw[if_pos ⋯,if_pos (by rw[AX];simp;lia)];simp,?_};rfl';let{ds',is',l',o1,o2,o3,o4,o5,o6,o7}:=go c.x c.y _ e (.inl ⟨rfl,rfl⟩) c8 (c9 c8 h3) ((Kp.refl.put ∎).put ∎);show ih _ _ ⟨λd hd=>hL d (Ae _ hd),K.trans ((Kp.refl.put ∎).put ∎),let⟨z,hz⟩:=I2;{z,c9 (c9 hz h1) h2},ds',is',l',_,_,_,_,_,_,_,rfl,o1,o2,o3,o4,o5,o6,o7⟩
  ·rw[ce4 e];rfl';∎;rw[y6 (.inl f1)];apply{trivial,by rw[W.lat];rfl,_,rfl,as4 W ⋯ ⋯ (by simp[plD];lia) ?_};rw[epl,D2 f1];apply{B8 ⋯,?_};∎;apply{na,_,k,_,rfl,rfl,c9 f2 (Ax h3),by unfold ixN;rw[if_pos ⋯,if_pos (by rw[AX];simp;lia)];simp,?_};rfl';let{ds',is',l',o1,o2,o3,o4,o5,o6,o7}:=go c.y c.x _ (hpc.resolve_left e) (.inr ⟨rfl,rfl⟩) c8 (c9 c8 h3) ((Kp.refl.put ∎).put ∎);show ih _ _ ⟨λd hd=>hL d (Ae _ hd),K.trans ((Kp.refl.put ∎).put ∎),let⟨z,hz⟩:=I2;{z,c9 (c9 hz h1) h2},ds',is',l',_,_,_,_,_,_,_,rfl,o1,o2,o3,o4,o5,o6,o7⟩
 ·apply{λd hd=>?_,K1,I1,[],p0,l0,_,_,_,_,_,_,_,rfl,K1'.at' hra (by simpa using h1.symm),K1'.at' hna (by simpa using h2.symm),rfl,by rw[B0];simp;lia,.nil,nofun,λi c p hc hp=>?_}
  ·erw[t5,CO]at hd;let{i,_,rfl}:=hd;show{i,∎}
  ·rw[e0,AY,hc]at hp;cases hp;show .inl rfl
end
def cp2(T:P41 P G)(W:P43 P)(R:PW P)(B:PBk P G)(J:PNm P G)(O:PNo P G)(hlw:P "law"=AA E8){ns:List Int}(hn:80<=n)(hns:ns.length<=63)(h:rdS st a (ns.map D.int)):sem P G n "law" [.ref a] st λd _=>d=.bl AC:=by
 obtain⟨n,rfl⟩:∃m,n=m+3:={n-3,⋯};apply g9 hlw rfl [AA (.ref a),AD,AD,AD,AD,AD,AD,AD,AD,AD,AD,AD,AD,AD,AD,AD,AD,AD,AD] rfl ?_;have parts:∀(Γ:List Kd)(s:Sto)(da:AI),Nmk Γ->Γ.length<=12->l9 s da->i9 (Zg P G (n+2)) (E8.body.drop 4) (j9 λd _=>d=.bl AC) [AA (.ref a),AA (.ref da),AA (.tup (Γ.map Kd.d)),AD,AD,AD,AD,AD,AD,AD,AD,AD,AD,AD,AD,AD,AD,AD,AD] s:=by
  intro Γ s da N hl I;∎;apply{oy T.next,E3 T ∅ I λr s1 r0 r1 I1 K1=>?_};let{r,rfl}:=BY r0;have em:(2:Int)+(r:Int)=((2+r:Nat):Int):=by lia
  rfl';rw[em];∎;apply{{⋯,⋯},by rw[B0];lia,?_};apply G1 (λl acc env st'=>∃(as:List AI)(cs:List Pc)(z:Option D),acc=as.map D.ref/\Pst st' as cs/\(∀c∈cs,c.ok Γ)/\cs.length+l.length=2+r/\env=[AA (.ref da),AA (.tup (Γ.map Kd.d)),z]/\l9 st' da) ?_ ?_ _ _ _ _ {[],[],AD,rfl,⟨rfl,nofun⟩,nofun,by rw[B0];erw[Aq];lia,rfl,I1}
  ·rintro acc env s2 ⟨as,cs,z,rfl,S,ok,hlen,rfl,I2⟩;erw[Aq,LA]at hlen;rw[<-hlen];apply{trivial,λpa hpa=>?_};have S3:=S.keep (L:=[]) (Kp.refl.new (o:=.lst (as.map D.ref)) hpa) ∎;have I3:=I2.new (u:=.lst (as.map D.ref)) hpa;have p3:b0 s2 pa (.lst (as.map D.ref)) pa=AA (.lst (as.map D.ref)):=c8;generalize b0 s2 pa (.lst (as.map D.ref))=s3 at S3 I3 p3 ⊢;∎;intro ra hra;have K4:Kp [] s3 (b0 s3 ra (.lst [])):=Kp.refl.new hra;have S4:=S3.keep K4 ∎;have I4:=I3.new (u:=.lst []) hra;have p4:=K4.at' p3 ∎;have r4:b0 s3 ra (.lst []) ra=AA (.lst []):=c8;have hdr:=I3.ne hra;have hpr:=n8 p3 hra;have har:ra∉as:=λz=>by
    let{i,hi}:=CM.mp z;have hl':i<cs.length:=by have:=(AS.mp hi).1;have:=S3.1;lia
    let{b,g1,g2}:=S3.2 i cs[i] (AH hl');rw[hi]at g1;cases g1;rw[hra]at g2;cases g2
   generalize b0 s3 ra (.lst [])=s4 at S4 I4 p4 r4 ⊢;∎;apply{_,.inl p4,bn0 S4 p4 ⋯ λna hna=>?_};have e1:(cs.map λc=>c.p.d)=(cs.map Pc.p).map Pg.d:=by rw[CU];rfl
   rw[e1];obtain⟨p0,l0,e0⟩:∃p0 l0,p0++[l0]=cs.map Pc.p:=by
    rcases FA (cs.map Pc.p)with z|⟨p0,l0,z⟩
    ·have z:=congrArg BI z;rw[AX]at z;erw[Aq]at z;lia
    ·show{p0,l0,by rw[z,FB]}
   rw[<-e0];have K5:Kp [] s4 (b0 s4 na (.lst ((p0++[l0]).map Pg.d))):=Kp.refl.new hna;have han:na∉as:=λz=>by
    let{i,hi}:=CM.mp z;have hl':i<cs.length:=by have:=(AS.mp hi).1;have:=S4.1;lia
    let{b,g1,g2}:=S4.2 i cs[i] (AH hl');rw[hi]at g1;cases g1;rw[hna]at g2;cases g2
   apply ca5 T W R B J O ⋯ N hl ⋯ ok e0 (I4.new hna) (S4.keep K5 ∎) (K5.at' p4 ∎) (K5.at' r4 ∎) c8 hdr (I4.ne hna) (n8 r4 hna) ?_ ?_
   ·erw[AM,Ah,or_false,not_or];show{(I2.ne hpa).symm,hpr,n8 p4 hna}
   ·intro b hb;erw[AM,Ah,or_false]at hb
    rcases hb with rfl|rfl|rfl
    ·show S4.ne I4
    ·show har
    ·show han
  ·rintro d ds acc env s2 ih ⟨as,cs,z,rfl,S,ok,hlen,rfl,I2⟩;erw[AT]at hlen;rfl';apply{by rw[W.placed];rfl,bz8 T W O ⋯ N hl I2 λb fs w x y tt k Δ s3 hb0 hb Nf Nd X Ff lf I3 K3=>?_};have hbd:=S.ne I2;apply ih _ _ _ {as++[b],cs++[⟨fs,w,x,y,tt,k,Δ⟩],_,∎,{by simp[S.1],λi c hc=>?_},λc hc=>?_,by simp;lia,rfl,I3}
   ·by_cases hi:i<cs.length
    ·rw[AZ hi]at hc;let{e,g1,g2}:=S.2 i c hc;show{e,by rw[AZ (by have:=S.1;lia)];show g1,K3.at' g2 λz=>hbd (by rw[<-Ao.mp z];show BE g1)}
    ·have hi':i=cs.length:=by
      have:=(AS.mp hc).1;simp at this;lia
     subst hi';rw[Dx]at hc;cases hc;show{b,by rw[<-S.1,Dx],hb}
   ·rcases BD.mp hc with hc|hc
    ·show ok c hc
    ·rw[Ao.mp hc];show⟨Nf,Nd,X,Ff,lf⟩
 ∎;apply{oy T.deck,b36 T hns h λda s1 I1 K1=>?_};∎;apply{oy T.next,E3 T ∅ I1 λr s2 r0 r1 I2 K2=>?_};rfl';apply{{⋯,⋯},by rw[B0];lia,?_};apply G1 (λl acc env st'=>∃(Γ:List Kd)(x:Option D),acc=Γ.map Kd.d/\Nmk Γ/\Γ.length+l.length<=3/\env=[AA (.ref da),x]/\l9 st' da) ?_ ?_ _ _ _ _ {[],AD,rfl,{nofun,Av _},by rw[B0];erw[Aq];lia,rfl,I2}
 ·rintro acc env st' ⟨Γ,x,rfl,N,hl,_,I3⟩;apply{trivial,λp hp=>?_};erw[Aq]at hl;have ones:∀(Γ:List Kd)(s:Sto),Nmk Γ->Γ.length<=4->l9 s da->i9 (Zg P G (n+2)) (E8.body.drop 3) (j9 λd _=>d=.bl AC) [AA (.ref a),AA (.ref da),AA (.tup (Γ.map Kd.d)),AD,AD,AD,AD,AD,AD,AD,AD,AD,AD,AD,AD,AD,AD,AD,AD] s:=by
   intro Γ s N hl I;erw[E8,Ss.drop];∎;apply{oy T.next,E3 T ∅ I λy s3 y0 y1 I3 K3=>?_};rfl'
   by_cases h:y=0
   ·rw[if_pos h];∎;apply{oy T.next,E3 T ∅ I3 λz s4 z0 z1 I4 K4=>?_};let{z,rfl}:=BY z0;have e7:(3+(z:Int)).toNat=3+z:=by lia
    apply{∎,⋯,⋯,t9 (by erw[AT,Aq];lia),?_};rfl';have e:(Ab (3+(z:Int)).toNat [D.tup [.str "one"]]).flatten++Γ.map Kd.d=(Ab (3+z) Kd.one++Γ).map Kd.d:=by rw[e7,DR,Ad,List.map_replicate];rfl
    apply{t9 (by rw[e7,DR,DG,AX];lia),?_};rw[e];apply parts _ s4 da {λl hl'=>?_,by erw[Af,DG];lia} (by erw[Af,DG];lia) I4
    rcases BD.mp hl' with z|z
    ·rw[(List.mem_replicate.mp z).2];show{.inl trivial,∅}
    ·show N.all l z
   ·rw[if_neg h];rfl';show parts Γ s3 da N ⋯ I3
  ∎;apply{oy T.next,E3 T ∅ (I3.new hp) λy s3 y0 y1 I4 K4=>?_};rfl'
  by_cases h:y=0
  ·rw[if_pos h];∎;have ec:A9 (Γ.map Kd.d) AD (AA 1)=(Γ.take 1).map Kd.d:=by rw[Ln];show cq8 (k:=1)
   rw[ec];apply{oy T.void,b45 T I4 λk s4 vk I5 K5=>?_};apply{t9 (by simp;lia),?_};have e:(Γ.take 1).map Kd.d++[k.d]=(Γ.take 1++[k]).map Kd.d:=by simp
   rw[e];apply ones _ s4 {λl hl=>?_,by simp;lia} (by simp;lia) I5
   rcases BD.mp hl with z|z
   ·show N.all l (List.mem_of_mem_take z)
   ·rw[Ao.mp z];show{.inr vk,cj3 vk}
  ·rw[if_neg h];rfl';show ones Γ s3 N ⋯ I4
 ·rintro d ds acc env st' ih ⟨Γ,x,rfl,N,hl,rfl,I3⟩;erw[AT]at hl;rfl';apply{oy T.kind,G0 T 1 ⋯ ⋯ I3 λk s3 k1 k2 k3 I4 K4=>?_};apply ih _ _ _ {Γ++[k],_,∎,{λl hl'=>?_,by erw[Af,AT,Aq];lia},by erw[Af,AT,Aq];lia,rfl,I4}
  rcases BD.mp hl' with z|z
  ·show N.all l z
  ·rw[Ao.mp z];show{.inl k1,⋯}
def dn6:P41 N8 v5:=by constructor<;>rfl
def dk6:PBk N8 v5:=by constructor<;>rfl
def dm4:PW N8:=by constructor<;>rfl
def dn4:P43 N8:=by constructor<;>rfl
def dl7:PNm N8 v5:=by
 repeat' (first|rfl|(done)|constructor)
def dm8:PNo N8 v5:=by
 repeat' (first|rfl|(intro z;cases z)|constructor)
def b15(a:AI)(ns:List Int)(h:ns.length<=63):sem N8 v5 100 "law" [.ref a] (st0 a ns) λd _=>d=.bl AC:=
 cp2 dn6 dn4 dm4 dk6 dl7 dm8 rfl ∅ h (.inr (by unfold st0;rw[if_pos rfl]))
end
abbrev top(i:Nat):BR:=PySem.Challenge.pw_evenkinds_k43_rows_walked.main.body.getD i (.Pass {0,0,0,0})
abbrev mth(i k:Nat):BR:=match top i with|.ClassDef _ _ _ b _ _ _ _ _ _ _=>b.getD k (.Pass ⟨0,0,0,0⟩)|_=>.Pass ⟨0,0,0,0⟩
def bs8:Stat0 (mth 16 2) Y4 ["self","kind","deep"]:={{rfl,rfl,rfl,by decide+kernel,rfl,by decide+kernel,by decide+kernel},rfl,rfl}
def co3{pr:Al}{w:Aw}{K:AO}{h:Heap}{mg:Str->Option AG}{ts:List AI}(X:K.In h)(G:h.Ns AN mg){g0:AI}{g1:AI}{g2:AI}{g3:AI}{ku0:AG}{ku1:AG}{C0:AI}{C1:AI}
  (a0:FnA K ts AF "made_of_parts" (top 8))
  (a1:FnA K ts AF "order_of_few" (top 9))
  (a2:FnA K ts AF "taken" (top 11))
  (a3:FnA K ts AF "are_alike" (top 17))
  (a4:FnA K ts AF "inner" (top 21))
  (a5:FnA K ts AF "with_inner" (top 22))
  (a6:FnA K ts AF "names_more" (top 23))
  (a7:FnA K ts AF "at_place" (top 24))
  (a8:FnA K ts AF "replaced" (top 25))
  (a9:FnA K ts AC "noded" (top 27))
  (a10:FnA K ts AF "folded" (top 30))
  (a11:FnA K ts AF "kind_of" (top 32))
  (a12:FnA K ts AF "shelved_names" (top 33))
  (a13:FnA K ts AF "shelved_kind" (top 34))
  (a14:FnA K ts AC "kind_of_node" (top 35))
  (a15:FnA K ts AF "kind_by_parts" (top 36))
  (a16:FnA K ts AF "new_name" (top 37))
  (a17:FnA K ts AF "halves_of" (top 38))
  (a18:FnA K ts AF "kind_of_name" (top 39))
  (a19:FnA K ts AF "kind_of_star" (top 40))
  (a20:FnA K ts AF "kind_of_pair" (top 41))
  (a21:FnA K ts AF "kind_of_first" (top 42))
  (a22:FnA K ts AF "kind_of_second" (top 43))
  (a23:FnA K ts AF "kind_of_left" (top 44))
  (a24:FnA K ts AF "kind_of_right" (top 45))
  (a25:FnA K ts AF "kind_of_case" (top 46))
  (a26:FnA K ts AF "kind_of_way" (top 47))
  (a27:FnA K ts AF "kind_of_give" (top 48))
  (a28:FnA K ts AF "kind_of_let" (top 49))
  (a29:FnA K ts AF "kind_of_never" (top 50))
  (a30:FnA K ts AC "lifted" (top 53))
  (a31:FnA K ts AC "put_in" (top 54))
  (a32:FnA K ts AF "copy_under" (top 55))
  (a33:FnA K ts AC "with_parts" (top 56))
  (a34:FnA K ts AF "inner_under" (top 57))
  (a35:FnA K ts AF "is_step_over" (top 60))
  (a36:FnA K ts AF "forth_let" (top 61))
  (a37:FnA K ts AF "forth_give" (top 62))
  (a38:FnA K ts AF "forth_first" (top 63))
  (a39:FnA K ts AF "forth_second" (top 64))
  (a40:FnA K ts AF "forth_left" (top 65))
  (a41:FnA K ts AF "forth_right" (top 66))
  (a42:FnA K ts AF "forth_star" (top 67))
  (a43:FnA K ts AF "forth_pair" (top 68))
  (a44:FnA K ts AF "forth_way" (top 69))
  (a45:FnA K ts AF "forth_split" (top 70))
  (a46:FnA K ts AF "split" (top 71))
  (a47:FnA K ts AF "forth_never" (top 72))
  (a48:FnA K ts AF "names_at" (top 75))
  (a49:FnA K ts AF "known_at" (top 76))
  (a50:FnA K ts AF "walked" (top 77))
  (a51:FnA K ts AF "leads_on" (top 78))
  (a52:FnA K ts AF "reverse" (top 79))
  (a53:FnA K ts AF "_law_deck" (top 81))
  (a54:FnA K ts AF "_law_next" (top 82))
  (a55:FnA K ts AF "_law_kind" (top 83))
  (a56:FnA K ts AF "_law_many" (top 84))
  (a57:FnA K ts AF "_law_plain" (top 85))
  (a58:FnA K ts AF "_law_made" (top 86))
  (a59:FnA K ts AF "_law_taken" (top 87))
  (a60:FnA K ts AF "_law_term" (top 88))
  (a61:FnA K ts AF "_law_under" (top 89))
  (a62:FnA K ts AF "_law_lift" (top 90))
  (a63:FnA K ts AF "_law_put" (top 91))
  (a64:FnA K ts AF "_law_two" (top 92))
  (a65:FnA K ts AF "_law_void" (top 93))
  (a66:FnA K ts AF "_law_nothing" (top 94))
  (a67:FnA K ts AF "_law_spread" (top 95))
  (a68:FnA K ts AF "_law_step" (top 96))
  (a69:FnA K ts AF "_law_word" (top 97))
  (a70:FnA K ts AF "_law_wrapped" (top 99))
  (a71:FnA K ts AF "_law_shell" (top 100))
  (a72:FnA K ts AF "_law_kind_about" (top 101))
  (a73:FnA K ts AF "_law_about" (top 102))
  (a74:FnA K ts AF "_law_placed" (top 103))
  (a75:FnA K ts AF "_law_joined" (top 104))
  (a76:FnA K ts AF "_law_at" (top 105))
  (a77:FnA K ts AF "law" (top 106))
  (bb:∀b∈U9,BB K AN b=AA AD)
  (ga0:BB K AN "INNER_FROM"=AA (AA (.ref g0))) (gt0:(letI:Tbs:={ts,mFB,(v5.cls "!kt").isEmpty};W5 K g0 (v5.tab "INNER_FROM"))=AC)
  (ga1:BB K AN "UNDER_ONE_MORE"=AA (AA (.ref g1))) (gt1:(letI:Tbs:={ts,mFB,(v5.cls "!kt").isEmpty};W5 K g1 (v5.tab "UNDER_ONE_MORE"))=AC)
  (ga2:BB K AN "BY_WORD"=AA (AA (.ref g2))) (gt2:(letI:Tbs:={ts,mFB,(v5.cls "!kt").isEmpty};W5 K g2 (v5.tab "BY_WORD"))=AC)
  (ga3:BB K AN "FORTH"=AA (AA (.ref g3))) (gt3:(letI:Tbs:={ts,mFB,(v5.cls "!kt").isEmpty};W5 K g3 (v5.tab "FORTH"))=AC)
  (kc0:BB K AN "FEW"=AA (AA ku0)) (kv0:(letI:Tbs:={ts,mFB,(v5.cls "!kt").isEmpty};O6 K (.int 2000) ku0)=AC)
  (kc1:BB K AN "WORDS"=AA (AA ku1)) (kv1:(letI:Tbs:={ts,mFB,(v5.cls "!kt").isEmpty};O6 K (.ktup [.inr "let",.inr "give",.inr "first",.inr "second",.inr "left",.inr "right",.inr "star",.inr "pair",.inr "way",.inr "split",.inr "never"]) ku1)=AC)
  (kx0:BB K AN "!kt"=AA AD)
  (ky0:BB K AN "!Shelf.laid_kind"=AA AD)
  (ca0:ClA K "Shelf" C0)
  (ca1:ClA K "Node" C1) (cf0_0:Bc K (.ref C0) "numbers"=AA AD) (cf0_1:Bc K (.ref C0) "stored"=AA AD) (cf0_2:Bc K (.ref C0) "parts"=AA AD) (cf0_3:Bc K (.ref C0) "waiting"=AA AD) (cf1_0:Bc K (.ref C1) "program"=AA AD) (cf1_1:Bc K (.ref C1) "inside"=AA AD) (cf1_2:Bc K (.ref C1) "number"=AA AD) (cf1_3:Bc K (.ref C1) "holders"=AA AD) (cf1_4:Bc K (.ref C1) "ways"=AA AD) (cf1_5:Bc K (.ref C1) "used"=AA AD) (cf1_6:Bc K (.ref C1) "kind"=AA AD)
  (m0:MtA K ts AF "Shelf" C0 "__init__" (mth 16 0))
  (m1:MtD K "Shelf" C0 "laid_kind" (mth 16 2) 3)
  (m2:MtA K ts AF "Shelf" C0 "built" (mth 16 3))
  (m3:MtA K ts AF "Shelf" C0 "numbered" (mth 16 4))
  (m4:MtA K ts AF "Shelf" C0 "put_by" (mth 16 5))
  (m5:MtA K ts AF "Shelf" C0 "taken_up" (mth 16 6))
  (m6:MtA K ts AF "Shelf" C0 "tuple_at" (mth 16 7))
  (m7:MtA K ts AF "Shelf" C0 "word_at" (mth 16 8))
  (m8:MtA K ts AF "Shelf" C0 "within" (mth 16 9))
  (m9:MtA K ts AF "Node" C1 "__init__" (mth 26 0)) (nl:V1 K=AC) (nt:JL K=AC) (tso:ax0 K ts=AC) :
  (letI:Tbs:={ts,mFB,(v5.cls "!kt").isEmpty};AllOk pr w K mg N8 v5)/\V1 K=AC/\JL K=AC/\∀P∈ts,∃c,CS K c P=AC:=by
 letI:Tbs:={ts,mFB,(v5.cls "!kt").isEmpty}
 apply{{λf d hf hi=>?_,λf d hf hi=>?_,λf c Ca hn hf=>?_,λb hb=>W.mg_none_of X G (bb b hb),λg hg=>?_,λg i hg=>?_,λc hc=>?_,rfl},nl,nt,cf3 tso}
 ·
  apply(?_:∀f d,(f,d)∈aa1->isM f=AF->DefOk K mg (C6 v5.cls f) f d) f d (PySem.mem_of_lookup hf) hi;unfold aa1
  iterate 10 apply i8 (λhi=>absurd hi (by decide+kernel)) ?_
  apply i8 (λ_=>a0.ok X G) ?_;apply i8 (λ_=>a1.ok X G) ?_;apply i8 (λ_=>a2.ok X G) ?_;apply i8 (λ_=>a3.ok X G) ?_;apply i8 (λ_=>a4.ok X G) ?_;apply i8 (λ_=>a5.ok X G) ?_;apply i8 (λ_=>a6.ok X G) ?_;apply i8 (λ_=>a7.ok X G) ?_;apply i8 (λ_=>a8.ok X G) ?_;apply i8 (λ_=>a9.ok X G) ?_;apply i8 (λ_=>a10.ok X G) ?_;apply i8 (λ_=>a11.ok X G) ?_;apply i8 (λ_=>a12.ok X G) ?_;apply i8 (λ_=>a13.ok X G) ?_;apply i8 (λ_=>a14.ok X G) ?_;apply i8 (λ_=>a15.ok X G) ?_;apply i8 (λ_=>a16.ok X G) ?_;apply i8 (λ_=>a17.ok X G) ?_;apply i8 (λ_=>a18.ok X G) ?_;apply i8 (λ_=>a19.ok X G) ?_;apply i8 (λ_=>a20.ok X G) ?_;apply i8 (λ_=>a21.ok X G) ?_;apply i8 (λ_=>a22.ok X G) ?_;apply i8 (λ_=>a23.ok X G) ?_;apply i8 (λ_=>a24.ok X G) ?_;apply i8 (λ_=>a25.ok X G) ?_;apply i8 (λ_=>a26.ok X G) ?_;apply i8 (λ_=>a27.ok X G) ?_;apply i8 (λ_=>a28.ok X G) ?_;apply i8 (λ_=>a29.ok X G) ?_;apply i8 (λ_=>a30.ok X G) ?_;apply i8 (λ_=>a31.ok X G) ?_;apply i8 (λ_=>a32.ok X G) ?_;apply i8 (λ_=>a33.ok X G) ?_;apply i8 (λ_=>a34.ok X G) ?_;apply i8 (λ_=>a35.ok X G) ?_;apply i8 (λ_=>a36.ok X G) ?_;apply i8 (λ_=>a37.ok X G) ?_;apply i8 (λ_=>a38.ok X G) ?_;apply i8 (λ_=>a39.ok X G) ?_;apply i8 (λ_=>a40.ok X G) ?_;apply i8 (λ_=>a41.ok X G) ?_;apply i8 (λ_=>a42.ok X G) ?_;apply i8 (λ_=>a43.ok X G) ?_;apply i8 (λ_=>a44.ok X G) ?_;apply i8 (λ_=>a45.ok X G) ?_;apply i8 (λ_=>a46.ok X G) ?_;apply i8 (λ_=>a47.ok X G) ?_;apply i8 (λ_=>a48.ok X G) ?_;apply i8 (λ_=>a49.ok X G) ?_;apply i8 (λ_=>a50.ok X G) ?_;apply i8 (λ_=>a51.ok X G) ?_;apply i8 (λ_=>a52.ok X G) ?_;apply i8 (λ_=>a53.ok X G) ?_;apply i8 (λ_=>a54.ok X G) ?_;apply i8 (λ_=>a55.ok X G) ?_;apply i8 (λ_=>a56.ok X G) ?_;apply i8 (λ_=>a57.ok X G) ?_;apply i8 (λ_=>a58.ok X G) ?_;apply i8 (λ_=>a59.ok X G) ?_;apply i8 (λ_=>a60.ok X G) ?_;apply i8 (λ_=>a61.ok X G) ?_;apply i8 (λ_=>a62.ok X G) ?_;apply i8 (λ_=>a63.ok X G) ?_;apply i8 (λ_=>a64.ok X G) ?_;apply i8 (λ_=>a65.ok X G) ?_;apply i8 (λ_=>a66.ok X G) ?_;apply i8 (λ_=>a67.ok X G) ?_;apply i8 (λ_=>a68.ok X G) ?_;apply i8 (λ_=>a69.ok X G) ?_;apply i8 (λ_=>a70.ok X G) ?_;apply i8 (λ_=>a71.ok X G) ?_;apply i8 (λ_=>a72.ok X G) ?_;apply i8 (λ_=>a73.ok X G) ?_;apply i8 (λ_=>a74.ok X G) ?_;apply i8 (λ_=>a75.ok X G) ?_;apply i8 (λ_=>a76.ok X G) ?_;apply i8 (λ_=>a77.ok X G) ?_;show bp4
 ·
  apply(?_:∀f d,(f,d)∈aa1->isM f=AC->∃c m,f=f8 c m/\isM c=AF/\isM m=AF/\MthOk K mg (C6 v5.cls (f8 c m)) c m d) f d (PySem.mem_of_lookup hf) hi;unfold aa1;apply i8 (λ_=>m0.ok ca0 X G) ?_;apply i8 (λ_=>m1.ok ca0 X G bs8 (λ_ _ _ _ _ _ _ _ _ _ _ hT hS=>{bdS λ_=>bdS λ_=>bdS λ_=>bdZ (IC rfl hT hS rfl rfl),bdT (bdS λ_=>bdS λ_=>bdZ (IC rfl hT hS rfl rfl))})) ?_;apply i8 (λ_=>m2.ok ca0 X G) ?_;apply i8 (λ_=>m3.ok ca0 X G) ?_;apply i8 (λ_=>m4.ok ca0 X G) ?_;apply i8 (λ_=>m5.ok ca0 X G) ?_;apply i8 (λ_=>m6.ok ca0 X G) ?_;apply i8 (λ_=>m7.ok ca0 X G) ?_;apply i8 (λ_=>m8.ok ca0 X G) ?_;apply i8 (λ_=>m9.ok ca1 X G) ?_
  iterate 78 apply i8 (λhi=>absurd hi (by decide+kernel)) ?_
  show bp4
 ·
  unfold v5 at hf;simp only at hf
  by_cases hck:c="!kt"
  ·subst hck;rw[kx0]at hn;cases hn
  rw[if_neg hck]at hf
  by_cases hdk0:c="!Shelf.laid_kind"
  ·subst hdk0;rw[ky0]at hn;cases hn
  rw[if_neg hdk0]at hf
  by_cases hc0:c="Shelf"
  ·subst hc0;rw[ca0.a]at hn;cases hn;rw[if_pos rfl]at hf;erw[AM,Ah,or_false]at hf;apply{ca0.cl,?_}
   rcases hf with rfl|rfl|rfl|rfl
   ·show cf0_0
   ·show cf0_1
   ·show cf0_2
   ·show cf0_3
  rw[if_neg hc0]at hf
  by_cases hc1:c="Node"
  ·subst hc1;rw[ca1.a]at hn;cases hn;rw[if_pos rfl]at hf;erw[AM,Ah,or_false]at hf;apply{ca1.cl,?_}
   rcases hf with rfl|rfl|rfl|rfl|rfl|rfl|rfl
   ·show cf1_0
   ·show cf1_1
   ·show cf1_2
   ·show cf1_3
   ·show cf1_4
   ·show cf1_5
   ·show cf1_6
  rw[if_neg hc1]at hf;show absurd hf Ah
 ·unfold v5 at hg ⊢;simp only at hg ⊢
  by_cases hg0:g="INNER_FROM"
  ·subst hg0;show ad7 X G ga0 gt0
  rw[if_neg hg0]at hg
  by_cases hg1:g="UNDER_ONE_MORE"
  ·subst hg1;show ad7 X G ga1 gt1
  rw[if_neg hg1]at hg
  by_cases hg2:g="BY_WORD"
  ·subst hg2;show ad7 X G ga2 gt2
  rw[if_neg hg2]at hg
  by_cases hg3:g="FORTH"
  ·subst hg3;show ad7 X G ga3 gt3
  rw[if_neg hg3]at hg;show absurd rfl hg
 ·unfold v5 at hg;simp only at hg
  by_cases hg0:g="FEW"
  ·subst hg0;rw[if_pos rfl]at hg;cases hg;show{_,Hn X G kc0,kv0}
  rw[if_neg hg0]at hg
  by_cases hg1:g="WORDS"
  ·subst hg1;rw[if_pos rfl]at hg;cases hg;show{_,Hn X G kc1,kv1}
  rw[if_neg hg1]at hg;cases hg
 ·
  rw[(by decide+kernel:v5.cls "!is"=([]:List Str))]at hc;cases hc
end Ek
namespace PySem.W.Fast
local macro_rules|`(command|include $x*)=>do return Lean.mkNullNode (← x.mapM fun i=>Lean.MonadRef.withRef .missing do
 let n:Nat:=(i.getId.toString.toList.drop 1).foldl (fun n c=>n*36+(if c<':' then c.toNat-48 else c.toNat-87)) 0
 let j:=Lean.mkIdent (.mkSimple s!"tw{n}")
 `(command|theorem $j:ident:True:=⟨⟩))
include a1lzrwillazkoi a9wn3b77iaptb a3coxxl0lco0pr a2v1mdlwjpvoq6 a1hpzipgn3csf4 a2fdwsx4oxy6r0 acowb75w98h2y al6jnsk9655ey a1n2fjahxd9ybv a1r3vl8c9acwki a1013qdk3k8g8j aoigxx4vvbnk6 a27my47cw2h5hb a3feps6s2p96ij a1j1emope73ym5 a2wabvdf5yll91 a2h2kuce6t93pr a83lkrp5cr6y antuqpyq56w52 a3rfha608jx49r aawv9yg1f89rg a3as9el2l5busc a2gqtqxfx79g7y az48ug82dagux ao5rtzba4jkar a2otcjwdnw1k54 a2yfz8bvz6d6uq a319asg7pqc8w2 a26fv38s74btvy a3kcfev7lrlk8d apciv1rm5iuq6 a35hre3cd88yzm a3a5jlufg09x91 a37fcmjr2tas0j a2q9nwwta7jvou a2r13ydwjq4tjd a17p0xtmoao2i7 a19l6c1ndax106 accghooutw3c2 aff0aynfq31hf a9awu8is2pbiq aib8v09e8cn4 a3ti9r2s5kv2ql a2neb0hl4cpmur a6z2rnbaumkti aixh44ckp3med az59xwxbcqv90 a2pmiakq45qqkw a3k2q5ppkosagi a98b7ncmoe7uj a2r1ou3y38c1yg a1y4ezu3wvx48d a3thp0ndnbzkxc a1pq78ysfpfqe1 a3b0vrlud8f597 a1e1u0ntu9v2zt a1iv2elu6pma7e a2be0pp3zvxqx0 a3otusx4a664sw a3q91at8ad6y6y a3h07rokzt50a6 adlqt350kdkiw acef1jdrkn3ae a1wbjw24n0l33d a3rukg6dk4xorv a1m54r382a9x1f alxppaljywq9u a1jw11gjeteqeh a2lbi3d0u37uf3 a2b6tzsjnz1r5n a31fzml21vu768 a16vi8tc1md78i a1t7zt0kgxnhte ag32k9zzmuogs a1gulrwrqfr8or a3v4poz7q40ybq a36fdyvdalbksc a2fdo69mtzyy7n a1krukjz9iz4fn a3qxtc7n4ud8j4 a3g7cju2wq461 a35v5it2adp7r4 a2186veznpamf5 a663b8mkm64gu a26asfcniu9gdx a1ii4vqsla8w3x a3p9d8quhd6qiq apk59hltjslri a9beudumgm5ik a1xzgvzniik5a5 az0bgonw5n5zq a2uufgckee7m6u az43pqcediovk a1edv4gtteuhsb a108hkula0pkck a1hitnn5ymugrd a3hw43ggblyjsv a14hc68ejk7ak8 a28fpd9gi12log a3jcbf2t93g22 awmze4lcmfkwz a3tgjdv1uh5bou a198da5z3opus8 agy5wqhexhac3 a2xl9m7dplttvf ad84pch6pf8b5 a1vdoetgq2jj4s a2yc3l6nvyr3x9 a2opf7m8y6o0mk a3s3fbgqtulup2 a32vlypmwafnm8 a3nmq6k91xehvo a2hkhpu1g7sx8j a1gs9grc2u3wfu a2bhb3agrc0087 a3dkjcj1crql7n a2b8ygfdz1uw5y a2crg5at1kjcke a384oqupzdacv6 a3qx7ne0zb84ad a6bibvp8kawue ayr78tgsbowil a3ojl2th1x07tm a1p7l27rlm401w ane4z6j8kh17x a3dboezcgfv16m a1xm1wi6eu8bap al6w8br6d7mdu av3xigymalm5m aiz3k60lhkv6 a2dgw3liy66k3f a3c47t7uf3dfig azxmqnajmwvdz a33cfhrp7ea5en ah9qxfrekw3i5 a3uadppn3ij43j a2njavifatq981 artf4a169p12w a26zewf8q6b66y a2cp9ku5wuerqe a8q895mltogso a22qfnn6sagf61 a39mq5detrbfe9 a3qemsn6wx0tfy a1bwo8nws03uqa a2u34yd0mdytox a30i371ovus2g8 a14zo0y9stqycq awbhefmw5ru46 a3a4h2s7nz0799 a1tf6j5emcxucj a1xod3j9t3353j a1s8ex7he4i1uz a24lgma9b19b0o a2lcm9iw3xt7n1 a10ffkoygbpuru a1d0iqwuoekx6v a352rt1zts55ue aueqy0fb8jl2r a31s06kaevpebu a2t85kutcsaca2 a22bvdhwee7m69 a2cc8qdxcplxdj a2bq5041a89fh6 a1vww5xttr3487 a337wo376hh32t a3l7os49ll1gni a14a1rgp2sr9cb a2c9k37jy6oac0 a28859rzh4r9zf ajfr23ot5hzug a3quyy5gsnslu6 a3afolzoeqxte8 amyynyzt507me a31u7z3wlu0pf7 a3amx71rhh98bm a196r5j6en3yw7 a155rlh8rvqa1v a1n1q3vpyfe91x a2z2wpncma4ypp a3jdl5964qzj0r a36wix0piggttt ap5gxt0prf948 a2x8gstia1fu25 a29m4lvd523u2g a374tuopb4o9qk a30rt4k9arahlk a2kztb3er0hrem aujvl26tyo63k a2jxjq28my4h17 a1im4ucc1g04vp a2o7s5b9tabhu9 a24wmo6rr5mm4m a15y64r2ai9gwm a1osu8ru2yni86 a35s2h854n6a7u ay0td9yq2qrvh a3ro43l6s3zd0k a1mhdpyphx7fp a3l4yv8aompavb a1pn3kvs2z6jh5 a1gorqo6qnuw8y a34v708s6v326y a1ur09409gbfjc a5lpkgefvts1f a32sjm2sz0b6ru a3ucy3mo9krd2d a9tdv9txx55id a393ayxnp7i8lg a3cbaiy9p8lawp a1phc5aw4b1sek a14uhr0slbvbzi a38rzc8brd1s1b a1tlbhen76gem1 a1kcavyk1e5x26 a2ktdbjgfk3qcu agui6z3f1yjt4 a2bh35jqrzl9ss a381p80vdlpwj2 asko6qr40ns9x a1rkl19alwrxtg a32t0goqnau5lo a3mhao2n0moa40 a2c3l80j1o85md a3e39yk1kgvajs aike6pnge0knl a2jtrlxt2q2k2x a1vz0tu2pbedw5 a2h78ovszry0i8 a23gzg5mk6emns a33xocf7dfw3lm a1ga0wf6i8gg36 arwxaxljbjgp0 afo1nvxip7fzf a1b59s5pm5gaxb a2zf8iviijawua a5s3oskqqjjsc a1etr62o1iw6u2 a1a4ftyamtklcl a2okve31a2fqj7 a31nnkx5ozjlpb adav4t3yy60vl a1oxe524d8042s a3fqhi06zifvay a13lc5c5y0tusb a3cem3xa2ff746 a320cejukvw4hn ajlgmqao61p57 ao2u9r9vlmgwv ajf8nymhfqkum a2agtv9badfarh abpib0z6z6pi1 a10305oysv9yzs a2bk4j5ibbo36s adb78l01tbxfj a20834wvqgd60j a20jkm8sef3yca a2oqjsxmbbqqec am7hp1mom53lv a3ubxsxar9vxp af70alzfx1fru arn2xdi9mzet7 a2pzvvvayi0jbp a3cseupczbdcsk a1p3t0ikeyyli ahegcfyukm90r a7gshn2bl9k37 a197x5oeea2jpj a4i27y2vxutpn a2tf1koefbosx3 acwc4v0r93cpk a166rdn2mbv4cf a3aw7h2offahs8 a286j7wddezt49 a36pd1ni6285wa a3awif4m3l8dy8 a2sjrhjsqnp6k3 a1dygcw1wa4eqm a2uuqs313q6uv1 a189j2oyh9hrtt ar8vrhv4gk8og a38psczcixgqy4 a34j37tpu4ksbf a2i79ys188oqx5 a3d0mtujixjnr7 agttkvalgkry5 a199kntjgn5tmy as8ecortkz4nf awzmqdx1ltpck a11cxzd9j5lhs5 a1xh3uvovro1ke auloda8vl34kt as9qigk814cci a198wytgz17nlg a1hkp1otsg4883 a2a63sr272b88k a1nztoxiekoilu a2gkdsejuf6781 a2su6slwxk9yd6 a2uvaotu6syc1p a39typ0pjfzamy a1tiq9pn3xgowj a1em5j1zoaleq7 a1fflec0r229ik a28u7vogcxck6i a2oezoru1zcluf a35fsk10o3ort3 ajdfp7q4438zu a1utflf03lbvh5 a344db8rvco2q6 a1zlofhx2fnhxw a3fbm5485ykf1v a2ac4zl16yvmo2 a2bjpqrrjdx3vo a1xvzkko3huj55 a9iwp4wdc639n aonwnhuduop7u al7netbdv8zau a1oi1sr2eis0nd a1824x4blj7t9v a3r6oogdch3huv a2gcm0s76qz5at an2gryawmixyn a2i3hpjt6xiob5 a3vyo8tvk91z9p a9kdcixkgliz7 a2ctuod7z1eu9d avnwvqenc20ig a25o4vu5167j73 a25pt20hfygoky a1nccutgav7fq6 ae09gaicrbdyc akf2rdg2mesbd a20uheulyhcgo aoi53e809lqh5 a24xxfoqhs28gs a3pf1cbpi4ozrq ae0vnk1364ja0 a3uafj3ke434hi a31grm020be7c8 a1xg71q2phrmcp a1n2jt34ozia8 a2qafo8ed0irsx ae1ptwxpfkl6x a130u1zf34m42f a1lckyk1g9o262 a372ujex8iu05v a2cz47qyvwiu67 ap3maljf5kgcy anubdocgpd2tr a2wf8d05azxcsy a12lq5isrn1ckr a2mrisjvd3vjgd a19wzdspkbx0he a362xmynimxf3p a1bi00p90k55ps a2etnb2ylmgb83 a7bnnj2ha8ytf a12ht33kwabty0 a1ygxdumdyvoku aybiyzqdmrgga a3h729yseqp763 a2vmyeh88d11sv aemairdupr141 abg5sni40m9rm a1tb99yr6om0n0 alyaj1g1229ws a3bxdohkju2luj a169f6o70rmq78 a3216pa9mfkt2s a2yxayyqentjg4 a36re865u7k92x a1lphq9kjden5a a1lkydu79ebg50 a8b4hfqre073y a33x95uca7cwm2 a23ek3gzbjvn0k a2spyj29dw8rks a3p50yxykuxofv a26vaqyjqartup a3vlf4kpa78y81 a2awh5l5hgq7hm a7jg44x9nbjkr a2vnb4tszaueug a31h79oivvv29z a2o2wune5tcb7p a2df87hdzqvgr0 a2aplrqjkn4u6l a1ifqbl4e2w2ql a13ieub78gqij3 a98ltoenxux5y az47ot9xvcn7n a20kh7jo2vx7jl a26sl3oyi0epjt a31lt5965nrzco a2ud22lgpd6jdv ahh895rmu4dzh a19q9tpfj90jn1 a2o6eolkmr0g7o aoxp1ke499rig anu1pl0qqezoi a2f6ixo008p3qe a2d8nbe6yaq2bj a1ed86bvu102nu a1ffxi1z3dcjk a3enrlxkn9rjhb a2z84o2013ym8f a2ztbjj5lf1k4d a3lzzg52bw0t3i a3ood06nqj20dy a97x8enu6vkgk a3i0ema3k8quog a3ivlbkaa3rx7d aizgivyn51e7j a36n71zlr8ccg7 aziq3phdw74b4 a1xb1heaqeelps a1gryx741n8lsf a10wskqn1ei436 a49ftx9nxfbra a2e7a225fgd6f9 a1t0pyngkv1goq a1ch6n9w3lx2tn a6o9nkwf14tas a1ixc3uqb72l47 a1r93jxh7p5irq a2vre8w0ntqyxp a36at1gy10j42z a3lph59i8kbl0a a3k1wou1aomc7e a39d0jv4b5o9kc a1710tqmq4qpxv aiec8bkhijedb a10p6x65vlz5ui a1mdnmn3g8i6ct a2qf5ii50rcf79 a3q1hw5am7zt3c a30lxsee7k8ksn a3n3wl1d44a1ss a1fqvedhfgbti8 asw25d7g8wih0 aacf2lrdr3l5r a2w332co8otvv9 a1mc50boy1zpdm a11zs3zr7y3b9r a2ykeh57uom7r6 a1ik9q1mtn83s5 a1sdah4cu1x3la avaanwkuy18fg a2xi57jo9jgr7o an7g66kyvv2mu a3is9mdijz6n80 a2w6f7x5yf1wyo a3rzenx8iq43dq a3vxvxceomljpj a1pq8skfhvo9is a1c75pez0uuztq a27paaiao88p7w as5efgur4wuph aceue98kprh60 a35jzyehgz3wf6 a1y24j955xegcm a270or1t9eqzbo a2cedxyz1dplh1 a2sjq207zat3bx a8fkwvq185foa a3e6cj2uo4qejg aegpqnv41r1e1 a3fn6mbbju0pjw akn5gadryean5 a2mw45tr6kdfpt avbgkmfgw2yl5 a6rqac2sr36tc azccb3obhys21 a14cxwvge3fe2t a2uxh60jg5l0j1 a3jpgfe8dpu8mv a3tm9yjj1egjrj a1duvux3eivzcg a6upha2taoz05 a1tk0sykwd9ytw a40c83nyoa78j a3ni2svxi5gxjp aj568rts7dt5x ao4em4gzcbkh4 a3k1h6ada54feo awotwafdy3iwx a396ab8x1h82fa a1p6j9vf6el7wb a2jlinj4hyiqk2 awcppew774hq3 avfu1vno6qqbf a58fk4wgnmyxi a24eih89kdk6y7 a188aed4g15k4c a2r1f2sxmmtuzg a3kzo8mpbuyiob aat0jl4dr7438 a3l6as68ein5pa a38s6oyrwzpdq7 a2y3nl4zorx4re a2o1hb64mxe86p a18j2o9o3p1fmr a11najyswcrvsf a1blg7f69qtrnp a3oweg1per5ktv a38yh12bgpkdlj a2xzs250gteubn a2grd2boi3k673 a30du09j2uco1p a1id7dmeotqmce a1y2xyen8so2ma a12ys45sddbfbv a3fvoivzcinht7 a2moqxnzzhfhwa a2m3sokh5to5gr a1lihj3jwzed4 ao87ew2pioe53 a1e57tiso0brp0 a28z9ezx210i5s
end PySem.W.Fast
open PySem PySem.W PyProof.Rows
set_option maxRecDepth 100000 in
set_option maxHeartbeats 0 in
theorem PySem.Challenge.cw_evenkinds_k43_rows_walked_holds : PySem.Challenge.rw_evenkinds_k43_rows_walked.Holds := by
 w_on;o_law;k_head;(case hw=>w_witness2)
 k_fill
 apply Ek.cn3 (l:=PySem.Challenge.rw_evenkinds_k43_rows_walked) (P:=Ek.N8) (G:=Ek.v5) (n:=100) (x:="_law_script") (dl:=Ek.E8) rfl rfl rfl {rfl,∅,∅} (λw h Y=>{W.km_in_of Y,W.km_tabs_of Y}) rfl ?hst ?F Ek.b15
 case hst=>
  intro st ps S;have e:=S.sc.pre;have e2:=S.np;rw[e2]at e;show e.symm
 case F=>
  intro w mg h KX G
  refine' Ek.co3 KX G ?_ ?_ ?_ ?_ ?_ ?_ ?_ ?_ ?_ ?_ ?_ ?_ ?_ ?_ ?_ ?_ ?_ ?_ ?_ ?_ ?_ ?_ ?_ ?_ ?_ ?_ ?_ ?_ ?_ ?_ ?_ ?_ ?_ ?_ ?_ ?_ ?_ ?_ ?_ ?_ ?_ ?_ ?_ ?_ ?_ ?_ ?_ ?_ ?_ ?_ ?_ ?_ ?_ ?_ ?_ ?_ ?_ ?_ ?_ ?_ ?_ ?_ ?_ ?_ ?_ ?_ ?_ ?_ ?_ ?_ ?_ ?_ ?_ ?_ ?_ ?_ ?_ ?_ ?_ ?_ ?_ ?_ ?_ ?_ ?_ ?_ ?_ ?_ ?_ ?_ ?_ ?_ ?_ ?_ ?_ ?_ ?_ ?_ ?_ ?_ ?_ ?_ ?_ ?_ ?_ ?_ ?_ ?_ ?_ ?_ ?_ ?_ ?_ ?_ ?_ ?_ ?_ ?_ ?_
  rotate_left 8
  iterate 9 (refine' Ek.fnA ?a ?b ?c ?d;(case a|b|c|d=>k_is))
  (refine' Ek.fnM ?a ?b ?c ?d ?e ?f ?g;(case a|b|c|d=>k_is);(case e=>rfl);(case f=>kernel_rfl);(case g=>decide))
  iterate 4 (refine' Ek.fnA ?a ?b ?c ?d;(case a|b|c|d=>k_is))
  (refine' Ek.fnM ?a ?b ?c ?d ?e ?f ?g;(case a|b|c|d=>k_is);(case e=>rfl);(case f=>kernel_rfl);(case g=>decide))
  iterate 15 (refine' Ek.fnA ?a ?b ?c ?d;(case a|b|c|d=>k_is))
  iterate 2 (refine' Ek.fnM ?a ?b ?c ?d ?e ?f ?g;(case a|b|c|d=>k_is);(case e=>rfl);(case f=>kernel_rfl);(case g=>decide))
  (refine' Ek.fnA ?a ?b ?c ?d;(case a|b|c|d=>k_is))
  (refine' Ek.fnM ?a ?b ?c ?d ?e ?f ?g;(case a|b|c|d=>k_is);(case e=>rfl);(case f=>kernel_rfl);(case g=>decide))
  iterate 44 (refine' Ek.fnA ?a ?b ?c ?d;(case a|b|c|d=>k_is))
  (intro b hb;erw[Ek.U9,AM]at hb;(repeat' (rcases hb with rfl|hb))<;>k_is)
  k_is
  rfl
  k_is
  rfl
  k_is
  rfl
  k_is
  rfl
  k_is
  kernel_rfl
  k_is
  kernel_rfl
  iterate 2 k_is
  iterate 2 (refine' Ek.clA ?a ?b ?c ?d ?e ?f ?g;(case a|b|c|d|e|f|g=>k_is))
  iterate 11 k_is
  (refine' Ek.mtA ?a ?b ?c ?d ?e ?f;(case a|b|c|d|e|f=>k_is))
  (refine' Ek.mtD ?a ?b ?c ?d ?e ?f ?g;(case a|b|c|d|e|f|g=>k_is))
  iterate 8 (refine' Ek.mtA ?a ?b ?c ?d ?e ?f;(case a|b|c|d|e|f=>k_is))
  iterate 3 rfl
#print axioms PySem.Challenge.cw_evenkinds_k43_rows_walked_holds
