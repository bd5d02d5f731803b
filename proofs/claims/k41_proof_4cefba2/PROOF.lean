import PyProof.Rows.All
import PyProof.TupleKey
import PyProof.P3Eq
import PyProof.DictKinds
import Wide.All
import OpenK.AllK
import Wide.FinOn
import Lean
import PyProof.EqAt
import PyProof.EqKinds
import PyProof.TupleCall
import PyProof.StrBlockL
import PyProof.ListMulRoad
import PyProof.FactsAll.tuple
import PyProof.ZipIter
import PyProof.ListNew
import KE.KRevIter
import KE.KIntText
import PyProof.StrLawsIn
import KE.LcSums
import PyProof.EnumStmt
import PyProof.AttrMissHeap
import KE.KDictOf
import PySem.Challenge.RW_evenkinds_k41_steps_of_the_book
set_option Elab.async false
set_option maxHeartbeats 4000000
set_option compiler.extract_closed false
set_option genSizeOf false
set_option bootstrap.genMatcherCode false
set_option linter.all false
local macro_rules|`(command|abbrev $i:declId $s:optDeclSig $v:declVal)=>Lean.MonadRef.withRef .missing `(command|noncomputable def $i:declId $s:optDeclSig $v:declVal)
local macro_rules|`(command|def $i:declId $b* :$t $v:declVal)=>Lean.MonadRef.withRef .missing `(command|noncomputable def $i:declId $b* :$t $v:declVal)
local macro_rules|`(⋯)=>`(by lia)
local macro_rules|`(∅)=>`(by decide)
local macro_rules|`(∎)=>`(by simp)
open List (mem_cons mem_filter mem_range length_cons append_assoc length_nil map_map)
open Nat (add_mul)
open Bool (false_eq_true not_eq_true')
open Option renaming some->AA,none->AF,isSome_iff_exists->BO,isSome_map->Fc,getD_none->Fu,map_some->GM,isSome_some->IC,getD_some->IY,casesOn->JD,isSome->JY,getD->Jq
open Decidable renaming decide->AB
open PySem renaming wpAny_bind->AC,Value->AG,Addr->AH,Shared->AK,wpAny_pure->AL,mainGlobals->AO,wpAny->AR,Expr->AT,PyData->Ai,starEach->Am,Program->An,wpAny_field->Au,World->Ax,Heap->BC,bootBuiltins->BG,Scope->BH,wpAny_call_entry->BL,wpAny_callSpecial?_slot->BM,Stmt->BN,wpAny_seqItems->BR,Around->BU,wpAny_newObj_type->Bb,wpAny_holding->Bd,wpAny_mono->Bg,FuncData->Bi,wpAny_specialOf->Bm,compareOp->Bq,IsPair->Br,backTo->Bv,cLine->Bw,assignEach->Bx,wpAny_Call_Name_kw->CI,wpAny_setField_rec->CJ,builtinLookup_eq_fast->CL,wpAny_truthy_bool->CN,sysModules->CS,behindInMarks->CT,swapsWith->CZ,rawInt->Cf,Builtin->Ci,wpAny_passesOwn->Cn,attributeBase->Cp,builtinsNs->Cu,binaryOp->Cv,Arguments->DE,typeLookup_type->DM,wpAny_rule->DN,call_meets->DQ,wpAny_pyIter_tuple->DR,keywordEach->DV,foldedSetIterable->Da,FuncBody->De,CmpOp->Dn,DictEntry->Do,codeAny->Dq,getItem->Dr,sliceBounds->Dv,wpAny_updateSeq->ED,TriplesOk->EM,pyNext->ET,bindArgs->EU,wpAny_setField->EW,methodCallForm->EX,isSubtype_type->EY,ZipApart->EZ,eqIsQuiet_byValue->Ee,swapsWithSole->Ej,wpAny_attempt->Eo,wpAny_pyHash_str->Ex,wpAny_isInstance->Ey,Operator->Ez,backToKw->FA,BindsTo->FH,wpAny_typeOf->FK,wpAny_execs_nil->FU,letOwnedTupleGo->FV,wpAny_loadPart'->FW,NameKind->Fm,IsPart->Fn,firstArgMember->Fp,wpAny_updateSeq_pair->Fq,codeAmong->Fw,wpAny_onRaise->GN,ExceptHandler->GQ,typeLookup->GT,codeAny_mono->Gh,wpAny_sequenceKey->Gi,valueAt->Gk,wpAny_pyIter_enum->Gm,wpAny_pyIter_list->Gp,wpAny_pyHash_int->Gz,PassesOwn->HB,pyIter->HC,noFill_tuple_add->HE,sizeLine_eq->HK,wpAny_of_eq->HR,loadIfAlive->HS,wpAny_letGo->HU,standAt->Hd,Keyword->Hg,callerA->Hi,isTrue->Ho,Result->Hs,recursionLimit->Hu,atKey->Hw,closureFor->Hx,wpAny_standAt->IH,swappedStores->II,seq_tuple_add->IJ,wpAny_comprehension_free->IK,Comprehension->IM,bindL->IR,bindC->IS,seqIndex?->IT,updateSeq->IW,concat_meets->Ih,seqIndex_neg->Ii,callType_new->Io,wpAny_isTrue_Compare1->Iu,getitemInPython_of_ne->Iw,seqIndex_of->JI,wpAny_letTemporaryGo->JK,wpAny_newFunctionEnv->JL,Meets->JM,wpAny_pyIter_revIter->JN,wpAny_Name->Jh,typeIs_int->Jn,setItem->Ju,wpAny_assign_Name->Jw,slot_list_getitem->Jy,wpAny_Call_method->KC,dictGet->KG,slot_dict_getitem->KH,wpAny_pyIter_slot->KJ,beq_builtin_none->KO,wpAny_forIn_list->KP,wpAny_execs_cons->KQ,getMethod->KS,cellsFrom->KY,wpAny_Dict_empty->Kf,wpAny_operating->Kr,codeAny_builtin->Ku,wpAny_Compare1->LB,IntMulOk->LC,wpAny_notIn_of->LH,letTemporaryGo->LI,cellOf->LK,compEnvC->LL,newFunctionEnv->LN,newExc->LO,IsEnum->LP,argsOk->LQ,isSubtype_stop->LR,wpAny_newTuple->LS,BoolOp->LU
open Bool renaming true->AD,false->AE,false_ne_true->AI,false_eq_true->BE,and_eq_true->BJ,and_self->Bp,not_true->EK,eq_iff_iff->Em,and_eq_true_iff->FD,or_eq_false_iff->FX,not_eq_true'->Go,or_false->HN,false_or->HP,or_eq_true->JU,and_false->Ja,true_or->KB
open List renaming getElem?_eq_getElem->AJ,mem_cons->AN,length_cons->AV,length_map->AW,getElem?_eq_some_iff->AY,not_mem_nil->AZ,size_toArray->Ab,getElem?_append_left->Ac,length_append->Ad,getElem?_append_right->Af,getElem?_map->Ag,map_append->Ah,replicate->Al,length_nil->Ao,mem_cons_of_mem->Ar,map_cons->As,mem_append_right->BF,mem_append->BI,nodup_cons->BP,mem_of_getElem?->BS,mem_singleton->BY,append_nil->BZ,eq_nil_of_length_eq_zero->Be,getElem?_eq_none->Bj,length_take->Bn,length_drop->Bo,find?_cons->By,mem_cons_self->CG,cons_append->CM,drop_eq_getElem_cons->CO,mem_flatten->CQ,length->CV,mem_iff_getElem?->Cd,append_assoc->Ch,map_map->Cj,replicate_succ->Cw,sum_append->Cy,prefix_refl->Cz,length_replicate->DD,mem_map->DF,lookup->DH,sum_cons->DL,getElem?_replicate->DP,nil_append->DU,range->DY,filterMap_cons->DZ,reverse_cons->Dc,flatten_cons->Dd,take_of_length_le->Dh,flatten_append->Dk,casesOn->Ds,lookup_cons->Dw,all_eq_true->Dy,mem_append_left->EB,ext_getElem?->EG,nodup_append->EH,mapIdx->EI,map_nil->Eg,drop_of_length_le->Eh,getElem_mem->Ei,getElem?_reverse->Er,take_append_drop->Ew,mem_iff_getElem->FE,map->FF,of_mem_zip->FI,foldl->Fb,getElem?_set->Fv,flatten_replicate_singleton->Fy,eraseIdxIfInBounds_toArray->GC,zip_cons_cons->GP,length_mapIdx->GR,forIn_cons->GU,any_eq_false->Gg,any_cons->Gj,sum_nil->Gu,mem_or_eq_of_mem_set->HJ,getElem?_take_of_lt->HM,any_eq_true->HV,getElem?_cons_succ->HY,length_eq_zero_iff->HZ,getElem?_set_self->Hb,length_singleton->Hv,set_append_right->Hy,getElem?_set_ne->IA,reverse_reverse->IE,length_reverse->IL,map_congr_left->IN,reverse_append->IP,mem_filterMap->IQ,forIn_nil->IU,forIn_toArray->IV,mapIdx_append->IX,take_sublist->Ig,zipIdx_cons->Iz,drop_length->JC,map_reverse->JE,take_left'->JQ,zipIdx_nil->JR,length_zip->JT,take_length->JV,isEmpty_iff->JW,mapIdx_cons->JX,map_set->KN,nodup_nil->Ke,drop_zero->Kj,drop->LV,map_take->LX,map_drop->LY
open PySem.Heap renaming get?_push_of_some->AM,get?_push_size->Ae,lt_size->Az,SameBut->Ba,get?_update_self->CH,size_push->Cb,get?_update_other->Cq,ExtBut->GV
open PySem.W renaming Frag->AQ,nsIn->Ay,findIn->BW,keepIn->Bh,codeHdIn->CP,kia_one->Ck,fnOf->Co,emptyDict->Cr,codeIn->Ct,kitOne->Dp,callWith_K->EC,instObj->EE,plainGet->GB,mg_of->GW,hasDictIn->Gx,methodCall_KW->HH,tabObj->HX,plainGet_of->Hr,makesIn->IB,methodObj->Ia,lookIn->Ib,plainOver->Ic,noTabs->Ir,isFn->JH,takerIn->Jj,cellsFrom_some->Jk,callWith_K0->Ko,codeHd_of_K->Kz,kitx_tuple->LD
open Nat renaming le_refl->AS,lt_of_lt_of_le->Aj,le_trans->BB,zero_le->BK,ne_of_lt->BX,le_succ_of_le->Bt,lt_irrefl->CY,le_add_right->DG,add_lt_add_left->Dt,add_assoc->EJ,min->EL,min_le_left->Ef,min_le_right->FJ,pow_le_pow_right->FQ,add_le_add->FR,lt_succ_self->GS,min_eq_right->GX,le_of_lt->Gd,ne_of_gt->Gf,succ_ne_self->Gn,min_eq_left->Gq,strongRecOn->Gv,add_sub_cancel_left->Hl,le_succ->Ie,lt_of_le_of_lt->Im,add_sub_cancel->Iq,lt_succ_of_lt->Ix,mul_comm->JO,le_add_left->Jg,mul_le_mul->Jr,le_of_eq->KU,sub_zero->Ki,pow_succ->Kk,zero_add->Kl,sub_self->Km,add_comm->LG,not_lt->LM,max_zero->LW
open False renaming elim->AU
open PySem.Builtin.SmallTypes renaming ownedTupleIsFree->AX,nextOf->Ak,ownedTupleHandOut->Dz
open PySem.Str renaming ofString->Aa
open PySem.Value renaming ref->Ap,none->Bc,type->Cm,int->ER,str->ES,bool->FY,isInt_shape->Fl,isInt->GK,isStrOf->HA,float->Hm,isStrOf_shape->Hz,bytes->Jt
open List.cons renaming injEq->Aq,inj->IZ
open PySem.PyData renaming eqv->At,depthAll->Bs,eqvAll->CK,canLayAll0->DI,depth->Dm,canLay0->Ep,strOk->Jf
open Option.some renaming inj->Av,injEq->CA
open Ne renaming symm->Aw
open PySem.NameKind renaming free->BA
open PyProof.Rows renaming callWith_type1->BD,slot_tuple_getitem->BQ,Good->Di,slot_tuple_getitem->EV,subscriptTail->GL,AllBare->Gc,envOfC->HD,IsTup->Hn,Constant_none->IG,subscriptTail_builtinR->Ij,IntsAre->Il,Call_->JG,entry_tuple_getitem->JZ,args_tuple_getitem->Jl,Subscript_->Jm,callWith_builtin1->Kq,slicePart_none->LF
open PySem.Heap.SameBut renaming update->BV
open PySem.Builtin.Tuple renaming tupleHashOf->Bf,tupleExact->Cg,tupleItemsOf->DX,tupleTooMany->Fa,tupleIsExact->Kh
open Int renaming toNat_natCast->Bk,eq_ofNat_of_zero_le->Bu,emod_lt_of_pos->Fs,emod_nonneg->Gw,toNat->JS,natCast_mul->Jc,le_refl->LA
open Array renaming getElem?_eq_getElem->Bl,length_toList->FG,toList_append->FL,getElem?_eq_none->HW,getElem?_toList->Hh,getElem?_push->ID,forIn_toList->IF,size_push->JB,toList->Ji
open PyProof.Rows.KTD renaming datumAt->Bz
open PySem.Builtin.List renaming listTooLong->CB,listExtendWith->CU,listSameRef->Fx,listItems->GO,listLengthHint->Kv,listTouch->Kx,listUpdate->Ky
open ForInStep renaming yield->CC
open PySem.Obj renaming mapSeq->CD,data_mapFields->Cc,isFreed_of_fields->FC,cls_mapFields->Iy
open True renaming intro->CW
open PySem.Builtin.Slice renaming slicePlaces->Ce,sliceAdjust->Db,sliceApplied->FZ,slicePartIndex->KZ,sliceFields->Ka
open PySem.F renaming slot_tuple_iterator_next->Cs,slot_zip_next->Dx,plain_extend_loop->EA,slot_tuple_hash->Ea,slot_tuple_mul->El,args_tuple_iterator_next_1->HG,entry_tuple_iterator_next->HQ,args_list_extend_2->Ik,args_object_init_2->Ip,entry_list_extend->Iv,entry_extend_loop->JA,slot_list_extend->JJ,args_tuple_mul_2->JP,slot_tuple_rmul->Jb,entry_tuple_mul->Jd,args_zip_next_1->Je,entry_list_pop->Jo,entry_zip_next->Jp,slot_list_pop->Jz,slot_int_rmul->KF,slot_zip_iter->KL
open PySem.Calls renaming spliced_cons->DC,callWith_builtin->DJ,spliced_nil->EF,evalArgs_plain->FB,Name_function_global->Ge
open PySem.Builtin.Int renaming intBits->DW,intTooBig->GY
open List.mapIdx renaming go->Dj
open PySem.BindsTo renaming of_defaults->Dl
open PySem.Stmt.FunctionDef renaming elim->Du
open PySem.Expr.Attribute renaming elim->EN
open PySem.Expr.Subscript renaming elim->EO
open PySem.Arg renaming arg->EQ
open PySem.Expr.ListComp renaming elim->Eb
open PySem.Expr.Constant renaming elim->Ec
open PySem.Stmt.Continue renaming elim->Ed
open PySem.Expr.UnaryOp renaming elim->Et
open PySem.Expr.Compare renaming elim->Eu
open PySem.Expr.BoolOp renaming elim->FM
open PySem.Stmt.Assign renaming elim->FN
open PySem.Stmt.Return renaming elim->FP
open Sum renaming inl->FT,inr->GA
open PySem.Expr.BinOp renaming elim->Fe
open PySem.Expr.IfExp renaming elim->Fg
open PySem.Expr.Tuple renaming elim->Fh
open PySem.Expr.Slice renaming elim->Fi
open PySem.Stmt.While renaming elim->Fj
open Char renaming toNat->Fk
open PySem.Expr.Dict renaming elim->GD
open PySem.Expr.Call renaming elim->GE
open PySem.Expr.Name renaming elim->GF
open PySem.Expr.List renaming elim->GH
open PySem.Stmt.Expr renaming elim->GI
open PySem.Stmt.Pass renaming elim->GJ
open PySem.AutoSeq1 renaming wpAny_loadPart'->GZ
open PySem.Stmt.For renaming elim->Ga
open PySem.Stmt.Try renaming elim->Gb
open Nat.succ renaming inj->Gy
open PySem.Stmt.If renaming elim->HI
open PySem.Around renaming under->HL,frames_deeper->Hf,under_plainId->Hk
open PySem.Code renaming isFrame->He,frames->KW
open PySem.Shared renaming heap->Hj
open PySem.CmpOp renaming NotIn->Hq
open Prod.mk renaming injEq->JF
open PySem.Heap.IsSliceOf renaming new->Jx
open PySem.W.WShape renaming has->KD
open Eq renaming trans->KM
open PySem.Builtin.Range renaming rangeSize->KR
open LawfulBEq renaming eq_of_beq->Kb
open List.Pairwise renaming nil->Kg
open PySem.W.WData renaming int->Ks
open PySem.Builtin.Dict renaming missed->Kt
open PySem.Heap.DictOf renaming new->LJ
theorem oe1{α:Sort u}{p:α->Prop}{G:Prop}(h:∃a,p a)(k:∀a,p a->G):G:=h.elim k
theorem oe2{α:Sort u}{β:Sort v}{p:α->β->Prop}{G:Prop}(h:∃a b,p a b)(k:∀a b,p a b->G):G:=oe1 h λa h=>oe1 h (k a)
theorem oe3{α:Sort u}{β:Sort v}{γ:Sort w}{p:α->β->γ->Prop}{G:Prop}(h:∃a b c,p a b c)(k:∀a b c,p a b c->G):G:=oe1 h λa h=>oe2 h (k a)
theorem oe4{α:Sort u}{β:Sort v}{γ:Sort w}{δ:Sort x}{p:α->β->γ->δ->Prop}{G:Prop}(h:∃a b c d,p a b c d)(k:∀a b c d,p a b c d->G):G:=oe1 h λa h=>oe3 h (k a)
theorem oe5{α:Sort u}{β:Sort v}{γ:Sort w}{δ:Sort x}{ε:Sort y}{p:α->β->γ->δ->ε->Prop}{G:Prop}(h:∃a b c d e,p a b c d e)(k:∀a b c d e,p a b c d e->G):G:=oe1 h λa h=>oe4 h (k a)
theorem oe6{α:Sort u}{β:Sort v}{γ:Sort w}{δ:Sort x}{ε:Sort y}{ζ:Sort z}{p:α->β->γ->δ->ε->ζ->Prop}{G:Prop}(h:∃a b c d e f,p a b c d e f)(k:∀a b c d e f,p a b c d e f->G):G:=oe1 h λa h=>oe5 h (k a)
theorem oa2{A B G:Prop}(h:A∧B)(k:A->B->G):G:=k h.1 h.2
theorem oa3{A B C G:Prop}(h:A∧B∧C)(k:A->B->C->G):G:=oa2 h.2 (k h.1)
theorem oa4{A B C D G:Prop}(h:A∧B∧C∧D)(k:A->B->C->D->G):G:=oa3 h.2 (k h.1)
theorem oa5{A B C D E G:Prop}(h:A∧B∧C∧D∧E)(k:A->B->C->D->E->G):G:=oa4 h.2 (k h.1)
theorem oa6{A B C D E F G:Prop}(h:A∧B∧C∧D∧E∧F)(k:A->B->C->D->E->F->G):G:=oa5 h.2 (k h.1)
theorem oa7{A B C D E F H G:Prop}(h:A∧B∧C∧D∧E∧F∧H)(k:A->B->C->D->E->F->H->G):G:=oa6 h.2 (k h.1)
theorem oa8{A B C D E F H I G:Prop}(h:A∧B∧C∧D∧E∧F∧H∧I)(k:A->B->C->D->E->F->H->I->G):G:=oa7 h.2 (k h.1)
open Lean in
local macro_rules|`(tactic|obtain⟨$ps,*⟩:=$e:term)=>do
 let ps:=ps.getElems
 let n:=ps.size
 let rec br(f:Nat)(s:Syntax):Bool:=match f with
  |0=>false
  |f+1=>s.getKind==``Lean.Parser.Tactic.rcasesPatMed&&s[0].getArgs.size>1||s.getArgs.any (br f)
 if n<2||ps.any (br 20 ·) then
  Macro.throwUnsupported
 let rec pl(f:Nat)(s:Syntax):Syntax:=match f with
  |0=>s
  |f+1=>if s.isIdent then s else if s.getArgs.size==1&&s.getKind != ``Lean.Parser.Tactic.rcasesPat.ignore||s.getArgs.size==2&&s[1].getArgs.size==0 then pl f s[0] else s
 let mut ts:Array (Array (TSyntax `tactic)):=#[]
 for p in ps do
  let q:=pl 8 p.raw
  let j ← withFreshMacroScope `(z)
  let j:Ident:=⟨j.raw⟩
  if q.isIdent&&q.getId != `rfl then
   ts:=ts.push #[← `(tactic|intro $(⟨q⟩):ident)]
  else
   ts:=ts.push #[← `(tactic|intro $j:ident),← if q.isIdent then `(tactic|subst $j:ident) else if q.getKind==``Lean.Parser.Tactic.rcasesPat.ignore then `(tactic|skip) else if p.raw[1].getArgs.size==0 then `(tactic|obtain $(⟨p.raw[0]⟩):rcasesPatMed:=$j:ident) else `(tactic|rcases $j:ident with $p:rcasesPatLo)]
 let cl ← if e.raw.isIdent then `(tactic|try clear $(⟨e.raw⟩):ident) else `(tactic|skip)
 let mut al:Array (TSyntax ``Lean.Parser.Tactic.tacticSeq):=#[]
 for (c,b,t) in [("oe",1,6),("oa",2,8)] do
  for k' in [0:t] do
   let k:=t-k'
   let u:=if c=="oe" then k+1 else k
   if b<=k&&u<=n then
    let x:=mkIdent (.str .anonymous s!"{c}{k}")
    let mut pp:=(ts.extract 0 (if u==n then n else u-1)).foldl (·++·) #[]
    if u<n then
     let rs:=ps.extract (u-1) n
     pp:=pp ++ #[← `(tactic|intro h),← `(tactic|obtain⟨$rs,*⟩:=h)]
    al:=al.push (← `(Lean.Parser.Tactic.tacticSeq|refine $x $e ?_;$cl;$[$pp]*))
 `(tactic|first $[|$al]*|rcases $e:term with⟨$(ps),*⟩)
namespace PySem
noncomputable instance decPyData:DecidableEq Ai:=λa b=>Classical.propDecidable (a=b)
namespace NK
mutual
noncomputable def lit:Ai->Bool
 |.int _=>AD
 |.str x=>Ep (.str x)
 |.tuple ds=>lits ds
 |_=>AE
noncomputable def lits:List Ai->Bool
 |[]=>AD
 |d::r=>lit d&&lits r
end
mutual
theorem am6:∀d:Ai,lit d=AD->d.canLay0=AD
 |.int _,_=>rfl
 |.str _,h=>h
 |.tuple ds,h=>by rw[Ep];exact a06 ds h
 |.none,h=>nomatch h
 |.bool _,h=>nomatch h
 |.list _,h=>nomatch h
 |.dict _,h=>nomatch h
theorem a06:∀ds:List Ai,lits ds=AD->DI ds=AD
 |[],_=>rfl
 |d::r,h=>by
  have h':lit d=AD/\lits r=AD:=by simpa[lits]using h
  show(d.canLay0&&DI r)=AD;rw[am6 d h'.1,a06 r h'.2];rfl
end
mutual
theorem eqv_lit:∀x y:Ai,lit x=AD->lit y=AD->(At x y=AD↔x=y)
 |.int i,.int j,_,_=>by rw[At];simp
 |.int i,.str y,_,_=>by simp[At]
 |.int i,.tuple ys,_,_=>by simp[At]
 |.str x,.int j,_,_=>by simp[At]
 |.str x,.str y,_,_=>by rw[At];simp
 |.str x,.tuple ys,_,_=>by simp[At]
 |.tuple xs,.int j,_,_=>by simp[At]
 |.tuple xs,.str y,_,_=>by simp[At]
 |.tuple xs,.tuple ys,hx,hy=>by rw[At,a67 xs ys hx hy];simp
 |.none,_,h,_=>nomatch h
 |.bool _,_,h,_=>nomatch h
 |.list _,_,h,_=>nomatch h
 |.dict _,_,h,_=>nomatch h
 |_,.none,_,h=>nomatch h
 |_,.bool _,_,h=>nomatch h
 |_,.list _,_,h=>nomatch h
 |_,.dict _,_,h=>nomatch h
theorem a67:∀xs ys:List Ai,lits xs=AD->lits ys=AD->(CK xs ys=AD↔xs=ys)
 |[],[],_,_=>by simp[CK]
 |[],y::ys,_,_=>by simp[CK]
 |x::xs,[],_,_=>by simp[CK]
 |x::xs,y::ys,hx,hy=>by
  have hx':lit x=AD/\lits xs=AD:=by simpa[lits]using hx
  have hy':lit y=AD/\lits ys=AD:=by simpa[lits]using hy
  rw[CK,BJ,eqv_lit x y hx'.1 hy'.1,a67 xs ys hx'.2 hy'.2];simp
end
theorem al7:∀{b:List Ai},lits b=AD->∀d∈b,lit d=AD
 |[],_,d,h=>by cases h
 |e::r,c,d,h=>by
  have a:lit e=AD/\lits r=AD:=by simpa[lits]using c
  rcases AN.mp h with rfl|h
  ·exact a.1
  ·exact al7 a.2 d h
theorem ak8:∀{a:List Ai}{d:Ai},d∈a->d.depth<=Bs a
 |e::r,d,h=>by
  show d.depth<=max e.depth (Bs r)
  rcases AN.mp h with rfl|h
  ·lia
  ·have:=ak8 h;lia
def depth_tup{ds:List Ai}:(PyData.tuple ds).depth=Bs ds+1:=by rw[Dm]
mutual
theorem bh9{h:BC}:∀(x y:Ai){v:AG}{as bs:List AH},lit x=AD->lit y=AD->Reads h v x as->Reads h v y bs->x=y
 |.int i,y,v,as,bs,_,hy,rx,ry=>by
  cases rx;cases ry;rfl
 |.str x,y,v,as,bs,_,hy,rx,ry=>by
  cases rx;cases ry;rfl
 |.tuple xs,y,v,as,bs,hx,hy,rx,ry=>by
  cases rx with
  |tuple e1 e2 e3 e4=>
   cases ry with
   |tuple f1 f2 f3 f4=>
    rw[e1]at f1;cases f1;rw[e3]at f3;cases f3;rw[a97 xs _ hx hy e4 f4]
   |list=>cases hy
   |dict=>cases hy
 |.none,_,_,_,_,h,_,_,_=>nomatch h
 |.bool _,_,_,_,_,h,_,_,_=>nomatch h
 |.list _,_,_,_,_,h,_,_,_=>nomatch h
 |.dict _,_,_,_,_,h,_,_,_=>nomatch h
theorem a97{h:BC}:∀(xs ys:List Ai){vs:List AG}{as bs:List AH},lits xs=AD->lits ys=AD->ReadsAll h vs xs as->ReadsAll h vs ys bs->xs=ys
 |[],ys,vs,as,bs,_,_,rx,ry=>by cases rx;cases ry;rfl
 |x::xs,ys,vs,as,bs,hx,hy,rx,ry=>by
  cases rx with
  |cons r1 r2=>cases ry with
   |@cons _ _ y ys _ _ q1 q2=>
    have hx':lit x=AD/\lits xs=AD:=by simpa[lits]using hx
    have hy':lit y=AD/\lits ys=AD:=by simpa[lits]using hy
    rw[bh9 x y hx'.1 hy'.1 r1 q1,a97 xs ys hx'.2 hy'.2 r2 q2]
end
mutual
theorem bc6{h h':BC}{d:AH}{o:Obj}{es:Array Do}{ep:Nat}(ho:h.get? d=AA o)(hd:o.data=.dict es ep)(hs:Ba d h h'):∀(x:Ai){v:AG}{as:List AH},lit x=AD->Reads h v x as->∃bs,Reads h' v x bs
 |.int i,v,as,_,r=>by cases r;exact⟨_,.int _ _⟩
 |.str x,v,as,_,r=>by cases r;exact⟨_,.str _ _⟩
 |.tuple xs,v,as,hx,r=>by
  cases r with
  |@tuple a o' _ _ _ _ e1 e2 e3 e4=>
   have hne:a≠d:=by
    rintro rfl;rw[e1]at ho;cases ho;rw[hd]at e3;exact nomatch e3
   obtain⟨bs,r'⟩:=a05 ho hd hs xs hx e4;exact⟨_,.tuple ((hs.2 a hne).trans e1) e2 e3 r'⟩
 |.none,_,_,h,_=>nomatch h
 |.bool _,_,_,h,_=>nomatch h
 |.list _,_,_,h,_=>nomatch h
 |.dict _,_,_,h,_=>nomatch h
theorem a05{h h':BC}{d:AH}{o:Obj}{es:Array Do}{ep:Nat}(ho:h.get? d=AA o)(hd:o.data=.dict es ep)(hs:Ba d h h'):∀(xs:List Ai){vs:List AG}{as:List AH},lits xs=AD->ReadsAll h vs xs as->∃bs,ReadsAll h' vs xs bs
 |[],vs,as,_,r=>by cases r;exact⟨_,.nil⟩
 |x::xs,vs,as,hx,r=>by
  cases r with
  |cons r1 r2=>
   have hx':lit x=AD/\lits xs=AD:=by simpa[lits]using hx
   obtain⟨b1,q1⟩:=bc6 ho hd hs x hx'.1 r1;obtain⟨b2,q2⟩:=a05 ho hd hs xs hx'.2 r2;exact⟨_,.cons q1 q2⟩
end
mutual
noncomputable def hK(w:Ax):Ai->Int
 |.int i=>hashInt i
 |.str x=>hashStr w x
 |.tuple ds=>reduceHash (Bf (hKs w ds))
 |_=>0
noncomputable def hKs(w:Ax):List Ai->List Int
 |[]=>[]
 |d::r=>hK w d::hKs w r
end
mutual
noncomputable def dw:Ai->Nat
 |.tuple ds=>dws ds+1
 |_=>1
noncomputable def dws:List Ai->Nat
 |[]=>0
 |d::r=>dw d+dws r
end
theorem ao1(w:Ax):∀(a b:List Ai),hKs w (a++b)=hKs w a++hKs w b
 |[],b=>rfl
 |x::a,b=>by rw[CM,hKs,ao1 w a b];rfl
theorem ao3:∀(a b:List Ai),dws (a++b)=dws a+dws b
 |[],b=>by simp[dws]
 |x::a,b=>by rw[CM,dws,ao3 a b,dws,EJ]
variable {prog:An} {w:Ax}
def b74:∀(n:Nat)(d:Ai),d.depth<=n->lit d=AD->∀{A:BU}{E:AG->AK->Prop}{s:AK}{v:AG}{y:List AH}{Q:Int->AK->Prop},A.units+n<Bw->Reads s.heap v d y->Q (hK w d) {s with toks:=s.toks+dw d}->AR (model prog w) A (pyHash v) Q E s:=by
 intro n
 induction n with
 |zero=>
  intro d hd c A E s v y Q hu r h;cases r with
  |int i t=>exact Gz (by simpa[hK,dw]using h)
  |str x t=>exact Ex (by simpa[hK,dw]using h)
  |tuple=>rw[depth_tup]at hd;lia
  |none=>cases c
  |bool=>cases c
  |list=>cases c
  |dict=>cases c
 |succ n ih=>
  intro d hd c A E s v y Q hu r h;cases r with
  |int i t=>exact Gz (by simpa[hK,dw]using h)
  |str x t=>exact Ex (by simpa[hK,dw]using h)
  |none=>cases c
  |bool=>cases c
  |list=>cases c
  |dict=>cases c
  |@tuple a o C m z y ho hc hda hi=>
   rw[depth_tup]at hd;have hl':lits z=AD:=c;have u:s.TypeIs (.ref a) "tuple":=⟨o,ho,hc⟩;unfold pyHash
   first|unfold pyHashByItsType|skip
   first|refine AC (wpAny_cRoomFor_or (.inr ⋯) ?_)|skip
   refine AC (Bm u Ea.lookup ?_);show AR _ _ (if(AA (Value.builtin "tuple.__hash__")==AA Bc)=AD then _ else _) Q E s;rw[if_neg (by rw[KO];exact AI)];refine AC (Bm u Ea.lookup ?_);show AR _ _ (callSpecialIfBoundUnlessNone? (.ref a) "__hash__" _>>=_) Q E s;refine AC (wpAny_callSpecialIfBoundUnlessNone?_slot u Ea (BL Ea u F.entry_tuple_hash ?_ (F.args_tuple_hash_1 _)));show AR _ _ (DX (.ref a)>>=_) _ _ s;refine AC (wpAny_tupleItemsOf ho hda ?_);refine AC ?_;rw[<-IF];refine KP _
    (λj8(b:Array Int)s'=>∃done left bs,z=done++left/\ReadsAll s.heap j8 left bs/\b.toList=hKs w done/\s'={s with toks:=s.toks+dws done})
    _ ?_ ?_ _ _ ⟨[],z,_,rfl,hi,rfl,rfl⟩
   ·rintro x j8 b s' ⟨done,left,bs,rfl,hl2,hb,rfl⟩;cases hl2 with
    |@cons _ _ k f _ _ h1 j=>
     have hk:k∈done++k::f:=by simp
     refine AC (ih k (by have:=ak8 hk;lia) (al7 hl' k hk) ?_ h1 ?_)
     ·show A.units+1+n<Bw;lia
     first
      |exact AL ⟨done++[k],f,_,∎,j,by rw[ao1];simp[hb,hKs],by simp[ao3,dws,EJ]⟩
      |exact AC (AL (AL ⟨done++[k],f,_,∎,j,by rw[ao1];simp[hb,hKs],by simp[ao3,dws,EJ]⟩))
   ·rintro b s' ⟨done,left,bs,rfl,hl2,hb,rfl⟩;cases hl2;rw[BZ]at h;simp only[hK,dw]at h;show AR _ _ (retInt (Bf b.toList)) _ _ _;rw[hb];refine wpAny_ret_mkInt ?_;show AR _ _ (if(AB (-(2:Int)^63<=Bf (hKs w done))&&AB (Bf (hKs w done)<2^63))=AD then _ else _) Q E _;unfold reduceHash at h
    by_cases q:(AB (-(2:Int)^63<=Bf (hKs w done))&&AB (Bf (hKs w done)<2^63))=AD
    ·rw[if_pos q];rw[if_pos q]at h;exact AL (by simpa[EJ]using h)
    ·rw[if_neg q];rw[if_neg q]at h;exact AC (DN (AL (by simpa[EJ]using h)))
def b05:∀(n:Nat)(d:Ai),d.depth<=n->lit d=AD->∀{A:BU}{E:AG->AK->Prop}{s:AK}{v:AG}{l:List AH}{Q:Bool->AK->Prop},Reads s.heap v d l->Q AD s->AR (model prog w) A (eqIsQuiet n v) Q E s:=by
 intro n
 induction n with
 |zero=>
  intro d hd b A E s v l Q r h;cases r with
  |int i t=>rw[Ee _ rfl];exact AL h
  |str x t=>rw[Ee _ rfl];exact AL h
  |tuple=>rw[depth_tup]at hd;lia
  |none=>cases b
  |bool=>cases b
  |list=>cases b
  |dict=>cases b
 |succ n ih=>
  intro d hd b A E s v l Q r h;cases r with
  |int i t=>rw[Ee _ rfl];exact AL h
  |str x t=>rw[Ee _ rfl];exact AL h
  |none=>cases b
  |bool=>cases b
  |list=>cases b
  |dict=>cases b
  |@tuple a o e m xs l ho hc C hi=>
   rw[depth_tup]at hd;have B:lits xs=AD:=b;have hT:s.TypeIs (.ref a) "tuple":=⟨o,ho,hc⟩;unfold eqIsQuiet;refine AC (Bm hT F.slot_tuple_eq.lookup ?_);show AR _ _ (isInstance (.ref a) (.type "tuple")>>=_) _ _ s;refine AC (Ey hT isSubtype_tuple_tuple ?_);simp only[EK,BE,if_false];refine AC (BR ho C ?_);refine AC ?_;show AR _ _ (forIn e _ _) _ _ s;rw[<-IF];refine KP _ (λj8 r s'=>r.1=AF/\s'=s/\∃left bs,(∀k∈left,lit k=AD/\k.depth<=n)/\ReadsAll s.heap j8 left bs) _ ?_ ?_ _ _ ⟨rfl,rfl,xs,_,λk hk=>⟨al7 B k hk,by have:=ak8 hk;lia⟩,hi⟩
   ·rintro v j8 r s' ⟨hr,rfl,left,bs,hall,hl2⟩;cases hl2 with
    |@cons _ _ k q _ _ h1 z=>
     obtain⟨k1,k2⟩:=hall k ∎;refine AC (ih k k2 k1 h1 ?_);simp only[EK,BE,if_false];exact AL ⟨rfl,rfl,q,_,λu hu'=>hall u (by simp[hu']),z⟩
   ·rintro⟨r1,r2⟩ s' ⟨hr,rfl,_⟩;simp only at hr;subst hr;exact AL h
abbrev isK(h:BC)(k:Ai)(a:AH):Prop:=lit k=AD/\k.depth<=7/\∃as,Reads h (.ref a) k as
abbrev dataKind(prog:An)(w:Ax):HeapKind prog w Ai where
 is:=isK
 hash:=hK w
 draws:=dw
 room:=λA=>A.units+8<Bw
 inj:=λ⟨l1,_,_,r1⟩⟨l2,_,_,r2⟩=>bh9 _ _ l1 l2 r1 r2
 keeps:=λ⟨l1,d1,_,r1⟩ho hd hs=>⟨l1,d1,bc6 ho hd hs _ l1 r1⟩
 pyHash:=λhu⟨l1,d1,_,r1⟩h=>b74 7 _ d1 l1 ⋯ r1 h
 eqBool:=λ{A E s x y a b Q}hu⟨l1,d1,_,r1⟩⟨l2,d2,_,r2⟩h=>by
  have e:At x y=AB (x=y):=by
   by_cases z:x=y
   ·rw[decide_eq_true z];exact(eqv_lit x y l1 l2).mpr z
   ·rw[decide_eq_false z];cases q:At x y with
    |false=>rfl
    |true=>exact absurd ((eqv_lit x y l1 l2).mp q) z
  have:=SeqAt.eqAt_reads x y A s _ _ _ _ r1 r2 (am6 x l1) (am6 y l2) (by have:min x.depth y.depth<=x.depth:=Ef _ _;lia);rw[e]at this;exact this prog w E Q h
 quiet:=λ⟨l1,d1,_,r1⟩h=>b05 8 _ ⋯ l1 r1 h
def dataKind_room_in1{prog:An}{w:Ax}{A:BU}(h:A.units+20<Bw):(dataKind prog w).room A.in1:=by
 show A.units+1+8<Bw;lia
end NK
end PySem
set_option maxRecDepth 100000
namespace L2
open PySem PySem.Spec PyProof.Rows
@[reducible]noncomputable def Key:=Sum Int Str
abbrev V1:Key->AG->Bool
 |.inl k,v=>GK k v
 |.inr x,v=>HA x v
abbrev dd5(w:Ax):Key->Int
 |.inl k=>hashInt k
 |.inr x=>hashStr w x
def G8:∀{k:Key}{v:AG},V1 k v=AD->(∃i t,k=FT i/\v=ER i t)\/(∃x t,k=GA x/\v=ES x t)
 |.inl i,v,h=>by
  obtain⟨t,e⟩:=Fl (k:=i) (v:=v) h;exact .inl ⟨i,t,rfl,e⟩
 |.inr x,v,h=>by
  obtain⟨t,e⟩:=Hz (x:=x) (v:=v) h;exact .inr ⟨x,t,rfl,e⟩
def bu9(i:Int)(t:Tok):V1 (.inl i) (.int i t)=AD:=by simp[V1,GK]
def bt7(x:Str)(t:Tok):V1 (.inr x) (.str x t)=AD:=by simp[V1,HA]
def cu1(a b:Int):AB ((FT a:Key)=FT b)=(a==b):=by
 by_cases e:a=b
 ·subst e;simp
 ·have h:¬(FT a:Key)=FT b:=λq=>e (Sum.inl.inj q);rw[decide_eq_false h];exact(beq_eq_false_iff_ne.mpr e).symm
def cu0(a b:Str):AB ((GA a:Key)=GA b)=AB (a=b):=by
 by_cases e:a=b
 ·subst e;simp
 ·have h:¬(GA a:Key)=GA b:=λq=>e (Sum.inr.inj q);rw[decide_eq_false h,decide_eq_false e]
def cm5(a:Int)(b:Str):AB ((FT a:Key)=GA b)=AE:=decide_eq_false (λq=>nomatch q)
def cr7(a:Str)(b:Int):AB ((GA a:Key)=FT b)=AE:=decide_eq_false (λq=>nomatch q)
abbrev M9(prog:An)(w:Ax):PySem.KeyKind prog w Key where
 is:=V1
 hash:=dd5 w
 inj:=λv a b ha hb=>by
  rcases G8 ha with⟨i,t,rfl,rfl⟩|⟨x,t,rfl,rfl⟩
  ·rcases G8 hb with⟨j,u,rfl,e⟩|⟨y,u,rfl,e⟩
   ·injection e with e1 _;rw[e1]
   ·exact nomatch e
  ·rcases G8 hb with⟨j,u,rfl,e⟩|⟨y,u,rfl,e⟩
   ·exact nomatch e
   ·injection e with e1 _;rw[e1]
 byValue:=λk v h=>by
  rcases G8 h with⟨i,t,rfl,rfl⟩|⟨x,t,rfl,rfl⟩<;>rfl
 pyHash:=λhv h=>by
  rcases G8 hv with⟨i,t,rfl,rfl⟩|⟨x,t,rfl,rfl⟩
  ·exact Gz h
  ·exact Ex h
 eqBool:=λhu hv h=>by
  rcases G8 hu with⟨i,t,rfl,rfl⟩|⟨x,t,rfl,rfl⟩
  ·rcases G8 hv with⟨j,u,rfl,rfl⟩|⟨y,u,rfl,rfl⟩
   ·rw[cu1]at h;exact wpAny_eqBool_int h
   ·rw[cm5]at h;exact SeqAt.EqAt.int_str i t y u _ _ _ _ h
  ·rcases G8 hv with⟨j,u,rfl,rfl⟩|⟨y,u,rfl,rfl⟩
   ·rw[cr7]at h;exact SeqAt.EqAt.str_int x t j u _ _ _ _ h
   ·rw[cu0]at h;exact wpAny_eqBool_str h
 «strs»:=λk x t v h=>by
  rcases G8 h with⟨i,u,rfl,e⟩|⟨y,u,rfl,e⟩
  ·exact nomatch e
  ·injection e with e1 _
   subst e1;cases v<;>rfl
def bo5(prog:An)(w:Ax)(i:Int)(t:Tok):(M9 prog w).is (.inl i) (.int i t)=AD:=bu9 i t
def bo7(prog:An)(w:Ax)(x:Str)(t:Tok):(M9 prog w).is (.inr x) (.str x t)=AD:=bt7 x t
variable{a b:AH}{h h':BC}{P:An}
inductive V where
 |non|bl (b:Bool)|int (i:Int)|str (x:Str)|byt (b:Array UInt8)|flt (b:UInt64)|ref (a:AH)|ty (n:String)
 deriving DecidableEq
abbrev i6:V->AG->Prop
 |.non,u=>u=Bc
 |.bl b,u=>u=FY b
 |.int i,u=>∃t,u=ER i t
 |.str x,u=>∃t,u=ES x t
 |.byt b,u=>∃t,u=Jt b t
 |.flt b,u=>∃t,u=Hm b t
 |.ref a,u=>u=Ap a
 |.ty n,u=>u=Cm n
@[reducible]noncomputable def g9:List V->List AG->Prop:=Paired i6
theorem g9.length{a:List V}{us:List AG}(r:g9 a us):a.length=us.length:=Paired.length r
theorem g9.get:∀{a:List V}{b:List AG}{i:Nat}{x:V},g9 a b->a[i]?=AA x->∃u,b[i]?=AA u/\i6 x u
 |_,_,_,_,.nil,e=>by simp at e
 |_,_,0,_,.cons r _,e=>by simp at e;subst e;exact⟨_,rfl,r⟩
 |_,_,i+1,x,.cons _ t,e=>by
  obtain⟨u,d,c⟩:=g9.get (i:=i) (x:=x) t (by simpa using e);exact⟨u,by simpa using d,c⟩
theorem g9.set{x:V}{u:AG}(r:i6 x u):∀{a:List V}{b:List AG}(i:Nat),g9 a b->g9 (a.set i x) (b.set i u)
 |_,_,_,.nil=>.nil
 |_,_,0,.cons _ t=>.cons r t
 |_,_,i+1,.cons q t=>.cons q (g9.set r i t)
theorem g9.append:∀{b a:List V}{d c:List AG},g9 b d->g9 a c->g9 (b++a) (d++c)
 |_,_,_,_,.nil,s=>s
 |_,_,_,_,.cons r t,s=>.cons r (g9.append t s)
theorem g9.take:∀{a:List V}{b:List AG}(n:Nat),g9 a b->g9 (a.take n) (b.take n)
 |_,_,0,_=>.nil
 |_,_,_+1,.nil=>.nil
 |_,_,n+1,.cons r t=>.cons r (g9.take n t)
theorem g9.drop:∀{a:List V}{b:List AG}(n:Nat),g9 a b->g9 (a.drop n) (b.drop n)
 |_,_,0,r=>r
 |_,_,_+1,.nil=>.nil
 |_,_,n+1,.cons _ t=>g9.drop n t
abbrev A4:Option V->Option AG->Prop
 |some v,AA u=>i6 v u
 |none,AF=>True
 |_,_=>False
abbrev KV{κ:Type}:List (κ×V)->List (κ×AG)->Prop:=Paired λ(p:κ×V)(q:κ×AG)=>p.1=q.1/\i6 p.2 q.2
abbrev kV:Key->V
 |.inl i=>.int i
 |.inr x=>.str x
inductive HO where
 |lst (xs:List V)
 |tup (xs:List V)
 |dK (kvs:List (Key×V))|dT (kvs:List (Ai×V))
 |set (S:Int->Bool) (n:Nat)
 |ins (C dx:AH) (fs:List (Str×V))
 |own (x:AH)
 |xd (fs:List (Str×V))
 |met (f x:AH)
 |rng (lo hi:Int)
 |frz (o:Obj) (u:HO)
 |tbl (ps:Array AG)
 |ext (φ:BC->Prop)
variable{o:HO}
@[reducible]noncomputable def Hp:=AH->Option HO
variable{H:Hp}
abbrev upd(H:Hp)(a:AH)(o:HO):Hp:=λb=>if b=a then AA o else H b
def p8:upd H a o a=AA o:=by unfold upd;rw[if_pos rfl]
def i9(h:b≠a):upd H a o b=H b:=by unfold upd;rw[if_neg h]
def c33{u:HO}(h:H a=AA o)(h':H b=AA u)(d:o≠u):a≠b:=by
 intro e;subst e;rw[h]at h';exact d (Av h')
def v4(h:H a=AA o)(h':H b=AF):a≠b:=by
 intro e;subst e;rw[h]at h';cases h'
mutual
noncomputable def HRd(H:Hp):Ai->V->Prop
 |.int i,v=>v=.int i
 |.str x,v=>v=.str x
 |.tuple ds,v=>∃a vs,v=.ref a/\H a=AA (.tup vs)/\M0 H ds vs
 |_,_=>False
noncomputable def M0(H:Hp):List Ai->List V->Prop
 |[],vs=>vs=[]
 |d::ds,vs=>∃v r,vs=v::r/\HRd H d v/\M0 H ds r
end
mutual
theorem HRd.keeps{H H':Hp}(ht:∀b ys,H b=AA (.tup ys)->H' b=AA (.tup ys)):∀(d:Ai){v:V},HRd H d v->HRd H' d v
 |.int i,v,h=>h
 |.str x,v,h=>h
 |.tuple ds,v,h=>let⟨a,vs,e,h1,h2⟩:=h;⟨a,vs,e,ht a vs h1,M0.keeps ht ds h2⟩
 |.none,_,h=>h.elim
 |.bool _,_,h=>h.elim
 |.list _,_,h=>h.elim
 |.dict _,_,h=>h.elim
theorem M0.keeps{H H':Hp}(ht:∀b ys,H b=AA (.tup ys)->H' b=AA (.tup ys)):∀(ds:List Ai){vs:List V},M0 H ds vs->M0 H' ds vs
 |[],vs,h=>h
 |d::ds,vs,h=>let⟨v,r,e,h1,h2⟩:=h;⟨v,r,e,HRd.keeps ht d h1,M0.keeps ht ds h2⟩
end
abbrev D8(H:Hp)(d:Ai)(b:AH):Prop:=NK.lit d=AD/\d.depth<=7/\HRd H d (.ref b)
theorem D8.keeps{H':Hp}{d:Ai}(h:D8 H d b)(c:∀b a,H b=AA (.tup a)->H' b=AA (.tup a)):D8 H' d b:=⟨h.1,h.2.1,HRd.keeps c d h.2.2⟩
abbrev D2(h:BC)(a:AH)(items:Array AG):Prop:=∃o,h.get? a=AA o/\o.cls=.type "tuple"/\o.dict=AF/\∃n,o.data=.seq items n
def D2.tup{b:Array AG}(x:D2 h a b):Hn h a b:=let⟨o,e,c,_,d⟩:=x;⟨o,e,c,d⟩
def D2.lt{b:Array AG}(x:D2 h a b):a<h.objs.size:=let⟨_,e,_⟩:=x;Az e
def D2.new(h:BC)(a:Array AG):D2 (h.push {cls:=.type "tuple",data:=.seq a}) h.objs.size a:=⟨_,Ae _ rfl,rfl,rfl,_,rfl⟩
section
variable (P:An) (w:Ax)
abbrev o7(H:Hp)(h:BC)(a:AH):HO->Prop
 |.lst xs=>xs.length<=sizeLine/\∃(its:List AG)(n:Nat),g9 xs its/\h.get? a=AA {cls:=.type "list",data:=.seq its.toArray n}
 |.tup xs=>xs.length<=sizeLine/\∃its:List AG,g9 xs its/\D2 h a its.toArray
 |.dK kvs=>kvs.length<=sizeLine/\(a==CS)=AE/\∃vs,KV kvs vs/\h.DictOf (M9 P w) a vs
 |.dT kvs=>kvs.length<=sizeLine/\(a==CS)=AE/\∃xs:List (Ai×AH×AG),
   Paired (λ(p:Ai×V)(q:Ai×AH×AG)=>p.1=q.1/\D8 H p.1 q.2.1/\i6 p.2 q.2.2) kvs xs /\
   ∃o es ep,h.get? a=AA o/\o.ExactDict/\o.data=.dict es ep/\es.toList=xs.map (entryOfKey (NK.dataKind P w))/\(xs.map (·.1)).Nodup
 |.set S n=>h.SetOf (intKind P w) a S n
 |.ins C dx fs=>H dx=AA (.own a)/\fs.length<=1000/\dx≠a/\h.get? a=AA (EE C dx) /\
   ∃mA,h.Ns1 dx mA/\(∀f,A4 (fs.lookup f) (mA f))/\PySem.Within mA (fs.map (·.1))
 |.own _=>∃o,h.get? a=AA o
 |.xd fs=>∃mA,h.Ns1 a mA/\∀f,A4 (fs.lookup f) (mA f)
 |.rng lo hi=>∃t u v,h.get? a=AA {cls:=.type "range",data:=.fields #[.int lo t,.int hi u,.int 1 v]}
 |.frz o u=>h.get? a=AA o/\o7 H h a u
 |.tbl ps=>h.get? a=AA {cls:=.none,data:=.fields ps}
 |.met f x=>h.get? a=AA (Ia (.ref f) (.ref x))
 |.ext φ=>φ h/\(∃o,h.get? a=AA o)/\∀h1 h2:BC,φ h1->(∀o,h1.get? a=AA o->h2.get? a=AA o)->φ h2
abbrev HOk(H:Hp)(h:BC):Prop:=∀a o,H a=AA o->o7 P w H h a o
end
section
variable {w:Ax} {H':Hp} 
theorem o7.lt(x:o7 P w H h a o):a<h.objs.size:=by
 cases o with
 |lst c=>obtain⟨_,_,_,_,e⟩:=x;exact Az e
 |tup c=>obtain⟨_,_,_,p⟩:=x;exact p.lt
 |dK b=>obtain⟨_,_,_,_,o,_,_,e,_⟩:=x;exact Az e
 |dT b=>obtain⟨_,_,_,_,o,_,_,e,_⟩:=x;exact Az e
 |set S n=>obtain⟨o,_,_,_,e,_⟩:=x;exact Az e
 |ins C dx r=>obtain⟨_,_,_,e,_⟩:=x;exact Az e
 |own y=>obtain⟨_,e⟩:=x;exact Az e
 |xd r=>obtain⟨_,⟨_,_,_,e,_⟩,_⟩:=x;exact Az e
 |rng lo hi=>obtain⟨_,_,_,e⟩:=x;exact Az e
 |frz ob u=>obtain⟨e,_⟩:=x;exact Az e
 |tbl ps=>exact Az (show h.get? a=AA _ from x)
 |met f y=>exact Az (show h.get? a=AA _ from x)
 |ext t=>obtain⟨_,⟨_,e⟩,_⟩:=x;exact Az e
theorem Paired.mapP{g e:Type}{F G:g->e->Prop}:∀{d:List g}{c:List e},Paired F d c->(∀a b,F a b->G a b)->Paired G d c
 |_,_,.nil,_=>.nil
 |_,_,.cons r t,f=>.cons (f _ _ r) (Paired.mapP t f)
def o7.stay(x:o7 P w H h a o)(k:∀b u,(b=a\/H b=AA (.own a))->h.get? b=AA u->h'.get? b=AA u)
  (ho:∀b,H b=AA (.own a)->H' b=AA (.own a)) (ht:∀b m,H b=AA (.tup m)->H' b=AA (.tup m)):o7 P w H' h' a o:=by
 induction o with
 |lst m=>obtain⟨z,l,n,r,e⟩:=x;exact⟨z,l,n,r,k _ _ (.inl rfl) e⟩
 |tup m=>obtain⟨z,l,r,g,e,c⟩:=x;exact⟨z,l,r,g,k _ _ (.inl rfl) e,c⟩
 |dK B=>obtain⟨z,y,F,r,g,i,j,e,c⟩:=x;exact⟨z,y,F,r,g,i,j,k _ _ (.inl rfl) e,c⟩
 |dT B=>
  obtain⟨z,y,m,r,g,i,j,e,c⟩:=x;exact⟨z,y,m,Paired.mapP r λp q z=>⟨z.1,z.2.1.keeps ht,z.2.2⟩,g,i,j,k _ _ (.inl rfl) e,c⟩
 |set S n=>obtain⟨g,i,j,t,e,c⟩:=x;exact⟨g,i,j,t,k _ _ (.inl rfl) e,c⟩
 |ins C dx fs=>
  obtain⟨d,z,M,e,A,⟨s,i,j,e2,c⟩,r⟩:=x;exact⟨ho _ d,z,M,k _ _ (.inl rfl) e,A,⟨s,i,j,k _ _ (.inr d) e2,c⟩,r⟩
 |own y=>obtain⟨g,e⟩:=x;exact⟨g,k _ _ (.inl rfl) e⟩
 |xd fs=>obtain⟨A,⟨s,i,j,e,c⟩,r⟩:=x;exact⟨A,⟨s,i,j,k _ _ (.inl rfl) e,c⟩,r⟩
 |rng lo hi=>obtain⟨t,u,v,e⟩:=x;exact⟨t,u,v,k _ _ (.inl rfl) e⟩
 |frz g u ih=>obtain⟨e,q⟩:=x;exact⟨k _ _ (.inl rfl) e,ih q⟩
 |tbl E=>
  have e:h.get? a=AA {cls:=.none,data:=.fields E}:=x;show h'.get? a=AA {cls:=.none,data:=.fields E};exact k a _ (.inl rfl) e
 |met f y=>
  have e:h.get? a=AA (Ia (.ref f) (.ref y)):=x;show h'.get? a=AA (Ia (.ref f) (.ref y));exact k a _ (.inl rfl) e
 |ext φ=>obtain⟨p,⟨o,e⟩,D⟩:=x;exact⟨D _ _ p λo q=>k _ _ (.inl rfl) q,⟨o,k _ _ (.inl rfl) e⟩,D⟩
theorem HOk.lt(x:HOk P w H h)(e:H a=AA o):a<h.objs.size:=(x a o e).lt
def HOk.fresh(x:HOk P w H h)(e:h.objs.size<=a):H a=AF:=by
 cases q:H a with
 |none=>rfl
 |some u=>exact absurd (Aj (x.lt q) e) (CY _)
def HOk.kept(x:HOk P w H h)(k:∀b u,h.get? b=AA u->h'.get? b=AA u):HOk P w H h':=λa o e=>
 (x a o e).stay (λb u _ q=>k b u q) (λ_ q=>q) λ_ _ q=>q
def HOk.laid(x:HOk P w H h)(k:∀b u,h.get? b=AA u->h'.get? b=AA u)(i:h.objs.size<=a)(d:o7 P w (upd H a o) h' a o):HOk P w (upd H a o) h':=λb u e=>by
 have f:=x.fresh i
 by_cases g:b=a
 ·subst g;rw[p8]at e;cases e;exact d
 ·rw[i9 g]at e;exact(x b u e).stay (λc v _ q=>k c v q) (λc q=>by rw[i9 (v4 q f)];exact q) λc xs q=>by rw[i9 (v4 q f)];exact q
end
abbrev Rd(H:Hp)(a:AH)(u:HO):Prop:=H a=AA u\/∃o,H a=AA (.frz o u)
def Rd.ok{w:Ax}{u:HO}(r:Rd H a u)(x:HOk P w H h):o7 P w H h a u:=by
 rcases r with r|⟨o,r⟩
 ·exact x a u r
 ·obtain⟨_,q⟩:=x a _ r;exact q
abbrev Mut:Option HO->Prop
 |some (.lst _)=>True
 |some (.dK _)=>True
 |some (.dT _)=>True
 |some (.set _ _)=>True
 |some (.ins _ _ _)=>True
 |some (.ext _)=>True
 |_=>False
section
variable {w:Ax} {x e:AH} {o':HO}
def HOk.write(s:HOk P w H h)(i:Mut (H x))(p:e=x\/H e=AA (.own x))(k:∀b u,b≠e->h.get? b=AA u->h'.get? b=AA u)(n:∃u,h'.get? e=AA u)
  (m:o7 P w (upd H x o') h' x o'):HOk P w (upd H x o') h':=λb u q=>by
 have d:∀c y,H c=AA (.own y)->c≠x:=λc y r z=>by subst z;rw[r]at i;exact i
 have f:∀c g,H c=AA (.tup g)->c≠x:=λc g r z=>by subst z;rw[r]at i;exact i
 by_cases l:b=x
 ·subst l;rw[p8]at q;cases q;exact m
 ·rw[i9 l]at q
  by_cases a:b=e
  ·have o:H b=AA (.own x):=by
    rcases p with z|z
    ·exact absurd (a.trans z) l
    ·rw[a];exact z
   rw[q]at o;cases o;obtain⟨v,t⟩:=n;exact⟨v,by rw[a];exact t⟩
  ·refine(s b u q).stay (λc v j r=>k c v ?_ r) (λc r=>by rw[i9 (d c b r)];exact r) λc g r=>by rw[i9 (f c g r)];exact r
   rcases j with rfl|j
   ·exact a
   ·rintro rfl
    rcases p with z|z
    ·exact d c b j z
    ·rw[j]at z;cases z;exact l rfl
end
structure Un(fs ex:List AH)(H H':Hp)(h h':BC):Prop where
 keep:∀b o,h.get? b=AA o->H b=AF->b∉fs->b∉ex->h'.get? b=AA o
 slot:∀b o,h.get? b=AA o->H b=AF->b∈fs->b∉ex->∃sl,h'.get? b=AA {o with slots:=sl}
 free:∀b o,h.get? b=AA o->H b=AF->b∉ex->H' b=AF
 there:∀b o,h.get? b=AA o->b∉ex->∃o',h'.get? b=AA o'
 tups:∀b xs,H b=AA (.tup xs)->H' b=AA (.tup xs)
 frzs:∀b o u,H b=AA (.frz o u)->H' b=AA (.frz o u)
 tbls:∀b ps,H b=AA (.tbl ps)->∃more,H' b=AA (.tbl (ps++more))
section
variable {fs fs' ex ex':List AH} {H1 H2:Hp} {h1 h2:BC} {x e:AH} 
def Un.any(u:Un fs ex H H1 h h1){ob:Obj}(q:h.get? b=AA ob)(n:H b=AF)(a:b∉ex):∃d,h1.get? b=AA {ob with slots:=d}:=by
 by_cases c:b∈fs
 ·exact u.slot b ob q n c a
 ·exact⟨ob.slots,u.keep b ob q n c a⟩
def Un.kept(k:∀b u,h.get? b=AA u->h'.get? b=AA u):Un fs ex H H h h':=
 ⟨λb ob q _ _ _=>k b ob q,λb ob q _ _ _=>⟨ob.slots,k b ob q⟩,λ_ _ _ n _=>n,λb ob q _=>⟨ob,k b ob q⟩,λ_ _ q=>q,λ_ _ _ q=>q,λ_ ps q=>⟨#[],by rw[q];simp⟩⟩
def Un.refl:Un fs ex H H h h:=Un.kept λ_ _ q=>q
def Un.laid(k:∀b u,h.get? b=AA u->h'.get? b=AA u)(d:h.objs.size<=a)(c:H a=AF):Un fs ex H (upd H a o) h h' where
 keep:=λb u q _ _ _=>k b u q
 slot:=λb u q _ _ _=>⟨u.slots,k b u q⟩
 free:=λb u q n _=>by rw[i9 (BX (Aj (Az q) d))];exact n
 there:=λb u q _=>⟨u,k b u q⟩
 tups:=λb xs q=>by rw[i9 (v4 q c)];exact q
 frzs:=λb u xs q=>by rw[i9 (v4 q c)];exact q
 tbls:=λb ps q=>⟨#[],by rw[i9 (v4 q c),q];simp⟩
def Un.write(c:Mut (H x))(j:e=x\/H e=AA (.own x))(k:∀b u,b≠e->h.get? b=AA u->h'.get? b=AA u)(f:∃u,h'.get? e=AA u):Un fs ex H (upd H x o) h h':=by
 have g:∀b,H b=AF->b≠x:=λb n z=>by subst z;rw[n]at c;exact c
 have i:∀b,H b=AF->b≠e:=λb n z=>by
  subst z
  rcases j with r|r
  ·exact g b n r
  ·rw[n]at r;cases r
 have d:∀b u,H b=AA u->¬Mut (AA u)->b≠x:=λb u q nm z=>by subst z;rw[q]at c;exact nm c
 refine⟨λb u q n _ _=>k b u (i b n) q,λb u q n _ _=>⟨u.slots,k b u (i b n) q⟩,λb u q n _=>by rw[i9 (g b n)];exact n,λb u q _=>?_,
  λb xs q=>by rw[i9 (d b _ q λz=>z)];exact q,λb u xs q=>by rw[i9 (d b _ q λz=>z)];exact q,λb ps q=>⟨#[],by rw[i9 (d b _ q λz=>z),q];simp⟩⟩
 by_cases a:b=e
 ·subst a;exact f
 ·exact⟨u,k b u a q⟩
end
abbrev trk(h:BC)(H:Hp):List AH:=(DY h.objs.size).filter λa=>(H a).isSome
abbrev G6(h:BC)(H:Hp):BC:=W.hideAll h (trk h H)
def bu8(h:BC)(H:Hp):(G6 h H).objs.size=h.objs.size:=W.hideAll_size _ _
def b43{o:Obj}(e:h.get? b=AA o)(n:H b=AF):(G6 h H).get? b=AA o:=
 W.hideAll_get _ e λhm=>by
  have q:(H b).isSome=AD:=(mem_filter.mp hm).2;rw[n]at q;simp at q
def cb3{o:Obj}(e:(G6 h H).get? b=AA o):h.get? b=AA o/\H b=AF:=by
 have a:h.get? b=AA o:=W.of_hideAll (trk h H) e;refine⟨a,?_⟩;cases q:H b with
 |none=>rfl
 |some x=>
  have c:b∈trk h H:=mem_filter.mpr ⟨mem_range.mpr (Az a),by simp[q]⟩;have z:(G6 h H).get? b=AF:=W.hideAll_none (trk h H) c;rw[z]at e;cases e
abbrev cg2(g h:BC)(L:AH):List (AH×Obj):=(DY h.objs.size).filterMap λa=>if a=L\/(g.get? a).isSome=AD then AF else(h.get? a).map λo=>(a,o)
abbrev j8(g h:BC)(L d:AH):List (AH×Obj):=(cg2 g h L).filter λp=>AB (p.1≠d)
end L2
namespace L2
open PySem PySem.Spec PyProof.Rows
variable{x:Str}{i:Nat}
structure Mod(K:AQ)(mg:Str->Option AG)(base:BC):Prop where
 kin:K.In base
 glob:base.Ns AO mg
 blt:∃mb,base.Ns Cu mb/\∀x:Str,x≠"__name__"->mb x=BG x
 nolimit:base.NoLimit
structure Cx where
 prog:An
 w:Ax
 K:AQ
 mg:Str->Option AG
 base:BC
 A:BU
 N:List Str
 s₀:AK
 H₀:Hp
 env:Env
 outer:List Env
 stack:List Env
 ex:List AH
 fn:Str->Bool
 calm:Bool
 pn:List (AH×Obj)
 xe:AG->AK->Prop
 ow:Str->Bool:=λ_=>AE
abbrev frs(l:List Env):List AH:=l.filterMap (·.frame)
@[reducible]noncomputable def Cx.fs(X:Cx):List AH:=frs X.outer
abbrev Vis(sc:BH)(x:Str):Prop:=sc.names.lookup x=AA .local\/sc.names.lookup x=AA .cell\/sc.names.lookup x=AA .free
abbrev Loc(sc:BH)(x:Str):Prop:=sc.names.lookup x=AA .local\/sc.names.lookup x=AA .cell
abbrev c87(env:Env)(h:BC)(m:Str->Option AG)(x:Str)(u:AG):Prop:=
 (env.kindOf x=AA .local/\m x=AA u)\/((env.kindOf x=AA .cell\/env.kindOf x=AA .free)/\∃c,env.cells.lookup x=AA c/\h.IsCell c (AA u))
structure Cx.Ok(X:Cx):Prop where
 mod:Mod X.K X.mg X.base
 kind:X.env.scope.kind=.function
 glob:X.env.globals=AO
 blt:X.env.builtins=Cu
 above:X.s₀.heap.objs.size<=X.env.locals
 inj:∀x y c,X.env.cells.lookup x=AA c->X.env.cells.lookup y=AA c->x=y
 has:∀x,(X.env.kindOf x=AA .cell\/X.env.kindOf x=AA .free)->∃c,X.env.cells.lookup x=AA c
 cab:∀x c,X.fn x=AD\/X.ow x=AD->X.env.cells.lookup x=AA c->X.s₀.heap.objs.size<=c
 hd:X.calm=AD->X.A.handled=AF
 frames:X.A.frames=AA X.stack
 stk:X.stack=X.outer\/(X.stack=X.env::X.outer/\X.env.frame=AA X.env.locals)
 exf:∀b∈X.ex,b≠X.env.locals/\∀x c,X.env.cells.lookup x=AA c->c≠b
 bs:∀b o,X.base.get? b=AA o->X.s₀.heap.get? b=AA o/\X.H₀ b=AF
 bsz:X.base.objs.size<=X.s₀.heap.objs.size
 noex:∀b o,X.base.get? b=AA o->b∉X.ex
 exfs:∀b∈X.ex,b∉X.fs
 funs:X.s₀.heap.FunFrames X.base X.outer
 frf:∀b∈X.fs,X.H₀ b=AF
structure Inv(X:Cx)(pins:List (AH×Obj))(σ:List (Option V))(H:Hp)(s:AK):Prop where
 ok:X.Ok
 os:s.os=X.s₀.os
 bare:Gc s.gens
 base:Un X.fs X.ex X.H₀ H X.s₀.heap s.heap
 loc:∃m,s.heap.Ns X.env.locals m/\∀(i:Nat)(x:Str)(v:V),X.N[i]?=AA x->σ[i]?=AA (AA v)->Vis X.env.scope x->∃u,i6 v u/\c87 X.env s.heap m x u
 cell:∀x c,X.env.cells.lookup x=AA c->∃v,s.heap.IsCell c v
 free:H X.env.locals=AF
 freeC:∀x c,X.env.cells.lookup x=AA c->H c=AF\/(X.fn x=AE/\∃o u,H c=AA (.frz o u))
 pin:∀p∈X.pn++pins,s.heap.get? p.1=AA p.2/\H p.1=AF/\p.1≠X.env.locals/\p.1∉X.fs/\∀v,p.2.data≠.cell v
 hok:HOk X.prog X.w H s.heap
 len:σ.length=X.N.length
section
variable {X:Cx} {pins:List (AH×Obj)} {σ:List (Option V)} {H H':Hp} {s:AK} {h':BC}
def Cx.Ok.nofr(a:X.Ok){b:AH}{o:Obj}(e:X.base.get? b=AA o):b∉X.fs:=λhb=>by
 have:=(a.funs.mem hb).1;rw[e]at this;cases this
theorem Inv.bs(I:Inv X pins σ H s):∀b o,X.base.get? b=AA o->s.heap.get? b=AA o/\H b=AF:=λb o e=>
 ⟨I.base.keep b o (I.ok.bs b o e).1 (I.ok.bs b o e).2 (I.ok.nofr e) (I.ok.noex b o e),I.base.free b o (I.ok.bs b o e).1 (I.ok.bs b o e).2 (I.ok.noex b o e)⟩
def Inv.bk(I:Inv X pins σ H s):∀b o,X.base.get? b=AA o->s.heap.get? b=AA o:=λb o e=>(I.bs b o e).1
theorem Inv.mod(I:Inv X pins σ H s):Mod X.K X.mg X.base:=I.ok.mod
def Inv.kIn(I:Inv X pins σ H s):X.K.In s.heap:=I.ok.mod.kin.keeps I.bk
theorem Inv.lt(I:Inv X pins σ H s):X.env.locals<s.heap.objs.size:=let⟨_,a,_⟩:=I.loc;a.lt
def Inv.sz(I:Inv X pins σ H s):X.s₀.heap.objs.size<=s.heap.objs.size:=BB I.ok.above (Gd I.lt)
def Inv.nofs(I:Inv X pins σ H s){a:AH}(h:s.heap.objs.size<=a):a∉X.fs:=λhb=>by
 obtain⟨_,o,b,_⟩:=I.ok.funs.mem hb;exact absurd (Aj (Az b) (BB I.sz h)) (CY _)
def Inv.cne(I:Inv X pins σ H s):∀x c,X.env.cells.lookup x=AA c->c≠X.env.locals:=λx c e z=>by
 obtain⟨v,o,d,f⟩:=I.cell x c e;obtain⟨m,⟨g,h,i,a,b,_⟩,_⟩:=I.loc;rw[z,a]at d;cases d;rw[b]at f;cases f
theorem Inv.funs(I:Inv X pins σ H s):s.heap.FunFrames X.base X.outer:=by
 have d:∀(l:List Env),(∀b∈frs l,b∈X.fs)->X.s₀.heap.FunFrames X.base l->s.heap.FunFrames X.base l:=by
  intro l
  induction l with
  |nil=>intro _ _;trivial
  |cons t r i=>
   intro f n;obtain⟨p,⟨L,o,a,m,k,q⟩,j⟩:=n;have c:L∈X.fs:=f L (by unfold frs;rw[DZ,a];exact CG);obtain⟨u,e⟩:=I.base.slot L o k (I.ok.frf L c) c λz=>I.ok.exfs L z c;exact⟨p,⟨L,_,a,m,e,q⟩,i (λb hb=>f b (by unfold frs;rw[DZ,a];exact Ar _ hb)) j⟩
 exact d X.outer (λ_ hb=>hb) I.ok.funs
theorem Inv.stack(I:Inv X pins σ H s):s.heap.FunFrames X.base X.stack:=by
 rcases I.ok.stk with e|⟨e,b⟩
 ·rw[e];exact I.funs
 ·rw[e];obtain⟨m,a,_⟩:=I.loc;refine .cons (by rw[I.ok.kind];decide) b a ?_ I.funs;exact Heap.get?_none_of_le (BB I.ok.bsz I.ok.above)
def Inv.stkSub(I:Inv X pins σ H s):∀b∈frs X.stack,b∈X.env.locals::X.fs:=λb hb=>by
 rcases I.ok.stk with e|⟨e,a⟩
 ·rw[e]at hb;exact Ar _ hb
 ·rw[e]at hb;unfold frs at hb;rw[DZ,a]at hb;exact hb
def Inv.stkFree(I:Inv X pins σ H s):∀b∈frs X.stack,H b=AF:=λb a=>by
 rcases AN.mp (I.stkSub b a)with e|a
 ·rw[e];exact I.free
 ·obtain⟨_,o,c,_⟩:=I.ok.funs.mem a;exact I.base.free b o c (I.ok.frf b a) λz=>I.ok.exfs b z a
def Inv.step{g':Array GenState}{t':Nat}{d':Drawn}{ch:List AH}(I:Inv X pins σ H s)
  (h:∀b∈ch,(b∈X.ex\/X.s₀.heap.objs.size<=b)/\b≠X.env.locals/\(∀x c,X.env.cells.lookup x=AA c->c≠b)/\∀p∈X.pn++pins,p.1≠b)
  (g:∀b o,b≠X.env.locals->b∉X.fs->b∉ch->s.heap.get? b=AA o->H b=AF->h'.get? b=AA o)
  (D:∀b o,b≠X.env.locals->b∈X.fs->b∉ch->s.heap.get? b=AA o->H b=AF->∃V,h'.get? b=AA {o with slots:=V}) (a:∀b o,b∉ch->s.heap.get? b=AA o->H b=AF->H' b=AF)
  (F:∀b o,b∉ch->s.heap.get? b=AA o->∃K,h'.get? b=AA K)
  (G:∀b C,H b=AA (.tup C)->H' b=AA (.tup C)) (j:∀b o u,H b=AA (.frz o u)->H' b=AA (.frz o u)) (J:∀b Q,H b=AA (.tbl Q)->∃M,H' b=AA (.tbl (Q++M)))
  (ns:∀m,s.heap.Ns X.env.locals m->h'.Ns X.env.locals m) (N:HOk X.prog X.w H' h') (hg:Gc g') :
  Inv X pins σ H' {s with heap:=h',gens:=g',drawn:=d',toks:=t'}:=by
 have L:∀b o,X.s₀.heap.get? b=AA o->b≠X.env.locals:=λb o e=>BX (Aj (Az e) I.ok.above);have y:∀b o,X.s₀.heap.get? b=AA o->b∉X.ex->b∉ch:=λb o e hx hb=>by
  rcases(h b hb).1 with z|z
  ·exact hx z
  ·exact absurd (Aj (Az e) z) (CY _)
 have t:∀x c,X.env.cells.lookup x=AA c->∀v,s.heap.IsCell c v->h'.IsCell c v:=λx c e v⟨o,E,T⟩=>by
  have f:c∉ch:=λz=>(h c z).2.2.1 x c e rfl
  rcases I.freeC x c e with A|⟨_,R,P,S⟩
  ·by_cases hc:c∈X.fs
   ·obtain⟨V,q⟩:=D c o (I.cne x c e) hc f E A;exact⟨_,q,T⟩
   ·exact⟨o,g c o (I.cne x c e) hc f E A,T⟩
  ·obtain⟨h1,_⟩:=I.hok c _ S;obtain⟨h2,_⟩:=N c _ (j c R P S);rw[h1]at E;cases E;exact⟨_,h2,T⟩
 refine⟨I.ok,I.os,hg,⟨λb o e n hb hx=>?_,λb o e n hb hx=>?_,λb o e n hx=>?_,λb o e hx=>?_,λb C e=>G b C (I.base.tups b C e),λb o C e=>j b o C (I.base.frzs b o C e),λb Q e=>?_⟩,?_,λx c e=>?_,?_,λx c e=>?_,λp hp=>?_,N,I.len⟩
 ·exact g b o (L b o e) hb (y b o e hx) (I.base.keep b o e n hb hx) (I.base.free b o e n hx)
 ·obtain⟨V,B⟩:=I.base.slot b o e n hb hx;obtain⟨U,O⟩:=D b _ (L b o e) hb (y b o e hx) B (I.base.free b o e n hx);exact⟨U,O⟩
 ·obtain⟨K,B⟩:=I.base.there b o e hx;exact a b K (y b o e hx) B (I.base.free b o e n hx)
 ·obtain⟨K,B⟩:=I.base.there b o e hx;exact F b K (y b o e hx) B
 ·obtain⟨m1,B⟩:=I.base.tbls b Q e;obtain⟨m2,O⟩:=J b _ B;exact⟨m1++m2,by rw[O,Array.append_assoc]⟩
 ·obtain⟨m,hn,hl⟩:=I.loc;refine⟨m,ns m hn,λi x v B O e3=>?_⟩;obtain⟨u,r,l⟩:=hl i x v B O e3;refine⟨u,r,?_⟩
  rcases l with l|⟨k,c,e,z⟩
  ·exact .inl l
  ·exact .inr ⟨k,c,e,t x c e _ z⟩
 ·obtain⟨v,z⟩:=I.cell x c e;exact⟨v,t x c e v z⟩
 ·obtain⟨m,⟨o,_,_,E,_⟩,_⟩:=I.loc;exact a _ o (λz=>(h _ z).2.1 rfl) E I.free
 ·obtain⟨v,o,E,T⟩:=I.cell x c e
  rcases I.freeC x c e with A|⟨W,R,P,S⟩
  ·exact .inl (a c o (λz=>(h c z).2.2.1 x c e rfl) E A)
  ·exact .inr ⟨W,R,P,j c R P S⟩
 ·obtain⟨e,n,Z,Y,d⟩:=I.pin p hp;have f:p.1∉ch:=λz=>(h p.1 z).2.2.2 p hp rfl;exact⟨g p.1 p.2 Z Y f e n,a p.1 p.2 f e n,Z,Y,d⟩
def Inv.un{t':Nat}(I:Inv X pins σ H s)(u:Un X.fs [] H H' s.heap h')(c:HOk X.prog X.w H' h'):Inv X pins σ H' {s with heap:=h',toks:=t'}:=by
 obtain⟨m,⟨o,l,p,g,r⟩,_⟩:=id I.loc;obtain⟨j,i⟩:=u.any g I.free ∎;exact I.step (g':=s.gens) (d':=s.drawn) (ch:=[]) (λ_ z=>nomatch z) (λb o _ hb _ e n=>u.keep b o e n hb ∎) (λb o _ hb _ e n=>u.slot b o e n hb ∎) (λb o _ e n=>u.free b o e n ∎) (λb o _ e=>u.there b o e ∎) u.tups u.frzs u.tbls (λm' hm=>by
  obtain⟨k,d,f,a,h⟩:=hm;rw[g]at a;cases a;exact⟨_,d,f,i,h⟩) c I.bare
def Inv.call{g':Array GenState}{t':Nat}{d':Drawn}{ch:List AH}(I:Inv X pins σ H s)(u:Un (frs X.stack) ch H H' s.heap h')(f:HOk X.prog X.w H' h')(l:Gc g')
  (d:∀b∈ch,(b∈X.ex\/X.s₀.heap.objs.size<=b)/\b≠X.env.locals/\(∀x c,X.env.cells.lookup x=AA c->c≠b)/\∀p∈X.pn++pins,p.1≠b) :
  Inv X pins σ H' {s with heap:=h',gens:=g',drawn:=d',toks:=t'}:=by
 obtain⟨m,⟨o,v,y,j,r⟩,_⟩:=id I.loc;obtain⟨q,g⟩:=u.any j I.free λz=>(d _ z).2.1 rfl;exact I.step (ch:=ch) d (λb o g hb hc e n=>u.keep b o e n (λz=>(AN.mp (I.stkSub b z)).elim g hb) hc) (λb o _ _ hc e n=>u.any e n hc) (λb o hc e n=>u.free b o e n hc) (λb o hc e=>u.there b o e hc) u.tups u.frzs u.tbls (λm' hm=>by
  obtain⟨t,h,i,a,k⟩:=hm;rw[j]at a;cases a;exact⟨_,h,i,g,k⟩) f l
def Inv.turned{t':Nat}{it:AH}(I:Inv X pins σ H s)(k:∀b o,b≠it->s.heap.get? b=AA o->h'.get? b=AA o)(g:H it=AF)(d:it≠X.env.locals)
  (j:it∈X.ex\/X.s₀.heap.objs.size<=it) (i:∀x c,X.env.cells.lookup x=AA c->c≠it) (h:∀p∈X.pn++pins,p.1≠it):Inv X pins σ H {s with heap:=h',toks:=t'}:=by
 have a:∀b u,H b=AA u->b≠it:=λb u e z=>by rw[z,g]at e;cases e
 refine I.step (g':=s.gens) (d':=s.drawn) (ch:=[it]) (λb hb=>?_) (λb o _ _ hc e _=>k b o (λz=>hc (by simp[z])) e) (λb o _ _ hc e _=>⟨o.slots,k b o (λz=>hc (by simp[z])) e⟩) (λ_ _ _ _ n=>n)
  (λb o hc e=>⟨o,k b o (λz=>hc (by simp[z])) e⟩) (λ_ _ e=>e) (λ_ _ _ e=>e) (λb ps e=>⟨#[],by rw[e];simp⟩) (λm hm=>?_) (λb u e=>?_) I.bare
 ·have e:b=it:=by simpa using hb
  subst e;exact⟨j,d,i,h⟩
 ·obtain⟨o,l,m,f,r⟩:=hm;exact⟨o,l,m,k _ o (Aw d) f,r⟩
 ·refine(I.hok b u e).stay (λc v hc q=>k c v ?_ q) (λ_ q=>q) λ_ _ q=>q
  rcases hc with z|z
  ·rw[z];exact a b u e
  ·exact a c _ z
def Inv.tok(I:Inv X pins σ H s)(t:Nat):Inv X pins σ H {s with toks:=t}:=I.un (h':=s.heap) (t':=t) Un.refl I.hok
theorem Inv.kept{t':Nat}(I:Inv X pins σ H s)(k:∀b u,s.heap.get? b=AA u->h'.get? b=AA u):Inv X pins σ H {s with heap:=h',toks:=t'}:=I.un (Un.kept k) (I.hok.kept k)
theorem Inv.laid{a:AH}{o:HO}{t':Nat}(I:Inv X pins σ H s)(k:∀b u,s.heap.get? b=AA u->h'.get? b=AA u)(d:s.heap.objs.size<=a)(c:o7 X.prog X.w (upd H a o) h' a o):
  Inv X pins σ (upd H a o) {s with heap:=h',toks:=t'}:=I.un (Un.laid k d (I.hok.fresh d)) (I.hok.laid k d c)
theorem Inv.write{x e:AH}{o:HO}{t':Nat}(I:Inv X pins σ H s)(d:Mut (H x))(f:e=x\/H e=AA (.own x))(k:∀b u,b≠e->s.heap.get? b=AA u->h'.get? b=AA u)(a:∃u,h'.get? e=AA u)
  (c:o7 X.prog X.w (upd H x o) h' x o):Inv X pins σ (upd H x o) {s with heap:=h',toks:=t'}:=I.un (Un.write d f k a) (I.hok.write d f k a c)
def Inv.pins_of{a:List (AH×Obj)}(I:Inv X pins σ H s)(h:∀p∈a,s.heap.get? p.1=AA p.2/\H p.1=AF/\p.1≠X.env.locals/\p.1∉X.fs/\∀v,p.2.data≠.cell v):Inv X a σ H s:=
 ⟨I.ok,I.os,I.bare,I.base,I.loc,I.cell,I.free,I.freeC,λp hp=>(BI.mp hp).elim (λz=>I.pin p (EB _ z)) (h p),I.hok,I.len⟩
def a03{N:List Str}(c:N.Nodup){j:Nat}(a:N[i]?=AA x)(b:N[j]?=AA x):i=j:=by
 obtain⟨g,e⟩:=AY.mp a;obtain⟨f,d⟩:=AY.mp b;exact(List.getElem_inj c).mp (e.trans d.symm)
def bw4{M:Model}{A:BU}{E:AG->AK->Prop}{v:V}{u:AG}{Q:Unit->AK->Prop}(I:Inv X pins σ H s)(hN:X.N.Nodup)(hi:X.N[i]?=AA x)(C:Loc X.env.scope x)(r:i6 v u)
  (h:∀s',Inv X pins (σ.set i (AA v)) H s'->(∃a,Ba a s.heap s'.heap/\(a=X.env.locals\/X.env.cells.lookup x=AA a))->Q () s') (hf:X.fn x=AD\/X.env.scope.names.lookup x=AA .local:=by first|exact .inl rfl|exact .inr rfl|assumption):AR M A (storeName X.env x u) Q E s:=by
 obtain⟨m,hn,hl⟩:=id I.loc;have P:(X.env.scope.kind==.class||(X.env.scope.kind==.module&&X.env.locals != X.env.globals))=AE:=by rw[I.ok.kind];rfl
 have G:i<σ.length:=by rw[I.len];exact(AY.mp hi).1
 have K:=I.cne;have l:∀{a:AH}{h':BC},(∃o,s.heap.get? a=AA o/\H a=AF)->Ba a s.heap h'->HOk X.prog X.w H h':=λ{a h'}ha f b ob e=>by
  obtain⟨_,_,g⟩:=ha;refine(I.hok b ob e).stay (λc S B q=>(f.2 c ?_).trans q) (λ_ q=>q) λ_ _ q=>q;rintro rfl
  rcases B with rfl|B
  ·rw[g]at e;cases e
  ·rw[g]at B;cases B
 rcases C with F|F
 ·refine wpAny_storeName_local F hn (λh' hn' f=>?_) P;obtain⟨oL,_,_,hoL,_⟩:=id hn;refine h _ ⟨I.ok,I.os,I.bare,⟨λb o e n hb C=>?_,λb o e n hb C=>?_,I.base.free,λb o e C=>?_,I.base.tups,I.base.frzs,I.base.tbls⟩,⟨_,hn',λj y v' t e2 e3=>?_⟩,λy c e=>?_,I.free,I.freeC,λp hp=>?_,l ⟨oL,hoL,I.free⟩ f,by simpa using I.len⟩ ⟨_,f,.inl rfl⟩
  ·exact(f.2 b (BX (Aj (Az e) I.ok.above))).trans (I.base.keep b o e n hb C)
  ·obtain⟨Z,t⟩:=I.base.slot b o e n hb C;exact⟨Z,(f.2 b (BX (Aj (Az e) I.ok.above))).trans t⟩
  ·obtain⟨o',t⟩:=I.base.there b o e C;exact⟨o',(f.2 b (BX (Aj (Az e) I.ok.above))).trans t⟩
  ·by_cases J:j=i
   ·subst J;rw[hi]at t;cases t;rw[Hb G]at e2;cases e2;exact⟨u,r,.inl ⟨F,∎⟩⟩
   ·rw[IA (Aw J)]at e2;obtain⟨Y,r',q⟩:=hl j y v' t e2 e3;refine⟨Y,r',?_⟩
    rcases q with⟨k,e⟩|⟨k,c,e,z⟩
    ·refine .inl ⟨k,?_⟩;have:y≠x:=λe=>J (a03 hN t (e▸hi));simp[this,e]
    ·exact .inr ⟨k,c,e,z.sameBut f (K y c e)⟩
  ·obtain⟨S,z⟩:=I.cell y c e;exact⟨S,z.sameBut f (K y c e)⟩
  ·obtain⟨e,n,T,nf,d⟩:=I.pin p hp;exact⟨(f.2 p.1 T).trans e,n,T,nf,d⟩
 ·have D:X.fn x=AD:=by
   rcases hf with z|z
   ·exact z
   ·rw[z]at F;cases F
  obtain⟨c,B⟩:=I.ok.has x (.inl F);obtain⟨S,z⟩:=I.cell x c B;have g:H c=AF:=(I.freeC x c B).resolve_right λz=>by rw[D]at z;exact absurd z.1 ∅
  refine wpAny_storeName_cell I.ok.kind F B z (λh' hc' f=>?_);obtain⟨oc,O,L⟩:=id z;refine h {s with heap:=h'} ⟨I.ok,I.os,I.bare,⟨λb o e n hb C=>?_,λb o e n hb C=>?_,I.base.free,λb o e C=>?_,I.base.tups,I.base.frzs,I.base.tbls⟩,⟨m,hn.sameBut f (Aw (K x c B)),λj y v' t e2 e3=>?_⟩,λy W e=>?_,I.free,I.freeC,λp hp=>?_,l ⟨oc,O,g⟩ f,by simpa using I.len⟩ ⟨c,f,.inr B⟩
  ·exact(f.2 b (BX (Aj (Az e) (I.ok.cab x c (.inl D) B)))).trans (I.base.keep b o e n hb C)
  ·obtain⟨Z,t⟩:=I.base.slot b o e n hb C;exact⟨Z,(f.2 b (BX (Aj (Az e) (I.ok.cab x c (.inl D) B)))).trans t⟩
  ·obtain⟨o',t⟩:=I.base.there b o e C;exact⟨o',(f.2 b (BX (Aj (Az e) (I.ok.cab x c (.inl D) B)))).trans t⟩
  ·by_cases J:j=i
   ·subst J;rw[hi]at t;cases t;rw[Hb G]at e2;cases e2;exact⟨u,r,.inr ⟨.inl F,c,B,hc'⟩⟩
   ·rw[IA (Aw J)]at e2;obtain⟨Y,r',q⟩:=hl j y v' t e2 e3;refine⟨Y,r',?_⟩
    rcases q with q|⟨k,W,e,z'⟩
    ·exact .inl q
    ·refine .inr ⟨k,W,e,z'.sameBut f ?_⟩;rintro rfl;exact J (a03 hN t (I.ok.inj _ _ _ e B▸hi))
  ·by_cases R:W=c
   ·subst R;exact⟨_,hc'⟩
   ·obtain⟨w2,z2⟩:=I.cell y W e;exact⟨w2,z2.sameBut f R⟩
  ·obtain⟨e,n,T,nf,d⟩:=I.pin p hp;refine⟨(f.2 p.1 ?_).trans e,n,T,nf,d⟩;intro q;rw[q,O]at e;have q':oc=p.2:=Av e;exact d S (by rw[<-q'];exact L)
def ab4{M:Model}{A:BU}{E:AG->AK->Prop}{v:V}{u:AG}{Q:Unit->AK->Prop}(I:Inv X pins σ H s)(d:X.N.Nodup)(hi:X.N[i]?=AA x)(b:Loc X.env.scope x)(r:i6 v u)
  (h:∀s',Inv X pins (σ.set i (AA v)) H s'->Q () s') (c:X.fn x=AD\/X.env.scope.names.lookup x=AA .local:=by first|exact .inl rfl|exact .inr rfl|assumption):AR M A (storeName X.env x u) Q E s:=
 bw4 I d hi b r (λs' I' _=>h s' I') c
end
@[reducible]noncomputable def XK:=AG->Option AH->Hp->Prop
@[reducible]noncomputable def St:=List (Option V)
@[reducible]noncomputable def VK:=V->Hp->Prop
@[reducible]noncomputable def TE:=St->Hp->VK->Prop
@[reducible]noncomputable def TT:=St->Hp->(Bool->Hp->Prop)->Prop
@[reducible]noncomputable def TA:=St->Hp->(List V->Hp->Prop)->Prop
structure Ends where
 nx:St->Hp->Prop
 rt:VK
 bk:St->Hp->Prop:=λ_ _=>False
 ct:St->Hp->Prop:=λ_ _=>False
@[reducible]noncomputable def TS:=Ends->St->Hp->Prop
abbrev EP(X:Cx)(pins:List (AH×Obj))(σ:St)(Q:VK)(u:AG)(s':AK):Prop:=∃v H',Inv X pins σ H' s'/\i6 v u/\Q v H'
abbrev TP(X:Cx)(pins:List (AH×Obj))(σ:St)(Q:Bool->Hp->Prop)(b:Bool)(s':AK):Prop:=∃H',Inv X pins σ H' s'/\Q b H'
abbrev AP(X:Cx)(pins:List (AH×Obj))(σ:St)(Q:List V->Hp->Prop)(us:List AG)(s':AK):Prop:=∃vs H',Inv X pins σ H' s'/\g9 vs us/\Q vs H'
abbrev SP(X:Cx)(pins:List (AH×Obj))(D:Ends)(f:Flow)(s':AK):Prop:=
 match f with
 |.next=>∃σ' H',Inv X pins σ' H' s'/\D.nx σ' H'
 |.brk=>∃σ' H',Inv X pins σ' H' s'/\D.bk σ' H'
 |.cont=>∃σ' H',Inv X pins σ' H' s'/\D.ct σ' H'
 |.ret u=>∃v σ' H',Inv X pins σ' H' s'/\i6 v u/\D.rt v H'
abbrev PE(X:Cx)(e:AT)(t:TE):Prop:=
 ∀(pins:List (AH×Obj))(s:AK)(σ:St)(H:Hp)(Q:VK),Inv X pins σ H s->t σ H Q->AR (model X.prog X.w) X.A (eval e X.env) (EP X pins σ Q) X.xe s
abbrev PT(X:Cx)(e:AT)(t:TT):Prop:=
 ∀(pins:List (AH×Obj))(s:AK)(σ:St)(H:Hp)(Q:Bool->Hp->Prop),Inv X pins σ H s->t σ H Q->AR (model X.prog X.w) X.A (Ho e X.env (eval e X.env)) (TP X pins σ Q) X.xe s
abbrev PW(X:Cx)(e:AT)(t:TT):Prop:=
 ∀(whole:Sem AG)(pins:List (AH×Obj))(s:AK)(σ:St)(H:Hp)(Q:Bool->Hp->Prop),Inv X pins σ H s->t σ H Q->AR (model X.prog X.w) X.A (Ho e X.env whole) (TP X pins σ Q) X.xe s
def PW.pt{X:Cx}{e:AT}{t:TT}(h:PW X e t):PT X e t:=h _
abbrev PA(X:Cx)(es:List AT)(t:TA):Prop:=
 ∀(pos:Pos)(pins:List (AH×Obj))(s:AK)(σ:St)(H:Hp)(Q:List V->Hp->Prop),Inv X pins σ H s->t σ H Q->AR (model X.prog X.w) X.A (spliced (Bv pos (Am es X.env))) (AP X pins σ Q) X.xe s
abbrev PS(X:Cx)(st:BN)(t:TS):Prop:=
 ∀(pins:List (AH×Obj))(s:AK)(σ:St)(H:Hp)(D:Ends),Inv X pins σ H s->t D σ H->AR (model X.prog X.w) X.A (exec st X.env) (SP X pins D) X.xe s
abbrev PSs(X:Cx)(st:List BN)(t:TS):Prop:=
 ∀(pins:List (AH×Obj))(s:AK)(σ:St)(H:Hp)(D:Ends),Inv X pins σ H s->t D σ H->AR (model X.prog X.w) X.A (execs st X.env) (SP X pins D) X.xe s
def thn{b:Type}{t:Sem b}{Q c:b->AK->Prop}{M:Model}{A:BU}{E:AG->AK->Prop}{s:AK}(h:AR M A t Q E s)(d:∀a s,Q a s->c a s):AR M A t c E s:=Bg h d λ_ _ x=>x
end L2
namespace L2
open PySem PySem.Spec PyProof.Rows
variable{pins:List (AH×Obj)}{s:AK}{σ:St}{H:Hp}{x:Str}{pos:Pos}{u:AG}{op:Dn}
section
variable {X:Cx}
def bin{a b:AT}{j i:TE}(q:PE X a j)(p:PE X b i){R:V->V->Hp->Prop}(I:Inv X pins σ H s)(h:j σ H λx e=>i σ e λy c=>R x y c)
  {g:Type} {Q:g->AK->Prop} {f:AG->AG->Sem g}
  (o:∀v u d x y c,Inv X pins σ c d->i6 x v->i6 y u->R x y c->AR (model X.prog X.w) X.A (f v u) Q X.xe d) :
  AR (model X.prog X.w) X.A (eval a X.env) (λv s₁=>AR (model X.prog X.w) X.A (eval b X.env) (λu s₂=>AR (model X.prog X.w) X.A (f v u) Q X.xe s₂) X.xe s₁) X.xe s:=by
 refine thn (q pins s σ H _ I h) λv s1 z0=>?_;obtain⟨x,e,t,l,n⟩:=z0;refine thn (p pins s1 σ e _ t n) λu d z1=>?_;obtain⟨y,c,r,k,m⟩:=z1;exact o v u d x y c r l k m
abbrev da3(i:Nat):TE:=λσ H Q=>∃v,σ[i]?=AA (AA v)/\Q v H
abbrev tC(v:V):TE:=λ_ H Q=>Q v H
def ap1{i:Nat}(w:X.N[i]?=AA x)(o:Vis X.env.scope x)(g:(x==("__debug__":Str))=AE:=by decide)(j:(x==("__classdict__":Str))=AE:=by decide):PE X (.Name x pos) (da3 i):=by
 intro f s n H Q I h;obtain⟨v,e,h⟩:=h;obtain⟨m,p,t⟩:=I.loc;obtain⟨u,r,l⟩:=t i x v w e o;have d:EP X f n Q u s:=⟨v,H,I,r,h⟩
 rcases l with⟨b,q⟩|⟨b,c,k,a⟩
 ·exact Jh (wpAny_loadName_local I.ok.kind b p q d) g
 ·rcases b with b|b
  ·exact Jh (wpAny_loadName_cell I.ok.kind b k a d) g
  ·exact Jh (wpAny_loadName_free I.ok.kind b k a d j) g
def cn4{i j pos}:PE X (.Constant (.int i) j pos) (tC (.int i)):=λ_ _ _ H _ I h=>wpAny_Constant_int ⟨.int i,H,I.tok _,⟨_,rfl⟩,h⟩
def c69{b j pos}:PE X (.Constant (.bool b) j pos) (tC (.bl b)):=λ_ _ _ H _ I h=>Constant_bool ⟨.bl b,H,I,rfl,h⟩
def cp2{j pos}:PE X (.Constant .none j pos) (tC .non):=λ_ _ _ H _ I h=>IG ⟨.non,H,I,rfl,h⟩
def cm4{x j pos}:PE X (.Constant (.str x) j pos) (tC (.str x)):=λ_ _ _ H _ I h=>Calls.Constant_str ⟨.str x,H,I.tok _,⟨_,rfl⟩,h⟩
abbrev Gl(X:Cx)(x:Str):Prop:=X.env.kindOf x=AA .globalImplicit
def S8{E:AG->AK->Prop}{a:Pos}{Q:AG->AK->Prop}(I:Inv X pins σ H s)(c:Gl X x)(b:X.mg x=AA u)(h:Q u s)
  (d:(x==("__debug__":Str))=AE:=by decide):AR (model X.prog X.w) X.A (eval (.Name x a) X.env) Q E s:=
 Ge I.ok.kind c (Calls.loadGlobal_global (by rw[I.ok.glob];exact I.mod.glob.keeps I.bk) b h) d
def G1{E:AG->AK->Prop}{a:Pos}{Q:AG->AK->Prop}(I:Inv X pins σ H s)(e:Gl X x)(d:X.mg x=AF)(b:BG x=AA u)(h:Q u s)
  (c:x≠"__name__":=by decide) (f:(x==("__debug__":Str))=AE:=by decide):AR (model X.prog X.w) X.A (eval (.Name x a) X.env) Q E s:=by
 obtain⟨j,i,g⟩:=I.mod.blt;exact Ge I.ok.kind e (Calls.loadGlobal_builtin (by rw[I.ok.glob];exact I.mod.glob.keeps I.bk) d (by rw[I.ok.blt];exact i.keeps I.bk) ((g x c).trans b) h) f
def bb3{v:V}(b:Gl X x)(a:X.mg x=AA u)(r:i6 v u)(c:(x==("__debug__":Str))=AE:=by decide):PE X (.Name x pos) (tC v):=
 λ_ _ _ H _ I h=>S8 I b a ⟨v,H,I,r,h⟩ c
def cb5{v:V}(d:Gl X x)(c:X.mg x=AF)(a:BG x=AA u)(r:i6 v u)(b:x≠"__name__":=by decide)(e:(x==("__debug__":Str))=AE:=by decide):PE X (.Name x pos) (tC v):=
 λ_ _ _ H _ I h=>G1 I d c a ⟨v,H,I,r,h⟩ b e
variable {a b:AT} {ta tb:TE} 
abbrev PC(X:Cx)(op:Dn)(a b:AT)(t:TE):Prop:=
 ∀(pins:List (AH×Obj))(s:AK)(σ:St)(H:Hp)(Q:VK),Inv X pins σ H s->t σ H Q ->
  AR (model X.prog X.w) X.A (eval a X.env) (λv s₁=>AR (model X.prog X.w) X.A (eval b X.env) (λu s₂=>AR (model X.prog X.w) X.A (Bq op v u) (EP X pins σ Q) X.xe s₂) X.xe s₁) X.xe s
def a77(b:AT)(h:op≠.In)(a:op≠.NotIn):CT op b=AE:=by
 have d:(op==CmpOp.In)=AE:=by cases op<;>first|rfl|exact absurd rfl h
 have c:(op==Hq)=AE:=by cases op<;>first|rfl|exact absurd rfl a
 cases b<;>simp[CT,d,c]
abbrev c95(ta:TE):TE:=λσ H Q=>ta σ H λx H1=>Q (.bl (AB (x=.non))) H1
abbrev c47(ta:TE):TE:=λσ H Q=>ta σ H λx H1=>Q (.bl (!decide (x=.non))) H1
def i6.none_iff{x:V}{v:AG}(r:i6 x v):(v==Bc)=AB (x=.non):=by
 cases x with
 |non=>cases r;rfl
 |bl _=>cases r;rfl
 |int _=>obtain⟨t,rfl⟩:=r;rfl
 |str _=>obtain⟨t,rfl⟩:=r;rfl
 |byt _=>obtain⟨t,rfl⟩:=r;rfl
 |flt _=>obtain⟨t,rfl⟩:=r;rfl
 |ref _=>cases r;rfl
 |ty _=>cases r;rfl
def bh6{j pos'}(f:PE X a ta):PC X .Is a (.Constant .none j pos') (c95 ta):=by
 intro b s c H Q I h;refine thn (f b s c H _ I h) λv s1 z2=>?_;obtain⟨x,i,g,d,e⟩:=z2;exact IG (is_none_gen ⟨.bl _,i,g,by rw[d.none_iff];rfl,e⟩)
def a91{j pos'}(f:PE X a ta):PC X .IsNot a (.Constant .none j pos') (c47 ta):=by
 intro b s c H Q I h;refine thn (f b s c H _ I h) λv s1 z3=>?_;obtain⟨x,i,g,d,e⟩:=z3;exact IG (isnot_none_gen ⟨.bl _,i,g,by rw[d.none_iff];rfl,e⟩)
abbrev tB(t:TE):TT:=λσ H Q=>t σ H λx H1=>∃c,x=.bl c/\Q c H1
def be8{t:TE}(h:PC X op a b t)(c:CT op b=AE:=by first|exact a77 _ ∅ ∅|rfl):PE X (.Compare a [op] [b] pos) t:=λpins s σ H Q I hw=>LB (h pins s σ H Q I hw) c
def bf8{t:TE}(h:PC X op a b t)(e:CT op b=AE:=by first|exact a77 _ ∅ ∅|rfl):PT X (.Compare a [op] [b] pos) (tB t):=by
 intro c s f H Q I j;refine Iu (thn (h c s f H _ I j) λv s1 e=>thn e λu s2 h2=>thn h2 λc s3 z4=>?_) e;obtain⟨x,l,k,g,i⟩:=z4;obtain⟨d,rfl,q⟩:=i;cases g;exact CN ⟨l,k,q⟩
def ck3{e:AT}{t:TE}(h:PE X e t)(j:∀a,Ho e X.env a=(do let v <-a;Hd e.pos;holding [v] (truthy v)):=by intro _;rfl):PT X e (tB t):=by
 intro b s c H Q I i;refine isTrue_plain (thn (h b s c H _ I i) λv s1 z5=>?_) (j _);obtain⟨x,l,k,f,g⟩:=z5;obtain⟨d,rfl,q⟩:=g;cases f;exact CN ⟨l,k,q⟩
variable {tA tB':TT} {j8:List AT}
abbrev c85(t u:TT):TT:=λσ H Q=>t σ H λc H1=>if c=AD then u σ H1 Q else Q AE H1
abbrev tOr(t u:TT):TT:=λσ H Q=>t σ H λc H1=>if c=AD then Q AD H1 else u σ H1 Q
abbrev db4(t:TT):TT:=λσ H Q=>t σ H λc H1=>Q (!c) H1
def b61(f:PT X a tA):PW X (.BoolOp .And [a] pos) tA:=by
 intro g b s d H Q I h;refine isTrue_and (thn (f b s d H Q I h) λc s1 e=>?_);cases c with
 |true=>exact isTrue_and_nil e
 |false=>exact e
def co1(f:PT X a tA):PW X (.BoolOp .Or [a] pos) tA:=by
 intro g b s d H Q I h;refine isTrue_or (thn (f b s d H Q I h) λc s1 e=>?_);cases c with
 |false=>exact isTrue_or_nil e
 |true=>exact e
def ct8(i:PT X a tA)(g:PW X (.BoolOp .And (b::j8) pos) tB'):PW X (.BoolOp .And (a::b::j8) pos) (c85 tA tB'):=by
 intro f d s e H Q I h;refine isTrue_and (thn (i d s e H _ I h) λc s1⟨H1,I1,q1⟩=>?_);cases c with
 |true=>exact g f d s1 e H1 Q I1 q1
 |false=>exact⟨H1,I1,q1⟩
def c39(i:PT X a tA)(g:PW X (.BoolOp .Or (b::j8) pos) tB'):PW X (.BoolOp .Or (a::b::j8) pos) (tOr tA tB'):=by
 intro f d s e H Q I h;refine isTrue_or (thn (i d s e H _ I h) λc s1⟨H1,I1,q1⟩=>?_);cases c with
 |true=>exact⟨H1,I1,q1⟩
 |false=>exact g f d s1 e H1 Q I1 q1
def cn9(e:PT X a tA):PT X (.UnaryOp .Not a pos) (db4 tA):=by
 intro b s d H Q I h;exact isTrue_not (e b s d H (λc H1=>Q (!c) H1) I h)
abbrev c36(ta tb:TE):TE:=λσ H Q=>ta σ H λx H1=>∃c,x=.bl c/\if c=AD then tb σ H1 Q else Q (.bl AE) H1
abbrev c77(ta tb:TE):TE:=λσ H Q=>ta σ H λx H1=>∃c,x=.bl c/\if c=AD then Q (.bl AD) H1 else tb σ H1 Q
abbrev cy6(ta:TE):TE:=λσ H Q=>ta σ H λx H1=>∃c,x=.bl c/\Q (.bl (!c)) H1
def bf5{op}{t:TE}(h:PE X a t):PE X (.BoolOp op [a] pos) t:=λpins s σ H Q I hw=>BoolOp_one (h pins s σ H Q I hw)
def ct3(l:PE X a ta)(k:PE X (.BoolOp .And (b::j8) pos) tb):PE X (.BoolOp .And (a::b::j8) pos) (c36 ta tb):=by
 intro d s f H Q I h;refine BoolOp_and (thn (l d s f H _ I h) λv s1 z6=>?_);obtain⟨x,i,g,j,e⟩:=z6;obtain⟨c,rfl,e⟩:=e;cases j;refine CN ?_;cases c with
 |true=>exact k d s1 f i Q g e
 |false=>exact⟨.bl AE,i,g,rfl,e⟩
def c58(l:PE X a ta)(k:PE X (.BoolOp .Or (b::j8) pos) tb):PE X (.BoolOp .Or (a::b::j8) pos) (c77 ta tb):=by
 intro d s f H Q I h;refine BoolOp_or (thn (l d s f H _ I h) λv s1 z7=>?_);obtain⟨x,i,g,j,e⟩:=z7;obtain⟨c,rfl,e⟩:=e;cases j;refine CN ?_;cases c with
 |false=>exact k d s1 f i Q g e
 |true=>exact⟨.bl AD,i,g,rfl,e⟩
def cj7(g:PE X a ta):PE X (.UnaryOp .Not a pos) (cy6 ta):=by
 intro b s e H Q I h;refine UnaryOp_ (thn (g b s e H _ I h) λv s1 z8=>?_);obtain⟨x,j,i,f,d⟩:=z8;obtain⟨c,rfl,d⟩:=d;cases f;exact not_of (CN ⟨.bl (!c),j,i,rfl,d⟩)
abbrev tIf(t:TT)(ta tb:TE):TE:=λσ H Q=>t σ H λc H1=>if c=AD then ta σ H1 Q else tb σ H1 Q
def b27{c:AT}(g:PT X c tA)(j:PE X a ta)(i:PE X b tb):PE X (.IfExp c a b pos) (tIf tA ta tb):=by
 intro e s f H Q I h;refine wpAny_IfExp (thn (g e s f H _ I h) λd s1⟨H1,I1,q1⟩=>?_);cases d with
 |true=>exact j e s1 f H1 Q I1 q1
 |false=>exact i e s1 f H1 Q I1 q1
end
end L2
namespace L2
open PySem PySem.Spec PyProof.Rows
variable{u:AG}{X:Cx}{pins:List (AH×Obj)}{σ:St}{H:Hp}{s:AK}{e tg:AT}{te:TE}{pos:Pos}{P:An}
abbrev SqL(K:AQ)(H:Hp)(a:AH)(xs:List V):Prop:=
 Rd H a (.lst xs)\/
  ∃(o:Obj)(its:Array AG)(n:Nat),K.lookup a=AA o/\o.cls=.type "list"/\o.dict=AF/\o.data=.seq its n/\its.size<=sizeLine/\g9 xs its.toList
abbrev SqT(K:AQ)(H:Hp)(a:AH)(xs:List V):Prop:=
 Rd H a (.tup xs)\/
  ∃(o:Obj)(its:Array AG)(n:Nat),K.lookup a=AA o/\o.cls=.type "tuple"/\o.dict=AF/\o.data=.seq its n/\its.size<=sizeLine/\g9 xs its.toList
abbrev c72:AG->Option V
 |.none=>AA .non
 |.bool b=>AA (.bl b)
 |.int i _=>AA (.int i)
 |.str x _=>AA (.str x)
 |.bytes b _=>AA (.byt b)
 |.float b _=>AA (.flt b)
 |.ref a=>AA (.ref a)
 |.type n=>AA (.ty n)
 |_=>AF
def i6.abs{x:V}(r:i6 x u):c72 u=AA x:=by
 cases x with
 |non=>cases r;rfl
 |bl _=>cases r;rfl
 |int _=>obtain⟨t,rfl⟩:=r;rfl
 |str _=>obtain⟨t,rfl⟩:=r;rfl
 |byt _=>obtain⟨t,rfl⟩:=r;rfl
 |flt _=>obtain⟨t,rfl⟩:=r;rfl
 |ref _=>cases r;rfl
 |ty _=>cases r;rfl
theorem i6.inj{x y:V}(r:i6 x u)(q:i6 y u):x=y:=Av (r.abs.symm.trans q.abs)
theorem g9.inj:∀{b a:List V}{c:List AG},g9 b c->g9 a c->b=a
 |_,_,_,.nil,.nil=>rfl
 |_,_,_,.cons r t,.cons e d=>by rw[r.inj e,g9.inj t d]
section
variable {a:AH} {xs ys:List V}
def Inv.list(I:Inv X pins σ H s)(h:SqL X.K H a xs):∃b:List AG,g9 xs b/\PlainL s.heap a b.toArray/\xs.length<=sizeLine:=by
 rcases h with h|⟨o,b,n,d,g,f,c,i,r⟩
 ·obtain⟨z,b,n,r,e⟩:=h.ok I.hok;exact⟨b,r,⟨_,n,e,rfl,rfl,rfl⟩,z⟩
 ·refine⟨b.toList,r,⟨o,n,I.kIn a o d,g,f,by simpa using c⟩,?_⟩;have e:=r.length;simp only[FG]at e;lia
def Inv.tupleD(I:Inv X pins σ H s)(h:SqT X.K H a xs):∃b:List AG,g9 xs b/\D2 s.heap a b.toArray/\xs.length<=sizeLine:=by
 rcases h with h|⟨o,b,n,f,g,c,d,i,r⟩
 ·obtain⟨z,b,r,p⟩:=h.ok I.hok;exact⟨b,r,p,z⟩
 ·refine⟨b.toList,r,⟨o,I.kIn a o f,g,c,n,by simpa using d⟩,?_⟩;have e:=r.length;simp only[FG]at e;lia
def Inv.tuple(I:Inv X pins σ H s)(h:SqT X.K H a xs):∃b:List AG,g9 xs b/\Hn s.heap a b.toArray/\xs.length<=sizeLine:=by
 obtain⟨b,r,p,z⟩:=I.tupleD h;exact⟨b,r,p.tup,z⟩
def Inv.list_inj(I:Inv X pins σ H s)(h:SqL X.K H a xs)(h':SqL X.K H a ys):xs=ys:=by
 obtain⟨c,r,⟨o,n,e,_,_,d⟩,_⟩:=I.list h;obtain⟨b,i,⟨k,l,f,_,_,g⟩,_⟩:=I.list h';rw[e]at f;cases f;rw[d]at g;injection g with j _
 have:c=b:=by simpa using congrArg Ji j
 subst this;exact r.inj i
def Inv.tuple_inj(I:Inv X pins σ H s)(h:SqT X.K H a xs)(h':SqT X.K H a ys):xs=ys:=by
 obtain⟨c,r,⟨o,e,_,n,d⟩,_⟩:=I.tuple h;obtain⟨b,i,⟨k,f,_,l,g⟩,_⟩:=I.tuple h';rw[e]at f;cases f;rw[d]at g;injection g with j _
 have:c=b:=by simpa using congrArg Ji j
 subst this;exact r.inj i
end
section
variable {st:BN} {j8:List BN} {t u:TS} 
abbrev bi9:TS:=λD σ H=>D.nx σ H
abbrev da7(t u:TS):TS:=λD σ H=>t {D with nx:=u D} σ H
def b65:PSs X [] bi9:=λ_ _ σ H _ I h=>FU ⟨σ,H,I,h⟩
def bx3(i:PS X st t)(g:PSs X j8 u):PSs X (st::j8) (da7 t u):=by
 intro a s d H D I h;refine KQ (thn (i a s d H {D with nx:=u D} I h) λf s1 q=>?_);cases f with
 |next=>
  obtain⟨b,l,k,q⟩:=q;exact g a s1 b l D k q
 |ret v=>exact q
 |brk=>exact q
 |cont=>exact q
abbrev c06:TS:=λD σ H=>D.ct σ H
def cd5:PS X (.Pass pos) bi9:=λ_ _ σ H _ I h=>wpAny_Pass ⟨σ,H,I,h⟩
def bo1:PS X (.Continue pos) c06:=λ_ _ σ H _ I h=>wpAny_Continue ⟨σ,H,I,h⟩
def Inv.quiet(I:Inv X pins σ H s):interactive X.env=AE:=by simp[interactive,I.ok.kind]
abbrev cw7(te:TE):TS:=λD σ H=>te σ H λ_ H1=>D.nx σ H1
def ce0(d:PE X e te)(c:CZ e AF pos.line X.env=pure AE:=by rfl):PS X (.Expr e pos) (cw7 te):=by
 intro a s b H D I h;exact wpAny_Expr_any (thn (d a s b H _ I h) λv s1⟨x,H1,I1,r1,q1⟩=>⟨b,H1,I1,q1⟩) I.quiet c
abbrev db8(te:TE):TS:=λD σ H=>te σ H D.rt
def cm8(c:PE X e te):PS X (.Return (AA e) pos) (db8 te):=by
 intro a s b H D I h;exact wpAny_Return_some (thn (c a s b H _ I h) λv s1⟨x,H1,I1,r1,q1⟩=>⟨x,b,H1,I1,r1,q1⟩)
abbrev cz4:TS:=λD _ H=>D.rt .non H
def ce1:PS X (.Return AF pos) cz4:=λ_ _ σ H _ I h=>wpAny_Return_none ⟨.non,σ,H,I,rfl,h⟩
abbrev db2(c:TT)(t u:TS):TS:=λD σ H=>c σ H λb H1=>if b=AD then t D σ H1 else u D σ H1
def cz3{c:AT}{a b:List BN}{g:TT}(i:PT X c g)(k:PSs X a t)(j:PSs X b u):PS X (.If c a b pos) (db2 g t u):=by
 intro e s f H D I h;refine wpAny_If (thn (i e s f H _ I h) λd s1⟨H1,I1,q1⟩=>?_);cases d with
 |true=>exact k e s1 f H1 D I1 q1
 |false=>exact j e s1 f H1 D I1 q1
end
@[reducible]noncomputable def TG:=V->St->Hp->(St->Hp->Prop)->Prop
@[reducible]noncomputable def TGs:=List V->St->Hp->(St->Hp->Prop)->Prop
abbrev PG(X:Cx)(target:AT)(t:TG):Prop:=
 ∀(pins:List (AH×Obj))(s:AK)(σ:St)(H:Hp)(v:V)(u:AG)(Q:St->Hp->Prop),Inv X pins σ H s->i6 v u->t v σ H Q ->
  AR (model X.prog X.w) X.A (assign target X.env u) (λ_ s'=>∃σ' H',Inv X pins σ' H' s'/\Q σ' H') X.xe s
abbrev PGs(X:Cx)(ts:List AT)(t:TGs):Prop:=
 ∀(pins:List (AH×Obj))(s:AK)(σ:St)(H:Hp)(vs:List V)(us:List AG)(Q:St->Hp->Prop),Inv X pins σ H s->g9 vs us->t vs σ H Q ->
  AR (model X.prog X.w) X.A (assignInOrder ((Bx ts X.env).map (·.2)) us) (λ_ s'=>∃σ' H',Inv X pins σ' H' s'/\Q σ' H') X.xe s
@[reducible]noncomputable def at3:=V->V->V->Hp->(Hp->Prop)->Prop
abbrev bk3(X:Cx)(t:at3):Prop:=
 ∀(pins:List (AH×Obj))(s:AK)(σ:St)(H:Hp)(o i v:V)(ov iv u:AG)(Q:Hp->Prop),Inv X pins σ H s->i6 o ov->i6 i iv->i6 v u->t o i v H Q ->
  AR (model X.prog X.w) X.A (Ju ov iv u) (λ_ s'=>∃H',Inv X pins σ H' s'/\Q H') X.xe s
section
abbrev aq9(i:Nat):TG:=λv σ H Q=>Q (σ.set i (AA v)) H
def ba3{i:Nat}{x:Str}(d:X.N.Nodup)(hi:X.N[i]?=AA x)(b:Loc X.env.scope x)(c:X.fn x=AD\/X.env.scope.names.lookup x=AA .local:=by first|exact .inl rfl|exact .inr rfl|assumption):PG X (.Name x pos) (aq9 i):=by
 intro a s e H v u Q I r h;exact Jw (ab4 I d hi b r (λs' I'=>⟨_,H,I',h⟩) c)
abbrev bl8:TGs:=λvs σ H Q=>vs=[]/\Q σ H
abbrev bi8(t:TG)(u:TGs):TGs:=λvs σ H Q=>∃v r,vs=v::r/\t v σ H λσ' H'=>u r σ' H' Q
def b55:PGs X [] bl8:=by
 intro a s b H c d Q I r h;obtain⟨e,h⟩:=h;subst e;cases r;exact assignInOrder_nil ⟨b,H,I,h⟩
def b16{b:List AT}{t:TG}{u:TGs}(l:PG X e t)(k:PGs X b u)
  (j:(Bx (e::b) X.env).map (·.2)=assign e X.env::(Bx b X.env).map (·.2):=by rfl):PGs X (e::b) (bi8 t u):=by
 intro a s f H p w Q I r h;obtain⟨v,q,m,h⟩:=h;subst m;cases r with
 |cons r g=>
  rw[j];refine assignInOrder_cons (thn (l a s f H _ _ _ I r h) λ_ s1 z9=>?_);obtain⟨c,o,n,i⟩:=z9;exact k a s1 c o _ _ Q n g i
abbrev da5(K:AQ)(n:Nat)(t:TGs):TG:=λv σ H Q=>∃a xs,v=.ref a/\SqT K H a xs/\xs.length=n/\t xs σ H Q
def cl3{d:List AT}{k:Nat}{t:TGs}{n:Nat}(y:X.calm=AD)(h:PGs X d t)
  (w:(Bx d X.env).length=n:=by rfl) (g:(Bx d X.env).findIdx? (·.1)=AF:=by rfl):PG X (.Tuple d k pos) (da5 X.K n t):=by
 intro c s i H v u Q I r f;obtain⟨a,l,z,q,x,f⟩:=f;subst z;cases r;obtain⟨m,j,p,B⟩:=I.tuple q;refine assign_Tuple_tuple (I.ok.hd y) p (by simp[w,<-x,j.length]) g λh' hx=>?_;have A:Inv X c i H {s with heap:=h'}:=I.kept (t':=s.toks) λb o e=>hx b o (BX (Az e)) e;exact h c _ i H l _ Q A (by simpa using j) f
abbrev dd3(to ti:TE)(t:at3):TG:=λv σ H Q=>to σ H λo H1=>ti σ H1 λi H2=>t o i v H2 λH3=>Q σ H3
def ci1{o i:AT}{e f:TE}{t:at3}(n:PE X o e)(hi:PE X i f)(m:bk3 X t)
  (p:∀v,assign (.Subscript o i pos) X.env v=(do
   let ov <-holding [v] (eval o X.env)
   let iv <-holding [v,ov] (eval i X.env)
   Hd pos
   holding [v,ov,iv] (Ju ov iv v)
   release [v,ov,iv] []):=by intro _;rfl):PG X (.Subscript o i pos) (dd3 e f t):=by
 intro a s c H v u Q I r h;rw[p];refine AC (Bd (thn (n a s c H _ I h) λov s1 z10=>?_));obtain⟨x,A,w,j,l⟩:=z10;refine AC (Bd (thn (hi a s1 c A _ w l) λiv s2 z11=>?_));obtain⟨y,z,q,g,k⟩:=z11;refine AC (IH (AC (Bd (thn (m a s2 c z x y v ov iv u _ q j g r k) λ_ s3⟨H3,I3,q3⟩=>?_))));exact wpAny_release ⟨c,H3,I3,q3⟩
abbrev bk9(te:TE)(g:TG):TS:=λD σ H=>te σ H λx H1=>g x σ H1 D.nx
def bi1{g:TG}(k:PE X e te)(j:PG X tg g)(i:Ej [tg] e pos.line X.env=pure AE:=by rfl)(f:II [tg] e X.env=pure AF:=by rfl)
  (l:(Bx [tg] X.env).map (·.2)=[assign tg X.env]:=by rfl):PS X (.Assign [tg] e pos) (bk9 te g):=by
 intro a s b H D I h;refine wpAny_Assign_stores (thn (k a s b H _ I h) λv s1 z12=>?_) i f;obtain⟨x,n,m,c,d⟩:=z12;rw[l];exact thn (j a s1 b n x v _ m c d) λ_ s2 q=>q
def ci9{i:Nat}{x:Str}{a:Pos}(m:X.N.Nodup)(hi:X.N[i]?=AA x)(g:Loc X.env.scope x)(l:PE X e te)(j:CZ e (AA (.Name x a)) pos.line X.env=pure AE:=by rfl)(k:X.fn x=AD\/X.env.scope.names.lookup x=AA .local:=by first|exact .inl rfl|exact .inr rfl|assumption):
  PS X (.Assign [.Name x a] e pos) (bk9 te (aq9 i)):=by
 intro b s c H D I h;refine wpAny_Assign_Name (thn (l b s c H _ I h) λv s1 z13=>?_) j;obtain⟨y,o,n,d,f⟩:=z13;exact ab4 n m hi g d (λs2 I2=>⟨_,o,I2,f⟩) k
end
section
abbrev cj8(c:TT)(tb:TS):TS:=λD σ H=>∃W:Nat->St->Hp->Prop,(∃m,W m σ H)/\∀m σ H,W m σ H ->
 c σ H λb H1=>if b=AD then ∃N:St->Hp->Prop,(∀σ' H',N σ' H'->∃m',m'<m/\W m' σ' H')/\tb {D with nx:=N,ct:=N,bk:=D.nx} σ H1 else D.nx σ H1
def b29{c:AT}{e:List BN}{r:TT}{t:TS}(u:HB (model X.prog X.w) X.A X.env X.xe)(G:PT X c r)(J:PSs X e t):PS X (.While c e [] pos) (cj8 r t):=by
 intro d s B H D I h;obtain⟨W,⟨F,C⟩,i⟩:=h;refine wpAny_While (codeAny_whileLoop (λn s'=>∃g z,Inv X d g z s'/\W n g z) ?_ F ⟨B,H,I,C⟩);rintro n s1 ⟨σ1,H1,I1,w1⟩;refine Cn u (thn (G d s1 σ1 H1 _ I1 (i n σ1 H1 w1)) λb s2⟨H2,I2,k⟩=>?_);cases b with
 |true=>
  obtain⟨N,x,k⟩:=k;rw[if_pos rfl];refine Cn u (thn (J d s2 σ1 H2 _ I2 k) λf s3 q3=>?_);cases f with
  |next=>
   obtain⟨a,j,q,m⟩:=q3;obtain⟨o,p,l⟩:=x a j m;exact⟨o,p,a,j,q,l⟩
  |cont=>
   obtain⟨a,j,q,m⟩:=q3;obtain⟨o,p,l⟩:=x a j m;exact⟨o,p,a,j,q,l⟩
  |brk=>exact q3
  |ret v=>exact q3
 |false=>
  rw[if_neg AI];exact FU ⟨σ1,H2,I2,k⟩
end
structure It where
 go:Nat->Hp->Prop
 yld:Nat->Hp->V->Hp->Prop
 stop:Nat->Hp->Prop
abbrev w6(X:Cx)(pins:List (AH×Obj))(H:Hp)(b:AH):Prop:=
 H b=AF/\b≠X.env.locals/\b∉X.fs/\(b∈X.ex\/X.s₀.heap.objs.size<=b)/\(∀x c,X.env.cells.lookup x=AA c->c≠b)/\∀p∈X.pn++pins,p.1≠b
def Inv.fpOk{H':Hp}{b:AH}(I:Inv X pins σ H s)(a:s.heap.objs.size<=b)(d:H' b=AF):w6 X pins H' b:=by
 refine⟨d,Gf (Aj I.lt a),I.nofs a,.inr (BB I.sz a),λx c e z=>?_,λp hp z=>?_⟩
 ·obtain⟨v,q⟩:=I.cell x c e;exact absurd (Aj q.lt (by rw[z];exact a)) (CY _)
 ·exact absurd (Aj (Az (I.pin p hp).1) (by rw[z];exact a)) (CY _)
structure Turn(P:An)(w:Ax)(K:AQ)(tg:AT)(J:It)(fp:List AH)(it:AH)(tn:Nat->BC->Prop):Prop where
 mem:it∈fp
 obj:∀i h,tn i h->∀b∈fp,∃o,h.get? b=AA o/\∀v,o.data≠.cell v
 keep:∀i h h',tn i h->(∀b∈fp,∀o,h.get? b=AA o->h'.get? b=AA o)->tn i h'
 item:∀(X:Cx),X.prog=P->X.w=w->X.K=K->X.calm=AD->∀(i:Nat)(pins:List (AH×Obj))(s:AK)(σ:St)(H:Hp)(E:AG->AK->Prop),Inv X pins σ H s->(∀b∈fp,w6 X pins H b)->tn i s.heap->J.go i H ->
  AR (model P w) X.A (ET (.ref it)) (λr s1=>∃u,r=AA u /\
   AR (model P w) X.A (FV tg (.ref it) u) (λ_ s2=>∃x H',Inv X pins σ H' s2/\i6 x u/\J.yld i H x H'/\tn (i+1) s2.heap/\∀b∈fp,H' b=AF) E s1) E s
 done:∀(X:Cx),X.prog=P->X.w=w->X.K=K->X.calm=AD->∀(i:Nat)(pins:List (AH×Obj))(s:AK)(σ:St)(H:Hp)(E:AG->AK->Prop),Inv X pins σ H s->(∀b∈fp,w6 X pins H b)->tn i s.heap->J.stop i H ->
  AR (model P w) X.A (ET (.ref it)) (λr s1=>r=AF/\Inv X pins σ H s1) E s
 self:∀(A:BU)(i:Nat)(s:AK)(Q:AG->AK->Prop)(E:AG->AK->Prop),tn i s.heap->Q (.ref it) s->AR (model P w) A (HC (.ref it)) Q E s
@[reducible]noncomputable def TI:=St->Hp->(It->Hp->Prop)->Prop
abbrev PIE(X:Cx)(pins:List (AH×Obj))(σ:St)(tg:AT)(R:It->Hp->Prop)(itv:AG)(s2:AK):Prop:=
 ∃(it:AH)(fp:List AH)(tn:Nat->BC->Prop)(J:It)(H':Hp),itv=.ref it/\Inv X pins σ H' s2/\Turn X.prog X.w X.K tg J fp it tn/\tn 0 s2.heap/\(∀b∈fp,w6 X pins H' b)/\R J H'
abbrev PI(X:Cx)(tg iter:AT)(wi:TI):Prop:=
 ∀(pins:List (AH×Obj))(s:AK)(σ:St)(H:Hp)(R:It->Hp->Prop),Inv X pins σ H s->wi σ H R ->
  AR (model X.prog X.w) X.A (eval iter X.env) (λv s1=>AR (model X.prog X.w) X.A (HC v) (PIE X pins σ tg R) X.xe s1) X.xe s
def X6{M:Model}{A:BU}{E:AG->AK->Prop}{it:AH}{o:Obj}{n:String}{vs:Array AG}{Q:Unit->AK->Prop}(b:s.heap.get? it=AA o)(e:o.cls=.type n)(d:o.data=.fields vs)
  (c:["enumerate","zip","dict_itemiterator","dict_reverseitemiterator","odict_iterator","itertools.zip_longest","itertools.pairwise"].contains n=AE) (a:Q () s):AR M A (FV tg (.ref it) u) Q E s:=by
 unfold FV;cases tg<;>first
  |exact AL a
  | (cases u <;> first
    |exact AL a
    | (refine AC (wpAny_load b ?_)
       rw[e,d];show AR M A (if(["enumerate","zip","dict_itemiterator","dict_reverseitemiterator","odict_iterator","itertools.zip_longest","itertools.pairwise"].contains n&&vs[0]?==AA (Cf _))=AD then _ else _) Q E s;rw[if_neg (by intro h;rw[c,Bool.false_and]at h;cases h)];exact AL a))
abbrev Itl(K:AQ)(a:AH):It:=
 ⟨λi H=>∃xs x,SqL K H a xs/\xs[i]?=AA x,λi H x H'=>H'=H/\∀xs,SqL K H a xs->xs[i]?=AA x,λi H=>∃xs,SqL K H a xs/\xs.length<=i⟩
abbrev Itt(K:AQ)(a:AH):It:=
 ⟨λi H=>∃xs x,SqT K H a xs/\xs[i]?=AA x,λi H x H'=>H'=H/\∀xs,SqT K H a xs->xs[i]?=AA x,λi H=>∃xs,SqT K H a xs/\xs.length<=i⟩
abbrev Itr(lo:Int)(n:Nat):It:=⟨λi _=>i<n,λi H x H'=>H'=H/\x=.int (lo+i),λi _=>n<=i⟩
def bv3{w:Ax}{K:AQ}(a it:AH):Turn P w K tg (Itl K a) [it] it (λi h=>h.IsListIter it a i) where
 mem:=by simp
 obj:=λi h f b hb=>by
  have e:b=it:=by simpa using hb
  subst e;obtain⟨o,e,c,d⟩:=f;exact⟨o,e,λv z=>by rw[d]at z;cases z⟩
 keep:=λi h h' f k=>f.at λo e=>k it ∎ o e
 item:=by
  intro X v r y J i g s G H E I l f t;subst v r y;obtain⟨L,x,j,q⟩:=t;obtain⟨n,m,p,N⟩:=I.list j;obtain⟨u,O,M⟩:=m.get q;obtain⟨F,D,Q,C,B,A⟩:=l it ∎;refine wpAny_pyNext_list_item f p.isList (x:=u) (by simpa using O) λh' st' sb=>?_;have R:Inv X g G H {s with heap:=h'}:=I.turned (t':=s.toks) (λb o hb e=>(sb.2 b hb).trans e) F D C B A;obtain⟨o,e,c,d⟩:=id st';exact⟨u,rfl,X6 (s:={s with heap:=h'}) e c d ∅ ⟨x,H,R,M,⟨rfl,λys hy=>by rw[I.list_inj hy j];exact q⟩,st',λb hb=>(l b hb).1⟩⟩
 done:=by
  intro X v r y J i g s G H E I l f t;subst v r y;obtain⟨L,j,q⟩:=t;obtain⟨n,m,p,N⟩:=I.list j;obtain⟨F,D,Q,C,B,A⟩:=l it ∎;have S:=m.length;exact wpAny_pyNext_list_end (I.ok.hd J) f p.isList (by simp;lia) λh' eb=>⟨rfl,I.turned (t':=s.toks) (λb o hb e=>eb b o hb e) F D C B A⟩
 self:=λ_ _ _ _ _ f h=>wpAny_pyIter_listiter f h
def br2{w:Ax}{K:AQ}(a it:AH):Turn P w K tg (Itt K a) [it] it (λi h=>h.IsTupleIter it a i) where
 mem:=by simp
 obj:=λi h f b hb=>by
  have e:b=it:=by simpa using hb
  subst e;obtain⟨o,e,c,d⟩:=f;exact⟨o,e,λv z=>by rw[d]at z;cases z⟩
 keep:=λi h h' f k=>f.at λo e=>k it ∎ o e
 item:=by
  intro X v r y J i g s G H E I m f t;subst v r y;obtain⟨L,x,l,q⟩:=t;obtain⟨j,n,p,N⟩:=I.tuple l;obtain⟨u,O,M⟩:=n.get q;obtain⟨F,D,Q,C,B,A⟩:=m it ∎;refine wpAny_pyNext_tuple_item f (show s.heap.IsTuple a j.toArray from p) (x:=u) (by simpa using O) λh' st' sb=>?_;have R:Inv X g G H {s with heap:=h'}:=I.turned (t':=s.toks) (λb o hb e=>(sb.2 b hb).trans e) F D C B A;obtain⟨o,e,c,d⟩:=id st';exact⟨u,rfl,X6 (s:={s with heap:=h'}) e c d ∅ ⟨x,H,R,M,⟨rfl,λys hy=>by rw[I.tuple_inj hy l];exact q⟩,st',λb hb=>(m b hb).1⟩⟩
 done:=by
  intro X v r y J i g s G H E I m f t;subst v r y;obtain⟨L,l,q⟩:=t;obtain⟨j,n,p,N⟩:=I.tuple l;obtain⟨F,D,Q,C,B,A⟩:=m it ∎;have S:=n.length;exact wpAny_pyNext_tuple_end (I.ok.hd J) f (show s.heap.IsTuple a j.toArray from p) (by simp;lia) λh' eb=>⟨rfl,I.turned (t':=s.toks) (λb o hb e=>eb b o hb e) F D C B A⟩
 self:=λ_ _ _ _ _ f h=>wpAny_pyIter_tupleiter f h
def bq7{w:Ax}{K:AQ}(it:AH)(lo:Int)(n:Nat):Turn P w K tg (Itr lo n) [it] it (λi h=>IsRangeIter h it (lo+(i:Nat)*1) ((n:Int)-(i:Nat)) 1) where
 mem:=by simp
 obj:=λi h a b hb=>by
  have e:b=it:=by simpa using hb
  subst e;exact⟨_,a,λv z=>by
   have A:Data.fields _=Data.cell v:=z;cases A⟩
 keep:=λi h h' a k=>k it ∎ _ a
 item:=by
  intro X l f m j i c s y H E I d a g;subst l f m;obtain⟨x,u,B,r,q,p⟩:=d it ∎;have W:=Walks.range (prog:=X.prog) (w:=X.w) (I.ok.hd j) it lo 1 n;refine W.item i s _ _ g a λv h' tk hv st' kk=>?_;obtain⟨t,rfl⟩:=hv;have C:Inv X c y H {s with heap:=h',toks:=tk}:=I.turned (λb o hb e=>kk b o (by simpa using hb) e) x u r q p;refine⟨_,rfl,X6 (s:={s with heap:=h',toks:=tk}) (n:="range_iterator") st' rfl rfl ∅ ⟨.int (lo+i),H,C,⟨t,?_⟩,⟨rfl,rfl⟩,st',λb hb=>(d b hb).1⟩⟩;rw[Int.mul_one]
 done:=by
  intro X l f m j i c s y H E I d a g;subst l f m;obtain⟨x,u,B,r,q,p⟩:=d it ∎;exact wpAny_pyNext_range_end (I.ok.hd j) a (by have:n<=i:=g;lia) λh' eb=>⟨rfl,I.turned (t':=s.toks) (λb o hb e=>eb b o hb e) x u r q p⟩
 self:=λ_ _ _ _ _ a h=>wpAny_pyIter_rangeiter a h
end L2
namespace L2
open PySem PySem.Spec PyProof.Rows
variable{pins:List (AH×Obj)}{σ:St}{H:Hp}{s:AK}{fp:List AH}
section
variable {X:Cx} {tg:AT}
def a73{R:It->Hp->Prop}{E:AG->AK->Prop}{lo hi:Int}{t u v:Tok}{tk:Nat}(I:Inv X pins σ H s)(g:-(2^62)<=lo)(f:lo<2^62)(d:-(2^62)<=hi)(c:hi<2^62)
  (q:R (Itr lo (hi-lo).toNat) H):AR (model X.prog X.w) X.A (HC (.ref s.heap.objs.size)) (PIE X pins σ tg R) E {s with heap:=s.heap.push {cls:=.type "range",data:=.fields #[.int lo t,.int hi u,.int 1 v]},toks:=tk}:=by
 refine wpAny_pyIter_range (IsRange.new ..) (small_one g f d c) ?_;have a:Inv X pins σ H {s with heap:=s.heap.push {cls:=.type "range",data:=.fields #[.int lo t,.int hi u,.int 1 v]},toks:=tk}:=I.kept λb o e=>AM _ e;refine⟨(s.heap.push {cls:=.type "range",data:=.fields #[.int lo t,.int hi u,.int 1 v]}).objs.size,[(s.heap.push {cls:=.type "range",data:=.fields #[.int lo t,.int hi u,.int 1 v]}).objs.size],_,_,H,rfl,
  a.kept (t':=tk) λb o e=>AM _ e,bq7 _ lo (hi-lo).toNat,?_,λb hb=>?_,q⟩
 ·have i:lo+((0:Nat):Int)*1=lo:=by simp
  have h:(((hi-lo).toNat:Nat):Int)-((0:Nat):Int)=KR lo hi 1:=by rw[rangeSize_one];split<;>lia
  show IsRangeIter _ _ (lo+((0:Nat):Int)*1) ((((hi-lo).toNat:Nat):Int)-((0:Nat):Int)) 1;rw[i,h];exact Ae _ rfl
 ·have e:b=(s.heap.push {cls:=.type "range",data:=.fields #[.int lo t,.int hi u,.int 1 v]}).objs.size:=by simpa using hb
  subst e;exact a.fpOk (AS _) (a.hok.fresh (AS _))
abbrev cx5(ta:TA):TI:=λσ H R=>ta σ H λvs H1=>∃j:Int,vs=[.int j]/\-(2^62)<=j/\j<2^62/\R (Itr 0 j.toNat) H1
abbrev c53(ta:TA):TI:=λσ H R=>ta σ H λvs H1=>∃i j:Int,vs=[.int i,.int j]/\(-(2^62)<=i/\i<2^62/\-(2^62)<=j/\j<2^62)/\R (Itr i (j-i).toNat) H1
def bs3{a:AT}{f:TA}{p b:Pos}(u:Gl X "range")(o:X.mg "range"=AF)(v:PA X [a] f)(n:Am [a] X.env=[(AE,eval a X.env)]:=by rfl):PI X tg (.Call (.Name "range" p) [a] [] b) (cx5 f):=by
 intro c s i H R I h;refine JG (G1 I u o boot_range (BD (thn (v b c s i H _ I h) λus s1 z14=>?_) n rfl));obtain⟨x,y,w,l,d⟩:=z14;obtain⟨j,e,d,m,q⟩:=d;subst e;cases l with
 |cons r k=>
  cases k;obtain⟨t,rfl⟩:=r;exact call_range_1 (a73 w ⋯ ⋯ d m (by simpa using q))
def bs6{a b:AT}{m:TA}{p c:Pos}(A:Gl X "range")(z:X.mg "range"=AF)(B:PA X [a,b] m)(y:Am [a,b] X.env=[(AE,eval a X.env),(AE,eval b X.env)]:=by rfl)(f:Am [b] X.env=[(AE,eval b X.env)]:=by rfl):
  PI X tg (.Call (.Name "range" p) [a,b] [] c) (c53 m):=by
 intro d s n H R I h;refine JG (G1 I A z boot_range (BD (thn (B c d s n H _ I h) λus s1 z15=>?_) (by rw[y,f]) (by rw[f];rfl)));obtain⟨D,F,C,o,l⟩:=z15;obtain⟨i,j,e,⟨l,x,w,v⟩,q⟩:=l;subst e;cases o with
 |cons r k=>
  cases k with
  |cons u k=>
   cases k;obtain⟨t,rfl⟩:=r;obtain⟨E,rfl⟩:=u;exact call_range_2 (a73 C l x w v q)
abbrev c88(wi:TI)(g:TG)(tb:TS):TS:=λD σ H=>wi σ H λJ H1=>∃W:Nat->Nat->St->Hp->Prop,(∃m,W 0 m σ H1)/\∀i m σ H,W i m σ H ->
 (J.stop i H/\D.nx σ H)\/(J.go i H/\∃N:St->Hp->Prop,(∀σ' H',N σ' H'->∃m',m'<m/\W (i+1) m' σ' H')/\∀x H',J.yld i H x H'->g x σ H' λσ2 H2=>tb {D with nx:=N,ct:=N,bk:=D.nx} σ2 H2)
abbrev W8(fp:List AH)(h:BC):List (AH×Obj):=fp.filterMap λb=>(h.get? b).map λo=>(b,o)
def aa4{h:BC}{b:AH}{o:Obj}(a:b∈fp)(e:h.get? b=AA o):(b,o)∈W8 fp h:=IQ.mpr ⟨b,a,by rw[e];rfl⟩
def bu0{h:BC}{p:AH×Obj}(a:p∈W8 fp h):p.1∈fp/\h.get? p.1=AA p.2:=by
 obtain⟨b,c,e⟩:=IQ.mp a;cases q:h.get? b with
 |none=>rw[q]at e;cases e
 |some o=>
  rw[q]at e;have d:(b,o)=p:=Av e;subst d;exact⟨c,q⟩
def Inv.pinned(I:Inv X pins σ H s)(g:∀b∈fp,w6 X pins H b)(f:∀b∈fp,∃o,s.heap.get? b=AA o/\∀v,o.data≠.cell v):Inv X (pins++W8 fp s.heap) σ H s:=
 I.pins_of λp hp=>(BI.mp hp).elim (λz=>I.pin p (BF _ z)) λz=>by
  obtain⟨a,e⟩:=bu0 z;obtain⟨j,i,h,_⟩:=g p.1 a;obtain⟨o,c,d⟩:=f p.1 a;rw[e]at c;cases c;exact⟨e,j,i,h,d⟩
def Inv.unpinned{a:List (AH×Obj)}(I:Inv X (pins++a) σ H s):Inv X pins σ H s:=I.pins_of λp hp=>I.pin p (BF _ (EB _ hp))
def cm3{l:AT}{B:List BN}{V:TI}{g:TG}{Z:TS}{Q:Pos}(L:HB (model X.prog X.w) X.A X.env X.xe)(hc:X.calm=AD)(hi:PI X tg l V)(hg:PG X tg g)(p:PSs X B Z)
  (hs:∀x,Da l X.env x=pure x:=by intro _;rfl):PS X (.For tg l B [] Q) (c88 V g Z):=by
 intro c s U H D I h;refine wpAny_For (thn (hi c s U H _ I h) λv s1 h1=>thn h1 λitv s2 h2=>?_) hs;obtain⟨it,M,Y,J,H2,e,I2,T,P,f2,W,⟨m0,w0⟩,E⟩:=h2;subst e;have k:∀{y:Hp},(∀b∈M,y b=AF)->∀b∈M,w6 X c y b:=λhn b p=>⟨hn b p,(f2 b p).2⟩;refine codeAny_forLoop_any (λn s'=>∃i j y,Inv X c j y s'/\Y i s'.heap/\(∀b∈M,y b=AF)/\W i n j y) ?_ m0 ⟨0,U,H2,I2,P,λb p=>(f2 b p).1,w0⟩;rintro n s3 ⟨i,σ3,H3,I3,st3,fr3,w3⟩
 rcases E i n σ3 H3 w3 with⟨F,qn⟩|⟨go,N,hN,G⟩
 ·refine Cn L (thn (T.done X rfl rfl rfl hc i c s3 σ3 H3 X.xe I3 (k fr3) st3 F) λr s4⟨hr,I4⟩=>?_);subst hr;exact FU ⟨σ3,H3,I4,qn⟩
 ·refine Cn L (thn (T.item X rfl rfl rfl hc i c s3 σ3 H3 X.xe I3 (k fr3) st3 go) λr s4⟨u,hr,h4⟩=>?_);subst hr;refine Cn L (thn h4 λ_ s5 z16=>?_);obtain⟨x,H5,I5,r5,y5,C,R⟩:=z16;have S:=I5.pinned (k R) (T.obj _ _ C);refine Cn L (thn (hg _ s5 σ3 H5 x u _ S r5 (G x H5 y5)) λ_ s6 z17=>?_);obtain⟨O,H6,I6,q6⟩:=z17;refine Cn L (thn (p _ s6 O H6 _ I6 q6) λf s7 z=>?_);have q:∀{a:St}{t:Hp},Inv X (c++W8 M s5.heap) a t s7->N a t->∃m,m<n/\∃i j y,Inv X c j y s7/\Y i s7.heap/\(∀b∈M,y b=AF)/\W i m j y:=λ{a t}r K=>by
   obtain⟨m',hm,w7⟩:=hN a t K;refine⟨m',hm,i+1,a,t,r.unpinned,T.keep _ _ _ C λb p o e=>(r.pin (b,o) (BF _ (BF _ (aa4 p e)))).1,λb p=>?_,w7⟩;obtain⟨o,e,d⟩:=T.obj _ _ C b p;exact(r.pin (b,o) (BF _ (BF _ (aa4 p e)))).2.1
  cases f with
  |next=>obtain⟨a,t,r,K⟩:=z;exact q r K
  |cont=>obtain⟨a,t,r,K⟩:=z;exact q r K
  |brk=>obtain⟨a,t,r,z⟩:=z;exact⟨a,t,r.unpinned,z⟩
  |ret v=>obtain⟨x7,a,t,r,r7,z⟩:=z;exact⟨x7,a,t,r.unpinned,r7,z⟩
end
end L2
namespace L2
open PySem PySem.Spec PyProof.Rows
variable{op:Dn}
@[reducible]noncomputable def R2:=V->V->Hp->VK->Prop
variable{r:R2}
abbrev OpR(X:Cx)(f:AG->AG->Sem AG)(r:R2):Prop:=
 ∀(pins:List (AH×Obj))(s:AK)(σ:St)(H:Hp)(x y:V)(v u:AG)(Q:VK),Inv X pins σ H s->i6 x v->i6 y u->r x y H Q ->
  AR (model X.prog X.w) X.A (f v u) (EP X pins σ Q) X.xe s
abbrev UnR(X:Cx)(f:AG->Sem AG)(r:V->Hp->VK->Prop):Prop:=
 ∀(pins:List (AH×Obj))(s:AK)(σ:St)(H:Hp)(x:V)(v:AG)(Q:VK),Inv X pins σ H s->i6 x v->r x H Q ->
  AR (model X.prog X.w) X.A (f v) (EP X pins σ Q) X.xe s
abbrev E9(X:Cx)(f:AG)(r:List V->Hp->VK->Prop):Prop:=
 ∀(pins:List (AH×Obj))(s:AK)(σ:St)(H:Hp)(xs:List V)(us:List AG)(Q:VK),Inv X pins σ H s->g9 xs us->r xs H Q ->
  AR (model X.prog X.w) X.A (call f us) (EP X pins σ Q) X.xe s
abbrev tOp(r:R2)(ta tb:TE):TE:=λσ H Q=>ta σ H λx H1=>tb σ H1 λy H2=>r x y H2 Q
abbrev tUn(r:V->Hp->VK->Prop)(ta:TE):TE:=λσ H Q=>ta σ H λx H1=>r x H1 Q
abbrev rI(C:Int->Int->Prop)(g:Int->Int->V):R2:=λx y H Q=>∃i j,x=.int i/\y=.int j/\C i j/\Q (g i j) H
abbrev rI0(g:Int->Int->V):R2:=λx y H Q=>∃i j,x=.int i/\y=.int j/\Q (g i j) H
abbrev rU(g:Int->V):V->Hp->VK->Prop:=λx H Q=>∃i,x=.int i/\Q (g i) H
section
variable {X:Cx} {a b c:AT} {ta tb tc:TE} {pos:Pos}
def as5(p:PE X a ta)(o:PE X b tb){c:List (AH×Obj)}{s:AK}{d:St}{H:Hp}{R:V->V->Hp->Prop}(I:Inv X c d H s)
  (h:ta d H λx i=>tb d i λy e=>R x y e) {Q:AG->AK->Prop} {f:AG->AG->Sem AG}
  (n:∀v u g x y e,Inv X c d e g->i6 x v->i6 y u->R x y e->AR (model X.prog X.w) X.A (f v u) Q X.xe g) :
  AR (model X.prog X.w) X.A (eval a X.env) (λv s₁=>AR (model X.prog X.w) X.A (eval b X.env) (λu s₂=>AR (model X.prog X.w) X.A (f v u) Q X.xe s₂) X.xe s₁) X.xe s:=by
 refine thn (p c s d H _ I h) λv s1 z18=>?_;obtain⟨x,i,r,k,m⟩:=z18;refine thn (o c s1 d i _ r m) λu g z19=>?_;obtain⟨y,e,q,j,l⟩:=z19;exact n v u g x y e q k j l
def Q8{op:Ez}(e:OpR X (Cv op) r)(g:PE X a ta)(f:PE X b tb):PE X (.BinOp a op b pos) (tOp r ta tb):=by
 intro c s d H Q I h;exact wpAny_BinOp (as5 g f I h λv u s2 x y H2 I2 rx ry q=>e c s2 d H2 x y v u Q I2 rx ry q)
def c61{op:UnaryOp}{r:V->Hp->VK->Prop}(d:UnR X (unaryOp op) r)(e:PE X a ta):PE X (.UnaryOp op a pos) (tUn r ta):=by
 intro b s c H Q I h;exact UnaryOp_ (thn (e b s c H _ I h) λv s1⟨x,H1,I1,r1,q1⟩=>d b s1 c H1 x v Q I1 r1 q1)
def opI{f:AG->AG->Sem AG}{C:Int->Int->Prop}{g:Int->Int->Int}
  (a:∀(i j:Int)(t u:Tok)(s:AK)(Q:AG->AK->Prop)(E:AG->AK->Prop),C i j->Q (.int (g i j) s.toks) {s with toks:=s.toks+1}->AR (model X.prog X.w) X.A (f (.int i t) (.int j u)) Q E s) :
  OpR X f (rI C λi j=>.int (g i j)):=by
 intro b s l H x y v u Q I e d h;obtain⟨i,j,rfl,rfl,k,q⟩:=h;obtain⟨t,rfl⟩:=e;obtain⟨c,rfl⟩:=d;exact a i j t c s _ _ k ⟨.int (g i j),H,I.tok _,⟨_,rfl⟩,q⟩
def bl2{f:AG->AG->Sem AG}{g:Int->Int->Int}
  (a:∀(i j:Int)(t u:Tok)(s:AK)(Q:AG->AK->Prop)(E:AG->AK->Prop),Q (.int (g i j) s.toks) {s with toks:=s.toks+1}->AR (model X.prog X.w) X.A (f (.int i t) (.int j u)) Q E s) :
  OpR X f (rI0 λi j=>.int (g i j)):=by
 intro b s k H x y v u Q I e d h;obtain⟨i,j,rfl,rfl,q⟩:=h;obtain⟨t,rfl⟩:=e;obtain⟨c,rfl⟩:=d;exact a i j t c s _ _ ⟨.int (g i j),H,I.tok _,⟨_,rfl⟩,q⟩
def ad9{f:AG->AG->Sem AG}{g:Int->Int->Bool}
  (a:∀(i j:Int)(t u:Tok)(s:AK)(Q:AG->AK->Prop)(E:AG->AK->Prop),Q (.bool (g i j)) s->AR (model X.prog X.w) X.A (f (.int i t) (.int j u)) Q E s) :
  OpR X f (rI0 λi j=>.bl (g i j)):=by
 intro b s k H x y v u Q I e d h;obtain⟨i,j,rfl,rfl,q⟩:=h;obtain⟨t,rfl⟩:=e;obtain⟨c,rfl⟩:=d;exact a i j t c s _ _ ⟨.bl (g i j),H,I,rfl,q⟩
abbrev au0(i j:Int):Prop:=0<=j/\j<=1000000/\i.natAbs<2^64
abbrev au1(i j:Int):Prop:=(-(2^64)<i/\i<2^64)\/(-(2^64)<j/\j<2^64)
def au1.ok{i j:Int}(h:au1 i j):LC i j:=by
 rcases h with⟨b,a⟩|⟨b,a⟩
 ·exact .of_left (intBits_le_64 b a)
 ·exact .of_right (intBits_le_64 b a)
def cv3:OpR X (Cv .Add) (rI0 λi j=>.int (i+j)):=bl2 λ_ _ _ _ _ _ _ q=>add_int q
def ci7:OpR X (Cv .Sub) (rI0 λi j=>.int (i-j)):=bl2 λ_ _ _ _ _ _ _ q=>sub_int q
def ch5:OpR X (Cv .Mod) (rI (λ_ j=>0<j) λi j=>.int (i % j)):=opI λi j _ _ _ _ _ hc q=>by
 have a:(0:Int)<j:=hc;exact mod_int' ⋯ (by rw[Int.fmod_eq_emod_of_nonneg i ⋯];exact q)
def cj6:OpR X (Cv .Pow) (rI au0 λi j=>.int (i^j.toNat)):=opI λ_ _ _ _ _ _ _ hc q=>pow_int_small hc.1 hc.2.1 hc.2.2 q
def unI{f:AG->Sem AG}{g:Int->Int}
  (a:∀(i:Int)(t:Tok)(s:AK)(Q:AG->AK->Prop)(E:AG->AK->Prop),Q (.int (g i) s.toks) {s with toks:=s.toks+1}->AR (model X.prog X.w) X.A (f (.int i t)) Q E s) :
  UnR X f (rU λi=>.int (g i)):=by
 intro b s d H x v Q I c h;obtain⟨i,rfl,q⟩:=h;obtain⟨t,rfl⟩:=c;exact a i t s _ _ ⟨.int (g i),H,I.tok _,⟨_,rfl⟩,q⟩
def ct2:UnR X (unaryOp .USub) (rU λi=>.int (-i)):=unI λ_ _ _ _ _ q=>neg_int q
end
section
variable {X:Cx} {a b c:AT} {ta tb tc:TE} {pos:Pos}
def c51:OpR X (Bq .Lt) (rI0 λi j=>.bl (AB (i<j))):=ad9 λ_ _ _ _ _ _ _ q=>lt_int q
def cy0:OpR X (Bq .LtE) (rI0 λi j=>.bl (AB (i<=j))):=ad9 λ_ _ _ _ _ _ _ q=>le_int q
def c66:OpR X (Bq .Gt) (rI0 λi j=>.bl (AB (j<i))):=ad9 λ_ _ _ _ _ _ _ q=>gt_int q
def c37:OpR X (Bq .GtE) (rI0 λi j=>.bl (AB (j<=i))):=ad9 λ_ _ _ _ _ _ _ q=>ge_int q
def OpR.or{f:AG->AG->Sem AG}{e:R2}(h:OpR X f r)(h':OpR X f e):OpR X f (λx y H Q=>r x y H Q\/e x y H Q):=by
 intro a s b H x y v u Q I d c q
 rcases q with q|q
 ·exact h a s b H x y v u Q I d c q
 ·exact h' a s b H x y v u Q I d c q
def de5(b:AT)(h:op≠.In:=by decide)(a:op≠.NotIn:=by decide):CT op b=AE:=by
 have d:(op==CmpOp.In)=AE:=by cases op<;>first|rfl|exact absurd rfl h
 have c:(op==Hq)=AE:=by cases op<;>first|rfl|exact absurd rfl a
 cases b<;>simp[CT,d,c]
def am7(e:OpR X (Bq op) r)(i:PE X a ta)(g:PE X b tb)(f:CT op b=AE):PE X (.Compare a [op] [b] pos) (tOp r ta tb):=by
 intro c s d H Q I h;exact LB (as5 i g I h λv u s2 x y H2 I2 rx ry q=>e c s2 d H2 x y v u Q I2 rx ry q) f
abbrev c29(t:TE):TT:=λσ H Q=>t σ H λx H'=>∃k,x=.bl k/\Q k H'
def ao6(f:OpR X (Bq op) r)(j:PE X a ta)(i:PE X b tb)(g:CT op b=AE):PT X (.Compare a [op] [b] pos) (c29 (tOp r ta tb)):=by
 intro c s d H Q I h;refine Iu (thn (j c s d H _ I h) λv s1⟨x,H1,I1,r1,q1⟩=>thn (i c s1 d H1 _ I1 q1) λu s2⟨y,H2,I2,r2,q2⟩=>
  thn (f c s2 d H2 x y v u _ I2 r1 r2 q2) λc s3⟨z,H3,I3,r3,k,e,q3⟩=>?_) g
 subst e;cases r3;exact CN ⟨H3,I3,q3⟩
def X5:(sizeLine:Nat)<2^63:=by rw[HK];decide
def Y2{x:V}{us:List AG}(r:g9 [x] us):∃u,us=[u]/\i6 x u:=by
 cases r with
 |cons c b=>cases b;exact⟨_,rfl,c⟩
def bj5{x y:V}{us:List AG}(r:g9 [x,y] us):∃u b,us=[u,b]/\i6 x u/\i6 y b:=by
 cases r with
 |cons f e=>
  cases e with
  |cons d c=>cases c;exact⟨_,_,rfl,f,d⟩
def bv2(d:X.calm=AD):E9 X (.builtin "max") (λxs H Q=>∃i j,xs=[.int i,.int j]/\Q (.int (if j>i then j else i)) H):=by
 intro b s e H xs g Q I r h;obtain⟨i,j,rfl,q⟩:=h;obtain⟨u,f,rfl,⟨t,rfl⟩,⟨l,rfl⟩⟩:=bj5 r;refine max_two_ints (I.ok.hd d) λh' tk k=>⟨_,H,I.kept k,?_,q⟩
 by_cases a:j>i
 ·rw[if_pos a,if_pos a];exact⟨_,rfl⟩
 ·rw[if_neg a,if_neg a];exact⟨_,rfl⟩
def bt5(d:X.calm=AD):E9 X (.builtin "min") (λxs H Q=>∃i j,xs=[.int i,.int j]/\Q (.int (if j<i then j else i)) H):=by
 intro b s e H xs g Q I r h;obtain⟨i,j,rfl,q⟩:=h;obtain⟨u,f,rfl,⟨t,rfl⟩,⟨l,rfl⟩⟩:=bj5 r;refine min_two_ints (I.ok.hd d) λh' tk k=>⟨_,H,I.kept k,?_,q⟩
 by_cases a:j<i
 ·rw[if_pos a,if_pos a];exact⟨_,rfl⟩
 ·rw[if_neg a,if_neg a];exact⟨_,rfl⟩
def bv8:E9 X (.type "int") (λxs H Q=>(∃i,xs=[.int i]/\Q (.int i) H)\/∃k,xs=[.bl k]/\Q (.int (if k then 1 else 0)) H):=by
 intro b s d H xs e Q I r h
 rcases h with⟨i,rfl,q⟩|⟨k,rfl,q⟩
 ·obtain⟨u,rfl,t,rfl⟩:=Y2 r;exact call_int_int ⟨.int i,H,I,⟨_,rfl⟩,q⟩
 ·obtain⟨u,rfl,c⟩:=Y2 r;cases c;exact call_int_bool ⟨.int (if k then 1 else 0),H,I.tok _,⟨_,rfl⟩,q⟩
end
end L2
namespace L2
open PySem PySem.Spec PyProof.Rows
variable{h:BC}{dx C:AH}{mA:Str->Option AG}{A:BU}{s:AK}{f:Str}{v:V}{Q:AG->AK->Prop}{u:AG}{H:Hp}{X:Cx}
structure ObjM(h:BC)(x dx C:AH)(mA:Str->Option AG):Prop where
 obj:h.get? x=AA (EE C dx)
 ns:h.Ns1 dx mA
 ne:dx≠x
def bt4(n:h.Ns1 dx mA):∃d,h.get? dx=AA d/\∀name,Ib name d=AA (mA name):=by
 obtain⟨o,f,p,i,l,k,_,j⟩:=n;refine⟨o,i,λname=>?_⟩;have e:=j name;unfold nsFind findBy at e;rw[<-Array.find?_toList]at e;unfold Ib;rw[l];dsimp only
 split
 ·rename_i y q;rw[q]at e;exact congrArg AA e
 ·rename_i q;rw[q]at e;have a:f.toList.any (·.refKey)=AE:=by
   rw[Gg];intro y g;obtain⟨z,t,c⟩:=k y (Array.mem_toList_iff.mp g);simp[DictEntry.refKey,c]
  have m:¬f.toList.any (·.refKey)=AD:=by rw[a];exact AI
  rw[if_neg m];exact congrArg AA e
def ObjM.look{x:AH}(I:ObjM h x dx C mA):∃b,W.InstAt h x (EE C dx) C (AA b)/\∀a,Ib a b=AA (mA a):=
 let⟨b,c,d⟩:=bt4 I.ns
 ⟨b,⟨I.obj,rfl,rfl,c⟩,d⟩
section
variable {prog:An} {w:Ax} {E:AG->AK->Prop} {K:AQ} {x f:AH} {name:Str} {v:AG}
def cb7{a:Bool}(X:K.In s.heap)(I:ObjM s.heap x dx C mA)(f:GB K C name=AD)(e:Gx K C=AD)
  (g:BW K (.ref C) name=AA AF) (c:mA name=AA v) (b:W.handedIn v=AD) (h:Q v {s with toks:=s.toks+1}) :
  AR (model prog w) A (getAttr (.ref x) name a) Q E s:=by
 obtain⟨i,J,d⟩:=I.look;exact W.get_value X J (Hr f).1 (W.findObj_own e g rfl (by rw[d,c])) b h
def b28{b:Sem Bool}{Q:AG×List AG->AK->Prop}(X:K.In s.heap)(I:ObjM s.heap x dx C mA)(a:GB K C name=AD)
  (i:BW K (.ref C) name=AA (AA (.ref f))) (e:JH K (.ref f)=AD) (d:mA name=AF) (h:Q (.ref f,[.ref x]) s) :
  AR (model prog w) A (KS (.ref x) name b) Q E s:=by
 obtain⟨c,J,g⟩:=I.look;exact W.method_fn X J (Hr a).1 (Hr a).2 i (beq_iff_eq.mp e) (by show(Ib name c).map (·.isSome)=AA AE;rw[g,d];rfl) h
def b85{ns:List Str}{Q:Unit->AK->Prop}(X:K.In s.heap)(I:ObjM s.heap x dx C mA)
  (k:BW K (.ref C) "__setattr__"=AA (AA (.builtin "object.__setattr__"))) (l:Ic K C=AD) (j:Jj K C name=AA AF) (m:Gx K C=AD)
  (i:PySem.Within mA ns) (hsz:ns.length<=sizeLine)
  (h:∀f,ObjM f x dx C (λy=>if y=name then AA v else mA y)->Ba dx s.heap f->Q () {s with heap:=f,toks:=s.toks+2}) :
  AR (model prog w) A (setAttr (.ref x) name v) Q E s:=by
 obtain⟨q,J,u⟩:=I.look;refine W.set_plain X J k (W.osa_open (s:={s with toks:=s.toks+1}) (r:=AF) X J l j λb=>?_);obtain⟨z,n,d⟩:=W.any_some m;have g:s.heap.get? x=AA ⟨.ref C,AA dx,.plain,#[]⟩:=I.obj;refine AC (AL (AC (AC (wpAny_loadPart g (AC (W.Looks.here (s:={s with toks:=s.toks+1}) (W.looks_clsIn X n) ?_))))));rw[d];refine AL (a:=AA dx) (AC (AL (AC ?_)));refine wpAny_nsSet1 (s:={s with toks:=s.toks+1}) I.ns λh' hn2 hs2=>?_;obtain⟨t,o,p,b,c,e⟩:=hn2.count (PySem.Within.cons name v i);refine AC (wpAny_lookBehind b (by rw[c];exact pastItsLine_dict (BB e (by rw[AV];lia))) ?_);exact AL (h _ ⟨(hs2.2 _ (Aw I.ne)).trans I.obj,hn2,I.ne⟩ hs2)
def b21{R:Hs->AK->Prop}{vs:List AG}{a:List (Str×AG)}(X:K.In s.heap)(b:IB K C=AD)
  (hi:BW K (.ref C) "__init__"=AA (AA (.ref f))) (c:W.typeIn K (.ref f)=AA (.type "function"))
  (h:Dq (model prog w) (A.under (.builtin "type.__call__" ⟨.ref C::vs,a⟩)) (.call (.ref f) ⟨.ref (s.heap.objs.size+1)::vs,a⟩) (W.InitBack (s.heap.objs.size+1) R)
   {s with heap:=(s.heap.push Cr).push (EE C s.heap.objs.size)}) :
  Dq (model prog w) A (.call (.ref C) ⟨vs,a⟩) R s:=by
 obtain⟨i,g,d,t,e⟩:=s;exact W.make_core (W.makes_of X b) (W.looks_findIn X hi) (λself=>W.bind_fn X self c) (.inl rfl) h
end
abbrev z6(f:Str)(v:V):List (Str×V)->List (Str×V)
 |[]=>[(f,v)]
 |(g,x)::r=>if g=f then(g,v)::r else(g,x)::z6 f v r
theorem av2(f g:Str)(v:V):∀c:List (Str×V),(z6 f v c).lookup g=if g=f then AA v else c.lookup g
 |[]=>by
  show DH g [(f,v)]=_
  by_cases h:g=f
  ·have a:(g==f)=AD:=beq_iff_eq.mpr h;simp only[DH,a,if_pos h]
  ·have a:(g==f)=AE:=beq_eq_false_iff_ne.mpr h;simp only[DH,a,if_neg h]
 |(k,x)::r=>by
  have d:=av2 f g v r;rw[show z6 f v ((k,x)::r)=(if k=f then(k,v)::r else(k,x)::z6 f v r) from rfl]
  by_cases b:k=f
  ·rw[if_pos b]
   by_cases h:g=k
   ·have a:(g==k)=AD:=beq_iff_eq.mpr h;simp only[DH,a,if_pos (h.trans b)]
   ·have a:(g==k)=AE:=beq_eq_false_iff_ne.mpr h;simp only[DH,a,if_neg (λe:g=f=>h (e.trans b.symm))]
  ·rw[if_neg b]
   by_cases h:g=k
   ·have a:(g==k)=AD:=beq_iff_eq.mpr h;simp only[DH,a,if_neg (λe:g=f=>b (h.symm.trans e))]
   ·have a:(g==k)=AE:=beq_eq_false_iff_ne.mpr h;simp only[DH,a];exact d
theorem ak9(f:Str)(v:V):∀b:List (Str×V),f∈(z6 f v b).map (·.1)/\∀g,g∈b.map (·.1)->g∈(z6 f v b).map (·.1)
 |[]=>⟨by simp[z6],λg h=>by simp at h⟩
 |(k,x)::r=>by
  obtain⟨d,c⟩:=ak9 f v r;rw[show z6 f v ((k,x)::r)=(if k=f then(k,v)::r else(k,x)::z6 f v r) from rfl]
  by_cases a:k=f
  ·rw[if_pos a];subst a;exact⟨∎,λg h=>by simpa using h⟩
  ·rw[if_neg a];refine⟨?_,λg h=>?_⟩
   ·rw[As];exact Ar _ d
   ·rw[As]at h ⊢
    rcases AN.mp h with e|e
    ·exact mem_cons.mpr (.inl e)
    ·exact Ar _ (c g e)
theorem av0(f:Str)(v:V):∀b:List (Str×V),(z6 f v b).length<=b.length+1
 |[]=>by simp[z6]
 |(k,x)::r=>by
  have c:=av0 f v r;rw[show z6 f v ((k,x)::r)=(if k=f then(k,v)::r else(k,x)::z6 f v r) from rfl]
  by_cases a:k=f
  ·rw[if_pos a,AV,AV];lia
  ·rw[if_neg a,AV,AV];lia
def A4.some_of{o:Option AG}(r:A4 (AA v) o):∃u,o=AA u/\i6 v u:=by
 cases o with
 |none=>exact(show False from r).elim
 |some u=>exact⟨u,rfl,r⟩
def A4.none_of{o:Option AG}(r:A4 AF o):o=AF:=by
 cases o with
 |none=>rfl
 |some u=>exact(show False from r).elim
def bw2(r:i6 v u):W.handedIn u=AD:=by
 cases v with
 |non=>cases(show u=Bc from r);rfl
 |bl b=>cases(show u=FY b from r);rfl
 |int i=>obtain⟨t,e⟩:=(show ∃t,u=ER i t from r);cases e;rfl
 |str x=>obtain⟨t,e⟩:=(show ∃t,u=ES x t from r);cases e;rfl
 |byt b=>obtain⟨t,e⟩:=(show ∃t,u=Jt b t from r);cases e;rfl
 |flt b=>obtain⟨t,e⟩:=(show ∃t,u=Hm b t from r);cases e;rfl
 |ref a=>cases(show u=Ap a from r);rfl
 |ty n=>cases(show u=Cm n from r);rfl
section
variable {P:An} {w:Ax} {H':Hp} {h':BC} {a:AH} {fs fs':List (Str×V)}
def ac0(c:HOk P w H h)(e:H a=AA (.ins C dx fs)):∃b,ObjM h a dx C b/\(∀f,A4 (fs.lookup f) (b f))/\PySem.Within b (fs.map (·.1))/\fs.length<=1000/\H dx=AA (.own a):=by
 obtain⟨d,z,i,g,b,n,r,q⟩:=(show o7 P w H h a (.ins C dx fs) from c a _ e);exact⟨b,⟨g,n,i⟩,r,q,z,d⟩
end
structure Cls(K:AQ)(C:AH):Prop where
 pg:GB K C Str.empty=AD
 hd:Gx K C=AD
 po:Ic K C=AD
 sa:BW K (.ref C) "__setattr__"=AA (AA (.builtin "object.__setattr__"))
def Cls.get{K:AQ}(c:Cls K C)(f:Str):GB K C f=AD:=c.pg
abbrev G0(K:AQ)(C:AH)(f:Str):Prop:=BW K (.ref C) f=AA AF
def G0.taker{K:AQ}(n:G0 K C f):Jj K C f=AA AF:=by
 unfold Jj;rw[show BW K (.ref C) f=AA AF from n];rfl
structure Meth(K:AQ)(C:AH)(m:Str)(f:AH):Prop where
 at_:BW K (.ref C) m=AA (AA (.ref f))
 fn:JH K (.ref f)=AD
 kp:Bh K (.ref f)=AD
section
variable {pins:List (AH×Obj)} {σ:St} {a:AH} {fs:List (Str×V)} {E:AG->AK->Prop}
def bq3{b:Bool}(I:Inv X pins σ H s)(e:H a=AA (.ins C dx fs))(c:Cls X.K C)(n:G0 X.K C f)(l:fs.lookup f=AA v)
  (h:∀u d,Inv X pins σ H d->i6 v u->Q u d):AR (model X.prog X.w) A (getAttr (.ref a) f b) Q E s:=by
 obtain⟨i,O,r,_,_,_⟩:=ac0 I.hok e;obtain⟨u,j,g⟩:=A4.some_of (v:=v) (o:=i f) (by rw[<-l];exact r f);exact cb7 I.kIn O (c.get f) c.hd n j (bw2 g) (h u _ (I.tok _) g)
def ak5{m:Str}{g:AH}{b:Sem Bool}{Q:AG×List AG->AK->Prop}(I:Inv X pins σ H s)(e:H a=AA (.ins C dx fs))(c:Cls X.K C)(k:Meth X.K C m g)(l:fs.lookup m=AF)
  (h:Q (.ref g,[.ref a]) s):AR (model X.prog X.w) A (KS (.ref a) m b) Q E s:=by
 obtain⟨d,O,r,_,_,_⟩:=ac0 I.hok e;have f:d m=AF:=A4.none_of (by rw[<-l];exact r m);exact b28 I.kIn O (c.get m) k.at_ k.fn f h
def bq8{y:V}{Q:Unit->AK->Prop}(I:Inv X pins σ H s)(e:H a=AA (.ins C dx fs))(c:Cls X.K C)(n:G0 X.K C f)(v:fs.length<1000)(l:i6 y u)
  (h:∀i,Inv X pins σ (upd H a (.ins C dx (z6 f y fs))) i->Q () i):AR (model X.prog X.w) A (setAttr (.ref a) f u) Q E s:=by
 obtain⟨j,O,r,d,_,k⟩:=ac0 I.hok e;have m:(fs.map (·.1)).length<=sizeLine:=by rw[AW,HK];lia
 refine b85 I.kIn O c.sa c.po n.taker c.hd d m λh' O' sb=>h _ ?_;have p:∃o,h'.get? dx=AA o:=let⟨o,_,_,t,_⟩:=O'.ns;⟨o,t⟩;refine I.write (x:=a) (e:=dx) (by rw[e];exact CW) (.inr k) (λb q hb z=>(sb.2 b hb).trans z) p ?_;refine⟨by rw[i9 O.ne];exact k,?_,O.ne,O'.obj,_,O'.ns,λg=>?_,λg hg=>?_⟩
 ·have:=av0 f y fs;lia
 ·show A4 ((z6 f y fs).lookup g) (if g=f then AA u else j g);rw[av2]
  by_cases q:g=f
  ·rw[if_pos q,if_pos q];exact l
  ·rw[if_neg q,if_neg q];exact r g
 ·by_cases q:g=f
  ·rw[q];exact(ak9 f y fs).1
  ·refine(ak9 f y fs).2 g (d g λz=>hg ?_);show(if g=f then AA u else j g)=AF;rw[if_neg q];exact z
def Inv.made(I:Inv X pins σ H s):Inv X pins σ (upd (upd H s.heap.objs.size (.own (s.heap.objs.size+1))) (s.heap.objs.size+1) (.ins C s.heap.objs.size []))
  {s with heap:=(s.heap.push Cr).push (EE C s.heap.objs.size)}:=by
 have c:(s.heap.push Cr).get? s.heap.objs.size=AA Cr:=Ae s.heap rfl;have e:((s.heap.push Cr).push (EE C s.heap.objs.size)).get? (s.heap.objs.size+1)=AA (EE C s.heap.objs.size):=by
  have:=Ae (s.heap.push Cr) (o:=EE C s.heap.objs.size) rfl
  rwa [Cb]at this
 have d:(s.heap.push Cr).Ns s.heap.objs.size (λ_=>AF):=⟨Cr,#[],_,c,rfl,(λe he=>absurd he ∎),λ_=>rfl⟩;have f:=I.laid (a:=s.heap.objs.size) (o:=.own (s.heap.objs.size+1)) (h':=s.heap.push Cr) (t':=s.toks) (λb u q=>AM _ q) (AS _) ⟨_,c⟩;refine f.laid (a:=s.heap.objs.size+1) (o:=.ins C s.heap.objs.size []) (t':=s.toks) (λb u q=>AM _ q) (KU (Cb _ _)) ?_;have b:s.heap.objs.size≠s.heap.objs.size+1:=BX (GS _);refine⟨by rw[i9 b,p8],BK _,b,e,λ_=>AF,(Heap.Ns1.of_empty d).at λo q=>AM _ q,λ_=>CW,λy hy=>absurd rfl hy⟩
def cg3{prog:An}{w:Ax}{env:Env}{e:AT}{a:Pos}(b:Cp e f env (eval e env)=eval e env)
  (h:AR (model prog w) A (eval e env) (λo s₁=>AR (model prog w) A (getAttr o f AD) Q E s₁) E s):AR (model prog w) A (eval (.Attribute e f a) env) Q E s:=
 Attribute_any_ h (by rw[arm_eval_Attribute,b])
end
abbrev de0(K:AQ)(ta:TE)(f:Str):TE:=λσ H Q=>ta σ H λx H1=>∃a C dx fs v,x=.ref a/\H1 a=AA (.ins C dx fs)/\Cls K C/\G0 K C f/\fs.lookup f=AA v/\Q v H1
abbrev dd1(K:AQ)(ta tv:TE)(f:Str):TS:=λD σ H=>tv σ H λy H1=>ta σ H1 λx H2=>∃a C dx fs,x=.ref a/\H2 a=AA (.ins C dx fs)/\Cls K C/\G0 K C f/\fs.length<1000 /\
 D.nx σ (upd H2 a (.ins C dx (z6 f y fs)))
section
variable {o e value:AT} {pos pos' tpos:Pos} {ta tv:TE}
def cv2(i:PE X e ta)(j:Cp e f X.env (eval e X.env)=eval e X.env):PE X (.Attribute e f pos) (de0 X.K ta f):=by
 intro b s d H Q I h;refine cg3 j (thn (i b s d H _ I h) λu s1 z20=>?_);obtain⟨x,p,o,g,a,C,t,r,v,k,m,c,n,l,q⟩:=z20;subst k;obtain rfl:u=Ap a:=g;exact bq3 o m c n l λu' s2 I2 ru=>⟨v,p,I2,ru,q⟩
def cm6(k:PE X o ta)(i:PE X value tv)(j:CZ value (AA (.Attribute o f pos')) pos.line X.env=pure AE):PS X (.Assign [.Attribute o f pos'] value pos) (dd1 X.K ta tv f):=by
 intro b s d H D I h;refine plainObj_wpAny_Assign_Attribute (thn (i b s d H _ I h) λu s1⟨y,H1,I1,ry,q⟩=>thn (k b s1 d H1 _ I1 q) λov s2 z21=>?_) j;obtain⟨x,v,r,e,a,C,u,t,m,p,c,n,l,g⟩:=z21;subst m;obtain rfl:ov=Ap a:=e;exact bq8 r p c n l ry λs3 I3=>⟨d,_,I3,g⟩
end
section
variable {pins:List (AH×Obj)} {σ:St} {E:AG->AK->Prop} {c:AG} {b:Bool}
inductive TyOf(K:AQ)(H:Hp):V->AG->Prop where
 |non:TyOf K H .non (.type "NoneType")
 |bl (x:Bool):TyOf K H (.bl x) (.type "bool")
 |int (i:Int):TyOf K H (.int i) (.type "int")
 |str (x:Str):TyOf K H (.str x) (.type "str")
 |flt (x:UInt64):TyOf K H (.flt x) (.type "float")
 |lst {a:AH} {xs:List V} (e:H a=AA (.lst xs)):TyOf K H (.ref a) (.type "list")
 |frz {a:AH} {o:Obj} {xs:List V} (e:H a=AA (.frz o (.lst xs))):TyOf K H (.ref a) (.type "list")
 |tup {a:AH} {xs:List V} (e:H a=AA (.tup xs)):TyOf K H (.ref a) (.type "tuple")
 |dK {a:AH} {kvs:List (Key×V)} (e:H a=AA (.dK kvs)):TyOf K H (.ref a) (.type "dict")
 |dT {a:AH} {kvs:List (Ai×V)} (e:H a=AA (.dT kvs)):TyOf K H (.ref a) (.type "dict")
 |ins {a C dx:AH} {fs:List (Str×V)} (e:H a=AA (.ins C dx fs)) (cl:Cls K C) (ha:BW K (.ref C) "__class__"=AA (AA (.builtin "object.__class__")))
   (hn:W.specialIn K (.builtin "object.__class__") "__get__"=AA (AA (.builtin "getset_descriptor.__get__"))) (htk:W.takesIn K (.builtin "object.__class__")=AA AD)
   (hm:W.mroIn K C (.type "object")=AA AD):TyOf K H (.ref a) (.ref C)
def bw0{x:V}{t:AG}(I:Inv X pins σ H s)(d:i6 x u)(v:TyOf X.K H x t)(e:Dp X.K t c=AA b)(h:∀B,Q (.bool b) {s with toks:=B}):
  AR (model X.prog X.w) A (call (.builtin "isinstance") [u,c]) Q E s:=by
 cases v with
 |non=>cases(show u=Bc from d);exact Ck W.kitx_none I.kIn CW e (λz=>nomatch z) h
 |bl y=>cases(show u=FY y from d);exact Ck W.kitx_bool I.kIn CW e (λz=>nomatch z) h
 |int i=>obtain⟨t,q⟩:=(show ∃t,u=ER i t from d);cases q;exact Ck W.kitx_int I.kIn CW e (λz=>nomatch z) h
 |str y=>obtain⟨t,q⟩:=(show ∃t,u=ES y t from d);cases q;exact Ck W.kitx_str I.kIn CW e (λz=>nomatch z) h
 |flt y=>obtain⟨t,q⟩:=(show ∃t,u=Hm y t from d);cases q;exact Ck W.kitx_float I.kIn CW e (λz=>nomatch z) h
 |@lst a k f=>
  cases(show u=Ap a from d);obtain⟨_,_,n,_,g⟩:=(show o7 X.prog X.w H s.heap a (.lst k) from I.hok a _ f);exact Ck W.kitx_list I.kIn ⟨_,g,rfl⟩ e (λz=>nomatch z) h
 |@frz a F k f=>
  cases(show u=Ap a from d);obtain⟨_,_,_,n,_,g⟩:=(show o7 X.prog X.w H s.heap a (.frz F (.lst k)) from I.hok a _ f);exact Ck W.kitx_list I.kIn ⟨_,g,rfl⟩ e (λz=>nomatch z) h
 |@tup a k f=>
  cases(show u=Ap a from d);obtain⟨_,_,_,p⟩:=(show o7 X.prog X.w H s.heap a (.tup k) from I.hok a _ f);obtain⟨o,g,l,_⟩:=p;exact Ck LD I.kIn ⟨o,g,l⟩ e (λz=>nomatch z) h
 |@dK a j f=>
  cases(show u=Ap a from d);obtain⟨_,_,U,_,p⟩:=(show o7 X.prog X.w H s.heap a (.dK j) from I.hok a _ f);obtain⟨o,S,T,g,l,_⟩:=p;exact Ck W.kitx_dict I.kIn ⟨o,g,l.1⟩ e (λz=>nomatch z) h
 |@dT a j f=>
  cases(show u=Ap a from d);obtain⟨_,_,k,_,o,S,T,g,l,_⟩:=(show o7 X.prog X.w H s.heap a (.dT j) from I.hok a _ f);exact Ck W.kitx_dict I.kIn ⟨o,g,l.1⟩ e (λz=>nomatch z) h
 |@ins a C dx fs f r P M m N=>
  cases(show u=Ap a from d);obtain⟨Z,O,_⟩:=ac0 I.hok f;obtain⟨Y,J,_⟩:=O.look;exact Ck (W.kitx_own (r.get _) r.hd P M m N) I.kIn J e (λz=>nomatch z) h
end
end L2
namespace L2
open PySem PySem.Spec PyProof.Rows
variable{A:BU}{C:AH}{us:List AG}{X:Cx}{s:AK}{H:Hp}{pins:List (AH×Obj)}{σ:St}{Q:VK}{ps:List Str}{x:Str}{vs:List V}{kindOf:Str->Option Fm}
structure Room(k:Nat)(A:BU):Prop where
 hd:A.handled=AF
 dp:A.depth+3*k+5<Hu
 un:A.units+16*k+200<Bw
theorem Room.deeper{k:Nat}(r:Room (k+1) A)(env:Env):Room k (A.deeper env):=
 ⟨r.hd,by have:=r.dp;show A.depth+1+3*k+5<_;lia,by have:=r.un;show A.units+3+16*k+200<_;lia⟩
def bq6{a:List (Str×AG)}:(A.under (.builtin "type.__call__" ⟨.ref C::us,a⟩)).depth=A.depth+1:=by
 first|rfl|simp[HL,Code.weight,Code.isCreation,Code.isGuard,Code.isCaller,KW,He,guardIds]
def bp6{a:List (Str×AG)}:(A.under (.builtin "type.__call__" ⟨.ref C::us,a⟩)).units=A.units+1:=by
 first|rfl|simp[HL,Code.cUnits,KW,He]
def Room.make{k:Nat}(r:Room (k+1) A)(C:AH)(us:List AG)(a:List (Str×AG)):Room k (A.under (.builtin "type.__call__" ⟨.ref C::us,a⟩)):=
 ⟨r.hd,by have:=r.dp;rw[bq6];lia,by have:=r.un;rw[bp6];lia⟩
theorem Room.depth{k:Nat}(r:Room k A):A.depth<Hu:=by have:=r.dp;lia
abbrev at1:TA:=λ_ H Q=>Q [] H
abbrev aq8(ta:TE)(tr:TA):TA:=λσ H Q=>ta σ H λx H1=>tr σ H1 λxs H2=>Q (x::xs) H2
section
variable {e:AT} {es:List AT} {te:TE} {t:TA} {pos:Pos}
def bd7:PA X [] at1:=λ_ _ _ _ H Q I h=>EF ⟨[],H,I,.nil,h⟩
def ao2(j:PE X e te)(i:PA X es t)(g:Am (e::es) X.env=(AE,eval e X.env)::Am es X.env:=by rfl):PA X (e::es) (aq8 te t):=by
 intro b a s c H Q I h;rw[g];show AR _ _ (spliced ((AE,eval e X.env)::Bv b (Am es X.env))) _ _ s;refine DC (thn (j a s c H _ I h) λu s1 z22=>?_);obtain⟨x,l,k,d,f⟩:=z22;exact thn (i b a s1 c l _ k f) λus s2⟨xs,H2,I2,r2,q2⟩=>⟨x::xs,H2,I2,.cons d r2,q2⟩
abbrev da6(t:TA):TE:=λσ H Q=>t σ H λxs H1=>xs.length<=sizeLine/\∀p,H1 p=AF->Q (.ref p) (upd H1 p (.tup xs))
abbrev c76(t:TA):TE:=λσ H Q=>t σ H λxs H1=>xs.length<=sizeLine/\∀p,H1 p=AF->Q (.ref p) (upd H1 p (.lst xs))
def cs6{x1}(h:PA X es t):PE X (.Tuple es x1 pos) (da6 t):=by
 intro a s b H Q I c;refine wpAny_Tuple_spliced (thn (h pos a s b H _ I c) λus s1⟨xs,H1,I1,r,z,q⟩=>⟨by rw[<-r.length];exact z,?_⟩);have d:H1 s1.heap.objs.size=AF:=I1.hok.fresh (AS _);refine⟨.ref s1.heap.objs.size,upd H1 s1.heap.objs.size (.tup xs),I1.laid (t':=s1.toks) (λb u e=>AM _ e) (AS _) ?_,rfl,q _ d⟩;exact⟨z,us,r,D2.new _ _⟩
def ch4(h:PA X es t):PE X (.List es pos) (c76 t):=by
 intro a s b H Q I c;refine wpAny_List_spliced (thn (h pos a s b H _ I c) λus s1⟨xs,H1,I1,r,z,q⟩=>⟨by rw[<-r.length];exact z,?_⟩);have d:H1 s1.heap.objs.size=AF:=I1.hok.fresh (AS _);refine⟨.ref s1.heap.objs.size,upd H1 s1.heap.objs.size (.lst xs),I1.laid (t':=s1.toks) (λb u e=>AM _ e) (AS _) ?_,rfl,q _ d⟩;exact⟨z,us,0,r,Ae _ rfl⟩
end
@[reducible]noncomputable def Sp:=List V->Hp->VK->XK->Prop
@[reducible]noncomputable def CXT:=List Env->Hp->AK->XK->AG->AK->Prop
structure Env0(P:An)(w:Ax)(K:AQ)(mg:Str->Option AG)(base:BC)(A:BU)(outer:List Env)(s:AK)(H:Hp):Prop where
 frames:A.frames=AA outer
 mod:Mod K mg base
 bs:∀b o,base.get? b=AA o->s.heap.get? b=AA o/\H b=AF
 bsz:base.objs.size<=s.heap.objs.size
 funs:s.heap.FunFrames base outer
 frf:∀b∈frs outer,H b=AF
 hok:HOk P w H s.heap
 bare:Gc s.gens
abbrev CE(outer:List Env)(P:An)(w:Ax)(H:Hp)(s:AK)(Q:VK)(u:AG)(s':AK):Prop:=
 ∃v H',s'.os=s.os/\Gc s'.gens/\Un (frs outer) [] H H' s.heap s'.heap/\HOk P w H' s'.heap/\i6 v u/\Q v H'
abbrev CR(CX:CXT)(outer:List Env)(P:An)(w:Ax)(H:Hp)(s:AK)(Q:VK)(E:XK)(r:Hs)(s':AK):Prop:=
 match r with
 |.ok (.ret u)=>CE outer P w H s Q u s'
 |.ok _=>False
 |.error e=>CX outer H s E e s'
structure FnOk(P:An)(w:Ax)(K:AQ)(mg:Str->Option AG)(base:BC)(CX:CXT)(k:Nat)(f:AH)(fd:Bi)(ps:List Str)(sp:Sp):Prop where
 len:∀vs H Q E,sp vs H Q E->vs.length=ps.length
 run:∀(A:BU)(outer:List Env)(s:AK)(H:Hp)(args:Args)(us:List AG)(vs:List V)(Q:VK)(E:XK),Room k A->Env0 P w K mg base A outer s H->FH s fd args (ps.zip us)->g9 vs us->sp vs H Q E ->
  Dq (model P w) A (.call (.ref f) args) (CR CX outer P w H s Q E) s
def Env0.make{P:An}{w:Ax}{K:AQ}{mg:Str->Option AG}{b:BC}{a:List Env}(e:Env0 P w K mg b A a s H)(C:AH)(us:List AG)(c:List (Str×AG)):
  Env0 P w K mg b (A.under (.builtin "type.__call__" ⟨.ref C::us,c⟩)) a s H:=⟨by first|exact e.frames|(simpa[HL,Code.envs,He,pushEnvs]using e.frames),e.mod,e.bs,e.bsz,e.funs,e.frf,e.hok,e.bare⟩
section
variable {s':AK}
def Inv.env0(I:Inv X pins σ H s):Env0 X.prog X.w X.K X.mg X.base X.A X.stack s H:=
 ⟨I.ok.frames,I.ok.mod,I.bs,BB I.ok.bsz I.sz,I.stack,I.stkFree,I.hok,I.bare⟩
def Inv.after{u:AG}(I:Inv X pins σ H s)(h:CE X.stack X.prog X.w H s Q u s'):EP X pins σ Q u s':=by
 obtain⟨v,j,f,a,e,c,r,q⟩:=h;obtain⟨i,g,d,t,b⟩:=s';obtain rfl:b=s.os:=f;exact⟨v,j,I.call (h':=i) (g':=g) (d':=d) (t':=t) (ch:=[]) e c a (λb z=>absurd z ∎),r,q⟩
end
abbrev c28(sp:Sp)(dvs:List V)(E:XK)(t:TA):TE:=λσ H Q=>t σ H λvs H1=>sp (vs++dvs) H1 Q E
abbrev bk0(C:AH)(sp:Sp)(dvs:List V)(E:XK)(t:TA):TE:=λσ H Q=>t σ H λvs H1=>∀x dx,H1 x=AF->H1 dx=AF->dx≠x ->
 sp (.ref x::(vs++dvs)) (upd (upd H1 dx (.own x)) x (.ins C dx [])) (λv H2=>v=.non/\Q (.ref x) H2) E
abbrev p7(K:AQ)(fd:Bi)(ps:List Str)(ds:List AG):Prop:=
 ∀(s:AK)(us:List AG),K.In s.heap->(us++ds).length=ps.length->FH s fd ⟨us,[]⟩ (ps.zip (us++ds))
def p7.all{K:AQ}{fd:Bi}(h:∀a:List AG,a.length=ps.length->EU fd ⟨a,[]⟩=pure (ps.zip a)):p7 K fd ps []:=λs a _ hl=>by
 rw[BZ]at hl ⊢;exact .of_eq (h a hl)
abbrev U1(CX:CXT)(X:Cx)(E:XK):Prop:=∀(pins:List (AH×Obj))(σ:St)(H:Hp)(s:AK)(e:AG)(s':AK),Inv X pins σ H s->CX X.stack H s E e s'->X.xe e s'
section
variable {CX:CXT} {k:Nat} {f:AH} {fd:Bi} {sp:Sp} {dvs:List V} {ds:List AG} {E:XK} {m:Str} {p pos apos:Pos} {e o:AT} {es:List AT} {ta:TE} {t:TA}
def P8(F:FnOk X.prog X.w X.K X.mg X.base CX k f fd ps sp)(i:Room k X.A)(m:p7 X.K fd ps ds)(l:g9 dvs ds)(g:U1 CX X E)
  (I:Inv X pins σ H s) (r:g9 vs us) (h:sp (vs++dvs) H Q E):AR (model X.prog X.w) X.A (call (.ref f) us) (EP X pins σ Q) X.xe s:=by
 have b:g9 (vs++dvs) (us++ds):=r.append l;have j:(us++ds).length=ps.length:=by rw[<-b.length];exact F.len _ _ _ _ h
 refine wpAny_call (Gh (F.run X.A X.stack s H ⟨us,[]⟩ (us++ds) (vs++dvs) Q E i I.env0 (m s us I.kIn j) b h) λr s' hq=>?_);cases r with
 |error e=>exact g pins σ H s e s' I hq
 |ok n=>
  cases n with
  |ret u=>exact I.after hq
  |next=>exact AU hq
  |brk=>exact AU hq
  |cont=>exact AU hq
def a96(F:FnOk X.prog X.w X.K X.mg X.base CX k f fd ps sp)(i:Room k X.A)(m:Gl X x)(j:X.mg x=AA (.ref f))(l:Bh X.K (.ref f)=AD)(u:p7 X.K fd ps ds)(o:g9 dvs ds)(g:U1 CX X E)
  (v:PA X (e::es) t) (c:(x==("__debug__":Str))=AE:=by decide) (n:Am (e::es) X.env=(AE,eval e X.env)::Am es X.env:=by rfl) (b:(Bv pos (Am es X.env)).any (·.1)=AE:=by rfl) :
  PE X (.Call (.Name x p) (e::es) [] pos) (c28 sp dvs E t):=by
 intro a s d H Q I h;refine CI (S8 I m j ?_ c);refine EC (h₀:=X.base) I.ok.mod.kin l (thn (v pos a s d H _ I h) λus s1⟨vs,H1,I1,r,q⟩=>⟨I1.kIn,?_⟩) n b;exact P8 F i u o g I1 r q
structure Mk(K:AQ)(C f:AH):Prop where
 makes:IB K C=AD
 init:BW K (.ref C) "__init__"=AA (AA (.ref f))
 fn:JH K (.ref f)=AD
 kp:Bh K (.ref C)=AD
def a74(M:Mk X.K C f)(F:FnOk X.prog X.w X.K X.mg X.base CX k f fd ps sp)(o:Room (k+1) X.A)(t:p7 X.K fd ps ds)(q:g9 dvs ds)
  (n:U1 CX X E) (I:Inv X pins σ H s) (r:g9 vs us)
  (h:∀x a,H x=AF->H a=AF->a≠x->sp (.ref x::(vs++dvs)) (upd (upd H a (.own x)) x (.ins C a [])) (λv H2=>v=.non/\Q (.ref x) H2) E) :
  AR (model X.prog X.w) X.A (call (.ref C) us) (EP X pins σ Q) X.xe s:=by
 have g:=h (s.heap.objs.size+1) s.heap.objs.size (I.hok.fresh (Ie _)) (I.hok.fresh (AS _)) (BX (GS _));have b:=Inv.made (C:=C) I;have d:g9 (V.ref (s.heap.objs.size+1)::(vs++dvs)) (Ap (s.heap.objs.size+1)::(us++ds)):=.cons rfl (r.append q);have p:(Ap (s.heap.objs.size+1)::us++ds).length=ps.length:=by
  have e:=d.length;rw[F.len _ _ _ _ g]at e;exact e.symm
 refine wpAny_call (b21 (f:=f) I.kIn M.makes M.init (beq_iff_eq.mp M.fn) (Gh (F.run _ X.stack _ _ ⟨Ap (s.heap.objs.size+1)::us,[]⟩ (Ap (s.heap.objs.size+1)::(us++ds)) _ _ E (o.make C us [])
  (b.env0.make C us []) (t _ (Ap (s.heap.objs.size+1)::us) b.kIn p) d g) λr s' hq'=>?_))
 cases r with
 |error e=>exact n pins σ _ _ e s' b hq'
 |ok y=>
  cases y with
  |ret u=>
   obtain⟨v,G,D,j,z,m⟩:=b.after hq';subst z;exact⟨j,⟨V.ref (s.heap.objs.size+1),G,D,rfl,m⟩⟩
  |next=>exact AU hq'
  |brk=>exact AU hq'
  |cont=>exact AU hq'
def b95(M:Mk X.K C f)(F:FnOk X.prog X.w X.K X.mg X.base CX k f fd ps sp)(i:Room (k+1) X.A)(l:Gl X x)(j:X.mg x=AA (.ref C))(o:p7 X.K fd ps ds)(n:g9 dvs ds)(g:U1 CX X E)
  (u:PA X (e::es) t) (c:(x==("__debug__":Str))=AE:=by decide) (m:Am (e::es) X.env=(AE,eval e X.env)::Am es X.env:=by rfl) (b:(Bv pos (Am es X.env)).any (·.1)=AE:=by rfl) :
  PE X (.Call (.Name x p) (e::es) [] pos) (bk0 C sp dvs E t):=by
 intro a s d H Q I h;refine CI (S8 I l j ?_ c);refine EC (h₀:=X.base) I.ok.mod.kin M.kp (thn (u pos a s d H _ I h) λus s1⟨vs,H1,I1,r,q⟩=>⟨I1.kIn,?_⟩) m b;exact a74 M F i o n g I1 r q
def bw8(M:Mk X.K C f)(F:FnOk X.prog X.w X.K X.mg X.base CX k f fd ps sp)(d:Room (k+1) X.A)(g:Gl X x)(e:X.mg x=AA (.ref C))(j:p7 X.K fd ps ds)(i:g9 dvs ds)(c:U1 CX X E)
  (a:(x==("__debug__":Str))=AE:=by decide):PE X (.Call (.Name x p) [] [] pos) (bk0 C sp dvs E at1):=by
 intro b s l H Q I h;refine CI (S8 I g e ?_ a);exact Ko I.kIn M.kp (a74 (us:=[]) M F d j i c I .nil h)
end
structure FnScope(N P:List Str)(sc:BH):Prop where
 kind:sc.kind=.function
 co:sc.isCoroutine=AE
 gen:sc.isGenerator=AE
 nd:N.Nodup
 pre:N.take P.length=P
 par:∀x∈P,sc.names.lookup x=AA .local\/sc.names.lookup x=AA .cell
 nofree:∀y∈sc.names,y.2≠.free
theorem ay0:∀{a:List (Str×AG)}{m:Str->Option AG},(∀v,(x,v)∉a)->IR kindOf a m x=m x
 |[],_,_=>rfl
 |(n,v)::r,m,h=>by
  unfold IR;rw[ay0 λw hw=>h w (Ar _ hw)]
  split
  ·have:x≠n:=by rintro rfl;exact h v CG
   simp[this]
  ·rfl
theorem ay7:∀{a:List (Str×AG)}{m:Str->Option AG},(∀v,(x,v)∉a)->IS kindOf a m x=m x
 |[],_,_=>rfl
 |(n,v)::r,m,h=>by
  unfold IS;rw[ay7 λw hw=>h w (Ar _ hw)]
  split
  ·rfl
  ·have:x≠n:=by rintro rfl;exact h v CG
   simp[this]
theorem ax6{v:AG}:∀{P:List Str}{a:List AG}{i:Nat}{m:Str->Option AG},P.Nodup->P[i]?=AA x->a[i]?=AA v->kindOf x=AA .local ->
  IR kindOf (P.zip a) m x=AA v
 |[],_,_,_,_,h,_,_=>by simp at h
 |_::_,[],_,_,_,_,h,_=>by simp at h
 |p::P,w::a,0,m,d,c,b,e=>by
  simp at c b;subst c;subst b;show IR kindOf ((p,w)::P.zip a) m p=_;unfold IR;rw[ay0 λv hv=>(BP.mp d).1 (FI hv).1,if_pos e];simp
 |p::P,w::a,i+1,m,d,c,b,e=>by
  show IR kindOf ((p,w)::P.zip a) m x=_;unfold IR;exact ax6 (i:=i) (BP.mp d).2 (by simpa using c) (by simpa using b) e
theorem az5{v:AG}:∀{P:List Str}{a:List AG}{i:Nat}{m:Str->Option AG},P.Nodup->P[i]?=AA x->a[i]?=AA v->kindOf x≠AA .local ->
  IS kindOf (P.zip a) m x=AA v
 |[],_,_,_,_,h,_,_=>by simp at h
 |_::_,[],_,_,_,_,h,_=>by simp at h
 |p::P,w::a,0,m,d,c,b,e=>by
  simp at c b;subst c;subst b;show IS kindOf ((p,w)::P.zip a) m p=_;unfold IS;rw[ay7 λv hv=>(BP.mp d).1 (FI hv).1,if_neg e];simp
 |p::P,w::a,i+1,m,d,c,b,e=>by
  show IS kindOf ((p,w)::P.zip a) m x=_;unfold IS;exact az5 (i:=i) (BP.mp d).2 (by simpa using c) (by simpa using b) e
abbrev z9(N:List Str)(vs:List V):St:=vs.map AA++Al (N.length-vs.length) AF
abbrev ad7(CX:CXT)(P:An)(w:Ax)(K:AQ)(mg:Str->Option AG)(base:BC)(N:List Str)(qual:Str)(scope:BH)(f:AH)(cd:AG)(A:BU)(outer:List Env)(s:AK)(H:Hp)(E:XK):Cx where
 prog:=P
 w:=w
 K:=K
 mg:=mg
 base:=base
 A:=A.deeper (HD qual scope s.heap.objs.size f cd)
 N:=N
 s₀:=s
 H₀:=H
 env:=HD qual scope s.heap.objs.size f cd
 outer:=outer
 stack:=HD qual scope s.heap.objs.size f cd::outer
 ex:=[]
 calm:=AD
 fn:=λ_=>AD
 pn:=[]
 xe:=λe s'=>AR (model P w) (A.deeper (HD qual scope s.heap.objs.size f cd)) (leaving (HD qual scope s.heap.objs.size f cd) e) (λ_ s''=>CX outer H s E e s'') (λe' s''=>CX outer H s E e' s'') s'
def a01{a:BH}{n:Nat}(h:a.names.lookup x=AA .cell):∃c,(KY n a.names []).lookup x=AA c:=by
 have q:=Jk a.names n [] (.inl h);exact BO.mp q
def bu1{L:CXT}{P:An}{w:Ax}{K:AQ}{mg:Str->Option AG}{j:BC}{N:List Str}{g:Str}{scope:BH}{f:AH}{F:AG}{d:List Env}{G:AK}{E:XK}
  (S:FnScope N ps scope) (Q:A.handled=AF) (l:Env0 P w K mg j A d s H) (U:vs.length=ps.length) (r:g9 vs us)
  (x:InCallC s s.heap.objs.size (IR (HD g scope s.heap.objs.size f F).kindOf (ps.zip us) λ_=>AF) (KY (s.heap.objs.size+1) scope.names []) (IS (HD g scope s.heap.objs.size f F).kindOf (ps.zip us) λ_=>AF) G) :
  Inv (ad7 L P w K mg j N g scope f F A d s H E) [] (z9 N vs) H G:=by
 have O:ps.length<=N.length:=by have:=congrArg CV S.pre;rw[Bn]at this;lia
 obtain ⟨D,T,rfl,J⟩:=x.done;have m:∀ b:AH,b ∉ (ad7 L P w K mg j N g scope f F A d s H E).ex:=λb z=>absurd (show b ∈ ([]:List AH) from z) ∎;refine ⟨⟨l.mod,S.kind,rfl,rfl,AS _,λy z c D h2=>?_,λy o=>?_,λy c _ h=>?_,λ_=>Q,Hf l.frames,.inr ⟨rfl,rfl⟩,λb z=>absurd z (m b),l.bs,l.bsz,λb _ _=>m b,λb z=>absurd z (m b),l.funs,l.frf⟩,
  rfl,l.bare,Un.kept J,⟨_,x.toInCall.ns,λi y v D h2 h3=>?_⟩,λy c h=>⟨_,x.cell y c h⟩,l.hok.fresh (AS _),λy c h=>?_,λp B=>absurd (show p ∈ ([]:List (AH × Obj)) from B) ∎,l.hok.kept J,?_⟩
 ·exact name_of_addr x.apart (PySem.mem_of_lookup D) (PySem.mem_of_lookup h2)
 ·have o:scope.names.lookup y=AA .cell\/scope.names.lookup y=AA .free:=o
  rcases o with o|o
  ·exact a01 o
  ·exact absurd rfl (S.nofree _ (PySem.mem_of_lookup o))
 ·exact Gd (x.above y c (PySem.mem_of_lookup h))
 ·have C:i<vs.length:=by
   unfold z9 at h2
   by_cases C:i<vs.length
   ·exact C
   ·rw[Af (by simpa using C)]at h2;rw[DP]at h2
    split at h2<;>cases h2
  have R:vs[i]?=AA v:=by
   unfold z9 at h2;rw[Ac (by simpa using C),Ag]at h2;cases e:vs[i]? with
   |none=>rw[e]at h2;cases h2
   |some a=>rw[e]at h2;cases h2;rfl
  obtain⟨u,I,M⟩:=r.get R;have B:ps[i]?=AA y:=by
   rw[<-S.pre,HM ⋯];exact D
  have t:ps.Nodup:=by rw[<-S.pre];exact S.nd.sublist (Ig _ _)
  refine⟨u,M,?_⟩
  rcases S.par y (BS B)with k|k
  ·exact .inl ⟨k,ax6 t B I k⟩
  ·obtain⟨c,e⟩:=a01 (n:=s.heap.objs.size+1) k;refine .inr ⟨.inl k,c,e,?_⟩;have q:=x.cell y c e;rw[az5 t B I (by show scope.names.lookup y≠_;rw[k];decide)]at q;exact q
 ·exact .inl (l.hok.fresh (Gd (x.above y c (PySem.mem_of_lookup h))))
 ·unfold z9;show _=N.length;rw[Ad,AW,DD];lia
end L2
namespace L2
open PySem PySem.Spec PyProof.Rows
section
variable {X:Cx} {x:Str} {p pos:Pos} {e:AT} {es:List AT} {t:TA} {id T:String} {r:List V->Hp->VK->Prop}
abbrev tCB(r:List V->Hp->VK->Prop)(t:TA):TE:=λσ H Q=>t σ H λvs H1=>r vs H1 Q
def ab2(l:E9 X (.builtin id) r)(j:Gl X x)(i:X.mg x=AF)(f:BG x=AA (.builtin id))(m:PA X (e::es) t)(g:x≠"__name__":=by decide)(c:(x==("__debug__":Str))=AE:=by decide)
  (k:Am (e::es) X.env=(AE,eval e X.env)::Am es X.env:=by rfl) (b:(Bv pos (Am es X.env)).any (·.1)=AE:=by rfl):PE X (.Call (.Name x p) (e::es) [] pos) (tCB r t):=by
 intro a s d H Q I h;refine CI (G1 I j i f ?_ g c);exact Kq (thn (m pos a s d H _ I h) λus s1⟨vs,H1,I1,r1,q1⟩=>l a s1 d H1 vs us Q I1 r1 q1) k b
def bv1(l:E9 X (.type T) r)(j:Gl X x)(i:X.mg x=AF)(f:BG x=AA (.type T))(m:PA X (e::es) t)(g:x≠"__name__":=by decide)(c:(x==("__debug__":Str))=AE:=by decide)
  (k:Am (e::es) X.env=(AE,eval e X.env)::Am es X.env:=by rfl) (b:(Bv pos (Am es X.env)).any (·.1)=AE:=by rfl):PE X (.Call (.Name x p) (e::es) [] pos) (tCB r t):=by
 intro a s d H Q I h;refine CI (G1 I j i f ?_ g c);exact BD (thn (m pos a s d H _ I h) λus s1⟨vs,H1,I1,r1,q1⟩=>l a s1 d H1 vs us Q I1 r1 q1) k b
end
end L2
namespace HT
open PySem PyProof.Rows
section
open PySem.SeqAt
open PySem.AutoSeq1 (wpAny_loadPart')
open PySem.MeetsSeq PySem.MeetsSeq2 PySem.MeetsSeq3
end
section
variable {prog:An} {w:Ax} {A:BU} {E:AG->AK->Prop} {s:AK}
def cat_tup{t b:AH}{vs a:List AG}{Q:AG->AK->Prop}(x:Hn s.heap t vs.toArray)(y:Hn s.heap b a.toArray)(o:vs≠[])
  (B:a=[]->Q (.ref t) s) (z:a≠[]->Q (.ref s.heap.objs.size) {s with heap:=s.heap.push {cls:=.type "tuple",data:=.seq (vs++a).toArray}})
  (hsz:vs.length+a.length<=sizeLine):AR (model prog w) A (Cv .Add (.ref t) (.ref b)) Q E s:=by
 obtain⟨⟨C,r,u,l⟩,j,q,n,p⟩:=id x;obtain⟨⟨v,h,k,d⟩,c,g,m,f⟩:=id y;simp only at q p g f;subst q p g f;have e:vs.toArray++a.toArray=(vs++a).toArray:=by simp
 by_cases i:a=[]
 ·exact Ih ⟨_,j,rfl⟩ ⟨_,c,rfl⟩ HE IJ PySem.F.slot_tuple_add PySem.F.entry_tuple_add (PySem.F.args_tuple_add_2 _ _)
   (tuple_addW1 t b vs.toArray a.toArray n m r h l d (by simpa using o) (by simp[i])) ⟨j,c,B i⟩
 ·refine Ih ⟨_,j,rfl⟩ ⟨_,c,rfl⟩ HE IJ PySem.F.slot_tuple_add PySem.F.entry_tuple_add (PySem.F.args_tuple_add_2 _ _)
   (tuple_addW2 t b vs.toArray a.toArray n m r h l d (by simpa using o) (by simpa using i) (by rw[Ab,Ab];exact hsz)) ⟨j,c,?_⟩
  rw[e];exact z i
abbrev sIx(n d:Nat):Option Int->Nat
 |none=>d
 |some v=>if v<0 then(v+(n:Int)).toNat else min v.toNat n
def bg9(n d:Nat)(b:d<=n)(o:Option Int):sIx n d o<=n:=by
 cases o with
 |none=>exact b
 |some v=>
  show(if v<0 then(v+(n:Int)).toNat else min v.toNat n)<=n
  by_cases a:v<0
  ·rw[if_pos a];lia
  ·rw[if_neg a];exact FJ _ _
def ba4(v:Int)(n d:Nat):(if v<0 then max (v+(n:Int)) 0 else min v (n:Int))=((sIx n d (AA v):Nat):Int):=by
 show(if v<0 then max (v+(n:Int)) 0 else min v (n:Int))=(((if v<0 then(v+(n:Int)).toNat else min v.toNat n):Nat):Int)
 by_cases a:v<0
 ·simp only[if_pos a];lia
 ·simp only[if_neg a];lia
def br0(lo hi:Option Int)(n:Nat):Db lo hi 1 (n:Int)=(((sIx n 0 lo:Nat):Int),((sIx n n hi:Nat):Int)):=by
 have a:¬((1:Int)<0):=by lia
 unfold Db;simp only[a,if_false];refine Prod.ext ?_ ?_
 ·cases lo with
  |none=>rfl
  |some v=>exact ba4 v n 0
 ·cases hi with
  |none=>rfl
  |some v=>exact ba4 v n n
def br3(i j:Nat):Ce (i:Int) (j:Int) 1=j-i:=by
 unfold Ce;have a:(1:Int)>0:=by lia
 simp only[a,if_true,Int.ediv_one]
 split<;>lia
def av8{v:AG}{o:Option Int}{Q:Option Int->AK->Prop}(p:Fn v o)(h:Q o s):AR (model prog w) A (KZ v) Q E s:=by
 cases p with
 |none=>exact LF h
 |int i t=>exact slicePart_int h
def au5{g:AH}{f e:AG}{lo hi:Option Int}{n:Nat}{Q:Int×Int×Nat->AK->Prop}(k:s.heap.IsSliceOf g f e .none)(j:Fn f lo)(i:Fn e hi)
  (h:Q (((sIx n 0 lo:Nat):Int),1,sIx n n hi-sIx n 0 lo) s):AR (model prog w) A (FZ (.ref g) (pure (n:Int))) Q E s:=by
 obtain⟨o,c,l,d⟩:=id k;unfold FZ Ka;refine AC (AC (Au c d (x:=f) rfl (AC (Au c d (x:=e) rfl (AC (Au c d (x:=.none) rfl (AL ?_)))))));refine AC (LF ?_);show AR _ _ (if((1:Int)==0)=AD then _ else _) _ _ s;rw[if_neg ∅];refine AC (av8 j (AC (av8 i (AC (AL ?_)))));show AR _ _ (match Db lo hi 1 (n:Int)with|(lo,hi)=>pure (lo,(1:Int),Ce lo hi 1)) _ _ s;rw[br0 lo hi n];show AR _ _ (pure (((sIx n 0 lo:Nat):Int),(1:Int),Ce ((sIx n 0 lo:Nat):Int) ((sIx n n hi:Nat):Int) 1)) _ _ s;rw[br3];exact AL h
def b22(a:Array AG)(i k:Nat):((DY k).filterMap λ(m:Nat)=>a[((i:Int)+(m:Int)*1).toNat]?).toArray=((a.toList.drop i).take k).toArray:=by
 have e:(λ(m:Nat)=>a[((i:Int)+(m:Int)*1).toNat]?)=λm=>a[i+m]?:=by
  funext m
  have:((i:Int)+(m:Int)*1).toNat=i+m:=by lia
  rw[this]
 rw[e];have:=pick_run a i k;rw[List.filterMap_map]at this;have b:((λx=>a[x]?)∘λx=>i+x)=λm=>a[i+m]?:=rfl;rw[b]at this;rw[this]
def getItem_tuple_cut{t d:AH}{a:Array AG}{k j:AG}{lo hi:Option Int}{Q:AG->AK->Prop}(c:Hn s.heap t a)(l:s.heap.IsSliceOf d k j .none)(o:Fn k lo)(n:Fn j hi)
  (r:¬(sIx a.size 0 lo=0/\sIx a.size a.size hi=a.size))
  (h:Q (.ref s.heap.objs.size) {s with heap:=s.heap.push {cls:=.type "tuple",data:=.seq ((a.toList.drop (sIx a.size 0 lo)).take (sIx a.size a.size hi-sIx a.size 0 lo)).toArray}})
  (hsz:a.size<=sizeLine):AR (model prog w) A (Dr (.ref t) (.ref d)) Q E s:=by
 have b:sizeOk (.seq ((a.toList.drop (sIx a.size 0 lo)).take (sIx a.size a.size hi-sIx a.size 0 lo)).toArray):=by
  show((a.toList.drop (sIx a.size 0 lo)).take (sIx a.size a.size hi-sIx a.size 0 lo)).toArray.size<=sizeLine;rw[Ab,Bn,Bo,FG];lia
 have y:sIx a.size a.size hi<=a.size:=bg9 _ _ (AS _) hi;obtain⟨p,e,g,u⟩:=id l;have i:s.TypeIs (.ref d) "slice":=⟨p,e,g⟩;unfold Dr
 try with_reducible refine Bd ?_
 first|refine AC (AL ?_)|skip
 refine AC (Gi c.typeIs ∅ ?_);refine AC (BM (name:=Aa "__getitem__") c.typeIs BQ
  (BL BQ c.typeIs JZ ?_ (Jl _ _)))
 show AR _ _ (DX (.ref t)>>=_) _ _ s;refine AC (tupleItemsOf_ c ?_);refine AC (FK i ?_);rw[if_pos ∅];refine AC (au5 l o n ?_);have f:¬((((sIx a.size 0 lo:Nat):Int)==0&&(1:Int)==1&&(sIx a.size a.size hi-sIx a.size 0 lo)==a.size)=AD):=by
  intro q;rw[BJ,BJ]at q;have x:((sIx a.size 0 lo:Nat):Int)=0:=Kb q.1.1;have v:sIx a.size a.size hi-sIx a.size 0 lo=a.size:=Kb q.2;exact r ⟨⋯,⋯⟩
 show AR _ _ (if(((sIx a.size 0 lo:Nat):Int)==0&&(1:Int)==1&&(sIx a.size a.size hi-sIx a.size 0 lo)==a.size)=AD then _ else _) _ _ s;rw[if_neg f,b22]
 first
  |exact AC (m:=Cg _) (Bb (AL ⟨_,rfl,AL h⟩) b)
  |exact AC (m:=Cg _) (Bb (AC (AL (AL ⟨_,rfl,AL h⟩))) b)
  |exact AC (AC (m:=Cg _) (Bb (AL (AL ⟨_,rfl,AL h⟩)) b))
  |exact AC (AC (m:=Cg _) (Bb (AL ⟨_,rfl,AL h⟩) b))
end
end HT
namespace L2
open PySem PySem.Spec PyProof.Rows
@[reducible]noncomputable def TO:=St->Hp->(Option Int->Hp->Prop)->Prop
abbrev PO(X:Cx)(e:Option AT)(t:TO):Prop:=
 ∀(pins:List (AH×Obj))(s:AK)(σ:St)(H:Hp)(Q:Option Int->Hp->Prop),Inv X pins σ H s->t σ H Q ->
  AR (model X.prog X.w) X.A (evalPart e X.env) (λu s'=>∃o H',Inv X pins σ H' s'/\Fn u o/\Q o H') X.xe s
abbrev b71:TO:=λ_ H Q=>Q AF H
abbrev cw6(t:TE):TO:=λσ H Q=>t σ H λx H1=>∃i,x=.int i/\Q (AA i) H1
section
variable {X:Cx} {e:AT} {te:TE} {lo hi:Option AT} {tl th:TO} {pos p2:Pos}
def b54:PO X AF b71:=by
 intro a s b H Q I h;rw[evalPart_none];exact AL ⟨AF,H,I,.none,h⟩
def b90(h:PE X e te):PO X (AA e) (cw6 te):=by
 intro a s b H Q I f;rw[evalPart_some];refine thn (h a s b H _ I f) λu s1 z23=>?_;obtain⟨x,j,g,c,d⟩:=z23;obtain⟨i,rfl,q⟩:=d;obtain⟨t,rfl⟩:=c;exact⟨AA i,j,g,.int i t,q⟩
abbrev SlR(X:Cx)(r:V->Option Int->Option Int->Hp->VK->Prop):Prop:=
 ∀(pins:List (AH×Obj))(s:AK)(σ:St)(H:Hp)(x:V)(v vl vu:AG)(lo hi:Option Int)(sl:AH)(Q:VK),Inv X pins σ H s->i6 x v->s.heap.IsSliceOf sl vl vu .none->Fn vl lo->Fn vu hi->r x lo hi H Q ->
  ∃T id,GT (.type T) "__getitem__"=pure (AA (.builtin id))/\s.TypeIs v T/\AR (model X.prog X.w) X.A (Dr v (.ref sl)) (EP X pins σ Q) X.xe s
def SlR.or{r j:V->Option Int->Option Int->Hp->VK->Prop}(h:SlR X r)(h':SlR X j):SlR X (λx b c H Q=>r x b c H Q\/j x b c H Q):=by
 intro a s d H x v f e b c g Q I i m l k q
 rcases q with q|q
 ·exact h a s d H x v f e b c g Q I i m l k q
 ·exact h' a s d H x v f e b c g Q I i m l k q
abbrev tSl(r:V->Option Int->Option Int->Hp->VK->Prop)(te:TE)(tl th:TO):TE:=λσ H Q=>te σ H λx H1=>tl σ H1 λl H2=>th σ H2 λu H3=>r x l u H3 Q
def az8{r:V->Option Int->Option Int->Hp->VK->Prop}(m:SlR X r)(p:PE X e te)(n:PO X lo tl)(j:PO X hi th):PE X (.Subscript e (.Slice lo hi AF p2) pos) (tSl r te tl th):=by
 intro a s b H Q I h;refine Jm (thn (p a s b H _ I h) λv s1 z24=>?_);obtain⟨x,C,B,d,g⟩:=z24;refine wpAny_Slice (thn (n a s1 b C _ B g) λvl s2⟨l,H2,I2,pl,q2⟩=>thn (j a s2 b H2 _ I2 q2) λvu s3 z25=>?_);obtain⟨u,c,z,i,f⟩:=z25;rw[evalPart_none];refine AL ?_;have y:Inv X a b c {s3 with heap:=s3.heap.push {cls:=.type "slice",data:=.fields #[vl,vu,.none]}}:=z.kept (t':=s3.toks) λb ob q=>AM _ q;obtain⟨T,D,t,k,o⟩:=m a {s3 with heap:=s3.heap.push {cls:=.type "slice",data:=.fields #[vl,vu,.none]}} b c x v vl vu l u s3.heap.objs.size Q y d (Jx ..) pl i f;show AR (model X.prog X.w) X.A (GL e (.Slice lo hi AF p2) v (.ref s3.heap.objs.size)) (EP X a b Q) X.xe {s3 with heap:=s3.heap.push {cls:=.type "slice",data:=.fields #[vl,vu,.none]}};exact tail_any (ops:=[.ref s3.heap.objs.size,v]) k t o (by with_unfolding_all rfl)
abbrev O1(xs:List V)(lo hi:Option Int):List V:=(xs.drop (HT.sIx xs.length 0 lo)).take (HT.sIx xs.length xs.length hi-HT.sIx xs.length 0 lo)
def av1(a:List V)(lo hi:Option Int):(O1 a lo hi).length<=a.length:=by
 unfold O1;rw[Bn,Bo];lia
abbrev c78(K:AQ):V->Option Int->Option Int->Hp->VK->Prop:=λx lo hi H Q=>∃a xs,x=.ref a/\SqT K H a xs /\
 ¬(HT.sIx xs.length 0 lo=0/\HT.sIx xs.length xs.length hi=xs.length)/\∀p,H p=AF->Q (.ref p) (upd H p (.tup (O1 xs lo hi)))
def bh4:SlR X (c78 X.K):=by
 intro g s u H x v y w d f z Q I k t m l h;obtain⟨a,c,rfl,n,p,q⟩:=h;cases k;obtain⟨e,r,j,i⟩:=I.tuple n;have b:e.toArray.size=c.length:=by rw[Ab];exact r.length.symm
 refine⟨"tuple",_,BQ.lookup,j.typeIs,?_⟩;refine HT.getItem_tuple_cut j t m l (by rw[b];exact p) ?_ (by rw[b];exact i);rw[b];refine⟨.ref s.heap.objs.size,_,I.laid (t':=s.toks) (o:=.tup (O1 c d f)) (λb ob q=>AM _ q) (AS _) ?_,rfl,q _ (I.hok.fresh (AS _))⟩;exact⟨BB (av1 c d f) i,_,(r.drop (HT.sIx c.length 0 d)).take (HT.sIx c.length c.length f-HT.sIx c.length 0 d),D2.new _ _⟩
abbrev c25(K:AQ):R2:=λx y H Q=>∃a b xs ys,x=.ref a/\y=.ref b/\SqT K H a xs/\SqT K H b ys/\xs≠[]/\xs.length+ys.length<=sizeLine /\
 (ys=[]->Q (.ref a) H)/\(ys≠[]->∀p,H p=AF->Q (.ref p) (upd H p (.tup (xs++ys))))
def g9.nil_iff{a:List V}{us:List AG}(r:g9 a us):us=[]↔a=[]:=by
 cases r with
 |nil=>simp
 |cons _ _=>simp
def cg9:OpR X (Cv .Add) (c25 X.K):=by
 intro e s D H x y v u Q I l k h;obtain⟨a,b,j,i,rfl,rfl,C,B,A,g,n,m⟩:=h;cases l;cases k;obtain⟨t,d,r,_⟩:=I.tuple C;obtain⟨f,c,p,_⟩:=I.tuple B;refine HT.cat_tup r p (λz=>A (d.nil_iff.mp z)) (λz=>⟨.ref a,H,I,rfl,n (c.nil_iff.mp z)⟩) (λz=>?_) (by rw[<-d.length,<-c.length];exact g);refine⟨.ref s.heap.objs.size,_,I.laid (t':=s.toks) (o:=.tup (j++i)) (λb ob q=>AM _ q) (AS _) ?_,rfl,m (λw=>z (c.nil_iff.mpr w)) _ (I.hok.fresh (AS _))⟩;exact⟨by rw[Ad];exact g,_,d.append c,D2.new _ _⟩
end
variable{pins:List (AH×Obj)}{σ:St}{H:Hp}{s:AK}
abbrev ixN(n:Nat)(i:Int):Option Nat:=if 0<=i then(if i<n then AA i.toNat else AF)else if -(n:Int)<=i then AA (i+n).toNat else AF
abbrev atI{α:Type}(xs:List α)(i:Int):Option α:=(ixN xs.length i).bind λj=>xs[j]?
def ao0{n:Nat}{i:Int}{j:Nat}(h:ixN n i=AA j):IT i n=AA j/\j<n/\-(n:Int)<=i/\i<n:=by
 unfold ixN at h
 by_cases b:0<=i
 ·rw[if_pos b]at h
  by_cases a:i<n
  ·rw[if_pos a]at h;have e:i.toNat=j:=Av h;exact⟨by rw[JI b a,e],⋯,⋯,a⟩
  ·rw[if_neg a]at h;cases h
 ·rw[if_neg b]at h
  by_cases a:-(n:Int)<=i
  ·rw[if_pos a]at h;have e:(i+n).toNat=j:=Av h;exact⟨by rw[Ii ⋯ a,e],⋯,a,⋯⟩
  ·rw[if_neg a]at h;cases h
def am8{b:Type}{a:List b}{i:Int}{v:b}(h:atI a i=AA v):∃j,IT i a.length=AA j/\a[j]?=AA v/\j<a.length/\-(a.length:Int)<=i/\i<a.length:=by
 unfold atI at h;cases e:ixN a.length i with
 |none=>rw[e]at h;cases h
 |some j=>
  rw[e]at h;obtain⟨g,f,d,c⟩:=ao0 e;exact⟨j,g,h,f,d,c⟩
abbrev bc5(b:AT):Prop:=∀o i,subscripted b AE o i=operate [o,i] (Dr o i)
abbrev IxR(X:Cx)(r:R2):Prop:=
 ∀(value slice:AT)(pins:List (AH×Obj))(s:AK)(σ:St)(H:Hp)(x y:V)(v u:AG)(Q:VK),Inv X pins σ H s->i6 x v->i6 y u->r x y H Q ->
  subscripted slice AE v u=operate [v,u] (Dr v u)->AR (model X.prog X.w) X.A (GL value slice v u) (EP X pins σ Q) X.xe s
abbrev MtR(X:Cx)(id:String)(r:V->List V->Hp->VK->Prop):Prop:=
 ∀(pins:List (AH×Obj))(s:AK)(σ:St)(H:Hp)(x:V)(xs:List V)(v:AG)(us:List AG)(Q:VK),Inv X pins σ H s->i6 x v->g9 xs us->r x xs H Q ->
  AR (model X.prog X.w) X.A (call (.builtin id) (v::us)) (EP X pins σ Q) X.xe s
section
variable {X:Cx} {a b:AT} {ta tb:TE} {pos:Pos}
def IxR.or{r g:R2}(h:IxR X r)(h':IxR X g):IxR X (λx y H Q=>r x y H Q\/g x y H Q):=by
 intro a b c s d H x y v u Q I f e q i
 rcases q with q|q
 ·exact h a b c s d H x y v u Q I f e q i
 ·exact h' a b c s d H x y v u Q I f e q i
def c63{r:R2}(f:IxR X r)(i:PE X a ta)(g:PE X b tb)(e:bc5 b):PE X (.Subscript a b pos) (tOp r ta tb):=by
 intro c s d H Q I h;exact Jm (as5 i g I h λv u s2 x y H2 I2 rx ry q=>f a b c s2 d H2 x y v u Q I2 rx ry q (e _ _))
abbrev dd6(K:AQ):R2:=λx y H Q=>∃p xs i v,x=.ref p/\y=.int i/\SqL K H p xs/\atI xs i=AA v/\Q v H
abbrev dc2(K:AQ):R2:=λx y H Q=>∃p xs i v,x=.ref p/\y=.int i/\SqT K H p xs/\atI xs i=AA v/\Q v H
abbrev dc5:R2:=λx y H Q=>∃z i c,x=.str z/\y=.int i/\z.length<=sizeLine/\atI z.cps.toList i=AA c/\Q (.str ⟨#[c]⟩) H
def cb1:IxR X (dd6 X.K):=by
 intro d e a s m H x y v u Q I C B h n;obtain⟨p,M,i,z,rfl,rfl,D,F,q⟩:=h;cases C;obtain⟨t,rfl⟩:=B;obtain⟨k,r,g,N⟩:=I.list D;obtain⟨j,c,L,P,J,G⟩:=am8 F;obtain⟨w,A,f⟩:=r.get L;have E:=r.length;have O:=X5;have b:EP X a m Q w s:=⟨z,H,I,f,q⟩
 by_cases o:0<=i
 ·have l:i.toNat=j:=by
   rw[JI o G]at c;exact Av c
  exact item_listR g.isList o ⋯ (by rw[l];simpa using A) b n
 ·have l:(i+(k.toArray.size:Int)).toNat=j:=by
   rw[Ii ⋯ J]at c;rw[Ab,<-E];exact Av c
  exact Ij (x:=w) g.isList.typeIs Jy.lookup
   (wpAny_getItem_list_neg (Q:=λr s'=>r=w/\EP X a m Q r s') g.isList ⋯ (by rw[Ab]<;>lia) ⋯ (by rw[l];simpa using A) ⟨rfl,b⟩) n
def cm0:IxR X (dc2 X.K):=by
 intro b c a s f H x y v u Q I l k h n;obtain⟨p,F,i,z,rfl,rfl,o,B,q⟩:=h;cases l;obtain⟨t,rfl⟩:=k;obtain⟨m,r,g,G⟩:=I.tuple o;obtain⟨j,D,C,N,M,L⟩:=am8 B;obtain⟨w,E,d⟩:=r.get C;have A:=r.length;have J:=X5;have e:EP X a f Q w s:=⟨z,H,I,d,q⟩;exact Ij (x:=w) g.typeIs EV.lookup
  (getItem_tuple (j:=j) (Q:=λr s'=>r=w/\EP X a f Q r s') g ⋯ ⋯ (by rw[Ab,<-A];exact D) (by simpa using E) ⟨rfl,e⟩) n
def ct6:IxR X dc5:=by
 intro a b d s A H x y v u Q I g f h k;obtain⟨z,i,c,rfl,rfl,C,m,q⟩:=h;obtain⟨t,rfl⟩:=g;obtain⟨B,rfl⟩:=f;obtain⟨j,e,p,E,o,n⟩:=am8 m;have l:z.cps.toList.length=z.length:=by simp[Str.length]
 rw[l]at e o n;have D:=X5;exact tail_any (typeIs_str s z t) slot_str_getitem.lookup (getItem_str (c:=c) (by
  have w:AB (i < -(2^63:Int))=AE:=decide_eq_false ⋯;have r:AB (i>=2^63)=AE:=decide_eq_false ⋯;rw[w,r,HN]) (by rw[e];simpa using p) ⟨.str ⟨#[c]⟩,H,I.tok _,⟨_,rfl⟩,q⟩) k
def br9(a:List AG)(n j:Nat)(u:AG):CD (·.setIfInBounds j u) {cls:=.type "list",data:=.seq a.toArray n}={cls:=.type "list",data:=.seq (a.set j u).toArray n}:=by
 simp[CD]
theorem Inv.lst{p:AH}{b:List V}(I:Inv X pins σ H s)(h:H p=AA (.lst b)):
  ∃(a:List AG)(n:Nat),g9 b a/\s.heap.get? p=AA {cls:=.type "list",data:=.seq a.toArray n}/\b.length<=sizeLine:=by
 obtain⟨z,a,n,r,e⟩:=I.hok p _ h;exact⟨a,n,r,e,z⟩
def Inv.lstUpd{p:AH}{g b:List V}{a its':List AG}{n c:Nat}{f:Obj->Obj}(I:Inv X pins σ H s)(h:H p=AA (.lst g))
  (i:s.heap.get? p=AA {cls:=.type "list",data:=.seq a.toArray n}) (d:f {cls:=.type "list",data:=.seq a.toArray n}={cls:=.type "list",data:=.seq its'.toArray c}) (r:g9 b its') (hz:b.length<=sizeLine) (t:Nat) :
  Inv X pins σ (upd H p (.lst b)) {s with heap:=s.heap.update p f,toks:=t}:=by
 have e:(s.heap.update p f).get? p=AA {cls:=.type "list",data:=.seq its'.toArray c}:=by
  rw[CH f i (by rw[d]<;>rfl),d]
 refine I.write (x:=p) (e:=p) (by rw[h];trivial) (.inl rfl) (λb u hb q=>(Cq _ _ (Aw hb)).trans q) ⟨_,e⟩ ?_;exact⟨hz,its',c,r,e⟩
abbrev c70:V->V->V->Hp->(Hp->Prop)->Prop:=λo i v H Q=>∃p xs k j,o=.ref p/\i=.int k/\H p=AA (.lst xs)/\ixN xs.length k=AA j/\Q (upd H p (.lst (xs.set j v)))
def bz2:bk3 X c70:=by
 intro a s y H o i v F G u Q I B C A h;obtain⟨p,z,k,j,rfl,rfl,g,E,q⟩:=h;cases B;obtain⟨t,rfl⟩:=C;obtain⟨b,n,r,d,D⟩:=I.lst g;obtain⟨c,K,m,l⟩:=ao0 E;have e:=r.length;have J:=X5;have x:Inv X a y (upd H p (.lst (z.set j v))) {s with heap:=s.heap.update p (CD (·.setIfInBounds j u))}:=
  I.lstUpd g d (br9 b n j u) (r.set A j) (by rw[List.length_set];exact D) s.toks
 by_cases w:0<=k
 ·have f:k.toNat=j:=by
   rw[JI w l]at c;exact Av c
  exact W.ki_setAt d w ⋯ (by rw[Ab,<-e];exact l) (by rw[f];exact⟨_,x,q⟩)
 ·have f:(k+(b.toArray.size:Int)).toNat=j:=by
   rw[Ii ⋯ m]at c;rw[Ab,<-e];exact Av c
  exact W.ki_setBack d ⋯ (by rw[Ab,<-e];exact m) ⋯ (by rw[f];exact⟨_,x,q⟩)
def bn7(lo hi:Option Int)(n:Nat):(Dv lo hi AF n).1=((HT.sIx n 0 lo:Nat):Int)/\(Dv lo hi AF n).2.1=((HT.sIx n n hi:Nat):Int)/\(Dv lo hi AF n).2.2=1:=by
 refine⟨?_,?_,rfl⟩
 ·cases lo with
  |none=>simp[Dv,HT.sIx]
  |some i=>
   simp only[Dv,HT.sIx,Fu,show(1:Int)>0 by decide,if_true]
   by_cases h:i<0
   ·simp only[h,if_true]<;>lia
   ·simp only[h,if_false]<;>lia
 ·cases hi with
  |none=>simp[Dv,HT.sIx]
  |some i=>
   simp only[Dv,HT.sIx,Fu,show(1:Int)>0 by decide,if_true]
   by_cases h:i<0
   ·simp only[h,if_true]<;>lia
   ·simp only[h,if_false]<;>lia
def bn1(a:List AG)(lo hi:Option Int):slicePick a.toArray lo hi AF=((a.drop (HT.sIx a.length 0 lo)).take (HT.sIx a.length a.length hi-HT.sIx a.length 0 lo)).toArray:=by
 obtain⟨d,c,b⟩:=bn7 lo hi a.toArray.size;unfold slicePick;rw[d,c,b];simp only[sliceRange_one,pick_run,Ab]<;>rfl
abbrev dc9(K:AQ):V->Option Int->Option Int->Hp->VK->Prop:=λx lo hi H Q=>∃a xs,x=.ref a/\SqL K H a xs/\∀p,H p=AF->Q (.ref p) (upd H p (.lst (O1 xs lo hi)))
def cb2:SlR X (dc9 X.K):=by
 intro f s t H x v w u d e y Q I i p k j h;obtain⟨a,b,rfl,n,q⟩:=h;cases i;obtain⟨l,r,g,m⟩:=I.list n;have c:=r.length;refine⟨"list",_,Jy.lookup,g.isList.typeIs,?_⟩;refine wpAny_getItem_list_slice g.isList p k j .none ∎ ?_ (by rw[Ab]<;>lia);rw[bn1,<-c];refine⟨.ref s.heap.objs.size,_,I.laid (t':=s.toks) (o:=.lst (O1 b d e)) (λb ob q=>AM _ q) (AS _) ?_,rfl,q _ (I.hok.fresh (AS _))⟩;exact⟨BB (av1 b d e) m,_,0,(r.drop (HT.sIx b.length 0 d)).take (HT.sIx b.length b.length e-HT.sIx b.length 0 d),Ae _ rfl⟩
def bn6:E9 X (.builtin "len") (λxs H Q=>∃p b,xs=[.ref p]/\(SqL X.K H p b\/SqT X.K H p b)/\Q (.int b.length) H):=by
 intro g s l H xs m Q I r h;obtain⟨p,b,rfl,c,q⟩:=h;obtain⟨u,rfl,j⟩:=Y2 r;cases j;have n:=X5
 rcases c with c|c
 ·obtain⟨f,d,e,k⟩:=I.list c;have a:=d.length;exact Calls.call_len_list e.isList (by simp only[Ab]<;>lia) ⟨.int b.length,H,I.tok _,⟨s.toks+1,by rw[Ab,a]⟩,q⟩
 ·obtain⟨f,d,e,k⟩:=I.tuple c;have a:=d.length;exact len_tuple e (by simp only[Ab]<;>lia) ⟨.int b.length,H,I.tok _,⟨s.toks+1,by rw[Ab,a]⟩,q⟩
def bn4:E9 X (.type "list") (λxs H Q=>∃p c,xs=[.ref p]/\(SqL X.K H p c\/SqT X.K H p c)/\∀l,H l=AF->Q (.ref l) (upd H l (.lst c))):=by
 intro i s B H xs E Q I r h;obtain⟨p,c,rfl,k,q⟩:=h;obtain⟨u,rfl,D⟩:=Y2 r;cases D;have t:∀(its:List AG),g9 c its->c.length<=sizeLine->∀(h':BC)(g:Nat),(∀b A,s.heap.get? b=AA A->h'.get? b=AA A) ->
   h'.get? s.heap.objs.size=AA {cls:=.type "list",dict:=AF,data:=.seq its.toArray g,slots:=#[]}->EP X i B Q (.ref s.heap.objs.size) {s with heap:=h'}:=λits d j h' g kp e=>
  ⟨.ref s.heap.objs.size,_,I.laid (t':=s.toks) kp (AS _) (show o7 X.prog X.w _ h' _ (.lst c) from⟨j,its,g,d,e⟩),rfl,q _ (I.hok.fresh (AS _))⟩
 rcases k with k|k
 ·obtain⟨its,d,v,j⟩:=I.list k;have m:=d.length;obtain⟨o,x,z,n,y⟩:=v.isList;exact call_list_seq p (.inl rfl) x z y (λh' g kp e=>t its d j h' g kp e) (by simp only[Ab]<;>lia)
 ·obtain⟨its,d,v,j⟩:=I.tuple k;have m:=d.length;obtain⟨o,x,z,n,y⟩:=v;exact call_list_seq p (.inr rfl) x z y (λh' g kp e=>t its d j h' g kp e) (by simp only[Ab]<;>lia)
def bn0:E9 X (.type "tuple") (λxs H Q=>∃p c,xs=[.ref p]/\((SqL X.K H p c/\∀l,H l=AF->Q (.ref l) (upd H l (.tup c)))\/(SqT X.K H p c/\Q (.ref p) H))):=by
 intro a s i H xs x Q I r h;obtain⟨p,c,rfl,h⟩:=h;obtain⟨u,rfl,t⟩:=Y2 r;cases t
 rcases h with⟨g,q⟩|⟨g,q⟩
 ·obtain⟨b,d,f,j⟩:=I.list g;have k:=d.length;refine call_tuple_list f.isList (λh' kp=>?_) (by simp only[Ab]<;>lia);have m:Inv X a i H {s with heap:=h'}:=I.kept (t':=s.toks) kp;have v:Inv X a i (upd H h'.objs.size (.tup c)) {s with heap:=h'.push {cls:=.type "tuple",data:=.seq b.toArray}}:=
   m.laid (t':=s.toks) (λb o e=>AM _ e) (AS _) (show o7 X.prog X.w _ _ _ (.tup c) from⟨j,b,d,D2.new _ _⟩)
  exact⟨.ref h'.objs.size,_,v,rfl,q _ (m.hok.fresh (AS _))⟩
 ·obtain⟨b,d,f,j⟩:=I.tuple g;exact call_tuple_same f ⟨.ref p,H,I,rfl,q⟩
abbrev tyV(K:AQ)(T:String)(x:V)(H:Hp):Prop:=match x with
 |.str _=>T="str"
 |.int _=>T="int"
 |.ref p=>(T="list"/\∃xs,SqL K H p xs)\/(T="tuple"/\∃o,K.lookup p=AA o/\o.cls=.type "tuple"/\o.dict=AF)\/
   (T="dict"/\((∃kvs,H p=AA (.dK kvs))\/∃kvs,H p=AA (.dT kvs)))\/(T="set"/\∃S n,H p=AA (.set S n))
 |_=>False
def bh8{T:String}{x:V}{v:AG}(I:Inv X pins σ H s)(r:i6 x v)(f:tyV X.K T x H):
  s.TypeIs v T/\∀a,v=.ref a->∃k,s.heap.get? a=AA k/\k.dict=AF:=by
 cases x with
 |str z=>
  obtain⟨t,rfl⟩:=r;cases(show T="str" from f);exact⟨typeIs_str s z t,λ_ e=>nomatch e⟩
 |int i=>
  obtain⟨t,rfl⟩:=r;cases(show T="int" from f);exact⟨Jn s i t,λ_ e=>nomatch e⟩
 |ref p=>
  cases r
  rcases f with⟨rfl,A,w⟩|⟨rfl,o,b,y,h⟩|⟨rfl,b⟩|⟨rfl,S,n,b⟩
  ·obtain⟨q,_,j,_⟩:=I.list w;refine⟨j.isList.typeIs,λa e=>?_⟩;cases e;obtain⟨o,n,e,c,h,_⟩:=j;exact⟨o,e,h⟩
  ·refine⟨⟨o,I.kIn p o b,y⟩,λa e=>?_⟩;cases e;exact⟨o,I.kIn _ o b,h⟩
  ·have z:∃o,s.heap.get? p=AA o/\o.ExactDict:=by
    rcases b with⟨g,b⟩|⟨g,b⟩
    ·obtain⟨_,_,_,_,o,_,_,e,d,_⟩:=I.hok p _ b;exact⟨o,e,d⟩
    ·obtain⟨_,_,_,_,o,_,_,e,d,_⟩:=I.hok p _ b;exact⟨o,e,d⟩
   obtain⟨o,e,d⟩:=z;refine⟨⟨o,e,d.1⟩,λa e2=>?_⟩;cases e2;exact⟨o,e,d.2.1⟩
  ·obtain⟨o,_,_,_,e,d,_⟩:=I.hok p _ b;refine⟨⟨o,e,d.1⟩,λa e2=>?_⟩;cases e2;exact⟨o,e,d.2.1⟩
 |_=>exact AU f
abbrev db1(K:AQ)(T:String)(r:V->List V->Hp->VK->Prop)(to:TE):TE:=λσ H Q=>to σ H λx H1=>tyV K T x H1/\r x [] H1 Q
abbrev tBM(K:AQ)(T:String)(r:V->List V->Hp->VK->Prop)(to:TE)(t:TA):TE:=λσ H Q=>to σ H λx H1=>tyV K T x H1/\t σ H1 λxs H2=>r x xs H2 Q
variable {o e:AT} {es:List AT} {to:TE} {t:TA} {name:Str} {apos cpos:Pos} {T id:String} {r:V->List V->Hp->VK->Prop}
def be4(l:PlainAttrs T)(d:Slot T name id)(e:typeOf (.builtin id)=pure (.type "method_descriptor"))(n:MtR X id r)(m:PE X o to)
  (c:Cp o name X.env (eval o X.env)=eval o X.env:=by rfl) (b:(apos.endLine==cpos.line)=AD:=by rfl):PE X (.Call (.Attribute o name apos) [] [] cpos) (db1 X.K T r to):=by
 intro a s f H Q I h;refine wpAny_Call_method0_late c b (thn (m a s f H _ I h) λv s1 z26=>?_);obtain⟨x,t,i,g,j,k⟩:=z26;obtain⟨q,p⟩:=bh8 i g j;exact⟨T,id,l,d,e,q,p,DJ rfl (PySem.evalArgs_none (n a s1 f t x [] v [] Q i g .nil k))⟩
def c11(q:PlainAttrs T)(f:Slot T name id)(j:typeOf (.builtin id)=pure (.type "method_descriptor"))(y:MtR X id r)(w:PE X o to)(z:PA X (e::es) t)
  (d:Cp o name X.env (eval o X.env)=eval o X.env:=by rfl)
  (g:((Bv cpos (Am (e::es) X.env)).all (λx=>!x.1)&&(FA cpos (DV [] X.env)).all (λx=>x.1.isSome)
   &&AB ((e::es).length+([]:List Hg).length+(if([]:List Hg).isEmpty then 0 else 1)<30))=AD:=by rfl)
  (c:(apos.endLine==cpos.line)=AD:=by rfl) (u:Am (e::es) X.env=(AE,eval e X.env)::Am es X.env:=by rfl) (b:(Bv cpos (Am es X.env)).any (·.1)=AE:=by rfl) :
  PE X (.Call (.Attribute o name apos) (e::es) [] cpos) (tBM X.K T r to t):=by
 intro a s i H Q I h;refine wpAny_Call_method_late d g c rfl (thn (w a s i H _ I h) λv s1 z27=>?_);obtain⟨x,C,m,k,n,p⟩:=z27;obtain⟨B,A⟩:=bh8 m k n;refine⟨T,id,q,f,j,B,A,?_⟩;have l:=z cpos a s1 i C _ m p;rw[u]at l ⊢;refine DJ (by show(AE||(Bv cpos (Am es X.env)).any (·.1))=AE;rw[b]<;>rfl) (FB ?_);exact thn l λus s2⟨vs,H2,I2,r2,q2⟩=>y a s2 i H2 x vs v us Q I2 k r2 q2
end
end L2
namespace L2
open PySem PySem.Spec PyProof.Rows
variable{us:List AG}{xs:List V}
abbrev MtM(X:Cx)(id:String)(r:V->List V->Hp->VK->Prop):Prop:=
 ∀(pins:List (AH×Obj))(s:AK)(σ:St)(H:Hp)(x:V)(xs:List V)(v:AG)(us:List AG)(Q:VK),Inv X pins σ H s->i6 x v->g9 xs us->r x xs H Q ->
  AR (model X.prog X.w) X.A (call (.builtin id) (v::us)) (EP X pins σ Q) X.xe s
def g9.one:∀{x:V}{a:List AG},g9 [x] a->∃u,a=[u]/\i6 x u
 |_,_,.cons r .nil=>⟨_,rfl,r⟩
def g9.two{x y:V}(h:g9 [x,y] us):∃u v,us=[u,v]/\i6 x u/\i6 y v:=by
 cases h with|cons r t=>cases t with|cons q t=>cases t;exact⟨_,_,rfl,r,q⟩
def g9.zero:∀{a:List AG},g9 [] a->a=[]
 |_,.nil=>rfl
theorem g9.dropLast(h:g9 xs us):g9 xs.dropLast us.dropLast:=by
 induction h with
 |nil=>exact .nil
 |cons r t c=>
  cases t with
  |nil=>exact .nil
  |cons q d=>exact .cons r c
theorem g9.eraseIdx:∀{a:List V}{b:List AG}(i:Nat),g9 a b->g9 (a.eraseIdx i) (b.eraseIdx i)
 |_,_,_,.nil=>.nil
 |_,_,0,.cons _ t=>t
 |_,_,i+1,.cons r t=>.cons r (g9.eraseIdx i t)
theorem g9.reverse(h:g9 xs us):g9 xs.reverse us.reverse:=by
 induction h with
 |nil=>exact .nil
 |cons r t c=>rw[Dc,Dc];exact g9.append c (.cons r .nil)
theorem g9.rep(h:g9 xs us):∀k:Nat,g9 (Al k xs).flatten (Al k us).flatten
 |0=>.nil
 |k+1=>by
  rw[Cw,Cw,Dd,Dd];exact g9.append h (g9.rep h k)
def br4{f:Type}(l:List f):l.eraseIdx (l.length-1)=l.dropLast:=by
 induction l with
 |nil=>rfl
 |cons a r g=>
  cases r with
  |nil=>rfl
  |cons b r=>
   have e:(a::b::r).length-1=((b::r).length-1)+1:=by
    have i:(a::b::r).length=r.length+2:=rfl;have h:(b::r).length=r.length+1:=rfl;lia
   rw[e,List.eraseIdx_cons_succ,g]
   all_goals rfl
theorem ax3{a:Type}:∀(l:List a)(i:Nat),(l.eraseIdx i).length<=l.length
 |[],_=>AS _
 |_::_,0=>Ie _
 |_::r,i+1=>Nat.succ_le_succ (ax3 r i)
theorem al0(a:List AG):∀(k:Nat)(b:List AG),
  Fb (λx1 x2=>x1++x2) b.toArray (Al k a.toArray)=(b++(Al k a).flatten).toArray
 |0,b=>by simp
 |k+1,b=>by
  have e:b.toArray++a.toArray=(b++a).toArray:=by simp
  have c:(b++a)++(Al k a).flatten=b++(Al (k+1) a).flatten:=by
   rw[Cw,Dd,Ch]
  rw[<-c,<-al0 a k (b++a),<-e,Cw,List.foldl_cons]
section
variable {X:Cx} {pins:List (AH×Obj)} {σ:St} {H:Hp} {s:AK} {l b:AH} {ys zs:List V}
def Inv.lset{a its':List AG}{n:Nat}{f:Array AG->Array AG}{t':Nat}(I:Inv X pins σ H s)(d:H l=AA (.lst xs))
  (e:s.heap.get? l=AA {cls:=.type "list",data:=.seq a.toArray n}) (c:f a.toArray=its'.toArray) (b:g9 ys its') (hz:ys.length<=sizeLine) :
  Inv X pins σ (upd H l (.lst ys)) {s with heap:=s.heap.update l (CD f),toks:=t'}:=by
 have q:=PySem.IsL.update e f;rw[c]at q;refine I.write (x:=l) (e:=l) (by rw[d];exact trivial) (.inl rfl) (λb' u hb hu=>(Cq s.heap (CD f) (Aw hb)).trans hu) ⟨_,q⟩ ?_;exact⟨hz,its',_,b,q⟩
def Inv.lnew{a:List AG}{t':Nat}(I:Inv X pins σ H s)(b:g9 ys a)(hz:ys.length<=sizeLine):
  Inv X pins σ (upd H s.heap.objs.size (.lst ys)) {s with heap:=s.heap.push {cls:=.type "list",data:=.seq a.toArray},toks:=t'}:=
 I.laid (λ_ _ q=>AM _ q) (AS _) ⟨hz,a,0,b,Ae _ rfl⟩
theorem Inv.fresh(I:Inv X pins σ H s):H s.heap.objs.size=AF:=I.hok.fresh (AS _)
def Inv.lstM(I:Inv X pins σ H s)(b:H l=AA (.lst xs)):xs.length<=sizeLine/\∃(a:List AG)(n:Nat),g9 xs a/\xs.length=a.length/\s.heap.get? l=AA {cls:=.type "list",data:=.seq a.toArray n}:=by
 obtain⟨z,a,n,r,e⟩:=I.hok l _ b;exact⟨z,a,n,r,r.length,e⟩
def a71{n:Nat}(h:n<=sizeLine):CB n=AE:=by
 unfold CB;exact decide_eq_false ⋯
end
section
variable {X:Cx}
abbrev ca7:V->List V->Hp->VK->Prop:=λx vs H Q=>∃l xs y,x=.ref l/\vs=[y]/\H l=AA (.lst xs)/\xs.length<sizeLine/\Q .non (upd H l (.lst (xs++[y])))
def ay1:MtM X "list.append" ca7:=by
 intro b s i H x k v m Q I d f h;obtain⟨l,j,y,rfl,rfl,c,o,q⟩:=h;cases d;obtain⟨u,rfl,g⟩:=f.one;obtain⟨z,a,n,r,p,e⟩:=I.lstM c;refine DQ F.slot_list_append ⟨_,e,rfl⟩ F.entry_list_append (F.args_list_append_2 _ _) (PySem.list_append l a.toArray n u (by rw[Ab];lia)) ⟨e,?_⟩;refine⟨.non,_,I.lset (its':=a++[u]) c e ∎ (r.append (.cons g .nil)) ?_,rfl,q⟩;rw[Ad,Hv];lia
abbrev bb4:V->List V->Hp->VK->Prop:=λx vs H Q=>∃l b xs zs,x=.ref l/\vs=[.ref b]/\H l=AA (.lst xs)/\H b=AA (.lst zs)/\xs.length+zs.length<=sizeLine/\Q .non (upd H l (.lst (xs++zs)))
def bs8:MtM X "list.extend" bb4:=by
 intro g s A H x E v F Q I j k h;obtain⟨l,b,D,B,rfl,rfl,i,w,G,q⟩:=h;cases j;obtain⟨u,rfl,m⟩:=k.one;cases m;obtain⟨z,c,n,r,J,e⟩:=I.lstM i;obtain⟨C,a,p,o,t,y⟩:=I.lstM w;have f:c.toArray.size+a.toArray.size<=sizeLine:=by rw[Ab,Ab];lia
 have d:¬(!c.toArray.isEmpty&&CB (c.toArray.size+a.toArray.size))=AD:=by
  rw[a71 f,Ja];exact AI
 refine DQ JJ ⟨_,e,rfl⟩ Iv (Ik _ _)
  (AutoSeq1.list_extend_list_list_0 l c.toArray n b a.toArray p d (by rw[Ab];lia) ⋯) ⟨e,y,?_⟩
 refine⟨.non,_,I.lset (its':=c++a) i e ∎ (r.append o) ?_,rfl,q⟩;rw[Ad];lia
abbrev c75:V->List V->Hp->VK->Prop:=λx vs H Q=>∃l xs y,x=.ref l/\vs=[]/\H l=AA (.lst xs)/\xs[xs.length-1]?=AA y/\Q y (upd H l (.lst xs.dropLast))
def ct0:MtM X "list.pop" c75:=by
 intro d s p H x w v A Q I g i h;obtain⟨l,t,y,rfl,rfl,f,k,q⟩:=h;cases g;have c:=i.zero;subst c;obtain⟨z,a,n,r,o,e⟩:=I.lstM f;obtain⟨u,m,j⟩:=r.get k;have b:a.toArray[a.toArray.size-1]?=AA u:=by
  show a.toArray[a.length-1]?=AA u;rw[<-Hh,<-o];exact m
 refine DQ Jz ⟨_,e,rfl⟩ Jo (F.args_list_pop_1 _) (MeetsSeq.list_pop_last l a.toArray n u b (by rw[Ab];lia)) ⟨e,?_⟩;refine⟨y,_,I.lset (its':=a.dropLast) f e ?_ r.dropLast ?_,j,q⟩
 ·show a.toArray.eraseIdxIfInBounds (a.toArray.size-1)=a.dropLast.toArray;rw[Ab,GC,br4]
 ·rw[List.length_dropLast];lia
abbrev ct4:V->List V->Hp->VK->Prop:=λx vs H Q=>∃l xs i k y,x=.ref l/\vs=[.int i]/\H l=AA (.lst xs)/\-(2^63)<=i/\i<2^63/\IT i xs.length=AA k/\xs[k]?=AA y/\Q y (upd H l (.lst (xs.eraseIdx k)))
def b10:MtM X "list.pop" ct4:=by
 intro c s E H x G v J Q I g j h;obtain⟨l,f,i,k,y,rfl,rfl,d,D,C,B,o,q⟩:=h;cases g;obtain⟨u,rfl,m⟩:=j.one;obtain⟨t,rfl⟩:=m;obtain⟨z,a,n,r,A,e⟩:=I.lstM d;obtain⟨w,p,b⟩:=r.get o;refine DQ Jz ⟨_,e,rfl⟩ Jo (F.args_list_pop_2 _ _)
  (MeetsSeq.list_pop_at l a.toArray n i t k w (fitsIndex_both D C) (by rw[Ab,<-A];exact B) (by rw[<-Hh];exact p) (by rw[Ab];lia)) ⟨e,?_⟩
 refine⟨y,_,I.lset (its':=a.eraseIdx k) d e ?_ (r.eraseIdx k) ?_,b,q⟩
 ·show a.toArray.eraseIdxIfInBounds k=(a.eraseIdx k).toArray;rw[GC]
 ·have:=ax3 f k;lia
abbrev dc1:R2:=λx y H Q=>∃l b xs zs,x=.ref l/\y=.ref b/\H l=AA (.lst xs)/\H b=AA (.lst zs)/\xs.length+zs.length<=sizeLine/\∀p,H p=AF->Q (.ref p) (upd H p (.lst (xs++zs)))
def cn8:OpR X (Cv .Add) dc1:=by
 intro d s t H x y v u Q I g f h;obtain⟨l,b,B,w,rfl,rfl,k,m,D,q⟩:=h;cases g;cases f;obtain⟨z,c,n,r,E,e⟩:=I.lstM k;obtain⟨A,a,C,i,j,p⟩:=I.lstM m;refine PySem.P.add_list e p ?_ (by rw[Ab,Ab];lia);have o:c.toArray++a.toArray=(c++a).toArray:=by simp
 rw[o];exact⟨.ref _,_,I.lnew (t':=s.toks) (r.append i) (by rw[Ad];lia),rfl,q _ I.fresh⟩
def a95{d:Type}(b:List d)(k:Nat):(Al k b).flatten.length=k*b.length:=by
 induction k with
 |zero=>simp
 |succ k e=>rw[Cw,Dd,Ad,e,Nat.succ_mul,LG]
end
end L2
namespace L2
open PySem PySem.Spec PyProof.Rows
variable{kvs:List (Ai×V)}{o:Option V}{u:AG}{y v:V}{P:An}{H H':Hp}{xs:List (Ai×AH×AG)}{b a:AH}{X:Cx}{pins:List (AH×Obj)}{σ:St}{s:AK}{A:BU}{Q:AG->AK->Prop}{pos:Pos}
section
variable {κ:Type} [DecidableEq κ]
abbrev t9(kvs:List (κ×V))(k:κ):Option V:=(kvs.find? λkv=>AB (kv.1=k)).map (·.2)
abbrev B1(kvs:List (κ×V))(k:κ)(v:V):List (κ×V):=
 if(kvs.any λkv=>AB (kv.1=k))=AD then kvs.map (λkv=>if kv.1=k then(kv.1,v)else kv)else kvs++[(k,v)]
def am3{p:κ×V}{r:List (κ×V)}{k:κ}(e:p.1=k):t9 (p::r) k=AA p.2:=by simp[t9,By,e]
def al8{p:κ×V}{r:List (κ×V)}{k:κ}(e:¬p.1=k):t9 (p::r) k=t9 r k:=by simp[t9,By,e]
theorem al6(k:κ):∀a:List (κ×V),(a.any λkv=>AB (kv.1=k))=(t9 a k).isSome
 |[]=>rfl
 |p::r=>by
  rw[Gj]
  by_cases e:p.1=k
  ·simp only[am3 e,decide_eq_true e,KB,IC]
  ·rw[al8 e,decide_eq_false e,HP];exact al6 k r
def av4(a:List (κ×V))(k:κ)(v:V):(B1 a k v).length<=a.length+1:=by
 unfold B1
 split
 ·rw[AW];lia
 ·rw[Ad,AV,Ao];lia
def b32{a:List (κ×V)}{k:κ}(v:V)(h:t9 a k=AF):B1 a k v=a++[(k,v)]:=by
 unfold B1;rw[al6,h];exact if_neg ∅
def A4.isSome_eq{u:Option AG}(r:A4 o u):o.isSome=u.isSome:=by
 cases o with
 |none=>cases u with
  |none=>rfl
  |some _=>exact(show False from r).elim
 |some _=>cases u with
  |none=>exact(show False from r).elim
  |some _=>rfl
theorem A4.getD{u:Option AG}{d:V}{d':AG}(r:A4 o u)(a:i6 d d'):i6 (o.getD d) (u.getD d'):=by
 cases o with
 |none=>cases u with
  |none=>exact a
  |some _=>exact(show False from r).elim
 |some _=>cases u with
  |none=>exact(show False from r).elim
  |some _=>exact r
def KV.val{a:List (κ×V)}{vs:List (κ×AG)}(r:KV a vs)(k:κ):A4 (t9 a k) (Gk vs k):=by
 unfold KV at r
 induction r with
 |nil=>exact CW
 |@cons p q l c h t i=>
  obtain⟨f,j⟩:=h
  by_cases e:p.1=k
  ·have d:q.1=k:=f.symm.trans e;have b:Gk (q::c) k=AA q.2:=by simp[Gk,By,d]
   rw[am3 e,b];exact j
  ·have d:¬q.1=k:=λz=>e (f.trans z);have b:Gk (q::c) k=Gk c k:=by simp[Gk,By,d]
   rw[al8 e,b];exact i
theorem KV.any{a:List (κ×V)}{vs:List (κ×AG)}(r:KV a vs)(k:κ):(a.any λkv=>AB (kv.1=k))=vs.any λkv=>AB (kv.1=k):=by
 unfold KV at r
 induction r with
 |nil=>rfl
 |cons h t d=>rw[Gj,Gj,d,h.1]
def KV.repl{a:List (κ×V)}{vs:List (κ×AG)}(r:KV a vs)(k:κ)(c:i6 y u):
  KV (a.map λkv=>if kv.1=k then(kv.1,y)else kv) (vs.map λkv=>if kv.1=k then(kv.1,u)else kv):=by
 unfold KV at r ⊢
 induction r with
 |nil=>exact .nil
 |@cons p q j i h t f=>
  rw[As,As];refine .cons ?_ f;obtain⟨b,g⟩:=h
  by_cases e:p.1=k
  ·rw[if_pos e,if_pos (b.symm.trans e)];exact⟨b,c⟩
  ·rw[if_neg e,if_neg (λz=>e (b.trans z))];exact⟨b,g⟩
def KV.put{a:List (κ×V)}{vs:List (κ×AG)}(r:KV a vs)(k:κ)(b:i6 y u):KV (B1 a k y) (stored vs k u):=by
 unfold B1 stored;rw[r.any k]
 by_cases e:(vs.any λkv=>AB (kv.1=k))=AD
 ·rw[if_pos e,if_pos e];exact r.repl k b
 ·rw[if_neg e,if_neg e];exact Paired.snoc r ⟨rfl,b⟩
theorem KV.length{a:List (κ×V)}{vs:List (κ×AG)}(r:KV a vs):a.length=vs.length:=Paired.length r
end
def Y5{w:Ax}{k:Key}(r:i6 (kV k) u):(M9 P w).is k u=AD:=by
 cases k with
 |inl i=>obtain⟨t,e⟩:=(show ∃t,u=ER i t from r);subst e;exact bo5 P w i t
 |inr x=>obtain⟨t,e⟩:=(show ∃t,u=ES x t from r);subst e;exact bo7 P w x t
@[reducible]noncomputable def KT(H:Hp):List (Ai×V)->List (Ai×AH×AG)->Prop:=Paired λp q=>p.1=q.1/\D8 H p.1 q.2.1/\i6 p.2 q.2.2
def KT.val(r:KT H kvs xs)(k:Ai):A4 (t9 kvs k) ((Hw xs k).map (·.2)):=by
 induction r with
 |nil=>exact CW
 |@cons p q j a h t g=>
  obtain⟨d,_,i⟩:=h
  by_cases e:p.1=k
  ·have c:q.1=k:=d.symm.trans e;have b:Hw (q::a) k=AA q.2:=by simp[Hw,By,c]
   rw[am3 e,b];exact i
  ·have c:¬q.1=k:=λz=>e (d.trans z);have b:Hw (q::a) k=Hw a k:=by simp[Hw,By,c]
   rw[al8 e,b];exact g
def KT.repl(r:KT H kvs xs)(k:Ai)(c:i6 y u):
  KT H (kvs.map λkv=>if kv.1=k then(kv.1,y)else kv) (xs.map (putAt k u)):=by
 induction r with
 |nil=>exact .nil
 |@cons p q j i h t f=>
  rw[As,As];refine .cons ?_ f;obtain⟨a,b,g⟩:=h;unfold putAt
  by_cases e:p.1=k
  ·rw[if_pos e,if_pos (a.symm.trans e)];exact⟨a,b,c⟩
  ·rw[if_neg e,if_neg (λz=>e (a.trans z))];exact⟨a,b,g⟩
def KT.put(r:KT H kvs xs)(k:Ai)(c:D8 H k b)(a:i6 y u):
  KT H (B1 kvs k y) (storedH xs k b u):=by
 have e:(kvs.any λkv=>AB (kv.1=k))=(Hw xs k).isSome:=by
  rw[al6,(r.val k).isSome_eq,Fc]
 unfold B1 storedH;rw[e]
 by_cases q:(Hw xs k).isSome=AD
 ·rw[if_pos q,if_pos q];exact r.repl k a
 ·rw[if_neg q,if_neg q];exact Paired.snoc r ⟨rfl,c,a⟩
theorem KT.keeps(r:KT H kvs xs)(c:∀b a,H b=AA (.tup a)->H' b=AA (.tup a)):KT H' kvs xs:=
 Paired.mapP r λ_ _ z=>⟨z.1,z.2.1.keeps c,z.2.2⟩
section
variable {w:Ax} {h:BC} 
def bi3{u:HO}(b:HOk P w H h)(e:Rd H a u):o7 P w H h a u:=e.ok b
def Q5{b:List (Key×V)}(d:HOk P w H h)(e:Rd H a (.dK b)):b.length<=sizeLine/\(a==CS)=AE/\∃c,KV b c/\h.DictOf (M9 P w) a c:=
 show o7 P w H h a (.dK b) from bi3 d e
def c21{b:List (Key×V)}(d:HOk P w H h)(e:H a=AA (.dK b)):b.length<=sizeLine/\(a==CS)=AE/\∃c,KV b c/\h.DictOf (M9 P w) a c:=Q5 d (.inl e)
def bu7(ok:HOk P w H h):∀(n:Nat)(d:Ai),d.depth<=n->∀{v:V}{u:AG},HRd H d v->i6 v u->∃f,Reads h u d f:=by
 have all:∀n,(∀d:Ai,d.depth<=n->∀{v:V}{u:AG},HRd H d v->i6 v u->∃f,Reads h u d f)->∀(a:List Ai),Bs a<=n->∀{c:List V}{s:List AG},M0 H a c->g9 c s->∃f,ReadsAll h s a f:=λn ih a=>by
  induction a with
  |nil=>
   intro _ c s q r;obtain rfl:c=[]:=q;cases r;exact⟨_,.nil⟩
  |cons d a ihd=>
   intro j c s q r;obtain⟨v,vr,rfl,q1,z⟩:=q;have hd':max d.depth (Bs a)<=n:=j;cases r with
   |cons r1 r2=>
    obtain⟨a1,x1⟩:=ih d ⋯ q1 r1;obtain⟨a2,x2⟩:=ihd ⋯ z r2;exact⟨_,.cons x1 x2⟩
 intro n
 induction n with
 |zero=>
  intro d j v u q r;cases d with
  |int i=>obtain rfl:v=.int i:=q;obtain⟨t,rfl⟩:=(show ∃t,u=ER i t from r);exact⟨_,.int _ _⟩
  |str x=>obtain rfl:v=.str x:=q;obtain⟨t,rfl⟩:=(show ∃t,u=ES x t from r);exact⟨_,.str _ _⟩
  |tuple a=>rw[NK.depth_tup]at j;lia
  |none=>exact q.elim
  |bool _=>exact q.elim
  |list _=>exact q.elim
  |dict _=>exact q.elim
 |succ n ih=>
  intro d j v u q r;cases d with
  |int i=>obtain rfl:v=.int i:=q;obtain⟨t,rfl⟩:=(show ∃t,u=ER i t from r);exact⟨_,.int _ _⟩
  |str x=>obtain rfl:v=.str x:=q;obtain⟨t,rfl⟩:=(show ∃t,u=ES x t from r);exact⟨_,.str _ _⟩
  |none=>exact q.elim
  |bool _=>exact q.elim
  |list _=>exact q.elim
  |dict _=>exact q.elim
  |tuple a=>
   rw[NK.depth_tup]at j;obtain⟨b,c,rfl,q1,z⟩:=q;cases(show u=Ap b from r);obtain⟨_,its,rv,o,h1,h2,_,m,h3⟩:=(show o7 P w H h b (.tup c) from ok b _ q1);obtain⟨f,x⟩:=all n ih a ⋯ z rv;exact⟨_,.tuple h1 h2 h3 (by simpa using x)⟩
def J6{k:Ai}(b:HOk P w H h)(e:D8 H k a):(NK.dataKind P w).is h k a:=⟨e.1,e.2.1,bu7 b 7 k e.2.1 e.2.2 rfl⟩
def N5(f:HOk P w H h)(e:Rd H a (.dT kvs)):kvs.length<=sizeLine/\(a==CS)=AE /\
  ∃c,KT H kvs c/\h.DictOfH (NK.dataKind P w) a c:=by
 obtain⟨z,y,c,r,o,A,B,v,u,s,n,k⟩:=(show o7 P w H h a (.dT kvs) from bi3 f e);refine⟨z,y,c,r,o,A,B,v,u,s,n,λx b=>?_,k⟩;have d:∀{l:List (Ai×V)}{m:List (Ai×AH×AG)},KT H l m->∀x∈m,(NK.dataKind P w).is h x.1 x.2.1:=by
  intro l m q
  induction q with
  |nil=>intro x b;exact nomatch b
  |@cons p q D C g t j=>
   intro x b
   rcases AN.mp b with e|b
   ·subst e;exact J6 f (by rw[<-g.1];exact g.2.1)
   ·exact j x b
 exact d r x b
def c65(c:HOk P w H h)(e:H a=AA (.dT kvs)):kvs.length<=sizeLine/\(a==CS)=AE /\
  ∃b,KT H kvs b/\h.DictOfH (NK.dataKind P w) a b:=N5 c (.inl e)
end
abbrev A5(H:Hp)(a:AH)(y:V)(r:Option V):Prop:=
 (∃kvs k,Rd H a (.dK kvs)/\y=kV k/\r=t9 kvs k)\/∃kvs k b,Rd H a (.dT kvs)/\y=.ref b/\D8 H k b/\r=t9 kvs k
abbrev L9(H:Hp)(a:AH)(y v:V)(H':Hp):Prop:=
 (∃kvs k,H a=AA (.dK kvs)/\y=kV k/\kvs.length<sizeLine/\H'=upd H a (.dK (B1 kvs k v)))\/
 ∃kvs k b,H a=AA (.dT kvs)/\y=.ref b/\D8 H k b/\kvs.length<sizeLine/\H'=upd H a (.dT (B1 kvs k v))
theorem A5.k{b:List (Key×V)}{k:Key}(e:H a=AA (.dK b)):A5 H a (kV k) (t9 b k):=.inl ⟨b,k,.inl e,rfl,rfl⟩
def A5.t{k:Ai}(e:H a=AA (.dT kvs))(c:D8 H k b):A5 H a (.ref b) (t9 kvs k):=.inr ⟨kvs,k,b,.inl e,rfl,c,rfl⟩
theorem L9.k{b:List (Key×V)}{k:Key}(e:H a=AA (.dK b))(c:b.length<sizeLine):L9 H a (kV k) v (upd H a (.dK (B1 b k v))):=.inl ⟨b,k,e,rfl,c,rfl⟩
def L9.t{k:Ai}(e:H a=AA (.dT kvs))(d:D8 H k b)(c:kvs.length<sizeLine):
  L9 H a (.ref b) v (upd H a (.dT (B1 kvs k v))):=.inr ⟨kvs,k,b,e,rfl,d,c,rfl⟩
section
variable {r:AG} {E:AG->AK->Prop}
def Inv.big(I:Inv X pins σ H s):CS<s.heap.objs.size:=by
 have h:AO<s.heap.objs.size:=(I.mod.glob.keeps I.bk).lt;exact Nat.lt_trans ∅ h
def bu6(C:A.units+20<Bw)(I:Inv X pins σ H s)(g:A5 H a y (AA v))(t:i6 y u)(h:∀f r,Inv X pins σ H r->i6 v f->Q f r):
  AR (model X.prog X.w) A (Dr (.ref a) u) Q E s:=by
 rcases g with⟨i,k,e,n,l⟩|⟨i,k,b,e,n,G,l⟩
 ·subst n;obtain⟨z,F,B,d,q⟩:=Q5 I.hok e;obtain⟨f,j,c⟩:=A4.some_of (v:=v) (o:=Gk B k) (by rw[l];exact d.val k);exact wpAny_getItem_of (Y5 t) q.mapOf j (h f _ (I.tok _) c)
 ·subst n;cases(show u=Ap b from t);obtain⟨z,F,x,d,q⟩:=N5 I.hok e;obtain⟨f,j,c⟩:=A4.some_of (v:=v) (o:=(Hw x k).map (·.2)) (by rw[l];exact d.val k);obtain⟨p,D,m⟩:=Option.map_eq_some_iff.mp j;refine wpAny_getItem_heap (NK.dataKind_room_in1 C) (J6 I.hok G) q D ?_;rw[m];exact h f _ (I.tok _) c
def bl0(p:A.units+20<Bw)(I:Inv X pins σ H s)(g:A5 H a y o)(n:i6 y u)(h:∀m,Inv X pins σ H m->Q (.bool o.isSome) m):
  AR (model X.prog X.w) A (Bq .In u (.ref a)) Q E s:=by
 rcases g with⟨d,k,e,i,l⟩|⟨d,k,b,e,i,r,l⟩
 ·subst i;obtain⟨z,f,v,c,j⟩:=Q5 I.hok e;refine wpAny_in_of (Y5 n) f j.mapOf ?_;rw[<-(c.val k).isSome_eq,<-l];exact h _ (I.tok _)
 ·subst i;cases(show u=Ap b from n);obtain⟨z,f,t,c,j⟩:=N5 I.hok e;refine wpAny_in_heap (NK.dataKind_room_in1 p) (J6 I.hok r) f j ?_;have q:=(c.val k).isSome_eq;rw[Fc]at q;rw[<-q,<-l];exact h _ (I.tok _)
def a90(p:A.units+20<Bw)(I:Inv X pins σ H s)(g:A5 H a y o)(n:i6 y u)(h:∀m,Inv X pins σ H m->Q (.bool (!o.isSome)) m):
  AR (model X.prog X.w) A (Bq .NotIn u (.ref a)) Q E s:=by
 rcases g with⟨d,k,e,i,l⟩|⟨d,k,b,e,i,r,l⟩
 ·subst i;obtain⟨z,f,v,c,j⟩:=Q5 I.hok e;refine LH (Y5 n) f j.mapOf ?_;rw[<-(c.val k).isSome_eq,<-l];exact h _ (I.tok _)
 ·subst i;cases(show u=Ap b from n);obtain⟨z,f,t,c,j⟩:=N5 I.hok e;refine wpAny_notIn_heap (NK.dataKind_room_in1 p) (J6 I.hok r) f j ?_;have q:=(c.val k).isSome_eq;rw[Fc]at q;rw[<-q,<-l];exact h _ (I.tok _)
def bb9{h':BC}{t':Nat}{ob:HO}(I:Inv X pins σ H s)(d:Mut (H a))(f:Ba a s.heap h')(g:∃q,h'.get? a=AA q)(c:o7 X.prog X.w (upd H a ob) h' a ob):
  Inv X pins σ (upd H a ob) {s with heap:=h',toks:=t'}:=
 I.write (x:=a) (e:=a) d (.inl rfl) (λb q hb z=>(f.2 b hb).trans z) g c
def cr9{w:Ax}{h':BC}{b:List (Key×V)}{vs:List (Key×AG)}(z:b.length<=sizeLine)(d:(a==CS)=AE)(c:KV b vs)(e:h'.DictOf (M9 P w) a vs):
  o7 P w H' h' a (.dK b):=⟨z,d,vs,c,e⟩
def bs9{Q:Unit->AK->Prop}(G:A.units+20<Bw)(I:Inv X pins σ H s)(g:L9 H a y v H')(x:i6 y u)(B:i6 v r)(h:∀t,Inv X pins σ H' t->Q () t):
  AR (model X.prog X.w) A (Ju (.ref a) u r) Q E s:=by
 rcases g with⟨d,k,e,n,l,o⟩|⟨d,k,b,e,n,C,l,o⟩
 ·subst n o;obtain⟨z,m,F,c,p⟩:=c21 I.hok e;have i:F.length<=sizeLine:=by rw[<-c.length];exact z
  have j:(B1 d k v).length<=sizeLine:=by have:=av4 d k v;lia
  refine wpAny_setItem_pairs (hsz:=i) (Y5 x) p λh' dd' hs=>h _ ?_;have J:∃q,h'.get? a=AA q:=let⟨q,_,_,f,_⟩:=dd';⟨q,f⟩;exact bb9 I (by rw[e];exact CW) hs J (cr9 j m (c.put k B) dd')
 ·subst n o;cases(show u=Ap b from x);obtain⟨z,m,D,c,p⟩:=c65 I.hok e;have i:D.length<=sizeLine:=by rw[<-Paired.length c];exact z
  have j:(B1 d k v).length<=sizeLine:=by have:=av4 d k v;lia
  refine wpAny_setItem_heap (hsz:=i) (NK.dataKind_room_in1 G) (J6 I.hok C) p λh' dd' hs=>h _ ?_;obtain⟨q,O,P,f,N,M,L,_,K⟩:=dd';refine bb9 I (by rw[e];exact CW) hs ⟨q,f⟩ ⟨j,m,_,(c.put k C B).keeps λc ys ec=>?_,q,O,P,f,N,M,L,K⟩;rw[i9 (c33 ec e (λz=>nomatch z))];exact ec
end
abbrev dc8(i:AT):Prop:=∀ov iv,subscripted i AE ov iv=operate [ov,iv] (Dr ov iv)
def cc1{prog:An}{w:Ax}{E:AG->AK->Prop}{env:Env}{b a:AT}{T id:String}
  (g:GT (.type T) "__getitem__"=pure (AA (.builtin id))) (f:dc8 a)
  (h:AR (model prog w) A (eval b env) (λo s₁=>AR (model prog w) A (eval a env) (λi s₂=>s₂.TypeIs o T/\AR (model prog w) A (Dr o i) Q E s₂) E s₁) E s) :
  AR (model prog w) A (eval (.Subscript b a pos) env) Q E s:=by
 refine Jm (Bg h (λo s₁ h₁=>Bg h₁ (λi s₂ c=>?_) λ_ _ x=>x) λ_ _ x=>x);obtain⟨e,c⟩:=c;unfold GL;refine AC ?_;rw[Iw e.not_modules];refine AC (Bm e g ?_);have d:AR (model prog w) A (subscripted a AE o i) (λr s₃=>AR (model prog w) A (LI b o r>>=λ_=>pure r) Q E s₃) E s₂:=by
  rw[f o i];exact Kr (Bg c (λr s₃ h₃=>AC (JK (AL h₃))) λ_ _ x=>x)
 first
  |exact AL (AC d)
  |exact AC (AL (AC d))
  |exact AC d
def bp1(I:Inv X pins σ H s)(g:A5 H a y o):s.TypeIs (.ref a) "dict":=by
 rcases g with⟨kvs,k,e,_,_⟩|⟨kvs,k,b,e,_,_,_⟩
 ·obtain⟨_,_,vs,_,dd⟩:=Q5 I.hok e;exact dd.typeIs
 ·obtain⟨_,_,xs,_,dd⟩:=N5 I.hok e;exact dd.typeIs
abbrev cx3(td ty tv:TE):TS:=λD σ H=>tv σ H λv H1=>td σ H1 λx H2=>ty σ H2 λy H3=>∃a H4,x=.ref a/\L9 H3 a y v H4/\D.nx σ H4
section
variable {o i e value:AT} {pos' tpos:Pos} {td ty tv:TE}
def a89(j:X.A.units+20<Bw)(l:PE X o td)(hi:PE X i ty)(f:PE X value tv)(k:CZ value (AA (.Subscript o i pos')) pos.line X.env=pure AE):
  PS X (.Assign [.Subscript o i pos'] value pos) (cx3 td ty tv):=by
 intro b s c H D I h;refine wpAny_Assign_Subscript (thn (f b s c H _ I h) λr s1⟨v,H1,I1,rv,q1⟩=>thn (l b s1 c H1 _ I1 q1) λu s2⟨x,H2,I2,rx,q2⟩=>thn (hi b s2 c H2 _ I2 q2) λiv s3 z28=>?_) k;obtain⟨y,q,n,d,a,p,m,g,e⟩:=z28;subst m;obtain rfl:u=Ap a:=rx;exact bs9 j n g d rv λs4 I4=>⟨c,p,I4,e⟩
end
def b34{w:Ax}(h:BC)(a:CS<h.objs.size):o7 P w H (h.push {cls:=.type "dict",data:=.dict #[]}) h.objs.size (.dK []):=
 ⟨BK _,beq_eq_false_iff_ne.mpr (Aw (BX a)),[],.nil,LJ h⟩
def bz3{w:Ax}(h:BC)(a:CS<h.objs.size):o7 P w H (h.push {cls:=.type "dict",data:=.dict #[]}) h.objs.size (.dT []):=
 ⟨BK _,beq_eq_false_iff_ne.mpr (Aw (BX a)),[],.nil,_,#[],0,Ae _ rfl,⟨rfl,rfl,rfl⟩,rfl,rfl,Ke⟩
abbrev cu5:TE:=λ_ H Q=>∀p,H p=AF->Q (.ref p) (upd H p (.dK []))
abbrev cs1:TE:=λ_ H Q=>∀p,H p=AF->Q (.ref p) (upd H p (.dT []))
section
def bz8:PE X (.Dict [] [] pos) cu5:=λpins s σ H Q I h=>
 Kf ⟨.ref s.heap.objs.size,_,I.laid (a:=s.heap.objs.size) (o:=.dK []) (t':=s.toks) (λ_ _ q=>AM _ q) (AS _) (b34 s.heap I.big),rfl,h _ (I.hok.fresh (AS _))⟩
def b04:PE X (.Dict [] [] pos) cs1:=λpins s σ H Q I h=>
 Kf ⟨.ref s.heap.objs.size,_,I.laid (a:=s.heap.objs.size) (o:=.dT []) (t':=s.toks) (λ_ _ q=>AM _ q) (AS _) (bz3 s.heap I.big),rfl,h _ (I.hok.fresh (AS _))⟩
end
structure M1(X:Cx)(o:AT)(m:Str)(apos:Pos)(e:AT)(cpos:Pos):Prop where
 base:Cp o m X.env (eval o X.env)=eval o X.env
 few:((Bv cpos (Am [e] X.env)).all (λx=>!x.1)&&(FA cpos (DV [] X.env)).all (λx=>x.1.isSome)
  &&AB (([e]:List AT).length+([]:List Hg).length+(if([]:List Hg).isEmpty then 0 else 1)<30))=AD
 line:(apos.endLine==cpos.line)=AD
 trees:Bv cpos (Am [e] X.env)=[(AE,eval e X.env)]
abbrev IsD(H:Hp)(a:AH):Prop:=(∃kvs,Rd H a (.dK kvs))\/∃kvs,Rd H a (.dT kvs)
def cq1(I:Inv X pins σ H s)(d:IsD H a):
  s.TypeIs (.ref a) "dict"/\(∀b,Ap a=.ref b->∃c,s.heap.get? b=AA c/\c.dict=AF)/\(a==CS)=AE:=by
 rcases d with⟨g,e⟩|⟨g,e⟩
 ·obtain⟨_,h,l,_,f⟩:=Q5 I.hok e;refine⟨f.typeIs,λb q=>?_,h⟩;cases q;obtain⟨c,_,_,j,i,_⟩:=f;exact⟨c,j,i.2.1⟩
 ·obtain⟨_,h,k,_,f⟩:=N5 I.hok e;refine⟨f.typeIs,λb q=>?_,h⟩;cases q;obtain⟨c,_,_,j,i,_⟩:=f;exact⟨c,j,i.2.1⟩
section
variable {d:V} {r:AG} {E:AG->AK->Prop}
def cl8(r:A.units+20<Bw)(I:Inv X pins σ H s)(g:A5 H a y o)(p:i6 y u)(h:∀m n,Inv X pins σ H n->i6 (o.getD .non) m->Q m n):
  AR (model X.prog X.w) A (call (.builtin "dict.get") [.ref a,u]) Q E s:=by
 rcases g with⟨f,k,e,j,l⟩|⟨f,k,b,e,j,t,l⟩
 ·subst j;obtain⟨z,i,v,c,d⟩:=Q5 I.hok e;refine call_meetsIn PySem.F.slot_dict_get d.typeIs PySem.F.entry_dict_get (PySem.F.args_dict_get_2 _ _) (meets_dict_get (M9 X.prog X.w) a (Y5 p) i) ⟨_,d.mapOf,h _ _ (I.tok _) ?_⟩;rw[l];exact(c.val k).getD rfl
 ·subst j;cases(show u=Ap b from p);obtain⟨z,i,q,c,d⟩:=N5 I.hok e;refine call_meetsIn PySem.F.slot_dict_get d.typeIs PySem.F.entry_dict_get (PySem.F.args_dict_get_2 _ _) (meetsH_dict_get (NK.dataKind X.prog X.w) a b i) ⟨NK.dataKind_room_in1 r,k,q,J6 I.hok t,d,h _ _ (I.tok _) ?_⟩;rw[l];exact(c.val k).getD rfl
end
abbrev cu3(td ty:TE):TE:=λσ H Q=>td σ H λx H1=>∃a,x=.ref a/\IsD H1 a/\ty σ H1 λy H2=>∃o,A5 H2 a y o/\Q (o.getD .non) H2
section
variable {o e f:AT} {apos cpos:Pos} {td ty tx:TE}
def bz1(n:X.A.units+20<Bw)(p:PE X o td)(q:PE X e ty)(m:M1 X o "get" apos e cpos):PE X (.Call (.Attribute o "get" apos) [e] [] cpos) (cu3 td ty):=by
 intro b s c H Q I h;refine KC m.base m.few m.line PySem.F.plainAttrs_dict PySem.F.slot_dict_get PySem.F.type_dict_get (thn (p b s c H _ I h) λu s1 z29=>?_);obtain⟨x,t,f,k,a,r,d,l⟩:=z29;subst r;obtain rfl:u=Ap a:=k;obtain⟨j,i,_⟩:=cq1 f d;refine⟨j,i,?_⟩;rw[m.trees];refine DJ rfl (FB (DC (thn (q b s1 c t _ f l) λiv s2⟨y,H2,I2,ry,ov,g,q2⟩=>EF ?_)));exact cl8 n I2 g ry λw' s3 I3 rw'=>⟨_,H2,I3,rw',q2⟩
end
end L2
namespace Att
open PySem PySem.W PySem.Calls PyProof.Rows
def bm6{P:Params}{h:BC}:∀(c:List Int)(e:List AG),WellAll P h e (c.map Ks)->Il e c:=by
 intro c
 induction c with
 |nil=>
  intro e w;rw[Eg]at w;cases w;exact .nil
 |cons n c g=>
  intro e w;rw[As]at w;cases w with
  |cons a b=>
   cases a;exact .cons _ _ (g _ b)
def bt8{l:OpenLaw}{n:Nat}(y:l.most=AA n){P:Params}{h:BC}{b:List WData}{e:List AG}
  (f:l.row.toRowW.claim.pre b=AD) (m:WellAll P h e b) :
  ∃a p c,e=[Ap a]/\b=[WData.list (c.map Ks)]/\h.get? a=AA {cls:=.type "list",data:=.seq p.toArray}/\Il p c/\c.length<=n:=by
 have o:WShape.hasAll [] b [.list .int]=AD:=(pre_splitW f).1;have s:l.pre.holds [] {args:=b}=AD:=(pre_splitW f).2;obtain⟨d,r,rfl,B,A⟩:=hasAllW_cons o;obtain rfl:=hasAllW_nil A;obtain⟨C,rfl,z⟩:=hasW_list B;obtain⟨c,rfl⟩:=items_int z;have g:c.length<=n:=by
  unfold OpenLaw.pre at s;have k:(WTm.not (.lt (.lit (.int (n:Int))) (.len (.arg 0)))).holds [] {args:=[.list (c.map .int)]}=AD:=by
   have k:=(holds_andW s).1;rw[y]at k;exact k
  have j:=condW_of k (w_not (w_lt w_lit (w_len_list (w_arg rfl))));rw[AW]at j;refine Nat.le_of_not_lt λq=>?_;have w:(n:Int)<((c.length:Nat):Int):=by lia
  first
   |(rw[decide_eq_true w]at j;exact absurd j ∅)
   |(simp at j;lia)
 cases m with
 |cons v u=>
  cases u;cases v with
  |list x i=>exact⟨_,_,c,rfl,rfl,x,bm6 c _ i,g⟩
def bv5(l:OpenLaw)(a:List WData):l.row.toRowW.claim.post a (.bool AD) a=AD:=
 postW_of (r:=l.row.toRowW) (X:=(AD==AD))
  (show KD [] (.bool AD) .bool=AD by first|rfl|decide|simp[KD,WShape.arms,WShape.armsAll])
  (show(WTm.eq .res (.lit (.bool AD))).value [] {args:=a,res:=AA (.bool AD),after:=a}=AA (.bool (AD==AD)) from w_eq_bool (w_res rfl) w_lit) rfl
def attach_call{l:OpenLaw}{n:Nat}{q:An}{e:List Str}{J:(Str->Option AG)->BC->Prop}{I:Ax->BC->Prop}{d:DefRec}
  (N:l.most=AA n) (B:d.params.defaults=[])
  (s:∀(w:Ax)(c b:AK)(u y:Str->Option AG)(p:AH)(o:Obj)(x v h:AG)(a:AH)(i:List AG)(t:List Int),
   Ground q e [] J w c u y b.heap->I w b.heap ->
   b.heap.get? p=AA o->o.data=.func (docDef d.name d.params d.body d.scope x v h)->b.heap.CodeRec v d.name->u d.name=AA (.ref p) ->
   b.heap.get? a=AA {cls:=.type "list",data:=.seq i.toArray}->Il i t->t.length<=n->b.gens=#[] ->
   Dq (model l.prog w) Hi (.call (.ref p) ⟨[.ref a],[]⟩) (λr s'=>r=.ok (.ret (.bool AD))/\OldK b.heap s'.heap/\s'.os=b.os/\Gc s'.gens) b) :
  WalkO q e J I l.row.toRowW d [] (λf i=>PySem.call f i):=by
 intro w c b u y G Y p o x v h U K M Q C F A P H D V j E L z O;obtain rfl:U=.none:=Dflts.none F B;obtain rfl:K=.none:=Dflts.noKw F;obtain⟨a,i,t,rfl,rfl,k,g,m⟩:=bt8 N j z;refine enter_call (Gh (s w c b u y p o x v h a i t G Y M (fd_plain Q) C A k g m P) λr s' hq=>?_);obtain⟨rfl,T,S,R⟩:=hq;exact⟨.inl ⟨.bool AD,.bool AD,[],rfl,λ_=>rfl,.bool AD,bv5 l _,λ_=>⟨Kg,λ_ hm=>(nomatch hm)⟩⟩,T,S,R⟩
section
variable {prog:An} {w:Ax} {A:BU} {E:AG->AK->Prop} {s:AK} {K:Frag}
abbrev de6(h:BC)(L d:AH):List (AH×Obj):=(DY h.objs.size).filterMap λa=>if a=L\/a=d then AF else(h.get? a).map λo=>(a,o)
end
end Att
namespace L2
open PySem PySem.Spec PyProof.Rows
theorem ax7:∀{a:List AG}{b:List Int},Il a b->g9 (b.map V.int) a
 |_,_,.nil=>.nil
 |_,_,.cons n t h=>.cons ⟨t,rfl⟩ (ax7 h)
abbrev v5(s:BN):DE:=match s with
 |.FunctionDef _ a _ _ _ _ _ _ _ _=>a
 |_=>{posonlyargs:=[],args:=[],vararg:=AF,kwonlyargs:=[],kw_defaults:=[],kwarg:=AF,defaults:=[]}
abbrev u1(s:BN):List BN:=match s with
 |.FunctionDef _ _ b _ _ _ _ _ _ _=>b
 |_=>[]
abbrev o6(s:BN):BH:=match s with
 |.FunctionDef _ _ _ _ _ _ sc _ _ _=>sc
 |_=>{kind:=.function,names:=[],isGenerator:=AE,isCoroutine:=AE}
@[reducible]noncomputable def CX0:CXT:=λ_ _ _ _ _ _=>False
@[reducible]noncomputable def E0:XK:=λ_ _ _=>False
def G2{X:Cx}:U1 CX0 X E0:=λ_ _ _ _ _ _ _ h=>h.elim
def az2{n:Nat}(h:n<=1000):n<sizeLine:=Im h ∅
abbrev D7(H H':Hp):Prop:=∀b o,H b=AA o->H' b=AA o
def D7.refl(H:Hp):D7 H H:=λ_ _ h=>h
def D7.trans{H e d:Hp}(a:D7 H e)(b:D7 e d):D7 H d:=λc o h=>b c o (a c o h)
variable{s:AK}{scope:BH}{env:Env}{cells:List (Str×AH)}{x:Str}{X:Cx}{Nc:List Str}{fr:List Nat}{C:AH}{fp:List AH}{pins:List (AH×Obj)}{σ:St}{H:Hp}
def bn9{prog:An}{w:Ax}{A:BU}{R:Hs->AK->Prop}{e a b:AT}{d:List AT}{g:Pos}{it acc:AG}(I:Nat->AK->Prop)
  (f:∀n s,I n s->AR (model prog w) A (ET it) (λr s₁=>match r with
   |none=>R (.ok .next) s₁
   |some v=>AR (model prog w) A (FV a it v) (λ_ s₁'=>AR (model prog w) A (assign a env v) (λ_ s₂=>
     AR (model prog w) A (forIn d AD λc r=>if r=AD then do let ok <-Ho c env (eval c env);pure (CC ok)else pure (CC r)) (λok s₃=>
      if ok=AD then AR (model prog w) A (eval e env) (λx s₄=>
       AR (model prog w) A (call (.builtin "list.append") [acc,x]) (λ_ s₅=>∃m,m<n/\I m s₅) (λ_ _=>False) s₄) (λ_ _=>False) s₃
      else ∃m,m<n/\I m s₃) (λ_ _=>False) s₂) (λ_ _=>False) s₁') (λ_ _=>False) s₁) (λ_ _=>False) s)
  (n:Nat) (h:I n s) :
  Dq (model prog w) A (.compLoop (.ListComp e [⟨a,b,d,0⟩] scope g) 0 it acc env) R s:=by
 refine codeAny_loop rfl I (λn s hI=>?_) n h;show AR _ A ((compTurn (.ListComp e [⟨a,b,d,0⟩] scope g) 0 it acc env).onRaise (λx=>do noteFrame x env;theTreesLotGoes x)) _ _ s;refine wpAny_noted ?_;rw[compTurn_list];refine AC (IH (AC (Bg (f n s hI) (λr s₁ h₁=>?_) λ_ _ h'=>h'.elim)));cases r with
 |none=>exact AL h₁
 |some v=>
  refine AC (Bg h₁ (λ_ s₁' h₁'=>?_) λ_ _ h'=>h'.elim);refine AC (Bg h₁' (λ_ s₂ h₂=>AC (Bg h₂ (λok s₃ h₃=>?_) λ_ _ h'=>h'.elim)) λ_ _ h'=>h'.elim);cases ok with
  |false=>exact AL ⟨rfl,h₃⟩
  |true=>
   exact AC (AC (Bg h₃ (λx s₄ h₄=>AC (Bg h₄ (λ_ s₅ h₅=>AL (AL ⟨rfl,h₅⟩)) λ_ _ h'=>h'.elim)) λ_ _ h'=>h'.elim))
abbrev u4(cells:List (Str×AH)):List (Str×Fm)->List (Str×AH)->List (Str×AH)
 |[],acc=>acc
 |(n,k)::r,acc=>u4 cells r (if k==.free then(match cells.lookup n with|some a=>(n,a)::acc|none=>acc)else acc)
theorem ak4:∀(b:List (Str×Fm))(c:List (Str×AH)),(∀x∈b,x.2=.free->(env.cells.lookup x.1).isSome=AD) ->
  (forIn b c λx r=>match x with
   |(d,e)=>if(e==BA)=AD then do let a <-LK env d;pure (CC ((d,a)::r))else pure (CC r):Sem (List (Str×AH)))=pure (u4 env.cells b c)
 |[],c,_=>rfl
 |(n,k)::r,c,h=>by
  have f:∀x∈r,x.2=.free->(env.cells.lookup x.1).isSome=AD:=λx hx=>h x (Ar _ hx);rw[GU];cases hk:(k==BA)with
  |false=>
   simp only[hk,BE,if_false,pure_bind];rw[ak4 r c f];simp only[u4,hk,BE,if_false]
  |true=>
   have i:k=.free:=by simpa using hk
   obtain⟨a,g⟩:=BO.mp (h (n,k) CG i);have j:LK env n=pure a:=by unfold LK;rw[g]
   simp only[hk,if_true,j,pure_bind];rw[ak4 r _ f];simp only[u4,hk,if_true,g]
def ak3{env:Env}(h:∀x∈scope.names,x.2=.free->(env.cells.lookup x.1).isSome=AD):Hx scope env=pure (u4 env.cells scope.names []):=by
 unfold Hx;have e:=ak4 (env:=env) scope.names [] h;show((forIn scope.names ([]:List (Str×AH)) (λx r=>match x with
   |(b,c)=>if(c==BA)=AD then do let a <-LK env b;pure (CC ((b,a)::r))else pure (CC r)):Sem (List (Str×AH)))>>=λcs=>pure cs)=_
 rw[e];rfl
theorem a80:∀{b:List (Str×Fm)}{f:List (Str×AH)}{x:Str}{c:AH},(x,c)∈u4 cells b f->(x,c)∈f\/(cells.lookup x=AA c/\(x,BA)∈b)
 |[],f,x,c,h=>.inl h
 |(n,k)::r,f,x,c,h=>by
  unfold u4 at h
  rcases a80 h with d|⟨d,i⟩
  ·cases hk:(k==BA)with
   |false=>simp only[hk,BE,if_false]at d;exact .inl d
   |true=>
    have g:k=.free:=by simpa using hk
    subst g;simp only[hk,if_true]at d;cases hc:cells.lookup n with
    |none=>rw[hc]at d;exact .inl d
    |some a=>
     rw[hc]at d
     rcases AN.mp d with e|e
     ·cases e;exact .inr ⟨hc,CG⟩
     ·exact .inl e
  ·exact .inr ⟨d,Ar _ i⟩
theorem a66:∀{names:List (Str×Fm)}{acc:List (Str×AH)}{x:Str}{c:AH},cells.lookup x=AA c->((x,BA)∈names\/(x,c)∈acc)->(x,c)∈u4 cells names acc
 |[],acc,x,c,_,h=>by
  rcases h with h|h
  ·cases h
  ·exact h
 |(n,k)::r,acc,x,c,hc,h=>by
  unfold u4;refine a66 hc ?_
  rcases h with h|h
  ·rcases AN.mp h with e|e
   ·cases e;refine .inr ?_;rw[if_pos ∅,hc];exact CG
   ·exact .inl e
  ·refine .inr ?_
   split
   ·split
    ·exact Ar _ h
    ·exact h
   ·exact h
def ak6{b:Type}{l:List (Str×b)}{a:b}(h:l.lookup x=AA a):(x,a)∈l:=PySem.mem_of_lookup h
theorem aw2{c:Type}:∀{l:List (Str×c)}{x:Str}{a:c},(x,a)∈l->∃b,l.lookup x=AA b
 |[],_,_,h=>by cases h
 |(y,b)::r,x,a,h=>by
  rw[Dw];cases e:x==y with
  |true=>exact⟨b,rfl⟩
  |false=>
   rcases AN.mp h with z|z
   ·cases z;simp at e
   ·exact aw2 z
def M3{a:List (Str×Fm)}{c:AH}(h:(u4 cells a []).lookup x=AA c):cells.lookup x=AA c/\(x,BA)∈a:=by
 rcases a80 (ak6 h)with z|z
 ·cases z
 ·exact z
def ab5{a:List (Str×Fm)}{c:AH}(h:cells.lookup x=AA c)(e:(x,BA)∈a):(u4 cells a []).lookup x=AA c:=by
 obtain⟨b,d⟩:=aw2 (a66 (acc:=[]) h (.inl e));have:=(M3 d).1;rw[h]at this;cases this;exact d
structure CompScope(X:Cx)(scope:BH)(Nc:List Str)(fr:List Nat)(k:Nat):Prop where
 kind:scope.kind=.function
 nocell:∀y∈scope.names,y.2≠.cell
 names:∀y∈scope.names,y.2=.local->scope.names.lookup y.1=AA .local
 frees:∀y∈scope.names,y.2=.free->X.env.scope.names.lookup y.1=AA .cell\/X.env.scope.names.lookup y.1=AA .free
 uniq:∀y∈scope.names,y.2=.free->(y.1,NameKind.local)∉scope.names
 nd:Nc.Nodup
 len:Nc.length=fr.length+k
 fre:∀i x,Nc[i]?=AA x->i<fr.length->∃j,fr[i]?=AA j/\X.N[j]?=AA x/\(x,BA)∈scope.names
abbrev F9(fr:List Nat)(k:Nat)(σ:St):St:=(fr.map λj=>(σ[j]?).join)++Al k AF
def bn2(h:((relabel scope env).names.lookup x=AA .cell\/(relabel scope env).names.lookup x=AA .free))(j:∀y∈scope.names,y.2≠.cell):(x,BA)∈scope.names:=by
 have f:∀k,(relabel scope env).names.lookup x=AA k->(k=.cell\/k=.free)->(x,BA)∈scope.names:=by
  intro k i c;have e:=ak6 i;unfold relabel at e;obtain⟨⟨n,g⟩,d,b⟩:=DF.mp e;dsimp only at b
  split at b
  ·rename_i a;cases b;have:g=.free:=by
    simp only[BJ,beq_iff_eq]at a;exact a.1.1
   rw[<-this];exact d
  ·cases b
   rcases c with z|z
   ·exact absurd z (j _ d)
   ·rw[<-z];exact d
 rcases h with h|h
 ·exact f _ h (.inl rfl)
 ·exact f _ h (.inr rfl)
def bo2:∀{k},(relabel scope env).names.lookup x=AA k->∃b,(x,b)∈scope.names/\(k=b\/(b=.free/\k=.cell)):=by
 intro k f;have d:=ak6 f;unfold relabel at d;obtain⟨⟨n,b⟩,e,c⟩:=DF.mp d;dsimp only at c
 split at c
 ·rename_i a;cases c;refine⟨_,e,.inr ⟨?_,rfl⟩⟩;simp only[BJ,beq_iff_eq]at a;exact a.1.1
 ·cases c;exact⟨_,e,.inl rfl⟩
abbrev Cx.comp(X:Cx)(scope:BH)(Nc:List Str)(C:AH)(fp:List AH)(pins:List (AH×Obj))(s:AK)(H:Hp):Cx:=
 {X with N:=Nc,s₀:=s,H₀:=H,env:=LL scope (u4 X.env.cells scope.names []) C X.env,outer:=X.stack,stack:=X.stack,ex:=fp,fn:=λ_=>AE,pn:=X.pn++pins,xe:=λ_ _=>False,ow:=λ_=>AE}
def Cx.comp_ok{k:Nat}(S:CompScope X scope Nc fr k)(I:Inv X pins σ H s)
  (j:s.heap.objs.size<=C) (g:∀b∈fp,w6 X pins H b) (f:∀b∈fp,b<s.heap.objs.size):(X.comp scope Nc C fp pins s H).Ok where
 mod:=I.ok.mod
 kind:=S.kind
 glob:=I.ok.glob
 blt:=I.ok.blt
 above:=j
 inj:=λx y c a d=>I.ok.inj x y c (M3 a).1 (M3 d).1
 has:=λx h=>by
  have i:=bn2 h S.nocell;have l:=S.frees _ i rfl;obtain⟨c,m⟩:=I.ok.has x l;exact⟨c,ab5 m i⟩
 cab:=λx c h _=>h.elim (λz=>nomatch z) λz=>nomatch z
 hd:=I.ok.hd
 frames:=I.ok.frames
 stk:=.inl rfl
 exf:=λb hb=>⟨λz=>by have a:=f b hb;have d:b=C:=z;rw[d]at a;exact absurd a (LM.mpr j),λx c h=>(g b hb).2.2.2.2.1 x c (M3 h).1⟩
 bs:=I.bs
 bsz:=BB I.ok.bsz I.sz
 noex:=λb o e hb=>by
  obtain⟨p,a,d,n,r,q⟩:=g b hb
  rcases n with z|z
  ·exact I.ok.noex b o e z
  ·have:=(I.ok.bs b o e).1;exact absurd (Aj (Az this) z) (CY _)
 exfs:=λb hb z=>by
  obtain⟨p,a,d,_⟩:=g b hb
  rcases AN.mp (I.stkSub b z)with e|e
  ·exact a e
  ·exact d e
 funs:=I.stack
 frf:=I.stkFree
def br5{k:Nat}{n:BC}{tk:Nat}(S:CompScope X scope Nc fr k)(I:Inv X pins σ H s)
  (E:s.heap.objs.size<=C) (Y:∀b∈fp,w6 X pins H b) (A:∀b∈fp,b<s.heap.objs.size) (g:∀b o,s.heap.get? b=AA o->n.get? b=AA o) (U:n.Ns C (λ_=>AF)) :
  Inv (X.comp scope Nc C fp pins s H) [] (F9 fr k σ) H {s with heap:=n,toks:=tk}:=by
 have B:H C=AF:=I.hok.fresh E;refine⟨Cx.comp_ok S I E Y A,rfl,I.bare,Un.kept g,⟨_,U,λi x v e1 e2 e3=>?_⟩,λx c e=>?_,B,λx c e=>(I.freeC x c (M3 e).1).imp id λz=>⟨rfl,z.2⟩,λp hp=>?_,I.hok.kept g,?_⟩
 ·have h:i<fr.length:=by
   unfold F9 at e2
   by_cases h:i<fr.length
   ·exact h
   ·rw[Af (by simpa using h),DP]at e2
    split at e2<;>cases e2
  obtain⟨j,W,Z,t⟩:=S.fre i x e1 h;have G:σ[j]?=AA (AA v):=by
   unfold F9 at e2;rw[Ac (by simpa using h),Ag,W]at e2;simp only[GM,CA]at e2;cases q:σ[j]? with
   |none=>rw[q]at e2;cases e2
   |some o=>rw[q]at e2;exact congrArg AA e2
  obtain⟨m,T,V⟩:=I.loc;have f:Vis X.env.scope x:=by
   rcases S.frees _ t rfl with z|z
   ·exact .inr (.inl z)
   ·exact .inr (.inr z)
  obtain⟨u,r,l⟩:=V j x v Z G f;refine⟨u,r,?_⟩
  rcases l with⟨K,_⟩|⟨K,c,R,Q⟩
  ·exfalso;have d:X.env.scope.names.lookup x=AA .local:=K
   rcases S.frees _ t rfl with z|z
   ·rw[d]at z;cases z
   ·rw[d]at z;cases z
  ·refine .inr ⟨?_,c,ab5 R t,?_⟩
   ·have F:Vis (relabel scope X.env) x:=e3
    rcases F with z|z|z
    ·exfalso;obtain⟨k',n,a⟩:=bo2 z
     rcases a with a|a
     ·subst a;exact S.uniq _ t rfl n
     ·cases a.2
    ·exact .inl z
    ·exact .inr z
   ·obtain⟨o,y,D⟩:=Q;exact⟨o,g _ _ y,D⟩
 ·obtain⟨v,o,y,D⟩:=I.cell x c (M3 e).1;exact⟨v,o,g _ _ y,D⟩
 ·have w:p∈X.pn++pins:=by
   have:p∈(X.pn++pins)++[]:=hp;simpa using this
  obtain⟨J,P,O,N,M⟩:=I.pin p w;refine⟨g _ _ J,P,λz=>?_,λz=>?_,M⟩
  ·have a:p.1=C:=z;have L:=Az J;rw[a]at L;exact absurd L (LM.mpr E)
  ·rcases AN.mp (I.stkSub p.1 z)with e|e
   ·exact O e
   ·exact N e
 ·unfold F9;rw[Ad,AW,DD];exact S.len.symm
def bu3{h:List (AH×Obj)}{c:St}{H':Hp}{e:AK}(I:Inv X pins σ H s)(j:∀b∈fp,w6 X pins H b)
  (a:Inv (X.comp scope Nc C fp pins s H) h c H' e):Inv X pins σ H' e:=by
 obtain⟨i,g,d,t,f⟩:=e;obtain rfl:f=s.os:=a.os;exact I.call (h':=i) (g':=g) (d':=d) (t':=t) (ch:=fp) a.base a.hok a.bare λb hb=>by
  obtain⟨p,n,o,m,l,k⟩:=j b hb;exact⟨m,n,l,k⟩
def aw3{f:St}{j:Hp}{s0:AK}{h':BC}(d:Inv X pins f j s0)(a:s0.heap.objs.size<=C)(I:Inv X pins σ H s)(i:H C=AF)
  (g:Ba C s.heap h'):Inv X pins σ H {s with heap:=h'}:=by
 refine I.turned (t':=s.toks) (it:=C) (λb o hb e=>(g.2 b hb).trans e) i ?_ (.inr (BB d.sz a)) ?_ ?_
 ·exact λz=>absurd (Aj d.lt a) (by rw[z];exact CY _)
 ·intro x c e z;obtain⟨v,q⟩:=d.cell x c e;exact absurd (Aj q.lt a) (by rw[z];exact CY _)
 ·intro p h z;exact absurd (Aj (Az (d.pin p h).1) a) (by rw[z];exact CY _)
abbrev ao8(fr:List Nat)(k:Nat)(wi:TI)(g:TG)(tc:TT)(te:TE)(fin:V->Hp->Prop):St->Hp->Prop:=λσ H=>
 wi σ H λJ H1=>∀p,H1 p=AF->∃W:Nat->Nat->St->Hp->Prop,(∃m,W 0 m (F9 fr k σ) (upd H1 p (.lst [])))/\∀i m σc H2,W i m σc H2 ->
  (J.stop i H2/\fin (.ref p) H2)\/(J.go i H2/\∃N:St->Hp->Prop,(∀σ' H',N σ' H'->∃m',m'<m/\W (i+1) m' σ' H') /\
   ∀x H3,J.yld i H2 x H3->g x σc H3 λσ4 H4=>tc σ4 H4 λb H5=>if b=AD then te σ4 H5 λv H6=>∃ys,H6 p=AA (.lst ys)/\ys.length<sizeLine/\N σ4 (upd H6 p (.lst (ys++[v])))else N σ4 H5)
abbrev PCs(X:Cx)(ifs:List AT)(t:TT):Prop:=
 ∀(pins:List (AH×Obj))(s:AK)(σ:St)(H:Hp)(Q:Bool->Hp->Prop),Inv X pins σ H s->t σ H Q ->
  AR (model X.prog X.w) X.A (forIn ifs AD λc r=>if r=AD then do let ok <-Ho c X.env (eval c X.env);pure (CC ok)else pure (CC r)) (TP X pins σ Q) X.xe s
abbrev cz5:TT:=λ_ H Q=>Q AD H
def cf6:PCs X [] cz5:=λ_ _ _ H _ I h=>wpAny_tests_nil ⟨H,I,h⟩
def b82{c:AT}{t:TT}(a:PT X c t):PCs X [c] t:=λpins s σ H Q I h=>wpAny_tests_one (a pins s σ H Q I h)
section
variable {k:Nat} {tg iter elt:AT} {ifs:List AT} {wi:TI} {g:TG} {tc:TT} {te:TE} {pos:Pos}
def aw6(hc:X.calm=AD)(S:CompScope X a Nc fr k)(hg:∀C r f s H,PG (X.comp a Nc C r f s H) tg g)(ht:∀C r f s H,PCs (X.comp a Nc C r f s H) ifs tc)(he:∀C r f s H,PE (X.comp a Nc C r f s H) elt te)
  {f:List (AH×Obj)} {σ:St} {j:AK} {G:Hp} {it:AH} {r:List AH} {Y:Nat->BC->Prop} {J:It} {fin:V->Hp->Prop} {RR:AG->AH->Hs->AK->Prop} {E:AG->AK->Prop}
  (I2:Inv X f σ G j) (T:Turn X.prog X.w X.K tg J r it Y) (st2:Y 0 j.heap) (f2:∀b∈r,w6 X f G b)
  (h:∀p,G p=AF->∃W:Nat->Nat->St->Hp->Prop,(∃m,W 0 m (F9 fr k σ) (upd G p (.lst [])))/\∀i m σc G,W i m σc G ->
   (J.stop i G/\fin (.ref p) G)\/(J.go i G/\∃N:St->Hp->Prop,(∀t F,N t F->∃P,P<m/\W (i+1) P t F) /\
    ∀x H3,J.yld i G x H3->g x σc H3 λσ4 H4=>tc σ4 H4 λb H5=>if b=AD then te σ4 H5 λv H6=>∃ys,H6 p=AA (.lst ys)/\ys.length<sizeLine/\N σ4 (upd H6 p (.lst (ys++[v])))else N σ4 H5))
  (hRR:∀(D C:AH)(F:Hp)(s':AK)(s3:AK)(H3:Hp)(P:Str->Option AG),Inv X f σ H3 s3->s3.heap.objs.size<=C->Inv X f σ F s'->F C=AF->s'.heap.Ns C P->fin (.ref D) F->RR (.ref D) C (.ok .next) s') :
  AR (model X.prog X.w) X.A (newList []) (λacc B=>AR (model X.prog X.w) X.A (LN a X.env.globals (u4 X.env.cells a.names []) [] X.env.qual AF .none (AA X.env)) (λcenv s₄=>
   Dq (model X.prog X.w) X.A (.compStart (.ListComp elt [⟨tg,iter,ifs,0⟩] a pos) 0 (.ref it) acc {cenv with scope:=relabel a X.env}) (RR acc cenv.locals) s₄) E B) E j:=by
 have hp:=I2.hok.fresh (AS j.heap.objs.size);obtain⟨W,⟨m0,w0⟩,turn⟩:=h j.heap.objs.size hp;refine Bb (JL S.nocell (by intro y hy;simp at hy) (λh₁ hns₁ hsb₁=>?_) S.kind);dsimp only at hns₁ hsb₁ ⊢;have I3:Inv X f σ (upd G j.heap.objs.size (.lst [])) {j with heap:=j.heap.push {cls:=.type "list",dict:=AF,data:=.seq ([]:List AG).toArray}}:=
  I2.laid (t':=j.toks) (λb u e=>AM _ e) (AS _) ⟨BK _,[],0,.nil,Ae _ rfl⟩
 have U:∀b∈r,b<j.heap.objs.size:=λb hb=>by
  obtain⟨o,e,_⟩:=T.obj _ _ st2 b hb;exact Az e
 have f3:∀b∈r,w6 X f (upd G j.heap.objs.size (.lst [])) b:=λb hb=>by
  obtain⟨q0,q⟩:=f2 b hb;exact⟨by rw[i9 (BX (U b hb))];exact q0,q⟩
 generalize hH3:(j.heap.push {cls:=.type "list",dict:=AF,data:=.seq ([]:List AG).toArray}:BC)=g3 at I3 hns₁ hsb₁ ⊢;have hsz:g3.objs.size=j.heap.objs.size+1:=by rw[<-hH3,Cb]
 have R:∀b∈r,b<g3.objs.size:=λb hb=>by rw[hsz];exact Ix (U b hb)
 have k3:∀b o,g3.get? b=AA o->h₁.get? b=AA o:=λb o e=>hsb₁.extBut b o (BX (Az e)) (AM _ e);have st3:Y 0 g3:=T.keep _ _ _ st2 λb _ o e=>by rw[<-hH3];exact AM _ e
 have st4:Y 0 h₁:=T.keep _ _ _ st3 λb _ o e=>k3 b o e;have I4:Inv (X.comp a Nc g3.objs.size r f {j with heap:=g3} (upd G j.heap.objs.size (.lst []))) [] (F9 fr k σ) (upd G j.heap.objs.size (.lst [])) {j with heap:=h₁,toks:=j.toks+([]:List (Str×AG)).length}:=
  br5 (s:={j with heap:=g3}) S I3 (AS _) f3 R k3 hns₁
 generalize l:X.comp a Nc g3.objs.size r f {j with heap:=g3} (upd G j.heap.objs.size (.lst []))=Xc at I4;have eA:Xc.A=X.A:=by rw[<-l];rfl
 have eP:Xc.prog=X.prog:=by rw[<-l];rfl
 have ew:Xc.w=X.w:=by rw[<-l];rfl
 have eK:Xc.K=X.K:=by rw[<-l];rfl
 have ec:Xc.calm=AD:=by rw[<-l];exact hc
 have ee:Xc.env=LL a (u4 X.env.cells a.names []) g3.objs.size X.env:=by rw[<-l];rfl
 have ex:Xc.xe=λ_ _=>False:=by rw[<-l];rfl
 have T':Turn Xc.prog Xc.w Xc.K tg J r it Y:=by rw[eP,ew,eK];exact T
 have L:∀{F:Hp},(∀b∈r,F b=AF)->∀b∈r,w6 Xc [] F b:=λhn b hb=>by
  obtain⟨q0,q1,q2,q3,q4,q5⟩:=f3 b hb;subst l;refine⟨hn b hb,BX (R b hb),λz=>?_,.inl hb,λx c e=>q4 x c (M3 e).1,λp hp=>q5 p ?_⟩
  ·rcases AN.mp (I3.stkSub b z)with e|e
   ·exact q1 e
   ·exact q2 e
  ·have:p∈(X.pn++f)++[]:=hp;simpa using this
 have Q:∀B:AK,B={j with heap:=h₁,toks:=j.toks+([]:List (Str×AG)).length} ->
   Dq (model X.prog X.w) X.A (.compLoop (.ListComp elt [⟨tg,iter,ifs,0⟩] a pos) 0 (.ref it) (.ref j.heap.objs.size) (LL a (u4 X.env.cells a.names []) g3.objs.size X.env)) (RR (.ref j.heap.objs.size) g3.objs.size) B:=by
  rintro B rfl;rw[<-ee,<-eA,<-eP,<-ew];refine bn9 (λn s'=>∃i t F,Inv Xc [] t F s'/\Y i s'.heap/\(∀b∈r,F b=AF)/\W i n t F) ?_ m0 ⟨0,_,_,I4,st4,λb hb=>(f3 b hb).1,w0⟩;rintro n s5 ⟨i,σ5,H5,I5,st5,fr5,w5⟩
  rcases turn i n σ5 H5 w5 with⟨stop,qn⟩|⟨go,N,hN,step⟩
  ·refine thn (T'.done Xc rfl rfl rfl ec i [] s5 σ5 H5 _ I5 (L fr5) st5 stop) λr s6⟨hr,I6⟩=>?_;subst hr;subst l;obtain⟨P,hm,_⟩:=id I6.loc;exact hRR _ _ H5 s6 _ _ P I3 (AS _) (bu3 I3 f3 I6) I6.free hm qn
  ·refine thn (T'.item Xc rfl rfl rfl ec i [] s5 σ5 H5 _ I5 (L fr5) st5 go) λr s6⟨u,hr,h6⟩=>?_;subst hr;refine thn h6 λ_ s7 z30=>?_;obtain⟨x,H7,I7,r7,y7,Z,fr7⟩:=z30;have I7':=I7.pinned (L fr7) (T.obj _ _ Z);have hgX:PG Xc tg g:=by rw[<-l];exact hg _ _ _ _ _
   have htX:PCs Xc ifs tc:=by rw[<-l];exact ht _ _ _ _ _
   have heX:PE Xc elt te:=by rw[<-l];exact he _ _ _ _ _
   have M:∀{s9:AK}{I:St}{H9:Hp},Inv Xc ([]++W8 r s7.heap) I H9 s9->N I H9->∃m,m<n/\∃i t F,Inv Xc [] t F s9/\Y i s9.heap/\(∀b∈r,F b=AF)/\W i m t F:=λ{s9 I H9}I9 n9=>by
    obtain⟨P,hm,w9⟩:=hN I H9 n9;refine⟨P,hm,i+1,I,H9,I9.unpinned,T.keep _ _ _ Z λb hb o e=>(I9.pin (b,o) (BF _ (BF _ (aa4 hb e)))).1,λb hb=>?_,w9⟩;obtain⟨o,e,d⟩:=T.obj _ _ Z b hb;exact(I9.pin (b,o) (BF _ (BF _ (aa4 hb e)))).2.1
   have hgw:=hgX _ s7 σ5 H7 x u _ I7' r7 (step x H7 y7);rw[ex]at hgw;refine thn hgw λ_ s8 z31=>?_;obtain⟨O,H8,I8,q8⟩:=z31;have htw:=htX _ s8 O H8 _ I8 q8;rw[ex]at htw;refine thn htw λok s9⟨H9,I9,q9⟩=>?_;cases ok with
   |false=>
    rw[if_neg AI]at q9 ⊢;exact M I9 q9
   |true=>
    rw[if_pos rfl]at q9 ⊢;have hew:=heX _ s9 O H9 _ I9 q9;rw[ex]at hew;refine thn hew λxv s10 z32=>?_;obtain⟨v,H10,I10,r10,ys,hys,hlen,n10⟩:=z32;have hap:=ay1 (X:=Xc) _ s10 O H10 (.ref j.heap.objs.size) [v] (.ref j.heap.objs.size) [xv] (λ_ H11=>N O H11) I10 rfl (.cons r10 .nil) ⟨_,ys,v,rfl,rfl,hys,hlen,n10⟩;rw[ex]at hap;exact thn hap λ_ s11⟨_,H11,I11,_,n11⟩=>M I11 n11
 exact codeAny_compStart_list (Q _ rfl) (T.self _ 0 _ _ _ st4 (Q _ rfl))
def aw1(S:CompScope X scope Nc fr k)(I:Inv X pins σ H s):∀x∈scope.names,x.2=.free->(X.env.cells.lookup x.1).isSome=AD:=λx hx hf=>by
 obtain⟨c,e⟩:=I.ok.has x.1 (S.frees x hx hf);rw[e];rfl
def b77(p:X.calm=AD)(S:CompScope X scope Nc fr k)(hi:PI X tg iter wi)(n:∀C b a s H,PG (X.comp scope Nc C b a s H) tg g)(j:∀C b a s H,PCs (X.comp scope Nc C b a s H) ifs tc)(o:∀C b a s H,PE (X.comp scope Nc C b a s H) elt te)
  (l:∀x,Da iter X.env x=pure x:=by intro _;rfl):PE X (.ListComp elt [⟨tg,iter,ifs,0⟩] scope pos) (λσ H Q=>ao8 fr k wi g tc te Q σ H):=by
 intro a s σ H Q I h;rw[eval_ListComp];refine IK (use:=AF) (cl:=u4 X.env.cells scope.names []) rfl l (ak3 (aw1 S I)) S.kind S.names ?_;refine thn (hi a s σ H _ I h) λxv s1 h1=>thn h1 λitv s2 h2=>?_;obtain⟨G,b,B,J,L,e,v,T,d,t,h⟩:=h2;subst e;refine aw6 (RR:=λacc C=>compPost (model X.prog X.w) X.A X.xe AF (EP X a σ Q) acc C) p S n j o v T d t h ?_;intro D C z F E K i u r y m f q;exact⟨i,f,λh' sb=>⟨.ref D,z,aw3 u r y m sb,rfl,q⟩⟩
def bp3{i:Nat}{y:Str}{py b:Pos}(hc:X.calm=AD)(hN:X.N.Nodup)(F:X.N[i]?=AA y)(W:Loc X.env.scope y)(G:X.fn y=AD\/X.env.scope.names.lookup y=AA .local)
  (S:CompScope X scope Nc fr k) (hi:PI X tg iter wi) (hg:∀C j a s H,PG (X.comp scope Nc C j a s H) tg g) (Y:∀C j a s H,PCs (X.comp scope Nc C j a s H) ifs tc) (he:∀C j a s H,PE (X.comp scope Nc C j a s H) elt te)
  (u:CZ (.ListComp elt [⟨tg,iter,ifs,0⟩] scope pos) (AA (.Name y py)) b.line X.env=pure AD)
  (Z:∀x,Da iter X.env x=pure x:=by intro _;rfl):PS X (.Assign [.Name y py] (.ListComp elt [⟨tg,iter,ifs,0⟩] scope pos) b) (λD f H=>ao8 fr k wi g tc te (λv l=>D.nx (f.set i (AA v)) l) f H):=by
 intro a s f H D I h;rw[exec_Assign_Name_used _ _ _ _ u];refine AC (IH (AC ?_));show AR _ X.A (do let _ <-comprehension (.ListComp elt [⟨tg,iter,ifs,0⟩] scope pos) scope X.env _ (newList []) AE (eval iter X.env) (AA (assign (.Name y py) X.env))) _ _ s;refine AC (Bg (IK (use:=AA (assign (.Name y py) X.env)) (cl:=u4 X.env.cells scope.names []) (Q:=λ_ c=>SP X a D .next c) rfl Z (ak3 (aw1 S I)) S.kind S.names ?_) (λ_ c hq=>AL (AL hq)) λ_ _ e=>e);refine thn (hi a s f H _ I h) λxv s1 h1=>thn h1 λitv s2 h2=>?_;obtain⟨it,j,tn,J,H2,e,I2,T,o,f2,h⟩:=h2;subst e;refine aw6 (RR:=λacc C=>compPost (model X.prog X.w) X.A X.xe (AA (assign (.Name y py) X.env)) (λ_ c=>SP X a D .next c) acc C) (fin:=λv l=>D.nx (f.set i (AA v)) l) hc S hg Y he I2 T o f2 h ?_;intro P C l c s3 H3 V L K O hn E q;show AR _ X.A (assign (.Name y py) X.env (.ref P)) _ _ c;obtain⟨n,es,ep,B,m,d⟩:=id E;have t:C≠X.env.locals:=λz=>absurd (Aj L.lt K) (by rw[z];exact CY _);have r:C∉X.fs:=L.nofs K;have M:Inv X (a++[(C,n)]) f l c:=O.pins_of λp hp=>by
  rcases BI.mp hp with z|z
  ·exact O.pin p (BF _ z)
  ·have e:p=(C,n):=by simpa using z
   subst e;exact⟨B,hn,t,r,λv z=>by rw[m]at z;cases z⟩
 refine Jw (ab4 M hN F W (v:=.ref P) rfl (λs'' J''=>?_) G);obtain⟨U,R,_⟩:=J''.pin (C,n) ∎;refine⟨V,⟨n,es,ep,U,m,d⟩,λh' sb=>⟨_,l,aw3 L K J''.unpinned R sb,q⟩⟩
end
end L2
namespace PySem
section
variable {prog:An} {w:Ax} {A:BU} {E:AG->AK->Prop} {s:AK}
def au3{it l:AH}{i:Nat}{items}{x:AG}{Q:AG->AK->Prop}(a:s.heap.IsTupleIter it l i)
  (h:s.heap.IsTuple l items) (g:items[i]?=AA x)
  (k:∀f,f.IsTupleIter it l (i+1)->Ba it s.heap f->Q x {s with heap:=f}) :
  AR (model prog w) A (Ak (.ref it)) Q E s:=by
 obtain⟨o,c,j,b⟩:=id a;obtain⟨m,d,_,n,e⟩:=h;unfold Ak;refine AC (BM (name:=Aa "__next__") a.typeIs Cs
  (BL Cs a.typeIs HQ ?_ (HG _)))
 show AR _ _ (field (.ref it) 0 >>= _) _ _ s;refine AC (Au c b (x:=.ref l) rfl ?_);show AR _ _ (if (Ap l == Bc)=AD then _ else _) _ _ s;rw [if_neg (show ¬ ((Ap l == Bc)=AD) from AI)];show AR _ _ (field (.ref it) 1 >>= _) _ _ s;refine AC (Au c b (x:=.int i 0) rfl ?_);show AR _ _ (seqItems? (.ref l) >>= _) _ _ s;refine AC (BR d e ?_);simp only [Bk,g];refine AC (EW c b ∎ (AL ⟨x,rfl,AL (k _ ?_ (BV ..))⟩));exact ⟨_,CH _ c (FC (Cc b _)),(Iy ..).trans j,by
  rw[Cc b];simp[Cf]⟩
def au4{it l:AH}{i:Nat}{items}{Q:AG->AK->Prop}(j:A.handled=AF)
  (b:s.heap.IsTupleIter it l i) (n:s.heap.IsTuple l items) (k:items[i]?=AF)
  (p:∀h e,GV it s.heap h->(∃o,h.get? e=AA o/\o.cls=.type "StopIteration")->E (.ref e) {s with heap:=h}) :
  AR (model prog w) A (Ak (.ref it)) Q E s:=by
 obtain⟨o,d,t,g⟩:=id b;obtain⟨q,c,_,r,f⟩:=n;unfold Ak;refine AC (BM (name:=Aa "__next__") b.typeIs Cs
  (BL Cs b.typeIs HQ ?_ (HG _)))
 show AR _ _ (field (.ref it) 0>>=_) _ _ s;refine AC (Au d g (x:=.ref l) rfl ?_);show AR _ _ (if(Ap l==Bc)=AD then _ else _) _ _ s;rw[if_neg (show ¬((Ap l==Bc)=AD) from AI)];show AR _ _ (field (.ref it) 1>>=_) _ _ s;refine AC (Au d g (x:=.int i 0) rfl ?_);show AR _ _ (seqItems? (.ref l)>>=_) _ _ s;refine AC (BR c f ?_);simp only[Bk,k];refine AC (DN (AC (EW d g ∎ ?_)));show AR _ _ (LO (.type "StopIteration") []>>=_) _ _ _;refine AC ?_;simp only[LO,newTuple];refine AC (Bb ?_ (by size_fits));refine AC (m:=Fp _ _) (HR (a:=Bc) (by first|rfl|(simp only[Fp];rfl)) ?_);refine Bb ?_ (by size_fits);simp only[raiseNew];refine AC (wpAny_handled ?_)
 first|rw[show A.in1.handled=AF from j]|rw[j]
 refine AC (AL (wpAny_throw ?_));exact p _ _ (((BV ..).extBut.push _).push _) ⟨_,Ae _ rfl,rfl⟩
end
def Draws.tuple{prog:An}{w:Ax}{A:BU}(d:A.handled=AF)(it l:AH)(c:l≠it)(a:Array AG):
  Draws prog w A it [it,l] a.size (λi v=>a[i]?=AA v) (λi h=>h.IsTupleIter it l i/\h.IsTuple l a) where
 live:=λ_ _ st=>let⟨o,b,_⟩:=st.1;⟨o,b⟩
 frame:=λ_ _ _ st hk=>⟨st.1.at λo e=>hk it ∎ o e,let⟨o,b,r⟩:=st.2;⟨o,hk l ∎ o b,r⟩⟩
 item:=λi s Q E hi st hQ=>by
  refine au3 st.1 st.2 (x:=a[i]) (by simp[hi]) λh' hit' hs'=>?_;exact hQ _ h' s.toks (by simp[hi]) ⟨hit',st.2.extBut hs'.extBut c⟩ hs'
 done:=λs Q E st hE=>au4 d st.1 st.2 ∎ hE
open AutoSeq1 (wpAny_loadPart') in
def bm0(l:AH)(items:Array AG)(n:Nat)(dct:Option AH)(sl:Array (Option AG)):
  JM (Ci.«enumerate.__new__» ⟨[.type "enumerate",.ref l],[]⟩) (λ_ R s=>s.heap.get? l=AA {cls:=.type "tuple",dict:=dct,data:=.seq items n,slots:=sl} /\
   R (.ok (.ret (.ref (s.heap.push {cls:=.type "tuple_iterator",data:=.fields #[.ref l,.int 0 0]}).objs.size)))
    {s with heap:=(s.heap.push {cls:=.type "tuple_iterator",data:=.fields #[.ref l,.int 0 0]}).push {cls:=.type "enumerate",data:=.fields #[.none,.bool AE,.ref s.heap.objs.size,Cf 0,.none,.none]}}):=
 .of_wp λprog w A R s h=>by
  obtain⟨hp,g,d,tk,os⟩:=s;obtain⟨hl,h⟩:=h;have hsub:=sub_enumerate;have hL:Heap.IsTuple (Hj ⟨hp,g,d,tk,os⟩) l items:=⟨_,hl,rfl,n,rfl⟩
  wp_walk using FW hl
  refine wpAny_stack_any λst=>AL ?_
  split
  ·rename_i c _ _ _ _ _;cases(c==Cm "enumerate")
   ·wp_walk using FW hl,DR hL
    exact⟨_,rfl,h⟩
   ·wp_walk using FW hl,DR hL
    exact⟨_,rfl,h⟩
  ·wp_walk using FW hl,DR hL
   exact⟨_,rfl,h⟩
section
variable {prog:An} {w:Ax} {A:BU} {E:AG->AK->Prop} {s:AK}
def bl9{l:AH}{a:Array AG}{Q:AG->AK->Prop}(p:s.heap.IsTuple l a)
  (h:∀d,LP d (s.heap.objs.size+1) s.heap.objs.size 0 .none->d.IsTupleIter s.heap.objs.size l 0->d.objs.size=s.heap.objs.size+2 ->
   (∀b o,s.heap.get? b=AA o->d.get? b=AA o)->Q (.ref (s.heap.objs.size+1)) {s with heap:=d}) :
  AR (model prog w) A (call (.type "enumerate") [.ref l]) Q E s:=by
 obtain⟨⟨c,i,q,k⟩,m,g,n,f⟩:=p;replace g:c=.type "tuple":=g;replace f:q=.seq a n:=f;subst g f;refine Io F.called_enumerate ∅ (F.typeCall_enumerate_1 _) (F.newCall_enumerate_1 _) (λobj=>Ip obj _) F.entry_enumerate_new
  (bm0 l a n i k) ⟨m,?_⟩
 have e:(s.heap.push {cls:=.type "tuple_iterator",data:=.fields #[.ref l,.int 0 0]}).objs.size=s.heap.objs.size+1:=Cb ..;show _/\_;rw[e];have j:LP ((s.heap.push {cls:=.type "tuple_iterator",data:=.fields #[.ref l,.int 0 0]}).push
   {cls:=.type "enumerate",data:=.fields #[.none,.bool AE,.ref s.heap.objs.size,Cf 0,.none,.none]}) (s.heap.objs.size+1) s.heap.objs.size 0 .none:=by
  have:=Ae (s.heap.push {cls:=.type "tuple_iterator",data:=.fields #[.ref l,.int 0 0]})
   (o:={cls:=.type "enumerate",data:=.fields #[.none,.bool AE,.ref s.heap.objs.size,Cf 0,.none,.none]}) rfl
  rw[e]at this;exact this
 refine⟨⟨_,j,rfl⟩,h _ j ⟨_,AM _ (Ae _ rfl),rfl,rfl⟩ (by rw[Cb,e]) λb o x=>AM _ (AM _ x)⟩
end
end PySem
namespace L2
open PySem PySem.Spec PyProof.Rows
variable{pins:List (AH×Obj)}{σ:St}{elts:List AT}{k0:Nat}{tp:Pos}
section
variable {X:Cx} {H:Hp} {s:AK} {h':BC}
def Inv.turnedNew{t':Nat}{ch:List AH}{o:HO}(I:Inv X pins σ H s)(a:∀b∈ch,w6 X pins H b)(k:∀b u,b∉ch->s.heap.get? b=AA u->h'.get? b=AA u)(D:∀b∈ch,∃u,h'.get? b=AA u)
  (h:o7 X.prog X.w (upd H s.heap.objs.size o) h' s.heap.objs.size o):Inv X pins σ (upd H s.heap.objs.size o) {s with heap:=h',toks:=t'}:=by
 have f:H s.heap.objs.size=AF:=I.hok.fresh (AS _);have i:∀b u,s.heap.get? b=AA u->b≠s.heap.objs.size:=λb u e=>BX (Az e);have d:∀b u,H b=AA u->b∉ch:=λb u e z=>by rw[(a b z).1]at e;cases e
 refine I.step (g':=s.gens) (d':=s.drawn) (ch:=ch) (λb g=>?_) (λb u _ _ hc e _=>k b u hc e) (λb u _ _ hc e _=>⟨u.slots,k b u hc e⟩) (λb u _ e n=>by rw[i9 (i b u e)];exact n)
  (λb u hc e=>⟨u,k b u hc e⟩) (λb xs e=>by rw[i9 (v4 e f)];exact e) (λb u v e=>by rw[i9 (v4 e f)];exact e) (λb ps e=>⟨#[],by rw[i9 (v4 e f),e];simp⟩) (λm hm=>?_) (λb u e=>?_) I.bare
 ·obtain⟨C,x,B,t,p,m⟩:=a b g;exact⟨t,x,p,m⟩
 ·obtain⟨j,y,A,l,r⟩:=hm;exact⟨j,y,A,k _ j (λz=>(a _ z).2.1 rfl) l,r⟩
 ·by_cases g:b=s.heap.objs.size
  ·subst g;rw[p8]at e;cases e;exact h
  ·rw[i9 g]at e;refine(I.hok b u e).stay (λc v hc q=>k c v ?_ q) (λc q=>by rw[i9 (v4 q f)];exact q) λc xs q=>by rw[i9 (v4 q f)];exact q
   rcases hc with z|z
   ·rw[z];exact d b u e
   ·exact d c _ z
def Inv.turnedAll{t':Nat}{ch:List AH}(I:Inv X pins σ H s)(a:∀b∈ch,w6 X pins H b)(k:∀b u,b∉ch->s.heap.get? b=AA u->h'.get? b=AA u):Inv X pins σ H {s with heap:=h',toks:=t'}:=by
 have d:∀b u,H b=AA u->b∉ch:=λb u e z=>by rw[(a b z).1]at e;cases e
 refine I.step (g':=s.gens) (d':=s.drawn) (ch:=ch) (λb hb=>?_) (λb u _ _ hc e _=>k b u hc e) (λb u _ _ hc e _=>⟨u.slots,k b u hc e⟩) (λb u _ e n=>n)
  (λb u hc e=>⟨u,k b u hc e⟩) (λb xs e=>e) (λb u v e=>e) (λb ps e=>⟨#[],by rw[e];simp⟩) (λm hm=>?_) (λb u e=>?_) I.bare
 ·obtain⟨t,l,p,j,i,h⟩:=a b hb;exact⟨j,l,i,h⟩
 ·obtain⟨f,m,o,g,r⟩:=hm;exact⟨f,m,o,k _ f (λz=>(a _ z).2.1 rfl) g,r⟩
 ·refine(I.hok b u e).stay (λc v hc q=>k c v ?_ q) (λc q=>q) λc xs q=>q
  rcases hc with z|z
  ·rw[z];exact d b u e
  ·exact d c _ z
end
abbrev Ite(K:AQ)(sq:Hp->List V->Prop):It:=
 ⟨λi H=>∃xs x,sq H xs/\xs[i]?=AA x,λi H x H'=>∃t v,H t=AF/\x=.ref t/\H'=upd H t (.tup [.int i,v])/\∀xs,sq H xs->xs[i]?=AA v,λi H=>∃xs,sq H xs/\xs.length=i⟩
def ay9{P:An}{w:Ax}{K:AQ}{sq:Hp->List V->Prop}{e it:AH}{pit:Nat->BC->Prop}{bad:AH->Prop}
  (G:e≠it) (k:∀i h,pit i h->∃o,h.get? it=AA o/\∀v,o.data≠.cell v) (l:∀i h Y,pit i h->(∀o,h.get? it=AA o->Y.get? it=AA o)->pit i Y)
  (dr:∀(X:Cx),X.prog=P->X.w=w->X.K=K->X.calm=AD->∀(i:Nat)(a:List (AH×Obj))(s:AK)(n:St)(H:Hp)(g:List V),Inv X a n H s->w6 X a H e->w6 X a H it->pit i s.heap->(∃c,LP s.heap e it i c)->sq H g ->
   ∃(d:List AG)(Z:List AH)(Pv:Nat->AG->Prop)(St:Nat->BC->Prop),g9 g d/\g.length<=sizeLine/\Draws P w X.A.in1 it Z d.length Pv St/\e∉Z/\St i s.heap/\(∀j v,Pv j v->d[j]?=AA v)/\∀j h,St j h->pit j h)
  (inj:∀(X:Cx)(a:List (AH×Obj))(s:AK)(n:St)(H:Hp)(g ys:List V),X.K=K->Inv X a n H s->sq H g->sq H ys->g=ys) :
  Turn P w K (.Tuple elts k0 tp) (Ite K sq) [e,it] e (λi h=>(∃c,LP h e it i c)/\pit i h) where
 mem:=by simp
 obj:=λi h f b hb=>by
  rcases AN.mp hb with z|z
  ·subst z;obtain⟨⟨c,m⟩,_⟩:=f;exact⟨_,m,λv z=>by cases z⟩
  ·have C:b=it:=by simpa using z
   subst C;exact k i h f.2
 keep:=λi h Y f S=>by
  obtain⟨⟨c,m⟩,U⟩:=f;exact⟨⟨c,S e ∎ _ m⟩,l i h Y U λo q=>S it ∎ o q⟩
 item:=by
  intro X hP hw W hc i a s n H E I t f hg;obtain⟨g,x,T,F⟩:=hg;obtain⟨d,Z,Pv,St,R,hz,D,J,p,M,L⟩:=dr X hP hw W hc i a s n H g I (t e ∎) (t it ∎) f.2 f.1 T;obtain⟨⟨c,m⟩,U⟩:=f;have hi:i<d.length:=by
   rw[<-R.length];exact(AY.mp F).1
  refine wpAny_pyNext_enum_itemD D m p hi G J λy h1 tk hPy ho hst' hT hsz hk=>?_;obtain⟨u,hu,ru⟩:=R.get F;have ey:y=u:=by
   have q:=M i y hPy;rw[hu]at q;exact(Av q).symm
  subst ey;refine⟨_,rfl,?_⟩;have hT':H s.heap.objs.size=AF:=I.hok.fresh (AS _);have O:e<s.heap.objs.size:=Az m;refine wpAny_letOwnedTupleGo_enum ho λh2 he2 hs2=>?_;have q2:Ba e h1 h2:=hs2;have S:∀b u,b∉[e,it]->s.heap.get? b=AA u->h2.get? b=AA u:=λb u hb q=>by
   have N:b≠e:=λz=>hb (by simp[z]);have h2':b≠it:=λz=>hb (by simp[z]);exact(q2.2 b N).trans (hk b u N h2' q)
  have hT2:h2.get? s.heap.objs.size=AA {cls:=.type "tuple",data:=.seq #[.int i tk,y]}:=(q2.2 _ (Gf O)).trans hT;have r:pit (i+1) h2:=l _ _ _ (L _ _ hst') λo q=>(q2.2 it (Aw G)).trans q;have I1:Inv X a n (upd H s.heap.objs.size (.tup [.int i,x])) {s with heap:=h2,toks:=tk+1}:=by
   refine I.turnedNew (ch:=[e,it]) t S (λb hb=>?_) ?_
   ·rcases AN.mp hb with z|z
    ·exact⟨_,by rw[z];exact he2⟩
    ·have C:b=it:=by simpa using z
     subst C;obtain⟨o,q,_⟩:=k _ _ r;exact⟨o,q⟩
   ·exact⟨by show 2<=sizeLine;decide,[.int i tk,y],.cons ⟨_,rfl⟩ (.cons ru .nil),⟨_,hT2,rfl,rfl,_,rfl⟩⟩
  refine⟨.ref s.heap.objs.size,_,I1,rfl,⟨s.heap.objs.size,x,hT',rfl,rfl,λys hy=>by rw[inj X a s n H ys g W I hy T];exact F⟩,⟨⟨_,by have:=he2;simpa using this⟩,r⟩,λb hb=>?_⟩;have nb:b≠s.heap.objs.size:=by
   rcases AN.mp hb with z|z
   ·rw[z];exact BX O
   ·have C:b=it:=by simpa using z
    subst C;obtain⟨o,q,_⟩:=k _ _ U;exact BX (Az q)
  rw[i9 nb];exact(t b hb).1
 done:=by
  intro X hP hw W hc i a s n H E I t f hg;obtain⟨g,T,F⟩:=hg;obtain⟨d,Z,Pv,St,R,hz,D,J,p,M,L⟩:=dr X hP hw W hc i a s n H g I (t e ∎) (t it ∎) f.2 f.1 T;obtain⟨⟨c,m⟩,U⟩:=f;have hi:i=d.length:=by rw[<-R.length];exact F.symm
  rw[hi]at p;refine wpAny_pyNext_enum_endD D m p λh1 eb=>⟨rfl,?_⟩;exact I.turnedAll (t':=s.toks) (ch:=[e,it]) t λb u hb q=>eb b u (λz=>hb (by simp[z])) q
 self:=λA i s Q E f h=>by
  obtain⟨⟨c,m⟩,_⟩:=f;exact Gm m h
def ac1{h:BC}{a b:AH}{o u:Obj}(e:h.get? a=AA o)(c:h.get? b=AA u)(d:o.cls≠u.cls):a≠b:=λz=>by
 subst z;rw[e]at c;cases c;exact d rfl
section
variable {X:Cx}
def bm9:BG "enumerate"=AA (.type "enumerate"):=by decide+kernel
def au6:BG "reversed"=AA (.type "reversed"):=by decide+kernel
def b25{n:Hp}{a:AK}{R:It->Hp->Prop}{l:AH}{f:List V}{E:AG->AK->Prop}(u:Inv X c p n a)(t:SqL X.K n l f)(q:R (Ite X.K λH f=>SqL X.K H l f) n):
  AR (model X.prog X.w) X.A (call (.type "enumerate") [.ref l]) (λv s=>AR (model X.prog X.w) X.A (HC v) (PIE X c p (.Tuple elts k0 tp) R) E s) E a:=by
 obtain⟨d,C,r,F⟩:=u.list t;refine call_enumerate_list r.isList λh' g e hsz kk=>Gm g ?_;have U:Inv X c p n {a with heap:=h'}:=u.kept (t':=a.toks) kk;have k:∀b∈[a.heap.objs.size+1,a.heap.objs.size],a.heap.objs.size<=b:=λb hb=>by
  rcases AN.mp hb with z|z
  ·rw[z];exact Ie _
  ·have N:b=a.heap.objs.size:=by simpa using z
   rw[N];exact AS _
 refine⟨a.heap.objs.size+1,[a.heap.objs.size+1,a.heap.objs.size],_,_,n,rfl,U,ay9 (sq:=λH f=>SqL X.K H l f) (pit:=λi h=>h.IsListIter a.heap.objs.size l i) (bad:=λ_=>True) (Gn _) ?_ ?_ ?_ ?_,⟨⟨_,by simpa using g⟩,e⟩,λb hb=>u.fpOk (k b hb) (u.hok.fresh (k b hb)),q⟩
 ·rintro i h ⟨o,ho,J,hd⟩;exact⟨o,ho,λv z=>by rw[hd]at z;cases z⟩
 ·exact λi h h' st kk=>st.at kk
 ·intro Y hP hw B J i c s p H f I f1 f2 e g t;rw[<-B]at t;obtain⟨d,C,r,F⟩:=I.list t;obtain⟨O,g⟩:=g;obtain⟨oi,x,y,T⟩:=id e;obtain⟨Z,nl,j,m,G,S⟩:=id r;have Q:l≠a.heap.objs.size:=ac1 j x (by rw[m,y];decide);have P:a.heap.objs.size+1≠l:=ac1 g j (by rw[m];show Cm "enumerate"≠_;decide);refine⟨d,[a.heap.objs.size,l],(λi v=>d.toArray[i]?=AA v),(λi h=>h.IsListIter a.heap.objs.size l i/\h.IsList l d.toArray),C,F,?_,?_,⟨e,r.isList⟩,λj v z=>by simpa using z,λj h z=>z.1⟩
  ·have D:=Draws.list (prog:=X.prog) (w:=X.w) (A:=Y.A.in1) (by exact I.ok.hd J) a.heap.objs.size l Q d.toArray;simpa using D
  ·intro z
   rcases AN.mp z with z|z
   ·exact Gn _ z
   ·exact P (by simpa using z)
 ·intro Y c s p H f W B I M L;rw[<-B]at M L;exact I.list_inj M L
def b07{n:Hp}{a:AK}{R:It->Hp->Prop}{l:AH}{f:List V}{E:AG->AK->Prop}(u:Inv X c p n a)(t:SqT X.K n l f)(q:R (Ite X.K λH f=>SqT X.K H l f) n):
  AR (model X.prog X.w) X.A (call (.type "enumerate") [.ref l]) (λv s=>AR (model X.prog X.w) X.A (HC v) (PIE X c p (.Tuple elts k0 tp) R) E s) E a:=by
 obtain⟨d,C,r,F⟩:=u.tuple t;refine bl9 (show a.heap.IsTuple l d.toArray from r) λh' g e hsz kk=>Gm g ?_;have T:Inv X c p n {a with heap:=h'}:=u.kept (t':=a.toks) kk;have k:∀b∈[a.heap.objs.size+1,a.heap.objs.size],a.heap.objs.size<=b:=λb hb=>by
  rcases AN.mp hb with z|z
  ·rw[z];exact Ie _
  ·have M:b=a.heap.objs.size:=by simpa using z
   rw[M];exact AS _
 refine⟨a.heap.objs.size+1,[a.heap.objs.size+1,a.heap.objs.size],_,_,n,rfl,T,ay9 (sq:=λH f=>SqT X.K H l f) (pit:=λi h=>h.IsTupleIter a.heap.objs.size l i) (bad:=λ_=>True) (Gn _) ?_ ?_ ?_ ?_,⟨⟨_,by simpa using g⟩,e⟩,λb hb=>u.fpOk (k b hb) (u.hok.fresh (k b hb)),q⟩
 ·rintro i h ⟨o,ho,G,hd⟩;exact⟨o,ho,λv z=>by rw[hd]at z;cases z⟩
 ·exact λi h h' st kk=>st.at kk
 ·intro Y hP hw B G i c s p H f I f1 f2 e g t;rw[<-B]at t;obtain⟨d,C,r,F⟩:=I.tuple t;obtain⟨N,g⟩:=g;obtain⟨Z,x,y,S⟩:=id e;obtain⟨W,j,m,nl,Q⟩:=id r;have P:l≠a.heap.objs.size:=ac1 j x (by rw[m,y];decide);have O:a.heap.objs.size+1≠l:=ac1 g j (by rw[m];show Cm "enumerate"≠_;decide);refine⟨d,[a.heap.objs.size,l],(λi v=>d.toArray[i]?=AA v),(λi h=>h.IsTupleIter a.heap.objs.size l i/\h.IsTuple l d.toArray),C,F,?_,?_,⟨e,r⟩,λj v z=>by simpa using z,λj h z=>z.1⟩
  ·have D:=Draws.tuple (prog:=X.prog) (w:=X.w) (A:=Y.A.in1) (by exact I.ok.hd G) a.heap.objs.size l P d.toArray;simpa using D
  ·intro z
   rcases AN.mp z with z|z
   ·exact Gn _ z
   ·exact O (by simpa using z)
 ·intro Y c s p H f U B I L J;rw[<-B]at L J;exact I.tuple_inj L J
abbrev Itv(K:AQ)(a:AH)(n:Nat):It:=
 ⟨λi H=>(∃xs,SqL K H a xs/\xs.length=n)/\i<n,λi H x H'=>H'=H/\∀xs,SqL K H a xs->xs[n-1-i]?=AA x,λi H=>(∃xs,SqL K H a xs/\xs.length=n)/\i=n⟩
def b44{P:An}{w:Ax}{K:AQ}{L:AT}(a it:AH)(n:Nat):Turn P w K L (Itv K a n) [it] it (λi h=>h.IsRevIter it a ((n:Int)-1-(i:Int))) where
 mem:=by simp
 obj:=λi h f b hb=>by
  have e:b=it:=by simpa using hb
  subst e;obtain⟨o,e,c,d⟩:=f;exact⟨o,e,λv z=>by rw[d]at z;cases z⟩
 keep:=λi h h' f k=>f.at λo e=>k it ∎ o e
 item:=by
  intro X r m t J i g s D H E I l f q;subst r m t;obtain⟨⟨j,G,R⟩,S⟩:=q;subst R;obtain⟨O,M,p,Y⟩:=I.list G;obtain⟨x,F⟩:∃x,j[j.length-1-i]?=AA x:=⟨_,AJ ⋯⟩;obtain⟨u,Q,N⟩:=M.get F;obtain⟨C,B,T,A,y,v⟩:=l it ∎;have e:(j.length:Int)-1-(i:Int)=((j.length-1-i:Nat):Int):=by lia
  rw[e]at f;refine wpAny_pyNext_rev_item f p.isList (x:=u) (by simpa using Q) λh' st' sb=>?_;have W:Inv X g D H {s with heap:=h'}:=I.turned (t':=s.toks) (λb o hb e=>(sb.2 b hb).trans e) C B A y v;obtain⟨o,V,c,d⟩:=id st';have U:((j.length-1-i:Nat):Int)-1=(j.length:Int)-1-((i+1:Nat):Int):=by lia
  rw[U]at st';exact⟨u,rfl,X6 (s:={s with heap:=h'}) V c d ∅ ⟨x,H,W,N,⟨rfl,λys hy=>by rw[I.list_inj hy G];exact F⟩,st',λb hb=>(l b hb).1⟩⟩
 done:=by
  intro X r m t J i g s D H E I l f q;subst r m t;obtain⟨_,S⟩:=q;obtain⟨C,B,T,A,y,v⟩:=l it ∎;have e:(n:Int)-1-(i:Int)=-1:=by lia
  rw[e]at f;exact wpAny_pyNext_rev_end (I.ok.hd J) f λh' eb=>⟨rfl,I.turned (t':=s.toks) (λb o hb e=>eb b o hb e) C B A y v⟩
 self:=λ_ _ _ _ _ f h=>JN f h
abbrev c34(K:AQ)(ta:TA):TI:=λσ H R=>ta σ H λvs H1=>∃a xs,vs=[.ref a]/\SqL K H1 a xs/\R (Itv K a xs.length) H1
def cd8{n a:AT}{k:TA}{p d:Pos}(B:Gl X "reversed")(A:X.mg "reversed"=AF)(C:PA X [a] k)(y:Am [a] X.env=[(AE,eval a X.env)]:=by rfl):
  PI X n (.Call (.Name "reversed" p) [a] [] d) (c34 X.K k):=by
 intro f s m H R I h;refine JG (G1 I B A au6 (BD (thn (C d f s m H _ I h) λus s1 z33=>?_) y rfl));obtain⟨E,D,i,v,w⟩:=z33;obtain⟨l,j,e,z,q⟩:=w;subst e;obtain⟨u,rfl,t⟩:=v.one;cases t;obtain⟨c,r,x,F⟩:=i.list z;refine call_reversed_list x.isList ?_;have g:(s1.heap.push (revObj l ((c.toArray.size:Int)-1))).IsRevIter s1.heap.objs.size l ((j.length:Int)-1-((0:Nat):Int)):=by
  refine⟨_,Ae _ rfl,rfl,?_⟩;have e:((c.toArray.size:Nat):Int)-1=(j.length:Int)-1-((0:Nat):Int):=by rw[Ab,<-r.length];lia
  rw[e];rfl
 refine JN (s:={s1 with heap:=s1.heap.push (revObj l ((c.toArray.size:Int)-1))}) g ?_;refine⟨s1.heap.objs.size,[s1.heap.objs.size],_,_,D,rfl,i.kept (t':=s1.toks) λb o e=>AM _ e,b44 l _ j.length,g,λb hb=>?_,q⟩;have e:b=s1.heap.objs.size:=by simpa using hb
 subst e;exact i.fpOk (AS _) (i.hok.fresh (AS _))
abbrev ar0(i j:Int):Prop:=0<j/\j.natAbs.log2<9000
def bx5:OpR X (Cv .FloorDiv) (rI ar0 λi j=>.int (i / j)):=opI λi j _ _ _ _ _ hc q=>by
 have a:(0:Int)<j:=hc.1;exact floordiv_int ⋯ (by rw[Int.fdiv_eq_ediv_of_nonneg i ⋯];exact q) (.inl (PyProof.noPylong_of_log2 hc.2))
abbrev cz7(K:AQ):R2:=λx y H Q=>∃a b xs ys,x=.ref a/\y=.ref b/\SqT K H a xs/\SqT K H b ys/\xs.length+ys.length<=sizeLine /\
 (xs=[]->Q (.ref b) H)/\(xs≠[]->ys=[]->Q (.ref a) H)/\(xs≠[]->ys≠[]->∀p,H p=AF->Q (.ref p) (upd H p (.tup (xs++ys))))
def b78:OpR X (Cv .Add) (cz7 X.K):=by
 intro c s C H x y v u Q I p o h;obtain⟨a,b,m,D,rfl,rfl,z,w,S,M,L,J⟩:=h
 by_cases i:m=[]
 ·subst i;cases p;cases o;obtain⟨R,G,O,_⟩:=I.tuple z;obtain⟨d,V,N,_⟩:=I.tuple w;cases G;obtain⟨⟨U,T,A,E⟩,q,t,n,r⟩:=id O;obtain⟨⟨B,k,l,j⟩,e,g,P,f⟩:=id N;simp only at t r g f;subst t r g f;exact Ih ⟨_,q,rfl⟩ ⟨_,e,rfl⟩ HE IJ PySem.F.slot_tuple_add PySem.F.entry_tuple_add (PySem.F.args_tuple_add_2 _ _)
   (tuple_addW0 a b #[] d.toArray n P T k E j ∎) ⟨q,e,⟨.ref b,H,I,rfl,M rfl⟩⟩
 ·exact cg9 c s C H _ _ v u Q I p o ⟨a,b,m,D,rfl,rfl,z,w,i,S,L i,J i⟩
end
end L2
namespace Ek
open PySem PySem.Spec PyProof.Rows L2
set_option genCtorIdx false
set_option genInjectivity false
inductive Tg where
 |n (i:Nat)|tup (is:List Nat)
mutual
inductive E where
 |non|bl (b:Bool)|int (i:Int)|str (x:Str)
 |v (i:Nat)
 |tup (es:Es)|lst (es:Es)
 |bin (o:Ez) (a b:E)
 |neg (a:E)
 |cmp (o:Dn) (a b:E)
 |isN (a:E)|notN (a:E)
 |and (a b:E)|or (a b:E)|not (a:E)
 |ite (c a b:E)
 |ix (a b:E)
 |sl (a lo hi:E)
 |slw (a lo hi:E)
 |gsel (g:Str) (k:E)|gget (g:Str) (k d:E)
 |len (a:E)|toInt (a:E)|list (a:E)|tuple (a:E)
 |max (a b:E)|min (a b:E)|lzip (a b:E)
 |call (f:Str) (es:Es)|calln (f:Str) (es:Es)|gf (f:Str)|callv (i:Nat) (es:Es)|callx (c:E) (es:Es)|isT (t:String) (a:E)|cmpl (ne:Bool) (a b:E)
 |fld (a:E) (f:Str)|meth (a:E) (m:Str) (es:Es)|make (c:Str) (es:Es)
 |app (a b:E)|ext (a b:E)|popAt (a b:E)|pop (a:E)
 |lrev (a:E)
 |gc (g:Str)
 |dnt|dgt (a k:E)|din (ne:Bool) (k a:E)
 |any (a:E)|methd (a:E) (m:Str) (es:Es)
 |comp (Nc:List Str) (fr:List Nat) (k:Nat) (t:Tg) (it:It) (c:E) (e:E)
inductive Es where
 |nil|cons (e:E) (r:Es)
inductive It where
 |seq (e:E)|rng (a:E)|rng2 (a b:E)|enum (e:E)|rev (e:E)|revt (e:E)
end
set_option genCtorIdx true
mutual
inductive S where
 |set (i:Nat) (e:E)
 |put (o i v:E)
 |dput (o i v:E)
 |iput (o i v:E)
 |pre (i:Nat)
 |fldS (o:E) (f:Str) (v:E)
 |unp (is:List Nat) (e:E)
 |ex (e:E)
 |iff (c:E) (a b:Ss)
 |ret (e:E)|retN
 |for (t:Tg) (it:It) (b:Ss)
 |while (c:E) (b:Ss)
 |cont|pass|dead
 |tr (b:Ss)
 |dfn (i np:Nat) (N:List Str) (cp:List Nat) (b:Ss)
inductive Ss where
 |nil|cons (s:S) (r:Ss)
end
abbrev Es.len:Es->Nat
 |.nil=>0
 |.cons _ r=>r.len+1
set_option genInjectivity true
inductive D where
 |non|bl (b:Bool)|int (i:Int)|str (x:Str)|tup (ds:List D)|ref (a:AH)|fn (f:Str)|clo (np:Nat) (N:List Str) (b:Ss) (cs:List D)|ktup (ks:List Key)
inductive Ob where
 |lst (ds:List D)|fro (ds:List D)|dct (kvs:List (Key×D))|dtt (kvs:List (Ai×D))|ins (c:Str) (fs:List (Str×D))
@[reducible]noncomputable def Sto:=AH->Option Ob
@[reducible]noncomputable def j6:=List (Option D)
@[reducible]noncomputable def DK:=D->Sto->Prop
@[reducible]noncomputable def DT:=j6->Sto->DK->Prop
@[reducible]noncomputable def DB:=j6->Sto->(Bool->Sto->Prop)->Prop
@[reducible]noncomputable def DA:=j6->Sto->(List D->Sto->Prop)->Prop
abbrev b0(st:Sto)(a:AH)(o:Ob):Sto:=λb=>if b=a then AA o else st b
def f8{st:Sto}{a:AH}{o:Ob}:b0 st a o a=AA o:=by unfold b0;rw[if_pos rfl]
def E2{st:Sto}{a b:AH}{o:Ob}(h:b≠a):b0 st a o b=st b:=by unfold b0;rw[if_neg h]
abbrev rdS(st:Sto)(a:AH)(ds:List D):Prop:=st a=AA (.lst ds)\/st a=AA (.fro ds)
abbrev Sub(st st':Sto):Prop:=∀a o,st a=AA o->st' a=AA o
def Sub.refl(st:Sto):Sub st st:=λ_ _ h=>h
mutual
noncomputable def D.py:D->Ai
 |.non=>.none|.bl b=>.bool b|.int i=>.int i|.str x=>.str x|.tup ds=>.tuple (D.pys ds)|.ref _=>.none|.fn _=>.none|.clo _ _ _ _=>.none|.ktup _=>.none
noncomputable def D.pys:List D->List Ai
 |[]=>[]
 |d::r=>d.py::D.pys r
end
mutual
noncomputable def D.pure:D->Bool
 |.tup ds=>D.pures ds
 |.ref _=>AE
 |.fn _=>AE
 |.clo _ _ _ _=>AE
 |.ktup _=>AE
 |.str x=>Ep (.str x)
 |_=>AD
noncomputable def D.pures:List D->Bool
 |[]=>AD
 |d::r=>d.pure&&D.pures r
end
abbrev kD:Key->D
 |.inl i=>.int i
 |.inr x=>.str x
abbrev deq(d e:D):Bool:=At d.py e.py
abbrev l6(d:D):Nat:=d.py.depth
@[reducible]noncomputable def Spec:=List D->Sto->DK->Prop
structure Sg where
 F:Str->Bool
 Phi:Str->Spec
 G:Str->List (Str×D)
 C:Str->List Str
 Mk:Str->Spec
 MF:Str->Bool
 PhiC:Nat->List Str->Ss->List D->Spec
 Kc:Str->Option D
@[inline]def f6(c m:Str):Str:=⟨c.cps++#[46]++m.cps⟩
abbrev t4(C:Str->List Str)(f:Str):Option Int:=match C ⟨#[33]++f.cps⟩with
 |[]=>AF
 |_::l=>AA (l.length:Nat)
abbrev l0(f:Str)(d:D):List (Str×D)->List (Str×D)
 |[]=>[(f,d)]
 |(g,e)::r=>if g=f then(g,d)::r else(g,e)::l0 f d r
abbrev V0(Z:Sg)(ta:Sto->(List D->Sto->Prop)->Prop)(st:Sto)(Q:DK):D->Prop
 |.fn f=>Z.F f=AD/\ta st λds st1=>Z.Phi f ds st1 Q
 |.clo np N b cs=>ta st λds st1=>Z.PhiC np N b cs ds st1 Q
 |_=>False
abbrev L8(env:j6):List Nat->Option (List D)
 |[]=>AA []
 |i::is=>match env[i]?,L8 env is with
  |some (AA d),AA ds=>AA (d::ds)
  |_,_=>AF
abbrev Q7(i j:Int):Prop:=au1 i j\/(i.natAbs<2^20000/\j.natAbs<2^20000)
abbrev D4(kvs:List (Key×D))(k:Key):Option D:=(kvs.find? λkv=>AB (kv.1=k)).map (·.2)
abbrev B0:Ez->D->D->Sto->DK->Prop
 |.Add,.int i,.int j,st,Q=>Q (.int (i+j)) st
 |.Add,.tup xs,.tup ys,st,Q=>xs.length+ys.length<=sizeLine/\Q (.tup (xs++ys)) st
 |.Add,.ref a,.ref b,st,Q=>∃xs ys,st a=AA (.lst xs)/\st b=AA (.lst ys)/\xs.length+ys.length<=sizeLine/\∀p,st p=AF->Q (.ref p) (b0 st p (.lst (xs++ys)))
 |.Sub,.int i,.int j,st,Q=>Q (.int (i-j)) st
 |.Mult,.int i,.int j,st,Q=>Q7 i j/\Q (.int (i*j)) st
 |.Mult,.tup xs,.int k,st,Q=>xs≠[]/\1<=k/\k<2^62/\xs.length*k.toNat<=sizeLine/\Q (.tup (Al k.toNat xs).flatten) st
 |.Mod,.int i,.int j,st,Q=>0<j/\Q (.int (i % j)) st
 |.FloorDiv,.int i,.int j,st,Q=>ar0 i j/\Q (.int (i / j)) st
 |.Pow,.int i,.int j,st,Q=>au0 i j/\Q (.int (i^j.toNat)) st
 |_,_,_,_,_=>False
abbrev o9:Dn->D->D->Sto->DK->Prop
 |.Eq,x,y,st,Q=>x.pure=AD/\y.pure=AD/\EL (l6 x) (l6 y)<=150/\Q (.bl (deq x y)) st
 |.NotEq,x,y,st,Q=>x.pure=AD/\y.pure=AD/\EL (l6 x) (l6 y)<=150/\Q (.bl (!deq x y)) st
 |.Lt,.int i,.int j,st,Q=>Q (.bl (AB (i<j))) st
 |.LtE,.int i,.int j,st,Q=>Q (.bl (AB (i<=j))) st
 |.Gt,.int i,.int j,st,Q=>Q (.bl (AB (j<i))) st
 |.GtE,.int i,.int j,st,Q=>Q (.bl (AB (j<=i))) st
 |.In,x,.tup ys,st,Q=>x.pure=AD/\D.pures ys=AD/\l6 x<=150/\Q (.bl (ys.any λy=>deq y x)) st
 |.NotIn,x,.tup ys,st,Q=>x.pure=AD/\D.pures ys=AD/\l6 x<=150/\Q (.bl (!ys.any λy=>deq y x)) st
 |.In,.int i,.ktup ks,st,Q=>Q (.bl (ks.any λk=>AB (k=.inl i))) st
 |.NotIn,.str w,.ktup ks,st,Q=>(D.str w).pure=AD/\Q (.bl (!ks.any λk=>AB (k=.inr w))) st
 |.In,.str w,.ref a,st,Q=>∃kvs,st a=AA (.dct kvs)/\Q (.bl (D4 kvs (.inr w)).isSome) st
 |.NotIn,.int i,.ref a,st,Q=>∃kvs,st a=AA (.dct kvs)/\Q (.bl (!(D4 kvs (.inl i)).isSome)) st
 |.Is,.bl b,.bl c,st,Q=>Q (.bl (b==c)) st
 |.IsNot,.bl b,.bl c,st,Q=>Q (.bl (b != c)) st
 |_,_,_,_,_=>False
abbrev ixR:D->D->Sto->DK->Prop
 |.tup ds,.int i,st,Q=>∃d,atI ds i=AA d/\Q d st
 |.ref a,.int i,st,Q=>(∃ds d,rdS st a ds/\atI ds i=AA d/\Q d st)\/∃kvs d,st a=AA (.dct kvs)/\D4 kvs (.inl i)=AA d/\Q d st
 |.ref a,.str w,st,Q=>∃kvs d,st a=AA (.dct kvs)/\D4 kvs (.inr w)=AA d/\Q d st
 |.str w,.int i,st,Q=>∃c,w.length<=sizeLine/\atI w.cps.toList i=AA c/\Q (.str ⟨#[c]⟩) st
 |_,_,_,_=>False
abbrev z5(xs:List D)(lo hi:Option Int):List D:=(xs.drop (HT.sIx xs.length 0 lo)).take (HT.sIx xs.length xs.length hi-HT.sIx xs.length 0 lo)
abbrev slR:D->Option Int->Option Int->Sto->DK->Prop
 |.tup ds,lo,hi,st,Q=>¬(HT.sIx ds.length 0 lo=0/\HT.sIx ds.length ds.length hi=ds.length)/\Q (.tup (z5 ds lo hi)) st
 |.ref a,lo,hi,st,Q=>∃ds,rdS st a ds/\∀p,st p=AF->Q (.ref p) (b0 st p (.lst (z5 ds lo hi)))
 |_,_,_,_,_=>False
abbrev u3:List (Str×D)->Str->Option D
 |[],_=>AF
 |(k,d)::r,x=>if k=x then AA d else u3 r x
abbrev R1:D->Sto->DK->Prop
 |.tup ds,st,Q=>Q (.int ds.length) st
 |.ref a,st,Q=>∃ds,rdS st a ds/\Q (.int ds.length) st
 |_,_,_=>False
abbrev X4:D->Sto->DK->Prop
 |.bl b,st,Q=>Q (.int (if b then 1 else 0)) st
 |.int i,st,Q=>Q (.int i) st
 |_,_,_=>False
abbrev X7:D->Sto->DK->Prop
 |.tup ds,st,Q=>∀p,st p=AF->Q (.ref p) (b0 st p (.lst ds))
 |.ref a,st,Q=>∃ds,rdS st a ds/\∀p,st p=AF->Q (.ref p) (b0 st p (.lst ds))
 |_,_,_=>False
abbrev T7:D->Sto->DK->Prop
 |.tup ds,st,Q=>Q (.tup ds) st
 |.ref a,st,Q=>∃ds,rdS st a ds/\Q (.tup ds) st
 |_,_,_=>False
abbrev as2:D->Sto->DK->Prop
 |.ref a,st,Q=>∃bs:List Bool,rdS st a (bs.map D.bl)/\Q (.bl (bs.any id)) st
 |_,_,_=>False
abbrev ba6:D->Sto->DK->Prop
 |.ref a,st,Q=>∃ds,rdS st a ds/\Q (.bl AD) st
 |_,_,_=>False
abbrev F5(xs ys:List D):List D:=(xs.zip ys).map λp=>.tup [p.1,p.2]
abbrev ap4:D->D->Sto->DK->Prop
 |.ref a,.int i,st,Q=>(-(2^62)<=i/\i<2^62)/\∃ds k d,st a=AA (.lst ds)/\ixN ds.length i=AA k/\ds[k]?=AA d/\Q d (b0 st a (.lst (ds.eraseIdx k)))
 |_,_,_,_=>False
abbrev Z3:D->Sto->DK->Prop
 |.ref a,st,Q=>∃ds d,st a=AA (.lst (ds++[d]))/\Q d (b0 st a (.lst ds))
 |_,_,_=>False
abbrev Y8:D->Sto->DK->Prop
 |.ref a,st,Q=>∃ds,st a=AA (.lst ds)/\Q .non (b0 st a (.lst ds.reverse))
 |_,_,_=>False
abbrev B6(kvs:List (Ai×D))(k:Ai):Option D:=(kvs.find? λkv=>AB (kv.1=k)).map (·.2)
abbrev V5(kvs:List (Ai×D))(k:Ai)(v:D):List (Ai×D):=
 if(kvs.any λkv=>AB (kv.1=k))=AD then kvs.map (λkv=>if kv.1=k then(kv.1,v)else kv)else kvs++[(k,v)]
abbrev D.key(d:D):Prop:=NK.lit d.py=AD/\d.py.depth<=7
abbrev ad3:D->Option Int->Option Int->Sto->DK->Prop
 |.tup ds,lo,hi,st,Q=>Q (.tup (z5 ds lo hi)) st
 |_,_,_,_,_=>False
abbrev at7:D->Sto->Prop
 |.ref a,st=>∃kvs,st a=AA (.dtt kvs)
 |_,_=>False
abbrev as4:D->D->Sto->DK->Prop
 |.ref a,.tup ks,st,Q=>∃kvs,st a=AA (.dtt kvs)/\D.key (.tup ks)/\Q ((B6 kvs (D.tup ks).py).getD .non) st
 |_,_,_,_=>False
abbrev R3(ne:Bool):D->D->Sto->DK->Prop
 |.non,.ref a,st,Q=>st a=AA (.dtt [])/\Q (.bl ne) st
 |.tup ks,.ref a,st,Q=>∃kvs,st a=AA (.dtt kvs)/\D.key (.tup ks)/\Q (.bl (ne != (B6 kvs (D.tup ks).py).isSome)) st
 |_,_,_,_=>False
abbrev ar5:D->D->D->Sto->(Sto->Prop)->Prop
 |.ref a,.tup ks,d,st,K=>∃kvs,st a=AA (.dtt kvs)/\D.key (.tup ks)/\kvs.length<sizeLine/\K (b0 st a (.dtt (V5 kvs (D.tup ks).py d)))
 |_,_,_,_,_=>False
abbrev aq4:D->D->D->Sto->(Sto->Prop)->Prop
 |.ref a,.int i,d,st,K=>∃kvs,st a=AA (.dct kvs)/\D4 kvs (.inl i)=AF/\kvs.length<sizeLine/\K (b0 st a (.dct (kvs++[(.inl i,d)])))
 |_,_,_,_,_=>False
abbrev Y9:D->D->Sto->DK->Prop
 |.ref a,d,st,Q=>∃ds,st a=AA (.lst ds)/\ds.length<sizeLine/\Q .non (b0 st a (.lst (ds++[d])))
 |_,_,_,_=>False
abbrev V6:D->D->Sto->DK->Prop
 |.ref a,.ref b,st,Q=>∃ds es,st a=AA (.lst ds)/\st b=AA (.lst es)/\ds.length+es.length<=sizeLine/\Q .non (b0 st a (.lst (ds++es)))
 |.ref a,.tup es,st,Q=>∃ds,st a=AA (.lst ds)/\ds.length+es.length<=sizeLine/\Q .non (b0 st a (.lst (ds++es)))
 |_,_,_,_=>False
abbrev C6:D->Sto->Prop
 |.ref a,st=>∃ds,rdS st a ds
 |_,_=>False
abbrev c73:D->Sto->Prop
 |.tup _,_=>True
 |.ref a,st=>∃ds,rdS st a ds
 |_,_=>False
abbrev tyD:D->Sto->Option String
 |.non,_=>AA "NoneType"|.bl _,_=>AA "bool"|.int _,_=>AA "int"|.str _,_=>AA "str"|.tup _,_=>AA "tuple"|.ktup _,_=>AA "tuple"
 |_,_=>AF
abbrev Q3(ne:Bool):D->D->Sto->DK->Prop
 |.ktup ks,.tup ds,st,Q=>ds=ks.map kD/\Q (.bl (!ne)) st
 |_,_,_,_=>False
abbrev Y0(t:String)(d:D)(st:Sto)(Q:DK):Prop:=(∃ty,tyD d st=AA ty/\Q (.bl (ty==t||(ty=="bool"&&t=="int"))) st)\/∃a ds,d=.ref a/\rdS st a ds/\Q (.bl (t=="list")) st
abbrev Q0:j6->List Nat->List D->j6
 |env,i::is,d::ds=>Q0 (env.set i (AA d)) is ds
 |env,_,_=>env
abbrev D6:Tg->D->j6->(j6->Prop)->Prop
 |.n i,d,env,k=>k (env.set i (AA d))
 |.tup is,d,env,k=>∃ds,d=.tup ds/\ds.length=is.length/\k (Q0 env is ds)
abbrev p5(lo:Int)(n:Nat):List D:=(DY n).map λi=>.int (lo+(i:Nat))
abbrev r6:Nat->List D->List D
 |_,[]=>[]
 |i,d::ds=>.tup [.int i,d]::r6 (i+1) ds
abbrev A0(chk:Sto->Prop)(t:Tg)(tc:DB)(te:DT)(Q:List D->Sto->Prop):List D->List D->j6->Sto->Prop
 |[],acc,_,st=>chk st/\Q acc st
 |d::ds,acc,env,st=>chk st/\D6 t d env λenv'=>tc env' st λb st1=>
   if b=AD then te env' st1 λv st2=>A0 chk t tc te Q ds (acc++[v]) env' st2
   else A0 chk t tc te Q ds acc env' st1
abbrev O9(fr:List Nat)(k:Nat)(env:j6):j6:=(fr.map λj=>(env[j]?).join)++Al k AF
abbrev E.isNon:E->Bool
 |.non=>AD
 |_=>AE
@[reducible]noncomputable def ItK:=List D->(Sto->Prop)->Sto->Prop
mutual
noncomputable def wpE(Z:Sg):E->DT
 |.non=>λ_ st Q=>Q .non st
 |.bl b=>λ_ st Q=>Q (.bl b) st
 |.int i=>λ_ st Q=>Q (.int i) st
 |.str x=>λ_ st Q=>Q (.str x) st
 |.v i=>λenv st Q=>∃d,env[i]?=AA (AA d)/\Q d st
 |.tup es=>λenv st Q=>u0 Z es env st λds st1=>Q (.tup ds) st1
 |.lst es=>λenv st Q=>u0 Z es env st λds st1=>∀p,st1 p=AF->Q (.ref p) (b0 st1 p (.lst ds))
 |.bin o a b=>λenv st Q=>wpE Z a env st λx st1=>wpE Z b env st1 λy st2=>B0 o x y st2 Q
 |.neg a=>λenv st Q=>wpE Z a env st λx st1=>∃i,x=.int i/\Q (.int (-i)) st1
 |.cmp o a b=>λenv st Q=>wpE Z a env st λx st1=>wpE Z b env st1 λy st2=>o9 o x y st2 Q
 |.isN a=>λenv st Q=>wpE Z a env st λx st1=>(x=.non/\Q (.bl AD) st1)\/(x≠.non/\Q (.bl AE) st1)
 |.notN a=>λenv st Q=>wpE Z a env st λx st1=>(x=.non/\Q (.bl AE) st1)\/(x≠.non/\Q (.bl AD) st1)
 |.and a b=>λenv st Q=>wpE Z a env st λx st1=>∃c,x=.bl c/\(if c=AD then wpE Z b env st1 Q else Q (.bl AE) st1)
 |.or a b=>λenv st Q=>wpE Z a env st λx st1=>∃c,x=.bl c/\(if c=AD then Q (.bl AD) st1 else wpE Z b env st1 Q)
 |.not a=>λenv st Q=>wpE Z a env st λx st1=>∃c,x=.bl c/\Q (.bl (!c)) st1
 |.ite c a b=>λenv st Q=>wpE Z c env st λx st1=>∃k,x=.bl k/\(if k=AD then wpE Z a env st1 Q else wpE Z b env st1 Q)
 |.ix a b=>λenv st Q=>wpE Z a env st λx st1=>wpE Z b env st1 λy st2=>ixR x y st2 Q
 |.sl a lo hi=>λenv st Q=>wpE Z a env st λx st1=>
   (if lo.isNon=AD then λk=>k AF st1 else λ(k:Option Int->Sto->Prop)=>wpE Z lo env st1 λd st'=>∃i,d=.int i/\k (AA i) st') λl st2=>
   (if hi.isNon=AD then λk=>k AF st2 else λ(k:Option Int->Sto->Prop)=>wpE Z hi env st2 λd st'=>∃i,d=.int i/\k (AA i) st') λh st3=>slR x l h st3 Q
 |.slw a lo hi=>λenv st Q=>wpE Z a env st λx st1=>
   (if lo.isNon=AD then λk=>k AF st1 else λ(k:Option Int->Sto->Prop)=>wpE Z lo env st1 λd st'=>∃i,d=.int i/\k (AA i) st') λl st2=>
   (if hi.isNon=AD then λk=>k AF st2 else λ(k:Option Int->Sto->Prop)=>wpE Z hi env st2 λd st'=>∃i,d=.int i/\k (AA i) st') λh st3=>ad3 x l h st3 Q
 |.gget g k d=>λenv st Q=>Z.G g≠[]/\wpE Z k env st λx st1=>wpE Z d env st1 λy st2=>∃w,x=.str w/\Q ((u3 (Z.G g) w).getD y) st2
 |.gsel g k=>λenv st Q=>Z.G g≠[]/\wpE Z k env st λx st1=>∃w d,x=.str w/\u3 (Z.G g) w=AA d/\Q d st1
 |.len a=>λenv st Q=>wpE Z a env st λx st1=>R1 x st1 Q
 |.toInt a=>λenv st Q=>wpE Z a env st λx st1=>X4 x st1 Q
 |.list a=>λenv st Q=>wpE Z a env st λx st1=>X7 x st1 Q
 |.tuple a=>λenv st Q=>wpE Z a env st λx st1=>T7 x st1 Q
 |.max a b=>λenv st Q=>wpE Z a env st λx st1=>wpE Z b env st1 λy st2=>∃i j,x=.int i/\y=.int j/\Q (.int (if j>i then j else i)) st2
 |.min a b=>λenv st Q=>wpE Z a env st λx st1=>wpE Z b env st1 λy st2=>∃i j,x=.int i/\y=.int j/\Q (.int (if j<i then j else i)) st2
 |.lzip a b=>λenv st Q=>wpE Z a env st λx st1=>wpE Z b env st1 λy st2=>∃xs ys,x=.tup xs/\y=.tup ys/\min xs.length ys.length<=1000000/\∀p,st2 p=AF->Q (.ref p) (b0 st2 p (.lst (F5 xs ys)))
 |.call f es=>λenv st Q=>Z.F f=AD/\u0 Z es env st λds st1=>Z.Phi f ds st1 Q
 |.calln f es=>λenv st Q=>Z.F f=AD/\t4 Z.C f=AA 0/\u0 Z es env st λds st1=>Z.Phi f (ds++[.non]) st1 Q
 |.gf f=>λ_ st Q=>Z.F f=AD/\Q (.fn f) st
 |.callx c es=>λenv st Q=>wpE Z c env st λx st1=>∃f,x=.fn f/\Z.F f=AD/\u0 Z es env st1 λds st2=>Z.Phi f ds st2 Q
 |.callv i es=>λenv st Q=>∃x,env[i]?=AA (AA x)/\V0 Z (u0 Z es env) st Q x
 |.gc g=>λ_ st Q=>∃d,Z.Kc g=AA d/\Q d st
 |.isT t a=>λenv st Q=>wpE Z a env st λx st1=>Y0 t x st1 Q
 |.cmpl ne a b=>λenv st Q=>wpE Z a env st λx st1=>wpE Z b env st1 λy st2=>Q3 ne x y st2 Q
 |.fld a f=>λenv st Q=>wpE Z a env st λx st1=>∃p c fs d,x=.ref p/\st1 p=AA (.ins c fs)/\f∈Z.C c/\fs.lookup f=AA d/\Q d st1
 |.meth a m es=>λenv st Q=>wpE Z a env st λx st1=>∃p c fs,x=.ref p/\st1 p=AA (.ins c fs)/\fs.lookup m=AF/\Z.F (f6 c m)=AD/\u0 Z es env st1 λds st2=>Z.Phi (f6 c m) (.ref p::ds) st2 Q
 |.methd a m es=>λenv st Q=>wpE Z a env st λx st1=>∃p c fs i,x=.ref p/\st1 p=AA (.ins c fs)/\fs.lookup m=AF/\Z.F (f6 c m)=AD/\t4 Z.C (f6 c m)=AA i/\u0 Z es env st1 λds st2=>Z.Phi (f6 c m) (.ref p::(ds++[.int i])) st2 Q
 |.make c es=>λenv st Q=>Z.MF (f6 c "__init__")=AD/\u0 Z es env st λds st1=>∀p,st1 p=AF->Z.Mk (f6 c "__init__") (.ref p::ds) (b0 st1 p (.ins c [])) λv st2=>v=.non/\Q (.ref p) st2
 |.app a b=>λenv st Q=>wpE Z a env st λx st1=>C6 x st1/\wpE Z b env st1 λy st2=>Y9 x y st2 Q
 |.ext a b=>λenv st Q=>wpE Z a env st λx st1=>C6 x st1/\wpE Z b env st1 λy st2=>V6 x y st2 Q
 |.popAt a b=>λenv st Q=>wpE Z a env st λx st1=>C6 x st1/\wpE Z b env st1 λy st2=>ap4 x y st2 Q
 |.pop a=>λenv st Q=>wpE Z a env st λx st1=>Z3 x st1 Q
 |.any a=>λenv st Q=>wpE Z a env st λx st1=>as2 x st1 Q
 |.dnt=>λenv st Q=>Z.C "!kt"≠[]/\∀p,st p=AF->Q (.ref p) (b0 st p (.dtt []))
 |.dgt a k=>λenv st Q=>wpE Z a env st λx st1=>at7 x st1/\wpE Z k env st1 λy st2=>as4 x y st2 Q
 |.din ne k a=>λenv st Q=>wpE Z k env st λy st1=>wpE Z a env st1 λx st2=>R3 ne y x st2 Q
 |.lrev a=>λenv st Q=>wpE Z a env st λx st1=>Y8 x st1 Q
 |.comp _ fr k t it c e=>λenv st Q=>A7 Z it env st λitems chk st1=>items.length<=1000000 /\
   A0 chk t (if c.isNon=AD then λ_ st Q=>Q AD st else λenv st Q=>wpE Z c env st λd st'=>∃b,d=.bl b/\Q b st') (λenv st Q=>wpE Z e env st Q) (λacc st'=>∀p,st' p=AF->Q (.ref p) (b0 st' p (.lst acc))) items [] (O9 fr k env) st1
noncomputable def u0(Z:Sg):Es->DA
 |.nil=>λ_ st Q=>Q [] st
 |.cons e r=>λenv st Q=>wpE Z e env st λd st1=>u0 Z r env st1 λds st2=>Q (d::ds) st2
noncomputable def A7(Z:Sg):It->j6->Sto->ItK->Prop
 |.seq e=>λenv st k=>wpE Z e env st λd st1=>(∃ds,d=.tup ds/\k ds (λ_=>True) st1)\/(∃a ds,d=.ref a/\rdS st1 a ds/\k ds (λst'=>rdS st' a ds) st1)
 |.rng a=>λenv st k=>wpE Z a env st λd st1=>∃j:Int,d=.int j/\(-(2^62)<=j/\j<2^62)/\k (p5 0 j.toNat) (λ_=>True) st1
 |.rng2 a b=>λenv st k=>wpE Z a env st λd st1=>wpE Z b env st1 λe st2=>∃i j:Int,d=.int i/\e=.int j/\(-(2^62)<=i/\i<2^62/\-(2^62)<=j/\j<2^62)/\k (p5 i (j-i).toNat) (λ_=>True) st2
 |.enum e=>λenv st k=>wpE Z e env st λd st1=>(∃ds,d=.tup ds/\k (r6 0 ds) (λ_=>True) st1)\/(∃a ds,d=.ref a/\rdS st1 a ds/\k (r6 0 ds) (λst'=>rdS st' a ds) st1)
 |.revt e=>λenv st k=>wpE Z e env st λd st1=>∃ds,d=.tup ds/\k ds.reverse (λ_=>True) st1
 |.rev e=>λenv st k=>wpE Z e env st λd st1=>∃a ds,d=.ref a/\rdS st1 a ds/\k ds.reverse (λst'=>rdS st' a ds) st1
end
abbrev wpT(Z:Sg)(e:E):DB:=λenv st Q=>wpE Z e env st λd st'=>∃b,d=.bl b/\Q b st'
structure DEnds where
 nx:j6->Sto->Prop
 rt:DK
 bk:j6->Sto->Prop:=λ_ _=>False
 ct:j6->Sto->Prop:=λ_ _=>False
@[reducible]noncomputable def DS:=DEnds->j6->Sto->Prop
abbrev y6(chk:Sto->Prop)(t:Tg)(tb:DS)(F:DEnds):List D->j6->Sto->Prop
 |[],env,st=>chk st/\F.nx env st
 |d::ds,env,st=>chk st/\D6 t d env λenv'=>tb {F with nx:=y6 chk t tb F ds,ct:=y6 chk t tb F ds,bk:=F.nx} env' st
abbrev z8(tc:DB)(tb:DS)(F:DEnds):Nat->j6->Sto->Prop
 |0,_,_=>False
 |n+1,env,st=>tc env st λb st1=>if b=AD then tb {F with nx:=z8 tc tb F n,ct:=z8 tc tb F n,bk:=F.nx} env st1 else F.nx env st1
mutual
noncomputable def wpS(Z:Sg):S->DS
 |.set i e=>λF env st=>wpE Z e env st λd st1=>F.nx (env.set i (AA d)) st1
 |.pre i=>λF env st=>∀p,st p=AF->F.nx (env.set i (AA (.ref p))) (b0 st p (.dct []))
 |.iput o i v=>λF env st=>wpE Z v env st λd st1=>wpE Z o env st1 λx st2=>wpE Z i env st2 λy st3=>aq4 x y d st3 λst4=>F.nx env st4
 |.dput o i v=>λF env st=>wpE Z v env st λd st1=>wpE Z o env st1 λx st2=>wpE Z i env st2 λy st3=>ar5 x y d st3 λst4=>F.nx env st4
 |.put o i v=>λF env st=>wpE Z v env st λd st1=>wpE Z o env st1 λx st2=>wpE Z i env st2 λy st3=>
   ∃a j k ds,x=.ref a/\y=.int j/\st3 a=AA (.lst ds)/\ixN ds.length j=AA k/\F.nx env (b0 st3 a (.lst (ds.set k d)))
 |.fldS o f v=>λF env st=>wpE Z v env st λd st1=>wpE Z o env st1 λx st2=>∃p c fs,x=.ref p/\st2 p=AA (.ins c fs)/\f∈Z.C c/\fs.length<1000/\F.nx env (b0 st2 p (.ins c (l0 f d fs)))
 |.unp is e=>λF env st=>wpE Z e env st λd st1=>D6 (.tup is) d env λenv'=>F.nx env' st1
 |.ex e=>λF env st=>wpE Z e env st λ_ st1=>F.nx env st1
 |.iff c a b=>λF env st=>wpT Z c env st λk st1=>if k=AD then j7 Z a F env st1 else j7 Z b F env st1
 |.ret e=>λF env st=>wpE Z e env st F.rt
 |.retN=>λF _ st=>F.rt .non st
 |.for t it b=>λF env st=>A7 Z it env st λitems chk st1=>y6 chk t (j7 Z b) F items env st1
 |.while c b=>λF env st=>∃n,z8 (wpT Z c) (j7 Z b) F n env st
 |.tr b=>j7 Z b
 |.cont=>λF env st=>F.ct env st
 |.dead=>λ_ _ _=>False
 |.pass=>λF env st=>F.nx env st
 |.dfn i np N cp b=>λF env st=>∃cs,L8 env cp=AA cs/\F.nx (env.set i (AA (.clo np N b cs))) st
noncomputable def j7(Z:Sg):Ss->DS
 |.nil=>λF env st=>F.nx env st
 |.cons s r=>λF env st=>wpS Z s {F with nx:=j7 Z r F} env st
end
structure Def where
 np:Nat
 N:List Str
 body:Ss
@[reducible]noncomputable def i8:=Str->Option Def
abbrev ac7(f:Def)(ds:List D):j6:=ds.map AA++Al (f.N.length-ds.length) AF
structure Gs where
 tab:Str->List (Str×D)
 cls:Str->List Str
 cst:Str->Option D
abbrev bl3(P:i8)(G:Gs)(lo lo2:Str->Spec)(po:Bool)(lc:Nat->List Str->Ss->List D->Spec)(f:Str):Spec:=λds st Q=>∃fd,P f=AA fd/\ds.length=fd.np/\j7 ⟨λf=>(P f).isSome,lo,G.tab,G.cls,lo2,λf=>po&&(P f).isSome,lc,G.cst⟩ fd.body
   {nx:=λ_ st'=>∃s2,Sub s2 st'/\Q .non s2,rt:=λd st'=>∃s2,Sub s2 st'/\Q d s2} (ac7 fd ds) st
abbrev N4(N:List Str)(ds cs:List D):j6:=(ds++cs).map AA++Al (N.length-(ds++cs).length) AF
abbrev bl6(P:i8)(G:Gs)(lo lo2:Str->Spec)(po:Bool)(lc:Nat->List Str->Ss->List D->Spec)(np:Nat)(N:List Str)(b:Ss)(cs:List D):Spec:=λds st Q=>ds.length=np/\j7 ⟨λf=>(P f).isSome,lo,G.tab,G.cls,lo2,λf=>po&&(P f).isSome,lc,G.cst⟩ b
   {nx:=λ_ st'=>∃s2,Sub s2 st'/\Q .non s2,rt:=λd st'=>∃s2,Sub s2 st'/\Q d s2} (N4 N ds cs) st
abbrev w8(P:i8)(G:Gs):Nat->(Str->Spec)×(Str->Spec)×Bool×(Nat->List Str->Ss->List D->Spec)
 |0=>(λ_ _ _ _=>False,λ_ _ _ _=>False,AE,λ_ _ _ _ _ _ _=>False)
 |n+1=>(bl3 P G (w8 P G n).1 (w8 P G n).2.1 (w8 P G n).2.2.1 (w8 P G n).2.2.2,(w8 P G n).1,AD,bl6 P G (w8 P G n).1 (w8 P G n).2.1 (w8 P G n).2.2.1 (w8 P G n).2.2.2)
abbrev sem(P:i8)(G:Gs)(n:Nat):Str->Spec:=(w8 P G n).1
abbrev L6(P:i8)(G:Gs)(n:Nat):Nat->List Str->Ss->List D->Spec:=(w8 P G n).2.2.2
def b30{P:i8}{G:Gs}{n:Nat}:sem P G (n+1)=bl3 P G (sem P G n) (w8 P G n).2.1 (w8 P G n).2.2.1 (L6 P G n):=rfl
def bu2{P:i8}{G:Gs}{n:Nat}:L6 P G (n+1)=bl6 P G (sem P G n) (w8 P G n).2.1 (w8 P G n).2.2.1 (L6 P G n):=rfl
class Tbs where
 ps:List AH
 mt:Ss->BH->List Str->De->Prop
 kt:Bool
variable{H:Hp}{a p:AH}{xs vs:List V}{v:V}{ds:List D}{o:HO}{σ:L2.St}{st:Sto}{kvs:List (Ai×D)}{ob:Ob}{X:Cx}{x:AT}{Qd:DK}{Q:VK}
structure FnScC(N P:List Str)(sc:BH):Prop where
 kind:sc.kind=.function
 co:sc.isCoroutine=AE
 gen:sc.isGenerator=AE
 nd:N.Nodup
 pre:N.take P.length=P
 par:∀x∈P,sc.names.lookup x=AA .local
 nocell:∀y∈sc.names,y.2≠.cell
 fre:∀y∈sc.names,y.2=.free->sc.names.lookup y.1=AA .free
abbrev N6(H:Hp)(cv:AG):Prop:=∃c o u vs q t,cv=.ref c/\H c=AA (.frz o u)/\(∀vs,u≠.lst vs)/\o.data=.fields vs/\vs[1]?=AA (.str q t)
variable [Tbs]
structure CloF(fd:Bi)(np:Nat)(N ps:List Str)(b:Ss):Prop where
 sc:FnScC N ps fd.scope
 np:ps.length=np
 mt:Tbs.mt b fd.scope N fd.body
 bind:∀us:List AG,us.length=ps.length->EU fd ⟨us,[]⟩=pure (ps.zip us)
 gl:fd.globals=AO
 bl:fd.builtins=Cu
 has:∀x,(x,BA)∈fd.scope.names->∃c,fd.closure.lookup x=AA c
 fre:∀x c,fd.closure.lookup x=AA c->(x,BA)∈fd.scope.names
 inj:∀x y c,fd.closure.lookup x=AA c->fd.closure.lookup y=AA c->x=y
structure CloR(H:Hp)(f:AH)(fd:Bi)(np:Nat)(N:List Str)(us:List V):Prop where
 ex:∃o u,H f=AA (.frz o u)/\(∀vs,u≠.lst vs)/\o.data=.func fd
 cd:N6 H fd.code
 cl:∀x c,fd.closure.lookup x=AA c->∃o' u' w,H c=AA (.frz o' u')/\(∀vs,u'≠.lst vs)/\o'.data=.cell (AA w)
 at':∀(i:Nat)v,us[i]?=AA v->∃x c o' u' w,N[np+i]?=AA x/\fd.closure.lookup x=AA c/\H c=AA (.frz o' u')/\(∀vs,u'≠.lst vs)/\o'.data=.cell (AA w)/\i6 v w
abbrev Y1(H:Hp)(f:AH)(np:Nat)(N:List Str)(b:Ss)(us:List V):Prop:=∃fd ps,CloF fd np N ps b/\CloR H f fd np N us
abbrev SqX(K:AQ)(H:Hp)(a:AH)(xs:List V):Prop:=H a=AA (.tup xs)\/(Tbs.kt=AD/\SqT K H a xs)
def SqX.sqt{K:AQ}(h:SqX K H a xs):SqT K H a xs:=h.elim (λh=>.inl (.inl h)) λh=>h.2
def SqX.of{K:AQ}(h:H a=AA (.tup xs)):SqX K H a xs:=.inl h
def SqX.trk{K:AQ}(b:Tbs.kt=AE)(h:SqX K H a xs):H a=AA (.tup xs):=h.elim (λh=>h) λh=>by rw[b]at h;exact absurd h.1 ∅
inductive IsD(K:AQ)(H:Hp):D->V->Prop where
 |non:IsD K H .non .non
 |bl (b:Bool):IsD K H (.bl b) (.bl b)
 |int (i:Int):IsD K H (.int i) (.int i)
 |str (x:Str):IsD K H (.str x) (.str x)
 |ref (a:AH):IsD K H (.ref a) (.ref a)
 |fn {f:Str} {a:AH}:Ay K AO f=AA (AA (.ref a))->IsD K H (.fn f) (.ref a)
 |clo {f:AH} {np:Nat} {N:List Str} {b:Ss} {ds:List D} {us:List V}:Y1 H f np N b us->ds.length=us.length->(∀(i:Nat)d v,ds[i]?=AA d->us[i]?=AA v->IsD K H d v)->IsD K H (.clo np N b ds) (.ref f)
 |tup {a:AH} {ds:List D} {vs:List V}:SqX K H a vs->ds.length=vs.length->(∀(i:Nat)d v,ds[i]?=AA d->vs[i]?=AA v->IsD K H d v)->IsD K H (.tup ds) (.ref a)
 |ktup {a:AH} {ks:List Key}:SqT K (λ_=>AF) a (ks.map kV)->D.pures (ks.map kD)=AD->IsD K H (.ktup ks) (.ref a)
structure IsDs(K:AQ)(H:Hp)(ds:List D)(vs:List V):Prop where
 len:ds.length=vs.length
 at':∀(i:Nat)d v,ds[i]?=AA d->vs[i]?=AA v->IsD K H d v
section
variable {K:AQ} {H' H2:Hp} {d:D} {es:List D} {ws:List V}
def IsD.mk(h:SqX K H a vs)(r:IsDs K H ds vs):IsD K H (.tup ds) (.ref a):=.tup h r.len r.at'
def IsD.tup_invX(h:IsD K H (.tup ds) v):∃a d,v=.ref a/\SqX K H a d/\IsDs K H ds d:=by
 cases h with
 |tup a b c=>exact⟨_,_,rfl,a,⟨b,c⟩⟩
def IsD.tup_inv(h:IsD K H (.tup ds) v):∃a b,v=.ref a/\SqT K H a b/\IsDs K H ds b:=let⟨a,b,e,q,r⟩:=h.tup_invX;⟨a,b,e,q.sqt,r⟩
def IsDs.nil:IsDs K H [] []:=⟨rfl,λi d v h=>by simp at h⟩
def IsDs.cons(h:IsD K H d v)(r:IsDs K H ds vs):IsDs K H (d::ds) (v::vs):=⟨by simp[r.len],λi e w h1 h2=>by
 cases i with
 |zero=>simp at h1 h2;subst h1 h2;exact h
 |succ i=>exact r.at' i e w (by simpa using h1) (by simpa using h2)⟩
def IsDs.get(r:IsDs K H ds vs){i:Nat}{d:D}(h:ds[i]?=AA d):∃v,vs[i]?=AA v/\IsD K H d v:=by
 have a:i<ds.length:=(AY.mp h).1;rw[r.len]at a;exact⟨vs[i],AJ a,r.at' i d _ h (AJ a)⟩
def IsDs.get'(r:IsDs K H ds vs){i:Nat}(h:vs[i]?=AA v):∃d,ds[i]?=AA d/\IsD K H d v:=by
 have a:i<vs.length:=(AY.mp h).1;rw[<-r.len]at a;exact⟨ds[i],AJ a,r.at' i _ v (AJ a) h⟩
def IsDs.inv_cons{d:D}(r:IsDs K H (d::ds) vs):∃v a,vs=v::a/\IsD K H d v/\IsDs K H ds a:=by
 cases vs with
 |nil=>have:=r.len;simp at this
 |cons v a=>exact⟨v,a,rfl,r.at' 0 d v rfl rfl,⟨by have:=r.len;simpa using this,λi e w h1 h2=>r.at' (i+1) e w (by simpa using h1) (by simpa using h2)⟩⟩
def IsDs.inv_nil(r:IsDs K H [] vs):vs=[]:=by
 cases vs with
 |nil=>rfl
 |cons v c=>have:=r.len;simp at this
def IsDs.append(r:IsDs K H ds vs)(q:IsDs K H es ws):IsDs K H (ds++es) (vs++ws):=⟨by simp[r.len,q.len],λi d v h1 h2=>by
 by_cases a:i<ds.length
 ·rw[Ac a]at h1;rw[Ac (by rw[<-r.len];exact a)]at h2;exact r.at' i d v h1 h2
 ·rw[Af ⋯]at h1;rw[Af (by rw[<-r.len];lia),<-r.len]at h2;exact q.at' _ d v h1 h2⟩
theorem IsDs.drop(r:IsDs K H ds vs)(n:Nat):IsDs K H (ds.drop n) (vs.drop n):=⟨by simp[r.len],λi d v h1 h2=>by
 rw[List.getElem?_drop]at h1 h2;exact r.at' _ d v h1 h2⟩
theorem IsDs.take(r:IsDs K H ds vs)(n:Nat):IsDs K H (ds.take n) (vs.take n):=⟨by simp[r.len],λi d v h1 h2=>by
 rw[List.getElem?_take]at h1 h2
 split at h1
 ·rename_i a;rw[if_pos a]at h2;exact r.at' _ d v h1 h2
 ·cases h1⟩
theorem IsDs.set(r:IsDs K H ds vs)(h:IsD K H d v)(n:Nat):IsDs K H (ds.set n d) (vs.set n v):=⟨by simp[r.len],λi e w h1 h2=>by
 rw[Fv]at h1 h2
 by_cases a:n=i
 ·rw[if_pos a]at h1 h2
  split at h1
  ·rename_i b;rw[<-r.len,if_pos b]at h2;cases h1;cases h2;exact h
  ·cases h1
 ·rw[if_neg a]at h1 h2;exact r.at' i e w h1 h2⟩
theorem IsDs.erase:∀{b:List D}{a:List V}(r:IsDs K H b a)(n:Nat),IsDs K H (b.eraseIdx n) (a.eraseIdx n)
 |[],a,r,n=>by rw[r.inv_nil];simpa using IsDs.nil
 |d::b,a,r,n=>by
  obtain⟨v,h,rfl,g,f⟩:=r.inv_cons;cases n with
  |zero=>simpa using f
  |succ n=>simpa using IsDs.cons g (IsDs.erase f n)
theorem IsDs.rev:∀{b:List D}{a:List V}(r:IsDs K H b a),IsDs K H b.reverse a.reverse
 |[],a,r=>by rw[r.inv_nil];exact IsDs.nil
 |d::b,a,r=>by
  obtain⟨v,f,rfl,e,c⟩:=r.inv_cons;rw[Dc,Dc];exact(IsDs.rev c).append (IsDs.cons e IsDs.nil)
abbrev TK(K:AQ)(H H':Hp):Prop:=((∀a xs,SqT K H a xs->SqT K H' a xs)/\∀a xs,H a=AA (.tup xs)->H' a=AA (.tup xs))/\∀a o u,H a=AA (.frz o u)->(∀vs,u≠.lst vs)->H' a=AA (.frz o u)
def SqX.keep(h:SqX K H a xs)(k:TK K H H'):SqX K H' a xs:=h.elim (λh=>.inl (k.1.2 _ _ h)) λh=>.inr ⟨h.1,k.1.1 _ _ h.2⟩
def TK.refl:TK K H H:=⟨⟨λ_ _ h=>h,λ_ _ h=>h⟩,λ_ _ _ h _=>h⟩
def TK.trans(a:TK K H H')(b:TK K H' H2):TK K H H2:=⟨⟨λc xs h=>b.1.1 c xs (a.1.1 c xs h),λc xs h=>b.1.2 c xs (a.1.2 c xs h)⟩,λc o u h n=>b.2 c o u (a.2 c o u h n) n⟩
def TK.upd'(h:∀c,H p≠AA (.tup c))(e:∀o u,H p≠AA (.frz o u)):TK K H (upd H p o):=⟨⟨λa c q=>by
 rcases q with(q|⟨d,q⟩)|q
 ·exact .inl (.inl (by have b:a≠p:=(λz=>h c (by rw[<-z];exact q));rw[i9 b];exact q))
 ·exact .inl (.inr ⟨d,by have b:a≠p:=(λz=>e _ _ (by rw[<-z];exact q));rw[i9 b];exact q⟩)
 ·exact .inr q,λa c q=>by have b:a≠p:=(λz=>h c (by rw[<-z];exact q));rw[i9 b];exact q⟩,λa d u q n=>by have b:a≠p:=(λz=>e _ _ (by rw[<-z];exact q));rw[i9 b];exact q⟩
def TK.new(h:H p=AF):TK K H (upd H p o):=TK.upd' (by rw[h];exact λ_=>nofun) (by rw[h];exact λ_ _=>nofun)
def TK.putI{C b:AH}{a:List (Str×V)}(h:H p=AA (.ins C b a)):TK K H (upd H p o):=TK.upd' (by rw[h];exact λ_ z=>by cases z) (by rw[h];exact λ_ _ z=>by cases z)
def TK.put(h:H p=AA (.lst xs)):TK K H (upd H p o):=TK.upd' (by rw[h];exact λ_ z=>by cases z) (by rw[h];exact λ_ _ z=>by cases z)
def N6.mono{b:AG}(h:N6 H b)(k:TK K H H'):N6 H' b:=let⟨c,o,u,d,q,t,g,f,a,e⟩:=h;⟨c,o,u,d,q,t,g,k.2 _ _ _ f a,a,e⟩
theorem CloR.mono{f:AH}{fd:Bi}{g:Nat}{N:List Str}{us:List V}(h:CloR H f fd g N us)(k:TK K H H'):CloR H' f fd g N us:=by
 obtain⟨⟨o,u,r,j,q⟩,p,n,m⟩:=h;refine⟨⟨o,u,k.2 _ _ _ r j,j,q⟩,p.mono k,λx c hx=>?_,λi v hv=>?_⟩
 ·obtain⟨e,d,w,a,b,c⟩:=n x c hx;exact⟨e,d,w,k.2 _ _ _ a b,b,c⟩
 ·obtain⟨x,c,e,d,w,z,y,t,l,s⟩:=m i v hv;exact⟨x,c,e,d,w,z,y,k.2 _ _ _ t l,l,s⟩
theorem Y1.mono{f:AH}{c:Nat}{N:List Str}{b:Ss}{us:List V}(h:Y1 H f c N b us)(k:TK K H H'):Y1 H' f c N b us:=let⟨e,d,a,b⟩:=h;⟨e,d,a,b.mono k⟩
theorem IsD.mono(h:IsD K H d v)(k:TK K H H'):IsD K H' d v:=by
 induction h with
 |non=>exact .non
 |bl b=>exact .bl b
 |int i=>exact .int i
 |str x=>exact .str x
 |ref a=>exact .ref a
 |ktup h n=>exact .ktup h n
 |fn h=>exact .fn h
 |clo a b _ c=>exact .clo (a.mono k) b c
 |tup a b _ c=>exact .tup (a.keep k) b c
theorem IsDs.mono(h:IsDs K H ds vs)(k:TK K H H'):IsDs K H' ds vs:=⟨h.len,λi d v a b=>(h.at' i d v a b).mono k⟩
structure RelE(K:AQ)(H:Hp)(env:j6)(σ:L2.St):Prop where
 len:env.length=σ.length
 at':∀(i:Nat)d,env[i]?=AA (AA d)->∃v,σ[i]?=AA (AA v)/\IsD K H d v
variable {env:j6} {st':Sto}
theorem RelE.mono(r:RelE K H env σ)(k:TK K H H'):RelE K H' env σ:=⟨r.len,λi d h=>let⟨v,a,b⟩:=r.at' i d h;⟨v,a,b.mono k⟩⟩
theorem RelE.set(r:RelE K H env σ)(h:IsD K H d v)(i:Nat):RelE K H (env.set i (AA d)) (σ.set i (AA v)):=⟨by simp[r.len],λj e q=>by
 rw[Fv]at q ⊢
 by_cases a:i=j
 ·rw[if_pos a]at q ⊢
  split at q
  ·rename_i b;rw[<-r.len,if_pos b];cases q;exact⟨v,rfl,h⟩
  ·cases q
 ·rw[if_neg a]at q ⊢;exact r.at' j e q⟩
structure IsKs(K:AQ)(H:Hp)(kvs:List (Key×D))(vs:List (Key×V)):Prop where
 ks:kvs.map (·.1)=vs.map (·.1)
 ds:IsDs K H (kvs.map (·.2)) (vs.map (·.2))
theorem IsKs.mono{a:List (Key×D)}{vs:List (Key×V)}(h:IsKs K H a vs)(k:TK K H H'):IsKs K H' a vs:=⟨h.ks,h.ds.mono k⟩
theorem IsKs.inv_cons{e:Key×D}{a:List (Key×D)}{vs:List (Key×V)}(h:IsKs K H (e::a) vs):∃v b,vs=(e.1,v)::b/\IsD K H e.2 v/\IsKs K H a b:=by
 cases vs with
 |nil=>have:=h.ks;simp at this
 |cons f b=>
  obtain⟨k,v⟩:=f;have c:=h.ks;simp only[As,Aq]at c;have g:=h.ds;simp only[As]at g;obtain⟨o,j,d,n,m⟩:=g.inv_cons;simp only[Aq]at d;obtain⟨rfl,rfl⟩:=d;exact⟨v,b,by rw[c.1],n,⟨c.2,m⟩⟩
theorem IsKs.look:∀{a:List (Key×D)}{b:List (Key×V)}(h:IsKs K H a b)(k:Key),(D4 a k=AF/\t9 b k=AF)\/∃d v,D4 a k=AA d/\t9 b k=AA v/\IsD K H d v
 |[],b,h,k=>by
  have:b=[]:=by have:=h.ks;simpa using this.symm
  subst this;exact .inl ⟨rfl,rfl⟩
 |e::a,b,h,k=>by
  obtain⟨v,i,rfl,g,f⟩:=h.inv_cons;unfold D4 t9;rw[By,By]
  by_cases c:e.1=k
  ·simp only[c,decide_true];exact .inr ⟨e.2,v,rfl,rfl,g⟩
  ·simp only[c,decide_false];exact IsKs.look f k
structure IsPs(K:AQ)(H:Hp)(kvs:List (Ai×D))(vs:List (Ai×V)):Prop where
 ks:kvs.map (·.1)=vs.map (·.1)
 ds:IsDs K H (kvs.map (·.2)) (vs.map (·.2))
theorem IsPs.nil:IsPs K H [] []:=⟨rfl,.nil⟩
theorem IsPs.mono{vs:List (Ai×V)}(h:IsPs K H kvs vs)(k:TK K H H'):IsPs K H' kvs vs:=⟨h.ks,h.ds.mono k⟩
theorem IsPs.inv_cons{e:Ai×D}{vs:List (Ai×V)}(h:IsPs K H (e::kvs) vs):∃v a,vs=(e.1,v)::a/\IsD K H e.2 v/\IsPs K H kvs a:=by
 cases vs with
 |nil=>have:=h.ks;simp at this
 |cons f a=>
  obtain⟨k,v⟩:=f;have b:=h.ks;simp only[As,Aq]at b;have d:=h.ds;simp only[As]at d;obtain⟨n,i,c,m,l⟩:=d.inv_cons;simp only[Aq]at c;obtain⟨rfl,rfl⟩:=c;exact⟨v,a,by rw[b.1],m,⟨b.2,l⟩⟩
theorem IsPs.cons{k:Ai}{d:D}{vs:List (Ai×V)}(i:IsD K H d v)(h:IsPs K H kvs vs):IsPs K H ((k,d)::kvs) ((k,v)::vs):=⟨by simp[h.ks],by simpa using IsDs.cons i h.ds⟩
theorem IsPs.look:∀{a:List (Ai×D)}{b:List (Ai×V)}(h:IsPs K H a b)(k:Ai),(B6 a k=AF/\t9 b k=AF)\/∃d v,B6 a k=AA d/\t9 b k=AA v/\IsD K H d v
 |[],b,h,k=>by
  have:b=[]:=by have:=h.ks;simpa using this.symm
  subst this;exact .inl ⟨rfl,rfl⟩
 |e::a,b,h,k=>by
  obtain⟨v,i,rfl,g,f⟩:=h.inv_cons;unfold B6 t9;rw[By,By]
  by_cases c:e.1=k
  ·simp only[c,decide_true];exact .inr ⟨e.2,v,rfl,rfl,g⟩
  ·simp only[c,decide_false];exact IsPs.look f k
theorem IsPs.any:∀{a:List (Ai×D)}{b:List (Ai×V)}(h:IsPs K H a b)(k:Ai),(a.any λkv=>AB (kv.1=k))=(b.any λkv=>AB (kv.1=k))
 |[],b,h,k=>by
  have:b=[]:=by have:=h.ks;simpa using this.symm
  subst this;rfl
 |e::a,b,h,k=>by
  obtain⟨v,d,rfl,f,c⟩:=h.inv_cons;rw[Gj,Gj,IsPs.any c k]
theorem IsPs.repl{d:D}(i:IsD K H d v)(k:Ai):∀{a:List (Ai×D)}{b:List (Ai×V)}(h:IsPs K H a b),IsPs K H (a.map λkv=>if kv.1=k then(kv.1,d)else kv) (b.map λkv=>if kv.1=k then(kv.1,v)else kv)
 |[],b,h=>by
  have:b=[]:=by have:=h.ks;simpa using this.symm
  subst this;exact .nil
 |e::a,b,h=>by
  obtain⟨u,j,rfl,g,f⟩:=h.inv_cons;obtain⟨x,y⟩:=e;rw[As,As];simp only
  by_cases c:x=k
  ·rw[if_pos c,if_pos c];exact IsPs.cons i (IsPs.repl i k f)
  ·rw[if_neg c,if_neg c];exact IsPs.cons g (IsPs.repl i k f)
theorem IsPs.snoc{d:D}(i:IsD K H d v)(k:Ai):∀{a:List (Ai×D)}{b:List (Ai×V)}(h:IsPs K H a b),IsPs K H (a++[(k,d)]) (b++[(k,v)])
 |[],b,h=>by
  have:b=[]:=by have:=h.ks;simpa using this.symm
  subst this;exact IsPs.cons i .nil
 |e::a,b,h=>by
  obtain⟨u,g,rfl,f,c⟩:=h.inv_cons;exact IsPs.cons f (IsPs.snoc i k c)
def IsPs.put{vs:List (Ai×V)}(h:IsPs K H kvs vs){d:D}(i:IsD K H d v)(k:Ai):IsPs K H (V5 kvs k d) (B1 vs k v):=by
 unfold V5 B1;rw[h.any k]
 by_cases q:(vs.any λkv=>AB (kv.1=k))=AD
 ·rw[if_pos q,if_pos q];exact IsPs.repl i k h
 ·rw[if_neg q,if_neg q];exact IsPs.snoc i k h
def IsPs.len{vs:List (Ai×V)}(h:IsPs K H kvs vs):kvs.length=vs.length:=by
 have:=congrArg CV h.ks;simpa using this
structure IsFs(K:AQ)(H:Hp)(fs:List (Str×D))(vs:List (Str×V)):Prop where
 ks:fs.map (·.1)=vs.map (·.1)
 ds:IsDs K H (fs.map (·.2)) (vs.map (·.2))
theorem IsFs.nil:IsFs K H [] []:=⟨rfl,.nil⟩
theorem IsFs.mono{a:List (Str×D)}{vs:List (Str×V)}(h:IsFs K H a vs)(k:TK K H H'):IsFs K H' a vs:=⟨h.ks,h.ds.mono k⟩
theorem IsFs.inv_cons{e:Str×D}{c:List (Str×D)}{vs:List (Str×V)}(h:IsFs K H (e::c) vs):∃v a,vs=(e.1,v)::a/\IsD K H e.2 v/\IsFs K H c a:=by
 cases vs with
 |nil=>have:=h.ks;simp at this
 |cons f a=>
  obtain⟨k,v⟩:=f;have b:=h.ks;simp only[As,Aq]at b;have g:=h.ds;simp only[As]at g;obtain⟨o,j,d,n,m⟩:=g.inv_cons;simp only[Aq]at d;obtain⟨rfl,rfl⟩:=d;exact⟨v,a,by rw[b.1],n,⟨b.2,m⟩⟩
theorem IsFs.cons{k:Str}{d:D}{a:List (Str×D)}{vs:List (Str×V)}(h:IsD K H d v)(r:IsFs K H a vs):IsFs K H ((k,d)::a) ((k,v)::vs):=⟨by simp only[As,r.ks],by simp only[As];exact .cons h r.ds⟩
theorem IsFs.length{a:List (Str×D)}{vs:List (Str×V)}(h:IsFs K H a vs):a.length=vs.length:=by simpa using h.ds.len
theorem IsFs.look:∀{b:List (Str×D)}{a:List (Str×V)}(h:IsFs K H b a)(k:Str),(b.lookup k=AF/\a.lookup k=AF)\/∃d v,b.lookup k=AA d/\a.lookup k=AA v/\IsD K H d v
 |[],a,h,k=>by
  have:a=[]:=by have:=h.ks;simpa using this.symm
  subst this;exact .inl ⟨rfl,rfl⟩
 |e::b,a,h,k=>by
  obtain⟨v,i,rfl,f,c⟩:=h.inv_cons;obtain⟨g,d⟩:=e;rw[Dw,Dw];cases hk:k==g with
  |true=>exact .inr ⟨d,v,rfl,rfl,f⟩
  |false=>exact IsFs.look c k
theorem IsFs.put:∀{c:List (Str×D)}{a:List (Str×V)}(h:IsFs K H c a){d:D}{v:V}(i:IsD K H d v)(f:Str),IsFs K H (l0 f d c) (z6 f v a)
 |[],a,h,d,v,i,f=>by
  have:a=[]:=by have:=h.ks;simpa using this.symm
  subst this;exact .cons i .nil
 |e::c,a,h,d,v,i,f=>by
  obtain⟨w,l,rfl,k,j⟩:=h.inv_cons;obtain⟨g,x⟩:=e;unfold l0 z6
  by_cases b:g=f
  ·rw[if_pos b,if_pos b];exact .cons i j
  ·rw[if_neg b,if_neg b];exact .cons k (IsFs.put j i f)
abbrev ObR(K:AQ)(H:Hp)(a:AH):Ob->Prop
 |.lst ds=>∃vs,H a=AA (.lst vs)/\IsDs K H ds vs
 |.fro ds=>∃vs,Rd H a (.lst vs)/\IsDs K H ds vs
 |.dct kvs=>∃vs,H a=AA (.dK vs)/\IsKs K H kvs vs
 |.dtt kvs=>∃vs,H a=AA (.dT vs)/\IsPs K H kvs vs/\Tbs.kt=AE
 |.ins c fs=>∃C dx vs,H a=AA (.ins C dx vs)/\Ay K AO c=AA (AA (.ref C))/\IsFs K H fs vs
structure TabOk(H:Hp)(ps:Array AG):Prop where
 tr:EM ps.toList
 co:∀pos cv,Fw pos ps.toList=AA cv->N6 H cv
abbrev ac2(H:Hp):Prop:=∀P∈Tbs.ps,∃ps,H P=AA (.tbl ps)/\TabOk H ps
def ac2.stay(h:ac2 H)(k:TK K H H')(t:∀a b,H a=AA (.tbl b)->H' a=AA (.tbl b)):ac2 H':=λP hP=>by
 obtain⟨b,e,o⟩:=h P hP;exact⟨b,t P b e,o.tr,λpos cv hc=>(o.co pos cv hc).mono k⟩
structure RelS(K:AQ)(st:Sto)(H:Hp):Prop where
 ob:∀a o,st a=AA o->ObR K H a o
 tb:ac2 H
def RelS.free(r:RelS K st H)(h:H p=AF):st p=AF:=by
 cases q:st p with
 |none=>rfl
 |some o=>
  have z:=r.ob p o q;cases o with
  |lst j=>obtain⟨b,a,_⟩:=z;rw[h]at a;cases a
  |fro j=>
   obtain⟨b,a|⟨l,a⟩,_⟩:=z
   ·rw[h]at a;cases a
   ·rw[h]at a;cases a
  |dct d=>obtain⟨b,a,_⟩:=z;rw[h]at a;cases a
  |dtt d=>obtain⟨b,a,_⟩:=z;rw[h]at a;cases a
  |ins c m=>obtain⟨C,n,b,a,_⟩:=z;rw[h]at a;cases a
def RelS.sub(r:RelS K st' H)(s:Sub st st'):RelS K st H:=⟨λa o h=>r.ob a o (s a o h),r.tb⟩
theorem RelS.stay(r:RelS K st H)(k:TK K H H')(l:∀a o,st a=AA o->H' a=H a)(t:∀a f,H a=AA (.tbl f)->H' a=AA (.tbl f)):RelS K st H':=⟨λa o h=>by
 have z:=r.ob a o h;have e:=l a o h;cases o with
 |lst u=>obtain⟨b,q,w⟩:=z;exact⟨b,by rw[e];exact q,w.mono k⟩
 |fro u=>
  obtain⟨b,q|⟨g,q⟩,w⟩:=z
  ·exact⟨b,.inl (by rw[e];exact q),w.mono k⟩
  ·exact⟨b,.inr ⟨g,by rw[e];exact q⟩,w.mono k⟩
 |dct d=>obtain⟨b,q,w⟩:=z;exact⟨b,by rw[e];exact q,w.mono k⟩
 |dtt d=>obtain⟨b,q,w,t⟩:=z;exact⟨b,by rw[e];exact q,w.mono k,t⟩
 |ins c x=>obtain⟨C,p,b,q,n,w⟩:=z;exact⟨C,p,b,by rw[e];exact q,n,w.mono k⟩,r.tb.stay k t⟩
def an0(h:∀b,H p≠AA (.tbl b)):∀a b,H a=AA (.tbl b)->(upd H p o) a=AA (.tbl b):=λa b e=>by
 have c:a≠p:=λz=>h b (by rw[<-z];exact e);rw[i9 c];exact e
def by0(h:H p=AF):∀a b,H a=AA (.tbl b)->(upd H p o) a=AA (.tbl b):=an0 (by rw[h];exact λ_=>nofun)
theorem RelS.new(r:RelS K st H)(h:H p=AF):RelS K st (upd H p o):=r.stay (TK.new h) (λa u e=>i9 λz=>by
 rw[z,r.free h]at e;cases e) (by0 h)
def RelS.putAny(r:RelS K st H){c:HO}(tk:TK K H (upd H p c))(w:ObR K (upd H p c) p ob)(t:∀i,H p≠AA (.tbl i)):RelS K (b0 st p ob) (upd H p c):=by
 have h:RelS K (λb=>if b=p then AF else st b) H:=⟨λb u q=>by
  split at q
  ·cases q
  ·exact r.ob b u q,r.tb⟩
 have f:=h.stay tk (λb u q=>i9 λz=>by
  have g:(if b=p then AF else st b)=AA u:=q;rw[if_pos z]at g;cases g) (an0 t)
 refine⟨λa o e=>?_,f.tb⟩
 by_cases d:a=p
 ·subst d;rw[f8]at e;cases e;exact w
 ·rw[E2 d]at e;exact f.ob a o (by show(if a=p then AF else st a)=AA o;rw[if_neg d];exact e)
def RelS.putNew(r:RelS K st H)(h:H p=AF)(w:IsDs K H ds vs):RelS K (b0 st p (.lst ds)) (upd H p (.lst vs)):=
 r.putAny (TK.new h) ⟨vs,p8,w.mono (TK.new h)⟩ (by rw[h];exact λ_=>nofun)
def RelS.putNewD(r:RelS K st H){a:List (Key×D)}{ks:List (Key×V)}(h:H p=AF)(w:IsKs K H a ks):RelS K (b0 st p (.dct a)) (upd H p (.dK ks)):=
 r.putAny (TK.new h) ⟨ks,p8,w.mono (TK.new h)⟩ (by rw[h];exact λ_=>nofun)
def RelS.putOld(r:RelS K st H)(h:H p=AA (.lst xs))(w:IsDs K H ds vs):RelS K (b0 st p (.lst ds)) (upd H p (.lst vs)):=
 r.putAny (TK.put h) ⟨vs,p8,w.mono (TK.put h)⟩ (by rw[h];exact λ_ z=>by cases z)
theorem RelS.lst(r:RelS K st H)(h:st a=AA (.lst ds)):∃b,H a=AA (.lst b)/\IsDs K H ds b:=r.ob a _ h
theorem RelS.dct(r:RelS K st H){b:List (Key×D)}(h:st a=AA (.dct b)):∃c,H a=AA (.dK c)/\IsKs K H b c:=r.ob a _ h
theorem RelS.ins(r:RelS K st H){c:Str}{d:List (Str×D)}(h:st a=AA (.ins c d)):∃C e b,H a=AA (.ins C e b)/\Ay K AO c=AA (AA (.ref C))/\IsFs K H d b:=r.ob a _ h
def RelS.rd(r:RelS K st H)(h:rdS st a ds):∃c,SqL K H a c/\IsDs K H ds c:=by
 rcases h with h|h
 ·obtain⟨c,a,b⟩:=r.ob a _ h;exact⟨c,.inl (.inl a),b⟩
 ·obtain⟨c,a,b⟩:=r.ob a _ h;exact⟨c,.inl a,b⟩
def RelS.rdR(r:RelS K st H)(h:rdS st a ds):∃c,Rd H a (.lst c)/\IsDs K H ds c:=by
 rcases h with h|h
 ·obtain⟨c,a,b⟩:=r.ob a _ h;exact⟨c,.inl a,b⟩
 ·obtain⟨c,a,b⟩:=r.ob a _ h;exact⟨c,a,b⟩
end
abbrev TbE(o o':HO):Prop:=o'=o\/∃p p',o=.tbl p/\o'=.tbl p'
def TbE.trans{a b c:HO}(x:TbE a b)(y:TbE b c):TbE a c:=by
 rcases x with rfl|⟨p,e,rfl,rfl⟩
 ·exact y
 ·rcases y with rfl|⟨q,d,_,rfl⟩
  ·exact .inr ⟨p,e,rfl,rfl⟩
  ·exact .inr ⟨p,d,rfl,rfl⟩
abbrev Ev(st:Sto)(H:Hp)(st':Sto)(H':Hp):Prop:=∀a o,H a=AA o->st a=AF->(∃o',H' a=AA o'/\TbE o o')/\st' a=AF
section
variable {K:AQ} {st1 st2:Sto} {H1 H2:Hp}
def Ev.get(e:Ev st H st1 H1)(h:H a=AA o)(k:st a=AF)(n:∀p,o≠.tbl p):H1 a=AA o/\st1 a=AF:=by
 obtain⟨⟨d,c,t⟩,b⟩:=e a o h k
 rcases t with rfl|⟨p,_,rfl,_⟩
 ·exact⟨c,b⟩
 ·exact absurd rfl (n p)
def Ev.refl:Ev st H st H:=λ_ o h k=>⟨⟨o,h,.inl rfl⟩,k⟩
theorem Ev.trans(a:Ev st H st1 H1)(b:Ev st1 H1 st2 H2):Ev st H st2 H2:=λc o h k=>by
 obtain⟨⟨f,i,t⟩,y⟩:=a c o h k;obtain⟨⟨e,g,d⟩,z⟩:=b c f i y;exact⟨⟨e,g,t.trans d⟩,z⟩
def RelS.no(r:RelS K st H)(h:H a=AA o)(i:∀b,o≠.lst b)(m:∀u b,o≠.frz u (.lst b))(l:∀b,o≠.dK b)(k:∀C f b,o≠.ins C f b)(j:∀b,o≠.dT b):st a=AF:=by
 cases z:st a with
 |none=>rfl
 |some g=>
  have w:=r.ob a g z;cases g with
  |lst t=>obtain⟨b,d,_⟩:=w;rw[h]at d;cases d;exact absurd rfl (i b)
  |fro t=>
   obtain⟨b,d|⟨u,d⟩,_⟩:=w
   ·rw[h]at d;cases d;exact absurd rfl (i b)
   ·rw[h]at d;cases d;exact absurd rfl (m u b)
  |dct e=>obtain⟨b,d,_⟩:=w;rw[h]at d;cases d;exact absurd rfl (l b)
  |dtt e=>obtain⟨b,d,_⟩:=w;rw[h]at d;cases d;exact absurd rfl (j b)
  |ins c x=>obtain⟨C,f,b,d,_⟩:=w;rw[h]at d;cases d;exact absurd rfl (k C f b)
def Ev.tk(e:Ev st H st1 H1)(r:RelS K st H):TK K H H1:=⟨⟨λa xs q=>by
 rcases q with(q|⟨a,q⟩)|q
 ·exact .inl (.inl (e.get q (r.no q (λ_ z=>by cases z) (λ_ _ z=>by cases z) (λ_ z=>by cases z) (λ_ _ _ z=>by cases z) (λ_ z=>by cases z)) (λ_ z=>by cases z)).1)
 ·exact .inl (.inr ⟨a,(e.get q (r.no q (λ_ z=>by cases z) (λ_ _ z=>by cases z) (λ_ z=>by cases z) (λ_ _ _ z=>by cases z) (λ_ z=>by cases z)) (λ_ z=>by cases z)).1⟩)
 ·exact .inr q,λa xs q=>(e.get q (r.no q (λ_ z=>by cases z) (λ_ _ z=>by cases z) (λ_ z=>by cases z) (λ_ _ _ z=>by cases z) (λ_ z=>by cases z)) (λ_ z=>by cases z)).1⟩,λa o u q n=>(e.get q (r.no q (λ_ z=>by cases z) (λ_ vs z=>by cases z;exact n vs rfl) (λ_ z=>by cases z) (λ_ _ _ z=>by cases z) (λ_ z=>by cases z)) (λ_ z=>by cases z)).1⟩
def Ev.new(h:H p=AF):Ev st H st (upd H p o):=λa u e k=>⟨⟨u,by rw[i9 (v4 e h)];exact e,.inl rfl⟩,k⟩
def Ev.newS(h:H p=AF):Ev st H (b0 st p ob) (upd H p o):=λa u e k=>⟨⟨u,by rw[i9 (v4 e h)];exact e,.inl rfl⟩,by rw[E2 (v4 e h)];exact k⟩
def Ev.put{b:Ob}(h:st p=AA b):Ev st H (b0 st p ob) (upd H p o):=λa u e k=>by
 have c:a≠p:=λz=>by rw[z,h]at k;cases k
 exact⟨⟨u,by rw[i9 c];exact e,.inl rfl⟩,by rw[E2 c];exact k⟩
def Ev.drop(s:Sub st2 st1)(e:Ev st H st1 H1):Ev st H st2 H1:=λa o h k=>by
 obtain⟨x,y⟩:=e a o h k;refine⟨x,?_⟩;cases z:st2 a with
 |none=>rfl
 |some u=>rw[s a u z]at y;cases y
end
abbrev t6(K:AQ)(st:Sto)(H:Hp)(Qd:DK)(Q:VK):Prop:=∀v d H' st',Ev st H st' H'->IsD K H' d v->RelS K st' H'->Qd d st'->Q v H'
abbrev up(K:AQ)(t:DT):TE:=λσ H Q=>∃env st Qd,RelE K H env σ/\RelS K st H/\t env st Qd/\t6 K st H Qd Q
abbrev upB(K:AQ)(t:DB):TT:=λσ H Q=>∃env st Qd,RelE K H env σ/\RelS K st H/\t env st Qd/\∀b H' st',Ev st H st' H'->RelS K st' H'->Qd b st'->Q b H'
abbrev upA(K:AQ)(n:Nat)(t:DA):TA:=λσ H Q=>∃env st Qd,RelE K H env σ/\RelS K st H/\t env st Qd/\∀vs ds H' st',Ev st H st' H'->IsDs K H' ds vs->ds.length=n->RelS K st' H'->Qd ds st'->Q vs H'
def _root_.L2.PE.imp{t t':TE}(h:PE X x t)(i:∀a H Q,t' a H Q->t a H Q):PE X x t':=λpins s a H Q I q=>h pins s a H Q I (i a H Q q)
def _root_.L2.PT.imp{t t':TT}(h:PT X x t)(i:∀a H Q,t' a H Q->t a H Q):PT X x t':=λpins s a H Q I q=>h pins s a H Q I (i a H Q q)
def _root_.L2.PW.imp{t t':TT}(h:PW X x t)(i:∀a H Q,t' a H Q->t a H Q):PW X x t':=λw pins s a H Q I q=>h w pins s a H Q I (i a H Q q)
def _root_.L2.PA.imp{x:List AT}{t t':TA}(h:PA X x t)(i:∀a H Q,t' a H Q->t a H Q):PA X x t':=λpos pins s a H Q I q=>h pos pins s a H Q I (i a H Q q)
def _root_.L2.PSs.imp{x:List BN}{t t':TS}(h:PSs X x t)(i:∀D a H,t' D a H->t D a H):PSs X x t':=λpins s a H D I q=>h pins s a H D I (i D a H q)
def _root_.L2.PS.imp{x:BN}{t t':TS}(h:PS X x t)(i:∀D a H,t' D a H->t D a H):PS X x t':=λpins s a H D I q=>h pins s a H D I (i D a H q)
def t6.after{K:AQ}{a:Sto}{b:Hp}(p:t6 K st H Qd Q)(e:Ev st H a b):t6 K a b Qd Q:=λv d H2 st2 e2 is rs q=>p v d H2 st2 (e.trans e2) is rs q
def t6.here{K:AQ}{d:D}(p:t6 K st H Qd Q)(i:IsD K H d v)(r:RelS K st H)(q:Qd d st):Q v H:=p v d H st Ev.refl i r q
def t6.newL{K:AQ}(p:t6 K st H Qd Q)(r:RelS K st H)(w:IsDs K H ds vs)(q:∀p,st p=AF->Qd (.ref p) (b0 st p (.lst ds))):∀l,H l=AF->Q (.ref l) (upd H l (.lst vs)):=λl hl=>
 p _ (.ref l) _ (b0 st l (.lst ds)) (Ev.newS hl) (.ref l) (r.putNew hl w) (q l (r.free hl))
def t6.newT{K:AQ}(p:t6 K st H Qd Q)(r:RelS K st H)(w:IsDs K H ds vs)(q:Qd (.tup ds) st):∀l,H l=AF->Q (.ref l) (upd H l (.tup vs)):=λl hl=>
 p _ (.tup ds) _ st (Ev.new hl) (IsD.mk (SqX.of p8) (w.mono (TK.new hl))) (r.new hl) q
def up1{K:AQ}{t:DT}{f:D->Sto->DK->Prop}{R:V->Hp->Prop}(h:up K (λenv g Q=>t env g λd st1=>f d st1 Q) σ H Q)
  (k:∀v d b a e,IsD K b d v->RelS K a b->f d a e->t6 K a b e Q->R v b):up K t σ H R:=by
 obtain⟨env,g,e,m,l,i,j⟩:=h;exact⟨env,g,_,m,l,i,λv d b a ev is rs q=>k v d b a e is rs q (j.after ev)⟩
def up2{K:AQ}{t u:DT}{f:D->D->Sto->DK->Prop}{R:V->V->Hp->Prop}(h:up K (λenv i Q=>t env i λd st1=>u env st1 λe st2=>f d e st2 Q) σ H Q)
  (k:∀v w d e c a g,IsD K c d v->IsD K c e w->RelS K a c->f d e a g->t6 K a c g Q->R v w c):up K t σ H λv H1=>up K u σ H1 λw H2=>R v w H2:=by
 obtain⟨env,i,g,l,j,m,n⟩:=h;exact⟨env,i,_,l,j,m,λv d c a ev is rs q=>⟨env,a,_,l.mono (ev.tk j),rs,q,λw e H2 st2 ev2 is2 rs2 q2=>
  k v w d e H2 st2 g (is.mono (ev2.tk rs)) is2 rs2 q2 ((n.after ev).after ev2)⟩⟩
def ae1{K:AQ}{n:Nat}{t:DA}{f:List D->Sto->DK->Prop}{R:List V->Hp->Prop}(h:up K (λenv i Q=>t env i λds st1=>f ds st1 Q) σ H Q)
  (k:∀vs ds c a e,IsDs K c ds vs->ds.length=n->RelS K a c->f ds a e->t6 K a c e Q->R vs c):upA K n t σ H R:=by
 obtain⟨env,i,e,o,m,j,l⟩:=h;exact⟨env,i,_,o,m,j,λvs ds c a ev is hl rs q=>k vs ds c a e is hl rs q (l.after ev)⟩
def c15{t:DT}(h:PE X x (up X.K t))(i:∀a,Ho x X.env a=(do let v <-a;Hd x.pos;holding [v] (truthy v))):
  PT X x (upB X.K λenv e Q=>t env e λd st'=>∃b,d=.bl b/\Q b st'):=PT.imp (ck3 h i) λσ H Q q=>by
 obtain⟨env,e,l,k,j,f,g⟩:=q;refine⟨env,e,_,k,j,f,λv d H' st' ev is rs q=>?_⟩;obtain⟨b,rfl,q⟩:=q;cases is;exact⟨b,rfl,g b H' st' ev rs q⟩
end Ek
namespace Ek
open PySem PySem.Spec PyProof.Rows L2
variable [Tbs]
mutual
theorem Q1:∀d:D,d.pure=AD->d.py.canLay0=AD
 |.non,_=>rfl
 |.bl _,_=>rfl
 |.int _,_=>rfl
 |.str _,h=>h
 |.tup ds,h=>by show DI (D.pys ds)=AD;exact ab7 ds h
 |.ref _,h=>nomatch h
 |.fn _,h=>nomatch h
 |.clo _ _ _ _,h=>nomatch h
 |.ktup _,h=>nomatch h
theorem ab7:∀ds:List D,D.pures ds=AD->DI (D.pys ds)=AD
 |[],_=>rfl
 |d::r,h=>by
  have h':d.pure=AD/\D.pures r=AD:=by simpa[D.pures]using h
  show(d.py.canLay0&&DI (D.pys r))=AD;rw[Q1 d h'.1,ab7 r h'.2];rfl
end
section
variable {X:Cx} {pins:List (AH×Obj)} {σ:L2.St} {H:Hp} {s:AK}
def M4(I:L2.Inv X pins σ H s){d:D}{v:V}(h:IsD X.K H d v):∀{u:AG},d.pure=AD->i6 v u->∃l,Reads s.heap u d.py l:=by
 induction h with
 |non=>intro u _ r;cases r;exact⟨_,.none⟩
 |bl b=>intro u _ r;cases r;exact⟨_,.bool b⟩
 |int i=>intro u _ r;obtain⟨t,rfl⟩:=r;exact⟨_,.int i t⟩
 |str x=>intro u _ r;obtain⟨t,rfl⟩:=r;exact⟨_,.str x t⟩
 |ref a=>intro u h;cases h
 |fn _=>intro u h;cases h
 |clo _ _ _ _=>intro u h;cases h
 |ktup _ _=>intro u h;cases h
 |@tup a ds vs hq hl hat ih=>
  intro u hp r;cases r;obtain⟨A,rv,⟨o,ho,hc,n,hd⟩,hz⟩:=I.tuple hq.sqt;have E:∀(f:List D)(c:List V)(j:List AG),(∀(i:Nat)d v,f[i]?=AA d->c[i]?=AA v->∀{u:AG},d.pure=AD->i6 v u->∃l,Reads s.heap u d.py l)->f.length=c.length->D.pures f=AD->g9 c j->∃l,ReadsAll s.heap j (D.pys f) l:=by
   intro f
   induction f with
   |nil=>intro c j _ k _ q;cases c with
    |nil=>cases q;exact⟨[],.nil⟩
    |cons a b=>simp at k
   |cons e es B=>
    intro c j m k C q;cases c with
    |nil=>simp at k
    |cons w G=>
     have y:e.pure=AD/\D.pures es=AD:=by simpa[D.pures]using C
     cases q with
     |cons q1 q2=>
      obtain⟨l,z⟩:=m 0 e w rfl rfl y.1 q1;obtain⟨bs,rb⟩:=B G _ (λi d v a b=>m (i+1) d v (by simpa using a) (by simpa using b)) (by simpa using k) y.2 q2;exact⟨l++bs,.cons z rb⟩
  obtain⟨l,z⟩:=E ds vs A ih hl hp rv;exact⟨l,.tuple ho hc hd (by simpa using z)⟩
def ba5{A:BU}{a b:Nat}(c:A.units+200<Bw)(h:EL a b<=150):A.units+min a b<Bw:=by
 have:min a b<=150:=h;lia
def bd9(k:X.A.units+200<Bw):OpR X (Bq .Eq) (λx y H Q=>∃d e,IsD X.K H d x/\IsD X.K H e y/\d.pure=AD/\e.pure=AD/\EL (l6 d) (l6 e)<=150/\Q (.bl (deq d e)) H):=by
 intro a s o H x y v u Q I g f h;obtain⟨d,e,n,m,c,b,l,q⟩:=h;obtain⟨r,j⟩:=M4 I n c g;obtain⟨p,i⟩:=M4 I m b f;exact SeqAt.rcAt_reads j i (Q1 d c) (Q1 e b) (ba5 k l) X.prog X.w _ _ ⟨.bl (deq d e),H,I,rfl,q⟩
def bf3(k:X.A.units+200<Bw):OpR X (Bq .NotEq) (λx y H Q=>∃d e,IsD X.K H d x/\IsD X.K H e y/\d.pure=AD/\e.pure=AD/\EL (l6 d) (l6 e)<=150/\Q (.bl (!deq d e)) H):=by
 intro a s o H x y v u Q I g f h;obtain⟨d,e,n,m,c,b,l,q⟩:=h;obtain⟨r,j⟩:=M4 I n c g;obtain⟨p,i⟩:=M4 I m b f;exact SeqAt.rcNeAt_reads j i (Q1 d c) (Q1 e b) (ba5 k l) X.prog X.w _ _ ⟨.bl (!deq d e),H,I,rfl,q⟩
theorem an9:∀(a:List D)(x:D),((D.pys a).any λy=>At y x.py)=a.any λy=>deq y x
 |[],_=>rfl
 |d::r,x=>by
  show(At d.py x.py||(D.pys r).any _)=(deq d x||r.any _);rw[an9 r x];rfl
def bb6{A:BU}{a b:Nat}(c:A.units+200<Bw)(h:b<=150):A.units+1+min a b<Bw:=by
 have:min a b<=b:=FJ _ _;lia
def bh3(m:X.A.units+200<Bw):OpR X (Bq .In) (λx y H Q=>∃d a,IsD X.K H d x/\IsD X.K H (.tup a) y/\d.pure=AD/\D.pures a=AD/\l6 d<=150/\Q (.bl (a.any λe=>deq e d)) H):=by
 intro c s t H x y v u Q I j i h;obtain⟨d,a,p,o,g,f,n,q⟩:=h;obtain⟨w,l⟩:=M4 I p g j;obtain⟨r,k⟩:=M4 I o f i;have b:Reads s.heap u (.tuple (D.pys a)) r:=k;exact SeqAt.in_tuple_reads b l (ab7 a f) (Q1 d g) (bb6 m n) (by rw[an9];exact⟨.bl _,H,I,rfl,q⟩)
def bb2(m:X.A.units+200<Bw):OpR X (Bq .NotIn) (λx y H Q=>∃d a,IsD X.K H d x/\IsD X.K H (.tup a) y/\d.pure=AD/\D.pures a=AD/\l6 d<=150/\Q (.bl (!a.any λe=>deq e d)) H):=by
 intro c s t H x y v u Q I j i h;obtain⟨d,a,p,o,g,f,n,q⟩:=h;obtain⟨w,l⟩:=M4 I p g j;obtain⟨r,k⟩:=M4 I o f i;have b:Reads s.heap u (.tuple (D.pys a)) r:=k;exact SeqAt.notIn_tuple_reads b l (ab7 a f) (Q1 d g) (bb6 m n) (by rw[an9];exact⟨.bl _,H,I,rfl,q⟩)
end
end Ek
namespace PySem
def bm3:fillsNumberSlot (.type "tuple") "mul"=pure AE:=
 fillsNumberSlot_seq (id:="tuple.__mul__") (r:=AA (.builtin "tuple.__rmul__")) El.lookup (by decide+kernel) Jb.lookup (by decide+kernel)
def bo0:seqRepeat? (.type "tuple")=pure (AA (.builtin "tuple.__mul__")):=by
 unfold seqRepeat?;rw[seqSlot_of (T:="tuple") (name:="__mul__") (id:="tuple.__mul__") El.lookup (by decide+kernel),seqSlot_of (T:="tuple") (name:="__rmul__") (id:="tuple.__rmul__") Jb.lookup (by decide+kernel)];rfl
def bm8(a:Int)(t:Tok)(l:AH)(b:Array AG)(n:Nat)(e:Option AH)(c:Array (Option AG)):
  JM (Ci.«int.__rmul__» ⟨[.int a t,.ref l],[]⟩) (λ_ R s=>s.heap.get? l=AA {cls:=.type "tuple",dict:=e,data:=.seq b n,slots:=c}/\R (.ok (.ret Value.notImplemented)) s):=
 .of_wp λprog w A R s h=>by obtain⟨j,g,d,f,i⟩:=s;obtain⟨k,h⟩:=h;wp_walk;exact⟨_,rfl,h⟩
def bv4(l:AH)(a:Array AG)(n:Nat)(p:Option AH)(i:Array (Option AG))(k:Int)(u:Tok)(c:a.isEmpty=AE)(B:2<=k)(z:k<2^63)(hz:a.size*k.toNat<=sizeLine):
  JM (Ci.«tuple.__mul__» ⟨[.ref l,.int k u],[]⟩) (λ_ R s=>s.heap.get? l=AA {cls:=.type "tuple",dict:=p,data:=.seq a n,slots:=i}/\R (.ok (.ret (Ap s.heap.objs.size))) {s with heap:=s.heap.push {cls:=Cm "tuple",data:=Data.seq (Fb (λx1 x2=>x1++x2) #[] (Al k.toNat a))},toks:=s.toks}):=
 .of_wp λprog w A R s h=>by
  obtain⟨o,g,d,f,j⟩:=s;obtain⟨b,h⟩:=h;have y:(⟨o,g,d,f,j⟩:AK).TypeIs (.ref l) "tuple":=⟨_,b,rfl⟩;have x:(AB (k < -(2^63))||AB (k>=2^63))=AE:=by simp;lia
  have v:(a.isEmpty||k==1)=AE:=by rw[c];simp;lia
  have t:(AB (k<=0)||a.isEmpty)=AE:=by rw[c];simp;lia
  have e:(a.size:Int)*k=((a.size*k.toNat:Nat):Int):=by rw[Jc,Int.toNat_of_nonneg ⋯]
  have r:¬((a.size:Int)*k>(2^63-1) / 8):=by
   rw[e];have:(sizeLine:Nat)<=(2^63-1) / 8:=by decide
   lia
  have q:Fa ((a.size:Int)*k)=AE:=by
   unfold Fa;rw[e];exact decide_eq_false ⋯
  show AR _ _ (asIndex (.int k u)>>=_) _ _ _;refine AC (AL ?_);dsimp only;rw[x];simp only[BE,if_false];refine AC (AC (BR b rfl (AL ?_)));rw[v,t];simp only[BE,if_false];rw[if_neg r,q];simp only[BE,if_false];refine AC (Bb (AL ⟨_,rfl,h⟩) ?_);have m:(Fb (λx1 x2=>x1++x2) #[] (Al k.toNat a)).size=k.toNat*a.size:=by
   have:=L2.al0 a.toList k.toNat [];simp only[DU]at this;rw[show(Al k.toNat a.toList.toArray)=Al k.toNat a by simp]at this;rw[show((#[]:Array AG))=([]:List AG).toArray from rfl,this];simp[L2.a95]
  show(Fb (λx1 x2=>x1++x2) #[] (Al k.toNat a)).size<=sizeLine;rw[m,JO];exact hz
def br8(l:AH)(b:Array AG)(n:Nat)(k:Option AH)(e:Array (Option AG))(u:Tok):
  JM (Ci.«tuple.__mul__» ⟨[.ref l,.int 1 u],[]⟩) (λ_ R s=>s.heap.get? l=AA {cls:=.type "tuple",dict:=k,data:=.seq b n,slots:=e}/\R (.ok (.ret (Ap l))) s):=
 .of_wp λprog w A R s h=>by
  obtain⟨i,g,d,c,f⟩:=s;obtain⟨a,h⟩:=h;have j:(⟨i,g,d,c,f⟩:AK).TypeIs (.ref l) "tuple":=⟨_,a,rfl⟩;show AR _ _ (asIndex (.int 1 u)>>=_) _ _ _;refine AC (AL ?_);dsimp only;rw[if_neg ∅];refine AC (AC (BR a rfl (AL ?_)));rw[if_pos ∎];refine AC (AC (FK j (AL ?_)));rw[if_pos ∅];exact AC (DN (AL ⟨_,rfl,h⟩))
end PySem
namespace L2
open PySem PySem.Spec PyProof.Rows
variable {X:Cx}
abbrev c27(K:AQ):R2:=λx y H Q=>∃a k xs,x=.ref a/\y=.int k/\SqT K H a xs/\xs≠[]/\1<=k/\k<2^62/\xs.length*k.toNat<=sizeLine /\
 (k=1->Q (.ref a) H)/\(k≠1->∀p,H p=AF->Q (.ref p) (upd H p (.tup (Al k.toNat xs).flatten)))
def b88:OpR X (Cv .Mult) (c27 X.K):=by
 intro p s Y H x y v u Q I M L h;obtain⟨a,k,J,rfl,rfl,V,j,h1,h2,q,O,N⟩:=h;cases M;obtain⟨t,rfl⟩:=L;obtain⟨c,r,P,Z⟩:=I.tuple V;obtain⟨⟨W,m,E,i⟩,f,C,n,B⟩:=id P;simp only at C B;subst C B;have d:=r.length;have D:∀{R:AG->AK->Prop},AR (model X.prog X.w) X.A (call (.builtin "tuple.__mul__") [.ref a,.int k t]) R X.xe s->AR (model X.prog X.w) X.A (Cv .Mult (.ref a) (.int k t)) R X.xe s:=λhh=>
  wpAny_binaryOp_repeat_ref (T:="tuple") (U:="int") ∅ ⟨_,f,rfl⟩ (λs'=>Jn s' k t) bm3 F.fills_int_mul KF bo0 F.slot_int_index.lookup
   (DQ KF (Jn s k t) F.entry_int_rmul (F.args_int_rmul_2 _ _) (bm8 k t a c.toArray n m i) ⟨f,rfl,⟨_,f,rfl⟩,hh⟩)
 by_cases z:k=1
 ·subst z;exact D (DQ El ⟨_,f,rfl⟩ Jd (JP _ _) (br8 a c.toArray n m i t) ⟨f,⟨.ref a,H,I,rfl,O rfl⟩⟩)
 ·have l:c.toArray.isEmpty=AE:=by
   cases c with
   |nil=>exact absurd (Be d) j
   |cons a b=>simp
  refine D (DQ El ⟨_,f,rfl⟩ Jd (JP _ _) (bv4 a c.toArray n m i k t l ⋯ ⋯ (by rw[Ab,<-d];exact q)) ⟨f,?_⟩);have g:Fb (λx1 x2=>x1++x2) #[] (Al k.toNat c.toArray)=(Al k.toNat c).flatten.toArray:=by
   have:=al0 c k.toNat [];rw[DU]at this;exact this
  rw[g];refine⟨.ref _,_,I.laid (t':=s.toks) (o:=.tup (Al k.toNat J).flatten) (λb o e=>AM _ e) (AS _) ⟨?_,_,r.rep k.toNat,⟨_,Ae _ rfl,rfl,rfl,_,rfl⟩⟩,rfl,N z _ I.fresh⟩;rw[a95,JO];exact q
end L2
namespace Ek
open PySem PySem.Spec PyProof.Rows L2
variable [Tbs]
variable{x:AT}{v:V}{i:Int}{es:List AT}{n:Nat}{H:Hp}{o:Dn}
section
variable {X:Cx} {a b c:AT} {ta tb tc:DT} {pos:Pos}
def ad4{d:D}(h:PE X x (tC v))(i:∀H,IsD X.K H d v):PE X x (up X.K λ_ a Q=>Q d a):=PE.imp h λσ H Q q=>by
 obtain⟨f,a,j,g,e,b,c⟩:=q;exact c.here (i H) e b
def cj1{i:Nat}{x:Str}(l:X.N[i]?=AA x)(f:Vis X.env.scope x)(j:(x==("__debug__":Str))=AE)(a:(x==("__classdict__":Str))=AE):PE X (.Name x pos) (up X.K λenv c Q=>∃d,env[i]?=AA (AA d)/\Q d c):=
 PE.imp (ap1 l f j a) λσ H Q q=>by
  obtain⟨env,c,p,m,k,⟨d,o,g⟩,h⟩:=q;obtain⟨v,n,e⟩:=m.at' i d o;exact⟨v,n,h.here e k g⟩
def o5{a:List AT}{env:Env}(h:∀e p,x≠.Starred e p):Am (x::a) env=(AE,eval x env)::Am a env:=by
 cases x<;>first|rfl|exact absurd rfl (h _ _)
def be5:PA X [] (upA X.K 0 λ_ a Q=>Q [] a):=PA.imp bd7 λσ H Q q=>by
 obtain⟨e,a,g,f,d,b,c⟩:=q;exact c [] [] H a Ev.refl .nil rfl d b
def O8{t:DA}(l:PE X a (up X.K ta))(j:PA X es (upA X.K n t))(h:∀e p,a≠.Starred e p):PA X (a::es) (upA X.K (n+1) λenv c Q=>ta env c λd st1=>t env st1 λds st2=>Q (d::ds) st2):=
 PA.imp (ao2 l j (o5 h)) λσ H Q q=>by
  obtain⟨env,c,m,g,f,i,k⟩:=q;exact⟨env,c,_,g,f,i,λv d H1 st1 ev is rs q1=>⟨env,st1,_,g.mono (ev.tk f),rs,q1,λvs ds H2 st2 ev2 is2 hl rs2 q2=>
   k (v::vs) (d::ds) H2 st2 (ev.trans ev2) (.cons (is.mono (ev2.tk rs)) is2) (by simp[hl]) rs2 q2⟩⟩
def cv5{k:Nat}{t:DA}(h:PA X es (upA X.K n t))(a:n<=1000):PE X (.Tuple es k pos) (up X.K λenv st Q=>t env st λds st1=>Q (.tup ds) st1):=
 PE.imp (cs6 h) λσ H Q q=>ae1 (f:=λds st1 Q=>Q (.tup ds) st1) q λvs ds H' st' Qd is hl rs ht hq=>⟨by rw[<-is.len,hl];exact Gd (az2 a),hq.newT rs is ht⟩
def cn0{t:DA}(h:PA X es (upA X.K n t))(a:n<=1000):PE X (.List es pos) (up X.K λenv st Q=>t env st λds st1=>∀p,st1 p=AF->Q (.ref p) (b0 st1 p (.lst ds))):=
 PE.imp (ch4 h) λσ H Q q=>ae1 (f:=λds st1 Q=>∀p,st1 p=AF->Q (.ref p) (b0 st1 p (.lst ds))) q λvs ds H' st' Qd is hl rs ht hq=>⟨by rw[<-is.len,hl];exact Gd (az2 a),hq.newL rs is ht⟩
def IsD.int_inv{K:AQ}(h:IsD K H (.int i) v):v=.int i:=by cases h;rfl
def IsD.str_inv{K:AQ}{i:Str}(h:IsD K H (.str i) v):v=.str i:=by cases h;rfl
def IsD.bl_inv{K:AQ}{i:Bool}(h:IsD K H (.bl i) v):v=.bl i:=by cases h;rfl
def IsD.ref_inv{K:AQ}{i:AH}(h:IsD K H (.ref i) v):v=.ref i:=by cases h;rfl
def cf7{k:Nat}(h:n<2^k)(a:n≠0):n.log2<k:=(Nat.log2_lt a).mpr h
def bd3(h:i.natAbs<2^20000):DW i<=20000:=by
 unfold DW
 by_cases a:i=0
 ·subst a;exact BK _
 ·rw[if_neg (by simpa using a)];exact cf7 h ⋯
theorem Q7.ok{j:Int}(h:Q7 i j):LC i j:=by
 rcases h with h|⟨c,b⟩
 ·exact h.ok
 ·have e:=bd3 c;have d:=bd3 b;unfold LC;have:GY ((DW i:Int)+(DW j:Int))=AE:=by
   unfold GY;refine decide_eq_false ?_;have:(40000:Int)<=(bitsLine:Nat):=by decide
   lia
  first
   |(rw[this];simp)
   |(intro z;simp only[BJ]at z;have a:=z.2;first|(rw[this]at a;cases a)|(simp[this]at a))
def cd3:OpR X (Cv .Mult) (rI Q7 λi j=>.int (i*j)):=opI λ_ _ _ _ _ _ _ hc q=>mul_int q hc.ok
theorem _root_.Ek.IsDs.repl{K:AQ}{a:List D}{vs:List V}(r:IsDs K H a vs):∀n:Nat,IsDs K H (Al n a).flatten (Al n vs).flatten
 |0=>.nil
 |n+1=>by
  rw[Cw,Cw,Dd,Dd];exact r.append (r.repl n)
def ck0{o:Ez}(n:PE X a (up X.K ta))(m:PE X b (up X.K tb)):PE X (.BinOp a o b pos) (up X.K λenv E Q=>ta env E λx st1=>tb env st1 λy st2=>B0 o x y st2 Q):=by
 have bad:∀{P:Prop},False->P:=λh=>h.elim;cases o with
 |Add=>
  refine PE.imp (Q8 (cv3.or (b78.or cn8)) n m) λσ H Q q=>up2 (f:=B0 .Add) q λv w d e H' st' j i1 i2 rs c g=>?_;cases d<;>first|exact AU c|(cases e<;>first|exact AU c|skip)
  ·exact .inl ⟨_,_,i1.int_inv,i2.int_inv,g.here (.int _) rs c⟩
  ·rename_i C I;obtain⟨p,v,B,A,i⟩:=i1.tup_invX;obtain⟨O,D,G,J,l⟩:=i2.tup_invX;refine .inr (.inl ⟨p,O,v,D,B,G,A.sqt,J.sqt,by rw[<-i.len,<-l.len];exact c.1,λz=>?_,λz1 z2=>?_,λ_ _=>g.newT rs (i.append l) c.2⟩)
   ·have:C=[]:=by rw[z]at i;have:=i.len;exact Be (by simpa using this)
    subst this;exact g.here (IsD.mk J l) rs c.2
   ·have:I=[]:=by rw[z2]at l;have:=l.len;exact Be (by simpa using this)
    subst this;have t:=c.2;rw[BZ]at t;exact g.here (IsD.mk A i) rs t
  ·obtain⟨C,I,N,M,hz,t⟩:=c;obtain⟨v,B,i⟩:=rs.lst N;obtain⟨D,G,l⟩:=rs.lst M;exact .inr (.inr ⟨_,_,v,D,i1.ref_inv,i2.ref_inv,B,G,by rw[<-i.len,<-l.len];exact hz,g.newL rs (i.append l) t⟩)
 |Sub=>
  refine PE.imp (Q8 ci7 n m) λσ H Q q=>up2 (f:=B0 .Sub) q λv w d e H' st' j i1 i2 rs c g=>?_;cases d<;>first|exact AU c|(cases e<;>first|exact AU c|skip)
  exact⟨_,_,i1.int_inv,i2.int_inv,g.here (.int _) rs c⟩
 |Mult=>
  refine PE.imp (Q8 (cd3.or b88) n m) λσ H Q q=>up2 (f:=B0 .Mult) q λv w d e H' st' j i1 i2 rs c g=>?_;cases d<;>first|exact AU c|(cases e<;>first|exact AU c|skip)
  ·exact .inl ⟨_,_,i1.int_inv,i2.int_inv,c.1,g.here (.int _) rs c.2⟩
  ·rename_i C k;obtain⟨p,v,B,A,i⟩:=i1.tup_invX;obtain⟨h0,h1,t,h3,c⟩:=c;refine .inr ⟨p,k,v,B,i2.int_inv,A.sqt,λz=>h0 (by rw[z]at i;exact Be (by simpa using i.len)),h1,t,by rw[<-i.len];exact h3,λz=>?_,λ_=>g.newT rs (i.repl k.toNat) c⟩;subst z;have F:j (.tup C) st':=by simpa using c
   exact g.here (IsD.mk A i) rs F
 |Mod=>
  refine PE.imp (Q8 ch5 n m) λσ H Q q=>up2 (f:=B0 .Mod) q λv w d e H' st' j i1 i2 rs c g=>?_;cases d<;>first|exact AU c|(cases e<;>first|exact AU c|skip)
  exact⟨_,_,i1.int_inv,i2.int_inv,c.1,g.here (.int _) rs c.2⟩
 |FloorDiv=>
  refine PE.imp (Q8 bx5 n m) λσ H Q q=>up2 (f:=B0 .FloorDiv) q λv w d e H' st' j i1 i2 rs c g=>?_;cases d<;>first|exact AU c|(cases e<;>first|exact AU c|skip)
  exact⟨_,_,i1.int_inv,i2.int_inv,c.1,g.here (.int _) rs c.2⟩
 |Pow=>
  refine PE.imp (Q8 cj6 n m) λσ H Q q=>up2 (f:=B0 .Pow) q λv w d e H' st' j i1 i2 rs c g=>?_;cases d<;>first|exact AU c|(cases e<;>first|exact AU c|skip)
  exact⟨_,_,i1.int_inv,i2.int_inv,c.1,g.here (.int _) rs c.2⟩
 |_=>
  refine PE.imp (Q8 (op:=_) (r:=λ_ _ _ _=>False) (λ_ _ _ _ _ _ _ _ _ _ _ _ h=>h.elim) n m) λσ H Q q=>up2 (f:=λ_ _ _ _=>False) (by
   obtain⟨env,E,j,hE,hS,c,g⟩:=q;exact⟨env,E,j,hE,hS,c,g⟩) λv w d e H' st' j i1 i2 rs c g=>c
def ck5(c:PE X a (up X.K ta)):PE X (.UnaryOp .USub a pos) (up X.K λenv st Q=>ta env st λx st1=>∃i,x=.int i/\Q (.int (-i)) st1):=
 PE.imp (c61 ct2 c) λσ H Q q=>up1 (f:=λx st1 Q=>∃i,x=.int i/\Q (.int (-i)) st1) q λv d H' st' Qd is rs b hq=>by
  obtain⟨i,rfl,b⟩:=b;exact⟨i,is.int_inv,hq.here (.int _) rs b⟩
abbrev at4(X:Cx):Dn->R2
 |.Eq=>λx y H Q=>∃d e,IsD X.K H d x/\IsD X.K H e y/\d.pure=AD/\e.pure=AD/\EL (l6 d) (l6 e)<=150/\Q (.bl (deq d e)) H
 |.NotEq=>λx y H Q=>∃d e,IsD X.K H d x/\IsD X.K H e y/\d.pure=AD/\e.pure=AD/\EL (l6 d) (l6 e)<=150/\Q (.bl (!deq d e)) H
 |.Lt=>rI0 λi j=>.bl (AB (i<j))
 |.LtE=>rI0 λi j=>.bl (AB (i<=j))
 |.Gt=>rI0 λi j=>.bl (AB (j<i))
 |.GtE=>rI0 λi j=>.bl (AB (j<=i))
 |.In=>λx y H Q=>(∃d es,IsD X.K H d x/\IsD X.K H (.tup es) y/\d.pure=AD/\D.pures es=AD/\l6 d<=150/\Q (.bl (es.any λe=>deq e d)) H)\/(∃(k:Key)(ks:List Key)(a:AH),x=kV k/\y=.ref a/\(kD k).pure=AD/\SqT X.K H a (ks.map kV)/\D.pures (ks.map kD)=AD/\Q (.bl (ks.any λl=>AB (l=k))) H)\/∃a k kvs,x=kV k/\y=.ref a/\H a=AA (.dK kvs)/\Q (.bl (t9 kvs k).isSome) H
 |.NotIn=>λx y H Q=>(∃d es,IsD X.K H d x/\IsD X.K H (.tup es) y/\d.pure=AD/\D.pures es=AD/\l6 d<=150/\Q (.bl (!es.any λe=>deq e d)) H)\/(∃(k:Key)(ks:List Key)(a:AH),x=kV k/\y=.ref a/\(kD k).pure=AD/\SqT X.K H a (ks.map kV)/\D.pures (ks.map kD)=AD/\Q (.bl (!ks.any λl=>AB (l=k))) H)\/∃a k kvs,x=kV k/\y=.ref a/\H a=AA (.dK kvs)/\Q (.bl (!(t9 kvs k).isSome)) H
 |.Is=>λx y H Q=>∃b c,x=.bl b/\y=.bl c/\Q (.bl (b==c)) H
 |.IsNot=>λx y H Q=>∃b c,x=.bl b/\y=.bl c/\Q (.bl (b != c)) H
omit [Tbs]in
def ar4 [Tbs]{K:AQ}:∀k:Key,IsD K H (kD k) (kV k)
 |.inl i=>.int i
 |.inr x=>.str x
omit [Tbs]in
theorem ab9 [Tbs]{K:AQ}:∀ks:List Key,IsDs K H (ks.map kD) (ks.map kV)
 |[]=>.nil
 |k::r=>.cons (ar4 k) (ab9 r)
omit [Tbs]in
def bj9:∀{k l:Key},deq (kD k) (kD l)=AB (k=l)
 |.inl i,.inl j=>by show deq (.int i) (.int j)=_;unfold deq D.py At;exact Em.mpr ∎
 |.inr i,.inr j=>by show deq (.str i) (.str j)=_;unfold deq D.py At;exact Em.mpr ∎
 |.inl i,.inr j=>by show deq (.int i) (.str j)=_;unfold deq D.py At;exact(decide_eq_false nofun).symm
 |.inr i,.inl j=>by show deq (.str i) (.int j)=_;unfold deq D.py At;exact(decide_eq_false nofun).symm
omit [Tbs]in
def be0{k:Key}(ks:List Key):((ks.map kD).any λe=>deq e (kD k))=ks.any λl=>AB (l=k):=by
 rw[List.any_map];exact congrArg _ (funext λl=>bj9)
omit [Tbs]in
def bk8:∀{k:Key},l6 (kD k)<=150
 |.inl _=>BK _
 |.inr _=>BK _
omit [Tbs]in
def bh7{b c:Bool}:((FY b:AG)==.bool c)=(b==c):=by cases b<;>cases c<;>rfl
def bc3(d:X.A.units+200<Bw):∀o:Dn,OpR X (Bq o) (at4 X o)
 |.Eq=>bd9 d
 |.NotEq=>bf3 d
 |.Lt=>c51
 |.LtE=>cy0
 |.Gt=>c66
 |.GtE=>c37
 |.In=>λpins s σ H x y v u Q I rx ry h=>by
  rcases h with h|⟨k,f,a,rfl,rfl,j,g,i,q⟩|⟨a,k,l,rfl,rfl,e,q⟩
  ·exact bh3 d pins s σ H x y v u Q I rx ry h
  ·letI T:Tbs:=⟨[],λ_ _ _ _=>True,AD⟩
   exact @bh3 T X d pins s σ H _ _ v u Q I rx ry ⟨kD k,f.map kD,ar4 k,IsD.mk (.inr ⟨rfl,g⟩) (ab9 f),j,i,bk8,by rw[be0];exact q⟩
  ·cases ry;exact bl0 ⋯ I (A5.k e) rx λs' I'=>⟨.bl _,H,I',rfl,q⟩
 |.NotIn=>λpins s σ H x y v u Q I rx ry h=>by
  rcases h with h|⟨k,f,a,rfl,rfl,j,g,i,q⟩|⟨a,k,l,rfl,rfl,e,q⟩
  ·exact bb2 d pins s σ H x y v u Q I rx ry h
  ·letI T:Tbs:=⟨[],λ_ _ _ _=>True,AD⟩
   exact @bb2 T X d pins s σ H _ _ v u Q I rx ry ⟨kD k,f.map kD,ar4 k,IsD.mk (.inr ⟨rfl,g⟩) (ab9 f),j,i,bk8,by rw[be0];exact q⟩
  ·cases ry;exact a90 ⋯ I (A5.k e) rx λs' I'=>⟨.bl _,H,I',rfl,q⟩
 |.Is=>λpins s σ H x y v u Q I rx ry h=>by
  obtain⟨b,c,rfl,rfl,q⟩:=h;cases rx;cases ry;exact wpAny_is_plain rfl (by rw[bh7];exact⟨.bl _,H,I,rfl,q⟩)
 |.IsNot=>λpins s σ H x y v u Q I rx ry h=>by
  obtain⟨b,c,rfl,rfl,q⟩:=h;cases rx;cases ry;exact wpAny_isNot_plain rfl (by rw[bh7];exact⟨.bl _,H,I,rfl,q⟩)
omit [Tbs]in
def _root_.L2.SqT.k{K:AQ}{a:AH}{xs:List V}(h:SqT K (λ_=>AF) a xs):SqT K H a xs:=h.elim (λz=>by rcases z with z|⟨_,z⟩<;>cases z) .inr
def bg4{w:V}{d e:D}{H':Hp}{j:Sto}{A:DK}{Q:VK}(g:IsD X.K H' d v)(f:IsD X.K H' e w)(c:RelS X.K j H')(b:o9 o d e j A)(h:t6 X.K j H' A Q):at4 X o v w H' Q:=by
 cases o with
 |Eq=>exact⟨d,e,g,f,b.1,b.2.1,b.2.2.1,h.here (.bl _) c b.2.2.2⟩
 |NotEq=>exact⟨d,e,g,f,b.1,b.2.1,b.2.2.1,h.here (.bl _) c b.2.2.2⟩
 |Lt=>cases d<;>first|exact AU b|(cases e<;>first|exact AU b|exact⟨_,_,g.int_inv,f.int_inv,h.here (.bl _) c b⟩)
 |LtE=>cases d<;>first|exact AU b|(cases e<;>first|exact AU b|exact⟨_,_,g.int_inv,f.int_inv,h.here (.bl _) c b⟩)
 |Gt=>cases d<;>first|exact AU b|(cases e<;>first|exact AU b|exact⟨_,_,g.int_inv,f.int_inv,h.here (.bl _) c b⟩)
 |GtE=>cases d<;>first|exact AU b|(cases e<;>first|exact AU b|exact⟨_,_,g.int_inv,f.int_inv,h.here (.bl _) c b⟩)
 |In=>
  have hd:∀(k:Key)(a:AH)(i:List (Key×D)),v=kV k->w=.ref a->j a=AA (.dct i)->A (.bl (D4 i k).isSome) j->at4 X .In v w H' Q:=λk a i e1 e2 e3 b=>by
   obtain⟨p,y,x⟩:=c.dct e3;refine .inr (.inr ⟨a,k,p,e1,e2,y,?_⟩)
   rcases x.look k with⟨n,m⟩|⟨d,v,n,m,_⟩<;>(rw[n]at b;rw[m];exact h.here (.bl _) c b)
  cases e with
  |tup z=>exact .inl ⟨d,z,g,f,b.1,b.2.1,b.2.2.1,h.here (.bl _) c b.2.2.2⟩
  |ref a=>
   cases d<;>first|exact AU b|skip
   obtain⟨i,e,b⟩:=b;exact hd (.inr _) a i g.str_inv f.ref_inv e b
  |ktup t=>
   cases d<;>first|exact AU b|skip
   cases f with
   |ktup r u=>exact .inr (.inl ⟨.inl _,t,_,g.int_inv,rfl,rfl,r.k,u,h.here (.bl _) c b⟩)
  |_=>exact AU (by cases d<;>exact b)
 |NotIn=>
  cases e with
  |tup z=>exact .inl ⟨d,z,g,f,b.1,b.2.1,b.2.2.1,h.here (.bl _) c b.2.2.2⟩
  |ref a=>
   cases d<;>first|exact AU b|skip
   obtain⟨i,e,b⟩:=b;obtain⟨p,y,x⟩:=c.dct e;refine .inr (.inr ⟨a,.inl _,p,g.int_inv,f.ref_inv,y,?_⟩)
   rcases x.look (.inl _)with⟨n,m⟩|⟨d,v,n,m,_⟩<;>(rw[n]at b;rw[m];exact h.here (.bl _) c b)
  |ktup t=>
   cases d<;>first|exact AU b|skip
   cases f with
   |ktup r u=>exact .inr (.inl ⟨.inr _,t,_,g.str_inv,rfl,b.1,r.k,u,h.here (.bl _) c b.2⟩)
  |_=>exact AU (by cases d<;>exact b)
 |Is=>cases d<;>first|exact AU b|(cases e<;>first|exact AU b|exact⟨_,_,g.bl_inv,f.bl_inv,h.here (.bl _) c b⟩)
 |IsNot=>cases d<;>first|exact AU b|(cases e<;>first|exact AU b|exact⟨_,_,g.bl_inv,f.bl_inv,h.here (.bl _) c b⟩)
def R9(o:Dn)(b:AT)(h:∀a k p,b≠.Set a k p):CT o b=AE:=by
 cases b<;>first|rfl|exact absurd rfl (h _ _ _)
def cr1(c:X.A.units+200<Bw)(i:PE X a (up X.K ta))(h:PE X b (up X.K tb))(g:∀j k p,b≠.Set j k p):PE X (.Compare a [o] [b] pos) (up X.K λenv st Q=>ta env st λx st1=>tb env st1 λy st2=>o9 o x y st2 Q):=
 PE.imp (am7 (bc3 c o) i h (R9 o b g)) λσ H Q q=>up2 (f:=o9 o) q λv w d e H' st' Qd i1 i2 rs ht hq=>bg4 i1 i2 rs ht hq
def cn7(l:X.A.units+200<Bw)(r:PE X a (up X.K ta))(n:PE X b (up X.K tb))(m:∀u k p,b≠.Set u k p):
  PT X (.Compare a [o] [b] pos) (upB X.K λenv g Q=>ta env g λx st1=>tb env st1 λy st2=>o9 o x y st2 λd st'=>∃k,d=.bl k/\Q k st'):=
 PT.imp (ao6 (bc3 l o) r n (R9 o b m)) λσ H Q q=>by
  obtain⟨env,g,v,t,s,i,j⟩:=q;refine up2 (f:=o9 o) (Q:=λx H'=>∃k,x=.bl k/\Q k H') ⟨env,g,_,t,s,i,λv d H' st' ev is rs h=>?_⟩ λv w d e H' st' v i1 i2 rs i j=>bg4 i1 i2 rs i j;obtain⟨k,rfl,h⟩:=h;exact⟨k,is.bl_inv,j k H' st' ev rs h⟩
def ch7{j pos'}(g:PE X a (up X.K ta)):PE X (.Compare a [.Is] [.Constant .none j pos'] pos) (up X.K λenv st Q=>ta env st λx st1=>(x=.non/\Q (.bl AD) st1)\/(x≠.non/\Q (.bl AE) st1)):=
 PE.imp (be8 (bh6 g) rfl) λσ H Q q=>up1 (f:=λx st1 Q=>(x=.non/\Q (.bl AD) st1)\/(x≠.non/\Q (.bl AE) st1)) q λv d H' st' Qd is rs b hq=>by
  rcases b with⟨rfl,b⟩|⟨c,b⟩
  ·cases is;exact hq.here (.bl _) rs (by simpa using b)
  ·have e:AB (v=V.non)=AE:=decide_eq_false λz=>c (by subst z;cases is;rfl);rw[e];exact hq.here (.bl _) rs b
def b83{j pos'}(g:PE X a (up X.K ta)):PE X (.Compare a [.IsNot] [.Constant .none j pos'] pos) (up X.K λenv st Q=>ta env st λx st1=>(x=.non/\Q (.bl AE) st1)\/(x≠.non/\Q (.bl AD) st1)):=
 PE.imp (be8 (a91 g) rfl) λσ H Q q=>up1 (f:=λx st1 Q=>(x=.non/\Q (.bl AE) st1)\/(x≠.non/\Q (.bl AD) st1)) q λv d H' st' Qd is rs b hq=>by
  rcases b with⟨rfl,b⟩|⟨c,b⟩
  ·cases is;exact hq.here (.bl _) rs (by simpa using b)
  ·have e:AB (v=V.non)=AE:=decide_eq_false λz=>c (by subst z;cases is;rfl);rw[e];exact hq.here (.bl _) rs b
def bi7{t:TE}{f:DT}(h:PT X x (tB t))(i:∀σ H Q,up X.K f σ H Q->t σ H Q):PT X x (upB X.K λenv e Q=>f env e λd st'=>∃b,d=.bl b/\Q b st'):=PT.imp h λσ H Q q=>by
 obtain⟨env,e,m,l,k,g,j⟩:=q;refine i σ H _ ⟨env,e,_,l,k,g,λv d H' st' ev is rs q=>?_⟩;obtain⟨b,rfl,q⟩:=q;cases is;exact⟨b,rfl,j b H' st' ev rs q⟩
def cl0{j pos'}(h:PE X a (up X.K ta)):PT X (.Compare a [.Is] [.Constant .none j pos'] pos) (upB X.K λenv st Q=>ta env st λx st1=>(x=.non/\∃b,D.bl AD=.bl b/\Q b st1)\/(x≠.non/\∃b,D.bl AE=.bl b/\Q b st1)):=
 bi7 (f:=λenv st Q=>ta env st λx st1=>(x=.non/\Q (.bl AD) st1)\/(x≠.non/\Q (.bl AE) st1)) (bf8 (bh6 h) rfl) λσ H Q q=>up1 (f:=λx st1 Q=>(x=.non/\Q (.bl AD) st1)\/(x≠.non/\Q (.bl AE) st1)) q λv d H' st' Qd is rs c hq=>by
  rcases c with⟨rfl,c⟩|⟨g,c⟩
  ·cases is;exact hq.here (.bl _) rs (by simpa using c)
  ·have e:AB (v=V.non)=AE:=decide_eq_false λz=>g (by subst z;cases is;rfl);rw[e];exact hq.here (.bl _) rs c
def cc5{j pos'}(h:PE X a (up X.K ta)):PT X (.Compare a [.IsNot] [.Constant .none j pos'] pos) (upB X.K λenv st Q=>ta env st λx st1=>(x=.non/\∃b,D.bl AE=.bl b/\Q b st1)\/(x≠.non/\∃b,D.bl AD=.bl b/\Q b st1)):=
 bi7 (f:=λenv st Q=>ta env st λx st1=>(x=.non/\Q (.bl AE) st1)\/(x≠.non/\Q (.bl AD) st1)) (bf8 (a91 h) rfl) λσ H Q q=>up1 (f:=λx st1 Q=>(x=.non/\Q (.bl AE) st1)\/(x≠.non/\Q (.bl AD) st1)) q λv d H' st' Qd is rs c hq=>by
  rcases c with⟨rfl,c⟩|⟨g,c⟩
  ·cases is;exact hq.here (.bl _) rs (by simpa using c)
  ·have e:AB (v=V.non)=AE:=decide_eq_false λz=>g (by subst z;cases is;rfl);rw[e];exact hq.here (.bl _) rs c
@[reducible]noncomputable def tst(t:DT):DB:=λenv st Q=>t env st λd st'=>∃b,d=.bl b/\Q b st'
variable {j8:List AT}
def bg7(n:PE X a (up X.K ta))(m:PE X (.BoolOp .And (b::j8) pos) (up X.K tb)):PE X (.BoolOp .And (a::b::j8) pos) (up X.K λenv g Q=>ta env g λx st1=>∃c,x=.bl c/\(if c=AD then tb env st1 Q else Q (.bl AE) st1)):=
 PE.imp (ct3 n m) λσ H Q q=>by
  obtain⟨env,g,o,j,i,l,h⟩:=q;refine⟨env,g,_,j,i,l,λv d H1 st1 ev is rs f=>?_⟩;obtain⟨k,rfl,f⟩:=f;refine⟨k,is.bl_inv,?_⟩;cases k with
  |true=>exact⟨env,st1,o,j.mono (ev.tk i),rs,f,h.after ev⟩
  |false=>exact(h.after ev).here (.bl _) rs f
def bk2(n:PE X a (up X.K ta))(m:PE X (.BoolOp .Or (b::j8) pos) (up X.K tb)):PE X (.BoolOp .Or (a::b::j8) pos) (up X.K λenv g Q=>ta env g λx st1=>∃c,x=.bl c/\(if c=AD then Q (.bl AD) st1 else tb env st1 Q)):=
 PE.imp (c58 n m) λσ H Q q=>by
  obtain⟨env,g,o,j,i,l,h⟩:=q;refine⟨env,g,_,j,i,l,λv d H1 st1 ev is rs f=>?_⟩;obtain⟨k,rfl,f⟩:=f;refine⟨k,is.bl_inv,?_⟩;cases k with
  |false=>exact⟨env,st1,o,j.mono (ev.tk i),rs,f,h.after ev⟩
  |true=>exact(h.after ev).here (.bl _) rs f
def co5(e:PE X a (up X.K ta)):PE X (.UnaryOp .Not a pos) (up X.K λenv st Q=>ta env st λx st1=>∃c,x=.bl c/\Q (.bl (!c)) st1):=
 PE.imp (cj7 e) λσ H Q q=>up1 (f:=λx st1 Q=>∃c,x=.bl c/\Q (.bl (!c)) st1) q λv d H' st' Qd is rs b hq=>by
  obtain⟨c,rfl,b⟩:=b;exact⟨c,is.bl_inv,hq.here (.bl _) rs b⟩
def bg6(p:PT X a (upB X.K (tst ta)))(o:PW X (.BoolOp .And (b::j8) pos) (upB X.K (tst tb))):PW X (.BoolOp .And (a::b::j8) pos) (upB X.K (tst λenv h Q=>ta env h λx st1=>∃c,x=.bl c/\(if c=AD then tb env st1 Q else Q (.bl AE) st1))):=
 PW.imp (ct8 p o) λσ H Q q=>by
  obtain⟨env,h,i,m,l,n,j⟩:=q;refine⟨env,h,λc st1=>if c=AD then tb env st1 (λd st'=>∃b,d=.bl b/\i b st')else ∃b,D.bl AE=.bl b/\i b st1,m,l,n,λk H1 st1 ev rs g=>?_⟩;cases k with
  |true=>
   rw[if_pos rfl]at g ⊢;exact⟨env,st1,i,m.mono (ev.tk l),rs,g,λc H2 st2 ev2 rs2 q2=>j c H2 st2 (ev.trans ev2) rs2 q2⟩
  |false=>
   rw[if_neg AI]at g ⊢;obtain⟨b,e,g⟩:=g;cases e;exact j AE H1 st1 ev rs g
def bj1(p:PT X a (upB X.K (tst ta)))(o:PW X (.BoolOp .Or (b::j8) pos) (upB X.K (tst tb))):PW X (.BoolOp .Or (a::b::j8) pos) (upB X.K (tst λenv h Q=>ta env h λx st1=>∃c,x=.bl c/\(if c=AD then Q (.bl AD) st1 else tb env st1 Q))):=
 PW.imp (c39 p o) λσ H Q q=>by
  obtain⟨env,h,i,m,l,n,j⟩:=q;refine⟨env,h,λc st1=>if c=AD then ∃b,D.bl AD=.bl b/\i b st1 else tb env st1 (λd st'=>∃b,d=.bl b/\i b st'),m,l,n,λk H1 st1 ev rs g=>?_⟩;cases k with
  |false=>
   rw[if_neg AI]at g ⊢;exact⟨env,st1,i,m.mono (ev.tk l),rs,g,λc H2 st2 ev2 rs2 q2=>j c H2 st2 (ev.trans ev2) rs2 q2⟩
  |true=>
   rw[if_pos rfl]at g ⊢;obtain⟨b,e,g⟩:=g;cases e;exact j AD H1 st1 ev rs g
def cp7(j:PT X a (upB X.K (tst ta))):PT X (.UnaryOp .Not a pos) (upB X.K (tst λenv f Q=>ta env f λx st1=>∃c,x=.bl c/\Q (.bl (!c)) st1)):=
 PT.imp (cn9 j) λσ H Q q=>by
  obtain⟨env,f,m,l,k,h,i⟩:=q;refine⟨env,f,λc st1=>∃b,D.bl (!c)=.bl b/\m b st1,l,k,h,λk H1 st1 ev rs g=>?_⟩;obtain⟨b,e,g⟩:=g;cases e;exact i _ H1 st1 ev rs g
def ck8{i:DT}(m:PT X c (upB X.K (tst i)))(o:PE X a (up X.K ta))(n:PE X b (up X.K tb)):PE X (.IfExp c a b pos) (up X.K λenv f Q=>i env f λx st1=>∃k,x=.bl k/\(if k=AD then ta env st1 Q else tb env st1 Q)):=
 PE.imp (b27 m o n) λσ H Q q=>by
  obtain⟨env,f,e,h,g,l,j⟩:=q;refine⟨env,f,λk st1=>if k=AD then ta env st1 e else tb env st1 e,h,g,l,λk H1 st1 ev rs q1=>?_⟩;cases k with
  |true=>exact⟨env,st1,e,h.mono (ev.tk g),rs,q1,j.after ev⟩
  |false=>exact⟨env,st1,e,h.mono (ev.tk g),rs,q1,j.after ev⟩
end
end Ek
namespace Ek
open PySem PySem.Spec PyProof.Rows L2
variable [Tbs]
variable{H:Hp}{ds:List D}{vs:List V}{f m:Str}{fa Ca:AH}{fd:Bi}{ps:List Str}{sp:Spec}{es:List AT}{n:Nat}{Ph:Str->Spec}{apos:Pos}{ob:AT}
section
variable {X:Cx} {a b c:AT} {ta tb tc:DT} {pos p:Pos}
def bf2{K:AQ}{i:Int}{d:D}(r:IsDs K H ds vs)(h:atI ds i=AA d):∃v,atI vs i=AA v/\IsD K H d v:=by
 unfold atI at h ⊢;rw[<-r.len];cases e:ixN ds.length i with
 |none=>rw[e]at h;cases h
 |some j=>
  rw[e]at h;exact r.get h
def av7(h:∀l u s p,b≠.Slice l u s p):bc5 b:=λo i=>by
 cases b<;>first|rfl|exact absurd rfl (h _ _ _ _)
abbrev de1:R2:=λx y H Q=>∃p k kvs v,x=.ref p/\y=kV k/\H p=AA (.dK kvs)/\t9 kvs k=AA v/\Q v H
def cq6(t:X.A.units+200<Bw):IxR X de1:=by
 intro a b d s f H x y v u Q I j i h n;obtain⟨p,k,l,z,rfl,rfl,o,m,q⟩:=h;cases j;have g:A5 H p (kV k) (AA z):=by rw[<-m];exact A5.k o
 have e:=bp1 I g;unfold GL;refine AC ?_;rw[Iw e.not_modules];refine AC (Bm e PySem.F.slot_dict_getitem.lookup ?_);have c:AR (model X.prog X.w) X.A (subscripted b AE (.ref p) u) (λr s₃=>AR (model X.prog X.w) X.A (LI a (.ref p) r>>=λ_=>pure r) (EP X d f Q) X.xe s₃) X.xe s:=by
  rw[n];refine Kr (bu6 ⋯ I g i λw' s3 I3 rw'=>AC (JK (AL ⟨z,H,I3,rw',q⟩)))
 first
  |exact AL (AC c)
  |exact AC (AL (AC c))
  |exact AC c
def cw2(hu:X.A.units+200<Bw)(ha:PE X a (up X.K ta))(hb:PE X b (up X.K tb))(hs:∀l u s p,b≠.Slice l u s p):PE X (.Subscript a b pos) (up X.K λenv st Q=>ta env st λx st1=>tb env st1 λy st2=>ixR x y st2 Q):=
 PE.imp (c63 (cb1.or (cm0.or ((cq6 hu).or ct6))) ha hb (av7 hs)) λσ H Q q=>up2 (f:=ixR) q λv w d e H' st' Qd i1 i2 rs ht hq=>by
  cases d<;>first|exact AU ht|(cases e<;>first|exact AU ht|skip)
  ·obtain⟨c,hl,e1,ht⟩:=ht;exact .inr (.inr (.inr ⟨_,_,c,i1.str_inv,i2.int_inv,hl,e1,hq.here (.str _) rs ht⟩))
  ·obtain⟨d,e1,ht⟩:=ht;obtain⟨p,vs,rfl,hq',r⟩:=i1.tup_inv;obtain⟨v',e2,is⟩:=bf2 r e1;exact .inr (.inl ⟨p,vs,_,v',rfl,i2.int_inv,hq',e2,hq.here is rs ht⟩)
  ·rcases ht with⟨ds,d,hr,e1,ht⟩|⟨kvs,d,hr,e1,ht⟩
   ·obtain⟨vs,hq',r⟩:=rs.rd hr;obtain⟨v',e2,is⟩:=bf2 r e1;exact .inl ⟨_,vs,_,v',i1.ref_inv,i2.int_inv,hq',e2,hq.here is rs ht⟩
   ·obtain⟨vs,hH,r⟩:=rs.dct hr
    rcases r.look (.inl _)with⟨l1,l2⟩|⟨d',v',l1,l2,is⟩
    ·rw[l1]at e1;cases e1
    ·rw[l1]at e1;cases e1;exact .inr (.inr (.inl ⟨_,.inl _,vs,v',i1.ref_inv,i2.int_inv,hH,l2,hq.here is rs ht⟩))
  ·obtain⟨kvs,d,hr,e1,ht⟩:=ht;obtain⟨vs,hH,r⟩:=rs.dct hr
   rcases r.look (.inr _)with⟨l1,l2⟩|⟨d',v',l1,l2,is⟩
   ·rw[l1]at e1;cases e1
   ·rw[l1]at e1;cases e1;exact .inr (.inr (.inl ⟨_,.inr _,vs,v',i1.ref_inv,i2.str_inv,hH,l2,hq.here is rs ht⟩))
@[reducible]noncomputable def DO:=j6->Sto->(Option Int->Sto->Prop)->Prop
abbrev upO(K:AQ)(t:DO):TO:=λσ H Q=>∃env st Qd,RelE K H env σ/\RelS K st H/\t env st Qd/\∀o H' st',Ev st H st' H'->RelS K st' H'->Qd o st'->Q o H'
def _root_.L2.PO.imp{X:Cx}{x:Option AT}{t t':TO}(h:PO X x t)(i:∀a H Q,t' a H Q->t a H Q):PO X x t':=λpins s a H Q I q=>h pins s a H Q I (i a H Q q)
def ce5:PO X AF (upO X.K λ_ a k=>k AF a):=PO.imp b54 λσ H Q q=>by
 obtain⟨e,a,g,f,d,b,c⟩:=q;exact c AF H a Ev.refl d b
def cb4(h:PE X a (up X.K ta)):PO X (AA a) (upO X.K λenv c k=>ta env c λd st'=>∃i,d=.int i/\k (AA i) st'):=PO.imp (b90 h) λσ H Q q=>by
 obtain⟨env,c,m,l,j,f,g⟩:=q;refine⟨env,c,_,l,j,f,λv d H' st' ev is rs e=>?_⟩;obtain⟨i,rfl,e⟩:=e;exact⟨i,is.int_inv,g _ H' st' ev rs e⟩
def ap0{K:AQ}(r:IsDs K H ds vs)(lo hi:Option Int):IsDs K H (z5 ds lo hi) (O1 vs lo hi):=by
 unfold z5 O1;rw[r.len];exact(r.drop _).take _
def c30{lo hi:Option AT}{n o:DO}{s:Pos}(z:PE X a (up X.K ta))(w:PO X lo (upO X.K n))(y:PO X hi (upO X.K o)):
  PE X (.Subscript a (.Slice lo hi AF s) pos) (up X.K λenv i Q=>ta env i λx st1=>n env st1 λl st2=>o env st2 λh st3=>slR x l h st3 Q):=
 PE.imp (az8 (bh4.or cb2) z w y) λσ H Q q=>by
  obtain⟨env,i,B,m,k,t,hq⟩:=q;refine⟨env,i,_,m,k,t,λv d H1 st1 ev1 is1 rs1 q1=>⟨env,st1,_,m.mono (ev1.tk k),rs1,q1,λl H2 st2 ev2 rs2 q2=>⟨env,st2,_,(m.mono (ev1.tk k)).mono (ev2.tk rs1),rs2,q2,λh H3 st3 ev3 rs3 c=>?_⟩⟩⟩;have e:=(is1.mono (ev2.tk rs1)).mono (ev3.tk rs2);have f:=((hq.after ev1).after ev2).after ev3;cases d<;>first|exact AU c|skip
  ·obtain⟨p,g,rfl,j,r⟩:=e.tup_inv;exact .inl ⟨p,g,rfl,j,by rw[<-r.len];exact c.1,f.newT rs3 (ap0 r l h) c.2⟩
  ·obtain⟨A,u,c⟩:=c;obtain⟨g,j,r⟩:=rs3.rd u;exact .inr ⟨_,g,e.ref_inv,j,f.newL rs3 (ap0 r l h) c⟩
def N0(b:PE X a (up X.K ta))(h:∀e p,a≠.Starred e p):PA X [a] (upA X.K 1 λenv st Q=>ta env st λd st1=>Q [d] st1):=O8 b be5 h
def bi6{id:String}{r:List V->Hp->VK->Prop}{g:D->Sto->DK->Prop}(B:E9 X (.builtin id) r)(A:Gl X f)(z:X.mg f=AF)(t:BG f=AA (.builtin id))(C:PE X a (up X.K ta))(n:∀e p,a≠.Starred e p)
  (l:∀v d h b j Q,IsD X.K h d v->RelS X.K b h->g d b j->t6 X.K b h j Q->r [v] h Q) (y:f≠"__name__") (m:(f==("__debug__":Str))=AE) :
  PE X (.Call (.Name f p) [a] [] pos) (up X.K λenv k Q=>ta env k λx c=>g x c Q):=
 PE.imp (ab2 B A z t (N0 C n) y m (o5 n) rfl) λσ H Q q=>by
  obtain⟨env,k,j,F,E,u,w⟩:=q;refine⟨env,k,(λds c=>match ds with|[d]=>g d c j|_=>False),F,E,u,λvs ds h b ev is hl rs q1=>?_⟩
  match ds,hl with
  |[d],_=>
   obtain⟨v,G,rfl,s,o⟩:=is.inv_cons;rw[o.inv_nil];exact l v d h b j Q s rs q1 (w.after ev)
def aq2{T:String}{r:List V->Hp->VK->Prop}{g:D->Sto->DK->Prop}(B:E9 X (.type T) r)(A:Gl X f)(z:X.mg f=AF)(t:BG f=AA (.type T))(C:PE X a (up X.K ta))(n:∀e p,a≠.Starred e p)
  (l:∀v d h b j Q,IsD X.K h d v->RelS X.K b h->g d b j->t6 X.K b h j Q->r [v] h Q) (y:f≠"__name__") (m:(f==("__debug__":Str))=AE) :
  PE X (.Call (.Name f p) [a] [] pos) (up X.K λenv k Q=>ta env k λx c=>g x c Q):=
 PE.imp (bv1 B A z t (N0 C n) y m (o5 n) rfl) λσ H Q q=>by
  obtain⟨env,k,j,F,E,u,w⟩:=q;refine⟨env,k,(λds c=>match ds with|[d]=>g d c j|_=>False),F,E,u,λvs ds h b ev is hl rs q1=>?_⟩
  match ds,hl with
  |[d],_=>
   obtain⟨v,G,rfl,s,o⟩:=is.inv_cons;rw[o.inv_nil];exact l v d h b j Q s rs q1 (w.after ev)
def bz4:BG "max"=AA (.builtin "max"):=by decide+kernel
def bo6:BG "isinstance"=AA (.builtin "isinstance"):=by decide+kernel
def bz6:BG "int"=AA (.type "int"):=by decide+kernel
def ax1:BG "list"=AA (.type "list"):=by decide+kernel
def bo8:BG "tuple"=AA (.type "tuple"):=by decide+kernel
def cs8(i:Gl X "len")(h:X.mg "len"=AF)(j:PE X a (up X.K ta))(c:∀e p,a≠.Starred e p):PE X (.Call (.Name "len" p) [a] [] pos) (up X.K λenv st Q=>ta env st λx st1=>R1 x st1 Q):=
 bi6 bn6 i h PySem.boot_len j c (λv d H' st' Qd Q is rs b hq=>by
  cases d<;>first|exact AU b|skip
  ·obtain⟨p,f,rfl,c,r⟩:=is.tup_inv;exact⟨p,f,rfl,.inr c,by rw[<-r.len];exact hq.here (.int _) rs b⟩
  ·obtain⟨k,g,b⟩:=b;obtain⟨f,c,r⟩:=rs.rd g;exact⟨_,f,by rw[is.ref_inv],.inl c,by rw[<-r.len];exact hq.here (.int _) rs b⟩) ∅ ∅
def b49(f:Gl X "int")(c:X.mg "int"=AF)(g:PE X a (up X.K ta))(b:∀e p,a≠.Starred e p):PE X (.Call (.Name "int" p) [a] [] pos) (up X.K λenv st Q=>ta env st λx st1=>X4 x st1 Q):=
 aq2 bv8 f c bz6 g b (λv d H' st' Qd Q is rs ht hq=>by
  cases d<;>first|exact AU ht|skip
  ·exact .inr ⟨_,by rw[is.bl_inv],hq.here (.int _) rs ht⟩
  ·exact .inl ⟨_,by rw[is.int_inv],hq.here (.int _) rs ht⟩) ∅ ∅
def cf8(i:Gl X "list")(h:X.mg "list"=AF)(j:PE X a (up X.K ta))(c:∀e p,a≠.Starred e p):PE X (.Call (.Name "list" p) [a] [] pos) (up X.K λenv st Q=>ta env st λx st1=>X7 x st1 Q):=
 aq2 bn4 i h ax1 j c (λv d H' st' Qd Q is rs b hq=>by
  cases d<;>first|exact AU b|skip
  ·obtain⟨p,f,rfl,c,r⟩:=is.tup_inv;exact⟨p,f,rfl,.inr c,hq.newL rs r b⟩
  ·obtain⟨k,g,b⟩:=b;obtain⟨f,c,r⟩:=rs.rd g;exact⟨_,f,by rw[is.ref_inv],.inl c,hq.newL rs r b⟩) ∅ ∅
def b09(i:Gl X "tuple")(h:X.mg "tuple"=AF)(j:PE X a (up X.K ta))(c:∀e p,a≠.Starred e p):PE X (.Call (.Name "tuple" p) [a] [] pos) (up X.K λenv st Q=>ta env st λx st1=>T7 x st1 Q):=
 aq2 bn0 i h bo8 j c (λv d H' st' Qd Q is rs b hq=>by
  cases d<;>first|exact AU b|skip
  ·obtain⟨p,f,rfl,c,r⟩:=is.tup_inv;exact⟨p,f,rfl,.inr ⟨c,hq.here is rs b⟩⟩
  ·obtain⟨k,g,b⟩:=b;obtain⟨f,c,r⟩:=rs.rd g;exact⟨_,f,by rw[is.ref_inv],.inl ⟨c,hq.newT rs r b⟩⟩) ∅ ∅
def ac4(f:PE X a (up X.K ta))(c:PE X b (up X.K tb))(h:∀e p,a≠.Starred e p)(h':∀e p,b≠.Starred e p):PA X [a,b] (upA X.K 2 λenv st Q=>ta env st λd st1=>tb env st1 λe st2=>Q [d,e] st2):=O8 f (N0 c h') h
def cr6(B:X.calm=AD)(A:Gl X "max")(z:X.mg "max"=AF)(D:PE X a (up X.K ta))(C:PE X b (up X.K tb))(l:∀e p,a≠.Starred e p)(g:∀e p,b≠.Starred e p):
  PE X (.Call (.Name "max" p) [a,b] [] pos) (up X.K λenv h Q=>ta env h λx c=>tb env c λy st2=>∃i j,x=.int i/\y=.int j/\Q (.int (if j>i then j else i)) st2):=
 PE.imp (ab2 (bv2 B) A z bz4 (ac4 D C l g) ∅ ∅ (o5 l) (by rw[o5 g];rfl)) λσ H Q q=>by
  obtain⟨env,h,G,F,E,t,u⟩:=q;refine⟨env,h,(λds c=>match ds with|[x,y]=>∃i j,x=.int i/\y=.int j/\G (.int (if j>i then j else i)) c|_=>False),F,E,t,λvs ds H' st' ev is hl rs k=>?_⟩
  match ds,hl with
  |[d,e],_=>
   obtain⟨v,I,rfl,s,r⟩:=is.inv_cons;obtain⟨w,m,rfl,o,n⟩:=r.inv_cons;rw[n.inv_nil];obtain⟨i,j,rfl,rfl,k⟩:=k;exact⟨i,j,by rw[s.int_inv,o.int_inv],(u.after ev).here (.int _) rs k⟩
omit [Tbs]in
theorem bh5:∀ks:List Key,CK (D.pys (ks.map kD)) (D.pys (ks.map kD))=AD
 |[]=>rfl
 |k::r=>by
  show(deq (kD k) (kD k)&&CK (D.pys (r.map kD)) (D.pys (r.map kD)))=AD;rw[bh5 r,bj9,decide_eq_true rfl];rfl
omit [Tbs]in
theorem bf9:∀ks:List Key,Bs (D.pys (ks.map kD))=0
 |[]=>rfl
 |k::r=>by
  have e:l6 (kD k)=0:=by cases k<;>rfl
  show max (l6 (kD k)) (Bs (D.pys (r.map kD)))=0;rw[bf9 r,e];rfl
def bd2(o:X.A.units+200<Bw)(i:Bool):OpR X (Bq (if i then .NotEq else .Eq)) (λx y H Q=>∃a b,∃d:List Key,x=.ref a/\y=.ref b/\SqT X.K H a (d.map kV)/\SqT X.K H b (d.map kV)/\D.pures (d.map kD)=AD/\Q (.bl (!i)) H):=by
 intro f s j H x y v u Q I l k h;obtain⟨a,b,d,rfl,rfl,n,m,p,q⟩:=h
 letI T:Tbs:=⟨[],λ_ _ _ _=>True,AD⟩
 have g:∀{c:AH},SqT X.K H c (d.map kV)->@IsD T X.K H (.tup (d.map kD)) (.ref c):=λsq=>IsD.mk (.inr ⟨rfl,sq⟩) (ab9 d);have e:deq (.tup (d.map kD)) (.tup (d.map kD))=AD:=by
  show At (.tuple _) (.tuple _)=AD;rw[At];exact bh5 d
 have r:EL (l6 (.tup (d.map kD))) (l6 (.tup (d.map kD)))<=150:=by
  refine BB (Ef _ _) ?_;show Dm (.tuple _)<=150;rw[Dm,bf9];decide
 cases i with
 |true=>exact @bf3 T X o f s j H _ _ v u Q I l k ⟨_,_,g n,g m,p,p,r,by rw[e];exact q⟩
 |false=>exact @bd9 T X o f s j H _ _ v u Q I l k ⟨_,_,g n,g m,p,p,r,by rw[e];exact q⟩
theorem bj4{K:AQ}:∀{b:List Key}{a:List V},IsDs K H (b.map kD) a->a=b.map kV
 |[],a,r=>r.inv_nil
 |k::b,a,r=>by
  obtain⟨v,f,rfl,d,c⟩:=r.inv_cons;have e:v=kV k:=by cases k<;>(cases d;rfl)
  rw[e,bj4 c];rfl
def a94{h:Bool}{v w:V}{d e:D}{H':Hp}{c:Sto}{j:DK}{Q:VK}(q:IsD X.K H' d v)(p:IsD X.K H' e w)(m:RelS X.K c H')(f:Q3 h d e c j)(r:t6 X.K c H' j Q):∃a b,∃g:List Key,v=.ref a/\w=.ref b/\SqT X.K H' a (g.map kV)/\SqT X.K H' b (g.map kV)/\D.pures (g.map kD)=AD/\Q (.bl (!h)) H':=by
 cases d<;>first|exact AU f|(cases e<;>first|exact AU f|skip)
 obtain⟨rfl,f⟩:=f;obtain⟨b,t,rfl,o,n⟩:=p.tup_inv;cases bj4 n;cases q with
 |ktup l s=>exact⟨_,_,_,rfl,rfl,l.k,o,s,r.here (.bl _) m f⟩
def b94{c:Bool}{o:Dn}(h:o=if c then .NotEq else .Eq)(g:X.A.units+200<Bw)(l:PE X a (up X.K ta))(j:PE X b (up X.K tb))(i:∀m k p,b≠.Set m k p):PE X (.Compare a [o] [b] pos) (up X.K λenv st Q=>ta env st λx st1=>tb env st1 λy st2=>Q3 c x y st2 Q):=by
 subst h;exact PE.imp (am7 (bd2 g c) l j (R9 _ b i)) λσ H Q q=>up2 (f:=Q3 c) q λv w d e H' st' Qd i1 i2 rs ht hq=>a94 i1 i2 rs ht hq
def ce9{g:Bool}{o:Dn}(n:o=if g then .NotEq else .Eq)(m:X.A.units+200<Bw)(t:PE X a (up X.K ta))(s:PE X b (up X.K tb))(r:∀z k p,b≠.Set z k p):
  PT X (.Compare a [o] [b] pos) (upB X.K λenv h Q=>ta env h λx st1=>tb env st1 λy st2=>Q3 g x y st2 λd st'=>∃k,d=.bl k/\Q k st'):=by
 subst n;refine PT.imp (ao6 (bd2 m g) t s (R9 _ b r)) λσ H Q q=>?_;obtain⟨env,h,B,v,u,j,l⟩:=q;refine up2 (f:=Q3 g) (Q:=λx H'=>∃k,x=.bl k/\Q k H') ⟨env,h,_,v,u,j,λv d H' st' ev is rs i=>?_⟩ λv w d e H' st' B i1 i2 rs j l=>a94 i1 i2 rs j l;obtain⟨k,rfl,i⟩:=i;exact⟨k,is.bl_inv,l k H' st' ev rs i⟩
abbrev M8:List String:=["tuple","int","bool","str","list"]
def ap7(K:AQ):∀t∈M8,∀b∈["NoneType","bool","int","str","tuple","list"],Dp K (.type b) (.type t)=AA (b==t||(b=="bool"&&t=="int")):=by
 intro t c b a;simp only[M8,AN,AZ,or_false]at c a
 rcases c with rfl|rfl|rfl|rfl|rfl<;>rcases a with rfl|rfl|rfl|rfl|rfl|rfl<;>first|rfl|(unfold Dp;rfl)|(unfold Dp;first|(rw[if_pos ∅];rfl)|(rw[if_neg ∅];decide+kernel))
def cm9{T:Pos}{t:String}(i:t∈M8)(hg:Gl X "isinstance")(hm:X.mg "isinstance"=AF)(N:Gl X f)(M:X.mg f=AF)(n:BG f=AA (.type t))(hn:f≠"__name__")(O:(f==("__debug__":Str))=AE)(ha:PE X a (up X.K ta))(hs:∀e p,a≠.Starred e p):
  PE X (.Call (.Name "isinstance" p) [a,.Name f T] [] pos) (up X.K λenv D Q=>ta env D λx st1=>Y0 t x st1 Q):=by
 intro m s R H Q I q;obtain⟨env,D,Qd,hE,hS,ht,L⟩:=q;have P:PA X [a,.Name f T] (aq8 (up X.K ta) (aq8 (tC (.ty t)) at1)):=ao2 ha (ao2 (cb5 (v:=.ty t) N M n rfl hn O) bd7 rfl) (o5 hs);refine ab2 (r:=λvs H Q=>(∃x ty b,vs=[x,.ty t]/\TyOf X.K H x ty/\Dp X.K ty (.type t)=AA b/\Q (.bl b) H)\/∃l C b,vs=[.ref l,.ty t]/\SqT X.K H l C/\Dp X.K (.type "tuple") (.type t)=AA b/\Q (.bl b) H) ?_ hg hm bo6 P ∅ ∅ (o5 hs) rfl m s R H Q I ?_
 ·intro m s R H vs us Q I r h
  rcases h with⟨x,ty,b,rfl,A,y,q⟩|⟨l,C,b,rfl,A,y,q⟩
  ·obtain⟨u,v,rfl,F,E⟩:=r.two;cases E;exact bw0 I F A y λtk=>⟨.bl b,H,I.tok _,rfl,q⟩
  ·obtain⟨u,v,rfl,F,E⟩:=r.two;cases E;cases F;obtain⟨its,_,⟨o,e1,e2,_⟩,_⟩:=I.tupleD A;exact Ck LD I.kIn ⟨o,e1,e2⟩ y (λz=>nomatch z) λtk=>⟨.bl b,H,I.tok _,rfl,q⟩
 ·refine⟨env,D,_,hE,hS,ht,λv d H' st' ev is rs j=>?_⟩;have c:∀ty:String,ty∈["NoneType","bool","int","str","tuple","list"]->TyOf X.K H' v (.type ty)->Qd (.bl (ty==t||(ty=="bool"&&t=="int"))) st'->(∃x ty b,[v,V.ty t]=[x,.ty t]/\TyOf X.K H' x ty/\Dp X.K ty (.type t)=AA b/\Q (.bl b) H')\/∃l C b,[v,V.ty t]=[.ref l,.ty t]/\SqT X.K H' l C/\Dp X.K (.type "tuple") (.type t)=AA b/\Q (.bl b) H':=λty hty A y=>.inl ⟨v,.type ty,_,rfl,A,ap7 X.K t i ty hty,(L.after ev).here (.bl _) rs y⟩
  rcases j with⟨ty,e,j⟩|⟨b,ds,rfl,hr,j⟩
  ·cases d<;>first|(simp[tyD]at e;done)|skip
   all_goals (simp only[tyD,CA]at e;subst e)
   ·cases is;exact c "NoneType" ∎ .non j
   ·cases is;exact c "bool" ∎ (.bl _) j
   ·cases is;exact c "int" ∎ (.int _) j
   ·cases is;exact c "str" ∎ (.str _) j
   ·obtain⟨l,vs,rfl,J,r⟩:=is.tup_inv;exact .inr ⟨l,vs,_,rfl,J,ap7 X.K t i "tuple" ∎,(L.after ev).here (.bl _) rs j⟩
   ·cases is with
    |ktup sq _=>exact .inr ⟨_,_,_,rfl,sq.k,ap7 X.K t i "tuple" ∎,(L.after ev).here (.bl _) rs j⟩
  ·obtain⟨vs,G,r⟩:=rs.rdR hr;rw[is.ref_inv];have S:Qd (.bl ("list"==t||("list"=="bool"&&t=="int"))) st':=by
    have e:("list"==t||("list"=="bool"&&t=="int"))=(t=="list"):=by simp only[M8,AN,AZ,or_false]at i;rcases i with rfl|rfl|rfl|rfl|rfl<;>decide
    rw[e];exact j
   rw[is.ref_inv]at c
   rcases G with h|⟨o,h⟩
   ·exact c "list" ∎ (.lst h) S
   ·exact c "list" ∎ (.frz h) S
abbrev z4(K:AQ)(sp:Spec):Sp:=λvs H Q _=>∃ds st Qd,IsDs K H ds vs/\RelS K st H/\sp ds st Qd/\t6 K st H Qd Q
def cg4{f:Str}{k:Nat}{t:DA}(F:FnOk X.prog X.w X.K X.mg X.base CX0 k fa fd ps (z4 X.K sp))(g:Room k X.A)(j:Gl X f)(h:X.mg f=AA (.ref fa))(i:Bh X.K (.ref fa)=AD)
  (l:p7 X.K fd ps []) (m:PA X (a::es) (upA X.K n t)) (c:(f==("__debug__":Str))=AE) (d:∀e p,a≠.Starred e p) (b:(Bv pos (Am es X.env)).any (·.1)=AE) :
  PE X (.Call (.Name f p) (a::es) [] pos) (up X.K λenv st Q=>t env st λds st1=>sp ds st1 Q):=
 PE.imp (a96 F g j h i l .nil G2 m c (o5 d) b) λσ H Q q=>ae1 (f:=sp) q λvs ds H' st' Qd is hl rs ht hq=>⟨ds,st',Qd,by rw[BZ];exact is,rs,ht,hq⟩
def b46{f:Str}{k:Nat}{t:DA}(F:FnOk X.prog X.w X.K X.mg X.base CX0 k fa fd ps (z4 X.K sp))(g:Room k X.A)(j:Gl X f)(h:X.mg f=AA (.ref fa))(i:Bh X.K (.ref fa)=AD)
  (l:p7 X.K fd ps [.none]) (m:PA X (a::es) (upA X.K n t)) (c:(f==("__debug__":Str))=AE) (d:∀e p,a≠.Starred e p) (b:(Bv pos (Am es X.env)).any (·.1)=AE) :
  PE X (.Call (.Name f p) (a::es) [] pos) (up X.K λenv st Q=>t env st λds st1=>sp (ds++[.non]) st1 Q):=
 PE.imp (a96 F g j h i l (dvs:=[.non]) (.cons rfl .nil) G2 m c (o5 d) b) λσ H Q q=>ae1 (f:=λds=>sp (ds++[.non])) q λvs ds H' st' Qd is hl rs ht hq=>⟨ds++[.non],st',Qd,is.append (.cons .non .nil),rs,ht,hq⟩
def cx8(h:Gl X f)(g:X.mg f=AA (.ref fa))(a:Ay X.K AO f=AA (AA (.ref fa)))(b:(f==("__debug__":Str))=AE):PE X (.Name f p) (up X.K λ_ c Q=>Q (.fn f) c):=
 PE.imp (bb3 (v:=.ref fa) h g rfl b) λσ H Q q=>by
  obtain⟨j,c,l,k,i,d,e⟩:=q;exact e.here (.fn a) i d
abbrev Y3(K:AQ)(f:AH)(fd:Bi)(np:Nat)(N:List Str)(cs:List D)(sp:Spec):Sp:=λvs H Q _=>∃us ds st Qd,CloR H f fd np N us/\IsDs K H cs us/\IsDs K H ds vs/\RelS K st H/\sp ds st Qd/\t6 K st H Qd Q
def CloR.fnAt{f:AH}{e:Nat}{N:List Str}{us:List V}(h:CloR H f fd e N us)(I:Inv X pins σ H s):W.FnAt f s.heap:=by
 obtain⟨o,u,j,_,i⟩:=h.ex;obtain⟨g,_⟩:=I.hok f _ j;obtain⟨d,c,k,b⟩:=o;have a:k=.func fd:=i;subst a;exact⟨d,c,fd,b,g⟩
def bx4{i:Nat}{x:Str}{t:DA}{Z:Sg}(hN:X.N[i]?=AA x)(hv:Vis X.env.scope x)(hd:(x==("__debug__":Str))=AE)(L:(x==("__classdict__":Str))=AE)
  (hF:∀f g,Z.F f=AD->Ay X.K AO f=AA (AA (.ref g))->∃k o z,FnOk X.prog X.w X.K X.mg X.base CX0 k g o z (z4 X.K (Z.Phi f))/\Room k X.A/\Bh X.K (.ref g)=AD/\p7 X.K o z [])
  (hC:∀B N b C g o z,CloF o B N z b->∃k,FnOk X.prog X.w X.K X.mg X.base CX0 k g o z (Y3 X.K g o B N C (Z.PhiC B N b C))/\Room k X.A)
  (ha:PA X (a::es) (upA X.K n t)) (hs:∀e p,a≠.Starred e p) (J:(Bv pos (Am es X.env)).any (·.1)=AE) :
  PE X (.Call (.Name x p) (a::es) [] pos) (up X.K λenv y Q=>∃x,env[i]?=AA (AA x)/\V0 Z (t env) y Q x):=by
 intro l s P H Q I q;obtain⟨env,y,D,hE,M,⟨d,he,hc⟩,hq⟩:=q;obtain⟨v,G,E⟩:=hE.at' i _ he;cases d with
 |fn f=>
  obtain⟨hf,U⟩:Z.F f=AD/\t env y λds c=>Z.Phi f ds c D:=hc;obtain⟨g,rfl,Y⟩:∃g,v=.ref g/\Ay X.K AO f=AA (AA (.ref g)):=by cases E with|fn h=>exact⟨_,rfl,h⟩
  obtain⟨k,o,z,Fo,V,hk,hb⟩:=hF f g hf Y;refine CI (thn (ap1 hN hv hd L l s P H (λv u=>v=.ref g/\u=H) I ⟨_,G,rfl,rfl⟩) λu s1 z34=>?_);obtain⟨v,u,O,S,e1,e2⟩:=z34;subst e1 e2;cases S;refine EC (h₀:=X.base) O.ok.mod.kin hk (thn (ha pos l s1 P u (λvs H2=>∃ds c,Ev y u c H2/\IsDs X.K H2 ds vs/\RelS X.K c H2/\Z.Phi f ds c D) O ⟨env,y,_,hE,M,U,λvs ds H' st' ev is hl rs q=>⟨ds,st',ev,is,rs,q⟩⟩) λus s2⟨vs,H2,I2,r,ds,c,ev,is,rs,q⟩=>⟨I2.kIn,?_⟩) (o5 hs) J;exact P8 Fo V hb .nil G2 I2 r ⟨ds,c,D,by rw[BZ];exact is,rs,q,hq.after ev⟩
 |clo B N b C=>
  have U:t env y λds c=>Z.PhiC B N b C ds c D:=hc;obtain⟨g,R,rfl,ca,T⟩:∃g us,v=.ref g/\Y1 H g B N b us/\IsDs X.K H C us:=by cases E with|clo h1 h2 h3=>exact⟨_,_,rfl,h1,h2,h3⟩
  obtain⟨o,z,cf,cr⟩:=ca;obtain⟨k,Fo,V⟩:=hC B N b C g o z cf;refine CI (thn (ap1 hN hv hd L l s P H (λv u=>v=.ref g/\u=H) I ⟨_,G,rfl,rfl⟩) λu s1 z35=>?_);obtain⟨v,u,O,S,e1,e2⟩:=z35;subst e1 e2;cases S;refine W.callWith_F (cr.fnAt O) (thn (ha pos l s1 P u (λvs H2=>∃ds c,Ev y u c H2/\IsDs X.K H2 ds vs/\RelS X.K c H2/\Z.PhiC B N b C ds c D) O ⟨env,y,_,hE,M,U,λvs ds H' st' ev is hl rs q=>⟨ds,st',ev,is,rs,q⟩⟩) λus s2⟨vs,H2,I2,r,ds,c,ev,is,rs,q⟩=>⟨(cr.mono (K:=X.K) (ev.tk M)).fnAt I2,?_⟩) (o5 hs) J;exact P8 Fo V (.all cf.bind) .nil G2 I2 r ⟨R,ds,c,D,cr.mono (K:=X.K) (ev.tk M),T.mono (ev.tk M),by rw[BZ];exact is,rs,q,hq.after ev⟩
 |_=>exact(hc:False).elim
def b03{B z:AT}{y:Pos}{t:DA}{R:DT}{F:Str->Bool}(hf:PE X (.Subscript B z y) (up X.K R))
  (hF:∀f j,F f=AD->Ay X.K AO f=AA (AA (.ref j))->∃k N D,FnOk X.prog X.w X.K X.mg X.base CX0 k j N D (z4 X.K (Ph f))/\Room k X.A/\Bh X.K (.ref j)=AD/\p7 X.K N D [])
  (ha:PA X (a::es) (upA X.K n t)) (Y:∀e p,a≠.Starred e p) (J:(Bv pos (Am es X.env)).any (·.1)=AE) :
  PE X (.Call (.Subscript B z y) (a::es) [] pos) (up X.K λenv u Q=>R env u λx c=>∃f,x=.fn f/\F f=AD/\t env c λds b=>Ph f ds b Q):=by
 intro i s P H Q I q;obtain⟨env,u,O,T,S,W,hq⟩:=q;have e:eval (.Call (.Subscript B z y) (a::es) [] pos) X.env=(do
  callWith pos (<-eval (.Subscript B z y) X.env) [] (Bv pos (Am (a::es) X.env)) (FA pos (DV [] X.env))):=rfl
 rw[e];refine AC (thn (hf i s P H (λv m=>∃d c,Ev u H c m/\IsD X.K m d v/\RelS X.K c m/\∃f,d=.fn f/\F f=AD/\t env c λds b=>Ph f ds b O) I ⟨env,u,_,T,S,W,λv d H' st' ev is rs q=>⟨d,st',ev,is,rs,q⟩⟩) λu s1 z36=>?_);obtain⟨v,m,U,V,d,c,o,E,C,f,e1,M,G⟩:=z36;subst e1;obtain⟨j,rfl,L⟩:∃j,v=.ref j/\Ay X.K AO f=AA (AA (.ref j)):=by cases E with|fn h=>exact⟨_,rfl,h⟩
 obtain⟨k,N,D,Fo,Z,hk,hb⟩:=hF f j M L;cases V;refine EC (h₀:=X.base) U.ok.mod.kin hk (thn (ha pos i s1 P m (λvs H2=>∃ds b,Ev c m b H2/\IsDs X.K H2 ds vs/\RelS X.K b H2/\Ph f ds b O) U ⟨env,c,_,T.mono (o.tk S),C,G,λvs ds H' st' ev is hl rs q=>⟨ds,st',ev,is,rs,q⟩⟩) λus s2⟨vs,H2,I2,r,ds,b,ev,is,rs,q⟩=>⟨I2.kIn,?_⟩) (o5 Y) J;exact P8 Fo Z hb .nil G2 I2 r ⟨ds,b,O,by rw[BZ];exact is,rs,q,hq.after (o.trans ev)⟩
def E5{o:AT}{b:Str}{env:Env}{w:Sem AG}(h:∀i p a,o≠.Call (.Name i p) [] [] a):Cp o b env w=w:=by
 unfold Cp
 split
 ·exact absurd rfl (h _ _ _)
 ·rfl
def ck4{f:Str}{C:Str->List Str}(y:∀c h,Ay X.K AO c=AA (AA (.ref h))->f∈C c->Cls X.K h/\G0 X.K h f)(v:PE X a (up X.K ta))(b:Cp a f X.env (eval a X.env)=eval a X.env):
  PE X (.Attribute a f pos) (up X.K λenv st Q=>ta env st λx st1=>∃p c g d,x=.ref p/\st1 p=AA (.ins c g)/\f∈C c/\g.lookup f=AA d/\Q d st1):=
 PE.imp (cv2 v b) λσ H Q q=>up1 (f:=λx st1 Q=>∃p c g d,x=.ref p/\st1 p=AA (.ins c g)/\f∈C c/\g.lookup f=AA d/\Q d st1) q λv d H' st' Qd is rs l hq=>by
  obtain⟨p,c,g,e,rfl,s,u,i,l⟩:=l;obtain⟨h,z,m,w,t,r⟩:=rs.ins s;obtain⟨B,A⟩:=y c h t u
  rcases r.look f with⟨j,_⟩|⟨D,n,j,o,k⟩
  ·rw[j]at i;cases i
  ·rw[j]at i;cases i;exact⟨p,h,z,m,n,is.ref_inv,w,B,A,o,hq.here k rs l⟩
def ao5{o:AT}{a:Pos}{b:List AT}{env:Env}(g:∀i p h,o≠.Call (.Name i p) [] [] h)(c:EX (b.length+0) (Bv a (Am b env)) (FA a (DV [] env))=AD)(d:(apos.endLine==a.line)=AD):
  eval (.Call (.Attribute o m apos) b [] a) env=(do
   let e <-eval o env
   Hd apos.atName
   let(f,first) <-holding [e] (KS e m (do return (<-importBound o env).getD AD))
   callWith a f first (Bv a (Am b env)) (FA a (DV [] env))):=by
 rw[arm_eval_Call,E5 g]
 congr 1
 funext e
 congr 1
 funext _
 unfold methodCall;simp only[Ao]at c ⊢;rw[c];unfold methodCallPos calleeOf;simp only[d,EK,HP,if_true];rfl
def cc9{t:DA}{F:Str->Bool}
  (hM:∀c D,Ay X.K AO c=AA (AA (.ref D))->F (f6 c m)=AD->∃k f O L,Cls X.K D/\Meth X.K D m f/\FnOk X.prog X.w X.K X.mg X.base CX0 k f O L (z4 X.K (Ph (f6 c m)))/\Room k X.A/\p7 X.K O L [])
  (B:EX ((a::es).length+0) (Bv pos (Am (a::es) X.env)) (FA pos (DV [] X.env))=AD) (u:(apos.endLine==pos.line)=AD) (N:∀i p p',ob≠.Call (.Name i p) [] [] p') (ho:PE X ob (up X.K ta)) (ha:PA X (a::es) (upA X.K n t)) (hs:∀e p,a≠.Starred e p) (M:(Bv pos (Am es X.env)).any (·.1)=AE) :
  PE X (.Call (.Attribute ob m apos) (a::es) [] pos) (up X.K λenv G Q=>ta env G λx b=>∃p c l,x=.ref p/\b p=AA (.ins c l)/\l.lookup m=AF/\F (f6 c m)=AD/\t env b λds g=>Ph (f6 c m) (.ref p::ds) g Q):=by
 intro j s R H Q I q;obtain⟨env,G,P,W,V,ht,hq⟩:=q;refine HH (thn (ho j s R H (λv z=>∃p c l b,v=.ref p/\Ev G H b z/\RelS X.K b z/\b p=AA (.ins c l)/\l.lookup m=AF/\F (f6 c m)=AD/\t env b λds g=>Ph (f6 c m) (.ref p::ds) g P) I ⟨env,G,_,W,V,ht,λv d z b C is y J=>?_⟩) λu s1 z37=>?_) (ao5 N B u)
 ·obtain⟨p,c,l,rfl,J⟩:=J;exact⟨p,c,l,b,is.ref_inv,C,y,J⟩
 obtain⟨v,z,Z,rx,p,c,l,b,C,Y,y,h1,h2,h3,h4⟩:=z37;subst C;cases rx;obtain⟨D,dx,vs,hH,hn,r⟩:=y.ins h1;obtain⟨k,f,O,L,cl,S,Fo,hr,hb⟩:=hM c D hn h3;have U:vs.lookup m=AF:=by
  rcases r.look m with⟨_,l2⟩|⟨d',v',T,_,_⟩
  ·exact l2
  ·rw[h2]at T;cases T
 refine ak5 Z hH cl S U ?_;refine EC (first:=[.ref p]) (h₀:=X.base) I.ok.mod.kin S.kp (thn (ha pos j s1 R z (λvs H2=>∃ds g,Ev b z g H2/\IsDs X.K H2 ds vs/\RelS X.K g H2/\Ph (f6 c m) (.ref p::ds) g P) Z ⟨env,b,_,W.mono (Y.tk V),y,h4,λvs ds H' st' C is U y q=>⟨ds,st',C,is,y,q⟩⟩) λus s2⟨vs,H2,I2,r2,ds,g,ev2,is2,rs2,q2⟩=>⟨I2.kIn,?_⟩) (o5 hs) M;exact P8 (us:=.ref p::us) (vs:=.ref p::vs) Fo hr hb .nil G2 I2 (.cons rfl r2) ⟨.ref p::ds,g,P,by rw[BZ];exact .cons (.ref p) is2,rs2,q2,(hq.after Y).after ev2⟩
def bx0{C:Str->List Str}{t:DA}{F:Str->Bool}
  (hM:∀c E i,Ay X.K AO c=AA (AA (.ref E))->F (f6 c m)=AD->t4 C (f6 c m)=AA i->∃k f P M T,Cls X.K E/\Meth X.K E m f/\FnOk X.prog X.w X.K X.mg X.base CX0 k f P M (z4 X.K (Ph (f6 c m)))/\Room k X.A/\p7 X.K P M [.int i T])
  (B:EX ((a::es).length+0) (Bv pos (Am (a::es) X.env)) (FA pos (DV [] X.env))=AD) (u:(apos.endLine==pos.line)=AD) (O:∀i p p',ob≠.Call (.Name i p) [] [] p') (ho:PE X ob (up X.K ta)) (ha:PA X (a::es) (upA X.K n t)) (hs:∀e p,a≠.Starred e p) (N:(Bv pos (Am es X.env)).any (·.1)=AE) :
  PE X (.Call (.Attribute ob m apos) (a::es) [] pos) (up X.K λenv J Q=>ta env J λx b=>∃p c l i,x=.ref p/\b p=AA (.ins c l)/\l.lookup m=AF/\F (f6 c m)=AD/\t4 C (f6 c m)=AA i/\t env b λds g=>Ph (f6 c m) (.ref p::(ds++[.int i])) g Q):=by
 intro j s S H Q I q;obtain⟨env,J,R,Z,Y,ht,hq⟩:=q;refine HH (thn (ho j s S H (λv z=>∃p c l i b,v=.ref p/\Ev J H b z/\RelS X.K b z/\b p=AA (.ins c l)/\l.lookup m=AF/\F (f6 c m)=AD/\t4 C (f6 c m)=AA i/\t env b λds g=>Ph (f6 c m) (.ref p::(ds++[.int i])) g R) I ⟨env,J,_,Z,Y,ht,λv d z b D is y L=>?_⟩) λu s1 z38=>?_) (ao5 O B u)
 ·obtain⟨p,c,l,i,rfl,L⟩:=L;exact⟨p,c,l,i,b,is.ref_inv,D,y,L⟩
 obtain⟨v,z,I1,rx,p,c,l,i,b,D,e1,y,h1,h2,h3,h5,h4⟩:=z38;subst D;cases rx;obtain⟨E,dx,vs,hH,hn,r⟩:=y.ins h1;obtain⟨k,f,P,M,T,cl,U,Fo,hr,hb⟩:=hM c E i hn h3 h5;have W:vs.lookup m=AF:=by
  rcases r.look m with⟨_,l2⟩|⟨d',v',V,_,_⟩
  ·exact l2
  ·rw[h2]at V;cases V
 refine ak5 I1 hH cl U W ?_;refine EC (first:=[.ref p]) (h₀:=X.base) I.ok.mod.kin U.kp (thn (ha pos j s1 S z (λvs H2=>∃ds g,Ev b z g H2/\IsDs X.K H2 ds vs/\RelS X.K g H2/\Ph (f6 c m) (.ref p::(ds++[.int i])) g R) I1 ⟨env,b,_,Z.mono (e1.tk Y),y,h4,λvs ds H' st' D is W y q=>⟨ds,st',D,is,y,q⟩⟩) λus s2⟨vs,H2,I2,r2,ds,g,ev2,is2,rs2,q2⟩=>⟨I2.kIn,?_⟩) (o5 hs) N;exact P8 (us:=.ref p::us) (vs:=.ref p::vs) Fo hr hb (dvs:=[.int i]) (.cons ⟨_,rfl⟩ .nil) G2 I2 (.cons rfl r2) ⟨.ref p::(ds++[.int i]),g,R,.cons (.ref p) (is2.append (.cons (.int i) .nil)),rs2,q2,(hq.after e1).after ev2⟩
def b18{F:Str->Bool}
  (Z:∀c j,Ay X.K AO c=AA (AA (.ref j))->F (f6 c m)=AD->∃k f z u,Cls X.K j/\Meth X.K j m f/\FnOk X.prog X.w X.K X.mg X.base CX0 k f z u (z4 X.K (Ph (f6 c m)))/\Room k X.A/\p7 X.K z u [])
  (e:(apos.endLine==pos.line)=AD) (y:∀i p N,ob≠.Call (.Name i p) [] [] N) (T:PE X ob (up X.K ta)) :
  PE X (.Call (.Attribute ob m apos) [] [] pos) (up X.K λenv l Q=>ta env l λx a=>∃p c b,x=.ref p/\a p=AA (.ins c b)/\b.lookup m=AF/\F (f6 c m)=AD/\Ph (f6 c m) [.ref p] a Q):=by
 intro g s J H Q I q;obtain⟨env,l,G,hE,Y,P,S⟩:=q;refine HH (thn (T g s J H (λv o=>∃p c b a,v=.ref p/\Ev l H a o/\RelS X.K a o/\a p=AA (.ins c b)/\b.lookup m=AF/\F (f6 c m)=AD/\Ph (f6 c m) [.ref p] a G) I ⟨env,l,_,hE,Y,P,λv d o a B is n t=>?_⟩) λu s1 z39=>?_) (ao5 y rfl e)
 ·obtain⟨p,c,b,rfl,t⟩:=t;exact⟨p,c,b,a,is.ref_inv,B,n,t⟩
 obtain⟨v,o,C,M,p,c,b,a,B,e1,n,h1,h2,h3,h4⟩:=z39;subst B;cases M;obtain⟨j,dx,L,hH,U,r⟩:=n.ins h1;obtain⟨k,f,z,u,cl,D,Fo,R,W⟩:=Z c j U h3;have V:L.lookup m=AF:=by
  rcases r.look m with⟨_,O⟩|⟨d',v',E,_,_⟩
  ·exact O
  ·rw[h2]at E;cases E
 refine ak5 C hH cl D V ?_;exact Ko (first:=[.ref p]) C.kIn D.kp (P8 (us:=[.ref p]) (vs:=[.ref p]) Fo R W .nil G2 C (.cons rfl .nil) ⟨[.ref p],a,G,by rw[BZ];exact .cons (.ref p) .nil,n,h4,S.after e1⟩)
def bc0{c:Str}{f:Hp}{st e:Sto}{t:DK}{Q:VK}(E:Ay X.K AO c=AA (AA (.ref Ca)))(F:Ev st H e f)(C:IsDs X.K f ds vs)(r:RelS X.K e f)(D:t6 X.K st H t Q)
  (q:∀p,e p=AF->sp (.ref p::ds) (b0 e p (.ins c [])) λv st2=>v=.non/\t (.ref p) st2):∀x a,f x=AF->f a=AF->a≠x->z4 X.K sp (.ref x::(vs++[])) (upd (upd f a (.own x)) x (.ins Ca a [])) (λv H2=>v=.non/\Q (.ref x) H2) E0:=by
 intro x a l g m;have j:TK X.K f (upd f a (.own x)):=TK.new g;have i:upd f a (.own x) x=AF:=by rw[i9 (λz=>m z.symm)];exact l
 have h:TK X.K (upd f a (.own x)) (upd (upd f a (.own x)) x (.ins Ca a [])):=TK.new i;refine⟨.ref x::ds,b0 e x (.ins c []),_,by rw[BZ];exact .cons (.ref x) ((C.mono j).mono h),(r.new g).putAny (ob:=.ins c []) h ⟨Ca,a,[],p8,E,.nil⟩ (by rw[i];exact λ_=>nofun),q x (r.free l),λv d H2 st2 ev2 is2 rs2 k=>?_⟩;obtain⟨rfl,k⟩:=k;cases is2;refine⟨rfl,D _ (.ref x) H2 st2 (λb o hb hs=>?_) (.ref x) rs2 k⟩;obtain⟨⟨A,n,w⟩,J⟩:=F b o hb hs;have s:b≠x:=v4 n l;have B:b≠a:=v4 n g;obtain⟨⟨y,I,u⟩,G⟩:=ev2 b A (by rw[i9 s,i9 B];exact n) (by rw[E2 s];exact J);exact⟨⟨y,I,w.trans u⟩,G⟩
def ca4{c:Str}{k:Nat}{t:DA}{f:AH}(o:Ay X.K AO c=AA (AA (.ref Ca)))(M:Mk X.K Ca f)(B:FnOk X.prog X.w X.K X.mg X.base CX0 k f fd ps (z4 X.K sp))(l:Room (k+1) X.A)(s:Gl X c)(r:X.mg c=AA (.ref Ca))(u:p7 X.K fd ps [])
  (x:PA X (a::es) (upA X.K n t)) (h:(c==("__debug__":Str))=AE) (j:∀e p,a≠.Starred e p) (g:(Bv pos (Am es X.env)).any (·.1)=AE) :
  PE X (.Call (.Name c p) (a::es) [] pos) (up X.K λenv d Q=>t env d λds st1=>∀p,st1 p=AF->sp (.ref p::ds) (b0 st1 p (.ins c [])) λv st2=>v=.non/\Q (.ref p) st2):=
 PE.imp (b95 M B l s r u .nil G2 x h (o5 j) g) λσ H Q q=>by
  obtain⟨env,d,C,z,y,i,m⟩:=q;exact⟨env,d,_,z,y,i,λvs ds H' st' ev is hl rs q=>bc0 o ev is rs m q⟩
def b35{c:Str}{k:Nat}{f:AH}(h:Ay X.K AO c=AA (AA (.ref Ca)))(M:Mk X.K Ca f)(o:FnOk X.prog X.w X.K X.mg X.base CX0 k f fd ps (z4 X.K sp))(e:Room (k+1) X.A)(j:Gl X c)(i:X.mg c=AA (.ref Ca))(l:p7 X.K fd ps [])(b:(c==("__debug__":Str))=AE):
  PE X (.Call (.Name c p) [] [] pos) (up X.K λenv a Q=>∀p,a p=AF->sp [.ref p] (b0 a p (.ins c [])) λv st2=>v=.non/\Q (.ref p) st2):=
 PE.imp (bw8 M o e j i l .nil G2 b) λσ H Q q=>by
  obtain⟨n,a,s,r,m,d,g⟩:=q;exact bc0 (ds:=[]) (vs:=[]) h Ev.refl .nil m g d
def tyL{K:AQ}{st:Sto}{d:D}{v:V}(c:IsD K H d v)(b:RelS K st H)(h:C6 d st):tyV K "list" v H:=by
 cases d<;>first|exact AU h|skip
 obtain⟨g,f⟩:=h;obtain⟨a,e,_⟩:=b.rd f;rw[c.ref_inv];exact .inl ⟨rfl,a,e⟩
def ar7{z:Str}{id:String}{r:V->List V->Hp->VK->Prop}{g:D->D->Sto->DK->Prop}(m:Slot "list" z id)(t:typeOf (.builtin id)=pure (.type "method_descriptor"))(L:MtR X id r)
  (N:PE X a (up X.K ta)) (M:PE X b (up X.K tb)) (k:∀i p C,a≠.Call (.Name i p) [] [] C) (u:∀e p,b≠.Starred e p) (j:(apos.endLine==pos.line)=AD)
  (s:∀v w d e l c n Q,IsD X.K l d v->IsD X.K l e w->RelS X.K c l->g d e c n->t6 X.K c l n Q->r v [w] l Q) :
  PE X (.Call (.Attribute a z apos) [b] [] pos) (up X.K λenv o Q=>ta env o λx st1=>C6 x st1/\tb env st1 λy h=>g x y h Q):=
 PE.imp (c11 PySem.F.plainAttrs_list m t L N (N0 M u) (E5 k) (by rw[o5 u];rfl) j (o5 u) rfl) λσ H Q q=>by
  obtain⟨env,o,n,B,A,I,J⟩:=q;refine⟨env,o,_,B,A,I,λv d H1 st1 ev is rs q1=>⟨tyL is rs q1.1,?_⟩⟩;refine⟨env,st1,(λds h=>match ds with|[e]=>g d e h n|_=>False),B.mono (ev.tk A),rs,q1.2,λvs ds l c ev2 is2 hl rs2 q2=>?_⟩
  match ds,hl with
  |[e],_=>
   obtain⟨w,O,rfl,G,E⟩:=is2.inv_cons;rw[E.inv_nil];exact s v w d e l c n Q (is.mono (ev2.tk rs)) G rs2 q2 ((J.after ev).after ev2)
def ci6(q:PE X a (up X.K ta))(o:PE X b (up X.K tb))(f:∀i p l,a≠.Call (.Name i p) [] [] l)(n:∀e p,b≠.Starred e p)(c:(apos.endLine==pos.line)=AD):
  PE X (.Call (.Attribute a "append" apos) [b] [] pos) (up X.K λenv st Q=>ta env st λx st1=>C6 x st1/\tb env st1 λy st2=>Y9 x y st2 Q):=
 ar7 PySem.F.slot_list_append PySem.F.type_list_append ay1 q o f n c λv w d e H' st' Qd Q i1 i2 rs g hq=>by
  cases d<;>first|exact AU g|skip
  obtain⟨s,h,m,g⟩:=g;obtain⟨k,j,r⟩:=rs.lst h;rw[i1.ref_inv];exact⟨_,k,w,rfl,rfl,j,by rw[<-r.len];exact m,hq _ _ _ _ (Ev.put h) .non (rs.putOld j (r.append (.cons i2 .nil))) g⟩
def bp8(l:AH)(c:Array AG)(n:Nat)(b:AH)(a:Array AG)(m:Nat)(k:Array (Option AG))(o:¬(!c.isEmpty&&CB (c.size+a.size))=AD)(i:c.size<=sizeLine)(f:c.size+a.size<=sizeLine+1):
  JM (Ci.«list.extend» ⟨[.ref l,.ref b],[]⟩) (λ_ R s=>s.heap.get? l=AA {cls:=.type "list",dict:=AF,data:=.seq c n,slots:=#[]}/\s.heap.get? b=AA {cls:=.type "tuple",dict:=AF,data:=.seq a m,slots:=k}/\R (.ok (.ret Bc)) {s with heap:=s.heap.update l (CD λx=>x++a),toks:=s.toks}):=
 .of_wp λprog w A R s h=>by
  obtain⟨t,g,d,q,r⟩:=s;obtain⟨j,p,h⟩:=h;have B:=AutoSeq1.idx_int;have z:=AutoSeq1.sub_tuple_tuple;have y:=AutoSeq1.sub_list_list;have v:=AutoSeq1.sub_tuple_list;have u:=AutoSeq1.sub_list_tuple;have e:(c++a).size<=sizeLine+1:=by rw[Array.size_append];exact f
  wp_walk using(ED j rfl (hz:=i) (_hz':=e)),GZ j,GZ p;exact⟨_,rfl,h⟩
abbrev az6(K:AQ):V->List V->Hp->VK->Prop:=λx vs H Q=>∃l b xs zs,x=.ref l/\vs=[.ref b]/\H l=AA (.lst xs)/\SqT K H b zs/\xs.length+zs.length<=sizeLine/\Q .non (upd H l (.lst (xs++zs)))
def br6:MtM X "list.extend" (az6 X.K):=by
 intro i s J H x O v P Q I y A h;obtain⟨l,b,N,L,rfl,rfl,j,E,R,q⟩:=h;cases y;obtain⟨u,rfl,B⟩:=A.one;cases B;obtain⟨z,c,n,r,S,e⟩:=I.lstM j;obtain⟨a,g,⟨o,F,p,m,C,k⟩,M⟩:=I.tupleD E;obtain⟨G,T,t,w⟩:=o;simp only at p m k;subst p m k;have D:=g.length;have f:c.toArray.size+a.toArray.size<=sizeLine:=by rw[Ab,Ab];lia
 have d:¬(!c.toArray.isEmpty&&CB (c.toArray.size+a.toArray.size))=AD:=by
  rw[a71 f,Ja];exact AI
 refine DQ JJ ⟨_,e,rfl⟩ Iv (Ik _ _)
  (bp8 l c.toArray n b a.toArray C w d (by rw[Ab];lia) ⋯) ⟨e,F,?_⟩
 refine⟨.non,_,I.lset (its':=c++a) j e ∎ (r.append g) ?_,rfl,q⟩;rw[Ad];lia
def cf1:MtM X "list.extend" (λx vs H Q=>bb4 x vs H Q\/az6 X.K x vs H Q):=λpins s σ H x vs v us Q I rx rv h=>h.elim (bs8 pins s σ H x vs v us Q I rx rv) (br6 pins s σ H x vs v us Q I rx rv)
def cl2(z:PE X a (up X.K ta))(v:PE X b (up X.K tb))(g:∀i p t,a≠.Call (.Name i p) [] [] t)(u:∀e p,b≠.Starred e p)(f:(apos.endLine==pos.line)=AD):
  PE X (.Call (.Attribute a "extend" apos) [b] [] pos) (up X.K λenv st Q=>ta env st λx st1=>C6 x st1/\tb env st1 λy st2=>V6 x y st2 Q):=
 ar7 PySem.F.slot_list_extend PySem.F.type_list_extend cf1 z v g u f λv w d e H' st' Qd Q i1 i2 rs c hq=>by
  cases d<;>first|exact AU c|(cases e<;>first|exact AU c|skip)
  ·obtain⟨A,j,n,c⟩:=c;obtain⟨m,k,r⟩:=rs.lst j;obtain⟨b,l,rfl,q,h⟩:=i2.tup_inv;rw[i1.ref_inv];exact .inr ⟨_,_,m,l,rfl,rfl,k,q,by rw[<-r.len,<-h.len];exact n,hq _ _ _ _ (Ev.put j) .non (rs.putOld k (r.append h)) c⟩
  ·obtain⟨A,B,j,o,n,c⟩:=c;obtain⟨m,k,r⟩:=rs.lst j;obtain⟨l,s,h⟩:=rs.lst o;rw[i1.ref_inv,i2.ref_inv];exact .inl ⟨_,_,m,l,rfl,rfl,k,s,by rw[<-r.len,<-h.len];exact n,hq _ _ _ _ (Ev.put j) .non (rs.putOld k (r.append h)) c⟩
def b23(A:PE X a (up X.K ta))(z:PE X b (up X.K tb))(f:∀i p s,a≠.Call (.Name i p) [] [] s)(t:∀e p,b≠.Starred e p)(c:(apos.endLine==pos.line)=AD):
  PE X (.Call (.Attribute a "pop" apos) [b] [] pos) (up X.K λenv st Q=>ta env st λx st1=>C6 x st1/\tb env st1 λy st2=>ap4 x y st2 Q):=
 ar7 PySem.F.slot_list_pop PySem.F.type_list_pop b10 A z f t c λv w d e H' st' Qd Q i1 i2 rs g hq=>by
  cases d<;>first|exact AU g|(cases e<;>first|exact AU g|skip)
  rename_i i;obtain⟨⟨H,G⟩,E,k,d,m,u,v,g⟩:=g;obtain⟨n,l,r⟩:=rs.lst m;obtain⟨o,j,h⟩:=r.get v;rw[i1.ref_inv,i2.int_inv];obtain⟨q,D,C,B⟩:=ao0 u;exact⟨_,n,_,k,o,rfl,rfl,l,⋯,⋯,by rw[<-r.len];exact q,j,hq _ _ _ _ (Ev.put m) (h.mono (TK.put l)) (rs.putOld l (r.erase k)) g⟩
def ci3(u:PE X a (up X.K ta))(c:∀i p t,a≠.Call (.Name i p) [] [] t)(b:(apos.endLine==pos.line)=AD):
  PE X (.Call (.Attribute a "pop" apos) [] [] pos) (up X.K λenv st Q=>ta env st λx st1=>Z3 x st1 Q):=
 PE.imp (be4 PySem.F.plainAttrs_list PySem.F.slot_list_pop PySem.F.type_list_pop ct0 u (E5 c) b) λσ H Q q=>up1 (f:=Z3) q λv d H' st' Qd is rs h hq=>by
  cases d<;>first|exact AU h|skip
  obtain⟨k,d,o,h⟩:=h;obtain⟨g,j,r⟩:=rs.lst o;have n:=r.len;rw[Ad,Hv]at n;obtain⟨s,m,l⟩:=r.get (i:=k.length) (d:=d) ∎;rw[is.ref_inv];refine⟨.inl ⟨rfl,g,.inl (.inl j)⟩,_,g,s,rfl,rfl,j,by rw[<-n,Iq];exact m,hq _ _ _ (b0 st' _ (.lst k)) (Ev.put o) (l.mono (TK.put j)) (rs.putOld j ?_) h⟩;have e:g.dropLast=g.take k.length:=by rw[List.dropLast_eq_take,<-n,Iq]
  rw[e];have q:=r.take k.length
  rwa [JQ]at q
  rfl
end
end Ek
namespace Ek
open PySem PySem.Spec PyProof.Rows L2
variable [Tbs]
end Ek
namespace Ek
open PySem PySem.Spec PyProof.Rows L2
variable [Tbs]
variable{s:AK}{g:Str}{kvs:List (Str×D)}
section
variable {X:Cx} {a b c:AT} {ta tb tc:DT} {pos p:Pos}
@[reducible]noncomputable def G4(h:BC)(a:AH)(T:List (Str×AG)):Prop:=KTD.TabOf (λ(d v:AG)=>v=d) h a T
def G4.typeIs{a:AH}{T:List (Str×AG)}(t:G4 s.heap a T):s.TypeIs (.ref a) "dict":=let⟨_,o,_,_,b,c,_⟩:=t;⟨o,b,c.1⟩
def G4.get{prog:An}{w:Ax}{A:BU}{E:AG->AK->Prop}{s:AK}{a:AH}{T:List (Str×AG)}{k:Str}{tk:Tok}{Q:Option AG->AK->Prop}(t:G4 s.heap a T)
  (h:Q (Bz k T) {s with toks:=s.toks+1}):AR (model prog w) A (KG a (.str k tk)) Q E s:=by
 obtain⟨_,o,⟨l⟩,n,c,m,f,b⟩:=t;unfold KG
 try with_reducible refine Bd ?_
 refine AC (Ex (AC (KTD.kt_dictFind_strs (s:={s with toks:=s.toks+1}) c f (by simpa using b.exact) ?_)));have e:Bz k T=(l.find? λe=>e.key.isStr k).map (·.val):=by
  cases hat:Bz k T with
  |some d=>obtain⟨v,g,rfl⟩:=b.find_some hat;exact g.symm
  |none=>exact(b.find_none hat).symm
 have j:findBy (λk v=>v.isStr k) (⟨l⟩:Array Do) k=Bz k T:=by rw[e];simp[findBy]
 rw[<-j,findBy_of_findIdx?]at h;cases hi:(⟨l⟩:Array Do).findIdx? λe=>e.key.isStr k with
 |none=>rw[hi]at h;exact AL h
 |some i=>rw[hi]at h;exact AC (wpAny_dictEntries (s:={s with toks:=s.toks+1}) c f (AL h))
def bp0{prog:An}{w:Ax}{A:BU}{E:AG->AK->Prop}{a:AH}{T:List (Str×AG)}{k:Str}{tk:Tok}{u:AG}{Q:AG->AK->Prop}(H:G4 s.heap a T)(b:Bz k T=AA u)
  (h:Q u {s with toks:=s.toks+1}):AR (model prog w) A (Dr (.ref a) (.str k tk)) Q E s:=by
 unfold Dr
 try with_reducible refine Bd ?_
 refine AC (Gi H.typeIs ∅ ?_);refine AC (BM (name:=Aa "__getitem__") H.typeIs KH
  (BL KH H.typeIs entry_dict_getitem ?_ (args_dict_getitem _ _)))
 show AR _ _ (KG a (.str k tk)>>=_) _ _ s;refine AC (H.get ?_);rw[b];exact AL ⟨u,rfl,AL h⟩
def G4.dget{prog:An}{w:Ax}{A:BU}{E:AG->AK->Prop}{a:AH}{T:List (Str×AG)}{k:Str}{tk:Tok}{r:AG}{Q:AG->AK->Prop}(t:G4 s.heap a T)
  (h:Q ((Bz k T).getD r) {s with toks:=s.toks+1}):AR (model prog w) A (call (.builtin "dict.get") [.ref a,.str k tk,r]) Q E s:=by
 refine BL PySem.F.slot_dict_get t.typeIs PySem.F.entry_dict_get ?_ (PySem.F.args_dict_get_3 _ _ _);show AR _ _ (KG a (.str k tk)>>=_) _ _ s;refine AC (t.get ?_);cases hf:Bz k T with
 |some v=>rw[hf]at h;exact AL ⟨v,rfl,h⟩
 |none=>
  rw[hf]at h;show AR _ _ (Kt a (.str k tk)>>=_) _ _ _;exact AC (wpAny_missed_other t.1 (AL ⟨r,rfl,h⟩))
structure GTab(P:An)(w:Ax)(K:AQ)(mg:Str->Option AG)(g:Str)(kvs:List (Str×D)):Prop where
 ex:∃(a:AH)(T:List (Str×AG)),mg g=AA (.ref a)/\(∀h:BC,K.In h->G4 h a T)/\(∀x d,u3 kvs x=AA d->∃u v,Bz x T=AA u/\i6 v u/\∀H,IsD K H d v)/\∀x,u3 kvs x=AF->Bz x T=AF
def ca2(T:kvs≠[]->GTab X.prog X.w X.K X.mg g kvs)(P:Gl X g)(R:PE X b (up X.K tb))(M:∀l u s p,b≠.Slice l u s p)(o:(g==("__debug__":Str))=AE):
  PE X (.Subscript (.Name g p) b pos) (up X.K λenv h Q=>kvs≠[]/\tb env h λx st1=>∃w d,x=.str w/\u3 kvs w=AA d/\Q d st1):=by
 intro i s r H Q I q;obtain⟨env,h,A,V,U,⟨n,j⟩,m⟩:=q;obtain⟨t,E,N,S,O,_⟩:=(T n).ex;have q:up X.K (λenv h Q=>tb env h λx st1=>∃w d,x=.str w/\u3 kvs w=AA d/\Q d st1) r H Q:=⟨env,h,A,V,U,j,m⟩;refine cc1 PySem.F.slot_dict_getitem.lookup (av7 M) (S8 I P N ?_ o);refine thn (R i s r H (λv H1=>∃(w:Str)(d:D),v=.str w/\u3 kvs w=AA d/\∀e,IsD X.K H1 d e->Q e H1) I (up1 (f:=λx st1 Q=>∃w d,x=.str w/\u3 kvs w=AA d/\Q d st1) q λv d H' st' A is rs j m=>?_)) λiv s2 z40=>?_
 ·obtain⟨w,d,rfl,k,j⟩:=j;exact⟨w,d,is.str_inv,k,λv' a=>m.here a rs j⟩
 ·obtain⟨y,C,B,G,w,d,Y,k,L⟩:=z40;subst Y;obtain⟨Z,rfl⟩:=G;obtain⟨u,e,W,J,a⟩:=O w d k;have z:G4 s2.heap t E:=S s2.heap B.kIn;exact⟨z.typeIs,bp0 z W ⟨e,C,B.tok _,J,L e (a C)⟩⟩
def b89{j:Pos}(T:kvs≠[]->GTab X.prog X.w X.K X.mg g kvs)(hg:Gl X g)(hb:PE X b (up X.K tb))(C:PE X c (up X.K tc))(V:∀e p,b≠.Starred e p)(n:∀e p,c≠.Starred e p)(k:(j.endLine==pos.line)=AD)(B:(g==("__debug__":Str))=AE):
  PE X (.Call (.Attribute (.Name g p) "get" j) [b,c] [] pos) (up X.K λenv l Q=>kvs≠[]/\tb env l λx f=>tc env f λy a=>∃w,x=.str w/\Q ((u3 kvs w).getD y) a):=by
 intro i s D H Q I q;obtain⟨env,l,O,M,L,⟨A,U⟩,E⟩:=q;obtain⟨t,P,Y,J,Z,r⟩:=(T A).ex;have N:Bv pos (Am [b,c] X.env)=[(AE,eval b X.env),(AE,eval c X.env)]:=by rw[o5 V,o5 n];rfl
 refine KC (E5 (λ_ _ _=>nofun)) (by rw[N];rfl) k PySem.F.plainAttrs_dict PySem.F.slot_dict_get PySem.F.type_dict_get (S8 I hg Y ?_ B);have G:G4 s.heap t P:=J s.heap I.kIn;refine⟨G.typeIs,λb e=>?_,?_⟩
 ·injection e with e
  subst e;obtain⟨_,o,_,_,W,C,_⟩:=G;exact⟨o,W,C.2.1⟩
 ·rw[N];refine DJ rfl (FB (DC (thn (hb i s D H (λv H1=>∃d f,Ev l H f H1/\IsD X.K H1 d v/\RelS X.K f H1/\tc env f λy a=>∃w,d=.str w/\O ((u3 kvs w).getD y) a) I ⟨env,l,_,M,L,U,λv d H' st' ev is rs q=>⟨d,st',ev,is,rs,q⟩⟩) λiv s2⟨y,H2,I2,ry,d,f,ev1,is1,rs1,q1⟩=>
   DC (thn (C i s2 D H2 (λv H3=>∃e a,Ev f H2 a H3/\IsD X.K H3 e v/\RelS X.K a H3/\∃w,d=.str w/\O ((u3 kvs w).getD e) a) I2 ⟨env,f,_,M.mono (ev1.tk L),rs1,q1,λv d H' st' ev is rs q=>⟨d,st',ev,is,rs,q⟩⟩) λfv s3⟨z,H3,I3,rz,e,a,ev2,is2,rs2,w,ew,q2⟩=>EF ?_))))
  subst ew;rw[is1.str_inv]at ry;obtain⟨tt,rfl⟩:=ry;refine(J s3.heap I3.kIn).dget ?_;cases lk:u3 kvs w with
  |some dv=>
   obtain⟨u,R,h1,S,m⟩:=Z w dv lk;rw[lk]at q2;rw[h1];exact⟨R,H3,I3.tok _,S,(E.after (ev1.trans ev2)).here (m H3) rs2 q2⟩
  |none=>
   rw[lk]at q2;rw[r w lk];exact⟨z,H3,I3.tok _,rz,(E.after (ev1.trans ev2)).here is2 rs2 q2⟩
abbrev P7:List Key->List AG->Bool
 |[],us=>us.isEmpty
 |k::ks,us=>Ds (motive:=λ_=>Bool) us AE λu us=>Sum.casesOn (motive:=λ_=>Bool) k (λi=>GK i u) (λx=>HA x u)&&P7 ks us
theorem P7.is:∀{b:List Key}{a:List AG},P7 b a=AD->g9 (b.map kV) a
 |[],[],_=>.nil
 |.inl i::b,u::a,h=>by
  have h:=FD.mp h;exact .cons (Fl h.1) (P7.is h.2)
 |.inr x::b,u::a,h=>by
  have h:=FD.mp h;exact .cons (Hz h.1) (P7.is h.2)
abbrev at2(ks:List Key):Option Obj->Bool
 |some o=>(match o.data with|.seq its _=>(o.cls==.type "tuple")&&o.dict.isNone&&AB (its.size<=1000)&&(P7 ks its.toList&&D.pures (ks.map kD))|_=>AE)
 |none=>AE
abbrev J7(K:AQ):D->AG->Bool
 |.int j,u=>GK j u
 |.fn f,.ref a=>Ay K AO f==AA (AA (.ref a))
 |.ktup ns,.ref a=>at2 ns (K.lookup a)
 |_,_=>AE
theorem J7.is{K:AQ}{d:D}{u:AG}(h:J7 K d u=AD):∃v,i6 v u/\∀H,IsD K H d v:=by
 cases d<;>first|exact⟨.int _,Fl h,λH=>.int _⟩|(cases u<;>first|exact nomatch (show AE=AD from h)|skip)
 ·exact⟨.ref _,rfl,λH=>.fn (Kb h)⟩
 ·rename_i f a;have h:at2 f (K.lookup a)=AD:=h;cases hk:K.lookup a with
  |none=>rw[hk]at h;cases h
  |some o=>
   obtain⟨c,d,x,g⟩:=o;rw[hk]at h;cases x<;>first|exact nomatch (show AE=AD from h)|skip
   rename_i e n;simp only[at2,BJ,beq_iff_eq,decide_eq_true_eq]at h;exact⟨.ref a,rfl,λH=>.ktup (.inr ⟨_,e,n,hk,h.1.1.1,by simpa using h.1.1.2,rfl,BB h.1.2 ∅,P7.is h.2.1⟩) h.2.2⟩
abbrev ar3(K:AQ)(e:Do)(p:Str×D):Bool:=(match e.key with|.str x _=>x==p.1|_=>AE)&&J7 K p.2 e.val
abbrev U0(K:AQ):List Do->List (Str×D)->Bool
 |[],[]=>AD
 |e::es,p::ps=>ar3 K e p&&U0 K es ps
 |_,_=>AE
abbrev U8(K:AQ)(a:AH)(kvs:List (Str×D)):Bool:=match K.lookup a with
 |some ⟨c,dd,.dict es _,sl⟩=>(c==.type "dict")&&dd.isNone&&sl.isEmpty&&U0 K es.toList kvs&&!(a==CS)
 |_=>AE
abbrev V2:List Do->List (Str×D)->List (Str×AG)
 |e::es,(x,_)::r=>(x,e.val)::V2 es r
 |_,_=>[]
theorem a98{K:AQ}:∀(c:List Do)(b:List (Str×D)),U0 K c b=AD->KTD.Rows (λ(d v:AG)=>v=d) c (V2 c b)
 |[],[],_=>.nil
 |[],_::_,a=>by cases a
 |_::_,[],a=>by cases a
 |e::c,(x,d)::g,a=>by
  simp only[U0,ar3,BJ]at a;obtain⟨⟨f,_⟩,h⟩:=a
  split at f
  ·rename_i y t i;have:y=x:=by simpa using f
   subst this;exact .cons i rfl (a98 c g h)
  ·cases f
theorem am0{K:AQ}:∀(a:List (Str×D))(c:List Do),U0 K c a=AD->∀x,(∀d,u3 a x=AA d->∃u v,Bz x (V2 c a)=AA u/\i6 v u/\∀H,IsD K H d v)/\(u3 a x=AF->Bz x (V2 c a)=AF)
 |[],[],_,x=>⟨λd h=>(nomatch h),λ_=>rfl⟩
 |[],_::_,b,x=>by cases b
 |(y,e)::r,[],b,x=>by cases b
 |(y,e)::r,m::c,b,x=>by
  simp only[U0,ar3,BJ]at b;obtain⟨⟨_,l⟩,k⟩:=b;have j:=am0 r c k x;simp only[u3,V2,Bz]
  by_cases f:y=x
  ·rw[if_pos f,if_pos (by simp[f])];obtain⟨v,g,i⟩:=J7.is l;exact⟨λd h=>by cases h;exact⟨_,v,rfl,g,i⟩,λh=>by cases h⟩
  ·rw[if_neg f,if_neg (by simp[Aw f])];exact j
def ab8{P:An}{w:Ax}{K:AQ}{mg:Str->Option AG}{h:BC}{a:AH}(p:K.In h)(G:h.Ns AO mg)(o:Ay K AO g=AA (AA (.ref a)))(b:U8 K a kvs=AD):GTab P w K mg g kvs:=by
 unfold U8 at b
 split at b
 ·rename_i c r f j q i;simp only[BJ,beq_iff_eq,Go]at b;obtain⟨⟨⟨⟨n,m⟩,l⟩,e⟩,k⟩:=b;refine⟨a,V2 f.toList kvs,GW p G o,λh' hK'=>⟨k,_,f,j,hK' a _ i,⟨n,by simpa using m,by simpa using l⟩,rfl,a98 _ _ e⟩,λx d lk=>(am0 kvs _ e x).1 d lk,λx=>(am0 kvs _ e x).2⟩
 ·cases b
end
end Ek
namespace Ek
open PySem PySem.Spec PyProof.Rows L2
variable [Tbs]
variable{q:AH}{ds:List D}{H1:Hp}
section
variable {X:Cx} {a b c:AT} {ta tb tc:DT} {pos p:Pos}
structure ItOk(K:AQ)(H1:Hp)(J:L2.It)(items:List D)(chk:Sto->Prop):Prop where
 go:∀(i:Nat)st H,TK K H1 H->RelS K st H->chk st->i<items.length->J.go i H
 yld:∀(i:Nat)st H x H',TK K H1 H->RelS K st H->chk st->i<items.length->J.yld i H x H'->∃d,items[i]?=AA d/\IsD K H' d x/\Ev st H st H'/\RelS K st H'
 stop:∀st H,TK K H1 H->RelS K st H->chk st->J.stop items.length H
abbrev upI(K:AQ)(t:j6->Sto->ItK->Prop):TI:=λσ H R=>∃env st k,RelE K H env σ/\RelS K st H/\t env st k/\∀items chk st' H' J,Ev st H st' H'->RelS K st' H'->ItOk K H' J items chk->k items chk st'->R J H'
def _root_.L2.PI.imp{X:Cx}{b x:AT}{t t':TI}(h:PI X b x t)(i:∀a H Q,t' a H Q->t a H Q):PI X b x t':=λpins s a H Q I q=>h pins s a H Q I (i a H Q q)
variable {K:AQ}
def cv7{vs:List V}(a:SqT K H1 q vs)(r:IsDs K H1 ds vs):ItOk K H1 (Itt K q) ds (λ_=>True) where
 go:=λi st H tk rs _ hi=>by
  obtain⟨v,c,_⟩:=r.get (AJ hi);exact⟨vs,v,tk.1.1 _ _ a,c⟩
 yld:=λi st H x H' tk rs _ hi y=>by
  obtain⟨rfl,y⟩:=y;obtain⟨d,e,b⟩:=r.get' (y vs (tk.1.1 _ _ a));exact⟨d,e,b.mono tk,Ev.refl,rs⟩
 stop:=λst H tk rs _=>⟨vs,tk.1.1 _ _ a,by rw[r.len];exact AS _⟩
def ch9:ItOk K H1 (Itl K q) ds (λst=>rdS st q ds) where
 go:=λi st H tk rs hc hi=>by
  obtain⟨a,b,r⟩:=rs.rd hc;obtain⟨v,e,_⟩:=r.get (AJ hi);exact⟨a,v,b,e⟩
 yld:=λi st H x H' tk rs hc hi y=>by
  obtain⟨rfl,y⟩:=y;obtain⟨a,b,r⟩:=rs.rd hc;obtain⟨d,f,c⟩:=r.get' (y a b);exact⟨d,f,c,Ev.refl,rs⟩
 stop:=λst H tk rs hc=>by
  obtain⟨a,b,r⟩:=rs.rd hc;exact⟨a,b,by rw[r.len];exact AS _⟩
def bd8{lo:Int}{n:Nat}:ItOk K H1 (Itr lo n) (p5 lo n) (λ_=>True) where
 go:=λi st H tk rs _ hi=>by show i<n;simpa[p5]using hi
 yld:=λi st H x H' tk rs _ hi y=>by
  obtain⟨rfl,rfl⟩:=y;have a:i<n:=by simpa[p5]using hi
  exact⟨.int (lo+i),by simp[p5,a],.int _,Ev.refl,rs⟩
 stop:=λst H tk rs _=>by show n<=(p5 lo n).length;simp[p5]
theorem al2:∀(a:List D)(k:Nat),(r6 k a).length=a.length
 |[],_=>rfl
 |d::a,k=>by simp[r6,al2 a (k+1)]
theorem ax8:∀(a:List D)(k i:Nat)(d:D),a[i]?=AA d->(r6 k a)[i]?=AA (.tup [.int ((k+i:Nat):Int),d])
 |[],k,i,d,h=>by simp at h
 |e::a,k,0,d,h=>by simp at h;subst h;rfl
 |e::a,k,i+1,d,h=>by
  have:=ax8 a (k+1) i d (by simpa using h);have e:k+(i+1)=k+1+i:=by lia
  rw[e];simpa[r6]using this
def bd0{sq:Hp->List V->Prop}{f:Sto->Prop}(h:∀st H,TK K H1 H->RelS K st H->f st->∃a,sq H a/\IsDs K H ds a):ItOk K H1 (Ite K sq) (r6 0 ds) f where
 go:=λi st H tk rs hc hi=>by
  obtain⟨a,c,r⟩:=h st H tk rs hc;rw[al2]at hi;obtain⟨v,k,_⟩:=r.get (AJ hi);exact⟨a,v,c,k⟩
 yld:=λi st H x H' tk rs hc hi y=>by
  obtain⟨t,v,g,rfl,rfl,y⟩:=y;obtain⟨a,c,r⟩:=h st H tk rs hc;obtain⟨d,l,j⟩:=r.get' (y a c);refine⟨_,ax8 ds 0 i d l,IsD.mk (SqX.of p8) (.cons ?_ (.cons (j.mono (TK.new g)) .nil)),Ev.new g,rs.new g⟩;have e:((0+i:Nat):Int)=(i:Int):=by simp
  rw[e];exact .int _
 stop:=λst H tk rs hc=>by
  obtain⟨a,c,r⟩:=h st H tk rs hc;exact⟨a,c,by rw[al2,r.len]⟩
def ci0:ItOk K H1 (Itv K q ds.length) ds.reverse (λst=>rdS st q ds) where
 go:=λi st H tk rs hc hi=>by
  obtain⟨a,b,r⟩:=rs.rd hc;exact⟨⟨a,b,r.len.symm⟩,by simpa using hi⟩
 yld:=λi st H x H' tk rs hc hi y=>by
  obtain⟨rfl,y⟩:=y;obtain⟨a,b,r⟩:=rs.rd hc;have c:i<ds.length:=by simpa using hi
  obtain⟨d,f,e⟩:=r.get' (y a b);exact⟨d,by rw[Er c];exact f,e,Ev.refl,rs⟩
 stop:=λst H tk rs hc=>by
  obtain⟨a,b,r⟩:=rs.rd hc;exact⟨⟨a,b,r.len.symm⟩,∎⟩
variable {tg:AT}
def cl7(J:PE X a (up X.K ta)):PI X tg a (upI X.K λenv t k=>ta env t λd c=>(∃f,d=.tup f/\k f (λ_=>True) c)\/(∃a f,d=.ref a/\rdS c a f/\k f (λst'=>rdS st' a f) c)):=by
 intro m s B H R I q;obtain⟨env,t,z,M,L,F,A⟩:=q;refine thn (J m s B H (λv h=>∃d c,Ev t H c h/\IsD X.K h d v/\RelS X.K c h/\((∃f,d=.tup f/\z f (λ_=>True) c)\/(∃a f,d=.ref a/\rdS c a f/\z f (λst'=>rdS st' a f) c))) I ⟨env,t,_,M,L,F,λv d h c w u l j=>⟨d,c,w,u,l,j⟩⟩) λu s1 z41=>?_
 obtain⟨v,h,i,x,d,c,w,u,l,j⟩:=z41;rcases j with⟨f,rfl,j⟩|⟨q,f,rfl,G,j⟩
 ·obtain⟨q,C,rfl,g,r⟩:=u.tup_inv;cases x;obtain⟨n,D,y,E⟩:=i.tuple g;refine DR (show s1.heap.IsTuple q n.toArray from y) ?_;refine⟨s1.heap.objs.size,[s1.heap.objs.size],_,_,h,rfl,i.kept (t':=s1.toks) λb o e=>AM _ e,br2 q _,⟨_,Ae _ rfl,rfl,rfl⟩,λb hb=>?_,A f _ c h _ w l (cv7 g r) j⟩;have e:b=s1.heap.objs.size:=by simpa using hb
  subst e;exact i.fpOk (AS _) (i.hok.fresh (AS _))
 ·rw[u.ref_inv]at x;cases x;obtain⟨C,g,r⟩:=l.rd G;obtain⟨n,D,y,E⟩:=i.list g;refine Gp y.isList ?_;refine⟨s1.heap.objs.size,[s1.heap.objs.size],_,_,h,rfl,i.kept (t':=s1.toks) λb o e=>AM _ e,bv3 q _,⟨_,Ae _ rfl,rfl,rfl⟩,λb hb=>?_,A f _ c h _ w l ch9 j⟩;have e:b=s1.heap.objs.size:=by simpa using hb
  subst e;exact i.fpOk (AS _) (i.hok.fresh (AS _))
def co9(s:Gl X "range")(r:X.mg "range"=AF)(t:PE X a (up X.K ta))(g:∀e p,a≠.Starred e p):PI X tg (.Call (.Name "range" p) [a] [] pos) (upI X.K λenv c k=>ta env c λd st1=>∃j:Int,d=.int j/\(-(2^62)<=j/\j<2^62)/\k (p5 0 j.toNat) (λ_=>True) st1):=
 PI.imp (bs3 s r (N0 t g) (by rw[o5 g];rfl)) λσ H R q=>by
  obtain⟨env,c,i,w,u,n,o⟩:=q;refine⟨env,c,(λds st1=>match ds with|[d]=>∃j:Int,d=.int j/\(-(2^62)<=j/\j<2^62)/\i (p5 0 j.toNat) (λ_=>True) st1|_=>False),w,u,n,λvs ds H' st' ev is hl rs f=>?_⟩
  match ds,hl with
  |[d],_=>
   obtain⟨v,x,rfl,m,l⟩:=is.inv_cons;rw[l.inv_nil];obtain⟨j,rfl,h,f⟩:=f;exact⟨j,by rw[m.int_inv],h.1,h.2,o _ _ st' H' _ ev rs bd8 f⟩
def cc0(A:Gl X "range")(y:X.mg "range"=AF)(C:PE X a (up X.K ta))(B:PE X b (up X.K tb))(l:∀e p,a≠.Starred e p)(c:∀e p,b≠.Starred e p):PI X tg (.Call (.Name "range" p) [a,b] [] pos) (upI X.K λenv g k=>ta env g λd st1=>tb env st1 λe st2=>∃i j:Int,d=.int i/\e=.int j/\(-(2^62)<=i/\i<2^62/\-(2^62)<=j/\j<2^62)/\k (p5 i (j-i).toNat) (λ_=>True) st2):=
 PI.imp (bs6 A y (ac4 C B l c) (by rw[o5 l,o5 c];rfl) (by rw[o5 c];rfl)) λσ H R q=>by
  obtain⟨env,g,n,E,D,u,x⟩:=q;refine⟨env,g,(λds st1=>match ds with|[d,e]=>∃i j:Int,d=.int i/\e=.int j/\(-(2^62)<=i/\i<2^62/\-(2^62)<=j/\j<2^62)/\n (p5 i (j-i).toNat) (λ_=>True) st1|_=>False),E,D,u,λvs ds H' st' ev is hl rs h=>?_⟩
  match ds,hl with
  |[d,e],_=>
   obtain⟨v,F,rfl,t,s⟩:=is.inv_cons;obtain⟨w,m,rfl,r,o⟩:=s.inv_cons;rw[o.inv_nil];obtain⟨i,j,rfl,rfl,z,h⟩:=h;exact⟨i,j,by rw[t.int_inv,r.int_inv],z,x _ _ st' H' _ ev rs bd8 h⟩
def cf5{w:List AT}{k0:Nat}{tp:Pos}(hg:Gl X "enumerate")(hm:X.mg "enumerate"=AF)(ha:PE X a (up X.K ta))(hs:∀e p,a≠.Starred e p):PI X (.Tuple w k0 tp) (.Call (.Name "enumerate" p) [a] [] pos)
  (upI X.K λenv st k=>ta env st λd b=>(∃ds,d=.tup ds/\k (r6 0 ds) (λ_=>True) b)\/(∃a ds,d=.ref a/\rdS b a ds/\k (r6 0 ds) (λst'=>rdS st' a ds) b)):=by
 have hst:Am [a] X.env=[(AE,eval a X.env)]:=by rw[o5 hs];rfl
 intro o s σ H R I q;obtain⟨env,st,kk,hE,hS,ht,hq⟩:=q;have hA:=N0 ha hs;refine JG (G1 I hg hm L2.bm9 (BD (thn (hA pos o s σ H (λvs H1=>∃v d b,vs=[v]/\Ev st H b H1/\IsD X.K H1 d v/\RelS X.K b H1/\((∃ds,d=.tup ds/\kk (r6 0 ds) (λ_=>True) b)\/(∃a ds,d=.ref a/\rdS b a ds/\kk (r6 0 ds) (λst'=>rdS st' a ds) b))) I
  ⟨env,st,(λds b=>match ds with|[d]=>(∃ds,d=.tup ds/\kk (r6 0 ds) (λ_=>True) b)\/(∃a ds,d=.ref a/\rdS b a ds/\kk (r6 0 ds) (λst'=>rdS st' a ds) b)|_=>False),hE,hS,ht,λvs ds H' st' ev is hl rs j=>by
   match ds,hl with
   |[d],_=>
    obtain⟨v,ws,rfl,i1,i2⟩:=is.inv_cons;rw[i2.inv_nil];exact⟨v,d,st',rfl,ev,i1,rs,j⟩⟩) λus s1⟨vs,H1,I1,r1,v,d,b,e1,ev,is,rs,j⟩=>?_) hst rfl))
 subst e1;obtain⟨u,rfl,ru⟩:=r1.one
 rcases j with⟨ds,rfl,j⟩|⟨q,ds,rfl,hr,j⟩
 ·obtain⟨l,vs,rfl,i,r⟩:=is.tup_inv;cases ru;exact b07 I1 i (hq _ _ b H1 _ ev rs (bd0 λst H tk rs _=>⟨vs,tk.1.1 _ _ i,r.mono tk⟩) j)
 ·rw[is.ref_inv]at ru;cases ru;obtain⟨vs,i,r⟩:=rs.rd hr;exact b25 I1 i (hq _ _ b H1 _ ev rs (bd0 λst H tk rs hc=>rs.rd hc) j)
def cl5(A:Gl X "reversed")(z:X.mg "reversed"=AF)(B:PE X a (up X.K ta))(n:∀e p,a≠.Starred e p):PI X tg (.Call (.Name "reversed" p) [a] [] pos) (upI X.K λenv j k=>ta env j λd b=>∃a ds,d=.ref a/\rdS b a ds/\k ds.reverse (λst'=>rdS st' a ds) b):=
 PI.imp (cd8 A z (N0 B n) (by rw[o5 n];rfl)) λσ H R q=>by
  obtain⟨env,j,s,D,C,w,y⟩:=q;refine⟨env,j,(λds b=>match ds with|[d]=>∃a ds,d=.ref a/\rdS b a ds/\s ds.reverse (λst'=>rdS st' a ds) b|_=>False),D,C,w,λvs ds H' st' ev is hl rs l=>?_⟩
  match ds,hl with
  |[d],_=>
   obtain⟨v,E,rfl,u,t⟩:=is.inv_cons;rw[t.inv_nil];obtain⟨q,ds,rfl,x,l⟩:=l;obtain⟨o,m,r⟩:=rs.rd x;exact⟨q,o,by rw[u.ref_inv],m,by rw[<-r.len];exact y _ _ st' H' _ ev rs ci0 l⟩
end
end Ek
namespace PySem
open PyProof.Rows
namespace F
def au7:Manifest.owners.lookup (String.ofList ['d','e','s','r','e','v','e','r'].reverse)=AA Manifest.sig_reversed:=by kernel_rfl
def ek_slot_rev_next:Slot "reversed" "__next__" "reversed.__next__":=
 .of (owner:="reversed") (n:="__next__") (by rw[DM,CL];kernel_rfl) (by decide+kernel) (by decide+kernel) (by decide+kernel)
  (by first|exact .inl (by decide+kernel)|exact .inr (by decide+kernel)) (by rw[EY];kernel_rfl)
def bm4:Slot "reversed" "__init__" "object.__init__":=
 .of (owner:="object") (n:="__init__") (by rw[DM,CL];kernel_rfl) (by decide+kernel) (by decide+kernel) (by decide+kernel)
  (by first|exact .inl (by decide+kernel)|exact .inr (by decide+kernel)) (by rw[EY];kernel_rfl)
def ek_slot_rev_iter:Slot "reversed" "__iter__" "reversed.__iter__":=
 .of (owner:="reversed") (n:="__iter__") (by rw[DM,CL];kernel_rfl) (by decide+kernel) (by decide+kernel) (by decide+kernel)
  (by first|exact .inl (by decide+kernel)|exact .inr (by decide+kernel)) (by rw[EY];kernel_rfl)
def ek_entry_rev_next:entryFor table "reversed.__next__"=AA Ci.«reversed.__next__»:=entryFor_of_tree (by kernel_rfl)
def ek_entry_rev_iter:entryFor table "reversed.__iter__"=AA Ci.«dict_keyiterator.__iter__»:=
 entryFor_alias (id':="dict_keyiterator.__iter__") (by kernel_rfl) (by first|rfl|decide+kernel|(unfold String.splitOn;simp +decide [String.splitOnAux])) (by decide+kernel) (by kernel_rfl)
def ek_args_rev_next(a:AG):LQ "reversed.__next__" ⟨[a],[]⟩:=by
 unfold LQ;rw[signature?_of (id:="reversed.__next__") (n:=['_','_','t','x','e','n','_','_']) (o:=['d','e','s','r','e','v','e','r']) (by kernel_rfl) au7];kernel_rfl
def ek_args_rev_iter(a:AG):LQ "reversed.__iter__" ⟨[a],[]⟩:=by
 unfold LQ;rw[signature?_of (id:="reversed.__iter__") (n:=['_','_','r','e','t','i','_','_']) (o:=['d','e','s','r','e','v','e','r']) (by kernel_rfl) au7];kernel_rfl
def ek_called_reversed:TypeCalled "reversed" "reversed.__new__" "object.__init__":=
 ⟨by decide+kernel,by decide+kernel,⟨_,_,mro_reversed⟩,made_reversed,by decide+kernel,by rw[EY];kernel_rfl,bm4⟩
def ek_tuple_no_rev:GT (.type "tuple") "__reversed__"=pure AF:=by rw[DM,CL];kernel_rfl
def ek_sub_tuple_dict:isSubtype (.type "tuple") (.type "dict")=pure AE:=by rw[EY];kernel_rfl
end F
abbrev ab6(l:AH)(i:Int):Obj:={cls:=.type "reversed",data:=.fields #[.ref l,Cf i]}
def bq1(l:AH)(a:Array AG)(c:(a.size:Int)<2^63):
  JM (Ci.«reversed.__new__» ⟨[.type "reversed",.ref l],[]⟩) (λ_ R s=>Hn s.heap l a/\∀e,R (.ok (.ret (.ref s.heap.objs.size))) {s with heap:=s.heap.push (ab6 l ((a.size:Int)-1)),toks:=e}):=
 .of_wp λprog w A R s h=>by
  obtain⟨k,g,d,e,j⟩:=s;obtain⟨i,h⟩:=h;have f:=F.sub_reversed_self;have b:Shared.TypeIs ⟨k,g,d,e,j⟩ (.ref l) "tuple":=i.typeIs;have o:=F.ek_tuple_no_rev;have n:=F.ek_sub_tuple_dict;have m:=EV.lookup
  wp_walk using(Bm b F.ek_tuple_no_rev),(Ey b F.ek_sub_tuple_dict),(Bm b EV.lookup),(len_tuple i c)
  exact⟨_,rfl,h _⟩
variable{l:AH}
abbrev E7(h:BC)(a l:AH)(i:Int):Prop:=∃o,h.get? a=AA o/\o.cls=.type "reversed"/\o.data=.fields #[.ref l,Cf i]
section
variable {prog:An} {w:Ax} {A:BU} {E:AG->AK->Prop} {s:AK}
def E7.typeIs{a:AH}{i:Int}(x:E7 s.heap a l i):s.TypeIs (.ref a) "reversed":=let⟨o,b,c,_⟩:=x;⟨o,b,c⟩
def E7.stay{h h':BC}{a:AH}{i:Int}(x:E7 h a l i)(e:∀o,h.get? a=AA o->h'.get? a=AA o):E7 h' a l i:=let⟨o,b,r⟩:=x;⟨o,e _ b,r⟩
def bv0{a:Array AG}{Q:AG->AK->Prop}(d:Hn s.heap l a)(b:(a.size:Int)<2^63)
  (h:∀tk,Q (.ref s.heap.objs.size) {s with heap:=s.heap.push (ab6 l ((a.size:Int)-1)),toks:=tk}):AR (model prog w) A (call (.type "reversed") [.ref l]) Q E s:=by
 refine Io F.ek_called_reversed ∅ (F.typeCall_reversed_1 _) (F.newCall_reversed_1 _) (λobj=>Ip obj _) F.entry_reversed_new (bq1 l a b) ⟨d,λtk=>?_⟩;exact⟨⟨_,Ae _ rfl,rfl⟩,h tk⟩
end
end PySem
namespace PySem
open PyProof.Rows
section
variable {prog:An} {w:Ax} {A:BU} {E:AG->AK->Prop} {s:AK}
def av3{it l:AH}{i:Int}{Q:AG->AK->Prop}(a:E7 s.heap it l i)(h:Q (.ref it) s):AR (model prog w) A (HC (.ref it)) Q E s:=by
 refine KJ a.typeIs F.ek_slot_rev_iter (BL F.ek_slot_rev_iter a.typeIs F.ek_entry_rev_iter ?_ (F.ek_args_rev_iter _));show AR _ _ (ret (.ref it)) _ _ s;exact AL ⟨_,rfl,"reversed",_,a.typeIs,F.ek_slot_rev_next.lookup,h⟩
end
end PySem
namespace L2
open PySem PySem.Spec PyProof.Rows
end L2
namespace Ek
open PySem PySem.Spec PyProof.Rows L2
variable [Tbs]
end Ek
namespace PySem
open PyProof.Rows
section
variable {prog:An} {w:Ax} {A:BU} {E:AG->AK->Prop} {s:AK}
def bm2{it l:AH}{i:Nat}{b:Array AG}{x:AG}{Q:Option AG->AK->Prop}(c:E7 s.heap it l (i:Int))(h:Hn s.heap l b)(g:b[i]?=AA x)(k:(b.size:Int)<2^63)
  (p:∀f m,E7 f it l ((i:Int)-1)->Ba it s.heap f->Q (AA x) {s with heap:=f,toks:=m}):AR (model prog w) A (ET (.ref it)) Q E s:=by
 obtain⟨o,e,n,d⟩:=id c;have q:i<b.size:=(Array.getElem?_eq_some_iff.mp g).1;unfold ET;refine AC (Eo (BM (name:=Aa "__next__") c.typeIs F.ek_slot_rev_next
  (BL F.ek_slot_rev_next c.typeIs F.ek_entry_rev_next ?_ (F.ek_args_rev_next _))))
 unfold Ci.«reversed.__next__»;refine AC (HR (a:=(Ap it,[])) rfl ?_)
 try dsimp only
 refine AC (Au e d (x:=.ref l) rfl ?_);refine AC (Au e d (x:=Cf (i:Int)) rfl ?_);show AR _ _ (if(i:Int)<0 then _ else _) _ _ s;rw[if_neg ⋯]
 try dsimp only
 refine AC (Bm h.typeIs EV.lookup ?_);show AR _ _ (if(Option.isNone (AA _))=AD then _ else _) _ _ s;rw[if_neg ∎]
 try dsimp only
 refine AC (wpAny_mkInt ?_);refine AC (Eo (getItem_tuple (j:=i) (x:=x) (s:={s with toks:=s.toks+1}) h ⋯ ⋯ ?_ g ?_))
 ·unfold IT;simp;lia
 try dsimp only
 refine AC (Au e d (x:=Cf (i:Int)) rfl ?_);show AR _ _ (setField (.ref it) 1 (Cf ((i:Int)-1))>>=_) _ _ _;refine AC (EW e d ∎ ?_);refine AL ⟨x,rfl,AL (p _ _ ?_ (BV ..))⟩;exact⟨_,CH _ e (FC (Cc d _)),(Iy ..).trans n,by
  rw[Cc d];simp⟩
def bm7{it l:AH}{Q:Option AG->AK->Prop}(f:A.handled=AF)(c:E7 s.heap it l (-1))
  (h:∀g,GV it s.heap g->Q AF {s with heap:=g}):AR (model prog w) A (ET (.ref it)) Q E s:=by
 obtain⟨o,e,i,d⟩:=id c;unfold ET;refine AC (Eo (BM (name:=Aa "__next__") c.typeIs F.ek_slot_rev_next
  (BL F.ek_slot_rev_next c.typeIs F.ek_entry_rev_next ?_ (F.ek_args_rev_next _))))
 unfold Ci.«reversed.__next__»;refine AC (HR (a:=(Ap it,[])) rfl ?_)
 try dsimp only
 refine AC (Au e d (x:=.ref l) rfl ?_);refine AC (Au e d (x:=Cf (-1)) rfl ?_);show AR _ _ (if(-1:Int)<0 then _ else _) _ _ s;rw[if_pos ∅];refine AC (DN ?_);refine AC (AC (EW e d ∎ ?_));refine EW (CH _ e (FC (Cc d _))) (Cc d _) ∎ ?_;refine AC ?_;show AR _ _ (LO (.type "StopIteration") []>>=_) _ _ _;refine AC ?_;simp only[LO,newTuple];refine AC (Bb ?_ (by size_fits));refine AC (m:=Fp _ _) (HR (a:=Bc) (by first|rfl|(simp only[Fp];rfl)) ?_);refine Bb ?_ (by size_fits);simp only[raiseNew];refine AC (wpAny_handled ?_)
 first|rw[show A.in1.handled=AF from f]|rw[f]
 refine AC (AL (wpAny_throw ?_));refine AC (Ey (T:="StopIteration") (b:=AD) ⟨_,Ae _ rfl,rfl⟩ LR ?_);exact AL (h _ ((((BV ..).extBut.trans (BV ..).extBut).push _).push _))
end
end PySem
namespace L2
open PySem PySem.Spec PyProof.Rows
abbrev Itw(K:AQ)(a:AH)(n:Nat):It:=
 ⟨λi H=>(∃xs,SqT K H a xs/\xs.length=n)/\i<n,λi H x H'=>H'=H/\∀xs,SqT K H a xs->xs[n-1-i]?=AA x,λi H=>(∃xs,SqT K H a xs/\xs.length=n)/\i=n⟩
def bs0{P:An}{w:Ax}{K:AQ}{N:AT}(a it:AH)(n:Nat):Turn P w K N (Itw K a n) [it] it (λi h=>E7 h it a ((n:Int)-1-(i:Int))) where
 mem:=by simp
 obj:=λi h f b hb=>by
  obtain⟨o,e,c,d⟩:=f;rw[show b=it by simpa using hb];exact⟨o,e,λv z=>by rw[d]at z;cases z⟩
 keep:=λi h h' f k=>f.stay λo e=>k it ∎ o e
 item:=by
  intro X t q v M i g s F H E I m f r;subst t q v;obtain⟨⟨j,L,T⟩,Z⟩:=r;subst T;obtain⟨p,G,Q,Y⟩:=I.tuple L;obtain⟨x,J⟩:∃x,j[j.length-1-i]?=AA x:=⟨_,AJ ⋯⟩;obtain⟨u,R,O⟩:=G.get J;obtain⟨D,C,U,B,A,y⟩:=m it ∎;have l:(p.toArray.size:Int)<2^63:=by
   rw[Ab,<-G.length];have S:sizeLine<2^62:=by decide+kernel
   lia
  rw[show(j.length:Int)-1-(i:Int)=((j.length-1-i:Nat):Int) by lia]at f;refine bm2 f Q (x:=u) (by simpa using R) l λh' tk st' sb=>?_;have W:Inv X g F H {s with heap:=h',toks:=tk}:=I.turned (t':=tk) (λb o hb e=>(sb.2 b hb).trans e) D C B A y;obtain⟨o,V,c,d⟩:=id st';rw[show((j.length-1-i:Nat):Int)-1=(j.length:Int)-1-((i+1:Nat):Int) by lia]at st';exact⟨u,rfl,X6 (s:={s with heap:=h',toks:=tk}) V c d ∅ ⟨x,H,W,O,⟨rfl,λys hy=>by rw[I.tuple_inj hy L];exact J⟩,st',λb hb=>(m b hb).1⟩⟩
 done:=by
  intro X t q v M i g s F H E I m f r;subst t q v;obtain⟨D,C,U,B,A,y⟩:=m it ∎;rw[show(n:Int)-1-(i:Int)=-1 by have:=r.2;lia]at f;exact bm7 (I.ok.hd M) f λh' eb=>⟨rfl,I.turned (t':=s.toks) (λb o hb e=>eb b o hb e) D C B A y⟩
 self:=λ_ _ _ _ _ f h=>av3 f h
end L2
namespace Ek
open PySem PySem.Spec PyProof.Rows L2
variable [Tbs]
section
variable {K:AQ}
def ca6{q:AH}{ds:List D}{vs:List V}{c:Hp}(a:SqT K c q vs)(r:IsDs K c ds vs):ItOk K c (Itw K q ds.length) ds.reverse (λ_=>True) where
 go:=λi st H tk rs _ hi=>⟨⟨vs,tk.1.1 _ _ a,r.len.symm⟩,by simpa using hi⟩
 yld:=λi st H x H' tk rs _ hi y=>by
  obtain⟨rfl,y⟩:=y;have b:i<ds.length:=by simpa using hi
  obtain⟨d,f,e⟩:=r.get' (y vs (tk.1.1 _ _ a));exact⟨d,by rw[Er b];exact f,e.mono tk,Ev.refl,rs⟩
 stop:=λst H tk rs _=>⟨⟨vs,tk.1.1 _ _ a,r.len.symm⟩,∎⟩
end
section
variable {X:Cx} {a tg:AT} {ta:DT} {pos p:Pos}
def b81(Y:Gl X "reversed")(W:X.mg "reversed"=AF)(Z:PE X a (up X.K ta))(J:∀e p,a≠.Starred e p):
  PI X tg (.Call (.Name "reversed" p) [a] [] pos) (upI X.K λenv A k=>ta env A λd c=>∃ds,d=.tup ds/\k ds.reverse (λ_=>True) c):=by
 have E:Am [a] X.env=[(AE,eval a X.env)]:=by rw[o5 J];rfl
 intro n s L H R I q;obtain⟨env,A,G,hE,hS,T,V⟩:=q;refine JG (G1 I Y W L2.au6 (BD (thn (N0 Z J pos n s L H (λvs i=>∃v ds c,vs=[v]/\Ev A H c i/\IsD X.K i (.tup ds) v/\RelS X.K c i/\G ds.reverse (λ_=>True) c) I
  ⟨env,A,(λds c=>match ds with|[d]=>∃ds,d=.tup ds/\G ds.reverse (λ_=>True) c|_=>False),hE,hS,T,λvs ds H' st' F D hl C m=>?_⟩) λus s1 hh=>?_) E rfl))
 ·match ds,hl with
  |[d],_=>
   obtain⟨v,ws,rfl,S,Q⟩:=D.inv_cons;rw[Q.inv_nil];obtain⟨ds,rfl,m⟩:=m;exact⟨v,ds,st',rfl,F,S,C,m⟩
 obtain⟨vs,i,B,O,v,ds,c,e1,F,D,C,m⟩:=hh;subst e1;obtain⟨u,rfl,N⟩:=O.one;obtain⟨l,vs,rfl,w,r⟩:=D.tup_inv;cases N;obtain⟨t,M,P,hz⟩:=B.tuple w;have h:t.toArray.size=vs.length:=by rw[Ab,<-M.length]
 have y:(t.toArray.size:Int)<2^63:=by
  rw[h];have U:sizeLine<2^62:=by decide+kernel
  lia
 refine bv0 P y λtk=>?_;rw[h];have x:E7 (s1.heap.push (ab6 l ((vs.length:Int)-1))) s1.heap.objs.size l ((vs.length:Int)-1-((0:Nat):Int)):=⟨_,Ae _ rfl,rfl,by rw[show(vs.length:Int)-1-((0:Nat):Int)=(vs.length:Int)-1 by lia];rfl⟩;refine av3 (s:={s1 with heap:=s1.heap.push (ab6 l ((vs.length:Int)-1)),toks:=tk}) x ?_;refine⟨s1.heap.objs.size,[s1.heap.objs.size],_,_,i,rfl,B.kept (t':=tk) λb o e=>AM _ e,bs0 l _ vs.length,x,λb hb=>?_,?_⟩
 ·rw[show b=s1.heap.objs.size by simpa using hb];exact B.fpOk (AS _) (B.hok.fresh (AS _))
 ·rw[<-r.len];exact V _ _ c i _ F C (ca6 w r) m
end
end Ek
namespace PySem
variable{b b1 b2 fb:Bool}{h h':BC}{l it z i1 i2:AH}{xs ys:Array AG}{i:Nat}{x a y f:AG}{Q:AG->AK->Prop}{R:Bool->AK->Prop}
abbrev o4(b:Bool)(h:BC)(l:AH)(xs:Array AG):Prop:=match b with|true=>h.IsTuple l xs|false=>h.IsList l xs
abbrev p6(b:Bool)(h:BC)(it l:AH)(i:Nat):Prop:=match b with|true=>h.IsTupleIter it l i|false=>h.IsListIter it l i
def o4.stay(x:o4 b h l xs)(k:∀o,h.get? l=AA o->h'.get? l=AA o):o4 b h' l xs:=by
 cases b with
 |true=>obtain⟨o,a,r⟩:=x;exact⟨o,k o a,r⟩
 |false=>exact Heap.IsList.at x k
def p6.stay(x:p6 b h it l i)(k:∀o,h.get? it=AA o->h'.get? it=AA o):p6 b h' it l i:=by
 cases b with
 |true=>obtain⟨o,a,r⟩:=x;exact⟨o,k o a,r⟩
 |false=>exact Heap.IsListIter.at x k
def p6.obj(x:p6 b h it l i):∃o,h.get? it=AA o/\∀v,o.data≠.cell v:=by
 cases b with
 |true=>obtain⟨o,a,d,c⟩:=x;exact⟨o,a,λv z=>by rw[c]at z;cases z⟩
 |false=>obtain⟨o,a,d,c⟩:=x;exact⟨o,a,λv z=>by rw[c]at z;cases z⟩
def o4.lt(x:o4 b h l xs):l<h.objs.size:=by
 cases b with
 |true=>obtain⟨o,a,_⟩:=x;exact Az a
 |false=>obtain⟨o,a,_⟩:=x;exact Az a
section
variable {prog:An} {w:Ax} {A:BU} {E:AG->AK->Prop} {s:AK}
def T3(I:p6 b s.heap it l i)(L:o4 b s.heap l xs)(c:xs[i]?=AA x)
  (q:∀a,p6 b a it l (i+1)->Ba it s.heap a->Q x {s with heap:=a}):AR (model prog w) A (Ak (.ref it)) Q E s:=by
 cases b with
 |true=>exact au3 I L c q
 |false=>exact wpAny_nextOf_list_item I L c q
def ac5{Q:AG->AK->Prop}(d:A.handled=AF)(I:p6 b s.heap it l i)(L:o4 b s.heap l xs)(c:xs[i]?=AF)
  (q:∀a e,GV it s.heap a->(∃o,a.get? e=AA o/\o.cls=.type "StopIteration")->E (.ref e) {s with heap:=a}):AR (model prog w) A (Ak (.ref it)) Q E s:=by
 cases b with
 |true=>exact au4 d I L c q
 |false=>exact wpAny_nextOf_list_end d I L c q
def av9{a:AH}{Q:Option Obj->AK->Prop}(h:Q (s.heap.get? a) s):AR (model prog w) A (HS a) Q E s:=λΓ p _=>by
 unfold HS;rw[Sem.wp_loadIfAlive];exact h
abbrev u5(h:BC)(z TI TO:AH)(f:AG)(b:Bool):Prop:=h.get? z=AA {cls:=.type "zip",dict:=AF,data:=.fields #[f,.bool b,.bool AE,.ref TI,.ref TO],slots:=#[]}
def X3{T c:AH}(p:Br h T x y)(a:Ba c h h')(n:T≠c):Br h' T x y:=a.extBut _ _ n p
def cd1{g d p n:AH}{k:Nat}{x b:AG}(D:EZ z g d i1 i2 p n)(u:u5 s.heap z g d f fb)
  (r:∀R:Bool->AK->Prop,R AD s->AR (model prog w) A (AX (.ref z)) R E s) (V:Br s.heap g (.ref i1) (.ref i2)) (U:Br s.heap d a b)
  (Z:p6 b1 s.heap i1 p k) (Y:p6 b2 s.heap i2 n k) (X:o4 b1 s.heap p xs) (W:o4 b2 s.heap n ys) (S:xs[k]?=AA x) (P:ys[k]?=AA y)
  (q:∀i,u5 i z g d (Cf s.heap.objs.size) AE->Br i d x y->p6 b1 i i1 p (k+1)->p6 b2 i i2 n (k+1)->Br i s.heap.objs.size x y->i.objs.size=s.heap.objs.size+1 ->
   (∀c o,c≠z->c≠d->c≠i1->c≠i2->s.heap.get? c=AA o->i.get? c=AA o)->Q (.ref s.heap.objs.size) {s with heap:=i}) :
  AR (model prog w) A (Ci.«zip.__next__» ⟨[.ref z],[]⟩) (λfin s'=>∃v,fin=.done (.ret v)/\Q v s') E s:=by
 show AR _ _ (field (.ref z) 2>>=_) _ _ _;refine AC (Au u rfl (x:=.bool AE) rfl ?_);show AR _ _ (field (.ref z) 3>>=_) _ _ _;refine AC (Au u rfl (x:=.ref g) rfl ?_);refine AC (BR V rfl ?_);show AR _ _ (AX (.ref z)>>=_) _ _ _;refine AC (r _ ?_);simp only[if_true];refine AC (DN (AC (Au u rfl (x:=.ref d) rfl ?_)));refine AC (CJ u ∎ λg1 G e1=>?_);replace G:u5 g1 z g d .ellipsis fb:=G;refine AC ?_;simp only[Iz,JR,GU,IU];refine AC (AC (GN ?_));show AR _ _ (Ak (.ref i1)>>=_) _ _ _;refine AC (T3 (Z.stay λo e=>e1.extBut _ _ D.i1z e) (X.stay λo e=>e1.extBut _ _ D.l1z e) S λg2 J1 e2=>AL ?_);have O:Br g2 d a b:=X3 (X3 U e1 D.TOz) e2 D.TOi1;refine AC (BR O rfl (AC (Fq O λg3 H e3=>?_)));replace H:Br g3 d x b:=H;refine AC (HU (AL (AC (AC (GN ?_)))));show AR _ _ (Ak (.ref i2)>>=_) _ _ _;have j:∀c o,c≠z->c≠i1->c≠d->s.heap.get? c=AA o->g3.get? c=AA o:=λc o n1 n2 n3 e=>e3.extBut _ _ n3 (e2.extBut _ _ n2 (e1.extBut _ _ n1 e));refine AC (T3 (Y.stay λo e=>j _ _ D.i2z D.i12.symm D.TOi2.symm e) (W.stay λo e=>j _ _ D.l2z D.l2i1 D.l2TO e) P λg4 J2 e4=>AL ?_);have N:Br g4 d x b:=X3 H e4 D.TOi2;refine AC (BR N rfl (AC (Fq N λg5 B e5=>?_)));replace B:Br g5 d x y:=B;refine AC (HU (AL (AL ?_)));refine AC (BR B rfl (AC (LS ?_)));have K:g5.objs.size=s.heap.objs.size:=by rw[e5.1,e4.1,e3.1,e2.1,e1.1]
 have L:u5 g5 z g d .ellipsis fb:=e5.extBut _ _ D.TOz.symm (e4.extBut _ _ D.i2z.symm (e3.extBut _ _ D.TOz.symm (e2.extBut _ _ D.i1z.symm G)));have C:∀c o,c≠z->c≠d->c≠i1->c≠i2->s.heap.get? c=AA o->g5.get? c=AA o:=λc o n1 n2 n3 n4 e=>e5.extBut _ _ n2 (e4.extBut _ _ n4 (j c o n1 n3 n2 e));have J:p6 b1 g5 i1 p (k+1):=J1.stay λo e=>e5.extBut _ _ D.TOi1.symm (e4.extBut _ _ D.i12 (e3.extBut _ _ D.TOi1.symm e));have I:p6 b2 g5 i2 n (k+1):=J2.stay λo e=>e5.extBut _ _ D.TOi2.symm e;have l:z<g5.objs.size:=Az L;show AR _ _ (Dz (.ref z) (.ref g5.objs.size)>>=_) _ _ _;refine AC ?_;unfold Dz;have T:u5 (g5.push {cls:=.type "tuple",data:=.seq #[x,y]}) z g d .ellipsis fb:=AM _ L;refine AC (CJ T ∎ λg7 F e7=>?_);replace F:u5 g7 z g d (Cf g5.objs.size) fb:=F;refine CJ F ∎ λg8 t e8=>?_;replace t:u5 g8 z g d (Cf g5.objs.size) AE:=t;have h:∀c o,c≠z->g5.get? c=AA o->g8.get? c=AA o:=λc o n1 e=>e8.extBut _ _ n1 (e7.extBut _ _ n1 (AM _ e));have M:Br g8 g5.objs.size x y:=e8.extBut _ _ (Gf l) (e7.extBut _ _ (Gf l) (Ae _ rfl));have m:g8.objs.size=g5.objs.size+1:=by rw[e8.1,e7.1,Cb]
 rw[K]at t M m;refine AL ⟨_,rfl,?_⟩;show Q (.ref g5.objs.size) _;rw[K];exact q g8 t (h _ _ D.TOz B) (J.stay λo e=>h _ o D.i1z e) (I.stay λo e=>h _ o D.i2z e) M m λc o n1 n2 n3 n4 e=>h c o n1 (C c o n1 n2 n3 n4 e)
def b98{j i r p:AH}{u t:Bool}{k:Nat}{C B:Array AG}{x y a b:AG}{Q:AG->AK->Prop}(D:EZ z j i i1 i2 r p)(G:u5 s.heap z j i f fb)
  (n:∀R:Bool->AK->Prop,(∀d g,u5 d z j i f g->Ba z s.heap d->R AE {s with heap:=d})->AR (model prog w) A (AX (.ref z)) R E s) (L:Br s.heap j (.ref i1) (.ref i2)) (K:Br s.heap i a b)
  (P:p6 u s.heap i1 r k) (O:p6 t s.heap i2 p k) (N:o4 u s.heap r C) (M:o4 t s.heap p B) (J:C[k]?=AA x) (I:B[k]?=AA y)
  (q:∀d g,u5 d z j i f g->Br d i a b->p6 u d i1 r (k+1)->p6 t d i2 p (k+1)->Br d s.heap.objs.size x y->d.objs.size=s.heap.objs.size+1 ->
   (∀c o,c≠z->c≠i->c≠i1->c≠i2->s.heap.get? c=AA o->d.get? c=AA o)->Q (.ref s.heap.objs.size) {s with heap:=d}) :
  AR (model prog w) A (Ci.«zip.__next__» ⟨[.ref z],[]⟩) (λfin s'=>∃v,fin=.done (.ret v)/\Q v s') E s:=by
 show AR _ _ (field (.ref z) 2>>=_) _ _ _;refine AC (Au G rfl (x:=.bool AE) rfl ?_);show AR _ _ (field (.ref z) 3>>=_) _ _ _;refine AC (Au G rfl (x:=.ref j) rfl ?_);refine AC (BR L rfl ?_);show AR _ _ (AX (.ref z)>>=_) _ _ _;refine AC (n _ λg1 g Z1 e1=>?_);simp only[BE,if_false];refine AC ?_;simp only[IV,GU,IU];refine AC (AC (Bd ?_));show AR _ _ (Ak (.ref i1)>>=_) _ _ _;refine AC (T3 (P.stay λo e=>e1.extBut _ _ D.i1z e) (N.stay λo e=>e1.extBut _ _ D.l1z e) J λg2 J1 e2=>AL (AL ?_));refine AC (AC (Bd ?_));show AR _ _ (Ak (.ref i2)>>=_) _ _ _;have h:∀c o,c≠z->c≠i1->s.heap.get? c=AA o->g2.get? c=AA o:=λc o n1 n2 e=>e2.extBut _ _ n2 (e1.extBut _ _ n1 e);refine AC (T3 (O.stay λo e=>h _ _ D.i2z D.i12.symm e) (M.stay λo e=>h _ _ D.l2z D.l2i1 e) I λg4 J2 e4=>AL (AL ?_));refine AL ?_;have F:g4.objs.size=s.heap.objs.size:=by rw[e4.1,e2.1,e1.1]
 have l:∀c o,c≠z->c≠i1->c≠i2->s.heap.get? c=AA o->g4.get? c=AA o:=λc o n1 n2 n3 e=>e4.extBut _ _ n3 (h c o n1 n2 e);refine AC (LS (hsz:=by show 2<=sizeLine;decide) (AL ⟨_,rfl,?_⟩));show Q (.ref g4.objs.size) _;have H:Br (g4.push {cls:=.type "tuple",data:=.seq #[x,y]}) g4.objs.size x y:=Ae _ rfl;rw[F]at H ⊢;have m:∀{c o},g4.get? c=AA o->(g4.push {cls:=.type "tuple",data:=.seq #[x,y]}).get? c=AA o:=λe=>AM _ e;exact q _ g (m (e4.extBut _ _ D.i2z.symm (e2.extBut _ _ D.i1z.symm Z1))) (m (l _ _ D.TOz D.TOi1 D.TOi2 K)) (J1.stay λo e=>m (e4.extBut _ _ D.i12 e)) (J2.stay λo e=>m e) H (by rw[Cb,F]) λc o n1 n2 n3 n4 e=>m (l c o n1 n3 n4 e)
def a09{c b:AH}(a:u5 s.heap z c b .none fb)(r:R AD s):AR (model prog w) A (AX (.ref z)) R E s:=by
 unfold AX;exact AC (Au a rfl (x:=.none) rfl (AL r))
def a83{e d a:AH}(c:u5 s.heap z e d (Cf a) fb)(b:s.heap.get? a=AF)(r:R AD s):AR (model prog w) A (AX (.ref z)) R E s:=by
 unfold AX;refine AC (Au c rfl (x:=.int a 0) rfl ?_);show AR _ _ (HS (JS (a:Int))>>=_) _ _ _;rw[Bk];refine AC (av9 ?_);rw[b];exact AL r
def a76{f e a:AH}{o:Obj}(b:u5 s.heap z f e (Cf a) fb)(g:s.heap.get? a=AA o)(r:∀c d,u5 c z f e (Cf a) d->Ba z s.heap c->R AE {s with heap:=c}):AR (model prog w) A (AX (.ref z)) R E s:=by
 unfold AX;refine AC (Au b rfl (x:=.int a 0) rfl ?_);show AR _ _ (HS (JS (a:Int))>>=_) _ _ _;rw[Bk];refine AC (av9 ?_);rw[g];show AR _ _ (field (.ref z) 1>>=_) _ _ _;refine AC (Au b rfl (x:=.bool fb) rfl ?_);cases fb with
 |true=>
  show AR _ _ (pure AE) _ _ _;exact AL (r s.heap AD b ⟨rfl,λb hb=>rfl⟩)
 |false=>
  show AR _ _ (setField (.ref z) 1 (.bool AD)>>=λ_=>pure AE) _ _ _;exact AC (CJ b ∎ λg1 Z1 e1=>AL (r g1 AD Z1 e1))
def ce7{l g j i:AH}{k:Nat}{b:AG}(D:EZ z l g i1 i2 j i)(h:u5 s.heap z l g f fb)(I:f=.none\/∃c:AH,f=Cf c)
  (B:Br s.heap l (.ref i1) (.ref i2)) (u:Br s.heap g a b)
  (H:p6 b1 s.heap i1 j k) (G:p6 b2 s.heap i2 i k) (F:o4 b1 s.heap j xs) (C:o4 b2 s.heap i ys) (p:xs[k]?=AA x) (n:ys[k]?=AA y)
  (q:∀h' m e K J,u5 h' z l g m e->(m=.none\/∃c:AH,m=Cf c)->Br h' g K J->p6 b1 h' i1 j (k+1)->p6 b2 h' i2 i (k+1)->Br h' s.heap.objs.size x y->h'.objs.size=s.heap.objs.size+1 ->
   (∀c o,c≠z->c≠g->c≠i1->c≠i2->s.heap.get? c=AA o->h'.get? c=AA o)->Q (.ref s.heap.objs.size) {s with heap:=h'}) :
  AR (model prog w) A (Ci.«zip.__next__» ⟨[.ref z],[]⟩) (λfin s'=>∃v,fin=.done (.ret v)/\Q v s') E s:=by
 have t:(∀R:Bool->AK->Prop,R AD s->AR (model prog w) A (AX (.ref z)) R E s)->AR (model prog w) A (Ci.«zip.__next__» ⟨[.ref z],[]⟩) (λfin s'=>∃v,fin=.done (.ret v)/\Q v s') E s:=λfree=>
  cd1 D h free B u H G F C p n λh' a1 a2 a3 a4 a5 a6 a7=>q h' _ _ _ _ a1 (.inr ⟨_,rfl⟩) a2 a3 a4 a5 a6 a7
 rcases I with rfl|⟨c,rfl⟩
 ·exact t λR r=>a09 h r
 ·cases hd:s.heap.get? c with
  |none=>exact t λR r=>a83 h hd r
  |some o=>exact b98 D h (λR r=>a76 h hd r) B u H G F C p n λh' e a1 a2 a3 a4 a5 a6 a7=>q h' _ e _ _ a1 (.inr ⟨_,rfl⟩) a2 a3 a4 a5 a6 a7
def b70{i g B y:AH}{k:Nat}{b:AG}{Q:Fin->AK->Prop}(p:A.handled=AF)(D:EZ z i g i1 i2 B y)(h:u5 s.heap z i g f fb)(N:f=.none\/∃c:AH,f=Cf c)
  (J:Br s.heap i (.ref i1) (.ref i2)) (O:Br s.heap g a b)
  (u:p6 b1 s.heap i1 B k) (M:p6 b2 s.heap i2 y k) (t:o4 b1 s.heap B xs) (L:o4 b2 s.heap y ys) (G:xs[k]?=AF\/ys[k]?=AF)
  (q:∀F e,(∀c o,c≠z->c≠g->c≠i1->c≠i2->s.heap.get? c=AA o->F.get? c=AA o)->(∃o,F.get? e=AA o/\o.cls=.type "StopIteration")->E (.ref e) {s with heap:=F}) :
  AR (model prog w) A (Ci.«zip.__next__» ⟨[.ref z],[]⟩) Q E s:=by
 have free:(∀R:Bool->AK->Prop,R AD s->AR (model prog w) A (AX (.ref z)) R E s)->AR (model prog w) A (Ci.«zip.__next__» ⟨[.ref z],[]⟩) Q E s:=λfree=>by
  show AR _ _ (field (.ref z) 2>>=_) _ _ _;refine AC (Au h rfl (x:=.bool AE) rfl ?_);show AR _ _ (field (.ref z) 3>>=_) _ _ _;refine AC (Au h rfl (x:=.ref i) rfl (AC (BR J rfl ?_)));show AR _ _ (AX (.ref z)>>=_) _ _ _;refine AC (free _ ?_);simp only[if_true];refine AC (DN (AC (Au h rfl (x:=.ref g) rfl ?_)));refine AC (CJ h ∎ λg1 n e1=>?_);replace n:u5 g1 z i g .ellipsis fb:=n;refine AC ?_;simp only[Iz,JR,GU,IU];refine AC (AC (GN ?_));show AR _ _ (Ak (.ref i1)>>=_) _ _ _;cases hx:xs[k]? with
  |none=>
   refine AC (ac5 p (u.stay λo e=>e1.extBut _ _ D.i1z e) (t.stay λo e=>e1.extBut _ _ D.l1z e) hx λg2 e e2⟨oe,hoe,hce⟩=>?_);have I:u5 g2 z i g .ellipsis fb:=e2 _ _ D.i1z.symm n;have m:e≠z:=λv=>by subst v;rw[I]at hoe;cases hoe;simp at hce
   exact CJ I ∎ λg3 _ e3=>q g3 e (λc o n1 _ n3 _ v=>e3.extBut _ _ n1 (e2 _ _ n3 (e1.extBut _ _ n1 v))) ⟨oe,e3.extBut _ _ m hoe,hce⟩
  |some x=>
   have C:ys[k]?=AF:=G.elim (λv=>by rw[hx]at v;cases v) id;refine AC (T3 (u.stay λo e=>e1.extBut _ _ D.i1z e) (t.stay λo e=>e1.extBut _ _ D.l1z e) hx λg2 J1 e2=>AL ?_);have K:Br g2 g a b:=X3 (X3 O e1 D.TOz) e2 D.TOi1;refine AC (BR K rfl (AC (Fq K λg3 P3 e3=>?_)));refine AC (HU (AL (AC (AC (GN ?_)))));show AR _ _ (Ak (.ref i2)>>=_) _ _ _;have j:∀c o,c≠z->c≠i1->c≠g->s.heap.get? c=AA o->g3.get? c=AA o:=λc o n1 n2 n3 e=>e3.extBut _ _ n3 (e2.extBut _ _ n2 (e1.extBut _ _ n1 e));refine AC (ac5 p (M.stay λo e=>j _ _ D.i2z D.i12.symm D.TOi2.symm e) (L.stay λo e=>j _ _ D.l2z D.l2i1 D.l2TO e) C λg4 e e4⟨oe,hoe,hce⟩=>?_);have H:u5 g4 z i g .ellipsis fb:=e4 _ _ D.i2z.symm (e3.extBut _ _ D.TOz.symm (e2.extBut _ _ D.i1z.symm n));have m:e≠z:=λv=>by subst v;rw[H]at hoe;cases hoe;simp at hce
   exact CJ H ∎ λg5 _ e5=>q g5 e (λc o n1 n2 n3 n4 v=>e5.extBut _ _ n1 (e4 _ _ n4 (j c o n1 n3 n2 v))) ⟨oe,e5.extBut _ _ m hoe,hce⟩
 rcases N with rfl|⟨c,rfl⟩
 ·exact free λR r=>a09 h r
 ·cases hd:s.heap.get? c with
  |none=>exact free λR r=>a83 h hd r
  |some o=>
   show AR _ _ (field (.ref z) 2>>=_) _ _ _;refine AC (Au h rfl (x:=.bool AE) rfl ?_);show AR _ _ (field (.ref z) 3>>=_) _ _ _;refine AC (Au h rfl (x:=.ref i) rfl (AC (BR J rfl ?_)));show AR _ _ (AX (.ref z)>>=_) _ _ _;refine AC (a76 h hd λg1 fb' n e1=>?_);simp only[BE,if_false];refine AC ?_;simp only[IV,GU,IU];refine AC (AC (Bd ?_));show AR _ _ (Ak (.ref i1)>>=_) _ _ _;cases hx:xs[k]? with
   |none=>
    exact AC (ac5 p (u.stay λo e=>e1.extBut _ _ D.i1z e) (t.stay λo e=>e1.extBut _ _ D.l1z e) hx λg2 e e2 v=>q g2 e (λc o n1 _ n3 _ w=>e2 _ _ n3 (e1.extBut _ _ n1 w)) v)
   |some x=>
    have C:ys[k]?=AF:=G.elim (λv=>by rw[hx]at v;cases v) id;refine AC (T3 (u.stay λo e=>e1.extBut _ _ D.i1z e) (t.stay λo e=>e1.extBut _ _ D.l1z e) hx λg2 J1 e2=>AL (AL ?_));refine AC (AC (Bd ?_));show AR _ _ (Ak (.ref i2)>>=_) _ _ _;have l:∀c o,c≠z->c≠i1->s.heap.get? c=AA o->g2.get? c=AA o:=λc o n1 n2 e=>e2.extBut _ _ n2 (e1.extBut _ _ n1 e);exact AC (ac5 p (M.stay λo e=>l _ _ D.i2z D.i12.symm e) (L.stay λo e=>l _ _ D.l2z D.l2i1 e) C λg4 e e4 v=>q g4 e (λc o n1 _ n3 n4 w=>e4 _ _ n4 (l c o n1 n3 w)) v)
abbrev ZAt(b1 b2:Bool)(z TI TO i1 i2 l1 l2:AH)(k:Nat)(h:BC):Prop:=(∃f fb,u5 h z TI TO f fb/\(f=.none\/∃c:AH,f=Cf c))/\Br h TI (.ref i1) (.ref i2)/\(∃a b,Br h TO a b)/\p6 b1 h i1 l1 k/\p6 b2 h i2 l2 k
theorem ZAt.stay{i g l j:AH}{k:Nat}(Z:ZAt b1 b2 z i g i1 i2 l j k h)(d:∀c∈[z,i,g,i1,i2],∀o,h.get? c=AA o->h'.get? c=AA o):ZAt b1 b2 z i g i1 i2 l j k h':=by
 obtain⟨⟨f,n,p,m⟩,r,⟨a,b,q⟩,t,s⟩:=Z;exact⟨⟨f,n,d z ∎ _ p,m⟩,d i ∎ _ r,⟨a,b,d g ∎ _ q⟩,t.stay λo e=>d i1 ∎ o e,s.stay λo e=>d i2 ∎ o e⟩
def ZAt.type{e d b a:AH}{k:Nat}(Z:ZAt b1 b2 z e d i1 i2 b a k s.heap):s.TypeIs (.ref z) "zip":=by
 obtain⟨⟨f,h,c,g⟩,_⟩:=Z;exact⟨_,c,rfl⟩
def cc6{i h g e:AH}{k:Nat}{Q:Option AG->AK->Prop}(D:EZ z i h i1 i2 g e)(Z:ZAt b1 b2 z i h i1 i2 g e k s.heap)(v:o4 b1 s.heap g xs)(u:o4 b2 s.heap e ys)(n:xs[k]?=AA x)(m:ys[k]?=AA y)
  (q:∀h',ZAt b1 b2 z i h i1 i2 g e (k+1) h'->Br h' s.heap.objs.size x y->h'.objs.size=s.heap.objs.size+1->(∀c o,c≠z->c≠h->c≠i1->c≠i2->s.heap.get? c=AA o->h'.get? c=AA o)->Q (AA (.ref s.heap.objs.size)) {s with heap:=h'}):AR (model prog w) A (ET (.ref z)) Q E s:=by
 have j:=Z.type;obtain⟨⟨f,F,r,p⟩,l,⟨a,b,t⟩,C,B⟩:=Z;unfold ET;refine AC (Eo (BM (name:=Aa "__next__") j Dx (BL Dx j Jp ?_ (Je _))));exact ce7 D r p l t C B v u n m λh' f' fb' a' b' c1 c2 c3 c4 c5 c6 c7 c8=>AL (q h' ⟨⟨f',fb',c1,c2⟩,c8 _ _ D.TIz D.TITO D.TIi1 D.TIi2 l,⟨a',b',c3⟩,c4,c5⟩ c6 c7 c8)
def cf3{l h g d:AH}{k:Nat}{Q:Option AG->AK->Prop}(m:A.handled=AF)(D:EZ z l h i1 i2 g d)(Z:ZAt b1 b2 z l h i1 i2 g d k s.heap)(x:o4 b1 s.heap g xs)(v:o4 b2 s.heap d ys)(p:xs[k]?=AF\/ys[k]?=AF)
  (q:∀j,(∀c o,c≠z->c≠h->c≠i1->c≠i2->s.heap.get? c=AA o->j.get? c=AA o)->Q AF {s with heap:=j}):AR (model prog w) A (ET (.ref z)) Q E s:=by
 have i:=Z.type;obtain⟨⟨f,C,r,n⟩,u,⟨a,b,t⟩,B,y⟩:=Z;unfold ET;refine AC (Eo (BM (name:=Aa "__next__") i Dx (BL Dx i Jp ?_ (Je _))));refine b70 m D r n u t B y x v p λh' e up⟨o,ho,hc⟩=>?_;exact AC (Ey (T:="StopIteration") (b:=AD) ⟨o,ho,hc⟩ LR (AL (q _ up)))
def b79{e d c b:AH}{k:Nat}(Z:ZAt b1 b2 z e d i1 i2 c b k s.heap)(h:Q (.ref z) s):AR (model prog w) A (HC (.ref z)) Q E s:=by
 have a:=Z.type;refine KJ a KL (BL KL a F.entry_zip_iter ?_ (F.args_zip_iter_1 _));exact AL ⟨_,rfl,"zip",_,a,Dx.lookup,h⟩
abbrev itO(b:Bool)(l:AH):Obj:={cls:=.type (if b then "tuple_iterator" else "list_iterator"),data:=.fields #[.ref l,.int 0 0]}
def ba8(L:o4 b s.heap l xs)(q:Q (.ref s.heap.objs.size) {s with heap:=s.heap.push (itO b l)}):AR (model prog w) A (HC (.ref l)) Q E s:=by
 cases b with
 |true=>exact DR L q
 |false=>exact Gp L q
def be9(e:h.get? it=AA (itO b l)):p6 b h it l 0:=by
 cases b with
 |true=>exact⟨_,e,rfl,rfl⟩
 |false=>exact⟨_,e,rfl,rfl⟩
@[reducible]noncomputable def zg1(h:BC)(b1:Bool)(l1:AH):BC:=h.push (itO b1 l1)
@[reducible]noncomputable def zg2(h:BC)(b1 b2:Bool)(l1 l2:AH):BC:=(zg1 h b1 l1).push (itO b2 l2)
@[reducible]noncomputable def zg3(h:BC)(b1 b2:Bool)(l1 l2:AH):BC:=(zg2 h b1 b2 l1 l2).push {cls:=.type "tuple",data:=.seq #[.ref h.objs.size,.ref (zg1 h b1 l1).objs.size]}
@[reducible]noncomputable def zg4(h:BC)(b1 b2:Bool)(l1 l2:AH):BC:=(zg3 h b1 b2 l1 l2).push {cls:=.type "tuple",data:=.seq #[.none,.none]}
@[reducible]noncomputable def zg5(h:BC)(b1 b2:Bool)(l1 l2:AH):BC:=(zg4 h b1 b2 l1 l2).push {cls:=.type "zip",data:=.fields #[.none,.bool AE,.bool AE,.ref (zg2 h b1 b2 l1 l2).objs.size,.ref (zg3 h b1 b2 l1 l2).objs.size]}
end
def bq0(c f:Bool)(a b:AH)(j i:Array AG):
  JM (Ci.«zip.__new__» ⟨[.type "zip",.ref a,.ref b],[]⟩) (λ_ R s=>o4 c s.heap a j/\o4 f s.heap b i/\R (.ok (.ret (.ref (zg4 s.heap c f a b).objs.size))) {s with heap:=zg5 s.heap c f a b}):=
 .of_wp λprog w A R s h=>by
  obtain⟨n,g,d,k,l⟩:=s;obtain⟨r,q,h⟩:=h;have m:=sub_zip;have p:o4 c (Hj ⟨n,g,d,k,l⟩) a j:=r;have o:o4 f (Hj ⟨n.push (itO c a),g,d,k,l⟩) b i:=o4.stay q λo e=>AM _ e
  wp_walk using ba8 p,ba8 o
  exact⟨_,rfl,h⟩
section
variable {prog:An} {w:Ax} {A:BU} {E:AG->AK->Prop} {s:AK}
def bv9{a b:AH}(r:o4 b1 s.heap a xs)(p:o4 b2 s.heap b ys)
  (q:∀d,ZAt b1 b2 (s.heap.objs.size+4) (s.heap.objs.size+2) (s.heap.objs.size+3) s.heap.objs.size (s.heap.objs.size+1) a b 0 d->u5 d (s.heap.objs.size+4) (s.heap.objs.size+2) (s.heap.objs.size+3) .none AE->d.objs.size=s.heap.objs.size+5->(∀c o,s.heap.get? c=AA o->d.get? c=AA o)->Q (.ref (s.heap.objs.size+4)) {s with heap:=d}) :
  AR (model prog w) A (call (.type "zip") [.ref a,.ref b]) Q E s:=by
 refine Io F.called_zip ∅ (F.typeCall_zip_2 _ _) (F.newCall_zip_2 _ _) (λobj=>F.args_object_init_3 obj _ _) F.entry_zip_new (bq0 b1 b2 a b xs ys) ⟨r,p,?_⟩;have i:(zg1 s.heap b1 a).objs.size=s.heap.objs.size+1:=Cb ..;have h:(zg2 s.heap b1 b2 a b).objs.size=s.heap.objs.size+2:=by rw[Cb,i]
 have g:(zg3 s.heap b1 b2 a b).objs.size=s.heap.objs.size+3:=by rw[Cb,h]
 have f:(zg4 s.heap b1 b2 a b).objs.size=s.heap.objs.size+4:=by rw[Cb,g]
 have m:(zg5 s.heap b1 b2 a b).objs.size=s.heap.objs.size+5:=by rw[Cb,f]
 have e:(zg5 s.heap b1 b2 a b).get? (zg4 s.heap b1 b2 a b).objs.size=AA _:=Ae _ rfl;have j:(zg5 s.heap b1 b2 a b).get? (zg3 s.heap b1 b2 a b).objs.size=AA _:=AM _ (Ae _ rfl);have k:(zg5 s.heap b1 b2 a b).get? (zg2 s.heap b1 b2 a b).objs.size=AA _:=AM _ (AM _ (Ae _ rfl));have l:(zg5 s.heap b1 b2 a b).get? (zg1 s.heap b1 a).objs.size=AA (itO b2 b):=AM _ (AM _ (AM _ (Ae _ rfl)));have n:(zg5 s.heap b1 b2 a b).get? s.heap.objs.size=AA (itO b1 a):=AM _ (AM _ (AM _ (AM _ (Ae _ rfl))));show _/\_;rw[h,g,f]at e;rw[i,h]at k;rw[g]at j;rw[i]at l;rw[f];exact⟨⟨_,e,rfl⟩,q _ ⟨⟨_,_,e,.inl rfl⟩,k,⟨_,_,j⟩,be9 n,be9 l⟩ e m λc o x=>
  AM _ (AM _ (AM _ (AM _ (AM _ x))))⟩
abbrev ZL(m0:Nat)(av:List AH)(h:BC)(xs ys acc:Array AG):Prop:=(∀(j:Nat)(v:AG),acc[j]?=AA v->∃T x y,v=.ref T/\T∉av/\xs[j]?=AA x/\ys[j]?=AA y/\Br h T x y/\m0<=T)/\∀(j k:Nat)(v:AG),acc[j]?=AA v->acc[k]?=AA v->j=k
def ce2{TI q M L S:AH}{u:AG}{R:Hs->AK->Prop}{m0:Nat}(hh:A.handled=AF)(D:EZ z TI q i1 i2 M L)(nS:S∉[z,TI,q,i1,i2,M,L])(hz:min xs.size ys.size<=1000000):
  ∀(m i:Nat)(s:AK)(d:Array AG)(c:Nat),min xs.size ys.size-i=m->i<=min xs.size ys.size->ZAt b1 b2 z TI q i1 i2 M L i s.heap->o4 b1 s.heap M xs->o4 b2 s.heap L ys ->
  s.heap.get? S=AA {cls:=.type "list",dict:=AF,data:=.seq d c,slots:=#[]}->d.size=i->m0<=s.heap.objs.size->ZL m0 [S,z,q,i1,i2] s.heap xs ys d ->
  (∀h' g c',(∀b o,b∉[S,z,q,i1,i2]->s.heap.get? b=AA o->h'.get? b=AA o)->h'.get? S=AA {cls:=.type "list",dict:=AF,data:=.seq g c',slots:=#[]}->g.size=min xs.size ys.size->ZL m0 [S,z,q,i1,i2] h' xs ys g->R (.ok (.ret u)) {s with heap:=h'}) ->
  Dq (model prog w) A (.builtin "list.extend.loop" ⟨[.ref S,.ref z,u],[]⟩) R s:=by
 simp only[AN,AZ,or_false,not_or]at nS;obtain⟨W,s2,V,U,Q,s6,s7⟩:=nS;intro m
 induction m with
 |zero=>
  intro i s d c hm hi Z P O N t E r hR;have H:i=min xs.size ys.size:=by lia
  refine Ku JA ?_;rw[Hk EA _];show AR _ A.in1 (ET (.ref z)>>=_) _ _ s;refine AC (cf3 hh D Z P O ?_ λh' up=>AL (hR h' d c (λb o hb e=>?_) (up S _ W V U Q N) (by rw[t,H]) ?_))
  ·rw[H]
   rcases Nat.le_total xs.size ys.size with v|v
   ·exact .inl (by rw[Gq v];exact HW (AS _))
   ·exact .inr (by rw[GX v];exact HW (AS _))
  ·simp only[AN,AZ,or_false,not_or]at hb;exact up b o hb.2.1 hb.2.2.1 hb.2.2.2.1 hb.2.2.2.2 e
  ·refine⟨λj v hj=>?_,r.2⟩;obtain⟨T,x,y,h1,h2,h3,h4,h5,h6⟩:=r.1 j v hj;have n:=h2;simp only[AN,AZ,or_false,not_or]at n;exact⟨T,x,y,h1,h2,h3,h4,up T _ n.2.1 n.2.2.1 n.2.2.2.1 n.2.2.2.2 h5,h6⟩
 |succ m ih=>
  intro i s d c hm hi Z P O N t E r hR;have p:i<min xs.size ys.size:=by lia
  have G:i<xs.size:=Aj p (Ef ..);have F:i<ys.size:=Aj p (FJ ..);refine Ku JA ?_;rw[Hk EA _];show AR _ A.in1 (ET (.ref z)>>=_) _ _ s;refine AC (cc6 D Z P O (Bl G) (Bl F) λh1 Z1 T1 sz1 up1=>?_);have I:=up1 S _ W V U Q N;have C:∀{c o},s.heap.get? c=AA o->s.heap.objs.size≠c:=λe=>Gf (Az e);have nT:s.heap.objs.size∉[S,z,q,i1,i2]:=by
   obtain⟨⟨f,fb,Z0,hf⟩,PI,⟨a,b,PO⟩,I1,I2⟩:=Z;obtain⟨o1,e1,_⟩:=I1.obj;obtain⟨o2,e2,_⟩:=I2.obj;simp only[AN,AZ,or_false,not_or];exact⟨C N,C Z0,C PO,C e1,C e2⟩
  show AR _ A.in1 (IW S (·.push (.ref s.heap.objs.size))>>=_) _ _ _;refine AC ?_;have h:∀b o,b≠S->h1.get? b=AA o->(h1.update S (CD (·.push (.ref s.heap.objs.size)))).get? b=AA o:=λb o hb e=>(Cq _ _ (Aw hb)).trans e;have X:s.heap.objs.size≠S:=λv=>nT (by simp[v]);refine ED I rfl (AL ⟨plainId_quiet EA _,ih (i+1) {s with heap:=_} (d.push (.ref s.heap.objs.size)) _ ⋯ p ?_ ?_ ?_ (CH _ I rfl) (by rw[JB,t]) ?_ ?_ λh2 g c' up2 hS2 ha2 zl2=>?_⟩)
   (by rw[t,HK];lia) (by show(d.push _).size<=sizeLine+1;rw[JB,t,HK];lia)
  ·refine Z1.stay λc hc o e=>h c o (λv=>?_) e;subst v;simp only[AN,AZ,or_false]at hc
   rcases hc with v|v|v|v|v
   ·exact W v
   ·exact s2 v
   ·exact V v
   ·exact U v
   ·exact Q v
  ·exact(P.stay λo e=>up1 _ _ D.l1z D.l1TO D.l1i1 D.l1i2 e).stay λo e=>h _ o (Aw s6) e
  ·exact(O.stay λo e=>up1 _ _ D.l2z D.l2TO D.l2i1 D.l2i2 e).stay λo e=>h _ o (Aw s7) e
  ·show m0<=(h1.update S _).objs.size;rw[(BV h1 S _).1,sz1];lia
  ·have B:∀(j:Nat),d[j]?≠AA (.ref s.heap.objs.size):=λj hj=>by
    obtain⟨T,x,y,g1,g2,g3,g4,g5,g6⟩:=r.1 j _ hj;cases g1;exact absurd (Az g5) (CY _)
   refine⟨λj v hj=>?_,λj k v hj hk=>?_⟩
   ·rw[ID]at hj
    split at hj
    ·rename_i Y;cases hj;rw[Y,t];exact⟨_,_,_,rfl,nT,Bl G,Bl F,h _ _ X T1,E⟩
    ·obtain⟨T,x,y,g1,g2,g3,g4,g5,g6⟩:=r.1 j v hj;have l:=g2;simp only[AN,AZ,or_false,not_or]at l;exact⟨T,x,y,g1,g2,g3,g4,h _ _ l.1 (up1 T _ l.2.1 l.2.2.1 l.2.2.2.1 l.2.2.2.2 g5),g6⟩
   ·rw[ID]at hj hk
    split at hj
    ·split at hk
     ·lia
     ·cases hj;exact absurd hk (B k)
    ·split at hk
     ·cases hk;exact absurd hj (B j)
     ·exact r.2 j k v hj hk
  ·refine hR h2 g c' (λb o hb e=>up2 b o hb ?_) hS2 ha2 zl2;simp only[AN,AZ,or_false,not_or]at hb;exact h b o hb.1 (up1 b o hb.2.1 hb.2.2.1 hb.2.2.2.1 hb.2.2.2.2 e)
def bp4:GT (.type "zip") "__len__"=pure AF:=by rw[DM,CL];kernel_rfl
def bo9:GT (.type "zip") "__length_hint__"=pure AF:=by rw[DM,CL];kernel_rfl
def bu4{m0:Nat}{u n r q S:AH}{g:AG}{R:Hs->AK->Prop}{Q:Nat}(L:A.handled=AF)(D:EZ z u n i1 i2 r q)(y:S∉[z,u,n,i1,i2,r,q])(hz:min xs.size ys.size<=1000000)
  (Z:ZAt b1 b2 z u n i1 i2 r q 0 s.heap) (U:o4 b1 s.heap r xs) (T:o4 b2 s.heap q ys) (C:s.heap.get? S=AA {cls:=.type "list",data:=.seq #[] Q}) (t:m0<=s.heap.objs.size)
  (M:∀h' a i,(∀b o,b∉[S,z,n,i1,i2]->s.heap.get? b=AA o->h'.get? b=AA o)->h'.get? S=AA {cls:=.type "list",dict:=AF,data:=.seq a i,slots:=#[]}->a.size=min xs.size ys.size->ZL m0 [S,z,n,i1,i2] h' xs ys a->R (.ok (.ret g)) {s with heap:=h'}) :
  AR (model j w) A.in1 (CU (.ref S) (.ref z) g)
   (λfin p=>match fin with|.done f=>R (.ok f) p|.again i=>i.quiet=AD/\Dq (model j w) A i R p) (λe p=>R (.error e) p) s:=by
 have l:=y;simp only[AN,AZ,or_false,not_or]at l;obtain⟨x,J,I,H,G,F,E⟩:=l;unfold CU;refine AC (FK Z.type ?_);have P:Fx (.ref S) (.ref z)=AE:=by simp[Fx,x]
 have O:(Cm "zip"==Cm "list")=AE:=by decide
 have N:(Cm "zip"==Cm "tuple")=AE:=by decide
 simp only[P,O,N,HN,BE,if_false];refine AC (b79 Z (AC (Bd ?_)));unfold Kv;refine AC (Bm Z.type bp4 ?_);show AR _ A.in1 (specialOf (Ap z) (Aa "__length_hint__")>>=_) _ _ _;refine AC (Bm Z.type bo9 (AL ?_));show AR _ A.in1 (rule "list.extend.makes-room">>=λ_=>Kx (.ref S)>>=λ_=>again (.builtin "list.extend.loop" ⟨[.ref S,.ref z,g],[]⟩)) _ _ _;refine AC (DN (AC ?_));show AR _ A.in1 (IW S (·.push .none)>>=λ_=>IW S (·.pop)) _ _ _;refine AC (ED C rfl ?_);have B:=CH (CD (·.push Bc)) C rfl;refine ED (hz:=by seq_fits) B rfl ?_;have K:=CH (CD (·.pop)) B rfl;have d:∀b o,b≠S->s.heap.get? b=AA o->((s.heap.update S (CD (·.push Bc))).update S (CD (·.pop))).get? b=AA o:=λb o hb e=>(Cq _ _ (Aw hb)).trans ((Cq _ _ (Aw hb)).trans e);refine AL ⟨plainId_quiet EA _,ce2 (m0:=m0) L D y hz (min xs.size ys.size) 0 {s with heap:=_} #[] _ ⋯ (BK _) (Z.stay λc hc o e=>d c o (λv=>?_) e) (U.stay λo e=>d _ o (Aw F) e) (T.stay λo e=>d _ o (Aw E) e) K rfl ?_ ⟨λj v hj=>by simp at hj,λj k v hj=>by simp at hj⟩ λh' a i up hS' ha' zl'=>?_⟩
 ·subst v;simp only[AN,AZ,or_false]at hc
  rcases hc with v|v|v|v|v
  ·exact x v
  ·exact J v
  ·exact I v
  ·exact H v
  ·exact G v
 ·show m0<=((s.heap.update S _).update S _).objs.size;rw[(BV _ S _).1,(BV _ S _).1];exact t
 ·exact M h' a i (λb o hb e=>up b o hb (d b o (λv=>hb (by simp[v])) e)) hS' ha' zl'
def bn3{k f h g:AH}{Q:AG->AK->Prop}(r:A.handled=AF)(D:EZ z k f i1 i2 h g)(m:∀c∈[z,k,f,i1,i2,h,g],c<s.heap.objs.size)(hz:min xs.size ys.size<=1000000)
  (Z:ZAt b1 b2 z k f i1 i2 h g 0 s.heap) (y:o4 b1 s.heap h xs) (x:o4 b2 s.heap g ys)
  (t:∀h' a n,(∀b o,b∉[z,f,i1,i2]->s.heap.get? b=AA o->h'.get? b=AA o)->h'.get? s.heap.objs.size=AA {cls:=.type "list",dict:=AF,data:=.seq a n,slots:=#[]}->a.size=min xs.size ys.size->ZL s.heap.objs.size [s.heap.objs.size,z,f,i1,i2] h' xs ys a->Q (.ref s.heap.objs.size) {s with heap:=h'}) :
  AR (model prog w) A (call (.type "list") [.ref z]) Q E s:=by
 have p:s.heap.objs.size∉[z,k,f,i1,i2,h,g]:=λv=>CY _ (m _ v);refine callType_codes (Q₁:=λobj u=>obj=.ref s.heap.objs.size/\u={s with heap:=s.heap.push {cls:=.type "list",data:=.seq #[]}}) F.called_list (F.typeCall_list_1 _) F.entry_list_init (code_list_new _ ⟨rfl,rfl⟩) λobj u hu=>?_;obtain⟨rfl,rfl⟩:=hu;have j:(s.heap.push {cls:=.type "list",data:=.seq #[]}).get? s.heap.objs.size=AA {cls:=.type "list",data:=.seq #[]}:=Ae _ rfl;refine⟨⟨_,j,rfl⟩,F.args_list_init_2 _ _,?_⟩;show AR _ A.in1.in1 (do let l <-GO (.ref s.heap.objs.size);Ky (.ref s.heap.objs.size) (λ_=>#[]);letGo l.toList.reverse;CU (.ref s.heap.objs.size) (.ref z) .none) _ _ _;refine AC ?_;unfold GO;refine AC (BR j rfl (AL ?_));show AR _ A.in1.in1 (IW s.heap.objs.size (λ_=>#[])>>=λ_=>letGo (#[]:Array AG).toList.reverse>>=λ_=>CU (.ref s.heap.objs.size) (.ref z) .none) _ _ _;refine AC (ED j rfl ?_);have q:=CH (CD (λ_=>(#[]:Array AG))) j rfl;have d:∀b o,s.heap.get? b=AA o->((s.heap.push {cls:=.type "list",data:=.seq #[]}).update s.heap.objs.size (CD (λ_=>(#[]:Array AG)))).get? b=AA o:=λb o e=>(Cq _ _ (Gf (Az e))).trans (AM _ e);refine AC (HU ?_);refine bu4 (m0:=s.heap.objs.size) (A:=A.in1) r D p hz (Z.stay λc hc o e=>d c o e) (y.stay λo e=>d _ o e) (x.stay λo e=>d _ o e) q ?_ λh' a n up hS' ha' zl'=>?_
 ·show s.heap.objs.size<=((s.heap.push _).update _ _).objs.size;rw[(BV _ _ _).1,Cb];lia
 refine⟨rfl,t h' a n (λb o hb e=>up b o (λv=>?_) (d b o e)) hS' ha' zl'⟩
 rcases AN.mp v with v|v
 ·exact absurd (Az e) (by rw[v];exact CY _)
 ·exact hb v
end
end PySem
namespace PySem
end PySem
namespace L2
open PySem PySem.Spec PyProof.Rows
section
variable {X:Cx} {pins:List (AH×Obj)} {σ:St} {H:Hp} {s:AK}
def Inv.track{b:AH}{o:HO}(I:Inv X pins σ H s)(h:w6 X pins H b)(g:o7 X.prog X.w (upd H b o) s.heap b o):Inv X pins σ (upd H b o) s:=by
 obtain⟨m,l,p,k,j,i⟩:=h;have f:∀c u,H c=AA u->c≠b:=λc u e z=>by rw[z,m]at e;cases e
 have:=I.step (H':=upd H b o) (h':=s.heap) (g':=s.gens) (d':=s.drawn) (t':=s.toks) (ch:=[b]) (λc a=>by
   have e:c=b:=by simpa using a
   subst e;exact⟨k,l,j,i⟩) (λc u _ _ _ e _=>e) (λc u _ _ _ e _=>⟨u.slots,e⟩) (λc u a e n=>by rw[i9 (by simpa using a)];exact n) (λc u _ e=>⟨u,e⟩)
  (λc xs e=>by rw[i9 (f c _ e)];exact e) (λc u v e=>by rw[i9 (f c _ e)];exact e) (λc ps e=>⟨#[],by rw[i9 (f c _ e),e];simp⟩) (λm hm=>hm) (λc u e=>?_) I.bare
 ·exact this
 ·by_cases a:c=b
  ·subst a;rw[p8]at e;cases e;exact g
  ·rw[i9 a]at e;exact(I.hok c u e).stay (λ_ _ _ q=>q) (λd q=>by rw[i9 (f d _ q)];exact q) λd xs q=>by rw[i9 (f d _ q)];exact q
abbrev SqB(b:Bool)(K:AQ)(H:Hp)(a:AH)(xs:List V):Prop:=match b with|true=>SqT K H a xs|false=>SqL K H a xs
def Inv.seqB{b:Bool}{a:AH}{d:List V}(I:Inv X pins σ H s)(h:SqB b X.K H a d):∃c:List AG,g9 d c/\o4 b s.heap a c.toArray/\d.length<=sizeLine:=by
 cases b with
 |true=>obtain⟨c,e,f,g⟩:=I.tuple h;exact⟨c,e,show s.heap.IsTuple a c.toArray from f,g⟩
 |false=>obtain⟨c,e,f,g⟩:=I.list h;exact⟨c,e,f.isList,g⟩
end
section
variable {X:Cx}
def b14:BG "zip"=AA (.type "zip"):=by decide+kernel
end
section
variable {X:Cx}
abbrev da9:V->List V->Hp->VK->Prop:=λx vs H Q=>∃l xs,x=.ref l/\vs=[]/\H l=AA (.lst xs)/\Q .non (upd H l (.lst xs.reverse))
def cq0:MtM X "list.reverse" da9:=by
 intro c s i H x k v m Q I f g h;obtain⟨l,j,rfl,rfl,d,q⟩:=h;cases f;have b:=g.zero;subst b;obtain⟨z,a,n,r,o,e⟩:=I.lstM d;refine DQ F.slot_list_reverse ⟨_,e,rfl⟩ F.entry_list_reverse (F.args_list_reverse_1 _) (AutoSeq1.list_reverse_list_0 l a.toArray n (by rw[Ab];lia)) ⟨e,?_⟩;refine⟨.non,_,I.lset (its':=a.reverse) d e ?_ r.reverse ?_,rfl,q⟩
 ·simp
 ·rw[IL];lia
end
end L2
namespace Ek
open PySem PySem.Spec PyProof.Rows L2
variable [Tbs]
section
variable {X:Cx} {a:AT} {ta:DT} {pos:Pos}
def ch0{b:Pos}(m:PE X a (up X.K ta))(e:∀i p l,a≠.Call (.Name i p) [] [] l)(c:(b.endLine==pos.line)=AD):
  PE X (.Call (.Attribute a "reverse" b) [] [] pos) (up X.K λenv st Q=>ta env st λx st1=>Y8 x st1 Q):=
 PE.imp (be4 PySem.F.plainAttrs_list PySem.F.slot_list_reverse PySem.F.type_list_reverse cq0 m (E5 e) c) λσ H Q q=>up1 (f:=Y8) q λv d H' st' Qd is rs g hq=>by
  cases d<;>first|exact AU g|skip
  obtain⟨n,k,g⟩:=g;obtain⟨j,h,r⟩:=rs.lst k;rw[is.ref_inv];exact⟨.inl ⟨rfl,j,.inl (.inl h)⟩,_,j,rfl,rfl,h,hq _ _ _ (b0 st' _ (.lst n.reverse)) (Ev.put k) .non (rs.putOld h r.rev) g⟩
end
end Ek
namespace Ek
open PySem PySem.Spec PyProof.Rows L2
variable [Tbs]
section
variable {X:Cx} {a b:AT} {ta tb:DT} {pos p:Pos} {K:AQ}
def bx9(ds a:List D):(F5 ds a).length=min ds.length a.length:=by unfold F5;rw[AW,JT]
def cp0(B:X.calm=AD)(A:Gl X "min")(z:X.mg "min"=AF)(D:PE X a (up X.K ta))(C:PE X b (up X.K tb))(l:∀e p,a≠.Starred e p)(g:∀e p,b≠.Starred e p):
  PE X (.Call (.Name "min" p) [a,b] [] pos) (up X.K λenv h Q=>ta env h λx c=>tb env c λy st2=>∃i j,x=.int i/\y=.int j/\Q (.int (if j<i then j else i)) st2):=
 PE.imp (ab2 (bt5 B) A z (by decide+kernel) (ac4 D C l g) ∅ ∅ (o5 l) (by rw[o5 g];rfl)) λσ H Q q=>by
  obtain⟨env,h,G,F,E,t,u⟩:=q;refine⟨env,h,(λds c=>match ds with|[x,y]=>∃i j,x=.int i/\y=.int j/\G (.int (if j<i then j else i)) c|_=>False),F,E,t,λvs ds H' st' ev is hl rs k=>?_⟩
  match ds,hl with
  |[d,e],_=>
   obtain⟨v,I,rfl,s,r⟩:=is.inv_cons;obtain⟨w,m,rfl,o,n⟩:=r.inv_cons;rw[n.inv_nil];obtain⟨i,j,rfl,rfl,k⟩:=k;exact⟨i,j,by rw[s.int_inv,o.int_inv],(u.after ev).here (.int _) rs k⟩
theorem bb1{g:List (AH×Obj)}{P:L2.St}{s:AK}{st:Sto}:∀(k:List AH)(l m:List V)(t r:List AG)(c h:List D)(H:Hp),Inv X g P H s->RelS X.K st H->g9 l t->g9 m r->IsDs X.K H c l->IsDs X.K H h m->k.length=min l.length m.length ->
  (∀(j:Nat)T x y,k[j]?=AA T->t[j]?=AA x->r[j]?=AA y->Br s.heap T x y)->k.Nodup->(∀T∈k,w6 X g H T) ->
  ∃q,Inv X g P q s/\Ev st H st q/\RelS X.K st q/\IsDs X.K q (F5 c h) (k.map V.ref)/\∀b,b∉k->q b=H b
 |[],l,m,t,r,c,h,H,I,B,_,_,p,o,w,_,_,_=>by
  refine⟨H,I,Ev.refl,B,⟨?_,λi d v e1 e2=>by simp at e2⟩,λb _=>rfl⟩;rw[bx9,p.len,o.len];simpa using w.symm
 |T::k,[],m,t,r,c,h,H,I,B,G,F,p,o,w,_,_,_=>by simp at w
 |T::k,v::l,[],t,r,c,h,H,I,B,G,F,p,o,w,_,_,_=>by simp at w
 |T::k,v::l,u::m,[],r,c,h,H,I,B,G,F,p,o,w,M,Z,N=>by cases G
 |T::k,v::l,u::m,x::t,[],c,h,H,I,B,G,F,p,o,w,M,Z,N=>by cases F
 |T::k,v::l,u::m,x::t,y::r,c,h,H,I,B,R,Q,p,o,w,M,Z,N=>by
  obtain⟨a1,G⟩:i6 v x/\g9 l t:=by cases R with|cons a b=>exact⟨a,b⟩
  obtain⟨a2,F⟩:i6 u y/\g9 m r:=by cases Q with|cons a b=>exact⟨a,b⟩
  obtain⟨d,c,rfl⟩:∃d E,c=d::E:=by cases c with|nil=>have:=p.len;simp at this|cons d c=>exact⟨d,c,rfl⟩
  obtain⟨e,h,rfl⟩:∃d E,h=d::E:=by cases h with|nil=>have:=o.len;simp at this|cons d c=>exact⟨d,c,rfl⟩
  have Y:Br s.heap T x y:=M 0 T x y rfl rfl rfl;have L:=N T ∎;have O:H T=AF:=L.1;have I1:Inv X g P (upd H T (.tup [v,u])) s:=I.track L ⟨by show 2<=sizeLine;decide,[x,y],.cons a1 (.cons a2 .nil),⟨_,Y,rfl,rfl,_,rfl⟩⟩;have S:TK X.K H (upd H T (.tup [v,u])):=TK.new O;have C:=BP.mp Z;have t1:IsDs X.K (upd H T (.tup [v,u])) c l:=⟨by have:=p.len;simpa using this,λi d' v' e1 e2=>(p.at' (i+1) d' v' (by simpa using e1) (by simpa using e2)).mono S⟩;have t2:IsDs X.K (upd H T (.tup [v,u])) h m:=⟨by have:=o.len;simpa using this,λi d' v' e1 e2=>(o.at' (i+1) d' v' (by simpa using e1) (by simpa using e2)).mono S⟩;obtain⟨q,I2,ev,U,is,A⟩:=bb1 k l m t r c h _ I1 (B.new O) G F t1 t2 (by simp only[AV]at w;lia) (λj T' x' y' h1 h2 h3=>M (j+1) T' x' y' (by simpa using h1) (by simpa using h2) (by simpa using h3)) C.2 λT' hT'=>by
   obtain⟨f0,f⟩:=N T' (by simp[hT']);exact⟨by rw[i9 (λz=>C.1 (by rw[<-z];exact hT'))];exact f0,f⟩
  have e0:q T=AA (.tup [v,u]):=by rw[A T C.1];exact p8
  have d0:IsD X.K H d v:=p.at' 0 d v rfl rfl;have d1:IsD X.K H e u:=o.at' 0 e u rfl rfl;have J:TK X.K H q:=TK.trans S (ev.tk (B.new O));refine⟨q,I2,(Ev.new O).trans ev,U,?_,λb hb=>?_⟩
  ·show IsDs X.K q (.tup [d,e]::F5 c h) (.ref T::k.map V.ref);exact .cons (IsD.mk (SqX.of e0) (.cons (d0.mono J) (.cons (d1.mono J) .nil))) is
  ·simp only[AN,not_or]at hb;rw[A b hb.2,i9 hb.1]
def b56{p2 L:Pos}(z:X.calm=AD)(hg:Gl X "list")(hm:X.mg "list"=AF)(hg2:Gl X "zip")(hm2:X.mg "zip"=AF)(ha:PE X a (up X.K ta))(hb:PE X b (up X.K tb))(hs:∀e p,a≠.Starred e p)(hs':∀e p,b≠.Starred e p):
  PE X (.Call (.Name "list" p) [.Call (.Name "zip" p2) [a,b] [] L] [] pos) (up X.K λenv st Q=>ta env st λx f=>tb env f λy st2=>∃r n,x=.tup r/\y=.tup n/\min r.length n.length<=1000000/\∀p,st2 p=AF->Q (.ref p) (b0 st2 p (.lst (F5 r n)))):=by
 intro k s σ H Q I q;obtain⟨env,st,Qd,hE,hS,ht,hq⟩:=q;have hst2:Am [b] X.env=[(AE,eval b X.env)]:=by rw[o5 hs'];rfl
 have hst:Am [a,b] X.env=(AE,eval a X.env)::Am [b] X.env:=by rw[o5 hs]
 refine JG (G1 I hg hm ax1 (BD (Q:=_) (DC ?_) rfl rfl));refine JG (G1 I hg2 hm2 L2.b14 (BD (thn (ac4 ha hb hs hs' L k s σ H (λvs E=>∃v w r n f,vs=[v,w]/\Ev st H f E/\IsD X.K E (.tup r) v/\IsD X.K E (.tup n) w/\RelS X.K f E/\min r.length n.length<=1000000/\∀p,f p=AF->Qd (.ref p) (b0 f p (.lst (F5 r n)))) I
  ⟨env,st,(λds f=>match ds with|[x,y]=>∃r n,x=.tup r/\y=.tup n/\min r.length n.length<=1000000/\∀p,f p=AF->Qd (.ref p) (b0 f p (.lst (F5 r n)))|_=>False),hE,hS,ht,λvs ds H' st' ev is hl rs q1=>?_⟩) λus s1 hh=>?_) hst (by rw[hst2];rfl)))
 ·match ds,hl with
  |[d,e],_=>
   obtain⟨v,ws,rfl,i1,i2⟩:=is.inv_cons;obtain⟨w,ws',rfl,i3,i4⟩:=i2.inv_cons;rw[i4.inv_nil];obtain⟨r,n,rfl,rfl,q1⟩:=q1;exact⟨v,w,r,n,st',rfl,ev,i1,i3,rs,q1⟩
 obtain⟨vs,E,J,r1,v,w,r,n,f,e,ev,is,is2,rs,hle,q1⟩:=hh;subst e;obtain⟨u,u2,rfl,ru,ru2⟩:=r1.two;obtain⟨l1,vs,rfl,q1s,N⟩:=is.tup_inv;obtain⟨l2,ws,rfl,q2s,M⟩:=is2.tup_inv;cases ru;cases ru2;obtain⟨P,rv,L1,hz1⟩:=J.seqB (b:=AD) q1s;obtain⟨O,Y,L2,hz2⟩:=J.seqB (b:=AD) q2s;have n1:=rv.length;have n2:=Y.length;have A:min P.toArray.size O.toArray.size=min r.length n.length:=by simp only[Ab];rw[<-n1,<-n2,N.len,M.len]
 refine bv9 L1 L2 λh1 Z Z0 sz kk=>?_;refine EF ?_;have I2:Inv X k σ E {s1 with heap:=h1}:=J.kept (t':=s1.toks) kk;have D:=zipApart_new L1.lt L2.lt;have bl:∀c∈[s1.heap.objs.size+4,s1.heap.objs.size+3,s1.heap.objs.size,s1.heap.objs.size+1],s1.heap.objs.size<=c:=λc z=>by
  simp only[AN,AZ,or_false]at z
  rcases z with rfl|rfl|rfl|rfl
  ·exact DG _ _
  ·exact DG _ _
  ·exact AS _
  ·exact DG _ _
 refine bn3 (s:={s1 with heap:=h1}) (I2.ok.hd z) D (λc z=>?_) (by rw[A];exact hle) Z (L1.stay λo e=>kk _ o e) (L2.stay λo e=>kk _ o e) λh2 acc c' up hS2 hacc zl=>?_
 ·show c<h1.objs.size;rw[sz];simp only[AN,AZ,or_false]at z
  rcases z with rfl|rfl|rfl|rfl|rfl|rfl|rfl
  ·exact Dt ∅ _
  ·exact Dt ∅ _
  ·exact Dt ∅ _
  ·exact Nat.lt_add_of_pos_right ∅
  ·exact Dt ∅ _
  ·exact Aj L1.lt (DG _ _)
  ·exact Aj L2.lt (DG _ _)
 have I3:Inv X k σ E {s1 with heap:=h2,toks:=s1.toks}:=I2.turnedAll (s:={s1 with heap:=h1}) (t':=s1.toks) (ch:=[s1.heap.objs.size+4,s1.heap.objs.size+3,s1.heap.objs.size,s1.heap.objs.size+1]) (λc z=>J.fpOk (bl c z) (J.hok.fresh (bl c z))) λc u z e=>up c u z e;have S:s1.heap.objs.size<=h1.objs.size:=by rw[sz];lia
 have hget:∀(j:Nat),j<acc.size->∃T,acc[j]?=AA (.ref T):=λj C=>by
  obtain⟨T,x,y,G,_⟩:=zl.1 j _ (Bl C);exact⟨T,by rw[Bl C,G]⟩
 obtain⟨m,R⟩:∃m:List AH,acc.toList=m.map Ap:=by
  have:∀l:List AG,(∀v∈l,∃T,v=.ref T)->∃m:List AH,l=m.map Ap:=λl=>by
   induction l with
   |nil=>intro _;exact⟨[],rfl⟩
   |cons v l ih=>
    intro h;obtain⟨T,rfl⟩:=h v ∎;obtain⟨m,rfl⟩:=ih λw hw=>h w (by simp[hw]);exact⟨T::m,rfl⟩
  refine this _ λv hv=>?_;obtain⟨j,C⟩:=Cd.mp hv;obtain⟨T,x,y,G,_⟩:=zl.1 j v (by simpa using C);exact⟨T,G⟩
 have g:∀(j:Nat)T,m[j]?=AA T->acc[j]?=AA (.ref T):=λj T h=>by
  have:acc.toList[j]?=AA (.ref T):=by rw[R,Ag,h];rfl
  simpa using this
 have hTl:m.length=acc.size:=by have:=congrArg CV R;simpa using this.symm
 have hnd:m.Nodup:=by
  rw[List.Nodup,List.pairwise_iff_getElem];intro i j hi C hij e;have h1:=g i _ (AJ hi);have h2:m[j]?=AA m[i]:=by rw[e];exact AJ C
  have:=zl.2 i j _ h1 (g j _ h2);lia
 have hTf:∀T∈m,w6 X k E T:=λT hT=>by
  obtain⟨j,C⟩:=Cd.mp hT;obtain⟨T',x,y,G,g2,g3,g4,g5,g6⟩:=zl.1 j _ (g j T C);cases G;have:s1.heap.objs.size<=T:=BB S g6;exact J.fpOk this (J.hok.fresh this)
 have hSn:h1.objs.size∉m:=λhT=>by
  obtain⟨j,C⟩:=Cd.mp hT;obtain⟨T',x,y,G,g2,_⟩:=zl.1 j _ (g j _ C);cases G;exact g2 ∎
 obtain⟨H2,I4,ev2,rs2,is3,W⟩:=bb1 (X:=X) (st:=f) (s:={s1 with heap:=h2,toks:=s1.toks}) m vs ws P O r n E I3 rs rv Y N M (by rw[hTl,hacc,A,N.len,M.len]) (λj T x y t1 t2 t3=>by
   obtain⟨T',x',y',G,g2,g3,g4,g5,g6⟩:=zl.1 j _ (g j T t1);cases G;have f1:P[j]?=AA x':=by simpa using g3
   have f2:O[j]?=AA y':=by simpa using g4
   have e1:x'=x:=by rw[t2]at f1;exact(Av f1).symm
   have e2:y'=y:=by rw[t3]at f2;exact(Av f2).symm
   rw[<-e1,<-e2];exact g5) hnd hTf
 have hS1:E h1.objs.size=AF:=J.hok.fresh S;have hS3:H2 h1.objs.size=AF:=by rw[W _ hSn];exact hS1
 have hfS:w6 X k H2 h1.objs.size:=J.fpOk S hS3;have vr:g9 (m.map V.ref) acc.toList:=by
  rw[R];have:∀l:List AH,g9 (l.map V.ref) (l.map Ap):=λl=>by
   induction l with
   |nil=>exact .nil
   |cons t l ih=>exact .cons rfl ih
  exact this m
 have I5:Inv X k σ (upd H2 h1.objs.size (.lst (m.map V.ref))) {s1 with heap:=h2,toks:=s1.toks}:=I4.track hfS (show o7 X.prog X.w _ h2 _ (.lst (m.map V.ref)) from⟨by rw[AW,hTl,hacc,A];exact BB hle ∅,acc.toList,c',vr,by simpa using hS2⟩);refine⟨.ref _,_,I5,rfl,?_⟩;exact(((hq.after ev).after ev2).newL rs2 is3 q1) _ hS3
end
end Ek
namespace PySem
end PySem
namespace Ek
open PySem PySem.Spec PyProof.Rows L2
variable [Tbs]
end Ek
namespace Ek
open PySem PySem.Spec PyProof.Rows L2
variable [Tbs]
variable{x:List BN}{H:Hp}{pos':Pos}
section
variable {X:Cx} {a b c:AT} {ta tb tc:DT} {pos p:Pos} {K:AQ}
abbrev upG(K:AQ)(t:Tg):TG:=λv σ H Q=>∃d env k,IsD K H d v/\RelE K H env σ/\D6 t d env k/\∀env' σ',RelE K H env' σ'->k env'->Q σ' H
def _root_.L2.PG.imp{X:Cx}{x:AT}{t t':TG}(h:PG X x t)(i:∀v a H Q,t' v a H Q->t v a H Q):PG X x t':=λpins s a H v u Q I r q=>h pins s a H v u Q I r (i v a H Q q)
def cd2{i:Nat}{x:Str}(g:X.N.Nodup)(hi:X.N[i]?=AA x)(b:Loc X.env.scope x)(f:X.fn x=AD\/X.env.scope.names.lookup x=AA .local):PG X (.Name x pos) (upG X.K (.n i)):=
 PG.imp (ba3 g hi b f) λv σ H Q q=>by
  obtain⟨d,j,k,a,h,c,e⟩:=q;exact e _ _ (h.set a i) c
abbrev Y7:List Nat->TGs
 |[]=>bl8
 |i::is=>bi8 (aq9 i) (Y7 is)
theorem bf6{K:AQ}{Q:L2.St->Hp->Prop}{k:j6->Prop}:∀(f:List Nat)(g:List D)(e:List V)(a:j6)(c:L2.St),g.length=f.length->IsDs K H g e->RelE K H a c->k (Q0 a f g)->(∀b h,RelE K H b h->k b->Q h H)->Y7 f e c H Q
 |[],[],e,a,c,_,r,n,l,m=>⟨r.inv_nil,m _ _ n l⟩
 |i::f,d::g,e,a,c,j,r,n,l,m=>by
  obtain⟨v,o,rfl,q,p⟩:=r.inv_cons;exact⟨v,o,rfl,bf6 f g o _ _ (by simpa using j) p (n.set q i) l m⟩
 |[],d::g,e,a,c,j,_,_,_,_=>by simp at j
 |i::f,[],e,a,c,j,_,_,_,_=>by simp at j
def cs2{b:List AT}{j:Nat}{a:List Nat}(p:X.calm=AD)(h:PGs X b (Y7 a))(o:(Bx b X.env).length=a.length)(c:(Bx b X.env).findIdx? (·.1)=AF):PG X (.Tuple b j pos) (upG X.K (.tup a)):=
 PG.imp (cl3 p h o c) λv σ H Q q=>by
  obtain⟨d,f,k,l,s,⟨t,rfl,i,m⟩,n⟩:=q;obtain⟨q,g,rfl,e,r⟩:=l.tup_inv;exact⟨q,g,rfl,e,by rw[<-r.len];exact i,bf6 a t g f σ i r s m n⟩
structure EndsR(K:AQ)(st:Sto)(H:Hp)(Fd:DEnds)(F:Ends):Prop where
 nx:∀env σ H' st',Ev st H st' H'->RelE K H' env σ->RelS K st' H'->Fd.nx env st'->F.nx σ H'
 bk:∀env σ H' st',Ev st H st' H'->RelE K H' env σ->RelS K st' H'->Fd.bk env st'->F.bk σ H'
 ct:∀env σ H' st',Ev st H st' H'->RelE K H' env σ->RelS K st' H'->Fd.ct env st'->F.ct σ H'
 rt:t6 K st H Fd.rt F.rt
theorem EndsR.after{st a:Sto}{c:Hp}{d:DEnds}{F:Ends}(e:EndsR K st H d F)(b:Ev st H a c):EndsR K a c d F:=
 ⟨λenv σ H' st' ev'=>e.nx env σ H' st' (b.trans ev'),λenv σ H' st' ev'=>e.bk env σ H' st' (b.trans ev'),λenv σ H' st' ev'=>e.ct env σ H' st' (b.trans ev'),e.rt.after b⟩
abbrev upS(K:AQ)(t:DS):TS:=λF σ H=>∃env st Fd,RelE K H env σ/\RelS K st H/\t Fd env st/\EndsR K st H Fd F
variable {t u:DS} {s1:BN} {j8:List BN}
def cs7:PSs X [] (upS X.K λF env st=>F.nx env st):=PSs.imp b65 λF σ H⟨env,st,Fd,hE,hS,ht,hq⟩=>hq.nx env σ H st Ev.refl hE hS ht
def cb0(b:PS X s1 (upS X.K t))(a:PSs X j8 (upS X.K u)):PSs X (s1::j8) (upS X.K λF env st=>t {F with nx:=u F} env st):=
 PSs.imp (bx3 b a) λF σ H⟨env,st,Fd,hE,hS,ht,hq⟩=>⟨env,st,{Fd with nx:=u Fd},hE,hS,ht,λenv' σ' H' st' ev hE' hS' q=>⟨env',st',Fd,hE',hS',q,hq.after ev⟩,hq.bk,hq.ct,hq.rt⟩
def ap6{i:Nat}{x:Str}(g:X.N.Nodup)(hi:X.N[i]?=AA x)(b:Loc X.env.scope x)(f:PE X a (up X.K ta))(c:CZ a (AA (.Name x pos')) pos.line X.env=pure AE)(e:X.fn x=AD\/X.env.scope.names.lookup x=AA .local):
  PS X (.Assign [.Name x pos'] a pos) (upS X.K λF env st=>ta env st λd st1=>F.nx (env.set i (AA d)) st1):=
 PS.imp (ci9 g hi b f c e) λF σ H⟨env,st,Fd,hE,hS,ht,hq⟩=>⟨env,st,_,hE,hS,ht,λv d H' st' ev is rs q=>hq.nx _ _ H' st' ev ((hE.mono (ev.tk hS)).set is i) rs q⟩
def co2{b:AT}{c:List Nat}(h:PE X a (up X.K ta))(g:PG X b (upG X.K (.tup c)))(f:Ej [b] a pos.line X.env=pure AE)(e:II [b] a X.env=pure AF)(i:(Bx [b] X.env).map (·.2)=[assign b X.env]):
  PS X (.Assign [b] a pos) (upS X.K λF env st=>ta env st λd st1=>D6 (.tup c) d env λenv'=>F.nx env' st1):=
 PS.imp (bi1 h g f e i) λF σ H⟨env,st,Fd,hE,hS,ht,hq⟩=>⟨env,st,_,hE,hS,ht,λv d H' st' ev c rs q=>⟨d,env,_,c,hE.mono (ev.tk hS),q,λenv' σ' hE' q'=>hq.nx _ _ H' st' ev hE' rs q'⟩⟩
def cl1{o i v:AT}{n p m:DT}(z:PE X v (up X.K m))(B:PE X o (up X.K n))(hi:PE X i (up X.K p))
  (c:∀w,assign (.Subscript o i pos') X.env w=(do
   let e <-holding [w] (eval o X.env)
   let h <-holding [w,e] (eval i X.env)
   Hd pos'
   holding [w,e,h] (Ju e h w)
   release [w,e,h] [])) (A:Ej [.Subscript o i pos'] v pos.line X.env=pure AE) (u:II [.Subscript o i pos'] v X.env=pure AF) :
  PS X (.Assign [.Subscript o i pos'] v pos) (upS X.K λF env st=>m env st λd st1=>n env st1 λx st2=>p env st2 λy st3=>∃a j k f,x=.ref a/\y=.int j/\st3 a=AA (.lst f)/\ixN f.length j=AA k/\F.nx env (b0 st3 a (.lst (f.set k d)))):=
 PS.imp (bi1 z (ci1 B hi bz2 c) A u rfl) λF σ H⟨env,st,Fd,hE,hS,ht,hq⟩=>⟨env,st,_,hE,hS,ht,λw d H1 st1 ev1 is1 rs1 q1=>
  ⟨env,st1,_,hE.mono (ev1.tk hS),rs1,q1,λov x H2 st2 ev2 is2 rs2 q2=>⟨env,st2,_,(hE.mono (ev1.tk hS)).mono (ev2.tk rs1),rs2,q2,λiv y H3 st3 ev3 is3 rs3 g=>by
   obtain⟨q,j,k,f,rfl,rfl,s,C,g⟩:=g;obtain⟨t,l,r⟩:=rs3.lst s;have b:=(is1.mono (ev2.tk rs1)).mono (ev3.tk rs2);refine⟨q,t,j,k,(is2.mono (ev3.tk rs2)).ref_inv,is3.int_inv,l,by rw[<-r.len];exact C,?_⟩;exact hq.nx env σ _ _ (((ev1.trans ev2).trans ev3).trans (Ev.put s)) ((((hE.mono (ev1.tk hS)).mono (ev2.tk rs1)).mono (ev3.tk rs2)).mono (TK.put l)) (rs3.putOld l (r.set b k)) g⟩⟩⟩
def cb8{o v:AT}{y u:DT}{f:Str}{C:Str->List Str}(M:∀c b,Ay X.K AO c=AA (AA (.ref b))->f∈C c->Cls X.K b/\G0 X.K b f)(A:PE X v (up X.K u))(G:PE X o (up X.K y))(D:CZ v (AA (.Attribute o f pos')) pos.line X.env=pure AE):
  PS X (.Assign [.Attribute o f pos'] v pos) (upS X.K λF a j=>u a j λd st1=>y a st1 λx st2=>∃p c h,x=.ref p/\st2 p=AA (.ins c h)/\f∈C c/\h.length<1000/\F.nx a (b0 st2 p (.ins c (l0 f d h)))):=
 PS.imp (cm6 G A D) λF σ H q=>by
  obtain⟨a,j,P,n,l,B,E⟩:=q;refine⟨a,j,_,n,l,B,λw d H1 st1 ev is rs q1=>?_⟩;refine⟨a,st1,_,n.mono (ev.tk l),rs,q1,λy x H2 st2 ev2 is2 rs2 q2=>?_⟩;obtain⟨p,c,h,rfl,e,L,J,I⟩:=q2;obtain⟨b,s,t,m,g,r⟩:=rs2.ins e;obtain⟨O,N⟩:=M c b g L;have k:=is.mono (ev2.tk rs);have i:=TK.putI (K:=X.K) (o:=.ins b s (z6 f w t)) m;refine⟨p,b,s,t,is2.ref_inv,m,O,N,by rw[<-r.length];exact J,?_⟩;refine E.nx a σ _ _ ((ev.trans ev2).trans (Ev.put e)) (((n.mono (ev.tk l)).mono (ev2.tk rs)).mono i) (rs2.putAny (ob:=.ins c (l0 f d h)) i ⟨b,s,_,p8,g,(r.put k f).mono i⟩ (by rw[m];exact λ_ z=>by cases z)) I
def cy5(c:PE X a (up X.K ta))(b:CZ a AF pos.line X.env=pure AE):PS X (.Expr a pos) (upS X.K λF env st=>ta env st λ_ st1=>F.nx env st1):=
 PS.imp (ce0 c b) λF σ H⟨env,st,Fd,hE,hS,ht,hq⟩=>⟨env,st,_,hE,hS,ht,λv d H' st' ev is rs q=>hq.nx _ _ H' st' ev (hE.mono (ev.tk hS)) rs q⟩
def cp5(b:PE X a (up X.K ta)):PS X (.Return (AA a) pos) (upS X.K λF env st=>ta env st F.rt):=
 PS.imp (cm8 b) λF σ H⟨env,st,Fd,hE,hS,ht,hq⟩=>⟨env,st,_,hE,hS,ht,hq.rt⟩
def cd0:PS X (.Return AF pos) (upS X.K λF _ st=>F.rt .non st):=PS.imp ce1 λF σ H⟨env,st,Fd,hE,hS,ht,hq⟩=>hq.rt.here .non hS ht
def b84:PS X (.Pass pos) (upS X.K λF env st=>F.nx env st):=PS.imp cd5 λF σ H⟨env,st,Fd,hE,hS,ht,hq⟩=>hq.nx env σ H st Ev.refl hE hS ht
def cc2:PS X (.Continue pos) (upS X.K λF env st=>F.ct env st):=PS.imp bo1 λF σ H⟨env,st,Fd,hE,hS,ht,hq⟩=>hq.ct env σ H st Ev.refl hE hS ht
def c05{a:DB}{y:List BN}(b:PT X c (upB X.K a))(e:PSs X x (upS X.K t))(d:PSs X y (upS X.K u)):PS X (.If c x y pos) (upS X.K λF env st=>a env st λk st1=>if k=AD then t F env st1 else u F env st1):=
 PS.imp (cz3 b e d) λF σ H⟨env,st,Fd,hE,hS,ht,hq⟩=>⟨env,st,_,hE,hS,ht,λk H' st' ev rs q=>by
  cases k with
  |true=>exact⟨env,st',Fd,hE.mono (ev.tk hS),rs,q,hq.after ev⟩
  |false=>exact⟨env,st',Fd,hE.mono (ev.tk hS),rs,q,hq.after ev⟩⟩
def b45{f:DB}(j:HB (model X.prog X.w) X.A X.env X.xe)(l:PT X c (upB X.K f))(o:PSs X x (upS X.K t)):PS X (.While c x [] pos) (upS X.K λF env st=>∃n,z8 f t F n env st):=
 PS.imp (b29 j l o) λF σ H⟨env,st,Fd,hE,hS,⟨n,ht⟩,hq⟩=>by
  refine⟨λm σ' H'=>∃env' a,RelE X.K H' env' σ'/\RelS X.K a H'/\Ev st H a H'/\z8 f t Fd m env' a,⟨n,env,st,hE,hS,Ev.refl,ht⟩,?_⟩;rintro m σ1 H1 ⟨env1,st1,hE1,hS1,ev1,w1⟩;cases m with
  |zero=>exact w1.elim
  |succ m=>
   refine⟨env1,st1,_,hE1,hS1,w1,λk H2 st2 ev2 rs2 q2=>?_⟩;cases k with
   |false=>
    simp only[BE,if_false]at q2 ⊢;exact hq.nx env1 σ1 H2 st2 (ev1.trans ev2) (hE1.mono (ev2.tk hS1)) rs2 q2
   |true=>
    simp only[if_true]at q2 ⊢;refine⟨λσ' H'=>∃env' a,RelE X.K H' env' σ'/\RelS X.K a H'/\Ev st H a H'/\z8 f t Fd m env' a,λσ' H' h=>⟨m,GS _,h⟩,?_⟩;have e:=hq.after (ev1.trans ev2);have d:=ev1.trans ev2;exact⟨env1,st2,_,hE1.mono (ev2.tk hS1),rs2,q2,λenv' σ' H' a ev hE' hS' q=>⟨env',a,hE',hS',d.trans ev,q⟩,e.nx,λenv' σ' H' a ev hE' hS' q=>⟨env',a,hE',hS',d.trans ev,q⟩,e.rt⟩
def cu6{s f:AT}{z:j6->Sto->ItK->Prop}{g:Tg}(D:HB (model X.prog X.w) X.A X.env X.xe)(G:X.calm=AD)(hi:PI X s f (upI X.K z))(E:PG X s (upG X.K g))(I:PSs X x (upS X.K t))(C:∀v,Da f X.env v=pure v):
  PS X (.For s f x [] pos) (upS X.K λF env st=>z env st λitems chk st1=>y6 chk g t F items env st1):=
 PS.imp (cm3 D G hi E I C) λF σ H⟨env,st,Fd,hE,hS,ht,hq⟩=>by
  refine⟨env,st,_,hE,hS,ht,λitems chk st1 H1 J ev1 rs1 ok q1=>?_⟩;refine⟨λi m σ' H'=>m=items.length-i/\i<=items.length/\∃env' a,RelE X.K H' env' σ'/\RelS X.K a H'/\Ev st H a H'/\TK X.K H1 H'/\y6 chk g t Fd (items.drop i) env' a,⟨items.length,∎,BK _,env,st1,hE.mono (ev1.tk hS),rs1,ev1,TK.refl,q1⟩,?_⟩;rintro i m σ2 H2 ⟨rfl,hi,env2,st2,hE2,hS2,ev2,tk2,l⟩
  by_cases c:i<items.length
  ·right
   rw[CO c]at l;obtain⟨k,l⟩:=l;refine⟨ok.go i st2 H2 tk2 hS2 k c,λσ' H'=>i+1<=items.length/\∃env' a,RelE X.K H' env' σ'/\RelS X.K a H'/\Ev st H a H'/\TK X.K H1 H'/\y6 chk g t Fd (items.drop (i+1)) env' a,λσ' H' h=>⟨items.length-(i+1),⋯,rfl,h⟩,λv H3 y=>?_⟩;obtain⟨d,B,u,o,n⟩:=ok.yld i st2 H2 v H3 tk2 hS2 k c y;have L:d=items[i]:=by rw[AJ c]at B;exact(Av B).symm
   subst L;refine⟨_,env2,_,u,hE2.mono (o.tk hS2),l,λenv4 σ4 hE4 q4=>?_⟩;have j:=ev2.trans o;have r:=hq.after j;have p:TK X.K H1 H3:=tk2.trans (o.tk hS2);exact⟨env4,st2,_,hE4,n,q4,λenv' σ' H' a ev hE' hS' q=>⟨c,env',a,hE',hS',j.trans ev,p.trans (ev.tk n),q⟩,r.nx,λenv' σ' H' a ev hE' hS' q=>⟨c,env',a,hE',hS',j.trans ev,p.trans (ev.tk n),q⟩,r.rt⟩
  ·left
   have e:i=items.length:=by lia
   subst e;rw[JC]at l;exact⟨ok.stop st2 H2 tk2 hS2 l.1,hq.nx env2 σ2 H2 st2 ev2 hE2 hS2 l.2⟩
def bx6{env:j6}{b:L2.St}{fr:List Nat}{k:Nat}(r:RelE K H env b):RelE K H (O9 fr k env) (F9 fr k b):=by
 refine⟨by simp[O9,F9],λi d h=>?_⟩;unfold O9 at h;unfold F9
 by_cases a:i<fr.length
 ·rw[Ac (by simpa using a),Ag]at h ⊢;rw[AJ a]at h ⊢;simp only[GM,CA]at h ⊢;cases q:env[fr[i]]? with
  |none=>rw[q]at h;cases h
  |some o=>
   rw[q]at h;have f:o=AA d:=h;subst f;obtain⟨v,e,c⟩:=r.at' _ d q;exact⟨v,by rw[e];rfl,c⟩
 ·rw[Af (by simpa using a),DP]at h
  split at h<;>cases h
def ax2{X:j6->Sto->ItK->Prop}{g:Tg}{O:DB}{fr:List Nat}{k:Nat}{P:L2.St}{Q:VK}
  (h:up K (λenv I Q=>X env I λitems chk st1=>items.length<=1000000/\A0 chk g O ta (λacc b=>∀p,b p=AF->Q (.ref p) (b0 b p (.lst acc))) items [] (O9 fr k env) st1) P H Q) :
  ao8 fr k (upI K X) (upG K g) (upB K O) (up K ta) Q P H:=by
 obtain⟨env,I,Qd,hE,hS,ht,hq⟩:=h;refine⟨env,I,_,hE,hS,ht,λitems chk st1 H1 J ev1 rs1 ok S p hp=>?_⟩;obtain⟨Z,S⟩:=S;have W:RelE K H1 env P:=hE.mono (ev1.tk hS);refine⟨λi m σ' j=>m=items.length-i/\i<=items.length/\∃f b acc s,RelE K j f σ'/\RelS K b j/\b p=AF/\j p=AA (.lst s)/\IsDs K j acc s/\acc.length<=i/\TK K H1 j/\(∀a o,H a=AA o->I a=AF->a≠p/\(∃r,j a=AA r/\TbE o r)/\b a=AF) /\
  A0 chk g O ta (λacc b=>∀p,b p=AF->Qd (.ref p) (b0 b p (.lst acc))) (items.drop i) acc f b,⟨items.length,∎,BK _,O9 fr k env,st1,[],[],(bx6 W).mono (TK.new hp),rs1.new hp,rs1.free hp,p8,.nil,BK _,TK.new hp,λa o h1 h2=>?_,S⟩,?_⟩
 ·obtain⟨⟨r,x,t⟩,y⟩:=ev1 a o h1 h2;have Y:a≠p:=v4 x hp;exact⟨Y,⟨r,by rw[i9 Y];exact x,t⟩,y⟩
 rintro i m σ2 H2 ⟨rfl,hi,env2,st2,acc,s,hE2,hS2,sp2,hp2,ra,hal,tk2,old,G⟩
 by_cases q:i<items.length
 ·right
  rw[CO q]at G;obtain⟨F,G⟩:=G;refine⟨ok.go i st2 H2 tk2 hS2 F q,λσ' j=>i+1<=items.length/\∃f b acc s,RelE K j f σ'/\RelS K b j/\b p=AF/\j p=AA (.lst s)/\IsDs K j acc s/\acc.length<=i+1/\TK K H1 j/\(∀a o,H a=AA o->I a=AF->a≠p/\(∃r,j a=AA r/\TbE o r)/\b a=AF) /\
   A0 chk g O ta (λacc b=>∀p,b p=AF->Qd (.ref p) (b0 b p (.lst acc))) (items.drop (i+1)) acc f b,λσ' j h=>⟨items.length-(i+1),⋯,rfl,h⟩,λv H3 y=>?_⟩
  obtain⟨d,hd,T,N,B⟩:=ok.yld i st2 H2 v H3 tk2 hS2 F q y;have ed:d=items[i]:=by rw[AJ q]at hd;exact(Av hd).symm
  subst ed;refine⟨_,env2,_,T,hE2.mono (N.tk hS2),G,λenv4 σ4 hE4 q4=>?_⟩;have E:∀{j:Hp}{b:Sto},Ev st2 H2 b j->∀a o,H a=AA o->I a=AF->a≠p/\(∃r,j a=AA r/\TbE o r)/\b a=AF:=λev a o h1 h2=>by
   obtain⟨x,⟨o1,y,t1⟩,z⟩:=old a o h1 h2;obtain⟨⟨o2,y',t2⟩,z'⟩:=ev a o1 y z;exact⟨x,⟨o2,y',t1.trans t2⟩,z'⟩
  refine⟨env4,st2,_,hE4,B,q4,λbb H5 st5 ev5 rs5 q5=>?_⟩;have l:Ev st2 H2 st5 H5:=N.trans ev5;have D:TK K H2 H5:=l.tk hS2;obtain⟨V,R⟩:=l.get hp2 sp2 (λ_=>nofun);cases bb with
  |false=>
   simp only[BE,if_false]at q5 ⊢;exact⟨q,env4,st5,acc,s,hE4.mono (ev5.tk B),rs5,R,V,ra.mono D,⋯,tk2.trans D,E l,q5⟩
  |true=>
   simp only[if_true]at q5 ⊢;refine⟨env4,st5,_,hE4.mono (ev5.tk B),rs5,q5,λw e H6 st6 ev6 is6 rs6 q6=>?_⟩;have u:Ev st2 H2 st6 H6:=l.trans ev6;have C:TK K H2 H6:=u.tk hS2;obtain⟨n,L⟩:=u.get hp2 sp2 (λ_=>nofun);have M:=ra.mono C;have U:s.length<sizeLine:=by
    rw[<-M.len];have:(1000001:Nat)<=sizeLine:=by decide
    lia
   refine⟨s,n,U,q,env4,st6,acc++[e],s++[w],(hE4.mono ((ev5.trans ev6).tk B)).mono (TK.put n),rs6.stay (TK.put n) (λa o h1=>i9 λz=>by rw[z,L]at h1;cases h1) (an0 (by rw[n];exact λ_ z=>by cases z)),L,p8,(M.append (.cons is6 .nil)).mono (TK.put n),by simp;lia,(tk2.trans C).trans (TK.put n),λa o h1 h2=>?_,q6⟩;obtain⟨x,⟨r,y,t⟩,z⟩:=E u a o h1 h2;exact⟨x,⟨r,by rw[i9 x];exact y,t⟩,z⟩
 ·left
  have e:i=items.length:=by lia
  subst e;rw[JC]at G;refine⟨ok.stop st2 H2 tk2 hS2 G.1,hq _ (.ref p) H2 (b0 st2 p (.lst acc)) (λa o h1 h2=>?_) (.ref p) ⟨λa o h1=>?_,hS2.tb⟩ (G.2 p sp2)⟩
  ·obtain⟨x,y,z⟩:=old a o h1 h2;exact⟨y,by rw[E2 x];exact z⟩
  ·by_cases ha:a=p
   ·subst ha;rw[f8]at h1;cases h1;exact⟨s,hp2,ra⟩
   ·rw[E2 ha]at h1;exact hS2.ob a o h1
end
end Ek
namespace Ek
open PySem PySem.Spec PyProof.Rows L2
variable [Tbs]
abbrev c74:Unit->AG->Bool
 |_,.none=>AD
 |_,_=>AE
abbrev ao9(prog:An)(w:Ax):KeyKind prog w Unit where
 is:=c74
 hash:=λ_=>0xFCA86420
 inj:=λ_ _ _ _ _=>rfl
 byValue:=λ_ v h=>by cases v<;>first|rfl|cases h
 pyHash:=λ{A E s k v Q}hv h=>by
  cases v<;>first|cases hv|skip
  exact W.pyHash_slot (T:="NoneType") rfl F.slot_NoneType_hash F.entry_NoneType_hash (F.args_NoneType_hash_1 _) (KO _) (.inl rfl) (AC (AL (AC (wpAny_mkInt (AL ⟨_,_,rfl,h⟩)))))
 eqBool:=λ{A E s a b u v Q}hu hv h=>by
  cases u<;>first|cases hu|skip
  cases v<;>first|cases hv|skip
  unfold PySem.eqBool
  try with_reducible refine Bd ?_
  rw[if_pos (by rfl)];exact AC (DN (AL h))
 «strs»:=λ_ _ _ _ h=>by cases h
section
variable {X:Cx} {a b:AT} {ta tb:DT} {pos:Pos}
def bf1{P:An}{w:Ax}{h:BC}{a:AH}(d:h.DictOfH (NK.dataKind P w) a []):h.MapOf (ao9 P w) a (λ_=>AF):=by
 obtain⟨o,b,i,g,f,e,c,_,_⟩:=d;have:b=#[]:=by
  have:b.toList=[]:=by simpa using c
  simpa using this
 subst this;exact⟨o,#[],i,g,f,e,λe he=>by simp at he,λk=>rfl⟩
def bf4(c:Bool):OpR X (Bq (if c then .NotIn else .In)) (λx y H Q=>∃a,x=.non/\y=.ref a/\H a=AA (.dT [])/\Q (.bl c) H):=by
 intro d s m H x y v u Q I l j h;obtain⟨a,rfl,rfl,e,q⟩:=h;cases(show u=Ap a from j);cases(show v=Bc from l);obtain⟨z,f,i,b,g⟩:=N5 I.hok (.inl e);have:i=[]:=by cases b;rfl
 subst this;cases c with
 |true=>exact LH (knd:=ao9 X.prog X.w) (k:=()) (key:=.none) rfl f (bf1 g) ⟨.bl AD,H,I.tok _,rfl,q⟩
 |false=>exact wpAny_in_of (knd:=ao9 X.prog X.w) (k:=()) (key:=.none) rfl f (bf1 g) ⟨.bl AE,H,I.tok _,rfl,q⟩
end
end Ek
namespace HT
open PySem PySem.Spec PyProof.Rows
section
variable {prog:An} {w:Ax} {A:BU} {E:AG->AK->Prop} {s:AK}
def getItem_tuple_whole{t d:AH}{a:Array AG}{j i:AG}{lo hi:Option Int}{Q:AG->AK->Prop}(c:Hn s.heap t a)(l:s.heap.IsSliceOf d j i .none)(n:Fn j lo)(m:Fn i hi)
  (k:sIx a.size 0 lo=0/\sIx a.size a.size hi=a.size)
  (h:Q (.ref t) s):AR (model prog w) A (Dr (.ref t) (.ref d)) Q E s:=by
 have q:sIx a.size a.size hi<=a.size:=bg9 _ _ (AS _) hi;obtain⟨o,e,f,p⟩:=id l;have g:s.TypeIs (.ref d) "slice":=⟨o,e,f⟩;unfold Dr
 try with_reducible refine Bd ?_
 first|refine AC (AL ?_)|skip
 refine AC (Gi c.typeIs ∅ ?_);refine AC (BM (name:=Aa "__getitem__") c.typeIs BQ
  (BL BQ c.typeIs JZ ?_ (Jl _ _)))
 show AR _ _ (DX (.ref t)>>=_) _ _ s;refine AC (tupleItemsOf_ c ?_);refine AC (FK g ?_);rw[if_pos ∅];refine AC (au5 l n m ?_);have b:(((sIx a.size 0 lo:Nat):Int)==0&&(1:Int)==1&&(sIx a.size a.size hi-sIx a.size 0 lo)==a.size)=AD:=by
  rw[k.1,k.2];simp
 show AR _ _ (if(((sIx a.size 0 lo:Nat):Int)==0&&(1:Int)==1&&(sIx a.size a.size hi-sIx a.size 0 lo)==a.size)=AD then _ else _) _ _ s;rw[if_pos b];refine AC ?_;unfold Kh;refine AC (FK c.typeIs ?_);refine AL ?_;rw[if_pos ∅];exact AC (DN (AL ⟨_,rfl,AL h⟩))
end
end HT
namespace L2
open PySem PySem.Spec PyProof.Rows
section
variable {X:Cx}
abbrev c22(K:AQ):V->Option Int->Option Int->Hp->VK->Prop:=λx lo hi H Q=>∃a xs,x=.ref a/\SqT K H a xs /\
 (HT.sIx xs.length 0 lo=0/\HT.sIx xs.length xs.length hi=xs.length)/\Q (.ref a) H
def b76:SlR X (c22 X.K):=by
 intro d s n H x v p o u y t Q I g m j i h;obtain⟨a,f,rfl,k,l,q⟩:=h;cases g;obtain⟨c,r,e,w⟩:=I.tuple k;have b:c.toArray.size=f.length:=by rw[Ab];exact r.length.symm
 refine⟨"tuple",_,BQ.lookup,e.typeIs,?_⟩;exact HT.getItem_tuple_whole e m j i (by rw[b];exact l) ⟨.ref a,H,I,rfl,q⟩
end
end L2
namespace Ek
open PySem PySem.Spec PyProof.Rows L2
variable [Tbs]
variable{H:Hp}
mutual
theorem bh1{K:AQ}{H:Hp}(kt:Tbs.kt=AE):∀(d:D){v:V},IsD K H d v->NK.lit d.py=AD->HRd H d.py v
 |.int i,v,h,_=>h.int_inv
 |.str x,v,h,_=>h.str_inv
 |.tup ds,v,h,hl=>by
  obtain⟨a,vs,rfl,q,r⟩:=h.tup_invX;exact⟨a,vs,rfl,q.trk kt,ba1 kt ds r hl⟩
 |.non,v,h,hl=>nomatch hl
 |.bl _,v,h,hl=>nomatch hl
 |.ref _,v,h,hl=>nomatch hl
 |.fn _,v,h,hl=>nomatch hl
 |.clo _ _ _ _,v,h,hl=>nomatch hl
 |.ktup _,v,h,hl=>nomatch hl
theorem ba1{K:AQ}{H:Hp}(kt:Tbs.kt=AE):∀(ds:List D){vs:List V},IsDs K H ds vs->NK.lits (D.pys ds)=AD->M0 H (D.pys ds) vs
 |[],vs,r,_=>r.inv_nil
 |d::ds,vs,r,hl=>by
  obtain⟨v,ws,rfl,i1,i2⟩:=r.inv_cons;have h':NK.lit d.py=AD/\NK.lits (D.pys ds)=AD:=by
   have:(NK.lit d.py&&NK.lits (D.pys ds))=AD:=hl;simpa using this
  exact⟨v,ws,rfl,bh1 kt d i1 h'.1,ba1 kt ds i2 h'.2⟩
end
def am9{K:AQ}(d:Tbs.kt=AE){ks:List D}{v:V}(h:IsD K H (.tup ks) v)(c:D.key (.tup ks)):∃b,v=.ref b/\D8 H (D.tup ks).py b:=by
 obtain⟨a,e,rfl,_⟩:=h.tup_invX;exact⟨a,rfl,c.1,c.2,bh1 d _ h c.1⟩
section
variable {X:Cx} {a b o i v:AT} {ta tb to ti tv:DT} {pos apos pos':Pos}
theorem RelS.dtt{K:AQ}{st:Sto}(r:RelS K st H){a:AH}{b:List (Ai×D)}(h:st a=AA (.dtt b)):∃c,H a=AA (.dT c)/\IsPs K H b c/\Tbs.kt=AE:=r.ob a _ h
def cr5{c:List Str}(f:c≠[]->Tbs.kt=AE):PE X (.Dict [] [] pos) (up X.K λenv a Q=>c≠[]/\∀p,a p=AF->Q (.ref p) (b0 a p (.dtt []))):=
 PE.imp b04 λσ H Q q=>by
  obtain⟨g,a,i,h,d,b,e⟩:=q;exact λp hp=>e _ (.ref p) _ (b0 a p (.dtt [])) (Ev.newS hp) (.ref p) (d.putAny (TK.new hp) ⟨[],p8,.nil,f b.1⟩ (by rw[hp];exact λ_=>nofun)) (b.2 p (d.free hp))
def cp8(U:X.A.units+200<Bw)(S:PE X a (up X.K ta))(o:PE X b (up X.K tb))(h:∀i p J,a≠.Call (.Name i p) [] [] J)(w:∀e p,b≠.Starred e p)(g:(apos.endLine==pos.line)=AD):
  PE X (.Call (.Attribute a "get" apos) [b] [] pos) (up X.K λenv j Q=>ta env j λx st1=>at7 x st1/\tb env st1 λy st2=>as4 x y st2 Q):=
 PE.imp (bz1 ⋯ S o ⟨E5 h,by rw[o5 w];rfl,g,by rw[o5 w];rfl⟩) λσ H Q q=>by
  obtain⟨env,j,V,E,C,O,z⟩:=q;refine⟨env,j,_,E,C,O,λx d H1 st1 ev is rs k=>?_⟩;obtain⟨B,k⟩:=k;cases d<;>first|exact B.elim|skip
  rename_i p;obtain⟨L,P⟩:=B;obtain⟨G,T,r,M⟩:=rs.dtt P;refine⟨p,is.ref_inv,.inr ⟨G,.inl T⟩,env,st1,_,E.mono (ev.tk C),rs,k,λy e H2 st2 ev2 is2 rs2 f=>?_⟩;cases e<;>first|exact f.elim|skip
  rename_i N;obtain⟨u,n,R,f⟩:=f;obtain⟨F,s,I,_⟩:=rs2.dtt n;obtain⟨b,rfl,o⟩:=am9 M is2 R;refine⟨_,A5.t s o,?_⟩
  rcases I.look (D.tup N).py with⟨m,l⟩|⟨d,v,m,l,i⟩
  ·rw[l];rw[m]at f;exact z _ _ _ st2 (ev.trans ev2) .non rs2 f
  ·rw[l];rw[m]at f;exact z _ _ _ st2 (ev.trans ev2) i rs2 f
def TK.putT{K:AQ}{p:AH}{u:HO}{a:List (Ai×V)}(h:H p=AA (.dT a)):TK K H (upd H p u):=TK.upd' (by rw[h];exact λ_ z=>by cases z) (by rw[h];exact λ_ _ z=>by cases z)
def bc8(i:X.A.units+200<Bw)(b:Bool):OpR X (Bq (if b then .NotIn else .In)) (λx y H Q=>∃a o,y=.ref a/\A5 H a x o/\Q (.bl (b != o.isSome)) H):=by
 intro d s f H x y v u Q I c e h;obtain⟨a,o,rfl,g,q⟩:=h;cases(show u=Ap a from e);cases b with
 |true=>exact a90 ⋯ I g c λs' I'=>⟨.bl _,H,I',rfl,by cases h:o.isSome<;>(rw[h]at q;exact q)⟩
 |false=>exact bl0 ⋯ I g c λs' I'=>⟨.bl _,H,I',rfl,by cases h:o.isSome<;>(rw[h]at q;exact q)⟩
def bg1{h:Bool}{v w:V}{d e:D}{H':Hp}{f:Sto}{x:DK}{Q:VK}(u:IsD X.K H' d v)(s:IsD X.K H' e w)(g:RelS X.K f H')(c:R3 h d e f x)(l:t6 X.K f H' x Q):(∃a o,w=.ref a/\A5 H' a v o/\Q (.bl (h != o.isSome)) H')\/∃a,v=.non/\w=.ref a/\H' a=AA (.dT [])/\Q (.bl h) H':=by
 cases d<;>cases e<;>first|exact AU c|skip
 ·rename_i a;obtain⟨m,c⟩:=c;obtain⟨p,n,r,q⟩:=g.dtt m;have:p=[]:=Be (by rw[<-r.len];rfl);subst this;exact .inr ⟨_,(by cases u;rfl),s.ref_inv,n,l.here (.bl _) g c⟩
 rename_i z a;refine .inl ?_;obtain⟨y,m,A,c⟩:=c;obtain⟨p,n,r,q⟩:=g.dtt m;obtain⟨b,rfl,B⟩:=am9 q u A;refine⟨_,_,s.ref_inv,A5.t n B,?_⟩
 rcases r.look (D.tup z).py with⟨k,j⟩|⟨d,v,k,j,i⟩
 ·rw[j];rw[k]at c;exact l.here (.bl _) g c
 ·rw[j];rw[k]at c;exact l.here (.bl _) g c
def ck9{g:Bool}{c:Dn}(i:c=if g then .NotIn else .In)(h:X.A.units+200<Bw)(m:PE X a (up X.K ta))(l:PE X b (up X.K tb))(j:∀n k p,b≠.Set n k p):PE X (.Compare a [c] [b] pos) (up X.K λenv st Q=>ta env st λx st1=>tb env st1 λy st2=>R3 g x y st2 Q):=by
 subst i;exact PE.imp (am7 ((bc8 h g).or (bf4 g)) m l (R9 _ b j)) λσ H Q q=>up2 (f:=R3 g) q λv w d e H' st' Qd i1 i2 rs ht hq=>bg1 i1 i2 rs ht hq
def cn2{h:Bool}{c:Dn}(o:c=if h then .NotIn else .In)(n:X.A.units+200<Bw)(t:PE X a (up X.K ta))(s:PE X b (up X.K tb))(r:∀z k p,b≠.Set z k p):
  PT X (.Compare a [c] [b] pos) (upB X.K λenv i Q=>ta env i λx st1=>tb env st1 λy st2=>R3 h x y st2 λd st'=>∃k,d=.bl k/\Q k st'):=by
 subst o;refine PT.imp (ao6 ((bc8 n h).or (bf4 h)) t s (R9 _ b r)) λσ H Q q=>?_;obtain⟨env,i,B,v,u,l,m⟩:=q;refine up2 (f:=R3 h) (Q:=λx H'=>∃k,x=.bl k/\Q k H') ⟨env,i,_,v,u,l,λv d H' st' ev is rs j=>?_⟩ λv w d e H' st' B i1 i2 rs l m=>bg1 i1 i2 rs l m;obtain⟨k,rfl,j⟩:=j;exact⟨k,is.bl_inv,m k H' st' ev rs j⟩
def b92(s:X.A.units+200<Bw)(j:PE X v (up X.K tv))(l:PE X o (up X.K to))(hi:PE X i (up X.K ti))(k:CZ v (AA (.Subscript o i pos')) pos.line X.env=pure AE):
  PS X (.Assign [.Subscript o i pos'] v pos) (upS X.K λF env st=>tv env st λd st1=>to env st1 λx st2=>ti env st2 λy st3=>ar5 x y d st3 λst4=>F.nx env st4):=
 PS.imp (a89 ⋯ l hi j k) λF σ H⟨env,st,Fd,hE,hS,ht,hq⟩=>⟨env,st,_,hE,hS,ht,λw d H1 st1 ev1 is1 rs1 q1=>
  ⟨env,st1,_,hE.mono (ev1.tk hS),rs1,q1,λov x H2 st2 ev2 is2 rs2 q2=>⟨env,st2,_,(hE.mono (ev1.tk hS)).mono (ev2.tk rs1),rs2,q2,λiv y H3 st3 ev3 is3 rs3 e=>by
   cases x<;>cases y<;>first|exact e.elim|skip
   obtain⟨f,h,n,m,e⟩:=e;obtain⟨q,c,r,g⟩:=rs3.dtt h;obtain⟨b,rfl,p⟩:=am9 g is3 n;have a:=(is1.mono (ev2.tk rs1)).mono (ev3.tk rs2);refine⟨_,_,(is2.mono (ev3.tk rs2)).ref_inv,L9.t c p (by rw[<-r.len];exact m),?_⟩;exact hq.nx env σ _ _ (((ev1.trans ev2).trans ev3).trans (Ev.put h)) ((((hE.mono (ev1.tk hS)).mono (ev2.tk rs1)).mono (ev3.tk rs2)).mono (TK.putT c)) (rs3.putAny (ob:=.dtt (V5 f _ d)) (TK.putT c) ⟨_,p8,(r.put a _).mono (TK.putT c),g⟩ (by rw[c];exact λ_ z=>by cases z)) e⟩⟩⟩
def bt6{ds:List D}{lo hi:Option Int}(h:HT.sIx ds.length 0 lo=0/\HT.sIx ds.length ds.length hi=ds.length):z5 ds lo hi=ds:=by
 unfold z5;rw[h.1,h.2];simp
def co6{lo hi:Option AT}{o s:DO}{u:Pos}(A:PE X a (up X.K ta))(y:PO X lo (upO X.K o))(z:PO X hi (upO X.K s)):
  PE X (.Subscript a (.Slice lo hi AF u) pos) (up X.K λenv f Q=>ta env f λx st1=>o env st1 λl st2=>s env st2 λh st3=>ad3 x l h st3 Q):=
 PE.imp (az8 (bh4.or b76) A y z) λσ H Q q=>by
  obtain⟨env,f,B,m,k,v,w⟩:=q;refine⟨env,f,_,m,k,v,λv d H1 st1 ev1 is1 rs1 q1=>⟨env,st1,_,m.mono (ev1.tk k),rs1,q1,λl H2 st2 ev2 rs2 q2=>⟨env,st2,_,(m.mono (ev1.tk k)).mono (ev2.tk rs1),rs2,q2,λh H3 st3 ev3 rs3 q3=>?_⟩⟩⟩;have g:=(is1.mono (ev2.tk rs1)).mono (ev3.tk rs2);have c:=((w.after ev1).after ev2).after ev3;cases d<;>first|exact AU q3|skip
  rename_i e;obtain⟨p,n,rfl,j,r⟩:=g.tup_invX
  by_cases i:HT.sIx e.length 0 l=0/\HT.sIx e.length e.length h=e.length
  ·have t:B (.tup (z5 e l h)) st3:=q3;rw[bt6 i]at t;exact .inr ⟨p,n,rfl,j.sqt,by rw[<-r.len];exact i,c.here (IsD.mk j r) rs3 t⟩
  ·exact .inl ⟨p,n,rfl,j.sqt,by rw[<-r.len];exact i,c.newT rs3 (ap0 r l h) q3⟩
end
end Ek
namespace Ek
open PySem PySem.Spec PyProof.Rows L2
variable [Tbs]
section
variable {X:Cx} {a b c:AT} {ta tb tc:DT} {pos apos p:Pos}
structure IscOk(K:AQ)(c:Str)(Ca:AH):Prop where
 at_:Ay K AO c=AA (AA (.ref Ca))
 cl:Cls K Ca
 ha:BW K (.ref Ca) "__class__"=AA (AA (.builtin "object.__class__"))
 hn:W.specialIn K (.builtin "object.__class__") "__get__"=AA (AA (.builtin "getset_descriptor.__get__"))
 htk:W.takesIn K (.builtin "object.__class__")=AA AD
 hm:W.mroIn K Ca (.type "object")=AA AD
 no:Dp K (.type "tuple") (.ref Ca)=AA AE
 yes:Dp K (.ref Ca) (.ref Ca)=AA AD
end
end Ek
namespace Ek
open PySem PySem.Spec PyProof.Rows L2
variable [Tbs]
variable{H:Hp}
theorem a02:∀{c:List Bool}{a:List AG},g9 (c.map V.bl) a->∀(i:Nat)v,a[i]?=AA v->∃b,c[i]?=AA b/\v=.bool b
 |[],a,r,i,v,h=>by cases r;simp at h
 |b::c,a,r,i,v,h=>by
  cases r with
  |cons j g=>
   cases i with
   |zero=>simp at h;subst h;exact⟨b,rfl,j⟩
   |succ i=>exact a02 g i v (by simpa using h)
section
variable {X:Cx} {a o i v:AT} {ta to ti tv:DT} {p pos pos':Pos}
def bu5(y:X.calm=AD):E9 X (.builtin "any") (λxs H Q=>∃(p:AH)(a:List Bool),xs=[.ref p]/\SqL X.K H p (a.map V.bl)/\Q (.bl (a.any id)) H):=by
 intro k s C H xs D Q I r h;obtain⟨p,a,rfl,t,q⟩:=h;obtain⟨u,rfl,n⟩:=r.one;cases n;obtain⟨c,j,o,F⟩:=I.list t;have g:=o.isList;have f:c.length=a.length:=by rw[<-j.length,AW]
 have w:p<s.heap.objs.size:=by obtain⟨_,e,_⟩:=g;exact Az e
 refine call_any_walk (Gp g ⟨s.heap.objs.size,[s.heap.objs.size,p],[s.heap.objs.size],c.toArray.size,_,_,λi=>(a[i]?).getD AE,rfl,Walks.list (A:=X.A.in1) (I.ok.hd y) _ p (BX w) c.toArray,⟨⟨_,Ae _ rfl,rfl,rfl⟩,g.push _⟩,?_,?_⟩)
 ·intro i v m B J z d;obtain⟨b,e,rfl⟩:=a02 j i v (by simpa using z);have d:B ((a[i]?).getD AE) m:=d;rw[e]at d;exact CN d
 ·intro G E x;rw[Ab,f,LSm.range_any a];exact⟨.bl (a.any id),H,I.kept (LSm.kept_iter x),rfl,q⟩
def bx7:BG "any"=AA (.builtin "any"):=by decide+kernel
theorem IsDs.bools{K:AQ}:∀{c:List Bool}{a:List V},IsDs K H (c.map D.bl) a->a=c.map V.bl
 |[],a,r=>r.inv_nil
 |b::c,a,r=>by
  obtain⟨v,f,rfl,e,d⟩:=IsDs.inv_cons (by simpa using r);rw[e.bl_inv,IsDs.bools d];rfl
def cu2(i:X.calm=AD)(h:Gl X "any")(g:X.mg "any"=AF)(j:PE X a (up X.K ta))(c:∀e p,a≠.Starred e p):PE X (.Call (.Name "any" p) [a] [] pos) (up X.K λenv st Q=>ta env st λx st1=>as2 x st1 Q):=
 bi6 (bu5 i) h g bx7 j c (λv d H' st' Qd Q is rs b hq=>by
  cases d<;>first|exact AU b|skip
  obtain⟨k,f,b⟩:=b;obtain⟨l,c,r⟩:=rs.rd f;exact⟨_,k,by rw[is.ref_inv],by rw[<-r.bools];exact c,hq.here (.bl _) rs b⟩) ∅ ∅
def co0:PE X (.Dict [] [] pos) (up X.K λenv a Q=>∀p,a p=AF->Q (.ref p) (b0 a p (.dct []))):=
 PE.imp bz8 λσ H Q q=>by
  obtain⟨e,a,g,f,b,c,d⟩:=q;exact λp hp=>d _ (.ref p) _ (b0 a p (.dct [])) (Ev.newS hp) (.ref p) (b.putNewD hp ⟨rfl,.nil⟩) (c p (b.free hp))
def IsKs.snoc{K:AQ}{a:List (Key×D)}{vs:List (Key×V)}{d:D}{v:V}(h:IsKs K H a vs)(i:IsD K H d v)(k:Key):IsKs K H (a++[(k,d)]) (vs++[(k,v)]):=
 ⟨by simp[h.ks],by simpa using h.ds.append (.cons i .nil)⟩
def TK.putKd{K:AQ}{p:AH}{u:HO}{a:List (Key×V)}(h:H p=AA (.dK a)):TK K H (upd H p u):=TK.upd' (by rw[h];exact λ_ z=>by cases z) (by rw[h];exact λ_ _ z=>by cases z)
def b52(D:X.A.units+200<Bw)(s:PE X v (up X.K tv))(u:PE X o (up X.K to))(hi:PE X i (up X.K ti))(t:CZ v (AA (.Subscript o i pos')) pos.line X.env=pure AE):
  PS X (.Assign [.Subscript o i pos'] v pos) (upS X.K λF env st=>tv env st λd st1=>to env st1 λx st2=>ti env st2 λy st3=>aq4 x y d st3 λst4=>F.nx env st4):=
 PS.imp (a89 ⋯ u hi s t) λF σ H⟨env,st,Fd,hE,hS,ht,hq⟩=>⟨env,st,_,hE,hS,ht,λw d H1 st1 ev1 is1 rs1 q1=>
  ⟨env,st1,_,hE.mono (ev1.tk hS),rs1,q1,λov x H2 st2 ev2 is2 rs2 q2=>⟨env,st2,_,(hE.mono (ev1.tk hS)).mono (ev2.tk rs1),rs2,q2,λiv y H3 st3 ev3 is3 rs3 f=>by
   cases x<;>cases y<;>first|exact f.elim|skip
   rename_i p j;obtain⟨a,n,C,B,f⟩:=f;obtain⟨h,e,r⟩:=rs3.dct n;have l:t9 h (.inl j)=AF:=by
    rcases r.look (.inl j)with⟨_,q⟩|⟨_,_,m,_⟩
    ·exact q
    ·rw[C]at m;cases m
   have b:=(is1.mono (ev2.tk rs1)).mono (ev3.tk rs2);have c:a.length=h.length:=by simpa using congrArg CV r.ks
   have g:L9 H3 p iv w (upd H3 p (.dK (h++[(.inl j,w)]))):=by
    rw[is3.int_inv,<-b32 w l];exact L9.k (k:=.inl j) e (by rw[<-c];exact B)
   refine⟨_,_,(is2.mono (ev3.tk rs2)).ref_inv,g,?_⟩;exact hq.nx env σ _ _ (((ev1.trans ev2).trans ev3).trans (Ev.put n)) ((((hE.mono (ev1.tk hS)).mono (ev2.tk rs1)).mono (ev3.tk rs2)).mono (TK.putKd e)) (rs3.putAny (ob:=.dct (a++[(.inl j,d)])) (TK.putKd e) ⟨_,p8,(r.snoc b _).mono (TK.putKd e)⟩ (by rw[e];exact λ_ z=>by cases z)) f⟩⟩⟩
end
end Ek
namespace PySem
end PySem
namespace Ek
open PySem PySem.Spec PyProof.Rows L2
variable [Tbs]
end Ek
namespace Ek
open PySem PySem.Spec PyProof.Rows L2
variable [Tbs]
end Ek
namespace Ek
open PySem PySem.Spec PyProof.Rows L2
variable [Tbs]
@[reducible]noncomputable def Fz:HO:=.ext λ_=>True
def ar6:∀a,Fz≠.lst a:=λ_=>nofun
def ad0{P:An}{w:Ax}{H:Hp}{h:BC}{a:AH}{o:Obj}(e:h.get? a=AA o):o7 P w H h a (.frz o Fz):=⟨e,trivial,⟨o,e⟩,λ_ _ _ _=>trivial⟩
section
variable {X:Cx} {pins:List (AH×Obj)} {σ:L2.St} {H H':Hp} {s:AK}
def br1{x:Str}{c:AH}{o:Obj}{v:Option AG}(I:L2.Inv X pins σ H s)(i:X.env.cells.lookup x=AA c)(f:X.fn x=AE)(g:X.s₀.heap.objs.size<=c)(w:H c=AF)(h:s.heap.get? c=AA o)(y:o.data=.cell v):
  L2.Inv X pins σ (upd H c (.frz o Fz)) s:=by
 have nn:∀{b:AH}{u:HO},H b=AA u->b≠c:=λe=>v4 e w;refine⟨I.ok,I.os,I.bare,⟨I.base.keep,I.base.slot,λb ob e n hx=>?_,I.base.there,λb xs e=>?_,λb ob u e=>?_,λb ps e=>?_⟩,I.loc,I.cell,?_,λx' c' e=>?_,λp hp=>?_,λb u e=>?_,I.len⟩
 ·rw[i9 (BX (Aj (Az e) g))];exact I.base.free b ob e n hx
 ·have:=I.base.tups b xs e;rw[i9 (nn this)];exact this
 ·have:=I.base.frzs b ob u e;rw[i9 (nn this)];exact this
 ·obtain⟨m,q⟩:=I.base.tbls b ps e;exact⟨m,by rw[i9 (nn q)];exact q⟩
 ·rw[i9 (Aw (I.cne x c i))];exact I.free
 ·by_cases j:c'=c
  ·subst j;have:=I.ok.inj x' x c' e i;subst this;exact .inr ⟨f,o,Fz,p8⟩
  ·rw[i9 j];exact I.freeC x' c' e
 ·obtain⟨e,n,t,l,d⟩:=I.pin p hp;refine⟨e,?_,t,l,d⟩;rw[i9 λz=>?_]
  ·exact n
  ·rw[z,h]at e;exact d v (by rw[<-Av e];exact y)
 ·by_cases k:b=c
  ·subst k;rw[p8]at e;cases e;exact ad0 h
  ·rw[i9 k]at e;exact(I.hok b u e).stay (λ_ _ _ q=>q) (λa r=>by rw[i9 (nn r)];exact r) λa xs r=>by rw[i9 (nn r)];exact r
def bc9{K:AQ}(e:D7 H H'):TK K H H':=⟨⟨λa xs q=>by
 rcases q with(q|⟨a,q⟩)|q
 ·exact .inl (.inl (e _ _ q))
 ·exact .inl (.inr ⟨a,e _ _ q⟩)
 ·exact .inr q,λa xs q=>e _ _ q⟩,λa o u q _=>e _ _ q⟩
def a00{K:AQ}{a:AH}{o:Ob}(z:ObR K H a o):∃u,H a=AA u/\∀f,u≠.tbl f:=by
 cases o with
 |lst k=>obtain⟨d,b,_⟩:=z;exact⟨_,b,λ_=>nofun⟩
 |fro k=>
  obtain⟨d,b|⟨u,b⟩,_⟩:=z
  ·exact⟨_,b,λ_=>nofun⟩
  ·exact⟨_,b,λ_=>nofun⟩
 |dct e=>obtain⟨d,b,_⟩:=z;exact⟨_,b,λ_=>nofun⟩
 |dtt e=>obtain⟨d,b,_⟩:=z;exact⟨_,b,λ_=>nofun⟩
 |ins c m=>obtain⟨C,n,d,b,_⟩:=z;exact⟨_,b,λ_=>nofun⟩
def by4{K:AQ}{st:Sto}(r:RelS K st H)(e:D7 H H'):RelS K st H':=r.stay (bc9 e) (λa o h=>by
 obtain⟨u,b,_⟩:=a00 (r.ob a o h);rw[b,e _ _ b]) λa ps h=>e _ _ h
def b73{st:Sto}(e:D7 H H'):Ev st H st H':=λa o h k=>⟨⟨o,e _ _ h,.inl rfl⟩,k⟩
theorem aw0(I:L2.Inv X pins σ H s):∀(e:List Str),(∀x∈e,X.fn x=AE/\X.ow x=AD/\∃c,X.env.cells.lookup x=AA c) ->
  ∃l,L2.Inv X pins σ l s/\D7 H l/\∀x∈e,∃c o u,X.env.cells.lookup x=AA c/\l c=AA (.frz o u)/\(∀E,u≠.lst E)/\s.heap.get? c=AA o
 |[],_=>⟨H,I,D7.refl H,λx h=>absurd h AZ⟩
 |x::e,h=>by
  obtain⟨k,d,B,z⟩:=aw0 I e λy a=>h y (Ar _ a);obtain⟨j,g,c,b⟩:=h x CG;obtain⟨v,o,i,t⟩:=d.cell x c b
  rcases d.freeC x c b with r|⟨_,f,u,p⟩
  ·have O:=br1 d b j (d.ok.cab x c (.inr g) b) r i t;have A:D7 k (upd k c (.frz o Fz)):=λb u q=>by rw[i9 (v4 q r)];exact q
   refine⟨_,O,B.trans A,λy a=>?_⟩
   rcases AN.mp a with rfl|a
   ·exact⟨c,o,Fz,b,p8,ar6,i⟩
   ·obtain⟨J,f,F,N,M,L,K⟩:=z y a;exact⟨J,f,F,N,A _ _ M,L,K⟩
  ·refine⟨k,d,B,λy a=>?_⟩
   rcases AN.mp a with rfl|a
   ·obtain⟨D,C⟩:=d.hok c _ p;refine⟨c,f,u,b,p,λvs w=>?_,D⟩;subst w;obtain⟨_,G,n,_,m⟩:=C;rw[i]at m;cases m;cases t
   ·exact z y a
end
def av5{l:List AG}(h:EM l):l=[]\/∃i s j t v r,l=.int i s::.int j t::v::r/\EM r:=by
 unfold EM at h
 split at h
 ·exact .inl rfl
 ·exact .inr ⟨_,_,_,_,_,_,rfl,h⟩
 ·exact h.elim
theorem au8{a b:Int}{s t:Tok}{c:AG}:∀(n:Nat)(l:List AG),l.length<=n->EM l->EM (l++[.int a s,.int b t,c])
 |0,l,d,_=>by
  have:l=[]:=Be ⋯;subst this;exact trivial
 |n+1,l,d,h=>by
  rcases av5 h with rfl|⟨i,g,j,f,v,r,rfl,e⟩
  ·exact trivial
  ·simp only[AV]at d;exact(au8 n r ⋯ e:EM (r++_))
theorem aw5{d:Pos}{e:AG}{a b:Int}{s t:Tok}{c:AG}:∀(n:Nat)(l:List AG),l.length<=n->EM l->Fw d (l++[.int a s,.int b t,c])=AA e->Fw d l=AA e\/e=c
 |n,l,p,h,q=>by
  rcases av5 h with rfl|⟨i,x,j,w,v,r,rfl,u⟩
  ·have k:(if a==d.line&&b==d.col then AA c else AF)=AA e:=q
   split at k
   ·exact .inr (Av k).symm
   ·cases k
  ·cases n with
   |zero=>simp at p
   |succ n=>
    simp only[AV]at p;have f:(if i==d.line&&j==d.col then AA v else Fw d (r++[.int a s,.int b t,c]))=AA e:=q;show(if i==d.line&&j==d.col then AA v else Fw d r)=AA e\/e=c
    split at f
    ·rename_i g;rw[if_pos g];exact .inl f
    ·rename_i g;rw[if_neg g];exact aw5 n r ⋯ u f
end Ek
namespace Ek
open PySem PySem.Spec PyProof.Rows L2
variable [Tbs]
abbrev G7(name qual:Str)(params:DE)(fb:De)(scope:BH)(cl:List (Str×AH))(doc pm cv ct:AG):Bi:=
 {name,qualname:=qual,params,body:=fb,scope,globals:=AO,closure:=cl,defaults:=.none,kwdefaults:=.none,doc:=doc,pyModule:=pm,annotations:=AF,code:=cv,closureTuple:=ct,builtins:=Cu}
abbrev N7(fd:Bi):Obj:={cls:=.type "function",data:=.func fd}
abbrev U6(mg:Str->Option AG)(h:BC):Prop:=∃bm ob,mg "__builtins__"=AA (.ref bm)/\bm≠Cu/\h.get? bm=AA ob/\ob.cls=.type "module"/\ob.dict=AA Cu/\ob.data=.plain
structure LamOk(X:Cx):Prop where
 tab:∃c P,X.env.code=.ref c/\W.CodeHd X.base c P/\P∈Tbs.ps
 bm:U6 X.mg X.base
section
variable {X:Cx} {pins:List (AH×Obj)} {σ:L2.St} {H:Hp} {s:AK} {st:Sto}
structure Made(X:Cx)(pins:List (AH×Obj))(σ:L2.St)(H:Hp)(st:Sto)(f:AH)(fd:Bi)(H':Hp)(s':AK):Prop where
 inv:L2.Inv X pins σ H' s'
 tk:TK X.K H H'
 ev:Ev st H st H'
 rs:RelS X.K st H'
 fn:H' f=AA (.frz (N7 fd) Fz)
 cd:N6 H' fd.code
def a08{fd:Bi}{h':BC}{tk:Nat}(I:L2.Inv X pins σ H s)(c:RelS X.K st H)(d:∀b o,s.heap.get? b=AA o->h'.get? b=AA o)(hsz:s.heap.objs.size<=h'.objs.size)(f:N6 H fd.code):
  Made X pins σ H st h'.objs.size fd (upd H h'.objs.size (.frz (N7 fd) Fz)) {s with heap:=h'.push (N7 fd),toks:=tk}:=by
 have a:H h'.objs.size=AF:=I.hok.fresh hsz;exact⟨I.laid (λb o e=>AM _ (d b o e)) hsz (ad0 (Ae _ rfl)),TK.new a,Ev.new a,c.new a,p8,f.mono (K:=X.K) (TK.new a)⟩
def a69{P f:AH}{r:Array AG}{fd:Bi}{h':BC}{tk:Nat}{i j:Int}{N M:Tok}{q:Str}(I:L2.Inv X pins σ H s)(Z:RelS X.K st H)(l:H P=AA (.tbl r))(W:TabOk H r)
  (hx:GV P s.heap h') (V:s.heap.objs.size<=f) (E:f<h'.objs.size) (hr:h'.CodeRec (.ref f) q) (ht:h'.get? P=AA (HX (r++#[.int i N,.int j M,.ref f]))) (U:fd.code=.ref f) :
  ∃m,Made X pins σ H st h'.objs.size fd m {s with heap:=h'.push (N7 fd),toks:=tk}:=by
 obtain⟨c2,O,g,t,e2,T,hd,hv⟩:=hr;cases e2;have hPs:s.heap.get? P=AA (HX r):=I.hok P _ l;have D:s.heap.objs.size<=h'.objs.size:=Gd (Im V E);have n1:H f=AF:=I.hok.fresh V;have n2:H h'.objs.size=AF:=I.hok.fresh D;have cf:f≠h'.objs.size:=BX E;have cP:P≠f:=λz=>by rw[z,n1]at l;cases l
 have fP:P≠h'.objs.size:=λz=>by rw[z,n2]at l;cases l
 let m:Hp:=upd (upd (upd H f (.frz O Fz)) h'.objs.size (.frz (N7 fd) Fz)) P (.tbl (r++#[.int i N,.int j M,.ref f]))
 have G:m P=AA (.tbl (r++#[.int i N,.int j M,.ref f])):=p8;have gf:m h'.objs.size=AA (.frz (N7 fd) Fz):=by show upd _ _ _ _=_;rw[i9 (Aw fP)];exact p8
 have gc:m f=AA (.frz O Fz):=by show upd _ _ _ _=_;rw[i9 (Aw cP),i9 cf];exact p8
 have Y:∀b,b≠P->b≠h'.objs.size->b≠f->m b=H b:=λb A L J=>by show upd _ _ _ _=_;rw[i9 A,i9 L,i9 J]
 have h:∀b u,H b=AA u->b≠P->m b=AA u:=λb u e A=>by rw[Y b A (v4 e n2) (v4 e n1)];exact e
 have p:∀b u,H b=AA u->(∀r,u≠.tbl r)->b≠P:=λb u e n z=>by rw[z,l]at e;cases e;exact n _ rfl
 have F:∀b o,b≠P->s.heap.get? b=AA o->(h'.push (N7 fd)).get? b=AA o:=λb o n e=>AM _ (hx b o n e);have d:TK X.K H m:=⟨⟨λa xs z=>by
  rcases z with(z|⟨Q,z⟩)|z
  ·exact .inl (.inl (h _ _ z (p _ _ z λ_=>nofun)))
  ·exact .inl (.inr ⟨Q,h _ _ z (p _ _ z λ_=>nofun)⟩)
  ·exact .inr z,λa xs z=>h _ _ z (p _ _ z λ_=>nofun)⟩,λa o u z _=>h _ _ z (p _ _ z λ_=>nofun)⟩
 have CF:N6 m (.ref f):=⟨f,O,Fz,g,q,t,rfl,gc,ar6,hd,hv⟩;refine⟨m,I.un (h':=h'.push (N7 fd)) ⟨λb o e n _ _=>?_,λb o e n _ _=>?_,λb o e n _=>?_,λb o e _=>?_,λb xs e=>?_,λb o u e=>?_,λb qs e=>?_⟩ (λb u e=>?_),d,λa o e k=>?_,⟨λa o e=>?_,λP0 hP0=>?_⟩,gf,by rw[U];exact CF⟩
 ·exact F b o (λz=>by rw[z,l]at n;cases n) e
 ·exact⟨o.slots,F b o (λz=>by rw[z,l]at n;cases n) e⟩
 ·have lb:=Az e;rw[Y b (λz=>by rw[z,l]at n;cases n) (BX (Aj lb D)) (BX (Aj lb V))];exact n
 ·by_cases x:b=P
  ·subst x;exact⟨_,AM _ ht⟩
  ·exact⟨o,F b o x e⟩
 ·exact h _ _ e (p _ _ e λ_=>nofun)
 ·exact h _ _ e (p _ _ e λ_=>nofun)
 ·by_cases x:b=P
  ·subst x;rw[l]at e;cases e;exact⟨_,G⟩
  ·exact⟨#[],by rw[h _ _ e x];simp⟩
 ·by_cases A:b=P
  ·subst A;rw[G]at e;cases e;exact AM _ ht
  by_cases L:b=h'.objs.size
  ·subst L;rw[gf]at e;cases e;exact ad0 (Ae _ rfl)
  by_cases J:b=f
  ·subst J;rw[gc]at e;cases e;exact ad0 (AM _ T)
  rw[Y b A L J]at e;refine(I.hok b u e).stay (λc v y z=>F c v ?_ z) (λa z=>h _ _ z (p _ _ z λ_=>nofun)) λa xs z=>h _ _ z (p _ _ z λ_=>nofun)
  rcases y with rfl|y
  ·exact A
  ·exact p _ _ y λ_=>nofun
 ·by_cases ha:a=P
  ·subst ha;rw[l]at e;cases e;exact⟨⟨_,G,.inr ⟨_,_,rfl,rfl⟩⟩,k⟩
  ·exact⟨⟨o,h _ _ e ha,.inl rfl⟩,k⟩
 ·have z:=Z.ob a o e;obtain⟨u,S,hn⟩:=a00 z;have B:m a=H a:=by rw[S];exact h _ _ S (p _ _ S hn)
  cases o with
  |lst ds=>obtain⟨g,q,w⟩:=z;exact⟨g,by rw[B];exact q,w.mono d⟩
  |fro ds=>
   obtain⟨g,q|⟨Q,q⟩,w⟩:=z
   ·exact⟨g,.inl (by rw[B];exact q),w.mono d⟩
   ·exact⟨g,.inr ⟨Q,by rw[B];exact q⟩,w.mono d⟩
  |dct R=>obtain⟨g,q,w⟩:=z;exact⟨g,by rw[B];exact q,w.mono d⟩
  |dtt R=>obtain⟨g,q,w,t⟩:=z;exact⟨g,by rw[B];exact q,w.mono d,t⟩
  |ins c fs=>obtain⟨C,dx,g,q,n,w⟩:=z;exact⟨C,dx,g,by rw[B];exact q,n,w.mono d⟩
 ·by_cases x:P0=P
  ·subst x;refine⟨_,G,?_,λpos cv hcv=>?_⟩
   ·rw[FL];exact au8 _ _ (AS _) W.tr
   ·rw[FL]at hcv
    rcases aw5 _ _ (AS _) W.tr hcv with z|z
    ·exact(W.co pos cv z).mono d
    ·rw[z];exact CF
  ·obtain⟨qs,e,o⟩:=Z.tb P0 hP0;exact⟨qs,h _ _ e x,o.tr,λpos cv hcv=>(o.co pos cv hcv).mono d⟩
def b63{name d:Str}{a:DE}{E:De}{scope:BH}{p:Pos}{v:Nat}{cl:List (Str×AH)}{Q:AG->AK->Prop}(I:L2.Inv X pins σ H s)(u:RelS X.K st H)(L:LamOk X)(k:Hx scope X.env=pure cl)
  (h:∀f j V r ct N O,Made X pins σ H st f (G7 name d a E scope cl j V r ct) N O->Q (.ref f) O) :
  AR (model X.prog X.w) X.A (makeFunction name d a E scope X.env [] [] [] p v) Q X.xe s:=by
 obtain⟨c,P,g,C,G⟩:=L.tab;obtain⟨R,J,q⟩:=u.tb P G;have i:s.heap.get? P=AA (HX R):=I.hok P _ J;have t:s.heap.Ns AO X.mg:=I.mod.glob.keeps I.bk;have x:AO≠P:=λz=>by
  obtain⟨o,Z,ep,e,B,_⟩:=t;rw[z,i]at e;cases e;cases B
 have D:s.heap.BuiltinsAt X.mg P:=by
  obtain⟨bm,Y,b1,b2,b3,U,b5,T⟩:=L.bm;have m:=I.bk _ _ b3;refine⟨bm,Y,b1,b2,λz=>?_,λz=>?_,m,U,b5,T⟩
  ·obtain⟨o,Z,ep,e,B,_⟩:=t;rw[<-z,m]at e;cases e;rw[T]at B;cases B
  ·rw[z,i]at m;cases m;cases U
 have F:=C.keeps I.bk;cases hh:Fw p R.toList with
 |none=>
  cases E with
  |stmts b=>
   refine W.makeFunction_K (mg:=X.mg) k I.ok.glob t g F i q.tr hh x D λc' ct j h' tk hx hc hlt hr ht=>?_;obtain⟨N,M⟩:=a69 (fd:=G7 name d a (.stmts b) scope cl j ((X.mg "__name__").getD .none) (.ref c') ct) (tk:=tk) I u J q hx hc hlt hr ht rfl;exact h _ _ _ _ _ _ _ M
  |expr b=>
   refine W.kla_makeFunction (mg:=X.mg) k I.ok.glob t g F i q.tr hh x D λc' ct h' tk hx hc hlt hr ht=>?_;obtain⟨N,M⟩:=a69 (fd:=G7 name d a (.expr b) scope cl .none ((X.mg "__name__").getD .none) (.ref c') ct) (tk:=tk) I u J q hx hc hlt hr ht rfl;exact h _ _ _ _ _ _ _ M
 |some r=>
  have S:=q.co p r hh;cases E with
  |stmts b=>
   refine W.makeFunction_hit (mg:=X.mg) k I.ok.glob t g F i q.tr hh D λct j h' tk hk hsz=>?_;exact h _ j ((X.mg "__name__").getD .none) r ct _ _ (a08 (fd:=G7 name d a (.stmts b) scope cl j ((X.mg "__name__").getD .none) r ct) (tk:=tk) I u hk hsz S)
  |expr b=>
   refine W.kla_makeFunctionHit (mg:=X.mg) k I.ok.glob t g F i q.tr hh D λct h' tk hk hsz=>?_;exact h _ .none ((X.mg "__name__").getD .none) r ct _ _ (a08 (fd:=G7 name d a (.expr b) scope cl .none ((X.mg "__name__").getD .none) r ct) (tk:=tk) I u hk hsz S)
end
end Ek
namespace Ek
open PySem PySem.Spec PyProof.Rows L2
variable [Tbs]
theorem a75{K:AQ}{H:Hp}{env:j6}{f:L2.St}(m:RelE K H env f):∀{e:List Nat}{c:List D},L8 env e=AA c ->
  ∃b:List V,IsDs K H c b/\b.length=e.length/\∀(i:Nat)v,b[i]?=AA v->∃j,e[i]?=AA j/\f[j]?=AA (AA v)
 |[],c,h=>by
  cases h;exact⟨[],.nil,rfl,λi v z=>by simp at z⟩
 |j::e,c,h=>by
  unfold L8 at h
  split at h
  ·rename_i d s q p;cases h;obtain⟨b,r,l,a⟩:=a75 m p;obtain⟨v,o,n⟩:=m.at' j d q;refine⟨v::b,.cons n r,by simp[l],λi w z=>?_⟩;cases i with
   |zero=>simp at z;subst z;exact⟨j,rfl,o⟩
   |succ i=>exact a i w (by simpa using z)
  ·cases h
structure NestOk(X:Cx)(params:DE)(fb:De)(scope:BH)(np:Nat)(N ps:List Str)(cp:List Nat)(b:Ss):Prop where
 sc:FnScC N ps scope
 lp:ps.length=np
 mt:Tbs.mt b scope N fb
 bind:∀(name qual:Str)(cl:List (Str×AH))(doc pm cv ct:AG)(us:List AG),us.length=ps.length->EU (G7 name qual params fb scope cl doc pm cv ct) ⟨us,[]⟩=pure (ps.zip us)
 cap:∀(i j:Nat),cp[i]?=AA j->∃x,X.N[j]?=AA x/\N[np+i]?=AA x/\(x,BA)∈scope.names
 fre:∀x,(x,BA)∈scope.names->(∃i:Nat,∃j:Nat,cp[i]?=AA j/\X.N[j]?=AA x)/\X.env.scope.names.lookup x=AA .cell/\X.fn x=AE/\X.ow x=AD
section
variable {X:Cx} {pins:List (AH×Obj)} {σ:L2.St} {H:Hp} {s:AK} {st:Sto}
def cf0{name d:Str}{a:DE}{Z:De}{scope:BH}{J:Pos}{q:Nat}{np:Nat}{N ps:List Str}{cp:List Nat}{b:Ss}{env:j6}{cs:List D}{Q:AG->AK->Prop}
  (I:L2.Inv X pins σ H s) (rs:RelS X.K st H) (hE:RelE X.K H env σ) (L:LamOk X) (S:NestOk X a Z scope np N ps cp b) (E:L8 env cp=AA cs)
  (h:∀f G s',L2.Inv X pins σ G s'->TK X.K H G->Ev st H st G->RelS X.K st G->IsD X.K G (.clo np N b cs) (.ref f)->Q (.ref f) s') :
  AR (model X.prog X.w) X.A (makeFunction name d a Z scope X.env [] [] [] J q) Q X.xe s:=by
 obtain⟨us,z,O,F⟩:=a75 hE E
 let Y:List Str:=(scope.names.filter λy=>y.2==.free).map (·.1)
 have g:∀x,x∈Y↔(x,BA)∈scope.names:=λx=>by
  simp only[Y,DF,mem_filter,beq_iff_eq];constructor
  ·rintro⟨⟨y,k⟩,⟨W,h2⟩,rfl⟩;simp only at h2;subst h2;exact W
  ·intro W;exact⟨(x,.free),⟨W,rfl⟩,rfl⟩
 have e:∀x,(x,BA)∈scope.names->∃c,X.env.cells.lookup x=AA c:=λx hx=>I.ok.has x (.inl (S.fre x hx).2.1);obtain⟨H1,I1,e1,f1⟩:=aw0 I Y λx hx=>⟨(S.fre x ((g x).mp hx)).2.2.1,(S.fre x ((g x).mp hx)).2.2.2,e x ((g x).mp hx)⟩;have V:Hx scope X.env=pure (u4 X.env.cells scope.names []):=ak3 λy hy hk=>by
  obtain⟨y,k⟩:=y;simp only at hk;subst hk;obtain⟨c,E⟩:=e y hy;simp only[E,IC]
 refine b63 I1 (by4 rs e1) L V λf doc pm cv ct H2 s2 M=>?_;have tk:TK X.K H H2:=(bc9 e1).trans M.tk;have n:∀(j:Nat)x v,X.N[j]?=AA x->σ[j]?=AA (AA v)->(x,BA)∈scope.names->∃c o u w,(u4 X.env.cells scope.names []).lookup x=AA c/\H2 c=AA (.frz o u)/\(∀vs,u≠.lst vs)/\o.data=.cell (AA w)/\i6 v w:=λj x v hN R hx=>by
  obtain⟨m,hn,hl⟩:=I1.loc;obtain⟨w,r,l⟩:=hl j x v hN R (.inr (.inl (S.fre x hx).2.1));obtain⟨c,o,u,a1,a2,a3,a4⟩:=f1 x ((g x).mpr hx)
  rcases l with⟨k1,_⟩|⟨_,c2,l1,o2,l2,l3⟩
  ·have t:X.env.scope.names.lookup x=AA .local:=k1;rw[(S.fre x hx).2.1]at t;cases t
  ·rw[a1]at l1;cases l1;rw[a4]at l2;cases l2;exact⟨c,o,u,w,ab5 a1 hx,M.tk.2 _ _ _ a2 a3,a3,l3,r⟩
 have p:∀x c,(u4 X.env.cells scope.names []).lookup x=AA c->X.env.cells.lookup x=AA c/\(x,BA)∈scope.names:=λx c hx=>M3 hx;refine h f H2 s2 M.inv tk ((b73 e1).trans M.ev) M.rs (.clo (us:=us) ⟨G7 name d a Z scope (u4 X.env.cells scope.names []) doc pm cv ct,ps,⟨S.sc,S.lp,S.mt,S.bind name d _ doc pm cv ct,rfl,rfl,λx hx=>?_,λx c hx=>(p x c hx).2,λx y c hx hy=>I.ok.inj x y c (p x c hx).1 (p y c hy).1⟩,⟨⟨_,_,M.fn,ar6,rfl⟩,M.cd,λx c hx=>?_,λi v hv=>?_⟩⟩ (by rw[z.len]) (z.mono tk).at')
 ·obtain⟨c,E⟩:=e x hx;exact⟨c,ab5 E hx⟩
 ·obtain⟨⟨i,j,hi,T⟩,_⟩:=S.fre x (p x c hx).2;have U:i<us.length:=by rw[O];exact(AY.mp hi).1
  obtain⟨j',C,P⟩:=F i _ (AJ U);rw[hi]at C;cases C;obtain⟨c',o,u,w,b1,b2,b3,b4,b5⟩:=n j x _ T P (p x c hx).2;have B:(u4 X.env.cells scope.names []).lookup x=AA c:=hx;rw[b1]at B;cases B;exact⟨o,u,w,b2,b3,b4⟩
 ·obtain⟨j,T,R⟩:=F i v hv;obtain⟨x,n1,n2,n3⟩:=S.cap i j T;obtain⟨c,o,u,w,b1,b2,b3,b4,b5⟩:=n j x v n1 R n3;exact⟨x,c,o,u,w,n2,b1,b2,b3,b4,b5⟩
def ch3{name:Str}{a:DE}{d:List BN}{scope:BH}{g:Pos}{i k:Nat}{N n:List Str}{m:List Nat}{b:Ss}(x:X.N.Nodup)(hi:X.N[i]?=AA name)(o:Loc X.env.scope name)(t:X.fn name=AD\/X.env.scope.names.lookup name=AA .local)
  (A:a.defaults=[]) (z:a.kw_defaults=[]) (y:∀c,annTrees a AF c=[]) (L:LamOk X) (S:NestOk X a (.stmts d) scope k N n m b) :
  PS X (.FunctionDef name a d [] AF [] scope AF name g) (upS X.K λF c e=>∃h,L8 c m=AA h/\F.nx (c.set i (AA (.clo k N b h))) e):=by
 intro j s B H F I q;obtain⟨c,e,C,l,w,⟨h,u,p⟩,r⟩:=q;refine W.nestDef_K A z (y _) (cf0 I w l L S u λf H' s' I' tk ev rs is=>?_);refine ab4 I' x hi o (v:=.ref f) rfl (λs2 I2=>?_) t;exact⟨_,H',I2,r.nx _ _ H' e ev ((l.mono tk).set is i) rs p⟩
end
end Ek
namespace Ek
open PySem PySem.Spec PyProof.Rows L2
variable [Tbs]
variable{fd:Bi}{vs:List V}{N:List Str}{H:Hp}
abbrev by3(fb:De)(env:Env):Code:=match fb with
 |.stmts b=>.func b env
 |.expr e=>.expr e env
def b12{prog:An}{w:Ax}{A:BU}{R:Hs->AK->Prop}{s:AK}{a c:AH}{d:Args}{o r:Obj}{vs:Array AG}{q:Str}{t:Tok}(f:A.depth<Hu)(y:s.heap.get? a=AA o)(n:o.data=.func fd)
  (p:fd.scope.isCoroutine=AE) (g:fd.scope.isGenerator=AE) (u:fd.code=.ref c) (k:s.heap.get? c=AA r) (l:r.data=.fields vs) (x:vs[1]?=AA (.str q t))
  (h:AR (model prog w) A.in1 (EU fd d) (λbinds s₁=>
   AR (model prog w) A.in1 (LN fd.scope fd.globals fd.closure binds (q++".<locals>.") (AA a) fd.code AF fd.builtins)
    (λenv s₂=>s₂.heap.NoLimit/\Dq (model prog w) A (by3 fd.body env) R s₂) (λe s'=>R (.error e) s') s₁) (λe s'=>R (.error e) s') s) :
  Dq (model prog w) A (.call (.ref a) d) R s:=by
 refine codeAny_of_tree ?_;show AR _ A.in1 (callAny (.ref a) d) _ _ s;simp only[callAny];refine AC (wpAny_load y ?_);simp only[n,callFunction,p,g,u];rw[u]at h;refine AC (m:=field (.ref c) 1) (Au k l x (AC (AL ?_)));refine AC (Bg h (λbinds s₁ h₁=>AC (Bg h₁ (λenv s₂ h₂=>AC (wpAny_enterFrame h₂.1 f
  ?_)) λ_ _ h'=>h')) λ_ _ h'=>h')
 have i:=h₂.2;cases hb:fd.body with
 |stmts b=>rw[hb]at i;exact AL (And.intro rfl i)
 |expr e=>rw[hb]at i;exact AL (And.intro rfl i)
theorem aw4{x:Str}{u:AG}:∀{a:List Str}{b:List AG}{i:Nat},a.Nodup->a[i]?=AA x->b[i]?=AA u->(a.zip b).reverse.lookup x=AA u
 |[],_,_,_,h,_=>by simp at h
 |_::_,[],_,_,_,h=>by simp at h
 |p::a,w::b,i,g,d,c=>by
  rw[GP,Dc,List.lookup_append];cases i with
  |zero=>
   simp at d c;subst d c;have:(a.zip b).reverse.lookup p=AF:=by
    rw[List.lookup_eq_none_iff];intro y k;have:=(FI (List.mem_reverse.mp k)).1;have j:p≠y.1:=λz=>(BP.mp g).1 (z▸this);simpa using j
   rw[this];simp[DH]
  |succ i=>
   rw[aw4 (i:=i) (BP.mp g).2 (by simpa using d) (by simpa using c)];rfl
abbrev cxC(P:An)(w:Ax)(K:AQ)(mg:Str->Option AG)(base:BC)(N:List Str)(scope:BH)(cl:List (Str×AH))(q:Str)(f:AH)(cd:AG)(A:BU)(outer:List Env)(s:AK)(H:Hp):Cx where
 prog:=P
 w:=w
 K:=K
 mg:=mg
 base:=base
 A:=A.deeper (newEnv scope s.heap.objs.size AO cl (q++".<locals>.") (AA f) cd AF Cu)
 N:=N
 s₀:=s
 H₀:=H
 env:=newEnv scope s.heap.objs.size AO cl (q++".<locals>.") (AA f) cd AF Cu
 outer:=outer
 stack:=newEnv scope s.heap.objs.size AO cl (q++".<locals>.") (AA f) cd AF Cu::outer
 ex:=[]
 calm:=AD
 fn:=λy=>!(scope.names.any λz=>z.1==y&&z.2==.free)
 pn:=[]
 xe:=λ_ _=>False
def bq9{P:An}{w:Ax}{K:AQ}{mg:Str->Option AG}{j:BC}{D:List Str}{W:Nat}{b:Ss}{q:Str}{f:AH}{A:BU}{g:List Env}{s:AK}{l:BC}{tk:Nat}{us:List AG}{d:List V}
  (C:CloF fd W N D b) (T:CloR H f fd W N d) (hd:A.handled=AF) (k:Env0 P w K mg j A g s H) (hl:vs.length=D.length) (r:g9 vs us)
  (Y:l.Ns s.heap.objs.size (λx=>(D.zip us).reverse.lookup x)) (hk:∀b o,s.heap.get? b=AA o->l.get? b=AA o) :
  Inv (cxC P w K mg j N fd.scope fd.closure q f fd.code A g s H) [] (z9 N (vs++d)) H {s with heap:=l,toks:=tk}:=by
 have S:=C.sc;have t:∀b:AH,b∉(cxC P w K mg j N fd.scope fd.closure q f fd.code A g s H).ex:=λb z=>absurd (show b∈([]:List AH) from z) ∎;have hpl:D.length<=N.length:=by have:=congrArg CV S.pre;rw[Bn]at this;lia
 have hful:(vs++d).length<=N.length:=by
  rw[Ad,hl];cases hu:d.length with
  |zero=>lia
  |succ m=>
   have Z:m<d.length:=by lia
   obtain⟨x,_,_,_,_,M,_⟩:=T.at' m _ (AJ Z);have:=(AY.mp M).1;have:=C.np;lia
 have I:∀x c,fd.closure.lookup x=AA c->(!(fd.scope.names.any λz=>z.1==x&&z.2==.free))=AE:=λx c h=>by
  have Z:=C.fre x c h;have:(fd.scope.names.any λz=>z.1==x&&z.2==.free)=AD:=HV.mpr ⟨(x,.free),Z,∎⟩;rw[this];rfl
 have n:∀{c:AH}{o:Obj}{u:HO},H c=AA (.frz o u)->l.get? c=AA o:=λ{c o u}e=>by
  obtain⟨z,_⟩:=k.hok c _ e;exact hk _ _ z
 refine⟨⟨k.mod,S.kind,rfl,rfl,AS _,λy z c l h2=>C.inj y z c l h2,λy B=>?_,λy c h hc=>?_,λ_=>hd,Hf k.frames,.inr ⟨rfl,rfl⟩,λb z=>absurd z (t b),k.bs,k.bsz,λb _ _=>t b,λb z=>absurd z (t b),k.funs,k.frf⟩,
  rfl,k.bare,Un.kept hk,⟨_,Y,λi y v l h2 h3=>?_⟩,λy c h=>?_,k.hok.fresh (AS _),λy c h=>?_,λp O=>absurd (show p ∈ ([]:List (AH × Obj)) from O) ∎,k.hok.kept hk,?_⟩
 ·have B:fd.scope.names.lookup y=AA .cell\/fd.scope.names.lookup y=AA .free:=B
  rcases B with B|B
  ·exact absurd rfl (S.nocell _ (PySem.mem_of_lookup B))
  ·exact C.has y (PySem.mem_of_lookup B)
 ·have hc':fd.closure.lookup y=AA c:=hc
  rcases h with h|h
  ·have h':(!(fd.scope.names.any λz=>z.1==y&&z.2==.free))=AD:=h;rw[I y c hc']at h';cases h'
  ·cases h
 ·have Q:i<(vs++d).length:=by
   unfold L2.z9 at h2
   by_cases Q:i<(vs++d).length
   ·exact Q
   ·rw[Af (by simpa using Q)]at h2;rw[DP]at h2
    split at h2<;>cases h2
  have R:(vs++d)[i]?=AA v:=by
   unfold L2.z9 at h2;rw[Ac (by simpa using Q),Ag]at h2;cases e:(vs++d)[i]? with
   |none=>rw[e]at h2;cases h2
   |some a=>rw[e]at h2;cases h2;rfl
  have G:N[i]?=AA y:=l
  by_cases hv:i<vs.length
  ·rw[Ac hv]at R;obtain⟨u,hu,rv⟩:=r.get R;have O:D[i]?=AA y:=by
    rw[<-S.pre,HM ⋯];exact G
   have X:D.Nodup:=by rw[<-S.pre];exact S.nd.sublist (Ig _ _)
   exact⟨u,rv,.inl ⟨S.par y (BS O),aw4 X O hu⟩⟩
  ·rw[Af ⋯]at R;obtain⟨x,c,E,U,J,M,n2,F,n4,L,n6⟩:=T.at' _ v R;have e:W+(i-vs.length)=i:=by have:=C.np;lia
   rw[e,G]at M;cases M;exact⟨J,n6,.inr ⟨.inr (S.fre _ (C.fre y c n2) rfl),c,n2,E,n F,L⟩⟩
 ·obtain⟨E,U,J,F,n4,L⟩:=T.cl y c h;exact⟨AA J,E,n F,L⟩
 ·obtain⟨E,U,J,F,n4,L⟩:=T.cl y c h;exact .inr ⟨I y c h,E,U,F⟩
 ·unfold L2.z9;show _=N.length;rw[Ad,AW,DD];lia
abbrev co7(X:Cx)(fb:De)(Z:Sg)(b:Ss):Prop:=match fb with
 |.stmts l=>PSs X l (upS X.K (j7 Z b))
 |.expr x=>∃e,b=.cons (.ret e) .nil/\PE X x (up X.K (wpE Z e))
def av6{K:AQ}{ds:List D}(r:IsDs K H ds vs):RelE K H (ds.map AA++Al (N.length-ds.length) AF) (L2.z9 N vs):=by
 refine⟨by simp[L2.z9,r.len],λi x h=>?_⟩;unfold L2.z9
 by_cases a:i<ds.length
 ·rw[Ac (by simpa using a),Ag,AJ a]at h;simp only[GM,CA]at h;obtain⟨v,c,b⟩:=r.get (AJ a);refine⟨v,?_,by rw[<-h];exact b⟩;rw[Ac (by rw[AW,<-r.len];exact a),Ag,c];rfl
 ·rw[Af (by simpa using a),DP]at h
  split at h<;>cases h
def bq2{K:AQ}{ds a:List D}{us:List V}(r:IsDs K H ds vs)(b:IsDs K H a us):RelE K H (N4 N ds a) (L2.z9 N (vs++us)):=av6 (r.append b)
def cj4{P:An}{w:Ax}{K:AQ}{mg:Str->Option AG}{h:BC}{n np:Nat}{L:AH}{U:List Str}{b:Ss}{M:List D}{Z:Sg}(O:CloF fd np N U b)
  (B:∀(q:Str)(A:BU)(f:List Env)(s:AK)(H:Hp),Room n (cxC P w K mg h N fd.scope fd.closure q L fd.code A f s H).A->co7 (cxC P w K mg h N fd.scope fd.closure q L fd.code A f s H) fd.body Z b) :
  FnOk P w K mg h CX0 (n+1) L fd U (Y3 K L fd np N M λds m Q=>ds.length=np/\j7 Z b {nx:=λ_ a=>∃j,Sub j a/\Q .non j,rt:=λd a=>∃j,Sub j a/\Q d j} (N4 N ds M) m):=by
 refine⟨λvs H Q E hsp=>?_,λA f s H args us vs Q E hr e0 hb r hsp=>?_⟩
 ·obtain⟨R,ds,m,Qd,cr,X,is,rs,i,hq⟩:=hsp;rw[<-is.len,i.1,O.np]
 ·obtain⟨R,ds,m,Qd,cr,X,is,rs,⟨hlen,i⟩,hq⟩:=hsp;have S:=O.sc;have hl:vs.length=U.length:=by rw[<-is.len,hlen,O.np]
  have lim:s.heap.NoLimit:=e0.mod.nolimit.keeps λb o e=>(e0.bs b o e).1;obtain⟨o,u,f1,f2,f3⟩:=cr.ex;obtain⟨c,oc,uc,vc,q,t,c1,c2,c3,c4,c5⟩:=cr.cd;obtain⟨ho,_⟩:=e0.hok L _ f1;obtain⟨hoc,_⟩:=e0.hok c _ c2;have Y:∀y∈U.zip us,fd.scope.names.lookup y.1=AA .local:=λ⟨x,v⟩hy=>S.par x (FI hy).1;refine b12 hr.depth ho f3 S.co S.gen c1 hoc c4 c5 (hb _ _ _ _ ?_);rw[O.gl,O.bl];refine JL S.nocell Y (λh1 hns hsb=>?_) S.kind;have hk:∀b o,s.heap.get? b=AA o->h1.get? b=AA o:=λb o e=>hsb.extBut b o (BX (Az e)) (AM _ e);refine⟨lim.keeps hk,?_⟩;have I:=bq9 (q:=q) (tk:=s.toks+(U.zip us).length) O cr hr.hd e0 hl r hns hk;have G:=B q A f s H (hr.deeper _);have hE:RelE K H (N4 N ds M) (z9 N (vs++R)):=bq2 is X;have C:∀{k:L2.St}{g:Hp}{v:V}{u:AG}{p:AK},Inv (cxC P w K mg h N fd.scope fd.closure q L fd.code A f s H) [] k g p->i6 v u->Q v g->CE f P w H s Q u p:=
   λ{k g v u p}J T q=>⟨v,g,J.os,J.bare,J.base,J.hok,T,q⟩
  have rt:∀v d g a,Ev m H a g->IsD K g d v->RelS K a g->(∃j,Sub j a/\Qd d j)->Q v g:=λv d g a ev is' rs'⟨j,sub,q⟩=>hq v d g j (ev.drop sub) is' (rs'.sub sub) q;cases hfb:fd.body with
  |stmts l=>
   rw[hfb]at G;refine codeAny_func (Bg (G [] _ _ H {nx:=λ_ g=>Q .non g,rt:=Q} I ⟨N4 N ds M,m,_,hE,rs,i,λenv σ g a ev hE hS q=>rt _ .non g a ev .non hS q,λenv σ g a ev hE hS q=>q.elim,λenv σ g a ev hE hS q=>q.elim,λv e g a ev is' rs' q=>rt v e g a ev is' rs' q⟩) (λfl p i=>?_) λe p z=>z.elim);cases fl with
   |ret u=>
    obtain⟨v,k,g,J,T,q⟩:=i;exact C J T q
   |next=>
    obtain⟨k,g,J,q⟩:=i;exact C (v:=V.non) (u:=Bc) J rfl q
   |brk=>
    obtain⟨_,_,_,q⟩:=i;exact AU q
   |cont=>
    obtain⟨_,_,_,q⟩:=i;exact AU q
  |expr x=>
   rw[hfb]at G;obtain⟨e,rfl,G⟩:=G;refine W.kla_codeExpr (Bg (G [] _ _ H Q I ⟨N4 N ds M,m,_,hE,rs,(show wpE Z e (N4 N ds M) m _ from i),λv d g a ev is' rs' q=>rt v d g a ev is' rs' q⟩) (λu p i=>?_) λe p z=>z.elim);obtain⟨v,g,J,T,q⟩:=i;exact C J T q
end Ek
namespace Ek
open PySem PySem.Spec PyProof.Rows L2
variable [Tbs]
variable{x:AT}{C:AT->Prop}{g m:Str}{sc:BH}
abbrev S5:List Str:=["len","abs","int","sum","list","tuple","isinstance","max","range","enumerate","reversed","str","bool","min","sorted","zip","any","dict"]
abbrev isM(f:Str):Bool:=f.cps.contains 46
structure FOk(X:Cx)(f:Str)(sp:Spec):Prop where
 ex:∃k a fd ps,FnOk X.prog X.w X.K X.mg X.base CX0 k a fd ps (z4 X.K sp)/\Room k X.A/\X.mg f=AA (.ref a)/\Bh X.K (.ref a)=AD/\p7 X.K fd ps []/\Ay X.K AO f=AA (AA (.ref a))
abbrev t5:Str:=⟨#[33]⟩
abbrev z7(x:Str):Str:=⟨#[33]++x.cps⟩
abbrev aa7(p:DE):Option (List Str):=if p.posonlyargs.isEmpty&&p.vararg.isNone&&p.kwonlyargs.isEmpty&&p.kw_defaults.isEmpty&&p.kwarg.isNone&&p.defaults.isEmpty&&p.args.all (·.annotation.isNone)&&AB (p.args.map (·.arg)).Nodup&&!p.args.isEmpty&&AB (p.args.length<=3)then AA (p.args.map (·.arg))else AF
abbrev aq7(sc:BH)(N:List Str)(scope:BH)(Nl ps:List Str)(np:Nat)(cp:List Nat):Bool:=
 (ps.length==np)&&(scope.kind==.function)&&!scope.isCoroutine&&!scope.isGenerator&&decide Nl.Nodup&&(Nl.take ps.length==ps)&&ps.all (λx=>scope.names.lookup x==AA .local)&&scope.names.all (λy=>!(y.2==.cell))&&
 scope.names.all (λy=>!(y.2==.free)||(scope.names.lookup y.1==AA .free&&sc.names.lookup y.1==AA .cell&&N.contains (z7 y.1)&&(DY cp.length).any λi=>match cp[i]? with|some j=>N[j]?==AA y.1|none=>AE))&&
 (DY cp.length).all (λi=>match cp[i]? with|some j=>(match N[j]? with|some x=>(Nl[np+i]?==AA x)&&scope.names.any (λz=>z.1==x&&z.2==.free)|none=>AE)|none=>AE)
abbrev glb(sc:BH)(f:Str):Bool:=sc.names.lookup f==AA .globalImplicit
abbrev ae0(sc:BH)(x:Str):Bool:=match sc.names.lookup x with
 |some .local=>AD|some .cell=>AD|some .free=>AD|_=>AE
abbrev L0(sc:BH)(x:Str):Bool:=match sc.names.lookup x with
 |some .local=>AD|some .cell=>AD|_=>AE
abbrev lcl(sc:BH)(x:Str):Bool:=sc.names.lookup x==AA .local
abbrev okN(x:Str):Bool:=!(x==("__debug__":Str))&&!(x==("__classdict__":Str))
abbrev be1(x:AT):Bool:=!([22,26,7].contains x.ctorIdx)
abbrev C8(x:AT):Bool:=!(x.ctorIdx==5)
abbrev J8(x:AT):Bool:=!([8,9,10].contains x.ctorIdx)
abbrev as1(scope sc:BH):BH:=
 {scope with names:=scope.names.map λ(n,k)=>if(k==.free&&sc.kind==.function&&sc.names.lookup n==AA .cell)then(n,.cell)else(n,k)}
abbrev W9(sc scope:BH)(N Nc:List Str)(fr:List Nat)(k:Nat):Bool:=
 (scope.kind==.function)&&scope.names.all (λy=>!(y.2==.cell))&&scope.names.all (λy=>!(y.2==.local)||scope.names.lookup y.1==AA .local)&&
 scope.names.all (λy=>!(y.2==.free)||sc.names.lookup y.1==AA .cell||sc.names.lookup y.1==AA .free)&&scope.names.all (λy=>!(y.2==.free)||!(scope.names.any λz=>z.1==y.1&&z.2==.local))&&
 decide Nc.Nodup&&!(Nc.contains t5)&&(Nc.length==fr.length+k)&&((DY fr.length).all λi=>match Nc[i]?,fr[i]? with
  |some x,AA j=>(N[j]?==AA x)&&scope.names.any (λz=>z.1==x&&z.2==.free)|_,_=>AE)
def an{a b:Bool}(h:(a&&b)=AD):a=AD/\b=AD:=FD.1 h
def nt{b:Bool}(h:(!b)=AD):b=AE:=by cases b<;>first|rfl|cases h
def dE{p:Prop}[Decidable p]{f:p->Bool}{C:Prop}(h:(if h:p then f h else AE)=AD)(H:∀e,f e=AD->C):C:=by
 by_cases e:p
 ·rw[dif_pos e]at h;exact H e h
 ·rw[dif_neg e]at h;cases h
abbrev xBo(x:AT)(k:LU->List AT->Pos->Bool):Bool:=if h:x.ctorIdx=0 then FM x h k else AE
def bk5{k:LU->List AT->Pos->Bool}(h:xBo x k=AD)(H:∀o l p,k o l p=AD->C (.BoolOp o l p)):C x:=
 dE h λe=>FM (motive_1:=λx=>∀e,FM x e k=AD->C x) x e (λo l p _ h=>H o l p h) e
abbrev xBi(x:AT)(k:AT->Ez->AT->Pos->Bool):Bool:=if h:x.ctorIdx=2 then Fe x h k else AE
def da2{k:AT->Ez->AT->Pos->Bool}(h:xBi x k=AD)(H:∀a o b p,k a o b p=AD->C (.BinOp a o b p)):C x:=
 dE h λe=>Fe (motive_1:=λx=>∀e,Fe x e k=AD->C x) x e (λa o b p _ h=>H a o b p h) e
abbrev xU(x:AT)(k:UnaryOp->AT->Pos->Bool):Bool:=if h:x.ctorIdx=3 then Et x h k else AE
def xU_{k:UnaryOp->AT->Pos->Bool}(h:xU x k=AD)(H:∀o a p,k o a p=AD->C (.UnaryOp o a p)):C x:=
 dE h λe=>Et (motive_1:=λx=>∀e,Et x e k=AD->C x) x e (λo a p _ h=>H o a p h) e
abbrev xIf(x:AT)(k:AT->AT->AT->Pos->Bool):Bool:=if h:x.ctorIdx=5 then Fg x h k else AE
def de3{k:AT->AT->AT->Pos->Bool}(h:xIf x k=AD)(H:∀a b c p,k a b c p=AD->C (.IfExp a b c p)):C x:=
 dE h λe=>Fg (motive_1:=λx=>∀e,Fg x e k=AD->C x) x e (λa b c p _ h=>H a b c p h) e
abbrev xD(x:AT)(k:List (Option AT)->List AT->Pos->Bool):Bool:=if h:x.ctorIdx=6 then GD x h k else AE
def xD_{k:List (Option AT)->List AT->Pos->Bool}(h:xD x k=AD)(H:∀a b p,k a b p=AD->C (.Dict a b p)):C x:=
 dE h λe=>GD (motive_1:=λx=>∀e,GD x e k=AD->C x) x e (λa b p _ h=>H a b p h) e
abbrev xLC(x:AT)(k:AT->List IM->BH->Pos->Bool):Bool:=if h:x.ctorIdx=8 then Eb x h k else AE
def c92{k:AT->List IM->BH->Pos->Bool}(h:xLC x k=AD)(H:∀a g s p,k a g s p=AD->C (.ListComp a g s p)):C x:=
 dE h λe=>Eb (motive_1:=λx=>∀e,Eb x e k=AD->C x) x e (λa g s p _ h=>H a g s p h) e
abbrev xCm(x:AT)(k:AT->List Dn->List AT->Pos->Bool):Bool:=if h:x.ctorIdx=15 then Eu x h k else AE
def dc7{k:AT->List Dn->List AT->Pos->Bool}(h:xCm x k=AD)(H:∀a o b p,k a o b p=AD->C (.Compare a o b p)):C x:=
 dE h λe=>Eu (motive_1:=λx=>∀e,Eu x e k=AD->C x) x e (λa o b p _ h=>H a o b p h) e
abbrev xCa(x:AT)(k:AT->List AT->List Hg->Pos->Bool):Bool:=if h:x.ctorIdx=16 then GE x h k else AE
def c83{k:AT->List AT->List Hg->Pos->Bool}(h:xCa x k=AD)(H:∀f a w p,k f a w p=AD->C (.Call f a w p)):C x:=
 dE h λe=>GE (motive_1:=λx=>∀e,GE x e k=AD->C x) x e (λf a w p _ h=>H f a w p h) e
abbrev xK(x:AT)(k:Const->Nat->Pos->Bool):Bool:=if h:x.ctorIdx=19 then Ec x h k else AE
def xK_{k:Const->Nat->Pos->Bool}(h:xK x k=AD)(H:∀c n p,k c n p=AD->C (.Constant c n p)):C x:=
 dE h λe=>Ec (motive_1:=λx=>∀e,Ec x e k=AD->C x) x e (λc n p _ h=>H c n p h) e
abbrev xA(x:AT)(k:AT->Str->Pos->Bool):Bool:=if h:x.ctorIdx=20 then EN x h k else AE
def xA_{k:AT->Str->Pos->Bool}(h:xA x k=AD)(H:∀a f p,k a f p=AD->C (.Attribute a f p)):C x:=
 dE h λe=>EN (motive_1:=λx=>∀e,EN x e k=AD->C x) x e (λa f p _ h=>H a f p h) e
abbrev xS(x:AT)(k:AT->AT->Pos->Bool):Bool:=if h:x.ctorIdx=21 then EO x h k else AE
def xS_{k:AT->AT->Pos->Bool}(h:xS x k=AD)(H:∀a b p,k a b p=AD->C (.Subscript a b p)):C x:=
 dE h λe=>EO (motive_1:=λx=>∀e,EO x e k=AD->C x) x e (λa b p _ h=>H a b p h) e
abbrev xN(x:AT)(k:Str->Pos->Bool):Bool:=if h:x.ctorIdx=23 then GF x h k else AE
def xN_{k:Str->Pos->Bool}(h:xN x k=AD)(H:∀y p,k y p=AD->C (.Name y p)):C x:=
 dE h λe=>GF (motive_1:=λx=>∀e,GF x e k=AD->C x) x e (λy p _ h=>H y p h) e
abbrev xL(x:AT)(k:List AT->Pos->Bool):Bool:=if h:x.ctorIdx=24 then GH x h k else AE
def xL_{k:List AT->Pos->Bool}(h:xL x k=AD)(H:∀l p,k l p=AD->C (.List l p)):C x:=
 dE h λe=>GH (motive_1:=λx=>∀e,GH x e k=AD->C x) x e (λl p _ h=>H l p h) e
abbrev xT(x:AT)(k:List AT->Nat->Pos->Bool):Bool:=if h:x.ctorIdx=25 then Fh x h k else AE
def xT_{k:List AT->Nat->Pos->Bool}(h:xT x k=AD)(H:∀l n p,k l n p=AD->C (.Tuple l n p)):C x:=
 dE h λe=>Fh (motive_1:=λx=>∀e,Fh x e k=AD->C x) x e (λl n p _ h=>H l n p h) e
abbrev xSl(x:AT)(k:Option AT->Option AT->Option AT->Pos->Bool):Bool:=if h:x.ctorIdx=26 then Fi x h k else AE
def bk6{k:Option AT->Option AT->Option AT->Pos->Bool}(h:xSl x k=AD)(H:∀l u s p,k l u s p=AD->C (.Slice l u s p)):C x:=
 dE h λe=>Fi (motive_1:=λx=>∀e,Fi x e k=AD->C x) x e (λl u s p _ h=>H l u s p h) e
abbrev l1{α:Type}(l:List α)(k:α->Bool):Bool:=Ds (motive:=λ_=>Bool) l AE λp r=>r.isEmpty&&k p
def l1_{a:Type}{l:List a}{k:a->Bool}{C:List a->Prop}(h:l1 l k=AD)(H:∀p,k p=AD->C [p]):C l:=
 match l,h with
 |[p],h=>H p h
abbrev l2{α:Type}(l:List α)(k:α->α->Bool):Bool:=Ds (motive:=λ_=>Bool) l AE λp r=>l1 r (k p)
def l2_{a:Type}{l:List a}{k:a->a->Bool}{C:List a->Prop}(h:l2 l k=AD)(H:∀p q,k p q=AD->C [p,q]):C l:=
 match l,h with
 |p::r,h=>l1_ (C:=λr=>C (p::r)) h λq h=>H p q h
abbrev lb(l:List AT)(k:AT->AT->Bool)(m:AT->List AT->Bool):Bool:=Ds (motive:=λ_=>Bool) l AE λp r=>if r.length=1 then l1 r (k p)else AB (2<=r.length)&&m p r
abbrev xKc(x:AT)(c:Const):Bool:=xK x λd _ _=>d==c
def V8{c:Const}(h:xKc x c=AD)(H:∀n p,C (.Constant c n p)):C x:=
 xK_ h λd n p e=>(beq_iff_eq.1 e)▸H n p
abbrev Q9(x:AT)(g:Str):Bool:=xN x λy _=>y==g
def V3(h:Q9 x g=AD)(H:∀p,C (.Name g p)):C x:=
 xN_ h λy p e=>(beq_iff_eq.1 e)▸H p
abbrev xCl(x:AT)(k:AT->List AT->Pos->Bool):Bool:=xCa x λf a w p=>w.isEmpty&&k f a p
def ad8{k:AT->List AT->Pos->Bool}(h:xCl x k=AD)(H:∀f a p,k f a p=AD->C (.Call f a [] p)):C x:=
 c83 h λf a w p h=>by
  cases w with
  |nil=>exact H f a p h
  |cons=>exact(AI h).elim
abbrev N9(x:AT):Bool:=!(xCl x λf a _=>a.isEmpty&&xN f λ_ _=>AD)
abbrev xG(g:Str)(sc:BH)(x:AT)(k:List AT->Bool):Bool:=xCl x λf a _=>Q9 f g&&(glb sc g&&k a)
def xG_{k:List AT->Bool}{C:AT->Prop}(h:xG g sc x k=AD)(H:∀q a p,glb sc g=AD->k a=AD->C (.Call (.Name g q) a [] p)):C x:=
 ad8 h λf a p h=>V3 (C:=λf=>C (.Call f a [] p)) (an h).1 λq=>H q a p (an (an h).2).1 (an (an h).2).2
abbrev xC1(g:Str)(sc:BH)(x:AT)(k:AT->Bool):Bool:=xG g sc x λa=>l1 a k
def G5{k:AT->Bool}{C:AT->Prop}(h:xC1 g sc x k=AD)(H:∀q a p,glb sc g=AD->k a=AD->C (.Call (.Name g q) [a] [] p)):C x:=
 xG_ h λq a p h1 h=>l1_ (C:=λa=>C (.Call (.Name g q) a [] p)) h λa=>H q a p h1
abbrev xC2(g:Str)(sc:BH)(x:AT)(k:AT->AT->Bool):Bool:=xG g sc x λa=>l2 a k
def Z9{k:AT->AT->Bool}{C:AT->Prop}(h:xC2 g sc x k=AD)(H:∀q a b p,glb sc g=AD->k a b=AD->C (.Call (.Name g q) [a,b] [] p)):C x:=
 xG_ h λq a p h1 h=>l2_ (C:=λa=>C (.Call (.Name g q) a [] p)) h λa b=>H q a b p h1
abbrev xM(m:Str)(x:AT)(k:AT->List AT->Bool):Bool:=xCl x λf a cp=>xA f λo n ap=>(n==m)&&((ap.endLine==cp.line)&&k o a)
def xM_{k:AT->List AT->Bool}{C:AT->Prop}(h:xM m x k=AD)(H:∀o c a b,(c.endLine==b.line)=AD->k o a=AD->C (.Call (.Attribute o m c) a [] b)):C x:=
 ad8 h λf a b h=>xA_ (C:=λf=>C (.Call f a [] b)) h λo n c h=>(beq_iff_eq.1 (an h).1)▸H o c a b (an (an h).2).1 (an (an h).2).2
abbrev xM0(m:Str)(x:AT)(k:AT->Bool):Bool:=xM m x λo a=>a.isEmpty&&(N9 o&&k o)
def bl5{k:AT->Bool}(h:xM0 m x k=AD)(H:∀o c b,(c.endLine==b.line)=AD->N9 o=AD->k o=AD->C (.Call (.Attribute o m c) [] [] b)):C x:=
 xM_ h λo c a b e h=>by
  cases a with
  |nil=>exact H o c b e (an (an h).2).1 (an (an h).2).2
  |cons=>exact(AI h).elim
abbrev xM1(m:Str)(x:AT)(k j:AT->Bool):Bool:=xM m x λo a=>l1 a λp=>N9 o&&(k o&&j p)
def ae2{k j:AT->Bool}{C:AT->Prop}(h:xM1 m x k j=AD)(H:∀o c p b,(c.endLine==b.line)=AD->N9 o=AD->k o=AD->j p=AD->C (.Call (.Attribute o m c) [p] [] b)):C x:=
 xM_ h λo c a b e h=>l1_ (C:=λa=>C (.Call (.Attribute o m c) a [] b)) h λp h=>H o c p b e (an h).1 (an (an h).2).1 (an (an h).2).2
abbrev xCo(x:AT)(k:Dn->AT->AT->Bool):Bool:=xCm x λa o b _=>l1 o λo=>l1 b λb=>k o a b
def Y6{k:Dn->AT->AT->Bool}{C:AT->Prop}(h:xCo x k=AD)(H:∀o a b p,k o a b=AD->C (.Compare a [o] [b] p)):C x:=
 dc7 h λa o b p h=>l1_ (C:=λo=>C (.Compare a o b p)) h λo h=>l1_ (C:=λb=>C (.Compare a [o] b p)) h λb=>H o a b p
abbrev mTg(ow:Bool)(t:Tg)(sc:BH)(N:List Str)(x:AT):Bool:=match t with
 |.n i=>xN x λy _=>(N[i]?==AA y)&&L0 sc y&&((ow&&!(N.contains (z7 y)))||lcl sc y)
 |.tup is=>xT x λes _ _=>(is.length==es.length)&&((is.zip es).all λp=>xN p.2 λy _=>(N[p.1]?==AA y)&&L0 sc y&&((ow&&!(N.contains (z7 y)))||lcl sc y))
abbrev oE(lo:E)(m:AT->Bool)(l:Option AT):Bool:=JD (motive:=λ_=>Bool) l lo.isNon λl=>!lo.isNon&&m l
abbrev cE(c:E)(m:AT->Bool)(l:List AT):Bool:=if l.isEmpty then c.isNon else l1 l λx=>!c.isNon&&(C8 x&&m x)
mutual
noncomputable def mE:E->BH->List Str->AT->Bool
 |.non,_,_,x=>xKc x .none
 |.bl b,_,_,x=>xKc x (.bool b)
 |.int i,_,_,x=>xKc x (.int i)
 |.str y,_,_,x=>xKc x (.str y)
 |.v i,sc,N,x=>xN x λy _=>(N[i]?==AA y)&&(ae0 sc y&&okN y)
 |.tup es,sc,N,x=>xT x λxs _ _=>mEs es sc N xs&&AB (es.len<=1000)
 |.lst es,sc,N,x=>xL x λxs _=>mEs es sc N xs&&AB (es.len<=1000)
 |.bin o a b,sc,N,x=>xBi x λp q r _=>(q==o)&&(mE a sc N p&&mE b sc N r)
 |.neg a,sc,N,x=>xU x λo p _=>(o==.USub)&&mE a sc N p
 |.cmp o a b,sc,N,x=>xCo x λq p r=>(q==o)&&(mE a sc N p&&mE b sc N r)
 |.isN a,sc,N,x=>xCo x λq p r=>(q==.Is)&&(xKc r .none&&mE a sc N p)
 |.notN a,sc,N,x=>xCo x λq p r=>(q==.IsNot)&&(xKc r .none&&mE a sc N p)
 |.and a b,sc,N,x=>xBo x λo l ps=>(o==.And)&&lb l (λp q=>mE a sc N p&&mE b sc N q&&C8 p&&C8 q) (λp r=>mE a sc N p&&mE b sc N (.BoolOp .And r ps)&&C8 p)
 |.or a b,sc,N,x=>xBo x λo l ps=>(o==.Or)&&lb l (λp q=>mE a sc N p&&mE b sc N q&&C8 p&&C8 q) (λp r=>mE a sc N p&&mE b sc N (.BoolOp .Or r ps)&&C8 p)
 |.not a,sc,N,x=>xU x λo p _=>(o==.Not)&&(mE a sc N p&&C8 p)
 |.ite c a b,sc,N,x=>xIf x λp q r _=>(mE c sc N p&&C8 p)&&(mE a sc N q&&mE b sc N r)
 |.ix a b,sc,N,x=>xS x λp q _=>mE a sc N p&&mE b sc N q
 |.sl a lo hi,sc,N,x=>xS x λp s _=>mE a sc N p&&xSl s λl h st _=>st.isNone&&(oE lo (mE lo sc N) l&&oE hi (mE hi sc N) h)
 |.slw a lo hi,sc,N,x=>xS x λp s _=>mE a sc N p&&xSl s λl h st _=>st.isNone&&(oE lo (mE lo sc N) l&&oE hi (mE hi sc N) h)
 |.gget g k d,sc,N,x=>xM "get" x λo a=>Q9 o g&&(glb sc g&&(okN g&&l2 a λp q=>mE k sc N p&&mE d sc N q))
 |.gsel g k,sc,N,x=>xS x λn q _=>Q9 n g&&(glb sc g&&(okN g&&mE k sc N q))
 |.len a,sc,N,x=>xC1 "len" sc x (mE a sc N)
 |.toInt a,sc,N,x=>xC1 "int" sc x (mE a sc N)
 |.list a,sc,N,x=>xC1 "list" sc x (mE a sc N)
 |.tuple a,sc,N,x=>xC1 "tuple" sc x (mE a sc N)
 |.max a b,sc,N,x=>xC2 "max" sc x λp q=>mE a sc N p&&mE b sc N q
 |.min a b,sc,N,x=>xC2 "min" sc x λp q=>mE a sc N p&&mE b sc N q
 |.lzip a b,sc,N,x=>xC1 "list" sc x λz=>xC2 "zip" sc z λp q=>mE a sc N p&&mE b sc N q
 |.call f es,sc,N,x=>xG f sc x λl=>okN f&&(!isM f&&(!l.isEmpty&&mEs es sc N l))
 |.calln f es,sc,N,x=>xG f sc x λl=>okN f&&(!isM f&&(!l.isEmpty&&mEs es sc N l))
 |.gf f,sc,_,x=>Q9 x f&&(glb sc f&&(okN f&&!isM f))
 |.callx c es,sc,N,x=>xCl x λf l _=>xS f (λp q s=>mE c sc N (.Subscript p q s))&&(!l.isEmpty&&mEs es sc N l)
 |.callv i es,sc,N,x=>xCl x λf l _=>xN f (λy _=>(N[i]?==AA y)&&(ae0 sc y&&okN y))&&(!l.isEmpty&&mEs es sc N l)
 |.isT t a,sc,N,x=>xC2 "isinstance" sc x λp g=>Q9 g (Aa t)&&(glb sc (Aa t)&&(M8.contains t&&mE a sc N p))
 |.cmpl ne a b,sc,N,x=>xCo x λq p r=>(q==(if ne then CmpOp.NotEq else .Eq))&&(mE a sc N p&&mE b sc N r)
 |.fld a f,sc,N,x=>xA x λo g _=>(g==f)&&(N9 o&&mE a sc N o)
 |.methd a m es,sc,N,x=>xM m x λo l=>(N9 o&&mE a sc N o)&&(!l.isEmpty&&(mEs es sc N l&&AB (l.length<29)))
 |.meth a m es,sc,N,x=>xM m x λo l=>(N9 o&&mE a sc N o)&&(mEs es sc N l&&AB (l.length<29))
 |.make c es,sc,N,x=>xG c sc x λl=>okN c&&mEs es sc N l
 |.app a b,sc,N,x=>xM1 "append" x (mE a sc N) (mE b sc N)
 |.ext a b,sc,N,x=>xM1 "extend" x (mE a sc N) (mE b sc N)
 |.popAt a b,sc,N,x=>xM1 "pop" x (mE a sc N) (mE b sc N)
 |.pop a,sc,N,x=>xM0 "pop" x (mE a sc N)
 |.any a,sc,N,x=>xC1 "any" sc x (mE a sc N)
 |.dnt,sc,N,x=>xD x λl r _=>l.isEmpty&&r.isEmpty
 |.dgt a b,sc,N,x=>xM1 "get" x (mE a sc N) (mE b sc N)
 |.din ne a b,sc,N,x=>xCo x λq p r=>(q==(if ne then Hq else .In))&&(mE a sc N p&&mE b sc N r)
 |.lrev a,sc,N,x=>xM0 "reverse" x (mE a sc N)
 |.gc g,sc,_,x=>Q9 x g&&(glb sc g&&okN g)
 |.comp Nc fr k t it c e,sc,N,x=>xLC x λel g scope _=>l1 g λg=>(g.is_async==0)&&(W9 sc scope N Nc fr k&&(mIt it sc N g.target g.iter&&(mTg AE t (as1 scope sc) Nc g.target&&(mE e (as1 scope sc) Nc el&&cE c (mE c (as1 scope sc) Nc) g.ifs))))
noncomputable def mEs:Es->BH->List Str->List AT->Bool
 |.nil,_,_,xs=>xs.isEmpty
 |.cons e r,sc,N,xs=>Ds (motive:=λ_=>Bool) xs AE λx xs=>mE e sc N x&&mEs r sc N xs
noncomputable def mIt:It->BH->List Str->AT->AT->Bool
 |.seq e,sc,N,_,x=>mE e sc N x
 |.rng a,sc,N,_,x=>xC1 "range" sc x (mE a sc N)
 |.rng2 a b,sc,N,_,x=>xC2 "range" sc x λp q=>mE a sc N p&&mE b sc N q
 |.enum e,sc,N,tg,x=>xT tg (λ_ _ _=>AD)&&xC1 "enumerate" sc x (mE e sc N)
 |.revt e,sc,N,_,x=>xC1 "reversed" sc x (mE e sc N)
 |.rev e,sc,N,_,x=>xC1 "reversed" sc x (mE e sc N)
end
structure XOk(Z:Sg)(X:Cx):Prop where
 calm:X.calm=AD
 xe:X.xe=λ_ _=>False
 units:X.A.units+200<Bw
 nd:X.N.Nodup
 blt:∀b∈S5,X.mg b=AF
 fns:∀f,isM f=AE->Z.F f=AD->FOk X f (Z.Phi f)
 fnd:∀f,isM f=AE->Z.F f=AD->t4 Z.C f=AA 0->∃k a fd ps,FnOk X.prog X.w X.K X.mg X.base CX0 k a fd ps (z4 X.K (Z.Phi f))/\Room k X.A/\X.mg f=AA (.ref a)/\Bh X.K (.ref a)=AD/\p7 X.K fd ps [.none]
 nom:∀f fa,Z.F f=AD->Ay X.K AO f=AA (AA (.ref fa))->isM f=AE
 cls:∀f c Ca,Ay X.K AO c=AA (AA (.ref Ca))->f∈Z.C c->Cls X.K Ca/\G0 X.K Ca f
 mth:∀m c Ca,Ay X.K AO c=AA (AA (.ref Ca))->Z.F (f6 c m)=AD->∃k f fd ps,Cls X.K Ca/\Meth X.K Ca m f/\FnOk X.prog X.w X.K X.mg X.base CX0 k f fd ps (z4 X.K (Z.Phi (f6 c m)))/\Room k X.A/\p7 X.K fd ps []
 mthd:∀m c Ca i,Ay X.K AO c=AA (AA (.ref Ca))->Z.F (f6 c m)=AD->t4 Z.C (f6 c m)=AA i->∃k f fd ps tk,Cls X.K Ca/\Meth X.K Ca m f/\FnOk X.prog X.w X.K X.mg X.base CX0 k f fd ps (z4 X.K (Z.Phi (f6 c m)))/\Room k X.A/\p7 X.K fd ps [.int i tk]
 mks:∀c,Z.MF (f6 c "__init__")=AD->∃Ca k f fd ps,Ay X.K AO c=AA (AA (.ref Ca))/\Mk X.K Ca f/\FnOk X.prog X.w X.K X.mg X.base CX0 k f fd ps (z4 X.K (Z.Mk (f6 c "__init__")))/\Room (k+1) X.A/\X.mg c=AA (.ref Ca)/\p7 X.K fd ps []
 tabs:∀g,Z.G g≠[]->GTab X.prog X.w X.K X.mg g (Z.G g)
 cst:∀g d,Z.Kc g=AA d->∃u,X.mg g=AA u/\J7 X.K d u=AD
 isc:∀c∈Z.C "!is",∃Ca,X.mg c=AA (.ref Ca)/\IscOk X.K c Ca
 kt:Tbs.kt=(Z.C "!kt").isEmpty
 lam:X.N.contains t5=AD->LamOk X/\∀x,X.N.contains (z7 x)=AD->X.fn x=AE/\X.ow x=AD
 mtE:∀(e:E)(sc:BH)(N:List Str)(x:AT),mE e sc N x=AD->N.contains t5=AE->Tbs.mt (.cons (.ret e) .nil) sc N (.expr x)
 clo:∀np N b cs fa fd ps,CloF fd np N ps b->∃k,FnOk X.prog X.w X.K X.mg X.base CX0 k fa fd ps (Y3 X.K fa fd np N cs (Z.PhiC np N b cs))/\Room k X.A
end Ek
namespace Ek
open PySem PySem.Spec PyProof.Rows L2
variable [Tbs]
variable{x:AT}{Z:Sg}{X:Cx}{f:Str}{scope:BH}{Nc:List Str}{fr:List Nat}
structure Snd(Z:Sg)(X:Cx)(e:E)(x:AT):Prop where
 v:PE X x (up X.K (wpE Z e))
 t:C8 x=AD->PT X x (upB X.K (wpT Z e))
 w:∀op vs p,x=.BoolOp op vs p->PW X x (upB X.K (wpT Z e))
 st:∀y p,x≠.Starred y p
 sl:∀l u s p,x≠.Slice l u s p
 se:∀l k p,x≠.Set l k p
def as6(h:be1 x=AD):(∀y p,x≠.Starred y p)/\(∀l u s p,x≠.Slice l u s p)/\(∀l k p,x≠.Set l k p):=
 ⟨λ_ _ z=>(by rw[z]at h;cases h),λ_ _ _ _ z=>(by rw[z]at h;cases h),λ_ _ _ z=>(by rw[z]at h;cases h)⟩
def Snd.plain{e:E}(f:PE X x (up X.K (wpE Z e)))(hi:∀a,Ho x X.env a=(do let v <-a;Hd x.pos;holding [v] (truthy v)))(c:be1 x=AD)(g:∀op b p,x≠.BoolOp op b p):Snd Z X e x:=
 ⟨f,λ_=>c15 f hi,λop b p z=>absurd z (g op b p),(as6 c).1,(as6 c).2.1,(as6 c).2.2⟩
abbrev cv8(x:AT):Bool:=[2,4,6,8,16,19,20,21,23,24,25].contains x.ctorIdx
def Snd.pl{e:E}(b:PE X x (up X.K (wpE Z e)))(h:cv8 x=AD):Snd Z X e x:=by
 cases x<;>first|exact(AI h).elim|exact Snd.plain b (λ_=>rfl) rfl (by intros;exact nofun)
def t0(h:glb X.env.scope f=AD):Gl X f:=by
 have:X.env.scope.names.lookup f=AA .globalImplicit:=by simpa[glb]using h
 exact this
def bd6{a:BH}(h:ae0 a f=AD):Vis a f:=by
 unfold ae0 at h
 split at h
 ·exact .inl (by assumption)
 ·exact .inr (.inl (by assumption))
 ·exact .inr (.inr (by assumption))
 ·cases h
def T6{a:BH}(h:L0 a f=AD):Loc a f:=by
 unfold L0 at h
 split at h
 ·exact .inl (by assumption)
 ·exact .inr (by assumption)
 ·cases h
def D3{x:Str}(h:okN x=AD):(x==("__debug__":Str))=AE/\(x==("__classdict__":Str))=AE:=by
 simpa[okN]using h
def K9{o:AT}(h:N9 o=AD):∀i p a,o≠.Call (.Name i p) [] [] a:=λ_ _ _ z=>by rw[z]at h;cases h
def XOk.blt'(h:XOk Z X)(b:Str)(a:S5.contains b=AD:=by decide):X.mg b=AF:=h.blt b (by simpa using a)
def XOk.pass(h:XOk Z X):HB (model X.prog X.w) X.A X.env X.xe:=by rw[h.xe];exact PassesOwn.never
def ad1{ow:Bool}{t:Tg}(D:X.calm=AD)(w:X.N.Nodup)(o:ow=AD->∀y,Loc X.env.scope y->X.N.contains (z7 y)=AE->X.fn y=AD\/X.env.scope.names.lookup y=AA .local)(h:mTg ow t X.env.scope X.N x=AD):PG X x (upG X.K t):=by
 have l:∀(i:Nat)(y:Str)(p:Pos),((X.N[i]?==AA y)&&L0 X.env.scope y&&((ow&&!(X.N.contains (z7 y)))||lcl X.env.scope y))=AD->X.N[i]?=AA y/\Loc X.env.scope y/\(X.fn y=AD\/X.env.scope.names.lookup y=AA .local):=λi y p h=>by
  simp only[BJ,beq_iff_eq,JU,Go]at h;refine⟨h.1.1,T6 h.1.2,?_⟩
  rcases h.2 with z|z
  ·exact o z.1 y (T6 h.1.2) z.2
  ·exact .inr (by simpa[lcl]using z)
 cases t with
 |n i=>
  refine xN_ (C:=λx=>PG X x (upG X.K (.n i))) h λy p h=>?_;obtain⟨a,b,c⟩:=l _ _ p h;exact cd2 w a b c
 |tup f=>
  refine xT_ (C:=λx=>PG X x (upG X.K (.tup f))) h λes k p h=>?_;obtain⟨j,E⟩:=an h;have v:∀(f:List Nat)(es:List AT),f.length=es.length->((f.zip es).all λp=>xN p.2 λy _=>(X.N[p.1]?==AA y)&&L0 X.env.scope y&&((ow&&!(X.N.contains (z7 y)))||lcl X.env.scope y))=AD->PGs X es (Y7 f)/\(Bx es X.env).length=f.length/\(Bx es X.env).findIdx? (·.1)=AF:=by
   intro f
   induction f with
   |nil=>
    intro es j _;cases es with
    |nil=>exact⟨b55,rfl,rfl⟩
    |cons a b=>cases j
   |cons i f B=>
    intro es j h;cases es with
    |nil=>cases j
    |cons e es=>
     obtain⟨q,F⟩:=an h;obtain⟨u,s,r⟩:=B es (Gy j) F;refine xN_ (C:=λe=>PGs X (e::es) (Y7 (i::f))/\(Bx (e::es) X.env).length=(i::f).length/\(Bx (e::es) X.env).findIdx? (·.1)=AF) q λy py q=>?_;obtain⟨a,b,c⟩:=l i y py q;refine⟨b16 (ba3 w a b c) u rfl,congrArg (·+1) s,?_⟩;show List.findIdx? _ ((AE,assign (.Name y py) X.env)::Bx es X.env)=AF;rw[List.findIdx?_cons];simp only[BE,if_false];rw[r];rfl
  obtain⟨u,s,r⟩:=v f es (beq_iff_eq.1 j) E;exact cs2 D u s r
def az0{k:Nat}(h:W9 X.env.scope scope X.N Nc fr k=AD):CompScope X scope Nc fr k:=by
 unfold W9 at h;simp only[BJ,beq_iff_eq,decide_eq_true_eq,Dy]at h;obtain⟨⟨⟨⟨⟨⟨⟨⟨r,p⟩,o⟩,m⟩,l⟩,g⟩,_⟩,f⟩,e⟩:=h;refine⟨r,λy hy=>?_,λy hy hl=>?_,λy hy hf=>?_,λy hy hf b=>?_,g,f,λi x hx hi=>?_⟩
 ·simpa using p y hy
 ·have:=o y hy;rw[hl]at this;simpa using this
 ·have:=m y hy;rw[hf]at this;simpa using this
 ·have:=l y hy;rw[hf]at this;have:(scope.names.any λz=>z.1==y.1&&z.2==.local)=AE:=by simpa using this
  rw[Gg]at this;exact absurd ∎ (this _ b)
 ·have:=e i (by simpa using hi);rw[hx]at this;cases q:fr[i]? with
  |none=>rw[q]at this;cases this
  |some j=>
   rw[q]at this;simp only[BJ,beq_iff_eq,HV]at this;obtain⟨a,⟨n,s⟩,b,d,c⟩:=this;simp only at d c;subst d c;exact⟨j,rfl,a,b⟩
def aa5{k:Nat}(h:W9 X.env.scope scope X.N Nc fr k=AD):Nc.contains t5=AE:=by
 unfold W9 at h;simp only[BJ,Go]at h;exact h.1.1.2
theorem XOk.comp{k:Nat}(h:XOk Z X)(o:Nc.contains t5=AE)(S:CompScope X scope Nc fr k)(C:AH)(p:List AH)(e:List (AH×Obj))(s:AK)(H:Hp):XOk Z (X.comp scope Nc C p e s H) where
 calm:=h.calm
 xe:=rfl
 units:=h.units
 nd:=S.nd
 blt:=h.blt
 fns:=λf hm hf=>let⟨k,a,l,j,x⟩:=(h.fns f hm hf).ex;⟨k,a,l,j,x⟩
 fnd:=λf hm hf hd=>h.fnd f hm hf hd
 nom:=λf fa a b=>h.nom f fa a b
 cls:=λf c Ca a b=>h.cls f c Ca a b
 mth:=λm c Ca a b=>h.mth m c Ca a b
 mthd:=λm c Ca i a b d=>h.mthd m c Ca i a b d
 mks:=λc a=>h.mks c a
 tabs:=λg hg=>⟨(h.tabs g hg).ex⟩
 lam:=λz=>by
  have n:Nc.contains t5=AD:=z;rw[o]at n;cases n
 cst:=h.cst
 isc:=h.isc
 kt:=h.kt
 mtE:=h.mtE
 clo:=λnp N b cs fa l j cf=>h.clo np N b cs fa l j cf
theorem fmc{b c:Type}{f g:b->Option c}:∀{l:List b},(∀n∈l,f n=g n)->l.filterMap f=l.filterMap g
 |[],_=>rfl
 |a::l,h=>by rw[DZ,DZ,h a (.head _),fmc λn hn=>h n (.tail _ hn)]
theorem a79:∀(b:List Str)(c:List AG),b.Nodup->c.length=b.length->(b.filterMap λn=>((b.zip c).lookup n).map (n,·))=b.zip c/\∀n∈b,((b.zip c).lookup n).isNone=AE
 |[],c,_,_=>⟨rfl,nofun⟩
 |a::b,u::c,d,f=>by
  obtain⟨h,g⟩:=a79 b c (BP.1 d).2 (Gy f);refine⟨?_,λn hn=>?_⟩
  ·rw[GP,DZ,Dw,beq_self_eq_true];refine congrArg ((a,u)::·) (KM (fmc λn hn=>?_) h);rw[Dw,beq_false_of_ne λe:n=a=>(BP.1 d).1 (e▸hn)]
  ·rw[GP,Dw];cases e:n==a with
   |true=>rfl
   |false=>exact g n ((AN.1 hn).resolve_left λz=>by rw[z,beq_self_eq_true]at e;cases e)
def fz{b a c:Type}{z:List b}{i:a}{f:b->a->Sem (ForInStep a)}{g:a->Sem c}(hz:z=[]):(forIn z i f>>=g)=g i:=by subst hz;rfl
def c07(name a:Str)(l:List Arg)(k:De)(scope:BH)(cl:List (Str×AH))(b f m o:AG)(us:List AG)(h:us.length=(l.map EQ).length)(g:(l.map EQ).Nodup):EU (G7 name a ⟨[],l,AF,[],[],AF,[]⟩ k scope cl b f m o) ⟨us,[]⟩=pure ((l.map EQ).zip us):=by
 obtain⟨e,d⟩:=a79 (l.map EQ) us g h;have j:¬(AB (us.length>(l.map EQ).length)&&AD)=AD:=by rw[h];simp
 have c:(LV (0-(l.map EQ).length) ([]:List AG))=[]:=List.drop_nil;have i:¬(!(((l.map EQ).take ((l.map EQ).length-(LV (0-(l.map EQ).length) ([]:List AG)).length)).filter (λn=>(((l.map EQ).zip us).lookup n).isNone)).isEmpty)=AD:=by
  rw[c,Ao,Ki,JV,List.filter_eq_nil_iff.2 λn hn=>by rw[d n hn];exact AI];exact AI
 unfold EU;refine(if_neg j).trans ((if_neg i).trans ((fz ?_).trans ?_))
 ·exact(congrArg _ c).trans List.zip_nil_right
 ·exact congrArg (pure:List (Str×AG)->Sem _) ((congrArg _ (BZ _)).trans e)
theorem bl4(env:Env):∀l:List Arg,(l.all λa=>a.annotation.isNone)=AD->annotationsOf (l++[]++[]++[]++[]) env=[]
 |[],_=>rfl
 |⟨_,AF,_⟩::l,h=>bl4 env l h
def bq5{p:DE}{f:List Str}(h:aa7 p=AA f):p.defaults=[]/\p.kw_defaults=[]/\(∀env,defaultsOf p env=([],[]))/\(∀env,annTrees p AF env=[]) /\
  ∀(e d:Str)(u:De)(b:BH)(x:List (Str×AH))(g i v w:AG)(c:List AG),c.length=f.length->EU (G7 e d p u b x g i v w) ⟨c,[]⟩=pure (f.zip c):=by
 obtain⟨z,l,y,A,B,C,D⟩:=p;unfold aa7 at h
 split at h
 ·rename_i j;cases h;obtain⟨⟨⟨⟨⟨⟨⟨⟨⟨t,s⟩,r⟩,q⟩,o⟩,n⟩,m⟩,k⟩,_⟩,_⟩:=by simpa only[BJ,JW,Option.isNone_iff_eq_none,decide_eq_true_eq]using j
  subst t s r q o n;exact⟨rfl,rfl,λ_=>rfl,λenv=>(BZ _).trans (bl4 env l m),λ_ _ _ _ _ _ _ _ _ c hl=>c07 _ _ l _ _ _ _ _ _ _ c hl k⟩
 ·cases h
def b59{e:DE}{s:De}{w:Nat}{v o:List Str}{u:List Nat}{b:Ss}(h:aq7 X.env.scope X.N scope v o w u=AD)(F:∀x,X.N.contains (z7 x)=AD->X.fn x=AE/\X.ow x=AD)(C:Tbs.mt b scope v s)
  (n:∀(g f:Str)(U:List (Str×AH))(t B S T:AG)(q:List AG),q.length=o.length->EU (G7 g f e s scope U t B S T) ⟨q,[]⟩=pure (o.zip q)):NestOk X e s scope w v o u b:=by
 unfold aq7 at h;simp only[BJ,beq_iff_eq,Go,decide_eq_true_eq,Dy]at h;obtain⟨⟨⟨⟨⟨⟨⟨⟨⟨P,O⟩,M⟩,L⟩,K⟩,J⟩,I⟩,H⟩,G⟩,r⟩:=h;have l:∀x,(x,BA)∈scope.names->scope.names.lookup x=AA .free/\X.env.scope.names.lookup x=AA .cell/\X.N.contains (z7 x)=AD/\∃i:Nat,∃j:Nat,u[i]?=AA j/\X.N[j]?=AA x:=λx m=>by
  have:=G _ m;simp only[beq_self_eq_true,EK,HP,BJ,beq_iff_eq,HV]at this;obtain⟨⟨⟨a,b⟩,c⟩,i,_,d⟩:=this;refine⟨a,b,c,i,?_⟩
  split at d
  ·rename_i j p;exact⟨j,p,by simpa using d⟩
  ·cases d
 refine⟨⟨O,M,L,K,J,I,λy hy=>by simpa using H y hy,λy hy hk=>?_⟩,P,C,n,λi j p=>?_,λx m=>?_⟩
 ·obtain⟨y,k⟩:=y;simp only at hk;subst hk;exact(l y hy).1
 ·have E:=(AY.mp p).1;have:=r i (by simpa using E);rw[p]at this;simp only at this
  split at this
  ·rename_i x m;simp only[BJ,beq_iff_eq,HV]at this;obtain⟨a,⟨y,k⟩,D,A,z⟩:=this;simp only at A z;subst A z;exact⟨_,m,a,D⟩
  ·cases this
 ·obtain⟨a,b,c,i,j,R,Q⟩:=l x m;exact⟨⟨i,j,R,Q⟩,b,F x c⟩
end Ek
namespace Ek
open PySem PySem.Spec PyProof.Rows L2
variable [Tbs]
variable{X:Cx}{Z:Sg}{e:E}{l:List AT}
structure SndA(Z:Sg)(X:Cx)(es:Es)(xs:List AT):Prop where
 a:PA X xs (upA X.K es.len (u0 Z es))
 pl:∀pos:Pos,(Bv pos (Am xs X.env)).any (·.1)=AE
def be7{o:LU}{q:AT}{a:Pos}{t:DT}(h:PT X q (upB X.K (tst t))):PW X (.BoolOp o [q] a) (upB X.K (tst t)):=by
 cases o with
 |And=>exact b61 h
 |Or=>exact co1 h
def b37:∀(e:E)(a:BH)(N:List Str)(l:List AT)(k:Nat)(p:Pos),mE e a N (.Set l k p)=AE:=by
 intro e a N l k p;cases e<;>rfl
def cc3{t:String}(h:t∈M8):BG (Aa t)=AA (.type t)/\Aa t≠"__name__"/\(Aa t==("__debug__":Str))=AE/\S5.contains (Aa t)=AD:=by
 simp only[M8,AN,AZ,or_false]at h
 rcases h with rfl|rfl|rfl|rfl|rfl<;>exact⟨by decide+kernel,∅,∅,∅⟩
def ar8{env:Env}{it:It}{a:BH}{N:List Str}{c x:AT}(h:mIt it a N c x=AD):∀v,Da x env v=pure v:=by
 have f:∀l k p,x≠.Set l k p:=λl k p z=>by
  subst z;cases it with
  |seq e=>exact(AI ((b37 e a N l k p).symm.trans h)).elim
  |enum e=>exact(AI (an h).2).elim
  |_=>exact(AI h).elim
 intro v;cases x<;>first|rfl|exact absurd rfl (f _ _ _)
def T4{K:AQ}{t t':DT}{c:L2.St}{H:Hp}{Q:VK}(h:∀a b Q,t a b Q->t' a b Q)(q:up K t c H Q):up K t' c H Q:=by
 obtain⟨a,b,i,g,f,d,e⟩:=q;exact⟨a,b,i,g,f,h _ _ _ d,e⟩
def ad2{x:AT}{P:Prop}(h:¬P)(w:∀a b Q,wpE Z e a b Q->P):PE X x (up X.K (wpE Z e)):=λ_ _ _ _ _ _ q=>by
 obtain⟨a,b,_,_,_,c,_⟩:=q;exact absurd (w a b _ c) h
def ad6{lo:E}{l:Option AT}(h:oE lo (mE lo X.env.scope X.N) l=AD)(H:∀x,mE lo X.env.scope X.N x=AD->Snd Z X lo x):PO X l (upO X.K λenv st k=>(if lo.isNon=AD then λk=>k AF st else λ(k:Option Int->Sto->Prop)=>wpE Z lo env st λd st'=>∃i,d=.int i/\k (AA i) st') k):=by
 cases l with
 |none=>rw[show lo.isNon=AD from h];exact ce5
 |some l=>
  obtain⟨b,a⟩:=an h;rw[show lo.isNon=AE from nt b];exact cb4 (H l a).v
def bk7{c:E}(h:cE c (mE c X.env.scope X.N) l=AD)(H:∀x,mE c X.env.scope X.N x=AD->Snd Z X c x):PCs X l (upB X.K (if c.isNon=AD then λ_ st Q=>Q AD st else λenv st Q=>wpE Z c env st λd st'=>∃b,d=.bl b/\Q b st')):=by
 cases l with
 |nil=>
  rw[show c.isNon=AD from h];exact λpins' s' σ' H' Q' I'⟨env,st,Qd,hE,hS,ht,hq⟩=>cf6 pins' s' σ' H' Q' I' (hq AD H' st Ev.refl hS ht)
 |cons a l=>
  refine l1_ (C:=λl=>PCs X l _) (show l1 (a::l) (λx=>!c.isNon&&(C8 x&&mE c X.env.scope X.N x))=AD from h) λx h=>?_;obtain⟨i,e⟩:=an h;rw[show c.isNon=AE from nt i];exact b82 ((H x (an e).2).t (an e).1)
def mcF{a:Pos}(b:(Bv a (Am l X.env)).any (·.1)=AE)(h:l.length<29):EX (l.length+0) (Bv a (Am l X.env)) (FA a (DV [] X.env))=AD:=by
 unfold EX;rw[show(Bv a (Am l X.env)).all (λx=>!x.1)=AD from by
  rw[Dy];intro w c;rw[Gg]at b;simpa using b w c]
 exact decide_eq_true (Ix h)
def Snd.cm{a:AT}{o:List Dn}{b:List AT}{p:Pos}(d:PE X (.Compare a o b p) (up X.K (wpE Z e)))(c:PT X (.Compare a o b p) (upB X.K (wpT Z e))):Snd Z X e (.Compare a o b p):=⟨d,λ_=>c,nofun,nofun,nofun,nofun⟩
def Snd.bo{o:LU}{b:List AT}{p:Pos}(c:PE X (.BoolOp o b p) (up X.K (wpE Z e)))(a:PW X (.BoolOp o b p) (upB X.K (wpT Z e))):Snd Z X e (.BoolOp o b p):=⟨c,λ_=>a.pt,λ_ _ _ _=>a,nofun,nofun,nofun⟩
def lb_{k:AT->AT->Bool}{m:AT->List AT->Bool}{C:List AT->Prop}(h:lb l k m=AD)(H:∀p q,k p q=AD->C [p,q])(J:∀p q r s,m p (q::r::s)=AD->C (p::q::r::s)):C l:=
 match l,h with
 |[p,q],h=>H p q h
 |p::q::r::s,h=>J p q r s h
def XOk.fnx(g:XOk Z X)(f:Str)(e:AH)(h:Z.F f=AD)(b:Ay X.K AO f=AA (AA (.ref e))):∃k d c,FnOk X.prog X.w X.K X.mg X.base CX0 k e d c (z4 X.K (Z.Phi f))/\Room k X.A/\Bh X.K (.ref e)=AD/\p7 X.K d c []:=by
 obtain⟨k,a,d,c,F,i,n,l,m,j⟩:=(g.fns f (g.nom f e h b) h).ex;rw[j]at b;cases b;exact⟨k,d,c,F,i,l,m⟩
mutual
theorem f9(Z:Sg):∀(e:E)(X:Cx)(x:AT),XOk Z X->mE e X.env.scope X.N x=AD->Snd Z X e x
 |.non,X,x,hX,h=>V8 h λn p=>Snd.pl (by exact ad4 cp2 λ_=>.non) rfl
 |.bl b,X,x,hX,h=>V8 h λn p=>Snd.pl (by exact ad4 c69 λ_=>.bl _) rfl
 |.int i,X,x,hX,h=>V8 h λn p=>Snd.pl (by exact ad4 cn4 λ_=>.int _) rfl
 |.str y,X,x,hX,h=>V8 h λn p=>Snd.pl (by exact ad4 cm4 λ_=>.str _) rfl
 |.v i,X,x,hX,h=>xN_ h λy p h=>Snd.pl (by exact cj1 (beq_iff_eq.1 (an h).1) (bd6 (an (an h).2).1) (D3 (an (an h).2).2).1 (D3 (an (an h).2).2).2) rfl
 |.tup es,X,x,hX,h=>xT_ h λl n p h=>Snd.pl (by exact cv5 (C4 Z es X _ hX (an h).1).a (of_decide_eq_true (an h).2)) rfl
 |.lst es,X,x,hX,h=>xL_ h λl p h=>Snd.pl (by exact cn0 (C4 Z es X _ hX (an h).1).a (of_decide_eq_true (an h).2)) rfl
 |.bin o a b,X,x,hX,h=>da2 h λp q r ps h=>by
  cases beq_iff_eq.1 (an h).1;exact Snd.pl (by exact ck0 (f9 Z a X _ hX (an (an h).2).1).v (f9 Z b X _ hX (an (an h).2).2).v) rfl
 |.neg a,X,x,hX,h=>xU_ h λo p ps h=>by
  cases beq_iff_eq.1 (an h).1;exact Snd.plain (by exact ck5 (f9 Z a X _ hX (an h).2).v) (λ_=>rfl) rfl (by intros;exact nofun)
 |.cmp o a b,X,x,hX,h=>Y6 h λq p r ps h=>by
  cases beq_iff_eq.1 (an h).1;have ia:=f9 Z a X _ hX (an (an h).2).1;have ib:=f9 Z b X _ hX (an (an h).2).2;exact Snd.cm (by exact cr1 hX.units ia.v ib.v ib.se) (by unfold wpT;exact cn7 hX.units ia.v ib.v ib.se)
 |.isN a,X,x,hX,h=>Y6 h λq p r ps h=>by
  cases beq_iff_eq.1 (an h).1;refine V8 (C:=λr=>Snd Z X (.isN a) (.Compare p [.Is] [r] ps)) (an (an h).2).1 λn pp=>?_;have ia:=f9 Z a X _ hX (an (an h).2).2;exact Snd.cm (by exact ch7 ia.v) (by unfold wpT;exact cl0 ia.v)
 |.notN a,X,x,hX,h=>Y6 h λq p r ps h=>by
  cases beq_iff_eq.1 (an h).1;refine V8 (C:=λr=>Snd Z X (.notN a) (.Compare p [.IsNot] [r] ps)) (an (an h).2).1 λn pp=>?_;have ia:=f9 Z a X _ hX (an (an h).2).2;exact Snd.cm (by exact b83 ia.v) (by unfold wpT;exact cc5 ia.v)
 |.and a b,X,x,hX,h=>bk5 h λo l ps h=>by
  cases beq_iff_eq.1 (an h).1;refine lb_ (C:=λl=>Snd Z X (.and a b) (.BoolOp .And l ps)) (an h).2 (λp q h=>?_) λp q r j8 h=>?_
  ·have ia:=f9 Z a X _ hX (an (an (an h).1).1).1;have ib:=f9 Z b X _ hX (an (an (an h).1).1).2;exact Snd.bo (by exact bg7 ia.v (bf5 ib.v)) (by unfold wpT;exact bg6 (ia.t (an (an h).1).2) (be7 (ib.t (an h).2)))
  ·have ia:=f9 Z a X _ hX (an (an h).1).1;have ib:=f9 Z b X _ hX (an (an h).1).2;exact Snd.bo (by exact bg7 ia.v ib.v) (by unfold wpT;exact bg6 (ia.t (an h).2) (ib.w _ _ _ rfl))
 |.or a b,X,x,hX,h=>bk5 h λo l ps h=>by
  cases beq_iff_eq.1 (an h).1;refine lb_ (C:=λl=>Snd Z X (.or a b) (.BoolOp .Or l ps)) (an h).2 (λp q h=>?_) λp q r j8 h=>?_
  ·have ia:=f9 Z a X _ hX (an (an (an h).1).1).1;have ib:=f9 Z b X _ hX (an (an (an h).1).1).2;exact Snd.bo (by exact bk2 ia.v (bf5 ib.v)) (by unfold wpT;exact bj1 (ia.t (an (an h).1).2) (be7 (ib.t (an h).2)))
  ·have ia:=f9 Z a X _ hX (an (an h).1).1;have ib:=f9 Z b X _ hX (an (an h).1).2;exact Snd.bo (by exact bk2 ia.v ib.v) (by unfold wpT;exact bj1 (ia.t (an h).2) (ib.w _ _ _ rfl))
 |.not a,X,x,hX,h=>xU_ h λo p ps h=>by
  cases beq_iff_eq.1 (an h).1;have ia:=f9 Z a X _ hX (an (an h).2).1;exact⟨by exact co5 ia.v,λ_=>(by unfold wpT;exact cp7 (ia.t (an (an h).2).2)),nofun,nofun,nofun,nofun⟩
 |.ite c a b,X,x,hX,h=>de3 h λp q r ps h=>
  ⟨by exact ck8 ((f9 Z c X _ hX (an (an h).1).1).t (an (an h).1).2) (f9 Z a X _ hX (an (an h).2).1).v (f9 Z b X _ hX (an (an h).2).2).v,nofun,nofun,nofun,nofun,nofun⟩
 |.ix a b,X,x,hX,h=>xS_ h λp q ps h=>
  have ib:=f9 Z b X _ hX (an h).2
  Snd.pl (by exact cw2 hX.units (f9 Z a X _ hX (an h).1).v ib.v ib.sl) rfl
 |.sl a lo hi,X,x,hX,h=>xS_ h λp s ps h=>bk6 (C:=λs=>Snd Z X (.sl a lo hi) (.Subscript p s ps)) (an h).2 λl u st p2 h2=>by
  cases st with
  |some _=>exact(AI h2).elim
  |none=>exact Snd.pl (by exact c30 (f9 Z a X _ hX (an h).1).v (ad6 (an (an h2).2).1 λx=>f9 Z lo X x hX) (ad6 (an (an h2).2).2 λx=>f9 Z hi X x hX)) rfl
 |.slw a lo hi,X,x,hX,h=>xS_ h λp s ps h=>bk6 (C:=λs=>Snd Z X (.slw a lo hi) (.Subscript p s ps)) (an h).2 λl u st p2 h2=>by
  cases st with
  |some _=>exact(AI h2).elim
  |none=>exact Snd.pl (by exact co6 (f9 Z a X _ hX (an h).1).v (ad6 (an (an h2).2).1 λx=>f9 Z lo X x hX) (ad6 (an (an h2).2).2 λx=>f9 Z hi X x hX)) rfl
 |.gget g k d,X,x,hX,h=>xM_ h λo ap l cp hl h=>V3 (C:=λo=>Snd Z X (.gget g k d) (.Call (.Attribute o "get" ap) l [] cp)) (an h).1 λnp=>l2_ (C:=λl=>Snd Z X (.gget g k d) (.Call (.Attribute (.Name g np) "get" ap) l [] cp)) (an (an (an h).2).2).2 λp q h2=>
  have ik:=f9 Z k X _ hX (an h2).1;have id:=f9 Z d X _ hX (an h2).2
  Snd.pl (by exact b89 (hX.tabs g) (t0 (an (an h).2).1) ik.v id.v ik.st id.st hl (D3 (an (an (an h).2).2).1).1) rfl
 |.gsel g k,X,x,hX,h=>xS_ h λn q ps h=>V3 (C:=λn=>Snd Z X (.gsel g k) (.Subscript n q ps)) (an h).1 λnp=>
  have ik:=f9 Z k X _ hX (an (an (an h).2).2).2
  Snd.pl (by exact ca2 (hX.tabs g) (t0 (an (an h).2).1) ik.v ik.sl (D3 (an (an (an h).2).2).1).1) rfl
 |.len a,X,x,hX,h=>G5 h λq p ps h1 h2=>
  have ia:=f9 Z a X _ hX h2
  Snd.pl (by exact cs8 (t0 h1) (hX.blt' _) ia.v ia.st) rfl
 |.toInt a,X,x,hX,h=>G5 h λq p ps h1 h2=>
  have ia:=f9 Z a X _ hX h2
  Snd.pl (by exact b49 (t0 h1) (hX.blt' _) ia.v ia.st) rfl
 |.list a,X,x,hX,h=>G5 h λq p ps h1 h2=>
  have ia:=f9 Z a X _ hX h2
  Snd.pl (by exact cf8 (t0 h1) (hX.blt' _) ia.v ia.st) rfl
 |.tuple a,X,x,hX,h=>G5 h λq p ps h1 h2=>
  have ia:=f9 Z a X _ hX h2
  Snd.pl (by exact b09 (t0 h1) (hX.blt' _) ia.v ia.st) rfl
 |.max a b,X,x,hX,h=>Z9 h λq p r ps h1 h2=>
  have ia:=f9 Z a X _ hX (an h2).1;have ib:=f9 Z b X _ hX (an h2).2
  Snd.pl (by exact cr6 hX.calm (t0 h1) (hX.blt' _) ia.v ib.v ia.st ib.st) rfl
 |.min a b,X,x,hX,h=>Z9 h λq p r ps h1 h2=>
  have ia:=f9 Z a X _ hX (an h2).1;have ib:=f9 Z b X _ hX (an h2).2
  Snd.pl (by exact cp0 hX.calm (t0 h1) (hX.blt' _) ia.v ib.v ia.st ib.st) rfl
 |.lzip a b,X,x,hX,h=>G5 h λq z ps h1 h=>Z9 (C:=λz=>Snd Z X (.lzip a b) (.Call (.Name "list" q) [z] [] ps)) h λq2 p r ps2 h2 h3=>
  have ia:=f9 Z a X _ hX (an h3).1;have ib:=f9 Z b X _ hX (an h3).2
  Snd.pl (by exact b56 hX.calm (t0 h1) (hX.blt' _) (t0 h2) (hX.blt' _) ia.v ib.v ia.st ib.st) rfl
 |.call f es,X,x,hX,h=>xG_ h λq l ps h1 h=>by
  cases l with
  |nil=>exact(AI (an (an (an h).2).2).1).elim
  |cons y ys=>cases es with
   |nil=>exact(AI (an (an (an h).2).2).2).elim
   |cons e0 er=>
    have i0:=f9 Z e0 X _ hX (an (an (an (an h).2).2).2).1;have ir:=C4 Z er X _ hX (an (an (an (an h).2).2).2).2;refine Snd.pl ?_ rfl
    by_cases hF:Z.F f=AD
    ·obtain⟨k,a,fd,ps,F,hr,hm,hk,hb,_⟩:=(hX.fns f (nt (an (an h).2).1) hF).ex;exact PE.imp (cg4 F hr (t0 h1) hm hk hb (O8 i0.v ir.a i0.st) (D3 (an h).1).1 i0.st (ir.pl _)) λ_ _ _=>T4 λ_ _ _ ht=>ht.2
    ·exact ad2 hF λ_ _ _ ht=>ht.1
 |.calln f es,X,x,hX,h=>xG_ h λq l ps h1 h=>by
  cases l with
  |nil=>exact(AI (an (an (an h).2).2).1).elim
  |cons y ys=>cases es with
   |nil=>exact(AI (an (an (an h).2).2).2).elim
   |cons e0 er=>
    have i0:=f9 Z e0 X _ hX (an (an (an (an h).2).2).2).1;have ir:=C4 Z er X _ hX (an (an (an (an h).2).2).2).2;refine Snd.pl ?_ rfl
    by_cases hF:Z.F f=AD/\t4 Z.C f=AA 0
    ·obtain⟨k,a,fd,ps,F,hr,hm,hk,hb⟩:=hX.fnd f (nt (an (an h).2).1) hF.1 hF.2;exact PE.imp (b46 F hr (t0 h1) hm hk hb (O8 i0.v ir.a i0.st) (D3 (an h).1).1 i0.st (ir.pl _)) λ_ _ _=>T4 λ_ _ _ ht=>ht.2.2
    ·exact ad2 hF λ_ _ _ ht=>⟨ht.1,ht.2.1⟩
 |.gf f,X,x,hX,h=>V3 (C:=λx=>Snd Z X (.gf f) x) (an h).1 λp=>by
  refine Snd.pl ?_ rfl
  by_cases hF:Z.F f=AD
  ·obtain⟨k,a,fd,ps,F,hr,hm,hk,hb,hn⟩:=(hX.fns f (nt (an (an (an h).2).2).2) hF).ex;exact PE.imp (cx8 (t0 (an (an h).2).1) hm hn (D3 (an (an (an h).2).2).1).1) λ_ _ _=>T4 λ_ _ _ ht=>ht.2
  ·exact ad2 hF λ_ _ _ ht=>ht.1
 |.callx c es,X,x,hX,h=>ad8 h λf l ps h=>by
  refine xS_ (C:=λf=>Snd Z X (.callx c es) (.Call f l [] ps)) (an h).1 λp q sp h1=>?_;cases l with
  |nil=>exact(AI (an (an h).2).1).elim
  |cons y ys=>cases es with
   |nil=>exact(AI (an (an h).2).2).elim
   |cons e0 er=>
    have i0:=f9 Z e0 X _ hX (an (an (an h).2).2).1;have ir:=C4 Z er X _ hX (an (an (an h).2).2).2;refine Snd.pl ?_ rfl;exact b03 (F:=Z.F) (Ph:=Z.Phi) (f9 Z c X _ hX h1).v hX.fnx (O8 i0.v ir.a i0.st) i0.st (ir.pl _)
 |.gc g,X,x,hX,h=>V3 (C:=λx=>Snd Z X (.gc g) x) (an h).1 λp=>by
  refine Snd.pl ?_ rfl;cases hk:Z.Kc g with
  |none=>exact λ_ _ _ _ _ _⟨env,st,Qd,hE,hS,⟨i,hi,_⟩,hq⟩=>nomatch hk.symm.trans hi
  |some i=>
   obtain⟨t,hm,hv⟩:=hX.cst g i hk;obtain⟨v,rv,is⟩:=J7.is hv;exact PE.imp (bb3 (v:=v) (t0 (an (an h).2).1) hm rv (D3 (an (an h).2).2).1) λσ H Q q=>by
    obtain⟨env,st,Qd,hE,hS,⟨i',hi,ht⟩,hq⟩:=q;cases hk.symm.trans hi;exact hq.here (is H) hS ht
 |.callv i es,X,x,hX,h=>ad8 h λf l ps h=>by
  refine xN_ (C:=λf=>Snd Z X (.callv i es) (.Call f l [] ps)) (an h).1 λy p h1=>?_;cases l with
  |nil=>exact(AI (an (an h).2).1).elim
  |cons z zs=>cases es with
   |nil=>exact(AI (an (an h).2).2).elim
   |cons e0 er=>
    have i0:=f9 Z e0 X _ hX (an (an (an h).2).2).1;have ir:=C4 Z er X _ hX (an (an (an h).2).2).2;refine Snd.pl ?_ rfl;exact bx4 (Z:=Z) (beq_iff_eq.1 (an h1).1) (bd6 (an (an h1).2).1) (D3 (an (an h1).2).2).1 (D3 (an (an h1).2).2).2 hX.fnx hX.clo (O8 i0.v ir.a i0.st) i0.st (ir.pl _)
 |.isT t a,X,x,hX,h=>Z9 h λq p r ps h1 h2=>V3 (C:=λr=>Snd Z X (.isT t a) (.Call (.Name "isinstance" q) [p,r] [] ps)) (an h2).1 λnp=>by
  have hin:t∈M8:=List.contains_iff_mem.1 (an (an (an h2).2).2).1;obtain⟨b1,b2,b3,b4⟩:=cc3 hin;have ia:=f9 Z a X _ hX (an (an (an h2).2).2).2;exact Snd.pl (by exact cm9 hin (t0 h1) (hX.blt' _) (t0 (an (an h2).2).1) (hX.blt' _ b4) b1 b2 b3 ia.v ia.st) rfl
 |.cmpl ne a b,X,x,hX,h=>Y6 h λq p r ps h=>by
  have e:=beq_iff_eq.1 (an h).1;have ia:=f9 Z a X _ hX (an (an h).2).1;have ib:=f9 Z b X _ hX (an (an h).2).2;exact Snd.cm (by exact b94 e hX.units ia.v ib.v ib.se) (by unfold wpT;exact ce9 e hX.units ia.v ib.v ib.se)
 |.fld a f,X,x,hX,h=>xA_ h λo g ap h=>by
  cases beq_iff_eq.1 (an h).1;exact Snd.pl (by exact ck4 (C:=Z.C) (λc Ca=>hX.cls _ c Ca) (f9 Z a X _ hX (an (an h).2).2).v (E5 (K9 (an (an h).2).1))) rfl
 |.meth a m es,X,x,hX,h=>xM_ h λo ap l cp hl h=>by
  have hbo:=K9 (an (an h).1).1;have ia:=f9 Z a X _ hX (an (an h).1).2;have iall:=C4 Z es X _ hX (an (an h).2).1;refine Snd.pl ?_ rfl;cases l with
  |nil=>
   cases es with
   |nil=>exact PE.imp (b18 (F:=Z.F) (Ph:=Z.Phi) (λc Ca=>hX.mth m c Ca) hl hbo ia.v) λ_ _ _=>T4 λ_ _ _ ht=>(by exact ht)
   |cons _ _=>exact(AI (an (an h).2).1).elim
  |cons z zs=>
   cases es with
   |nil=>exact(AI (an (an h).2).1).elim
   |cons e0 er=>
    exact cc9 (F:=Z.F) (Ph:=Z.Phi) (λc Ca=>hX.mth m c Ca) (mcF (iall.pl cp) (of_decide_eq_true (an (an h).2).2)) hl hbo ia.v iall.a (f9 Z e0 X _ hX (an (an (an h).2).1).1).st ((C4 Z er X _ hX (an (an (an h).2).1).2).pl _)
 |.methd a m es,X,x,hX,h=>xM_ h λo ap l cp hl h=>by
  have hbo:=K9 (an (an h).1).1;have ia:=f9 Z a X _ hX (an (an h).1).2;have h2:=an (an (an h).2).2;have iall:=C4 Z es X _ hX h2.1;refine Snd.pl ?_ rfl;cases l with
  |nil=>exact(AI (an (an h).2).1).elim
  |cons z zs=>cases es with
   |nil=>exact(AI h2.1).elim
   |cons e0 er=>
    exact bx0 (F:=Z.F) (Ph:=Z.Phi) (C:=Z.C) (λc Ca i=>hX.mthd m c Ca i) (mcF (iall.pl cp) (of_decide_eq_true h2.2)) hl hbo ia.v iall.a (f9 Z e0 X _ hX (an h2.1).1).st ((C4 Z er X _ hX (an h2.1).2).pl _)
 |.make c es,X,x,hX,h=>xG_ h λq l ps h1 h=>by
  have iall:=C4 Z es X _ hX (an h).2;refine Snd.pl ?_ rfl
  by_cases hF:Z.MF (f6 c "__init__")=AD
  ·obtain⟨Ca,k,f,fd,ps,hn,M,Fo,hr,hm,hb⟩:=hX.mks c hF;cases l with
   |nil=>
    cases es with
    |nil=>exact PE.imp (b35 hn M Fo hr (t0 h1) hm hb (D3 (an h).1).1) λ_ _ _=>T4 λ_ _ _ ht=>(by exact ht.2)
    |cons _ _=>exact(AI (an h).2).elim
   |cons z zs=>
    cases es with
    |nil=>exact(AI (an h).2).elim
    |cons e0 er=>
     exact PE.imp (ca4 hn M Fo hr (t0 h1) hm hb iall.a (D3 (an h).1).1 (f9 Z e0 X _ hX (an (an h).2).1).st ((C4 Z er X _ hX (an (an h).2).2).pl _)) λ_ _ _=>T4 λ_ _ _ ht=>ht.2
  ·exact ad2 hF λ_ _ _ ht=>ht.1
 |.app a b,X,x,hX,h=>ae2 h λo ap p cp hl h1 h2 h3=>
  have ib:=f9 Z b X _ hX h3
  Snd.pl (by exact ci6 (f9 Z a X _ hX h2).v ib.v (K9 h1) ib.st hl) rfl
 |.ext a b,X,x,hX,h=>ae2 h λo ap p cp hl h1 h2 h3=>
  have ib:=f9 Z b X _ hX h3
  Snd.pl (by exact cl2 (f9 Z a X _ hX h2).v ib.v (K9 h1) ib.st hl) rfl
 |.popAt a b,X,x,hX,h=>ae2 h λo ap p cp hl h1 h2 h3=>
  have ib:=f9 Z b X _ hX h3
  Snd.pl (by exact b23 (f9 Z a X _ hX h2).v ib.v (K9 h1) ib.st hl) rfl
 |.pop a,X,x,hX,h=>bl5 h λo ap cp hl h1 h2=>Snd.pl (by exact ci3 (f9 Z a X _ hX h2).v (K9 h1) hl) rfl
 |.any a,X,x,hX,h=>G5 h λq p ps h1 h2=>
  have ia:=f9 Z a X _ hX h2
  Snd.pl (by exact cu2 hX.calm (t0 h1) (hX.blt' _) ia.v ia.st) rfl
 |.dnt,X,x,hX,h=>xD_ h λl r p h=>by
  cases l with
  |cons=>exact(AI h).elim
  |nil=>cases r with
   |cons=>exact(AI h).elim
   |nil=>exact Snd.pl (by exact cr5 (c:=Z.C "!kt") λhz=>by rw[hX.kt];cases e:Z.C "!kt" with|nil=>exact absurd e hz|cons _ _=>rfl) rfl
 |.dgt a b,X,x,hX,h=>ae2 h λo ap p cp hl h1 h2 h3=>
  have ib:=f9 Z b X _ hX h3
  Snd.pl (by exact cp8 hX.units (f9 Z a X _ hX h2).v ib.v (K9 h1) ib.st hl) rfl
 |.din ne a b,X,x,hX,h=>Y6 h λq p r ps h=>by
  have e:=beq_iff_eq.1 (an h).1;have ia:=f9 Z a X _ hX (an (an h).2).1;have ib:=f9 Z b X _ hX (an (an h).2).2;exact Snd.cm (by exact ck9 e hX.units ia.v ib.v ib.se) (by unfold wpT;exact cn2 e hX.units ia.v ib.v ib.se)
 |.lrev a,X,x,hX,h=>bl5 h λo ap cp hl h1 h2=>Snd.pl (by exact ch0 (f9 Z a X _ hX h2).v (K9 h1) hl) rfl
 |.comp Nc fr k t it c e,X,x,hX,h=>c92 h λel g scope pos h=>by
  refine l1_ (C:=λg=>Snd Z X (.comp Nc fr k t it c e) (.ListComp el g scope pos)) h λg h=>?_;obtain⟨tg,itx,ifs,n⟩:=g;obtain⟨h0,h⟩:=an h;cases(beq_iff_eq.1 h0:n=0);obtain⟨h1,h⟩:=an h;obtain⟨h2,h⟩:=an h;obtain⟨h3,h⟩:=an h;have Sc:=az0 h1;exact Snd.pl (PE.imp (b77 hX.calm Sc (aq0 Z it X tg itx hX h2)
   (λC fp pins s H=>ad1 (X:=X.comp scope Nc C fp pins s H) (ow:=AE) hX.calm Sc.nd nofun h3)
   (λC fp pins s H=>bk7 (X:=X.comp scope Nc C fp pins s H) (an h).2 λx h=>f9 Z c (X.comp scope Nc C fp pins s H) x (hX.comp (aa5 h1) Sc C fp pins s H) h)
   (λC fp pins s H=>(f9 Z e (X.comp scope Nc C fp pins s H) el (hX.comp (aa5 h1) Sc C fp pins s H) (an h).1).v) (ar8 h2)) λσ H Q q=>ax2 q) rfl
theorem C4(Z:Sg):∀(es:Es)(X:Cx)(xs:List AT),XOk Z X->mEs es X.env.scope X.N xs=AD->SndA Z X es xs
 |.nil,X,xs,hX,h=>by
  cases xs with
  |nil=>exact⟨by exact be5,λ_=>rfl⟩
  |cons=>exact(AI h).elim
 |.cons e r,X,xs,hX,h=>by
  cases xs with
  |nil=>exact(AI h).elim
  |cons x xs=>
   have i0:=f9 Z e X _ hX (an h).1;have ir:=C4 Z r X _ hX (an h).2;refine⟨by exact O8 i0.v ir.a i0.st,λpos=>?_⟩;rw[o5 i0.st];exact ir.pl pos
theorem aq0(Z:Sg):∀(it:It)(X:Cx)(tg x:AT),XOk Z X->mIt it X.env.scope X.N tg x=AD->PI X tg x (upI X.K (A7 Z it))
 |.seq e,X,tg,x,hX,h=>by exact cl7 (f9 Z e X x hX h).v
 |.rng a,X,tg,x,hX,h=>G5 (C:=λx=>PI X tg x (upI X.K (A7 Z (.rng a)))) h λq p ps h1 h2=>
  have ia:=f9 Z a X _ hX h2
  (by exact co9 (t0 h1) (hX.blt' _) ia.v ia.st)
 |.rng2 a b,X,tg,x,hX,h=>Z9 (C:=λx=>PI X tg x (upI X.K (A7 Z (.rng2 a b)))) h λq p r ps h1 h2=>
  have ia:=f9 Z a X _ hX (an h2).1;have ib:=f9 Z b X _ hX (an h2).2
  (by exact cc0 (t0 h1) (hX.blt' _) ia.v ib.v ia.st ib.st)
 |.enum e,X,tg,x,hX,h=>xT_ (C:=λtg=>PI X tg x (upI X.K (A7 Z (.enum e)))) (an h).1 λl n tp _=>G5 (C:=λx=>PI X _ x (upI X.K (A7 Z (.enum e)))) (an h).2 λq p ps h1 h2=>
  have ia:=f9 Z e X _ hX h2
  (by exact cf5 (t0 h1) (hX.blt' _) ia.v ia.st)
 |.revt e,X,tg,x,hX,h=>G5 (C:=λx=>PI X tg x (upI X.K (A7 Z (.revt e)))) h λq p ps h1 h2=>
  have ia:=f9 Z e X _ hX h2
  (by exact b81 (t0 h1) (hX.blt' _) ia.v ia.st)
 |.rev e,X,tg,x,hX,h=>G5 (C:=λx=>PI X tg x (upI X.K (A7 Z (.rev e)))) h λq p ps h1 h2=>
  have ia:=f9 Z e X _ hX h2
  (by exact cl5 (t0 h1) (hX.blt' _) ia.v ia.st)
end
end Ek
namespace Ek
open PySem PySem.Spec PyProof.Rows L2
variable [Tbs]
variable{x:BN}{C:BN->Prop}{e:E}{sc scope:BH}{N:List Str}{el:AT}{gs:List IM}{p:Pos}{n:Nat}{env:Env}
abbrev c57(x:AT):Bool:=!(x.ctorIdx==25)
abbrev sA(x:BN)(k:List AT->AT->Pos->Bool):Bool:=if h:x.ctorIdx=5 then FN x h k else AE
def sA_{k:List AT->AT->Pos->Bool}(h:sA x k=AD)(H:∀l x p,k l x p=AD->C (.Assign l x p)):C x:=
 dE h λe=>FN (motive_2:=λx=>∀e,FN x e k=AD->C x) x e (λl x p _ h=>H l x p h) e
abbrev sX(x:BN)(k:AT->Pos->Bool):Bool:=if h:x.ctorIdx=24 then GI x h k else AE
def sX_{k:AT->Pos->Bool}(h:sX x k=AD)(H:∀x p,k x p=AD->C (.Expr x p)):C x:=
 dE h λe=>GI (motive_2:=λx=>∀e,GI x e k=AD->C x) x e (λx p _ h=>H x p h) e
abbrev sI(x:BN)(k:AT->List BN->List BN->Pos->Bool):Bool:=if h:x.ctorIdx=12 then HI x h k else AE
def sI_{k:AT->List BN->List BN->Pos->Bool}(h:sI x k=AD)(H:∀x a b p,k x a b p=AD->C (.If x a b p)):C x:=
 dE h λe=>HI (motive_2:=λx=>∀e,HI x e k=AD->C x) x e (λx a b p _ h=>H x a b p h) e
abbrev sR(x:BN)(k:Option AT->Pos->Bool):Bool:=if h:x.ctorIdx=3 then FP x h k else AE
def sR_{k:Option AT->Pos->Bool}(h:sR x k=AD)(H:∀x p,k x p=AD->C (.Return x p)):C x:=
 dE h λe=>FP (motive_2:=λx=>∀e,FP x e k=AD->C x) x e (λx p _ h=>H x p h) e
abbrev sF(x:BN)(k:AT->AT->List BN->List BN->Pos->Bool):Bool:=if h:x.ctorIdx=9 then Ga x h k else AE
def sF_{k:AT->AT->List BN->List BN->Pos->Bool}(h:sF x k=AD)(H:∀g x a b p,k g x a b p=AD->C (.For g x a b p)):C x:=
 dE h λe=>Ga (motive_2:=λx=>∀e,Ga x e k=AD->C x) x e (λg x a b p _ h=>H g x a b p h) e
abbrev sW(x:BN)(k:AT->List BN->List BN->Pos->Bool):Bool:=if h:x.ctorIdx=11 then Fj x h k else AE
def sW_{k:AT->List BN->List BN->Pos->Bool}(h:sW x k=AD)(H:∀x a b p,k x a b p=AD->C (.While x a b p)):C x:=
 dE h λe=>Fj (motive_2:=λx=>∀e,Fj x e k=AD->C x) x e (λx a b p _ h=>H x a b p h) e
abbrev sC(x:BN)(k:Pos->Bool):Bool:=if h:x.ctorIdx=27 then Ed x h k else AE
def sC_{k:Pos->Bool}(h:sC x k=AD)(H:∀p,k p=AD->C (.Continue p)):C x:=
 dE h λe=>Ed (motive_2:=λx=>∀e,Ed x e k=AD->C x) x e (λp _ h=>H p h) e
abbrev sP(x:BN)(k:Pos->Bool):Bool:=if h:x.ctorIdx=25 then GJ x h k else AE
def sP_{k:Pos->Bool}(h:sP x k=AD)(H:∀p,k p=AD->C (.Pass p)):C x:=
 dE h λe=>GJ (motive_2:=λx=>∀e,GJ x e k=AD->C x) x e (λp _ h=>H p h) e
abbrev sD(x:BN)(k:Str->DE->List BN->List AT->Option AT->List TypeParam->BH->Option BH->Str->Pos->Bool):Bool:=if h:x.ctorIdx=0 then Du x h k else AE
def sD_{k:Str->DE->List BN->List AT->Option AT->List TypeParam->BH->Option BH->Str->Pos->Bool}(h:sD x k=AD)(H:∀name d b l j i a g c p,k name d b l j i a g c p=AD->C (.FunctionDef name d b l j i a g c p)):C x:=
 dE h λe=>Du (motive_2:=λx=>∀e,Du x e k=AD->C x) x e (λname d b l j i a g c p _ h=>H name d b l j i a g c p h) e
abbrev sTr(x:BN)(k:List BN->List GQ->List BN->List BN->Pos->Bool):Bool:=if h:x.ctorIdx=17 then Gb x h k else AE
def c98{k:List BN->List GQ->List BN->List BN->Pos->Bool}(h:sTr x k=AD)(H:∀a b c d p,k a b c d p=AD->C (.Try a b c d p)):C x:=
 dE h λe=>Gb (motive_2:=λx=>∀e,Gb x e k=AD->C x) x e (λa b c d p _ h=>H a b c d p h) e
def c64{X:Cx}{a:List BN}{h₀:GQ}{d:List GQ}{b:Pos}{t:DS}(c:X.xe=λ_ _=>False)(e:PSs X a (upS X.K t)):PS X (.Try a (h₀::d) [] [] b) (upS X.K t):=λpins s σ H D I q=>
 wpAny_Try_except (Bg (e pins s σ H D I q) (λf s1 h=>by cases f<;>first|exact FU h|exact h) λe s1 h=>by rw[c]at h;exact h.elim)
abbrev sA1(s:BN)(k:AT->AT->Bool):Bool:=sA s λl x _=>l1 l λt=>k t x
def R0{s:BN}{k:AT->AT->Bool}{C:BN->Prop}(h:sA1 s k=AD)(H:∀t x p,k t x=AD->C (.Assign [t] x p)):C s:=
 sA_ h λl x p h=>l1_ (C:=λl=>C (.Assign l x p)) h λt h=>H t x p h
mutual
noncomputable def mS:S->BH->List Str->BN->Bool
 |.set i e,sc,N,s=>sA1 s λt x=>mE e sc N x&&xN t λy _=>(N[i]?==AA y)&&(L0 sc y&&!(N.contains (z7 y)))
 |.pre _,_,_,_=>AE
 |.iput o i v,sc,N,s=>sA1 s λt x=>(mE v sc N x&&J8 x)&&xS t λp q _=>mE o sc N p&&mE i sc N q
 |.dput o i v,sc,N,s=>sA1 s λt x=>(mE v sc N x&&J8 x)&&xS t λp q _=>mE o sc N p&&mE i sc N q
 |.put o i v,sc,N,s=>sA1 s λt x=>(mE v sc N x&&J8 x)&&xS t λp q _=>mE o sc N p&&mE i sc N q
 |.fldS o f v,sc,N,s=>sA1 s λt x=>(mE v sc N x&&J8 x)&&xA t λp g _=>(g==f)&&mE o sc N p
 |.unp is e,sc,N,s=>sA1 s λt x=>(mE e sc N x&&(J8 x&&c57 x))&&xT t λes k p=>mTg AD (.tup is) sc N (.Tuple es k p)
 |.ex e,sc,N,s=>sX s λx _=>mE e sc N x&&J8 x
 |.iff c a b,sc,N,s=>sI s λx p q _=>(mE c sc N x&&C8 x)&&(mSs a sc N p&&mSs b sc N q)
 |.ret e,sc,N,s=>sR s λx _=>JD (motive:=λ_=>Bool) x AE (mE e sc N)
 |.retN,_,_,s=>sR s λx _=>x.isNone
 |.for t it b,sc,N,s=>sF s λtg x p q _=>q.isEmpty&&(mTg AD t sc N tg&&(mIt it sc N tg x&&mSs b sc N p))
 |.while c b,sc,N,s=>sW s λx p q _=>q.isEmpty&&((mE c sc N x&&C8 x)&&mSs b sc N p)
 |.tr b,sc,N,s=>sTr s λp hs q r _=>(!hs.isEmpty&&(q.isEmpty&&r.isEmpty))&&mSs b sc N p
 |.cont,_,_,s=>sC s λ_=>AD
 |.dead,_,_,_=>AD
 |.dfn i np Nl cp b,sc,N,s=>sD s λname args body dl rt tp scope ts bind _=>(dl.isEmpty&&rt.isNone&&tp.isEmpty&&ts.isNone)&&(aa7 args).any λps=>(name==bind)&&((N[i]?==AA name)&&(L0 sc name&&(!(N.contains (z7 name))&&(N.contains t5&&(aq7 sc N scope Nl ps np cp&&(!(Nl.contains t5)&&mSs b scope Nl body))))))
 |.pass,_,_,s=>sP s λ_=>AD
noncomputable def mSs:Ss->BH->List Str->List BN->Bool
 |.nil,_,_,l=>l.isEmpty
 |.cons s r,sc,N,l=>Ds (motive:=λ_=>Bool) l AE λx xs=>mS s sc N x&&mSs r sc N xs
end
abbrev mFB(b:Ss)(sc:BH)(N:List Str)(fb:De):Prop:=N.contains t5=AE/\match fb with
 |.stmts l=>mSs b sc N l=AD
 |.expr x=>∃e,b=.cons (.ret e) .nil/\mE e sc N x=AD
@[reducible]noncomputable def HF(X:Cx):Prop:=∀y,Loc X.env.scope y->X.N.contains (z7 y)=AE->X.fn y=AD\/X.env.scope.names.lookup y=AA .local
def c24:mE e sc N (.SetComp el gs scope p)=AE:=by cases e<;>rfl
def cz0{a b:AT}:mE e sc N (.DictComp a b gs scope p)=AE:=by cases e<;>rfl
def c13(h:mE e sc N (.ListComp el gs scope p)=AD):∃f b k t a c d,e=.comp f b k t a c d:=by
 cases e<;>first|exact⟨_,_,_,_,_,_,_,rfl⟩|exact absurd h AI
def R8{x:AT}{t:Option AT}(h:J8 x=AD):CZ x t n env=pure AE:=by
 cases x<;>first|rfl|cases h
def a92{x t:AT}(h:J8 x=AD):Ej [t] x n env=pure AE:=by
 rw[Ej];exact R8 h
def bp7{py:Pos}{y:Str}:∃b,CZ (.ListComp el gs scope p) (AA (.Name y py)) n env=pure b:=⟨_,rfl⟩
mutual
theorem dd8(Z:Sg)(hm:∀(b:Ss)(sc:BH)(N:List Str)(l:List BN),mSs b sc N l=AD->N.contains t5=AE->Tbs.mt b sc N (.stmts l)):∀(s:S)(X:Cx)(x:BN),XOk Z X->HF X->mS s X.env.scope X.N x=AD->PS X x (upS X.K (wpS Z s))
 |.set i e,X,x,hX,hf,h=>R0 (C:=λx=>PS X x (upS X.K (wpS Z (.set i e)))) h λtx v pos h=>xN_ (C:=λtx=>PS X (.Assign [tx] v pos) (upS X.K (wpS Z (.set i e)))) (an h).2 λy py h2=>by
  have h3:=(an h).1;have ie:=f9 Z e X v hX h3;have h1:=beq_iff_eq.1 (an h2).1;have hl:=T6 (an (an h2).2).1;have hf:=hf y hl (nt (an (an h2).2).2)
  by_cases hc:J8 v=AD
  ·exact ap6 hX.nd h1 hl ie.v (R8 hc) hf
  ·cases v with
   |ListComp el gs scope p=>
    obtain⟨b,hb⟩:=bp7 (el:=el) (gs:=gs) (scope:=scope) (p:=p) (py:=py) (y:=y) (n:=pos.line) (env:=X.env);cases b with
    |false=>exact ap6 hX.nd h1 hl ie.v hb hf
    |true=>
     obtain⟨Nc,fr,k,t,it,c,e,rfl⟩:=c13 h3;revert hb;refine l1_ (C:=λgs=>CZ (.ListComp el gs scope p) (AA (.Name y py)) pos.line X.env=pure AD->PS X (.Assign [.Name y py] (.ListComp el gs scope p) pos) (upS X.K (wpS Z (.set i (.comp Nc fr k t it c e))))) h3 λg h hb=>?_;obtain⟨tg,itx,ifs,n⟩:=g;obtain⟨h0,h⟩:=an h;cases(beq_iff_eq.1 h0:n=0);obtain⟨g1,h⟩:=an h;obtain⟨g2,h⟩:=an h;obtain⟨g3,h⟩:=an h;have Sc:=az0 g1;exact PS.imp (bp3 hX.calm hX.nd h1 hl hf Sc (aq0 Z it X tg itx hX g2)
      (λC fp pins s H=>ad1 (X:=X.comp scope Nc C fp pins s H) (ow:=AE) hX.calm Sc.nd nofun g3)
      (λC fp pins s H=>bk7 (X:=X.comp scope Nc C fp pins s H) (an h).2 λx h=>f9 Z c (X.comp scope Nc C fp pins s H) x (hX.comp (aa5 g1) Sc C fp pins s H) h)
      (λC fp pins s H=>(f9 Z e (X.comp scope Nc C fp pins s H) el (hX.comp (aa5 g1) Sc C fp pins s H) (an h).1).v) hb (ar8 g2)) λF σ H⟨env,st,Fd,hE,hS,ht',hq⟩=>
      ax2 ⟨env,st,(λd st'=>Fd.nx (env.set i (AA d)) st'),hE,hS,ht',λv d H' st' ev is rs q=>hq.nx _ _ H' st' ev ((hE.mono (ev.tk hS)).set is i) rs q⟩
   |SetComp el gs scope p=>exact(AI (c24.symm.trans h3)).elim
   |DictComp a b gs scope p=>exact(AI (cz0.symm.trans h3)).elim
   |_=>exact absurd rfl hc
 |.pre i,X,x,hX,hf,h=>(AI h).elim
 |.iput o i v,X,x,hX,hf,h=>R0 (C:=λx=>PS X x (upS X.K (wpS Z (.iput o i v)))) h λtx y pos h=>xS_ (C:=λtx=>PS X (.Assign [tx] y pos) (upS X.K (wpS Z (.iput o i v)))) (an h).2 λp q ps h2=>
  (by exact b52 hX.units (f9 Z v X y hX (an (an h).1).1).v (f9 Z o X p hX (an h2).1).v (f9 Z i X q hX (an h2).2).v (R8 (an (an h).1).2))
 |.dput o i v,X,x,hX,hf,h=>R0 (C:=λx=>PS X x (upS X.K (wpS Z (.dput o i v)))) h λtx y pos h=>xS_ (C:=λtx=>PS X (.Assign [tx] y pos) (upS X.K (wpS Z (.dput o i v)))) (an h).2 λp q ps h2=>
  (by exact b92 hX.units (f9 Z v X y hX (an (an h).1).1).v (f9 Z o X p hX (an h2).1).v (f9 Z i X q hX (an h2).2).v (R8 (an (an h).1).2))
 |.put o i v,X,x,hX,hf,h=>R0 (C:=λx=>PS X x (upS X.K (wpS Z (.put o i v)))) h λtx y pos h=>xS_ (C:=λtx=>PS X (.Assign [tx] y pos) (upS X.K (wpS Z (.put o i v)))) (an h).2 λp q ps h2=>by
  have iq:=f9 Z i X q hX (an h2).2;refine cl1 (f9 Z v X y hX (an (an h).1).1).v (f9 Z o X p hX (an h2).1).v iq.v (λw=>?_) (a92 (an (an h).1).2) rfl;cases q<;>first|rfl|exact absurd rfl (iq.sl _ _ _ _)
 |.fldS o f v,X,x,hX,hf,h=>R0 (C:=λx=>PS X x (upS X.K (wpS Z (.fldS o f v)))) h λtx y pos h=>xA_ (C:=λtx=>PS X (.Assign [tx] y pos) (upS X.K (wpS Z (.fldS o f v)))) (an h).2 λp g ps h2=>by
  cases beq_iff_eq.1 (an h2).1;exact cb8 (hX.cls _) (f9 Z v X y hX (an (an h).1).1).v (f9 Z o X p hX (an h2).2).v (R8 (an (an h).1).2)
 |.unp is e,X,x,hX,hf,h=>R0 (C:=λx=>PS X x (upS X.K (wpS Z (.unp is e)))) h λtx y pos h=>xT_ (C:=λtx=>PS X (.Assign [tx] y pos) (upS X.K (wpS Z (.unp is e)))) (an h).2 λes k p h2=>by
  refine co2 (f9 Z e X y hX (an (an h).1).1).v (ad1 hX.calm hX.nd (λ_=>hf) h2) (a92 (an (an (an h).1).2).1) ?_ rfl;have h4:=(an (an (an h).1).2).2;cases y<;>first|rfl|exact(AI h4).elim
 |.ex e,X,x,hX,hf,h=>sX_ (C:=λx=>PS X x (upS X.K (wpS Z (.ex e)))) h λx p h=>(by exact cy5 (f9 Z e X _ hX (an h).1).v (R8 (an h).2))
 |.iff c a b,X,x,hX,hf,h=>sI_ (C:=λx=>PS X x (upS X.K (wpS Z (.iff c a b)))) h λx p q ps h=>
  (by exact c05 ((f9 Z c X _ hX (an (an h).1).1).t (an (an h).1).2) (J9 Z hm a X _ hX hf (an (an h).2).1) (J9 Z hm b X _ hX hf (an (an h).2).2))
 |.ret e,X,x,hX,hf,h=>sR_ (C:=λx=>PS X x (upS X.K (wpS Z (.ret e)))) h λx p h=>by
  cases x with
  |none=>exact(AI h).elim
  |some x=>exact cp5 (f9 Z e X _ hX h).v
 |.retN,X,x,hX,hf,h=>sR_ (C:=λx=>PS X x (upS X.K (wpS Z .retN))) h λx p h=>by
  cases x with
  |some _=>exact(AI h).elim
  |none=>exact cd0
 |.for t it b,X,x,hX,hf,h=>sF_ (C:=λx=>PS X x (upS X.K (wpS Z (.for t it b)))) h λtg x p q ps h=>by
  cases q with
  |cons=>exact(AI h).elim
  |nil=>exact cu6 hX.pass hX.calm (aq0 Z it X _ _ hX (an (an (an h).2).2).1) (ad1 hX.calm hX.nd (λ_=>hf) (an (an h).2).1) (J9 Z hm b X _ hX hf (an (an (an h).2).2).2) (ar8 (an (an (an h).2).2).1)
 |.while c b,X,x,hX,hf,h=>sW_ (C:=λx=>PS X x (upS X.K (wpS Z (.while c b)))) h λx p q ps h=>by
  cases q with
  |cons=>exact(AI h).elim
  |nil=>exact b45 hX.pass ((f9 Z c X _ hX (an (an (an h).2).1).1).t (an (an (an h).2).1).2) (J9 Z hm b X _ hX hf (an (an h).2).2)
 |.tr b,X,x,hX,hf,h=>c98 (C:=λx=>PS X x (upS X.K (wpS Z (.tr b)))) h λp hs q r ps h=>by
  cases hs with
  |nil=>exact(AI h).elim
  |cons=>cases q with
   |cons=>exact(AI h).elim
   |nil=>cases r with
    |cons=>exact(AI h).elim
    |nil=>exact c64 hX.xe (J9 Z hm b X _ hX hf (an h).2)
 |.cont,X,x,hX,hf,h=>sC_ (C:=λx=>PS X x (upS X.K (wpS Z .cont))) h λ_ _=>(by exact cc2)
 |.dfn i np Nl cp b,X,x,hX,hf,h=>sD_ (C:=λx=>PS X x (upS X.K (wpS Z (.dfn i np Nl cp b)))) h λname args body dl rt tp scope ts bind p h=>by
  cases hp:aa7 args with
  |none=>rw[hp]at h;exact(AI (an h).2).elim
  |some ps=>
   rw[hp]at h;obtain⟨z,j⟩:=an h;obtain⟨h0,j0⟩:=an (show(_&&_)=AD from j);obtain⟨h1,j1⟩:=an j0;obtain⟨h2,j2⟩:=an j1;obtain⟨h3,j3⟩:=an j2;obtain⟨h4,j4⟩:=an j3;obtain⟨h5,j5⟩:=an j4;clear h j j0 j1 j2 j3 j4;cases beq_iff_eq.1 h0;cases dl with
   |cons=>exact(AI z).elim
   |nil=>cases rt with
    |some=>exact(AI z).elim
    |none=>cases tp with
     |cons=>exact(AI z).elim
     |nil=>cases ts with
      |some=>exact(AI z).elim
      |none=>
       obtain⟨L,hc⟩:=hX.lam h4;obtain⟨a1,a2,a3,a4,a5⟩:=bq5 hp;exact ch3 hX.nd (beq_iff_eq.1 h1) (T6 h2) (hf _ (T6 h2) (nt h3)) a1 a2 a4 L (b59 h5 hc (hm b scope Nl body (an j5).2 (nt (an j5).1)) (λname qual cl doc pm cv ct us hl=>a5 name qual _ scope cl doc pm cv ct us hl))
 |.dead,X,x,hX,hf,h=>λ_ _ _ _ _ _⟨_,_,_,_,_,ht,_⟩=>ht.elim
 |.pass,X,x,hX,hf,h=>sP_ (C:=λx=>PS X x (upS X.K (wpS Z .pass))) h λ_ _=>(by exact b84)
theorem J9(Z:Sg)(hm:∀(b:Ss)(sc:BH)(N:List Str)(l:List BN),mSs b sc N l=AD->N.contains t5=AE->Tbs.mt b sc N (.stmts l)):∀(l:Ss)(X:Cx)(xs:List BN),XOk Z X->HF X->mSs l X.env.scope X.N xs=AD->PSs X xs (upS X.K (j7 Z l))
 |.nil,X,xs,hX,hf,h=>by
  cases xs with
  |nil=>exact cs7
  |cons=>exact(AI h).elim
 |.cons s r,X,xs,hX,hf,h=>by
  cases xs with
  |nil=>exact(AI h).elim
  |cons x xs=>
   rw[j7];exact cb0 (dd8 Z hm s X _ hX hf (an h).1) (J9 Z hm r X _ hX hf (an h).2)
end
end Ek
namespace Ek
open PySem PySem.Spec PyProof.Rows L2
variable [Tbs]
variable{mg:Str->Option AG}{h:BC}{f c m:Str}{st:BN}{ps:List Str}{fa a:AH}{od:Option AH}{sl:Array (Option AG)}{dc pm cd ct:AG}{n:Nat}{fd:Bi}{H:Hp}{X:Cx}
abbrev mP(i:Nat)(sc:BH)(N:List Str)(s:BN):Bool:=sA1 s λt x=>(xD x λl r _=>l.isEmpty&&r.isEmpty)&&xN t λy _=>(N[i]?==AA y)&&L0 sc y
abbrev mB:Ss->BH->List Str->List BN->Bool
 |.cons (.pre i) r,sc,N,s::l=>mP i sc N s&&mB r sc N l
 |b,sc,N,l=>mSs b sc N l
structure Stat0(st:BN)(d:Def)(ps:List Str):Prop where
 sc:FnScope d.N ps (o6 st)
 np:ps.length=d.np
 body:mB d.body (o6 st) d.N (u1 st)=AD
structure Stat(st:BN)(d:Def)(ps:List Str)(x f:Str):Prop extends Stat0 st d ps where
 bind:∀(kV doc pm:AG)(an:Option AH)(cdv ct:AG)(us:List AG),us.length=ps.length->EU (Co x f (v5 st) (u1 st) (o6 st) .none kV doc pm an cdv ct) ⟨us,[]⟩=pure (ps.zip us)
structure FunD(K:AQ)(x qual:Str)(st:BN)(f:AH)(fd:Bi):Prop where
 ex:∃(oc:AG)(od:Option AH)(dV kV doc pm:AG)(an:Option AH)(cdv ct:AG)(osl:Array (Option AG)),
  fd=Co x qual (v5 st) (u1 st) (o6 st) dV kV doc pm an cdv ct/\K.lookup f=AA ⟨oc,od,.func fd,osl⟩/\Ct K cdv qual=AD
 kp:Bh K (.ref f)=AD
structure DefAt(K:AQ)(f:Str)(d:Def)(a:AH)(fd:Bi)(ps:List Str):Prop where
 ex:∃(st:BN)(x:Str),FunD K x f st a fd/\Stat0 st d ps
 bd:p7 K fd ps []
 lam:d.N.contains t5=AD->∃c P,fd.code=.ref c/\CP K c P=AD/\P∈Tbs.ps
structure DefOk(K:AQ)(mg:Str->Option AG)(df:Option Int)(f:Str)(d:Def):Prop where
 ex:∃(a:AH)(fd:Bi)(ps:List Str),DefAt K f d a fd ps/\mg f=AA (.ref a)/\Ay K AO f=AA (AA (.ref a))/\(df=AA 0->p7 K fd ps [.none])
structure MthOk(K:AQ)(mg:Str->Option AG)(df:Option Int)(c m:Str)(d:Def):Prop where
 ex:∃(Ca a:AH)(fd:Bi)(ps:List Str),DefAt K (f6 c m) d a fd ps/\Ay K AO c=AA (AA (.ref Ca))/\mg c=AA (.ref Ca)/\Cls K Ca/\Meth K Ca m a/\(m="__init__"->Mk K Ca a)/\∀i,df=AA i->∃tk,p7 K fd ps [.int i tk]
 nom:Ay K AO (f6 c m)=AA AF
theorem J6:∀{a b d c:List Nat},(46:Nat)∉d->(46:Nat)∉c->a++46::b=d++46::c->a=d/\b=c
 |[],b,[],c,_,_,h=>⟨rfl,by simpa using h⟩
 |[],b,x::d,c,i,_,h=>by
  simp only[DU,CM,Aq]at h;exact absurd (h.1▸CG) i
 |x::a,b,[],c,_,g,h=>by
  simp only[DU,CM,Aq]at h;exact absurd (h.2▸BF _ CG) g
 |x::a,b,y::d,c,i,g,h=>by
  simp only[CM,Aq]at h;obtain⟨e,f⟩:=J6 (λz=>i (Ar _ z)) g h.2;exact⟨by rw[h.1,e],f⟩
def ck1{K:AQ}{e:Option Int}{d:Def}{g:Option AH}{j b:AG}(X:K.In h)(G:h.Ns AO mg)(S:Stat st d ps f f)
  (i:Ay K AO f=AA (AA (.ref fa))) (k:K.lookup fa=AA ⟨j,od,.func (Co f f (v5 st) (u1 st) (o6 st) .none b dc pm g cd ct),sl⟩) (m:Ct K cd f=AD) (l:Bh K (.ref fa)=AD)
  (m1:d.N.contains t5=AD->∃c P,cd=.ref c/\CP K c P=AD/\P∈Tbs.ps:=by exact λh=>absurd h (by decide+kernel)) (a:e=AF:=by decide+kernel):DefOk K mg e f d:=
 ⟨fa,_,ps,⟨⟨st,f,⟨⟨_,_,_,_,_,_,_,_,_,_,rfl,k,m⟩,l⟩,S.toStat0⟩,.all (S.bind b dc pm g cd ct),m1⟩,GW X G i,i,λh=>by rw[a]at h;cases h⟩
def co4{K:AQ}{d:Def}{a:AH}{i:Option AH}{k e:AG}{g:Option Int}(X:K.In h)(G:h.Ns AO mg)(S:Stat st d ps m (f6 c m))
  (p:Ay K AO (f6 c m)=AA AF) (j:Ay K AO c=AA (AA (.ref a))) (n:Cls K a) (f:Meth K a m fa) (hi:m="__init__"->Mk K a fa)
  (l:K.lookup fa=AA ⟨k,od,.func (Co m (f6 c m) (v5 st) (u1 st) (o6 st) .none e dc pm i cd ct),sl⟩) (o:Ct K cd (f6 c m)=AD)
  (m1:d.N.contains t5=AD->∃c P,cd=.ref c/\CP K c P=AD/\P∈Tbs.ps:=by exact λh=>absurd h (by decide+kernel)) (b:g=AF:=by decide+kernel):MthOk K mg g c m d:=
 ⟨⟨a,fa,_,ps,⟨⟨st,m,⟨⟨_,_,_,_,_,_,_,_,_,_,rfl,l,o⟩,f.kp⟩,S.toStat0⟩,.all (S.bind e dc pm i cd ct),m1⟩,j,GW X G j,n,f,hi,λi h=>by rw[b]at h;cases h⟩,p⟩
def b66{K:AQ}{d:Def}{b T:AH}{j t:Option AH}{e:Array (Option AG)}{v f u:AG}{q:Option Int}{i:Int}{tk:Tok}(X:K.In h)(G:h.Ns AO mg)(S:Stat0 st d ps)
  (p:∀(s:AK)(o:Obj)(n:Nat),s.heap.get? T=AA o->o.data=.seq #[.int i tk] n->(∀a:List AG,a.length=ps.length->FH s (Co m (f6 c m) (v5 st) (u1 st) (o6 st) (.ref T) f dc pm j cd ct) ⟨a,[]⟩ (ps.zip a))/\∀a:List AG,a.length+1=ps.length->FH s (Co m (f6 c m) (v5 st) (u1 st) (o6 st) (.ref T) f dc pm j cd ct) ⟨a,[]⟩ (ps.zip (a++[.int i tk])))
  (z:Ay K AO (f6 c m)=AA AF) (r:Ay K AO c=AA (AA (.ref b))) (x:Cls K b) (l:Meth K b m fa) (hi:m="__init__"->Mk K b fa)
  (w:K.lookup fa=AA ⟨v,od,.func (Co m (f6 c m) (v5 st) (u1 st) (o6 st) (.ref T) f dc pm j cd ct),sl⟩) (y:Ct K cd (f6 c m)=AD) (k:K.lookup T=AA ⟨u,t,.seq #[.int i tk] n,e⟩)
  (m1:d.N.contains t5=AD->∃c P,cd=.ref c/\CP K c P=AD/\P∈Tbs.ps:=by exact λh=>absurd h (by decide+kernel)) (g:q=AA i:=by decide+kernel):MthOk K mg q c m d:=
 ⟨⟨b,fa,_,ps,⟨⟨st,m,⟨⟨_,_,_,_,_,_,_,_,_,_,rfl,w,y⟩,l.kp⟩,S⟩,λs a hK hl=>by
   rw[BZ]at hl ⊢;exact(p s _ _ (hK _ _ k) rfl).1 a hl,m1⟩,r,GW X G r,x,l,hi,λj h=>by
   rw[g]at h;cases h;exact⟨tk,λs a hK hl=>(p s _ _ (hK _ _ k) rfl).2 a (by simpa using hl)⟩⟩,z⟩
def DefAt.binds{K:AQ}{d:Def}(D:DefAt K f d a fd ps):p7 K fd ps []:=D.bd
theorem DefAt.kp{K:AQ}{d:Def}(D:DefAt K f d a fd ps):Bh K (.ref a)=AD:=by
 obtain⟨b,x,F,S⟩:=D.ex;exact F.kp
structure AllOk(Pr:An)(w:Ax)(K:AQ)(mg:Str->Option AG)(P:i8)(G:Gs):Prop where
 fns:∀f d,P f=AA d->isM f=AE->DefOk K mg (t4 G.cls f) f d
 mts:∀f d,P f=AA d->isM f=AD->∃c m,f=f6 c m/\isM c=AE/\isM m=AE/\MthOk K mg (t4 G.cls (f6 c m)) c m d
 cls:∀f c Ca,Ay K AO c=AA (AA (.ref Ca))->f∈G.cls c->Cls K Ca/\G0 K Ca f
 blt:∀b∈S5,mg b=AF
 tabs:∀g,G.tab g≠[]->GTab Pr w K mg g (G.tab g)
 cst:∀g d,G.cst g=AA d->∃u,mg g=AA u/\J7 K d u=AD
 isc:∀c∈G.cls "!is",∃Ca,mg c=AA (.ref Ca)/\IscOk K c Ca
 kt:Tbs.kt=(G.cls "!kt").isEmpty
def by5:isM (f6 c m)=AD:=by
 unfold isM f6;simp
def by8{b a:Str}(f:isM b=AE)(d:isM a=AE)(h:f6 c m=f6 b a):c=b/\m=a:=by
 unfold isM at f d;unfold f6 at h;have g:=congrArg (λs:Str=>s.cps.toList) h;simp only[FL,Ch,List.singleton_append]at g;have e:=J6 (by simpa using f) (by simpa using d) g;exact⟨by cases c;cases b;simpa using e.1,by cases m;cases a;simpa using e.2⟩
def AllOk.mth{g:An}{w:Ax}{K:AQ}{P:i8}{G:Gs}(h:AllOk g w K mg P G){d:Def}(e:P (f6 c m)=AA d):MthOk K mg (t4 G.cls (f6 c m)) c m d:=by
 obtain⟨j,i,f,b,a,M⟩:=h.mts _ d e by5;obtain⟨rfl,rfl⟩:=by8 b a f;exact M
def bt0{K:AQ}{d:Def}{ds:List D}{vs:List V}(r:IsDs K H ds vs):RelE K H (ac7 d ds) (L2.z9 d.N vs):=av6 r
def a07{a:List (AH×Obj)}{d:L2.St}{s:AK}(I:L2.Inv X a d H s)(b:∀x,X.fn x=AD)(g k:Str->Bool)(e:AG->AK->Prop):L2.Inv {X with fn:=g,ow:=k,xe:=e} a d H s:=
 ⟨⟨I.ok.mod,I.ok.kind,I.ok.glob,I.ok.blt,I.ok.above,I.ok.inj,I.ok.has,λx c _ h=>I.ok.cab x c (.inl (b x)) h,I.ok.hd,I.ok.frames,I.ok.stk,I.ok.exf,I.ok.bs,I.ok.bsz,I.ok.noex,I.ok.exfs,I.ok.funs,I.ok.frf⟩,I.os,I.bare,I.base,I.loc,I.cell,I.free,
  λx c h=>.inl ((I.freeC x c h).resolve_right λz=>by rw[b x]at z;exact absurd z.1 ∅),I.pin,I.hok,I.len⟩
abbrev Cxa(X:Cx):Cx:={X with fn:=λ_=>AD}
def W7{a:List (AH×Obj)}{b:L2.St}{s:AK}(I:L2.Inv (Cxa X) a b H s):L2.Inv X a b H s:=a07 I (λ_=>rfl) X.fn X.ow X.xe
abbrev G3(X:Cx)(l:List BN)(t:TS):Prop:=∀(pins:List (AH×Obj))(s:AK)(σ:L2.St)(H:Hp)(D:Ends),Inv (Cxa X) pins σ H s->t D σ H->AR (model X.prog X.w) X.A (execs l X.env) (SP X pins D) X.xe s
def G3.cons{x:BN}{m:List BN}{t u:DS}(h1:PS (Cxa X) x (upS X.K t))(h2:G3 X m (upS X.K u)):G3 X (x::m) (upS X.K λF g k=>t {F with nx:=u F} g k):=by
 intro e s o H D I h;obtain⟨g,k,l,z,y,w,j⟩:=h;refine KQ (thn (h1 e s o H {D with nx:=λσ' d=>∃env' c,RelE X.K d env' σ'/\RelS X.K c d/\u l env' c/\EndsR X.K c d l D} I ⟨g,k,_,z,y,w,⟨λenv' σ' d c ev hE' hS' q=>⟨env',c,hE',hS',q,j.after ev⟩,j.bk,j.ct,j.rt⟩⟩) λf s1 q=>?_);cases f with
 |next=>
  obtain⟨σ',d,i,env',c,e1,e2,e3,e4⟩:=q;exact h2 e s1 σ' d D i ⟨env',c,l,e1,e2,e3,e4⟩
 |ret v=>obtain⟨p,σ',d,i,q⟩:=q;exact⟨p,σ',d,W7 i,q⟩
 |brk=>obtain⟨σ',d,i,q⟩:=q;exact⟨σ',d,W7 i,q⟩
 |cont=>obtain⟨σ',d,i,q⟩:=q;exact⟨σ',d,W7 i,q⟩
theorem bl1(Z:Sg)(e:∀(b:Ss)(g:BH)(N:List Str)(l:List BN),mSs b g N l=AD->N.contains t5=AE->Tbs.mt b g N (.stmts l)){X:Cx}(d:XOk Z X)(f:HF X):∀(l:Ss)(a:List BN),mB l X.env.scope X.N a=AD->G3 X a (upS X.K (j7 Z l))
 |.nil,a,h=>λpins s σ H D I q=>J9 Z e .nil X a d f h pins s σ H D (W7 I) q
 |.cons x r,a,h=>by
  have c:mSs (.cons x r) X.env.scope X.N a=AD->G3 X a (upS X.K (j7 Z (.cons x r))):=λh pins s σ H D I q=>J9 Z e (.cons x r) X a d f h pins s σ H D (W7 I) q;cases x with
  |pre i=>
   cases a with
   |nil=>exact c h
   |cons s l=>
    have j:=an (show(mP i X.env.scope X.N s&&mB r X.env.scope X.N l)=AD from h);refine R0 (C:=λs=>G3 X (s::l) (upS X.K (j7 Z (.cons (.pre i) r)))) j.1 λt x p h1=>xN_ (C:=λt=>G3 X (.Assign [t] x p::l) (upS X.K (j7 Z (.cons (.pre i) r)))) (an h1).2 λy py h2=>?_;refine xD_ (C:=λx=>G3 X (.Assign [.Name y py] x p::l) (upS X.K (j7 Z (.cons (.pre i) r)))) (an h1).1 λl1 l2 p2 h3=>?_;have u:l1=[]:=JW.1 (an h3).1;have o:l2=[]:=JW.1 (an h3).2;subst u o;exact G3.cons (t:=λF env st=>∀p,st p=AF->F.nx (env.set i (AA (.ref p))) (b0 st p (.dct []))) (PS.imp (ap6 (X:=Cxa X) d.nd (beq_iff_eq.1 (an h2).1) (T6 (an h2).2) co0 rfl (.inl rfl)) λF σ H q=>q) (bl1 Z e d f r l j.2)
  |_=>exact c h
abbrev cxF(P:An)(w:Ax)(K:AQ)(mg:Str->Option AG)(base:BC)(N:List Str)(qual:Str)(scope:BH)(f:AH)(cd:AG)(A:BU)(outer:List Env)(s:AK)(H:Hp):Cx:=
 {ad7 CX0 P w K mg base N qual scope f cd A outer s H E0 with fn:=λy=>!(N.contains (z7 y)),ow:=λ_=>AD,xe:=λ_ _=>False}
def cu7{P:An}{w:Ax}{K:AQ}{d:BC}{k:Nat}{f:AH}{x c:Str}{N:List Str}{sp:Sp}(F:FunD K x c st f fd)(S:FnScope N ps (o6 st))
  (p:∀g H Q E,sp g H Q E->g.length=ps.length)
  (l:∀(A:BU)(a:List Env)(s:AK)(H:Hp)(g:List V)(Q:VK)(E:XK),Room k (A.deeper (HD c (o6 st) s.heap.objs.size f fd.code))->sp g H Q E ->
   ∃t,G3 (cxF P w K mg d N c (o6 st) f fd.code A a s H) (u1 st) t/\t {nx:=λ_ i=>Q .non i,rt:=Q} (L2.z9 N g) H) :
  FnOk P w K mg d CX0 (k+1) f fd ps sp:=by
 obtain⟨oc,od,dV,kV,Z,pm,an,m,ct,O,rfl,R,D⟩:=F.ex;refine⟨p,λA a s H args us g Q E hr e0 hb r hsp=>?_⟩;have Y:=p _ _ _ _ hsp;have L:K.In s.heap:=e0.mod.kin.keeps λb o e=>(e0.bs b o e).1;have C:s.heap.NoLimit:=e0.mod.nolimit.keeps λb o e=>(e0.bs b o e).1;have j:∀y∈ps.zip us,(o6 st).names.lookup y.1=AA .local\/((o6 st).names.lookup y.1=AA .cell/\((KY (s.heap.objs.size+1) (o6 st).names []).lookup y.1).isSome=AD):=λ⟨n,v⟩T=>by
  rcases S.par n (FI T).1 with q|q
  ·exact .inl q
  ·exact .inr ⟨q,Jk _ _ _ (.inl q)⟩
 refine codeAny_call_function hr.depth (L _ _ R) rfl S.co S.gen rfl (W.codeRec_of L D) (hb _ _ _ _ ?_);refine wpAny_newFunctionEnv_cells S.kind j λenv he s1 x=>?_;subst he;refine⟨C.keeps x.toInCall.keep,codeAny_func ?_⟩;obtain⟨t,U,X⟩:=l A a s H g Q E (hr.deeper _) hsp;have I0:Inv (ad7 CX0 P w K mg d N c (o6 st) f m A a s H E0) [] (L2.z9 N g) H s1:=bu1 S hr.hd e0 Y r x;have I:Inv (Cxa (cxF P w K mg d N c (o6 st) f m A a s H)) [] (L2.z9 N g) H s1:=a07 I0 (λ_=>rfl) _ _ _;refine Bg (U [] s1 (L2.z9 N g) H _ I X) (λfl s' hs=>?_) λe s' hs=>AU hs;have z:∀{h:L2.St}{i:Hp}{v:V}{u:AG},Inv (cxF P w K mg d N c (o6 st) f m A a s H) [] h i s'->i6 v u->Q v i->CE a P w H s Q u s':=
  λ{h i v u}J B q=>⟨v,i,J.os,J.bare,J.base,J.hok,B,q⟩
 cases fl with
 |ret u=>
  obtain⟨v,h,i,J,B,q⟩:=hs;exact z J B q
 |next=>
  obtain⟨h,i,J,q⟩:=hs;exact z (v:=V.non) (u:=Bc) J rfl q
 |brk=>
  obtain⟨_,_,_,q⟩:=hs;exact AU q
 |cont=>
  obtain⟨_,_,_,q⟩:=hs;exact AU q
section
variable {Pr:An} {w:Ax} {K:AQ} {base:BC} {P:i8} {G:Gs}
structure LvOk(Pr:An)(w:Ax)(K:AQ)(mg:Str->Option AG)(base:BC)(P:i8)(G:Gs)(n:Nat):Prop where
 fn:∀m,m<=n->∀(f:Str)(d:Def),P f=AA d->∀(a:AH)(fd:Bi)(ps:List Str),DefAt K f d a fd ps->FnOk Pr w K mg base CX0 m a fd ps (z4 K (sem P G m f))
 clo:∀np N b cs fa fd ps,CloF fd np N ps b->FnOk Pr w K mg base CX0 n fa fd ps (Y3 K fa fd np N cs (L6 P G n np N b cs))
@[reducible]noncomputable def Zl(P:i8)(G:Gs)(n:Nat):Sg:=⟨λf=>(P f).isSome,sem P G n,G.tab,G.cls,(w8 P G n).2.1,λf=>(w8 P G n).2.2.1&&(P f).isSome,L6 P G n,G.cst⟩
def bi0(p:AllOk Pr w K mg P G)(L:LvOk Pr w K mg base P G n)(y:X.prog=Pr)(v:X.w=w)(f:X.K=K)(l:X.mg=mg)(B:X.base=base)(u:Room n X.A)(calm:X.calm=AD)(xe:X.xe=λ_ _=>False)(nd:X.N.Nodup)
  (lam:X.N.contains t5=AD->LamOk X/\∀x,X.N.contains (z7 x)=AD->X.fn x=AE/\X.ow x=AD)
  (mt:∀b H N fb,mFB b H N fb->Tbs.mt b H N fb):XOk (Zl P G n) X where
 calm:=calm
 xe:=xe
 units:=by have:=u.un;lia
 nd:=nd
 blt:=by rw[l];exact p.blt
 fns:=λg hi hg=>by
  obtain⟨o,a⟩:=BO.mp hg;obtain⟨j,d,h,k,s,C,_⟩:=(p.fns g o a hi).ex;refine⟨n,j,d,h,?_,u,by rw[l];exact s,by rw[f];exact k.kp,by rw[f];exact k.binds,by rw[f];exact C⟩;rw[y,v,f,l,B];exact L.fn n (AS _) g o a j d h k
 fnd:=λg hi hg hd=>by
  obtain⟨o,a⟩:=BO.mp hg;obtain⟨j,d,h,k,s,C,I⟩:=(p.fns g o a hi).ex;refine⟨n,j,d,h,?_,u,by rw[l];exact s,by rw[f];exact k.kp,by rw[f];exact I hd⟩;rw[y,v,f,l,B];exact L.fn n (AS _) g o a j d h k
 nom:=λg ga hg hn=>by
  obtain⟨o,a⟩:=BO.mp hg;cases e:isM g with
  |false=>rfl
  |true=>
   obtain⟨c,m,rfl,_,_,M⟩:=p.mts g o a e;rw[f,M.nom]at hn;cases hn
 cls:=by rw[f];exact p.cls
 mth:=λm c Ca hc hg=>by
  obtain⟨o,a⟩:=BO.mp hg;obtain⟨z,j,d,h,k,q,t,F,E,J,_⟩:=(p.mth a).ex;rw[f,q]at hc;cases hc;refine⟨n,j,d,h,by rw[f];exact F,by rw[f];exact E,?_,u,by rw[f];exact k.binds⟩;rw[y,v,f,l,B];exact L.fn n (AS _) _ o a j d h k
 mthd:=λm c Ca i hc hg hi=>by
  obtain⟨o,a⟩:=BO.mp hg;obtain⟨z,j,d,h,k,q,t,F,E,J,D1⟩:=(p.mth a).ex;rw[f,q]at hc;cases hc;obtain⟨tk,I⟩:=D1 i hi;refine⟨n,j,d,h,tk,by rw[f];exact F,by rw[f];exact E,?_,u,by rw[f];exact I⟩;rw[y,v,f,l,B];exact L.fn n (AS _) _ o a j d h k
 mks:=λc hg=>by
  simp only[BJ]at hg;obtain⟨o,a⟩:=BO.mp hg.2;obtain⟨z,j,d,h,k,q,t,F,E,J,_⟩:=(p.mth a).ex;cases n with
  |zero=>exact absurd hg.1 AI
  |succ m=>
   refine⟨z,m,j,d,h,by rw[f];exact q,by rw[f];exact J rfl,?_,u,by rw[l];exact t,by rw[f];exact k.binds⟩;rw[y,v,f,l,B];exact L.fn m (Ie _) _ o a j d h k
 tabs:=by rw[y,v,f,l];exact p.tabs
 cst:=by rw[f,l];exact p.cst
 isc:=by rw[f,l];exact p.isc
 kt:=p.kt
 lam:=lam
 mtE:=λe H N x h1 h2=>mt _ _ _ _ ⟨h2,e,rfl,h1⟩
 clo:=λnp N b cs fa fd ps cf=>⟨n,by rw[y,v,f,l,B];exact L.clo np N b cs fa fd ps cf,u⟩
def cg7:LvOk Pr w K mg base P G 0:=by
 refine⟨λm hm f d hf a fd ps D=>?_,λnp N b cs fa fd ps cf=>?_⟩
 ·obtain rfl:m=0:=by lia
  have e:∀vs H Q E,¬z4 K (sem P G 0 f) vs H Q E:=λvs H Q E h=>by
   obtain⟨i,l,j,_,_,h,_⟩:=h;exact h
  exact⟨λvs H Q E h=>absurd h (e vs H Q E),λA outer s H args us vs Q E _ _ _ _ h=>absurd h (e vs H Q E)⟩
 ·have e:∀vs H Q E,¬Y3 K fa fd np N cs (L6 P G 0 np N b cs) vs H Q E:=λvs H Q E h=>by
   obtain⟨g,i,k,j,_,_,_,_,h,_⟩:=h;exact h
  exact⟨λvs H Q E h=>absurd h (e vs H Q E),λA outer s H args us vs Q E _ _ _ _ h=>absurd h (e vs H Q E)⟩
def b67(hA:AllOk Pr w K mg P G)(W:U6 mg base)(X:K.In base)(u:∀b j N p,mFB b j N p↔Tbs.mt b j N p)(L:LvOk Pr w K mg base P G n):LvOk Pr w K mg base P G (n+1):=by
 have r:∀(b:Ss)(j:BH)(N:List Str)(l:List BN),mSs b j N l=AD->N.contains t5=AE->Tbs.mt b j N (.stmts l):=λb j N l h1 h2=>(u _ _ _ _).mp ⟨h2,h1⟩;refine⟨λm hm f d hf a fd ps D=>?_,λnp N b cs fa fd ps cf=>?_⟩
 ·by_cases V:m<=n
  ·exact L.fn m V f d hf a fd ps D
  obtain rfl:m=n+1:=by lia
  obtain⟨st,x,F,S⟩:=D.ex;refine cu7 F S.sc (λvs H Q E h=>?_) (λA outer s H vs Q E hr h=>?_)
  ·obtain⟨ds,s0,Qd,O,_,T,_⟩:=h;obtain⟨d',i,hl,_⟩:=T;rw[hf]at i;cases i;rw[<-O.len,hl,S.np]
  ·obtain⟨ds,s0,Qd,O,rs,T,hq⟩:=h;obtain⟨d',i,hl,C⟩:=T;rw[hf]at i;cases i;have I:XOk (Zl P G n) (cxF Pr w K mg base d.N f (o6 st) a fd.code A outer s H):=bi0 hA L rfl rfl rfl rfl rfl hr rfl rfl S.sc.nd (λhl=>by
    obtain⟨c,P',e1,e2,e3⟩:=D.lam hl;refine⟨⟨⟨c,P',e1,Kz X e2,e3⟩,W⟩,λx hx=>⟨?_,rfl⟩⟩;show(!(d.N.contains (z7 x)))=AE;have R:d.N.contains (z7 x)=AD:=hx;rw[R];rfl) λb j N p=>(u b j N p).mp
   have Y:HF (cxF Pr w K mg base d.N f (o6 st) a fd.code A outer s H):=λy _ hy=>.inl (by
    show(!(d.N.contains (z7 y)))=AD;have o:d.N.contains (z7 y)=AE:=hy;rw[o];rfl)
   refine⟨_,bl1 _ r I Y d.body _ S.body,ac7 d ds,s0,_,bt0 O,rs,C,λenv σ H' st' ev hE hS q=>?_,λenv σ H' st' ev hE hS q=>q.elim,λenv σ H' st' ev hE hS q=>q.elim,λv e H' st' ev is' rs' q=>?_⟩
   ·obtain⟨M,g,q⟩:=q;exact hq _ .non H' M (ev.drop g) .non (hS.sub g) q
   ·obtain⟨M,g,q⟩:=q;exact hq v e H' M (ev.drop g) is' (rs'.sub g) q
 ·refine cj4 (Z:=Zl P G n) cf λq A outer s H hr=>?_;obtain⟨U,k⟩:=(u _ _ _ _).mpr cf.mt;have I:XOk (Zl P G n) (cxC Pr w K mg base N fd.scope fd.closure q fa fd.code A outer s H):=bi0 hA L rfl rfl rfl rfl rfl hr rfl rfl cf.sc.nd (λhl=>by
   have t:N.contains t5=AD:=hl;rw[U]at t;cases t) λb j N p=>(u b j N p).mp
  have Y:HF (cxC Pr w K mg base N fd.scope fd.closure q fa fd.code A outer s H):=λy hy _=>by
   have o:fd.scope.names.lookup y=AA .local\/fd.scope.names.lookup y=AA .cell:=hy
   rcases o with z|z
   ·exact .inr z
   ·exact absurd rfl (cf.sc.nocell _ (PySem.mem_of_lookup z))
  cases C:fd.body with
  |stmts l=>rw[C]at k;exact J9 _ r b _ l I Y k
  |expr x=>
   rw[C]at k;obtain⟨e,rfl,he⟩:=k;exact⟨e,rfl,(f9 _ e _ x I he).v⟩
theorem bg5(f:AllOk Pr w K mg P G)(a:U6 mg base)(c:K.In base)(e:∀b d N g,mFB b d N g↔Tbs.mt b d N g):∀n,LvOk Pr w K mg base P G n
 |0=>cg7
 |n+1=>b67 f a c e (bg5 f a c e n)
end
abbrev st0(a:AH)(ns:List Int):Sto:=λb=>if b=a then AA (.fro (ns.map D.int))else AF
theorem ay4{K:AQ}:∀a:List Int,IsDs K H (a.map D.int) (a.map V.int)
 |[]=>.nil
 |n::r=>.cons (.int n) (ay4 r)
abbrev S9(K:AQ):Bool:=K.all λp=>!(p.2.cls==.type "list")
def aw7{K:AQ}{o:Obj}(h:S9 K=AD)(e:K.lookup a=AA o):o.cls≠.type "list":=by
 unfold S9 at h;rw[Dy]at h;have g:(a,o)∈K:=by
  induction K with
  |nil=>cases e
  |cons p r f=>
   obtain⟨b,x⟩:=p;rw[Dw]at e;cases q:a==b with
   |true=>rw[q]at e;cases e;rw[beq_iff_eq.mp q];exact CG
   |false=>rw[q]at e;exact Ar _ (f (λp hp=>h p (Ar _ hp)) e)
 have:=h _ g;simpa using this
end Ek
namespace Ek
open PySem PySem.Spec PyProof.Rows L2
def bv7{P:An}{w:Ax}{K:AQ}{mg O:Str->Option AG}{k:Nat}{fa a:AH}{fd:Bi}{x:Str}{sp:Sp}{c:AK}{vs:List AG}{ns:List Int}{ts:List AH}
  (KX:K.In c.heap) (t:c.heap.Ns AO mg) (i:c.heap.Ns Cu O) (T:∀x:Str,x≠"__name__"->O x=BG x) (y:c.heap.NoLimit) (S:U6 mg c.heap) (hg:c.gens=#[])
  (A:c.heap.get? a=AA {cls:=.type "list",data:=.seq vs.toArray}) (hi:Il vs ns) (hl:ns.length<=sizeLine) (hr:Room k Hi)
  (E:∀P∈ts,c.heap.get? P=AA (HX #[])/\isCodeTable c.heap P) (U:∀P∈ts,K.lookup P=AF) (W:K.lookup a=AF)
  (F:∀g:BC,K.In g->g.Ns AO mg->U6 mg g->FnOk P w K mg g CX0 k fa fd [x] sp) (p:FH c fd ⟨[.ref a],[]⟩ [(x,.ref a)])
  (Q:∀H:Hp,(∀P∈ts,H P=AA (.tbl #[]))->SqL K H a (ns.map V.int)->sp [.ref a] H (λv _=>v=.bl AD) λ_ _ _=>False) :
  Dq (model P w) Hi (.call (.ref fa) ⟨[.ref a],[]⟩) (λr s'=>r=.ok (.ret (.bool AD))/\OldK c.heap s'.heap/\s'.os=c.os/\Gc s'.gens) c:=by
 have rv:=ax7 hi;have N:a∉ts:=λz=>by
  have:=(E a z).1;rw[A]at this;cases this
 let H:Hp:=λb=>if b=a then AA (.frz {cls:=.type "list",data:=.seq vs.toArray} (.lst (ns.map V.int)))else if b∈ts then AA (.tbl #[])else AF
 have L:H a=AA (.frz {cls:=.type "list",data:=.seq vs.toArray} (.lst (ns.map V.int))):=if_pos rfl;have Ht:∀P∈ts,H P=AA (.tbl #[]):=λP hP=>by
  have ne:P≠a:=λz=>N (z▸hP);show(if P=a then _ else if P∈ts then _ else _)=_;rw[if_neg ne,if_pos hP]
 have J:∀b u,H b=AA u->b=a\/b∈ts:=λb u e=>by
  by_cases I:b=a
  ·exact .inl I
  ·by_cases G:b∈ts
   ·exact .inr G
   ·have e':(if b=a then AA (HO.frz {cls:=.type "list",data:=.seq vs.toArray} (.lst (ns.map V.int)))else if b∈ts then AA (.tbl #[])else AF)=AA u:=e;rw[if_neg I,if_neg G]at e';cases e'
 have R:HOk P w H c.heap:=λb u e=>by
  rcases J b u e with rfl|i
  ·rw[L]at e;cases e;exact⟨A,by rw[AW];exact hl,vs,_,rv,A⟩
  ·rw[Ht b i]at e;cases e;exact(E b i).1
 have E5:∀{b:AH}{o:Obj},c.heap.get? b=AA o->H b=AF->(G6 c.heap H).get? b=AA o:=λe n=>b43 e n;have f:∀b o,c.heap.get? b=AA o->(∀M n,o.data≠.seq M n)->(∀M,o.data≠.fields M)->H b=AF:=λb o e n1 n2=>by
  cases q:H b with
  |none=>rfl
  |some u=>
   rcases J b u q with rfl|i
   ·rw[A]at e;cases e;exact absurd rfl (n1 _ _)
   ·rw[(E b i).1]at e;cases e;exact absurd rfl (n2 _)
 have j:∀{b:AH}{m:Str->Option AG},c.heap.Ns b m->(G6 c.heap H).Ns b m:=λ{b m}⟨o,es,ep,e,d,r⟩=>⟨o,es,ep,E5 e (f b o e (by rw[d];exact λ_ _=>nofun) (by rw[d];exact λ_=>nofun)),d,r⟩;have B:K.In (G6 c.heap H):=λb o e=>E5 (KX b o e) (by
  cases q:H b with
  |none=>rfl
  |some u=>
   rcases J b u q with rfl|i
   ·rw[W]at e;cases e
   ·rw[U b i]at e;cases e)
 have X:U6 mg (G6 c.heap H):=by
  obtain⟨bm,ob,b1,b2,b3,b4,b5,b6⟩:=S;exact⟨bm,ob,b1,b2,E5 b3 (f bm ob b3 (by rw[b6];exact λ_ _=>nofun) (by rw[b6];exact λ_=>nofun)),b4,b5,b6⟩
 have hM:Mod K mg (G6 c.heap H):=⟨B,j t,⟨O,j i,T⟩,let⟨mc,I,G⟩:=y;⟨mc,j I,G⟩⟩;have e0:Env0 P w K mg (G6 c.heap H) Hi [] c H:=⟨rfl,hM,λb o e=>cb3 e,KU (bu8 _ _),trivial,λb i=>absurd (show b∈([]:List AH) from i) ∎,R,.of_eq hg⟩;refine Gh ((F _ B (j t) X).run Hi [] c H ⟨[.ref a],[]⟩ [.ref a] [.ref a] _ _ hr e0 p (.cons rfl .nil) (Q H Ht (.inl (.inr ⟨_,L⟩)))) λr s' h=>?_;cases r with
 |error e=>exact AU h
 |ok fl=>
  cases fl with
  |next=>exact AU h
  |brk=>exact AU h
  |cont=>exact AU h
  |ret u=>
   obtain⟨v,H',os,C,D,l,r',q⟩:=h;have q':v=.bl AD:=q;subst q';obtain rfl:u=FY AD:=r';refine⟨rfl,⟨λb o e=>?_,λb o e=>D.there b o e ∎⟩,os,C⟩;cases q:H b with
   |none=>exact .inl (D.keep b o e q (by intro z;exact absurd (show b∈([]:List AH) from z) ∎) ∎)
   |some u=>
    rcases J b u q with rfl|i
    ·rw[L]at q;cases q;have z2:=D.frzs b _ _ L;obtain⟨Z,_⟩:=l b _ z2;rw[A]at e;cases e;exact .inl Z
    ·obtain⟨t1,t2⟩:=E b i;rw[t1]at e;cases e;obtain⟨s,z⟩:=D.tbls b _ (Ht b i);have Z:=l b _ z;exact .inr (.inl ⟨t2,rfl,#[],s,rfl,Z⟩)
def bn5 [Tbs]{K:AQ}{h:BC}{a:AH}{o:Obj}(X:K.In h)(c:S9 K=AD)(e:h.get? a=AA o)(d:o.cls=.type "list"):K.lookup a=AF:=by
 cases q:K.lookup a with
 |none=>rfl
 |some b=>
  have:=X a b q;rw[e]at this;cases this;exact absurd d (aw7 c q)
def cb6{l:W.OpenLaw}{q:An}{i:List Str}{XP:(Str->Option AG)->BC->Prop}{Q:Ax->BC->Prop}{d:DefRec}{K:Params->AQ}{P:i8}{G:Gs}{n:Nat}{x:Str}{dl:Def}{ts:List AH}
  (X:l.most=AA 63) (D:d.params.defaults=[]) (C:d.name="law") (V:Room n Hi) (hY:∀(w:Ax)(h:BC),Q w h->(K w.params).In h/\∀P∈ts,h.get? P=AA (HX #[])) (N:P "law"=AA dl)
  (B:∀A u,Stat0 A dl u->u=[x])
  (F:∀(w:Ax)(v:Str->Option AG)(h:BC),(K w.params).In h->h.Ns AO v->(letI:Tbs:=⟨ts,mFB,(G.cls "!kt").isEmpty⟩;AllOk l.prog w (K w.params) v P G)/\S9 (K w.params)=AD/\Ir (K w.params)=AD/\∀P∈ts,∃c,CP (K w.params) c P=AD)
  (t:∀(a:AH)(p:List Int),p.length<=63->sem P G n "law" [.ref a] (st0 a p) λd _=>d=.bl AD) :
  W.WalkO q i XP Q l.row.toRowW d [] (λf vs=>PySem.call f vs):=by
 letI:Tbs:=⟨ts,mFB,(G.cls "!kt").isEmpty⟩
 refine Att.attach_call X D λw s₀ s₁ v mb fa o pm cd doc a vs p GG Y ho hd hcd hmg hobj hints hlen hg=>?_;obtain⟨r,j⟩:=hY w _ Y;obtain⟨O,s,k,hC⟩:=F w v _ r GG.T.g;obtain⟨ad,fd,u,L,M,_,_⟩:=(O.fns "law" dl N (by decide+kernel)).ex;obtain⟨A,y,Ff,Sf⟩:=L.ex;have e:=B A u Sf;subst e;rw[C]at hmg;have ea:fa=ad:=by rw[hmg]at M;cases M;rfl
 subst ea;have J:(K w.params).lookup a=AF:=bn5 r s hobj rfl;refine bv7 (ts:=ts) (sp:=z4 (K w.params) (sem P G n "law")) r GG.T.g GG.T.b GG.T.builtins GG.T.nolimit GG.T.bmain hg hobj hints (BB hlen ∅) V (λP hP=>⟨j P hP,?_⟩) (λP hP=>?_) J (λbase H hbg hbm=>(bg5 O hbm H (λ_ _ _ _=>Iff.rfl) n).fn n (AS _) "law" dl N fa fd [x] L) (L.bd _ [.ref a] r rfl) (λH hH I=>?_)
 ·obtain⟨c,E⟩:=hC P hP;exact((Kz r E).tab (j P hP)).isCodeTable
 ·cases qq:(K w.params).lookup P with
  |none=>rfl
  |some S=>
   have z:=r P S qq;rw[j P hP]at z;cases z;unfold Ir at k;rw[Dy]at k;exact absurd (k _ (W.mem_of_lookupK qq)) AI
 ·refine⟨[.ref a],st0 a p,_,.cons (.ref a) .nil,⟨λb o e=>?_,λP hP=>⟨#[],hH P hP,trivial,λpos cv z=>by cases z⟩⟩,t a p hlen,λv d' H' st' ev is rs q=>?_⟩
  ·unfold st0 at e
   split at e
   ·rename_i H;cases e;subst H
    rcases I with I|⟨ob,U,m,Z,E,_⟩
    ·exact⟨_,I,ay4 p⟩
    ·exact absurd E (aw7 s Z)
   ·cases e
  ·have R:d'=.bl AD:=q;subst R;cases is;rfl
abbrev b86(P:AH)(o:Obj):Bool:=match o with
 |⟨.type "code",_,.fields vs,_⟩=>(match(vs[11]?:Option AG)with|some (.ref P')=>P'==P|_=>AE)
 |_=>AE
abbrev as0(K:AQ)(ts:List AH):Bool:=ts.all λP=>match K.find? λp=>b86 P p.2 with
 |some p=>CP K p.1 P
 |none=>AE
def b96{K:AQ}{ts:List AH}(h:as0 K ts=AD):∀P∈ts,∃c,CP K c P=AD:=λP hP=>by
 unfold as0 at h;rw[Dy]at h;have:=h P hP
 split at this
 ·exact⟨_,this⟩
 ·cases this
abbrev ar2(K:AQ)(cd:AG):Option (AH×AH):=match cd with
 |.ref c=>(match K.lookup c with
  |some ⟨_,_,.fields vs,_⟩=>(match(vs[11]?:Option AG)with|some (.ref P)=>AA (c,P)|_=>AF)
  |_=>AF)
 |_=>AF
def cu9{K:AQ}{a:AG}{c P:AH}{ts:List AH}(h:ar2 K a=AA (c,P))(d:CP K c P=AD)(b:ts.contains P=AD):∃c P,a=.ref c/\CP K c P=AD/\P∈ts:=by
 unfold ar2 at h
 split at h
 ·split at h
  ·split at h
   ·cases h;exact⟨_,_,rfl,d,by simpa using b⟩
   ·cases h
  ·cases h
 ·cases h
end Ek
namespace Ek
open PySem L2
def aj5(s:String):Aa s=⟨(s.toList.map Fk).toArray⟩:=by
 unfold Aa;rw[cpsOfBytes_string]
def bo3:∀(x y:Char),x.toNat=y.toNat->x=y:=λx y h=>Char.ext (UInt32.toNat_inj.mp h)
theorem ax0:∀(a b:List Char),a.map Fk=b.map Fk->a=b
 |[],[],_=>rfl
 |[],_::_,h=>by simp at h
 |_::_,[],h=>by simp at h
 |x::a,y::b,h=>by
  simp only[As,Aq]at h;rw[bo3 x y h.1,ax0 a b h.2]
def u6{a b:String}:(Aa a=Aa b)=(a=b):=by
 refine propext ⟨λh=>?_,λh=>by rw[h]⟩;rw[aj5,aj5]at h;simp only[Str.mk.injEq]at h;have c:a.toList.map Fk=b.toList.map Fk:=by simpa using h
 exact String.toList_inj.mp (ax0 _ _ c)
def r9(s:String):(D.str (Aa s)).pure=AD:=by
 show Jf (Aa s)=AD;unfold Jf;rw[aj5];simp only[List.all_toArray,List.all_map,Dy];intro c _;have h:=c.valid;simp only[UInt32.isValidChar,Nat.isValidChar]at h;simp only[Function.comp_apply,decide_eq_true_eq];show c.val.toNat<1114112;lia
variable{L:List AH}{st st':Sto}{a b c e v:E}{p:AH}{o u:Ob}{Q:DK}{f g:Str}{np i:Nat}{N:List Str}{es:Es}
abbrev Kp(L:List AH)(st st':Sto):Prop:=∀b o,b∉L->st b=AA o->st' b=AA o
def Kp.refl:Kp L st st:=λ_ _ _ h=>h
def Kp.trans{a b c:Sto}(x:Kp L a b)(y:Kp L b c):Kp L a c:=λd o n h=>y d o n (x d o n h)
def Kp.more{M:List AH}{a b:Sto}(x:Kp L a b)(s:∀d∈L,d∈M):Kp M a b:=λd o n h=>x d o (λz=>n (s d z)) h
def Kp.new(x:Kp L st st')(h:st' p=AF):Kp L st (b0 st' p o):=λd u n e=>by
 have a:=x d u n e;rw[E2 (λz=>by rw[z,h]at a;cases a)];exact a
def Kp.put(x:Kp L st st')(h:p∈L):Kp L st (b0 st' p o):=λd u n e=>by
 rw[E2 (λz=>n (by rw[z];exact h))];exact x d u n e
def Kp.at'{b:AH}(x:Kp L st st')(h:st b=AA o)(n:b∉L):st' b=AA o:=x b o n h
def l5{a:AH}(h:st a=AA o)(b:st p=AF):b0 st p u a=AA o:=by
 rw[E2 (λz=>by rw[z,b]at h;cases h)];exact h
def j9{a:AH}(h:st a=AA o)(b:st p=AF):a≠p:=λz=>by rw[z,b]at h;cases h
def f7{a:AH}(h:st a=AA o)(n:a≠p):b0 st p u a=AA o:=by
 rw[E2 n];exact h
def O4{a:AH}:b0 (b0 st a o) a u=b0 st a u:=by
 funext b;unfold b0;split<;>rfl
abbrev o8(st:Sto)(a:AH):Prop:=∃l:List Int,st a=AA (.lst (l.map .int))
def o8.new{b:AH}(h:o8 st b)(a:st p=AF):o8 (b0 st p u) b:=let⟨l,e⟩:=h;⟨l,l5 e a⟩
def o8.ne{b:AH}(h:o8 st b)(a:st p=AF):b≠p:=let⟨l,e⟩:=h;j9 e a
abbrev o0(Q:DK):DEnds:={nx:=λ_ st'=>∃s2,Sub s2 st'/\Q .non s2,rt:=λd st'=>∃s2,Sub s2 st'/\Q d s2}
def c9{d:D}(h:Q d st):(o0 Q).rt d st:=⟨st,Sub.refl st,h⟩
def bc1{env:j6}(h:Q .non st):(o0 Q).nx env st:=⟨st,Sub.refl st,h⟩
@[reducible]noncomputable def Zg(P:i8)(G:Gs)(n:Nat):Sg:=⟨λf=>(P f).isSome,sem P G n,G.tab,G.cls,(w8 P G n).2.1,λf=>(w8 P G n).2.2.1&&(P f).isSome,L6 P G n,G.cst⟩
def i5{P:i8}{G:Gs}{n:Nat}{fd:Def}{ds:List D}(c:P f=AA fd)(a:ds.length=fd.np)(env:j6)(b:ac7 fd ds=env)
  (h:j7 (Zg P G n) fd.body (o0 Q) env st):sem P G (n+1) f ds st Q:=by
 rw[b30];exact⟨fd,c,a,by rw[b];exact h⟩
def P1{P:i8}{G:Gs}{n:Nat}{b:Ss}{a ds:List D}(c:ds.length=np)(env:j6)(d:N4 N ds a=env)
  (h:j7 (Zg P G n) b (o0 Q) env st):L6 P G (n+1) np N b a ds st Q:=by
 rw[bu2];exact⟨c,by rw[d];exact h⟩
section
variable {Z:Sg} {F:DEnds} {env:j6} 
def ci4{s:S}{r:Ss}:j7 Z (.cons s r) F env st=wpS Z s ⟨j7 Z r F,F.rt,F.bk,F.ct⟩ env st:=rfl
def c12:j7 Z .nil F env st=F.nx env st:=rfl
def c16:wpS Z (.set i e) F env st=wpE Z e env st λd st1=>F.nx (env.set i (AA d)) st1:=rfl
def cw8:wpS Z (.pre i) F env st=∀p,st p=AF->F.nx (env.set i (AA (.ref p))) (b0 st p (.dct [])):=rfl
def cq2{o i:E}:wpS Z (.iput o i v) F env st=wpE Z v env st λd st1=>wpE Z o env st1 λx st2=>wpE Z i env st2 λy st3=>aq4 x y d st3 λst4=>F.nx env st4:=rfl
def cj9{o i:E}:wpS Z (.dput o i v) F env st=wpE Z v env st λd st1=>wpE Z o env st1 λx st2=>wpE Z i env st2 λy st3=>ar5 x y d st3 λst4=>F.nx env st4:=rfl
def cy9{o i:E}:wpS Z (.put o i v) F env st=wpE Z v env st λd st1=>wpE Z o env st1 λx st2=>wpE Z i env st2 λy st3=>∃a j k b,x=.ref a/\y=.int j/\st3 a=AA (.lst b)/\ixN b.length j=AA k/\F.nx env (b0 st3 a (.lst (b.set k d))):=rfl
def cy8{a:List Nat}:wpS Z (.unp a e) F env st=wpE Z e env st λd st1=>D6 (.tup a) d env λenv'=>F.nx env' st1:=rfl
def dc4:wpS Z (.ex e) F env st=wpE Z e env st λ_ st1=>F.nx env st1:=rfl
def c32{a b:Ss}:wpS Z (.iff c a b) F env st=wpE Z c env st λd st1=>∃k,d=.bl k/\if k=AD then j7 Z a F env st1 else j7 Z b F env st1:=rfl
def c03:wpS Z (.ret e) F env st=wpE Z e env st F.rt:=rfl
def ch2:wpS Z .retN F env st=F.rt .non st:=rfl
def cy3{t:Tg}{it:It}{b:Ss}:wpS Z (.for t it b) F env st=A7 Z it env st λitems chk st1=>y6 chk t (j7 Z b) F items env st1:=rfl
def cv1:wpS Z .cont F env st=F.ct env st:=rfl
def c80{b:Ss}:wpS Z (.tr b) F env st=j7 Z b F env st:=rfl
def cs3:wpS Z .pass F env st=F.nx env st:=rfl
def c50:wpE Z .non env st Q=Q .non st:=rfl
def c82{b:Bool}:wpE Z (.bl b) env st Q=Q (.bl b) st:=rfl
def bj3{i:Int}:wpE Z (.int i) env st Q=Q (.int i) st:=rfl
def c20{x:Str}:wpE Z (.str x) env st Q=Q (.str x) st:=rfl
def e_v:wpE Z (.v i) env st Q=∃d,env[i]?=AA (AA d)/\Q d st:=rfl
def c31:wpE Z (.tup es) env st Q=u0 Z es env st λds st1=>Q (.tup ds) st1:=rfl
def c00:wpE Z (.lst es) env st Q=u0 Z es env st λds st1=>∀p,st1 p=AF->Q (.ref p) (b0 st1 p (.lst ds)):=rfl
def cx9{o:Ez}:wpE Z (.bin o a b) env st Q=wpE Z a env st λx st1=>wpE Z b env st1 λy st2=>B0 o x y st2 Q:=rfl
def cx2:wpE Z (.neg a) env st Q=wpE Z a env st λx st1=>∃i,x=.int i/\Q (.int (-i)) st1:=rfl
def c02{o:Dn}:wpE Z (.cmp o a b) env st Q=wpE Z a env st λx st1=>wpE Z b env st1 λy st2=>o9 o x y st2 Q:=rfl
def cz6:wpE Z (.isN a) env st Q=wpE Z a env st λx st1=>(x=.non/\Q (.bl AD) st1)\/(x≠.non/\Q (.bl AE) st1):=rfl
def cn5:wpE Z (.notN a) env st Q=wpE Z a env st λx st1=>(x=.non/\Q (.bl AE) st1)\/(x≠.non/\Q (.bl AD) st1):=rfl
def c56:wpE Z (.and a b) env st Q=wpE Z a env st λx st1=>∃c,x=.bl c/\(if c=AD then wpE Z b env st1 Q else Q (.bl AE) st1):=rfl
def de2:wpE Z (.or a b) env st Q=wpE Z a env st λx st1=>∃c,x=.bl c/\(if c=AD then Q (.bl AD) st1 else wpE Z b env st1 Q):=rfl
def c19:wpE Z (.not a) env st Q=wpE Z a env st λx st1=>∃c,x=.bl c/\Q (.bl (!c)) st1:=rfl
def c49:wpE Z (.ite c a b) env st Q=wpE Z c env st λx st1=>∃k,x=.bl k/\(if k=AD then wpE Z a env st1 Q else wpE Z b env st1 Q):=rfl
def c99:wpE Z (.ix a b) env st Q=wpE Z a env st λx st1=>wpE Z b env st1 λy st2=>ixR x y st2 Q:=rfl
abbrev bnd(Z:Sg)(e:E)(env:j6)(st:Sto):(Option Int->Sto->Prop)->Prop:=if e.isNon=AD then λk=>k AF st else λk=>wpE Z e env st λd st'=>∃i,d=.int i/\k (AA i) st'
def b57{k:Option Int->Sto->Prop}:bnd Z .non env st k=k AF st:=rfl
def M6{k:Option Int->Sto->Prop}(h:e.isNon=AE):bnd Z e env st k=wpE Z e env st λd st'=>∃i,d=.int i/\k (AA i) st':=by
 unfold bnd;rw[h];rfl
def ca9{i:Int}{k:Option Int->Sto->Prop}:bnd Z (.int i) env st k=k (AA i) st:=by
 rw[M6 rfl,bj3];exact propext ⟨λ⟨_,h,q⟩=>by cases h;exact q,λq=>⟨_,rfl,q⟩⟩
def cz2{lo hi:E}:wpE Z (.slw a lo hi) env st Q=wpE Z a env st λx st1=>bnd Z lo env st1 λl st2=>bnd Z hi env st2 λh st3=>ad3 x l h st3 Q:=rfl
def c84{lo hi:E}:wpE Z (.sl a lo hi) env st Q=wpE Z a env st λx st1=>bnd Z lo env st1 λl st2=>bnd Z hi env st2 λh st3=>slR x l h st3 Q:=rfl
def cp3{k:E}:wpE Z (.gsel g k) env st Q=(Z.G g≠[]/\wpE Z k env st λx st1=>∃w d,x=.str w/\u3 (Z.G g) w=AA d/\Q d st1):=rfl
def c46:wpE Z (.len a) env st Q=wpE Z a env st λx st1=>R1 x st1 Q:=rfl
def b62:wpE Z (.toInt a) env st Q=wpE Z a env st λx st1=>X4 x st1 Q:=rfl
def ct9:wpE Z (.list a) env st Q=wpE Z a env st λx st1=>X7 x st1 Q:=rfl
def ce6:wpE Z (.tuple a) env st Q=wpE Z a env st λx st1=>T7 x st1 Q:=rfl
def c52:wpE Z (.min a b) env st Q=wpE Z a env st λx st1=>wpE Z b env st1 λy st2=>∃i j,x=.int i/\y=.int j/\Q (.int (if j<i then j else i)) st2:=rfl
def cs4:wpE Z (.lzip a b) env st Q=wpE Z a env st λx st1=>wpE Z b env st1 λy st2=>∃d c,x=.tup d/\y=.tup c/\min d.length c.length<=1000000/\∀p,st2 p=AF->Q (.ref p) (b0 st2 p (.lst (F5 d c))):=rfl
def c26:wpE Z (.max a b) env st Q=wpE Z a env st λx st1=>wpE Z b env st1 λy st2=>∃i j,x=.int i/\y=.int j/\Q (.int (if j>i then j else i)) st2:=rfl
def ch1:wpE Z (.call f es) env st Q=(Z.F f=AD/\u0 Z es env st λds st1=>Z.Phi f ds st1 Q):=rfl
def c91:wpE Z (.gf f) env st Q=(Z.F f=AD/\Q (.fn f) st):=rfl
def ce3:wpE Z (.callx c es) env st Q=wpE Z c env st λx st1=>∃f,x=.fn f/\Z.F f=AD/\u0 Z es env st1 λds st2=>Z.Phi f ds st2 Q:=rfl
def cn1{k d:E}:wpE Z (.gget g k d) env st Q=(Z.G g≠[]/\wpE Z k env st λx st1=>wpE Z d env st1 λy st2=>∃w,x=.str w/\Q ((u3 (Z.G g) w).getD y) st2):=rfl
def cw5:wpE Z (.fld a f) env st Q=wpE Z a env st λx st1=>∃p c b d,x=.ref p/\st1 p=AA (.ins c b)/\f∈Z.C c/\b.lookup f=AA d/\Q d st1:=rfl
def cr3{m:Str}:wpE Z (.meth a m es) env st Q=wpE Z a env st λx st1=>∃p c b,x=.ref p/\st1 p=AA (.ins c b)/\b.lookup m=AF/\Z.F (f6 c m)=AD/\u0 Z es env st1 λds st2=>Z.Phi (f6 c m) (.ref p::ds) st2 Q:=rfl
def cl4{c:Str}:wpE Z (.make c es) env st Q=(Z.MF (f6 c "__init__")=AD/\u0 Z es env st λds st1=>∀p,st1 p=AF->Z.Mk (f6 c "__init__") (.ref p::ds) (b0 st1 p (.ins c [])) λv st2=>v=.non/\Q (.ref p) st2):=rfl
def cq9{o:E}:wpS Z (.fldS o f v) F env st=wpE Z v env st λd st1=>wpE Z o env st1 λx st2=>∃p c a,x=.ref p/\st2 p=AA (.ins c a)/\f∈Z.C c/\a.length<1000/\F.nx env (b0 st2 p (.ins c (l0 f d a))):=rfl
def ck6:wpS Z .dead F env st=False:=rfl
def b91:wpE Z (.callv i es) env st Q=∃x,env[i]?=AA (AA x)/\V0 Z (u0 Z es env) st Q x:=rfl
def c41{a:Sto->(List D->Sto->Prop)->Prop}:V0 Z a st Q (.fn f)=(Z.F f=AD/\a st λds st1=>Z.Phi f ds st1 Q):=rfl
def co8{a:Sto->(List D->Sto->Prop)->Prop}{b:Ss}{c:List D}:V0 Z a st Q (.clo np N b c)=a st λds st1=>Z.PhiC np N b c ds st1 Q:=rfl
abbrev V4(env:j6):List Nat->(List D->Prop)->Prop
 |[],k=>k []
 |i::is,k=>∃d,env[i]?=AA (AA d)/\V4 env is λds=>k (d::ds)
def b41{k:List D->Prop}:V4 env [] k=k []:=rfl
def ay3{a:List Nat}{k:List D->Prop}:V4 env (i::a) k=∃d,env[i]?=AA (AA d)/\V4 env a λds=>k (d::ds):=rfl
theorem aq1:∀{e:List Nat}{k:List D->Prop},(∃c,L8 env e=AA c/\k c)=V4 env e k
 |[],k=>propext ⟨λ⟨_,h,q⟩=>by cases h;exact q,λq=>⟨_,rfl,q⟩⟩
 |i::j,k=>by
  rw[ay3];refine propext ⟨λ⟨c,h,q⟩=>?_,λ⟨d,f,q⟩=>?_⟩
  ·unfold L8 at h
   split at h
   ·rename_i d ds g b;cases h;exact⟨d,g,(aq1 (k:=λds=>k (d::ds)))▸⟨ds,b,q⟩⟩
   ·cases h
  ·rw[<-aq1]at q;obtain⟨ds,b,q⟩:=q;exact⟨d::ds,by unfold L8;rw[f,b],q⟩
def c68{a:List Nat}{b:Ss}:wpS Z (.dfn i np N a b) F env st=V4 env a λcs=>F.nx (env.set i (AA (.clo np N b cs))) st:=aq1
def db0:wpE Z (.gc g) env st Q=∃d,Z.Kc g=AA d/\Q d st:=rfl
def cv9{t:String}:wpE Z (.isT t a) env st Q=wpE Z a env st λx st1=>Y0 t x st1 Q:=rfl
def cp6{c:Bool}:wpE Z (.cmpl c a b) env st Q=wpE Z a env st λx st1=>wpE Z b env st1 λy st2=>Q3 c x y st2 Q:=rfl
def c04:wpE Z (.app a b) env st Q=wpE Z a env st λx st1=>C6 x st1/\wpE Z b env st1 λy st2=>Y9 x y st2 Q:=rfl
def c09:wpE Z (.ext a b) env st Q=wpE Z a env st λx st1=>C6 x st1/\wpE Z b env st1 λy st2=>V6 x y st2 Q:=rfl
def b69:wpE Z (.popAt a b) env st Q=wpE Z a env st λx st1=>C6 x st1/\wpE Z b env st1 λy st2=>ap4 x y st2 Q:=rfl
def cw0:wpE Z (.pop a) env st Q=wpE Z a env st λx st1=>Z3 x st1 Q:=rfl
def b51:wpE Z (.calln f es) env st Q=(Z.F f=AD/\t4 Z.C f=AA 0/\u0 Z es env st λds st1=>Z.Phi f (ds++[.non]) st1 Q):=rfl
def b53{m:Str}:wpE Z (.methd a m es) env st Q=wpE Z a env st λx st1=>∃p c b i,x=.ref p/\st1 p=AA (.ins c b)/\b.lookup m=AF/\Z.F (f6 c m)=AD/\t4 Z.C (f6 c m)=AA i/\u0 Z es env st1 λds st2=>Z.Phi (f6 c m) (.ref p::(ds++[.int i])) st2 Q:=rfl
def cx7:wpE Z (.any a) env st Q=wpE Z a env st λx st1=>as2 x st1 Q:=rfl
def c40:wpE Z .dnt env st Q=(Z.C "!kt"≠[]/\∀p,st p=AF->Q (.ref p) (b0 st p (.dtt []))):=rfl
def c44:wpE Z (.dgt a b) env st Q=wpE Z a env st λx st1=>at7 x st1/\wpE Z b env st1 λy st2=>as4 x y st2 Q:=rfl
def cx1{c:Bool}:wpE Z (.din c a b) env st Q=wpE Z a env st λx st1=>wpE Z b env st1 λy st2=>R3 c x y st2 Q:=rfl
def cj5:wpE Z (.lrev a) env st Q=wpE Z a env st λx st1=>Y8 x st1 Q:=rfl
def cp1{Q:List D->Sto->Prop}:u0 Z .nil env st Q=Q [] st:=rfl
def b80{r:Es}{Q:List D->Sto->Prop}:u0 Z (.cons e r) env st Q=wpE Z e env st λd st1=>u0 Z r env st1 λds st2=>Q (d::ds) st2:=rfl
abbrev L7(Z:Sg)(c:E):DB:=if c.isNon=AD then λ_ st Q=>Q AD st else λenv st Q=>wpE Z c env st λd st'=>∃b,d=.bl b/\Q b st'
def cj3{a:List Str}{fr:List Nat}{k:Nat}{t:Tg}{it:It}:wpE Z (.comp a fr k t it c e) env st Q=A7 Z it env st λitems chk st1=>items.length<=1000000/\A0 chk t (L7 Z c) (λenv st Q=>wpE Z e env st Q) (λacc st'=>∀p,st' p=AF->Q (.ref p) (b0 st' p (.lst acc))) items [] (O9 fr k env) st1:=rfl
variable {k:ItK}
def cx0:A7 Z (.seq e) env st k=wpE Z e env st λd st1=>(∃b,d=.tup b/\k b (λ_=>True) st1)\/(∃a b,d=.ref a/\rdS st1 a b/\k b (λst'=>rdS st' a b) st1):=rfl
def c43:A7 Z (.rng a) env st k=wpE Z a env st λd st1=>∃j:Int,d=.int j/\(-(2^62)<=j/\j<2^62)/\k (p5 0 j.toNat) (λ_=>True) st1:=rfl
def cq4:A7 Z (.rng2 a b) env st k=wpE Z a env st λd st1=>wpE Z b env st1 λe st2=>∃i j:Int,d=.int i/\e=.int j/\(-(2^62)<=i/\i<2^62/\-(2^62)<=j/\j<2^62)/\k (p5 i (j-i).toNat) (λ_=>True) st2:=rfl
def cp4:A7 Z (.revt e) env st k=wpE Z e env st λd st1=>∃a,d=.tup a/\k a.reverse (λ_=>True) st1:=rfl
def cj2:A7 Z (.enum e) env st k=wpE Z e env st λd st1=>(∃b,d=.tup b/\k (r6 0 b) (λ_=>True) st1)\/(∃a b,d=.ref a/\rdS st1 a b/\k (r6 0 b) (λst'=>rdS st' a b) st1):=rfl
def c54:A7 Z (.rev e) env st k=wpE Z e env st λd st1=>∃a b,d=.ref a/\rdS st1 a b/\k b.reverse (λst'=>rdS st' a b) st1:=rfl
end
end Ek
namespace Ek
open PySem L2
variable{i:Int}{b:Bool}{lo hi:Option Int}{chk:Sto->Prop}{env:j6}
section
variable {st:Sto} {Q:DK} {j:Int} {a p:AH} {ds es xs ys:List D} {x y d:D}
def da4{a:D}{r:j6}{Q:D->Prop}:(∃d,(AA a::r)[0]?=AA (AA d)/\Q d)=Q a:=propext ⟨λ⟨_,h,q⟩=>by cases h;exact q,λq=>⟨a,rfl,q⟩⟩
def dd0{a:Option D}{r:j6}{i:Nat}{Q:D->Prop}:(∃d,(a::r)[i+1]?=AA (AA d)/\Q d)=∃d,r[i]?=AA (AA d)/\Q d:=by simp only[HY]
def dd4{a:D}{Q:D->Prop}:(∃d,AA (AA a)=AA (AA d)/\Q d)=Q a:=propext ⟨λ⟨_,h,q⟩=>by cases h;exact q,λq=>⟨a,rfl,q⟩⟩
def cw3{Q:Int->Prop}:(∃d,D.int i=.int d/\Q d)=Q i:=propext ⟨λ⟨_,h,q⟩=>by cases h;exact q,λq=>⟨i,rfl,q⟩⟩
def at8{i:Bool}{Q:Bool->Prop}:(∃d,D.bl i=.bl d/\Q d)=Q i:=propext ⟨λ⟨_,h,q⟩=>by cases h;exact q,λq=>⟨i,rfl,q⟩⟩
def cw9{Q:List D->Prop}:(∃d,D.tup ds=.tup d/\Q d)=Q ds:=propext ⟨λ⟨_,h,q⟩=>by cases h;exact q,λq=>⟨_,rfl,q⟩⟩
def cs0{b:Type}{a:b}{Q:b->Prop}:(∃d,AA a=AA d/\Q d)=Q a:=propext ⟨λ⟨_,h,q⟩=>by cases h;exact q,λq=>⟨a,rfl,q⟩⟩
def cy2{i:Str}{l:List (Str×D)}{Q:D->Prop}:(∃w d,D.str i=.str w/\u3 l w=AA d/\Q d)=(∃d,u3 l i=AA d/\Q d):=propext ⟨λ⟨_,d,h,e,q⟩=>by cases h;exact⟨d,e,q⟩,λ⟨d,e,q⟩=>⟨_,d,rfl,e,q⟩⟩
def cq8{j:Int}{Q:Int->Int->Prop}:(∃a b,D.int i=.int a/\D.int j=.int b/\Q a b)=Q i j:=propext ⟨λ⟨_,_,h,c,q⟩=>by cases h;cases c;exact q,λq=>⟨_,_,rfl,rfl,q⟩⟩
def ch6:B0 .Add (.int i) (.int j) st Q=Q (.int (i+j)) st:=rfl
def ci5:B0 .Add (.tup xs) (.tup ys) st Q=(xs.length+ys.length<=sizeLine/\Q (.tup (xs++ys)) st):=rfl
def cv4:B0 .Sub (.int i) (.int j) st Q=Q (.int (i-j)) st:=rfl
def cm1:B0 .Mult (.int i) (.int j) st Q=(Q7 i j/\Q (.int (i*j)) st):=rfl
def bf0:B0 .Mod (.int i) (.int j) st Q=(0<j/\Q (.int (i % j)) st):=rfl
def cp9:B0 .FloorDiv (.int i) (.int j) st Q=(ar0 i j/\Q (.int (i / j)) st):=rfl
def cl6:B0 .Pow (.int i) (.int j) st Q=(au0 i j/\Q (.int (i^j.toNat)) st):=rfl
def an1:deq (.int i) (.int j)=AB (i=j):=by
 unfold deq D.py At;exact Em.mpr ∎
def J3{x y:Str}:deq (.str x) (.str y)=AB (x=y):=by
 unfold deq D.py At;exact Em.mpr ∎
abbrev C5:List D->List D->Bool
 |[],[]=>AD
 |x::xs,y::ys=>deq x y&&C5 xs ys
 |_,_=>AE
theorem bd4:∀b a:List D,CK (D.pys b) (D.pys a)=C5 b a
 |[],[]=>rfl
 |[],_::_=>rfl
 |_::_,[]=>rfl
 |x::b,y::a=>by show(At x.py y.py&&CK (D.pys b) (D.pys a))=_;rw[bd4 b a];rfl
def S7:deq (.tup xs) (.tup ys)=C5 xs ys:=by
 show At (.tuple (D.pys xs)) (.tuple (D.pys ys))=_;rw[At,bd4]
def X1:l6 (.int i)=0:=rfl
def E6{x:Str}:l6 (.str x)=0:=rfl
def c45:o9 .Eq (.int i) (.int j) st Q=Q (.bl (AB (i=j))) st:=by
 show(_/\_/\_/\_)=_;rw[an1];exact propext ⟨λh=>h.2.2.2,λh=>⟨rfl,rfl,by rw[X1,X1];exact BK _,h⟩⟩
def aq3:o9 .NotEq (.int i) (.int j) st Q=Q (.bl (!decide (i=j))) st:=by
 show(_/\_/\_/\_)=_;rw[an1];exact propext ⟨λh=>h.2.2.2,λh=>⟨rfl,rfl,by rw[X1,X1];exact BK _,h⟩⟩
def aq6{x y:String}:o9 .Eq (.str (Aa x)) (.str (Aa y)) st Q=Q (.bl (AB (x=y))) st:=by
 show(_/\_/\_/\_)=_;simp only[J3,u6];exact propext ⟨λh=>h.2.2.2,λh=>⟨r9 _,r9 _,by rw[E6,E6];exact BK _,h⟩⟩
def X9{x y:String}:o9 .NotEq (.str (Aa x)) (.str (Aa y)) st Q=Q (.bl (!decide (x=y))) st:=by
 show(_/\_/\_/\_)=_;simp only[J3,u6];exact propext ⟨λh=>h.2.2.2,λh=>⟨r9 _,r9 _,by rw[E6,E6];exact BK _,h⟩⟩
def bj0:o9 .Eq x y st Q=(x.pure=AD/\y.pure=AD/\EL (l6 x) (l6 y)<=150/\Q (.bl (deq x y)) st):=by cases x<;>cases y<;>rfl
def bj8:o9 .NotEq x y st Q=(x.pure=AD/\y.pure=AD/\EL (l6 x) (l6 y)<=150/\Q (.bl (!deq x y)) st):=by cases x<;>cases y<;>rfl
def c35{c:Bool}:o9 .Is (.bl b) (.bl c) st Q=Q (.bl (b==c)) st:=rfl
def cg0{c:Bool}:o9 .IsNot (.bl b) (.bl c) st Q=Q (.bl (b != c)) st:=rfl
def c59:o9 .Lt (.int i) (.int j) st Q=Q (.bl (AB (i<j))) st:=rfl
def c01:o9 .LtE (.int i) (.int j) st Q=Q (.bl (AB (i<=j))) st:=rfl
def c60:o9 .Gt (.int i) (.int j) st Q=Q (.bl (AB (j<i))) st:=rfl
def cw4:o9 .GtE (.int i) (.int j) st Q=Q (.bl (AB (j<=i))) st:=rfl
def bk4:o9 .In x (.tup ys) st Q=(x.pure=AD/\D.pures ys=AD/\l6 x<=150/\Q (.bl (ys.any λy=>deq y x)) st):=rfl
def au2{ks:List Key}:o9 .In (.int i) (.ktup ks) st Q=Q (.bl (ks.any λk=>AB (k=.inl i))) st:=rfl
def c10:o9 .NotIn x (.tup ys) st Q=(x.pure=AD/\D.pures ys=AD/\l6 x<=150/\Q (.bl (!ys.any λy=>deq y x)) st):=rfl
def dc6:ixR (.tup ds) (.int i) st Q=∃d,atI ds i=AA d/\Q d st:=rfl
def c71:ixR (.ref a) (.int i) st Q=((∃c d,rdS st a c/\atI c i=AA d/\Q d st)\/∃b d,st a=AA (.dct b)/\D4 b (.inl i)=AA d/\Q d st):=rfl
def ct7{b:List (Key×D)}(h:rdS st a ds)(h':st a=AA (.dct b)):False:=by rcases h with h|h<;>rw[h]at h'<;>cases h'
def ac3(h:rdS st a xs)(h':rdS st a ys):xs=ys:=by
 rcases h with h|h<;>rcases h' with h'|h'<;>rw[h]at h'<;>cases h'<;>rfl
def l7(h:rdS st a ds):ixR (.ref a) (.int i) st Q=∃d,atI ds i=AA d/\Q d st:=by
 rw[c71];exact propext ⟨λz=>z.elim (λ⟨b,d,r,q⟩=>by rw[ac3 h r];exact⟨d,q⟩) (λ⟨_,_,e,_⟩=>(ct7 h e).elim),λ⟨d,q⟩=>.inl ⟨ds,d,h,q⟩⟩
def Y4:rdS (b0 st p (.lst ds)) p ds:=.inl f8
def cy7:ixR (.ref p) (.int i) (b0 st p (.lst ds)) Q=∃d,atI ds i=AA d/\Q d (b0 st p (.lst ds)):=l7 Y4
def as3{b:Type}{a:List b}:atI a 0=a[0]?:=by
 unfold atI ixN;simp only[LA,if_true];split
 ·rfl
 ·rename_i h;rw[Bj ⋯];rfl
def v6{b:Type}{a:List b}{k:Nat}:atI a (k:Int)=a[k]?:=by
 unfold atI ixN;rw[if_pos ⋯];split
 ·rw[Bk];rfl
 ·rename_i h;rw[Bj ⋯];rfl
def db5{b:Type}{a:List b}:atI a 1=a[1]?:=v6 (k:=1)
def c86{b:Type}{a:List b}:atI a 2=a[2]?:=v6 (k:=2)
def c94{b:Type}{a:List b}:atI a 3=a[3]?:=v6 (k:=3)
def c55:ad3 (.tup ds) lo hi st Q=Q (.tup (z5 ds lo hi)) st:=rfl
def c97:slR (.tup ds) lo hi st Q=(¬(HT.sIx ds.length 0 lo=0/\HT.sIx ds.length ds.length hi=ds.length)/\Q (.tup (z5 ds lo hi)) st):=rfl
def db9(h:rdS st a ds):slR (.ref a) lo hi st Q=∀p,st p=AF->Q (.ref p) (b0 st p (.lst (z5 ds lo hi))):=by
 show(∃ds,rdS st a ds/\_)=_;exact propext ⟨λ⟨c,r,q⟩=>by rw[ac3 h r];exact q,λq=>⟨ds,h,q⟩⟩
def cy1:R1 (.tup ds) st Q=Q (.int ds.length) st:=rfl
def r8(h:rdS st a ds):R1 (.ref a) st Q=Q (.int ds.length) st:=by
 show(∃ds,rdS st a ds/\_)=_;exact propext ⟨λ⟨c,r,q⟩=>by rw[ac3 h r];exact q,λq=>⟨ds,h,q⟩⟩
def cu8:R1 (.ref p) (b0 st p (.lst ds)) Q=Q (.int ds.length) (b0 st p (.lst ds)):=r8 Y4
def c08:X4 (.bl b) st Q=Q (.int (if b then 1 else 0)) st:=rfl
def c17:X4 (.int i) st Q=Q (.int i) st:=rfl
def cr0:X7 (.tup ds) st Q=∀p,st p=AF->Q (.ref p) (b0 st p (.lst ds)):=rfl
def ce4:T7 (.tup ds) st Q=Q (.tup ds) st:=rfl
def bd1(h:rdS st a ds):T7 (.ref a) st Q=Q (.tup ds) st:=by
 show(∃ds,rdS st a ds/\_)=_;exact propext ⟨λ⟨c,r,q⟩=>by rw[ac3 h r];exact q,λq=>⟨ds,h,q⟩⟩
def bx1:T7 (.ref p) (b0 st p (.lst ds)) Q=Q (.tup ds) (b0 st p (.lst ds)):=bd1 Y4
def c62(h:rdS st a ds):ba6 (.ref a) st Q=Q (.bl AD) st:=by
 show(∃ds,rdS st a ds/\_)=_;exact propext ⟨λ⟨c,r,q⟩=>q,λq=>⟨ds,h,q⟩⟩
def ck2:ba6 (.ref p) (b0 st p (.lst ds)) Q=Q (.bl AD) (b0 st p (.lst ds)):=c62 Y4
def A6(h:rdS st a ds):C6 (.ref a) st=True:=propext ⟨λ_=>trivial,λ_=>⟨ds,h⟩⟩
def cd9:C6 (.ref p) (b0 st p (.lst ds))=True:=A6 Y4
def cn6:c73 (.tup ds) st=True:=rfl
def B7(h:st a=AA (.lst ds)):Y9 (.ref a) d st Q=(ds.length<sizeLine/\Q .non (b0 st a (.lst (ds++[d])))):=by
 show(∃ds,st a=AA (.lst ds)/\_)=_;exact propext ⟨λ⟨c,r,q⟩=>by rw[h]at r;cases r;exact q,λq=>⟨ds,h,q⟩⟩
def bi2{b:AH}(h:st a=AA (.lst ds))(h':st b=AA (.lst c)):V6 (.ref a) (.ref b) st Q=(ds.length+c.length<=sizeLine/\Q .non (b0 st a (.lst (ds++c)))):=by
 show(∃ds c,st a=AA (.lst ds)/\st b=AA (.lst c)/\_)=_;exact propext ⟨λ⟨_,_,r,e,q⟩=>by rw[h]at r;rw[h']at e;cases r;cases e;exact q,λq=>⟨ds,c,h,h',q⟩⟩
def cc4{t:Tg}{a:DS}{F:DEnds}:y6 chk t a F [] env st=(chk st/\F.nx env st):=by rw[y6]
def by6{t:Tg}{a:DS}{F:DEnds}:y6 chk t a F (d::ds) env st=(chk st/\D6 t d env λenv'=>a {F with nx:=y6 chk t a F ds,ct:=y6 chk t a F ds,bk:=F.nx} env' st):=by rw[y6]
def bf7{k:Nat}{K:j6->Prop}:D6 (.n k) d env K=K (env.set k (AA d)):=rfl
def cq3{a:List Nat}{K:j6->Prop}:D6 (.tup a) (.tup ds) env K=(ds.length=a.length/\K (Q0 env a ds)):=by
 show(∃b,D.tup ds=.tup b/\_)=_;exact propext ⟨λ⟨b,r,q⟩=>by cases r;exact q,λq=>⟨ds,rfl,q⟩⟩
def bo4{k:Nat}{a:List Nat}:Q0 env (k::a) (d::ds)=Q0 (env.set k (AA d)) a ds:=rfl
def bq4:Q0 env [] []=env:=rfl
def a04{t:Tg}{b:DB}{a:DT}{R:List D->Sto->Prop}{acc:List D}:A0 chk t b a R [] acc env st=(chk st/\R acc st):=by rw[A0]
def az1{t:Tg}{c:DB}{a:DT}{R:List D->Sto->Prop}{acc:List D}:A0 chk t c a R (d::ds) acc env st=(chk st/\D6 t d env λenv'=>c env' st λb st1=>if b=AD then a env' st1 λv st2=>A0 chk t c a R ds (acc++[v]) env' st2 else A0 chk t c a R ds acc env' st1):=by rw[A0]
def c67{k:ItK}:((∃b,D.tup ds=.tup b/\k b (λ_=>True) st)\/(∃a b,D.tup ds=.ref a/\rdS st a b/\k b (λst'=>rdS st' a b) st))=k ds (λ_=>True) st:=
 propext ⟨(λh=>by
  rcases h with⟨b,r,q⟩|⟨a,b,r,_⟩
  ·cases r;exact q
  ·cases r),λq=>.inl ⟨ds,rfl,q⟩⟩
def ct1{k:ItK}:((∃b,D.tup ds=.tup b/\k (r6 0 b) (λ_=>True) st)\/(∃a b,D.tup ds=.ref a/\rdS st a b/\k (r6 0 b) (λst'=>rdS st' a b) st))=k (r6 0 ds) (λ_=>True) st:=
 propext ⟨(λh=>by
  rcases h with⟨b,r,q⟩|⟨a,b,r,_⟩
  ·cases r;exact q
  ·cases r),λq=>.inl ⟨ds,rfl,q⟩⟩
end
end Ek
namespace Ek
open PySem L2
theorem E3{c:Sto->Prop}{t:Tg}{f:DS}{F:DEnds}(I:List D->j6->Sto->Prop)(i:∀a b,I [] a b->c b/\F.nx a b)
  (g:∀d e a b,(∀a b,I e a b->y6 c t f F e a b)->I (d::e) a b->c b/\D6 t d a λenv'=>f {F with nx:=y6 c t f F e,ct:=y6 c t f F e,bk:=F.nx} env' b):∀e a b,I e a b->y6 c t f F e a b
 |[],a,b,h=>by rw[cc4];exact i a b h
 |d::e,a,b,h=>by rw[by6];exact g d e a b (E3 I i g e) h
theorem O7{f:Sto->Prop}{t:Tg}{j:DB}{i:DT}{R:List D->Sto->Prop}(I:List D->List D->j6->Sto->Prop)(l:∀a c e,I [] a c e->f e/\R a e)
  (k:∀d g a c e,(∀a c e,I g a c e->A0 f t j i R g a c e)->I (d::g) a c e->f e/\D6 t d c λenv'=>j env' e λb st1=>if b=AD then i env' st1 λv st2=>A0 f t j i R g (a++[v]) env' st2 else A0 f t j i R g a env' st1):∀g a c e,I g a c e->A0 f t j i R g a c e
 |[],a,c,e,h=>by rw[a04];exact l a c e h
 |d::g,a,c,e,h=>by rw[az1];exact k d g a c e (O7 I l k g) h
def ca5{Z:Sg}{env:j6}{st:Sto}{K:Bool->Sto->Prop}:L7 Z .non env st K=K AD st:=rfl
def W5{Z:Sg}{c:E}{env:j6}{st:Sto}{K:Bool->Sto->Prop}(h:c.isNon=AE):L7 Z c env st K=wpE Z c env st λd st'=>∃b,d=.bl b/\K b st':=by unfold L7;rw[h];rfl
def P9{i j:Int}(h:-(2^64)<j/\j<2^64):Q7 i j:=.inl (.inr h)
def U2{i j:Int}(h:-(2^64)<i/\i<2^64):Q7 i j:=.inl (.inl h)
def B2{n:Nat}(h:n<=16000000):n<=sizeLine:=BB h ∅
def B3{n:Nat}(h:n<16000000):n<sizeLine:=Aj h ∅
end Ek
namespace Ek
abbrev Ss.drop:Nat->Ss->Ss
 |0,s=>s
 |_+1,.nil=>.nil
 |k+1,.cons _ r=>Ss.drop k r
def dd7{ds:List D}{R:PySem.Addr->List D->Prop}:(∃a b,D.tup ds=.ref a/\R a b)=False:=propext ⟨λ⟨_,_,h,_⟩=>(by cases h),AU⟩
def db7{a:PySem.Addr}{R:List D->Prop}:(∃b,D.ref a=.tup b/\R b)=False:=propext ⟨λ⟨_,h,_⟩=>(by cases h),AU⟩
def da1{a:PySem.Addr}{R:PySem.Addr->List D->Prop}:(∃b c,D.ref a=.ref b/\R b c)=∃c,R a c:=propext ⟨λ⟨_,c,h,q⟩=>by cases h;exact⟨c,q⟩,λ⟨c,q⟩=>⟨a,c,rfl,q⟩⟩
end Ek
namespace Ek
open PySem L2
section
variable {Z:Sg} {env:j6} {st:Sto} {k:Option Int->Sto->Prop} {K:Bool->Sto->Prop} {a b:E}
def cg1{o:Ez}:bnd Z (.bin o a b) env st k=wpE Z (.bin o a b) env st λd st'=>∃i,d=.int i/\k (AA i) st':=M6 rfl
def cz1{j:Nat}:bnd Z (.v j) env st k=wpE Z (.v j) env st λd st'=>∃i,d=.int i/\k (AA i) st':=M6 rfl
def b48{g:Str}:bnd Z (.gsel g a) env st k=wpE Z (.gsel g a) env st λd st'=>∃i,d=.int i/\k (AA i) st':=M6 rfl
def cf9:bnd Z (.len a) env st k=wpE Z (.len a) env st λd st'=>∃i,d=.int i/\k (AA i) st':=M6 rfl
def b75:bnd Z (.neg a) env st k=wpE Z (.neg a) env st λd st'=>∃i,d=.int i/\k (AA i) st':=M6 rfl
def ci2:bnd Z (.ix a b) env st k=wpE Z (.ix a b) env st λd st'=>∃i,d=.int i/\k (AA i) st':=M6 rfl
def b31{f:Str}{a:Es}:bnd Z (.call f a) env st k=wpE Z (.call f a) env st λd st'=>∃i,d=.int i/\k (AA i) st':=M6 rfl
def cg6{o:Dn}:L7 Z (.cmp o a b) env st K=wpE Z (.cmp o a b) env st λd st'=>∃b,d=.bl b/\K b st':=W5 rfl
def b58:L7 Z (.and a b) env st K=wpE Z (.and a b) env st λd st'=>∃b,d=.bl b/\K b st':=W5 rfl
def cm7:L7 Z (.or a b) env st K=wpE Z (.or a b) env st λd st'=>∃b,d=.bl b/\K b st':=W5 rfl
def b97:L7 Z (.not a) env st K=wpE Z (.not a) env st λd st'=>∃b,d=.bl b/\K b st':=W5 rfl
def b42{f:Str}{a:Es}:L7 Z (.call f a) env st K=wpE Z (.call f a) env st λd st'=>∃b,d=.bl b/\K b st':=W5 rfl
end
def bc7{n d:Nat}:HT.sIx n d AF=d:=rfl
def be6{n d k:Nat}:HT.sIx n d (AA (k:Int))=min k n:=by
 show(if(k:Int)<0 then((k:Int)+(n:Int)).toNat else min (k:Int).toNat n)=min k n;rw[if_neg ⋯,Bk]
def cv6{ds:List D}{k:Nat}:z5 ds AF (AA (k:Int))=ds.take k:=by
 unfold z5;rw[bc7,be6,Kj,Ki]
 by_cases h:k<=ds.length
 ·rw[Gq h]
 ·rw[GX ⋯,Dh (AS _),Dh ⋯]
def b00{ds:List D}{k:Nat}:z5 ds (AA (k:Int)) AF=ds.drop k:=by
 unfold z5;rw[bc7,be6]
 by_cases h:k<=ds.length
 ·rw[Gq h,Dh (by rw[Bo];lia)]
 ·rw[GX ⋯,Eh (AS _),Eh ⋯,List.take_nil]
variable{st:Sto}{a:AH}{ds:List D}{Q:DK}
def c42{c:List D}(h:st a=AA (.lst b)):V6 (.ref a) (.tup c) st Q=(b.length+c.length<=sizeLine/\Q .non (b0 st a (.lst (b++c)))):=by
 show(∃b,st a=AA (.lst b)/\_)=_;exact propext ⟨λ⟨_,r,q⟩=>by rw[h]at r;cases r;exact q,λq=>⟨b,h,q⟩⟩
def b64{Z:Sg}{F:DEnds}{env:j6}{c:E}{b:Ss}:wpS Z (.while c b) F env st=∃n,z8 (wpT Z c) (j7 Z b) F n env st:=rfl
def cd6{Z:Sg}{e:E}{env:j6}{K:Bool->Sto->Prop}:wpT Z e env st K=wpE Z e env st λd st'=>∃b,d=.bl b/\K b st':=rfl
def bs5{i:DB}{j:DS}{F:DEnds}(I:Nat->j6->Sto->Prop)(f:∀m a d(W:j6->Sto->Prop),I m a d->(∀m' c e,m'<m->I m' c e->W c e)->i a d λb st1=>if b=AD then j {F with nx:=W,ct:=W,bk:=F.nx} a st1 else F.nx a st1):∀m a d,I m a d->∃n,z8 i j F n a d:=by
 have g:∀k m a d,m<=k->I m a d->z8 i j F (k+1) a d:=by
  intro k
  induction k with
  |zero=>
   intro m a d r h;rw[z8];exact f m a d _ h λm' c e hlt _=>by lia
  |succ k q=>
   intro m a d r h;rw[z8];exact f m a d _ h λm' c e hlt hI'=>q m' c e ⋯ hI'
 exact λm a d h=>⟨m+1,g m m a d (AS _) h⟩
def U5{d:D}(h:st a=AA (.lst (b++[d]))):Z3 (.ref a) st Q=Q d (b0 st a (.lst b)):=by
 show(∃b d,st a=AA (.lst (b++[d]))/\_)=_;refine propext ⟨λ c=>?_,λq=>⟨b,d,h,q⟩⟩;obtain⟨i,e,r,q⟩:=c;rw[h]at r;simp only[CA,Ob.lst.injEq]at r;obtain⟨g,f⟩:=List.append_inj' r rfl;cases f;rw[g];exact q
def c14(h:st a=AA (.lst b)):Y8 (.ref a) st Q=Q .non (b0 st a (.lst b.reverse)):=by
 show(∃b,st a=AA (.lst b)/\_)=_;exact propext ⟨λ⟨_,r,q⟩=>by rw[h]at r;cases r;exact q,λq=>⟨b,h,q⟩⟩
def da8{f:Str}{Q:Str->Prop}:(∃g,AA (AA (D.fn f))=AA (AA (.fn g))/\Q g)=Q f:=propext ⟨λ⟨_,h,q⟩=>by cases h;exact q,λq=>⟨f,rfl,q⟩⟩
end Ek
namespace Ek
open PySem L2
variable{x:String}
section
variable {Z:Sg} {F:DEnds} {env:j6} {st:Sto} {Q:DK} {a b c e:D} {l:List D} {A B:Prop} {i:Nat} {s:S} {t u:Ss}
def ad5{n:Nat}{k:Int}(e:k=n)(h:l[n]?=AA a):ixR (.tup l) (.int k) st Q=Q a st:=by
 subst e;exact propext ⟨λ⟨_,b,q⟩=>by rw[v6,h]at b;cases b;exact q,λq=>⟨a,by rw[v6];exact h,q⟩⟩
def dc0:ixR (.tup (a::l)) (.int 0) st Q=Q a st:=ad5 (n:=0) rfl rfl
def db6:ixR (.tup (b::a::l)) (.int 1) st Q=Q a st:=ad5 (n:=1) rfl rfl
def c93:ixR (.tup (b::c::a::l)) (.int 2) st Q=Q a st:=ad5 (n:=2) rfl rfl
def de4:ixR (.tup (b::c::e::a::l)) (.int 3) st Q=Q a st:=ad5 (n:=3) rfl rfl
def c81:(∃k,D.bl AD=.bl k/\if k=AD then A else B)=A:=propext ⟨λ⟨_,h,q⟩=>by cases h;exact q,λq=>⟨_,rfl,q⟩⟩
def c89:(∃k,D.bl AE=.bl k/\if k=AD then A else B)=B:=propext ⟨λ⟨_,h,q⟩=>by cases h;exact q,λq=>⟨_,rfl,q⟩⟩
def c23:o9 .Eq (.str (Aa x)) (.str (Aa x)) st Q=Q (.bl AD) st:=by rw[aq6,decide_eq_true rfl]
def cz8{y:String}(h:AB (x=y)=AE):o9 .Eq (.str (Aa x)) (.str (Aa y)) st Q=Q (.bl AE) st:=by rw[aq6,h]
def cw1:o9 .NotEq (.str (Aa x)) (.str (Aa x)) st Q=Q (.bl AE) st:=by rw[X9,decide_eq_true rfl];rfl
def cx4{y:String}(h:AB (x=y)=AE):o9 .NotEq (.str (Aa x)) (.str (Aa y)) st Q=Q (.bl AD) st:=by rw[X9,h];rfl
def c90(h:wpS Z s ⟨j7 Z t F,F.rt,F.bk,F.ct⟩ env st):j7 Z (.cons s t) F env st:=h
end
end Ek
namespace Ek
open PySem L2
inductive Kd where
 |non|one|eith (a b:Kd)|both (a b:Kd)|way (a b:Kd)
 deriving DecidableEq
abbrev Kd.d:Kd->D
 |.non=>.tup [.str "none"]
 |.one=>.tup [.str "one"]
 |.eith a b=>.tup [.str "either",a.d,b.d]
 |.both a b=>.tup [.str "both",a.d,b.d]
 |.way a b=>.tup [.str "way",a.d,b.d]
abbrev Kd.cnt:Kd->Nat
 |.non=>0|.one=>1
 |.eith a b=>a.cnt+b.cnt
 |.both a b=>a.cnt*b.cnt
 |.way a b=>b.cnt^a.cnt
abbrev Kd.nest:Kd->Nat
 |.non=>0|.one=>0
 |.eith a b=>1+max a.nest b.nest
 |.both a b=>1+max a.nest b.nest
 |.way a b=>1+max a.nest b.nest
abbrev Kd.bd(m:Nat):Kd->Prop
 |.non=>True|.one=>1<=m
 |.eith a b=>a.bd m/\b.bd m/\a.cnt+b.cnt<=m
 |.both a b=>a.bd m/\b.bd m/\a.cnt*b.cnt<=m
 |.way a b=>a.bd m/\b.bd m/\b.cnt^a.cnt<=m
def Kd.bd_le{m:Nat}:∀{k:Kd},k.bd m->k.cnt<=m
 |.non,_=>BK _
 |.one,h=>h
 |.eith _ _,h=>h.2.2
 |.both _ _,h=>h.2.2
 |.way _ _,h=>h.2.2
def bd5:∀a b:Kd,deq a.d b.d=AB (a=b):=by
 intro a
 induction a with
 |non=>intro b;cases b<;>simp[Kd.d,S7,C5,J3,u6]
 |one=>intro b;cases b<;>simp[Kd.d,S7,C5,J3,u6]
 |eith a c f e=>intro b;cases b<;>simp[Kd.d,S7,C5,J3,u6,f,e]
 |both a c f e=>intro b;cases b<;>simp[Kd.d,S7,C5,J3,u6,f,e]
 |way a c f e=>intro b;cases b<;>simp[Kd.d,S7,C5,J3,u6,f,e]
def D9{d:D}{r:List D}:D.pures (d::r)=(d.pure&&D.pures r):=rfl
def J0:D.pures []=AD:=rfl
def O6{r:List D}:(D.tup r).pure=D.pures r:=rfl
def b33{i:Int}:(D.int i).pure=AD:=rfl
theorem E4:∀k:Kd,k.d.pure=AD
 |.non=>by simp only[Kd.d,O6,D9,J0,r9,Bp]
 |.one=>by simp only[Kd.d,O6,D9,J0,r9,Bp]
 |.eith a b=>by simp only[Kd.d,O6,D9,J0,r9,E4 a,E4 b,Bp]
 |.both a b=>by simp only[Kd.d,O6,D9,J0,r9,E4 a,E4 b,Bp]
 |.way a b=>by simp only[Kd.d,O6,D9,J0,r9,E4 a,E4 b,Bp]
abbrev B9:List D->Nat
 |[]=>0
 |d::r=>max (l6 d) (B9 r)
theorem a84:∀l:List D,Bs (D.pys l)=B9 l
 |[]=>rfl
 |d::r=>by show max (Dm d.py) (Bs (D.pys r))=_;rw[a84 r];rfl
def J4{l:List D}:l6 (.tup l)=B9 l+1:=by
 show Dm (.tuple (D.pys l))=_;rw[Dm,a84]
theorem O0:∀k:Kd,l6 k.d=k.nest+1
 |.non=>by simp only[Kd.d,J4,B9,E6,Kd.nest];rfl
 |.one=>by simp only[Kd.d,J4,B9,E6,Kd.nest];rfl
 |.eith a b=>by simp only[Kd.d,J4,B9,E6,Kd.nest,O0 a,O0 b,LW];lia
 |.both a b=>by simp only[Kd.d,J4,B9,E6,Kd.nest,O0 a,O0 b,LW];lia
 |.way a b=>by simp only[Kd.d,J4,B9,E6,Kd.nest,O0 a,O0 b,LW];lia
inductive Pg where
 |name (n:Nat)|star|pair (t u:Pg)|first (t:Pg)|second (t:Pg)|left (b:Kd) (t:Pg)|right (a:Kd) (t:Pg)
 |case (t u v:Pg)|way (a:Kd) (t:Pg)|give (t u:Pg)|lets (t u:Pg)|never (k:Kd) (t:Pg)
 deriving DecidableEq
abbrev Pg.d:Pg->D
 |.name n=>.tup [.str "name",.int n]
 |.star=>.tup [.str "star"]
 |.pair t u=>.tup [.str "pair",t.d,u.d]
 |.first t=>.tup [.str "first",t.d]
 |.second t=>.tup [.str "second",t.d]
 |.left b t=>.tup [.str "left",b.d,t.d]
 |.right a t=>.tup [.str "right",a.d,t.d]
 |.case t u v=>.tup [.str "case",t.d,u.d,v.d]
 |.way a t=>.tup [.str "way",a.d,t.d]
 |.give t u=>.tup [.str "give",t.d,u.d]
 |.lets t u=>.tup [.str "let",t.d,u.d]
 |.never k t=>.tup [.str "never",k.d,t.d]
abbrev Pg.kind(Γ:List Kd):Pg->Option Kd
 |.name n=>Γ[n]?
 |.star=>AA .one
 |.pair t u=>match t.kind Γ,u.kind Γ with
  |some a,AA b=>AA (.both a b)
  |_,_=>AF
 |.first t=>match t.kind Γ with
  |some (.both a _)=>AA a
  |_=>AF
 |.second t=>match t.kind Γ with
  |some (.both _ b)=>AA b
  |_=>AF
 |.left b t=>match t.kind Γ with
  |some a=>AA (.eith a b)
  |_=>AF
 |.right a t=>match t.kind Γ with
  |some b=>AA (.eith a b)
  |_=>AF
 |.case t u v=>match t.kind Γ with
  |some (.eith a b)=>match u.kind (a::Γ),v.kind (b::Γ)with
   |some k,AA l=>if k=l then AA k else AF
   |_,_=>AF
  |_=>AF
 |.way a t=>match t.kind (a::Γ)with
  |some b=>AA (.way a b)
  |_=>AF
 |.give t u=>match t.kind Γ,u.kind Γ with
  |some (.way a b),AA c=>if a=c then AA b else AF
  |_,_=>AF
 |.lets t u=>match t.kind Γ with
  |some a=>u.kind (a::Γ)
  |_=>AF
 |.never k t=>match t.kind Γ with
  |some .non=>AA k
  |_=>AF
abbrev Pg.kids:Pg->List Pg
 |.name _=>[]|.star=>[]
 |.pair t u=>[t,u]|.first t=>[t]|.second t=>[t]|.left _ t=>[t]|.right _ t=>[t]
 |.case t u v=>[t,u,v]|.way _ t=>[t]|.give t u=>[t,u]|.lets t u=>[t,u]|.never _ t=>[t]
abbrev Pg.hgt:Pg->Nat
 |.name _=>1|.star=>1
 |.pair t u=>1+max t.hgt u.hgt|.first t=>1+t.hgt|.second t=>1+t.hgt|.left _ t=>1+t.hgt|.right _ t=>1+t.hgt
 |.case t u v=>1+max t.hgt (max u.hgt v.hgt)|.way _ t=>1+t.hgt|.give t u=>1+max t.hgt u.hgt|.lets t u=>1+max t.hgt u.hgt|.never _ t=>1+t.hgt
abbrev Pg.parts:Pg->Nat
 |.name _=>1|.star=>1
 |.pair t u=>1+t.parts+u.parts|.first t=>1+t.parts|.second t=>1+t.parts|.left _ t=>1+t.parts|.right _ t=>1+t.parts
 |.case t u v=>1+t.parts+u.parts+v.parts|.way _ t=>1+t.parts|.give t u=>1+t.parts+u.parts|.lets t u=>1+t.parts+u.parts|.never _ t=>1+t.parts
abbrev Pg.kn(m:Nat):Pg->Prop
 |.name _=>True|.star=>True
 |.pair t u=>t.kn m/\u.kn m|.first t=>t.kn m|.second t=>t.kn m|.left b t=>b.nest<=m/\t.kn m|.right a t=>a.nest<=m/\t.kn m
 |.case t u v=>t.kn m/\u.kn m/\v.kn m|.way a t=>a.nest<=m/\t.kn m|.give t u=>t.kn m/\u.kn m|.lets t u=>t.kn m/\u.kn m|.never k t=>k.nest<=m/\t.kn m
def bb7(p:Pg):p.d.pure=AD:=by
 induction p<;>simp only[Pg.d,O6,D9,J0,r9,b33,E4,Bp, *]
inductive Kn:List Kd->Pg->Kd->Prop
 |name {Γ n k}:Γ[n]?=AA k->Kn Γ (.name n) k
 |star {Γ}:Kn Γ .star .one
 |pair {Γ t u a b}:Kn Γ t a->Kn Γ u b->Kn Γ (.pair t u) (.both a b)
 |first {Γ t a b}:Kn Γ t (.both a b)->Kn Γ (.first t) a
 |second {Γ t a b}:Kn Γ t (.both a b)->Kn Γ (.second t) b
 |left {Γ t a b}:Kn Γ t a->Kn Γ (.left b t) (.eith a b)
 |right {Γ t a b}:Kn Γ t b->Kn Γ (.right a t) (.eith a b)
 |case {Γ t u v a b c}:Kn Γ t (.eith a b)->Kn (a::Γ) u c->Kn (b::Γ) v c->Kn Γ (.case t u v) c
 |way {Γ t a b}:Kn (a::Γ) t b->Kn Γ (.way a t) (.way a b)
 |give {Γ t u a b}:Kn Γ t (.way a b)->Kn Γ u a->Kn Γ (.give t u) b
 |lets {Γ t u a b}:Kn Γ t a->Kn (a::Γ) u b->Kn Γ (.lets t u) b
 |never {Γ t b}:Kn Γ t .non->Kn Γ (.never b t) b
theorem Kn.kind{Γ:List Kd}{p:Pg}{k:Kd}(h:Kn Γ p k):p.kind Γ=AA k:=by
 induction h with
 |name h=>exact h
 |star=>rfl
 |pair _ _ i j=>unfold Pg.kind;rw[i,j]
 |give _ _ i j=>unfold Pg.kind;rw[i,j];exact if_pos rfl
 |first _ i|second _ i|left _ i|right _ i|way _ i|never _ i=>unfold Pg.kind;rw[i]
 |lets _ _ i j=>unfold Pg.kind;rw[i];exact j
 |case _ _ _ i j l=>unfold Pg.kind;rw[i];show(match Pg.kind _ _,Pg.kind _ _ with|some k,AA l=>if k=l then AA k else AF|_,_=>AF)=_;rw[j,l];exact if_pos rfl
def Q2:∀{p:Pg}{m:List Kd}{k:Kd},p.kind m=AA k->Kn m p k:=by
 intro p
 induction p with
 |name n=>exact λh=>.name h
 |star=>intro m k h;cases h;exact .star
 |pair t u i j=>
  intro m k h;unfold Pg.kind at h;cases e:t.kind m with
  |none=>rw[e]at h;cases h
  |some a=>cases f:u.kind m with
   |none=>rw[e,f]at h;cases h
   |some b=>rw[e,f]at h;cases h;exact .pair (i e) (j f)
 |first t i=>
  intro m k h;unfold Pg.kind at h;cases e:t.kind m with
  |none=>rw[e]at h;cases h
  |some a=>rw[e]at h;cases a<;>cases h;exact .first (i e)
 |second t i=>
  intro m k h;unfold Pg.kind at h;cases e:t.kind m with
  |none=>rw[e]at h;cases h
  |some a=>rw[e]at h;cases a<;>cases h;exact .second (i e)
 |left b t i=>
  intro m k h;unfold Pg.kind at h;cases e:t.kind m with
  |none=>rw[e]at h;cases h
  |some a=>rw[e]at h;cases h;exact .left (i e)
 |right b t i=>
  intro m k h;unfold Pg.kind at h;cases e:t.kind m with
  |none=>rw[e]at h;cases h
  |some a=>rw[e]at h;cases h;exact .right (i e)
 |case t u v i j l=>
  intro m k h;unfold Pg.kind at h;cases e:t.kind m with
  |none=>rw[e]at h;cases h
  |some a=>
   rw[e]at h;cases a<;>first|cases h;done|skip
   rename_i a b;replace h:(match u.kind (a::m),v.kind (b::m)with|some k,AA l=>if k=l then AA k else AF|_,_=>AF)=AA k:=h;cases f:u.kind (a::m)with
   |none=>rw[f]at h;cases h
   |some c=>cases g:v.kind (b::m)with
    |none=>rw[f,g]at h;cases h
    |some d=>
     rw[f,g]at h
     by_cases z:c=d
     ·cases(if_pos z).symm.trans h;cases z;exact .case (i e) (j f) (l g)
     ·cases(if_neg z).symm.trans h
 |way a t i=>
  intro m k h;unfold Pg.kind at h;cases e:t.kind (a::m)with
  |none=>rw[e]at h;cases h
  |some a=>rw[e]at h;cases h;exact .way (i e)
 |give t u i j=>
  intro m k h;unfold Pg.kind at h;cases e:t.kind m with
  |none=>rw[e]at h;cases h
  |some a=>cases f:u.kind m with
   |none=>rw[e,f]at h;cases a<;>cases h
   |some c=>
    rw[e,f]at h;cases a<;>first|cases h;done|skip
    rename_i a b
    by_cases z:a=c
    ·cases(if_pos z).symm.trans h;cases z;exact .give (i e) (j f)
    ·cases(if_neg z).symm.trans h
 |lets t u i j=>
  intro m k h;unfold Pg.kind at h;cases e:t.kind m with
  |none=>rw[e]at h;cases h
  |some a=>rw[e]at h;exact .lets (i e) (j h)
 |never b t i=>
  intro m k h;unfold Pg.kind at h;cases e:t.kind m with
  |none=>rw[e]at h;cases h
  |some a=>rw[e]at h;cases a<;>cases h;exact .never (i e)
end Ek
namespace Ek
open PySem
abbrev ah0:Def:=⟨3,["whole","parts_of","made","order","done","here","many"],
 (.cons (.set 3 (.call "order_of_few" (.cons (.v 0) (.cons (.v 1) .nil))))
 (.cons (.iff (.isN (.v 3))
   (.cons .dead
  .nil)
   .nil)
 (.cons (.set 4 (.lst .nil))
 (.cons (.for (.tup [5,6]) (.rev (.v 3))
   (.cons (.ex (.app (.v 4) (.callv 2 (.cons (.v 5) (.cons (.ite (.cmp .Gt (.v 6) (.int 0)) (.call "taken" (.cons (.v 4) (.cons (.v 6) .nil))) (.lst .nil)) .nil)))))
  .nil))
 (.cons (.ret (.ix (.v 4) (.int 0)))
 .nil)))))⟩
abbrev ai0:Def:=⟨2,["whole","parts_of","order","ahead","here","parts"],
 (.cons (.set 2 (.lst .nil))
 (.cons (.set 3 (.lst (.cons (.v 0) .nil)))
 (.cons (.while (.cmp .Gt (.len (.v 3)) (.int 0))
   (.cons (.set 4 (.pop (.v 3)))
  (.cons (.set 5 (.callv 1 (.cons (.v 4) .nil)))
  (.cons (.ex (.app (.v 2) (.tup (.cons (.v 4) (.cons (.len (.v 5)) .nil)))))
  (.cons (.ex (.ext (.v 3) (.v 5)))
  (.cons (.iff (.cmp .Gt (.len (.v 2)) (.gc "FEW"))
    (.cons (.ret .non)
   .nil)
    .nil)
  .nil))))))
 (.cons (.ret (.v 2))
 .nil))))⟩
abbrev an8:Def:=⟨2,["done","many","parts","number"],
 (.cons (.set 2 (.lst .nil))
 (.cons (.for (.n 3) (.rng (.v 1))
   (.cons (.ex (.app (.v 2) (.pop (.v 0))))
  .nil))
 (.cons (.ex (.lrev (.v 2)))
 (.cons (.ret (.v 2))
 .nil))))⟩
abbrev af8:Def:=⟨1,["self"],
 (.cons (.fldS (.v 0) "numbers" .dnt)
 (.cons (.fldS (.v 0) "stored" (.lst .nil))
 (.cons (.fldS (.v 0) "parts" (.lst .nil))
 (.cons (.fldS (.v 0) "waiting" (.lst .nil))
 .nil))))⟩
abbrev V9:Def:=⟨3,["self","kind","deep"],
 (.cons (.iff (.cmp .Eq (.len (.v 1)) (.int 1))
   (.cons (.ret (.meth (.v 0) "numbered" (.cons (.v 1) (.cons (.tup .nil) .nil))))
  .nil)
   .nil)
 (.cons (.iff (.cmp .Eq (.v 2) (.int 0))
   (.cons (.ret (.meth (.v 0) "laid" (.cons (.v 1) .nil)))
  .nil)
   .nil)
 (.cons (.ret (.meth (.v 0) "built" (.cons (.ix (.v 1) (.int 0)) (.cons (.meth (.v 0) "laid_kind" (.cons (.ix (.v 1) (.int 1)) (.cons (.bin .Sub (.v 2) (.int 1)) .nil))) (.cons (.meth (.v 0) "laid_kind" (.cons (.ix (.v 1) (.int 2)) (.cons (.bin .Sub (.v 2) (.int 1)) .nil))) .nil)))))
 .nil)))⟩
abbrev aj1:Def:=⟨4,["self","word","first","second"],
 (.cons (.ret (.meth (.v 0) "numbered" (.cons (.tup (.cons (.v 1) .nil)) (.cons (.tup (.cons (.v 2) (.cons (.v 3) .nil))) .nil))))
 .nil)⟩
abbrev af7:Def:=⟨3,["self","front","numbers","key","number"],
 (.cons (.set 3 (.tup (.cons (.v 1) (.cons (.v 2) .nil))))
 (.cons (.set 4 (.dgt (.fld (.v 0) "numbers") (.v 3)))
 (.cons (.iff (.isN (.v 4))
   (.cons (.set 4 (.len (.fld (.v 0) "stored")))
  (.cons (.dput (.fld (.v 0) "numbers") (.v 3) (.v 4))
  (.cons (.ex (.app (.fld (.v 0) "stored") (.bin .Add (.v 1) (.tuple (.comp ["self","part"] [0] 1 (.n 1) (.seq (.v 2)) .non (.ix (.fld (.v 0) "stored") (.v 1)))))))
  (.cons (.ex (.app (.fld (.v 0) "parts") (.v 2)))
  .nil))))
   .nil)
 (.cons (.ret (.v 4))
 .nil))))⟩
abbrev ai6:Def:=⟨2,["self","kind"],
 (.cons (.ex (.app (.fld (.v 0) "waiting") (.tup (.cons (.v 1) (.cons .non .nil)))))
 (.cons (.ret (.neg (.len (.fld (.v 0) "waiting"))))
 .nil))⟩
abbrev af0:Def:=⟨2,["self","number","waited"],
 (.cons (.iff (.cmp .GtE (.v 1) (.int 0))
   (.cons (.ret (.v 1))
  .nil)
   .nil)
 (.cons (.set 2 (.ix (.fld (.v 0) "waiting") (.bin .Sub (.neg (.int 1)) (.v 1))))
 (.cons (.iff (.isN (.ix (.v 2) (.int 1)))
   (.cons (.set 2 (.tup (.cons (.ix (.v 2) (.int 0)) (.cons (.methd (.v 0) "laid_kind" (.cons (.ix (.v 2) (.int 0)) .nil)) .nil))))
  (.cons (.put (.fld (.v 0) "waiting") (.bin .Sub (.neg (.int 1)) (.v 1)) (.v 2))
  .nil))
   .nil)
 (.cons (.ret (.ix (.v 2) (.int 1)))
 .nil))))⟩
abbrev af4:Def:=⟨2,["self","number"],
 (.cons (.ret (.ix (.fld (.v 0) "stored") (.v 1)))
 .nil)⟩
abbrev ag3:Def:=⟨2,["self","number"],
 (.cons (.ret (.ix (.ix (.fld (.v 0) "stored") (.v 1)) (.int 0)))
 .nil)⟩
abbrev ai7:Def:=⟨2,["self","number"],
 (.cons (.ret (.ix (.fld (.v 0) "parts") (.v 1)))
 .nil)⟩
abbrev ag4:Def:=⟨4,["self","program","inside","number"],
 (.cons (.fldS (.v 0) "program" (.v 1))
 (.cons (.fldS (.v 0) "inside" (.v 2))
 (.cons (.fldS (.v 0) "number" (.v 3))
 (.cons (.fldS (.v 0) "holders" (.int 0))
 (.cons (.fldS (.v 0) "ways" (.int 0))
 (.cons (.fldS (.v 0) "used" .non)
 (.cons (.fldS (.v 0) "kind" .non)
 .nil)))))))⟩
abbrev an6:Def:=⟨1,["program"],
 (.cons (.ret (.list (.sl (.v 0) (.gsel "INNER_FROM" (.ix (.v 0) (.int 0))) .non)))
 .nil)⟩
abbrev W3:Def:=⟨2,["program","parts"],
 (.cons (.ret (.bin .Add (.sl (.v 0) .non (.gsel "INNER_FROM" (.ix (.v 0) (.int 0)))) (.tuple (.v 1))))
 .nil)⟩
abbrev aj7:Def:=⟨2,["program","number"],
 (.cons (.ret (.ite (.cmp .In (.v 1) (.gget "UNDER_ONE_MORE" (.ix (.v 0) (.int 0)) (.tup .nil))) (.int 1) (.int 0)))
 .nil)⟩
abbrev an5:Def:=⟨2,["program","nodes","made","!nodes","!"],
 (.cons (.dfn 2 2 ["here","inside","nodes","node","part"] [1]
   (.cons (.set 3 (.make "Node" (.cons (.v 0) (.cons (.v 1) (.cons (.len (.v 2)) .nil)))))
  (.cons (.ex (.app (.v 2) (.v 3)))
  (.cons (.for (.n 4) (.seq (.v 1))
    (.cons (.fldS (.v 4) "holders" (.bin .Add (.fld (.v 4) "holders") (.int 1)))
   (.cons (.fldS (.v 3) "ways" (.max (.fld (.v 3) "ways") (.fld (.v 4) "ways")))
   .nil)))
  (.cons (.iff (.cmp .Eq (.ix (.v 0) (.int 0)) (.str "way"))
    (.cons (.fldS (.v 3) "ways" (.bin .Add (.fld (.v 3) "ways") (.int 1)))
   .nil)
    .nil)
  (.cons (.ret (.v 3))
  .nil))))))
 (.cons (.ret (.call "made_of_parts" (.cons (.v 0) (.cons (.gf "inner") (.cons (.v 2) .nil)))))
 .nil))⟩
abbrev M5:Def:=⟨4,["node","known","named","made","begun","answers","before","here","number","key","answer"],
 (.cons (.set 4 (.lst (.cons (.v 0) .nil)))
 (.cons (.set 5 (.lst (.cons (.lst .nil) .nil)))
 (.cons (.set 6 .dnt)
 (.cons (.while (.bl AD)
   (.cons (.set 7 (.ix (.v 4) (.neg (.int 1))))
  (.cons (.set 8 (.len (.ix (.v 5) (.neg (.int 1)))))
  (.cons (.set 9 (.ite (.cmp .Gt (.fld (.v 7) "holders") (.int 1)) (.call "known_for" (.cons (.v 7) (.cons (.v 1) .nil))) .non))
  (.cons (.iff (.and (.din AD (.v 9) (.v 6)) (.cmp .Lt (.v 8) (.len (.fld (.v 7) "inside"))))
    (.cons (.iff (.cmp .Eq (.call "names_more" (.cons (.fld (.v 7) "program") (.cons (.v 8) .nil))) (.int 1))
     (.cons (.ex (.app (.v 1) (.callv 2 (.cons (.fld (.v 7) "program") (.cons (.ix (.v 5) (.neg (.int 1))) (.cons (.v 8) .nil))))))
    .nil)
     .nil)
   (.cons (.ex (.app (.v 4) (.ix (.fld (.v 7) "inside") (.v 8))))
   (.cons (.ex (.app (.v 5) (.lst .nil)))
   (.cons .cont
   .nil))))
    .nil)
  (.cons (.set 10 (.ite (.din AE (.v 9) (.v 6)) (.ix (.v 6) (.v 9)) (.callv 3 (.cons (.v 7) (.cons (.ix (.v 5) (.neg (.int 1))) (.cons (.v 1) .nil))))))
  (.cons (.iff (.notN (.v 9))
    (.cons (.dput (.v 6) (.v 9) (.v 10))
   .nil)
    .nil)
  (.cons (.ex (.pop (.v 4)))
  (.cons (.ex (.pop (.v 5)))
  (.cons (.iff (.cmp .Eq (.len (.v 4)) (.int 0))
    (.cons (.ret (.v 10))
   .nil)
    .nil)
  (.cons (.iff (.cmp .Eq (.call "names_more" (.cons (.fld (.ix (.v 4) (.neg (.int 1))) "program") (.cons (.len (.ix (.v 5) (.neg (.int 1)))) .nil))) (.int 1))
    (.cons (.ex (.pop (.v 1)))
   .nil)
    .nil)
  (.cons (.ex (.app (.ix (.v 5) (.neg (.int 1))) (.v 10)))
  .nil))))))))))))
 .nil))))⟩
abbrev al3:Def:=⟨2,["program","names","shelf"],
 (.cons (.set 2 (.make "Shelf" .nil))
 (.cons (.ret (.meth (.v 2) "tuple_at" (.cons (.call "shelved_kind" (.cons (.v 0) (.cons (.call "shelved_names" (.cons (.v 1) (.cons (.v 2) .nil))) (.cons (.v 2) .nil)))) .nil)))
 .nil))⟩
abbrev ag9:Def:=⟨2,["names","shelf"],
 (.cons (.ret (.comp ["shelf","kind"] [1] 1 (.n 1) (.revt (.v 0)) .non (.meth (.v 0) "put_by" (.cons (.v 1) .nil))))
 .nil)⟩
abbrev ai4:Def:=⟨3,["program","known","shelf"],
 (.cons (.ret (.call "kind_of_node" (.cons (.call "noded" (.cons (.v 0) (.cons (.lst .nil) .nil))) (.cons (.v 1) (.cons (.v 2) .nil)))))
 .nil)⟩
abbrev ai1:Def:=⟨3,["node","known","shelf","named","made","!shelf","!"],
 (.cons (.dfn 3 3 ["here","kinds","number","shelf"] [2]
   (.cons (.ret (.call "new_name" (.cons (.v 0) (.cons (.v 1) (.cons (.v 2) (.cons (.v 3) .nil))))))
  .nil))
 (.cons (.dfn 4 3 ["here","kinds","known_here","shelf","kind"] [2]
   (.cons (.set 4 (.call "kind_by_parts" (.cons (.fld (.v 0) "program") (.cons (.v 1) (.cons (.v 2) (.cons (.v 3) .nil))))))
  (.cons (.fldS (.v 0) "kind" (.ite (.or (.isN (.fld (.v 0) "kind")) (.cmp .Eq (.fld (.v 0) "kind") (.v 4))) (.v 4) (.neg (.int 1))))
  (.cons (.ret (.v 4))
  .nil))))
 (.cons (.ret (.call "folded" (.cons (.v 0) (.cons (.v 1) (.cons (.v 3) (.cons (.v 4) .nil))))))
 .nil)))⟩
abbrev ag5:Def:=⟨4,["program","kinds","known","shelf"],
 (.cons (.ret (.callx (.gsel "BY_WORD" (.ix (.v 0) (.int 0))) (.cons (.v 0) (.cons (.v 1) (.cons (.v 2) (.cons (.v 3) .nil))))))
 .nil)⟩
abbrev ak2:Def:=⟨4,["program","kinds","number","shelf"],
 (.cons (.iff (.cmp .Eq (.ix (.v 0) (.int 0)) (.str "way"))
   (.cons (.ret (.methd (.v 3) "laid_kind" (.cons (.ix (.v 0) (.int 1)) .nil)))
  .nil)
   .nil)
 (.cons (.iff (.cmp .Eq (.ix (.v 0) (.int 0)) (.str "let"))
   (.cons (.ret (.ix (.v 1) (.int 0)))
  .nil)
   .nil)
 (.cons (.ret (.ix (.call "halves_of" (.cons (.str "either") (.cons (.ix (.v 1) (.int 0)) (.cons (.v 3) .nil)))) (.bin .Sub (.v 2) (.int 1))))
 .nil)))⟩
abbrev aj9:Def:=⟨3,["word","kind","shelf"],
 (.cons (.iff (.cmp .NotEq (.meth (.v 2) "word_at" (.cons (.v 1) .nil)) (.v 0))
   (.cons .dead
  .nil)
   .nil)
 (.cons (.ret (.meth (.v 2) "within" (.cons (.v 1) .nil)))
 .nil))⟩
abbrev ah4:Def:=⟨4,["program","kinds","known","shelf","number"],
 (.cons (.set 4 (.ix (.v 0) (.int 1)))
 (.cons (.iff (.or (.cmp .Lt (.v 4) (.int 0)) (.cmp .GtE (.v 4) (.len (.v 2))))
   (.cons .dead
  .nil)
   .nil)
 (.cons (.ret (.meth (.v 3) "taken_up" (.cons (.ix (.v 2) (.bin .Sub (.bin .Sub (.len (.v 2)) (.int 1)) (.v 4))) .nil)))
 .nil)))⟩
abbrev ah8:Def:=⟨4,["program","kinds","known","shelf"],
 (.cons (.ret (.meth (.v 3) "numbered" (.cons (.tup (.cons (.str "one") .nil)) (.cons (.tup .nil) .nil))))
 .nil)⟩
abbrev ah5:Def:=⟨4,["program","kinds","known","shelf"],
 (.cons (.ret (.meth (.v 3) "built" (.cons (.str "both") (.cons (.ix (.v 1) (.int 0)) (.cons (.ix (.v 1) (.int 1)) .nil)))))
 .nil)⟩
abbrev ag7:Def:=⟨4,["program","kinds","known","shelf"],
 (.cons (.ret (.ix (.call "halves_of" (.cons (.str "both") (.cons (.ix (.v 1) (.int 0)) (.cons (.v 3) .nil)))) (.int 0)))
 .nil)⟩
abbrev af3:Def:=⟨4,["program","kinds","known","shelf"],
 (.cons (.ret (.ix (.call "halves_of" (.cons (.str "both") (.cons (.ix (.v 1) (.int 0)) (.cons (.v 3) .nil)))) (.int 1)))
 .nil)⟩
abbrev ah1:Def:=⟨4,["program","kinds","known","shelf"],
 (.cons (.ret (.meth (.v 3) "built" (.cons (.str "either") (.cons (.ix (.v 1) (.int 0)) (.cons (.methd (.v 3) "laid_kind" (.cons (.ix (.v 0) (.int 1)) .nil)) .nil)))))
 .nil)⟩
abbrev ag1:Def:=⟨4,["program","kinds","known","shelf"],
 (.cons (.ret (.meth (.v 3) "built" (.cons (.str "either") (.cons (.methd (.v 3) "laid_kind" (.cons (.ix (.v 0) (.int 1)) .nil)) (.cons (.ix (.v 1) (.int 0)) .nil)))))
 .nil)⟩
abbrev ai5:Def:=⟨4,["program","kinds","known","shelf"],
 (.cons (.iff (.cmp .NotEq (.ix (.v 1) (.int 1)) (.ix (.v 1) (.int 2)))
   (.cons .dead
  .nil)
   .nil)
 (.cons (.ret (.ix (.v 1) (.int 1)))
 .nil))⟩
abbrev ai9:Def:=⟨4,["program","kinds","known","shelf"],
 (.cons (.ret (.meth (.v 3) "built" (.cons (.str "way") (.cons (.methd (.v 3) "laid_kind" (.cons (.ix (.v 0) (.int 1)) .nil)) (.cons (.ix (.v 1) (.int 0)) .nil)))))
 .nil)⟩
abbrev ah2:Def:=⟨4,["program","kinds","known","shelf","ends"],
 (.cons (.set 4 (.call "halves_of" (.cons (.str "way") (.cons (.ix (.v 1) (.int 0)) (.cons (.v 3) .nil)))))
 (.cons (.iff (.cmp .NotEq (.ix (.v 4) (.int 0)) (.ix (.v 1) (.int 1)))
   (.cons .dead
  .nil)
   .nil)
 (.cons (.ret (.ix (.v 4) (.int 1)))
 .nil)))⟩
abbrev aj0:Def:=⟨4,["program","kinds","known","shelf"],
 (.cons (.ret (.ix (.v 1) (.int 1)))
 .nil)⟩
abbrev ag0:Def:=⟨4,["program","kinds","known","shelf"],
 (.cons (.iff (.cmp .NotEq (.meth (.v 3) "word_at" (.cons (.ix (.v 1) (.int 0)) .nil)) (.str "none"))
   (.cons .dead
  .nil)
   .nil)
 (.cons (.ret (.methd (.v 3) "laid_kind" (.cons (.ix (.v 0) (.int 1)) .nil)))
 .nil))⟩
abbrev al5:Def:=⟨3,["program","many","least","changed","!least","!many","!"],
 (.cons (.iff (.cmp .Eq (.v 1) (.int 0))
   (.cons (.ret (.v 0))
  .nil)
   .nil)
 (.cons (.dfn 3 2 ["part","under","least","many"] [2,1]
   (.cons (.iff (.and (.cmp .Eq (.ix (.v 0) (.int 0)) (.str "name")) (.and (.cmp .GtE (.ix (.v 0) (.int 1)) (.v 1)) (.cmp .GtE (.bin .Sub (.ix (.v 0) (.int 1)) (.v 1)) (.v 2))))
    (.cons (.ret (.tup (.cons (.str "name") (.cons (.bin .Add (.ix (.v 0) (.int 1)) (.v 3)) .nil))))
   .nil)
    .nil)
  (.cons (.ret .non)
  .nil)))
 (.cons (.ret (.call "with_parts" (.cons (.v 0) (.cons (.v 3) .nil))))
 .nil)))⟩
abbrev am1:Def:=⟨2,["program","other","copies","changed","!copies","!other","!"],
 (.cons (.pre 2)
 (.cons (.dfn 3 2 ["part","under","copies","other"] [2,1]
   (.cons (.iff (.or (.cmp .NotEq (.ix (.v 0) (.int 0)) (.str "name")) (.cmp .Lt (.ix (.v 0) (.int 1)) (.v 1)))
    (.cons (.ret .non)
   .nil)
    .nil)
  (.cons (.iff (.cmp .Eq (.ix (.v 0) (.int 1)) (.v 1))
    (.cons (.ret (.call "copy_under" (.cons (.v 2) (.cons (.v 3) (.cons (.v 1) .nil)))))
   .nil)
    .nil)
  (.cons (.ret (.tup (.cons (.str "name") (.cons (.bin .Sub (.ix (.v 0) (.int 1)) (.int 1)) .nil))))
  .nil))))
 (.cons (.ret (.call "with_parts" (.cons (.v 0) (.cons (.v 3) .nil))))
 .nil)))⟩
abbrev aj8:Def:=⟨3,["copies","program","under"],
 (.cons (.iff (.cmp .NotIn (.v 2) (.v 0))
   (.cons (.iput (.v 0) (.v 2) (.call "lifted" (.cons (.v 1) (.cons (.v 2) (.cons (.int 0) .nil)))))
  .nil)
   .nil)
 (.cons (.ret (.ix (.v 0) (.v 2)))
 .nil))⟩
abbrev aj6:Def:=⟨2,["program","changed","parts_of","made","!changed","!"],
 (.cons (.dfn 2 1 ["here","changed"] [1]
   (.cons (.ret (.ite (.notN (.callv 1 (.cons (.ix (.v 0) (.int 0)) (.cons (.ix (.v 0) (.int 1)) .nil)))) (.lst .nil) (.call "inner_under" (.cons (.v 0) .nil))))
  .nil))
 (.cons (.dfn 3 2 ["here","parts","changed","other"] [1]
   (.cons (.set 3 (.ite (.cmp .Eq (.len (.v 1)) (.int 0)) (.callv 2 (.cons (.ix (.v 0) (.int 0)) (.cons (.ix (.v 0) (.int 1)) .nil))) .non))
  (.cons (.iff (.any (.comp ["part"] [] 1 (.n 0) (.seq (.v 1)) .non (.ix (.v 0) (.int 1))))
    (.cons (.set 3 (.call "with_inner" (.cons (.ix (.v 0) (.int 0)) (.cons (.comp ["part"] [] 1 (.n 0) (.seq (.v 1)) .non (.ix (.v 0) (.int 0))) .nil))))
   .nil)
    .nil)
  (.cons (.ret (.ite (.isN (.v 3)) (.tup (.cons (.ix (.v 0) (.int 0)) (.cons (.bl AE) .nil))) (.tup (.cons (.v 3) (.cons (.bl AD) .nil)))))
  .nil))))
 (.cons (.ret (.ix (.call "made_of_parts" (.cons (.tup (.cons (.v 0) (.cons (.int 0) .nil))) (.cons (.v 2) (.cons (.v 3) .nil)))) (.int 0)))
 .nil)))⟩
abbrev aj3:Def:=⟨1,["here","part"],
 (.cons (.set 1 (.ix (.v 0) (.int 0)))
 (.cons (.ret (.comp ["here","part","number","one"] [0,1] 2 (.tup [2,3]) (.enum (.call "inner" (.cons (.v 1) .nil))) .non (.tup (.cons (.v 3) (.cons (.bin .Add (.ix (.v 0) (.int 1)) (.call "names_more" (.cons (.v 1) (.cons (.v 2) .nil)))) .nil)))))
 .nil))⟩
abbrev aa1:Def:=⟨2,["one","other","ahead","turn","here","shelf"],
 (.cons (.set 2 (.lst (.cons (.tup (.cons (.v 0) (.cons (.v 1) .nil))) .nil)))
 (.cons (.for (.n 3) (.rng (.gc "FEW"))
   (.cons (.iff (.cmp .Eq (.len (.v 2)) (.int 0))
    (.cons (.ret (.bl AD))
   .nil)
    .nil)
  (.cons (.set 4 (.pop (.v 2)))
  (.cons (.iff (.and (.isT "tuple" (.ix (.v 4) (.int 0))) (.isT "tuple" (.ix (.v 4) (.int 1))))
    (.cons (.iff (.cmp .NotEq (.len (.ix (.v 4) (.int 0))) (.len (.ix (.v 4) (.int 1))))
     (.cons (.ret (.bl AE))
    .nil)
     .nil)
   (.cons (.ex (.ext (.v 2) (.lzip (.ix (.v 4) (.int 0)) (.ix (.v 4) (.int 1)))))
   .nil))
    (.cons (.iff (.cmp .NotEq (.ix (.v 4) (.int 0)) (.ix (.v 4) (.int 1)))
     (.cons (.ret (.bl AE))
    .nil)
     .nil)
   .nil))
  .nil))))
 (.cons .dead
 (.cons .dead
 .nil))))⟩
abbrev aa3:Def:=⟨5,["word","one","other","names","through","shelf"],
 (.cons (.set 5 (.make "Shelf" .nil))
 (.cons (.ret (.call "is_step_over" (.cons (.call "shelved_names" (.cons (.v 3) (.cons (.v 5) .nil))) (.cons (.v 5) (.cons (.tup (.cons (.v 0) (.cons (.v 1) (.cons (.v 2) (.cons (.v 4) .nil))))) .nil)))))
 .nil))⟩
abbrev O3:Def:=⟨3,["known","shelf","step","word","one","other"],
 (.cons (.set 3 (.ix (.v 2) (.int 0)))
 (.cons (.set 4 (.ix (.v 2) (.int 1)))
 (.cons (.set 5 (.ix (.v 2) (.int 2)))
 (.cons (.iff (.cmp .NotIn (.v 3) (.gc "WORDS"))
   (.cons (.ret (.bl AE))
  .nil)
   .nil)
 (.cons (.tr (.cons (.iff (.cmp .NotEq (.call "shelved_kind" (.cons (.v 4) (.cons (.list (.v 0)) (.cons (.v 1) .nil)))) (.call "shelved_kind" (.cons (.v 5) (.cons (.list (.v 0)) (.cons (.v 1) .nil)))))
    (.cons (.ret (.bl AE))
   .nil)
    .nil)
  .nil))
 (.cons (.iff (.cmp .Eq (.v 3) (.str "split"))
   (.cons (.ret (.or (.call "forth_split" (.cons (.v 4) (.cons (.v 5) (.cons (.v 0) (.cons (.v 1) (.cons (.ix (.v 2) (.int 3)) .nil)))))) (.call "forth_split" (.cons (.v 5) (.cons (.v 4) (.cons (.v 0) (.cons (.v 1) (.cons (.ix (.v 2) (.int 3)) .nil))))))))
  .nil)
   .nil)
 (.cons (.ret (.or (.callx (.gsel "FORTH" (.v 3)) (.cons (.v 4) (.cons (.v 5) .nil))) (.callx (.gsel "FORTH" (.v 3)) (.cons (.v 5) (.cons (.v 4) .nil)))))
 .nil)))))))⟩
abbrev ag8:Def:=⟨2,["one","other"],
 (.cons (.ret (.and (.cmp .Eq (.ix (.v 0) (.int 0)) (.str "let")) (.call "are_alike" (.cons (.v 1) (.cons (.call "put_in" (.cons (.ix (.v 0) (.int 2)) (.cons (.ix (.v 0) (.int 1)) .nil))) .nil)))))
 .nil)⟩
abbrev af5:Def:=⟨2,["one","other"],
 (.cons (.ret (.and (.cmp .Eq (.ix (.v 0) (.int 0)) (.str "give")) (.and (.cmp .Eq (.ix (.ix (.v 0) (.int 1)) (.int 0)) (.str "way")) (.call "are_alike" (.cons (.v 1) (.cons (.call "put_in" (.cons (.ix (.ix (.v 0) (.int 1)) (.int 2)) (.cons (.ix (.v 0) (.int 2)) .nil))) .nil))))))
 .nil)⟩
abbrev ae7:Def:=⟨2,["one","other"],
 (.cons (.ret (.and (.cmp .Eq (.ix (.v 0) (.int 0)) (.str "first")) (.and (.cmp .Eq (.ix (.ix (.v 0) (.int 1)) (.int 0)) (.str "pair")) (.call "are_alike" (.cons (.v 1) (.cons (.ix (.ix (.v 0) (.int 1)) (.int 1)) .nil))))))
 .nil)⟩
abbrev ae3:Def:=⟨2,["one","other"],
 (.cons (.ret (.and (.cmp .Eq (.ix (.v 0) (.int 0)) (.str "second")) (.and (.cmp .Eq (.ix (.ix (.v 0) (.int 1)) (.int 0)) (.str "pair")) (.call "are_alike" (.cons (.v 1) (.cons (.ix (.ix (.v 0) (.int 1)) (.int 2)) .nil))))))
 .nil)⟩
abbrev ae9:Def:=⟨2,["one","other"],
 (.cons (.ret (.and (.cmp .Eq (.ix (.v 0) (.int 0)) (.str "case")) (.and (.cmp .Eq (.ix (.ix (.v 0) (.int 1)) (.int 0)) (.str "left")) (.call "are_alike" (.cons (.v 1) (.cons (.call "put_in" (.cons (.ix (.v 0) (.int 2)) (.cons (.ix (.ix (.v 0) (.int 1)) (.int 2)) .nil))) .nil))))))
 .nil)⟩
abbrev ae5:Def:=⟨2,["one","other"],
 (.cons (.ret (.and (.cmp .Eq (.ix (.v 0) (.int 0)) (.str "case")) (.and (.cmp .Eq (.ix (.ix (.v 0) (.int 1)) (.int 0)) (.str "right")) (.call "are_alike" (.cons (.v 1) (.cons (.call "put_in" (.cons (.ix (.v 0) (.int 3)) (.cons (.ix (.ix (.v 0) (.int 1)) (.int 2)) .nil))) .nil))))))
 .nil)⟩
abbrev af6:Def:=⟨2,["one","other"],
 (.cons (.ret (.cmp .Eq (.v 1) (.tup (.cons (.str "star") .nil))))
 .nil)⟩
abbrev af2:Def:=⟨2,["one","other"],
 (.cons (.ret (.and (.cmp .Eq (.ix (.v 1) (.int 0)) (.str "pair")) (.call "are_alike" (.cons (.v 1) (.cons (.tup (.cons (.str "pair") (.cons (.tup (.cons (.str "first") (.cons (.v 0) .nil))) (.cons (.tup (.cons (.str "second") (.cons (.v 0) .nil))) .nil)))) .nil)))))
 .nil)⟩
abbrev ag6:Def:=⟨2,["one","other"],
 (.cons (.ret (.and (.cmp .Eq (.ix (.v 1) (.int 0)) (.str "way")) (.call "are_alike" (.cons (.ix (.v 1) (.int 2)) (.cons (.tup (.cons (.str "give") (.cons (.call "lifted" (.cons (.v 0) (.cons (.int 1) (.cons (.int 0) .nil)))) (.cons (.tup (.cons (.str "name") (.cons (.int 0) .nil))) .nil)))) .nil)))))
 .nil)⟩
abbrev ae6:Def:=⟨5,["one","other","known","shelf","through","halves"],
 (.cons (.iff (.or (.isN (.v 4)) (.or (.cmp .NotEq (.ix (.v 1) (.int 0)) (.str "case")) (.not (.call "are_alike" (.cons (.v 0) (.cons (.call "put_in" (.cons (.v 4) (.cons (.ix (.v 1) (.int 1)) .nil))) .nil))))))
   (.cons (.ret (.bl AE))
  .nil)
   .nil)
 (.cons (.set 5 (.meth (.v 3) "tuple_at" (.cons (.call "shelved_kind" (.cons (.ix (.v 1) (.int 1)) (.cons (.list (.v 2)) (.cons (.v 3) .nil)))) .nil)))
 (.cons (.ret (.call "are_alike" (.cons (.v 1) (.cons (.call "split" (.cons (.v 4) (.cons (.ix (.v 1) (.int 1)) (.cons (.v 5) .nil)))) .nil))))
 .nil)))⟩
abbrev ak0:Def:=⟨3,["through","asked","halves","deeper","left"],
 (.cons (.set 3 (.call "lifted" (.cons (.v 0) (.cons (.int 1) (.cons (.int 1) .nil)))))
 (.cons (.set 4 (.call "put_in" (.cons (.v 3) (.cons (.tup (.cons (.str "left") (.cons (.ix (.v 2) (.int 2)) (.cons (.tup (.cons (.str "name") (.cons (.int 0) .nil))) .nil)))) .nil))))
 (.cons (.ret (.tup (.cons (.str "case") (.cons (.v 1) (.cons (.v 4) (.cons (.call "put_in" (.cons (.v 3) (.cons (.tup (.cons (.str "right") (.cons (.ix (.v 2) (.int 1)) (.cons (.tup (.cons (.str "name") (.cons (.int 0) .nil))) .nil)))) .nil))) .nil))))))
 .nil)))⟩
abbrev ae8:Def:=⟨2,["one","other"],
 (.cons (.ret (.cmp .Eq (.ix (.v 1) (.int 0)) (.str "never")))
 .nil)⟩
abbrev F6:Def:=⟨1,["_law_script","_law_deck_here","_law_k","_law_cell","_law_j","_law_number"],
 (.cons (.set 1 (.lst .nil))
 (.cons (.for (.n 2) (.rng (.min (.int 63) (.len (.v 0))))
   (.cons (.set 3 (.ix (.v 0) (.v 2)))
  (.cons (.iff (.cmp .GtE (.v 3) (.bin .Pow (.int 10) (.int 18)))
    (.cons (.for (.n 4) (.rng (.int 60))
     (.cons (.iff (.cmp .Gt (.v 3) (.int 0))
      (.cons (.ex (.app (.v 1) (.bin .Mod (.v 3) (.int 720720))))
     (.cons (.set 3 (.bin .FloorDiv (.v 3) (.int 720720)))
     .nil))
      .nil)
    .nil))
   .nil)
    (.cons (.set 5 (.bin .Mod (.bin .Add (.bin .Add (.bin .Mult (.bin .Mod (.v 3) (.int 2147483629)) (.int 48271)) (.bin .Mult (.int 7919) (.v 2))) (.int 13)) (.int 2147483629)))
   (.cons (.set 5 (.bin .Mod (.bin .Add (.bin .Mult (.v 5) (.bin .Add (.bin .FloorDiv (.v 5) (.int 5)) (.int 16807))) (.bin .Mult (.int 69621) (.v 2))) (.int 2147483587)))
   (.cons (.ex (.ext (.v 1) (.lst (.cons (.bin .Mod (.v 5) (.int 720720)) (.cons (.bin .Mod (.bin .Mod (.bin .Mult (.v 5) (.int 40692)) (.int 2147483399)) (.int 720720)) .nil)))))
   .nil))))
  .nil)))
 (.cons (.for (.n 2) (.rng2 (.len (.v 1)) (.int 150))
   (.cons (.set 5 (.int 11))
  (.cons (.iff (.cmp .Gt (.len (.v 0)) (.int 0))
    (.cons (.set 5 (.bin .Mod (.ix (.v 0) (.bin .Mod (.v 2) (.min (.int 63) (.len (.v 0))))) (.int 2147483629)))
   .nil)
    .nil)
  (.cons (.set 5 (.bin .Mod (.bin .Add (.bin .Add (.bin .Mult (.v 5) (.int 48271)) (.bin .Mult (.int 7919) (.v 2))) (.int 13)) (.int 2147483629)))
  (.cons (.set 5 (.bin .Mod (.bin .Add (.bin .Mult (.v 5) (.bin .Add (.bin .FloorDiv (.v 5) (.int 5)) (.int 16807))) (.bin .Mult (.int 69621) (.v 2))) (.int 2147483587)))
  (.cons (.ex (.app (.v 1) (.bin .Mod (.bin .Mod (.bin .Mult (.v 5) (.int 40692)) (.int 2147483399)) (.int 720720))))
  .nil))))))
 (.cons (.ret (.sl (.v 1) .non (.int 150)))
 .nil))))⟩
abbrev ah7:Def:=⟨2,["_law_deck_here","_law_many_here"],
 (.cons (.iff (.cmp .Eq (.len (.v 0)) (.int 0))
   (.cons (.ret (.int 0))
  .nil)
   .nil)
 (.cons (.ret (.bin .Mod (.popAt (.v 0) (.int 0)) (.v 1)))
 .nil))⟩
abbrev ah3:Def:=⟨2,["_law_deck_here","_law_deep","_law_two_here","_law_way","_law_one"],
 (.cons (.set 2 (.tup (.cons (.str "either") (.cons (.tup (.cons (.str "one") .nil)) (.cons (.tup (.cons (.str "one") .nil)) .nil)))))
 (.cons (.set 3 (.call "_law_next" (.cons (.v 0) (.cons (.ix (.lst (.cons (.int 3) (.cons (.int 9) .nil))) (.toInt (.cmp .Gt (.v 1) (.int 0)))) .nil))))
 (.cons (.iff (.cmp .Lt (.v 3) (.int 3))
   (.cons (.ret (.ix (.lst (.cons (.tup (.cons (.str "one") .nil)) (.cons (.v 2) (.cons (.v 2) .nil)))) (.v 3)))
  .nil)
   .nil)
 (.cons (.iff (.cmp .Eq (.v 3) (.int 3))
   (.cons (.ret (.tup (.cons (.str "way") (.cons (.tup (.cons (.str "none") .nil)) (.cons (.v 2) .nil)))))
  .nil)
   .nil)
 (.cons (.iff (.cmp .Eq (.v 3) (.int 8))
   (.cons (.ret (.tup (.cons (.str "either") (.cons (.tup (.cons (.str "none") .nil)) (.cons (.call "_law_kind" (.cons (.v 0) (.cons (.bin .Sub (.v 1) (.int 1)) .nil))) .nil)))))
  .nil)
   .nil)
 (.cons (.set 4 (.call "_law_kind" (.cons (.v 0) (.cons (.bin .Sub (.v 1) (.int 1)) .nil))))
 (.cons (.ret (.tup (.cons (.ix (.lst (.cons (.str "either") (.cons (.str "both") (.cons (.str "way") (.cons (.str "both") .nil))))) (.bin .Sub (.v 3) (.int 4))) (.cons (.v 4) (.cons (.call "_law_kind" (.cons (.v 0) (.cons (.int 0) .nil))) .nil)))))
 .nil)))))))⟩
abbrev aa2:Def:=⟨1,["_law_kind_here","_law_one","_law_other","_law_found","_law_turn"],
 (.cons (.iff (.cmp .In (.ix (.v 0) (.int 0)) (.tup (.cons (.str "none") (.cons (.str "one") .nil))))
   (.cons (.ret (.toInt (.cmp .Eq (.ix (.v 0) (.int 0)) (.str "one"))))
  .nil)
   .nil)
 (.cons (.set 1 (.call "_law_many" (.cons (.ix (.v 0) (.int 1)) .nil)))
 (.cons (.set 2 (.call "_law_many" (.cons (.ix (.v 0) (.int 2)) .nil)))
 (.cons (.iff (.cmp .Eq (.ix (.v 0) (.int 0)) (.str "either"))
   (.cons (.ret (.bin .Add (.v 1) (.v 2)))
  .nil)
   .nil)
 (.cons (.iff (.cmp .Eq (.ix (.v 0) (.int 0)) (.str "both"))
   (.cons (.ret (.bin .Mult (.v 1) (.v 2)))
  .nil)
   .nil)
 (.cons (.set 3 (.int 1))
 (.cons (.for (.n 4) (.rng (.v 1))
   (.cons (.set 3 (.bin .Mult (.v 3) (.v 2)))
  .nil))
 (.cons (.ret (.v 3))
 .nil))))))))⟩
abbrev R4:Def:=⟨1,["_law_kind_here"],
 (.cons (.iff (.cmp .Eq (.ix (.v 0) (.int 0)) (.str "one"))
   (.cons (.ret (.tup (.cons (.str "star") .nil)))
  .nil)
   .nil)
 (.cons (.iff (.cmp .Eq (.ix (.v 0) (.int 0)) (.str "both"))
   (.cons (.ret (.tup (.cons (.str "pair") (.cons (.call "_law_plain" (.cons (.ix (.v 0) (.int 1)) .nil)) (.cons (.call "_law_plain" (.cons (.ix (.v 0) (.int 2)) .nil)) .nil)))))
  .nil)
   .nil)
 (.cons (.iff (.and (.cmp .Eq (.ix (.v 0) (.int 0)) (.str "either")) (.cmp .Gt (.call "_law_many" (.cons (.ix (.v 0) (.int 1)) .nil)) (.int 0)))
   (.cons (.ret (.tup (.cons (.str "left") (.cons (.ix (.v 0) (.int 2)) (.cons (.call "_law_plain" (.cons (.ix (.v 0) (.int 1)) .nil)) .nil)))))
  .nil)
   .nil)
 (.cons (.iff (.cmp .Eq (.ix (.v 0) (.int 0)) (.str "either"))
   (.cons (.ret (.tup (.cons (.str "right") (.cons (.ix (.v 0) (.int 1)) (.cons (.call "_law_plain" (.cons (.ix (.v 0) (.int 2)) .nil)) .nil)))))
  .nil)
   .nil)
 (.cons (.iff (.cmp .Eq (.call "_law_many" (.cons (.ix (.v 0) (.int 1)) .nil)) (.int 0))
   (.cons (.ret (.tup (.cons (.str "way") (.cons (.ix (.v 0) (.int 1)) (.cons (.tup (.cons (.str "never") (.cons (.ix (.v 0) (.int 2)) (.cons (.tup (.cons (.str "name") (.cons (.int 0) .nil))) .nil)))) .nil)))))
  .nil)
   .nil)
 (.cons (.ret (.tup (.cons (.str "way") (.cons (.ix (.v 0) (.int 1)) (.cons (.call "_law_plain" (.cons (.ix (.v 0) (.int 2)) .nil)) .nil)))))
 .nil))))))⟩
abbrev ah9:Def:=⟨4,["_law_deck_here","_law_kind_here","_law_names_here","_law_room","_law_one"],
 (.cons (.iff (.cmp .Eq (.ix (.v 1) (.int 0)) (.str "one"))
   (.cons (.ret (.tup (.cons (.str "star") .nil)))
  .nil)
   .nil)
 (.cons (.iff (.cmp .Eq (.ix (.v 1) (.int 0)) (.str "both"))
   (.cons (.set 4 (.call "_law_term" (.cons (.v 0) (.cons (.ix (.v 1) (.int 1)) (.cons (.v 2) (.cons (.bin .FloorDiv (.v 3) (.int 2)) .nil))))))
  (.cons (.ret (.tup (.cons (.str "pair") (.cons (.v 4) (.cons (.call "_law_term" (.cons (.v 0) (.cons (.ix (.v 1) (.int 2)) (.cons (.v 2) (.cons (.bin .FloorDiv (.v 3) (.int 2)) .nil))))) .nil)))))
  .nil))
   .nil)
 (.cons (.iff (.and (.cmp .Eq (.ix (.v 1) (.int 0)) (.str "way")) (.cmp .Gt (.call "_law_many" (.cons (.ix (.v 1) (.int 1)) .nil)) (.int 0)))
   (.cons (.ret (.tup (.cons (.str "way") (.cons (.ix (.v 1) (.int 1)) (.cons (.call "_law_term" (.cons (.v 0) (.cons (.ix (.v 1) (.int 2)) (.cons (.bin .Add (.tup (.cons (.ix (.v 1) (.int 1)) .nil)) (.v 2)) (.cons (.bin .Sub (.v 3) (.int 1)) .nil))))) .nil)))))
  .nil)
   .nil)
 (.cons (.iff (.cmp .Eq (.ix (.v 1) (.int 0)) (.str "way"))
   (.cons (.ret (.tup (.cons (.str "way") (.cons (.ix (.v 1) (.int 1)) (.cons (.tup (.cons (.str "never") (.cons (.ix (.v 1) (.int 2)) (.cons (.tup (.cons (.str "name") (.cons (.int 0) .nil))) .nil)))) .nil)))))
  .nil)
   .nil)
 (.cons (.iff (.or (.cmp .Eq (.call "_law_many" (.cons (.ix (.v 1) (.int 2)) .nil)) (.int 0)) (.and (.cmp .Gt (.call "_law_many" (.cons (.ix (.v 1) (.int 1)) .nil)) (.int 0)) (.cmp .Eq (.call "_law_next" (.cons (.v 0) (.cons (.int 2) .nil))) (.int 0))))
   (.cons (.ret (.tup (.cons (.str "left") (.cons (.ix (.v 1) (.int 2)) (.cons (.call "_law_term" (.cons (.v 0) (.cons (.ix (.v 1) (.int 1)) (.cons (.v 2) (.cons (.bin .Sub (.v 3) (.int 1)) .nil))))) .nil)))))
  .nil)
   .nil)
 (.cons (.ret (.tup (.cons (.str "right") (.cons (.ix (.v 1) (.int 1)) (.cons (.call "_law_term" (.cons (.v 0) (.cons (.ix (.v 1) (.int 2)) (.cons (.v 2) (.cons (.bin .Sub (.v 3) (.int 1)) .nil))))) .nil)))))
 .nil))))))⟩
abbrev ag2:Def:=⟨4,["_law_deck_here","_law_kind_here","_law_names_here","_law_room","_law_way","_law_more","_law_half","_law_one","_law_other","_law_third","_law_yes"],
 (.cons (.set 4 (.call "_law_next" (.cons (.v 0) (.cons (.int 5) .nil))))
 (.cons (.set 5 (.call "_law_kind" (.cons (.v 0) (.cons (.bin .Sub (.int 1) (.toInt (.cmp .Lt (.v 3) (.int 6)))) .nil))))
 (.cons (.set 6 (.bin .FloorDiv (.bin .Sub (.v 3) (.int 1)) (.int 2)))
 (.cons (.iff (.cmp .Eq (.v 4) (.int 0))
   (.cons (.ret (.tup (.cons (.str "first") (.cons (.call "_law_term" (.cons (.v 0) (.cons (.tup (.cons (.str "both") (.cons (.v 1) (.cons (.v 5) .nil)))) (.cons (.v 2) (.cons (.bin .Sub (.v 3) (.int 1)) .nil))))) .nil))))
  .nil)
   .nil)
 (.cons (.iff (.cmp .Eq (.v 4) (.int 1))
   (.cons (.ret (.tup (.cons (.str "second") (.cons (.call "_law_term" (.cons (.v 0) (.cons (.tup (.cons (.str "both") (.cons (.v 5) (.cons (.v 1) .nil)))) (.cons (.v 2) (.cons (.bin .Sub (.v 3) (.int 1)) .nil))))) .nil))))
  .nil)
   .nil)
 (.cons (.iff (.cmp .Eq (.v 4) (.int 2))
   (.cons (.set 7 (.call "_law_term" (.cons (.v 0) (.cons (.tup (.cons (.str "way") (.cons (.v 5) (.cons (.v 1) .nil)))) (.cons (.v 2) (.cons (.v 6) .nil))))))
  (.cons (.ret (.tup (.cons (.str "give") (.cons (.v 7) (.cons (.call "_law_term" (.cons (.v 0) (.cons (.v 5) (.cons (.v 2) (.cons (.v 6) .nil))))) .nil)))))
  .nil))
   .nil)
 (.cons (.iff (.cmp .Eq (.v 4) (.int 3))
   (.cons (.set 7 (.call "_law_term" (.cons (.v 0) (.cons (.v 5) (.cons (.v 2) (.cons (.v 6) .nil))))))
  (.cons (.ret (.tup (.cons (.str "let") (.cons (.v 7) (.cons (.call "_law_term" (.cons (.v 0) (.cons (.v 1) (.cons (.bin .Add (.tup (.cons (.v 5) .nil)) (.v 2)) (.cons (.v 6) .nil))))) .nil)))))
  .nil))
   .nil)
 (.cons (.set 8 (.call "_law_kind" (.cons (.v 0) (.cons (.int 0) .nil))))
 (.cons (.set 9 (.bin .FloorDiv (.bin .Sub (.v 3) (.int 1)) (.int 3)))
 (.cons (.set 7 (.call "_law_term" (.cons (.v 0) (.cons (.tup (.cons (.str "either") (.cons (.v 5) (.cons (.v 8) .nil)))) (.cons (.v 2) (.cons (.v 9) .nil))))))
 (.cons (.set 10 (.call "_law_term" (.cons (.v 0) (.cons (.v 1) (.cons (.bin .Add (.tup (.cons (.v 5) .nil)) (.v 2)) (.cons (.v 9) .nil))))))
 (.cons (.ret (.tup (.cons (.str "case") (.cons (.v 7) (.cons (.v 10) (.cons (.call "_law_term" (.cons (.v 0) (.cons (.v 1) (.cons (.bin .Add (.tup (.cons (.v 8) .nil)) (.v 2)) (.cons (.v 9) .nil))))) .nil))))))
 .nil))))))))))))⟩
abbrev W2:Def:=⟨4,["_law_deck_here","_law_kind_here","_law_names_here","_law_room","_law_some","_law_form"],
 (.cons (.set 4 (.comp ["_law_kind_here","_law_names_here","_law_k"] [1,2] 1 (.n 2) (.rng (.len (.v 2))) (.cmp .Eq (.ix (.v 1) (.v 2)) (.v 0)) (.v 2)))
 (.cons (.set 5 (.call "_law_next" (.cons (.v 0) (.cons (.int 4) .nil))))
 (.cons (.iff (.and (.cmp .Gt (.len (.v 4)) (.int 0)) (.or (.cmp .Lt (.v 5) (.int 2)) (.cmp .Lt (.v 3) (.int 3))))
   (.cons (.ret (.tup (.cons (.str "name") (.cons (.ix (.v 4) (.call "_law_next" (.cons (.v 0) (.cons (.len (.v 4)) .nil)))) .nil))))
  .nil)
   .nil)
 (.cons (.iff (.cmp .Lt (.v 3) (.int 3))
   (.cons (.ret (.call "_law_plain" (.cons (.v 1) .nil)))
  .nil)
   .nil)
 (.cons (.iff (.cmp .Eq (.v 5) (.int 3))
   (.cons (.ret (.call "_law_taken" (.cons (.v 0) (.cons (.v 1) (.cons (.v 2) (.cons (.v 3) .nil))))))
  .nil)
   .nil)
 (.cons (.ret (.call "_law_made" (.cons (.v 0) (.cons (.v 1) (.cons (.v 2) (.cons (.v 3) .nil))))))
 .nil))))))⟩
abbrev af9:Def:=⟨1,["_law_program","_law_form"],
 (.cons (.set 1 (.ix (.v 0) (.int 0)))
 (.cons (.iff (.cmp .In (.v 1) (.tup (.cons (.str "name") (.cons (.str "star") .nil))))
   (.cons (.ret (.lst .nil))
  .nil)
   .nil)
 (.cons (.iff (.cmp .In (.v 1) (.tup (.cons (.str "pair") (.cons (.str "give") .nil))))
   (.cons (.ret (.lst (.cons (.tup (.cons (.int 1) (.cons (.int 0) .nil))) (.cons (.tup (.cons (.int 2) (.cons (.int 0) .nil))) .nil))))
  .nil)
   .nil)
 (.cons (.iff (.cmp .In (.v 1) (.tup (.cons (.str "first") (.cons (.str "second") .nil))))
   (.cons (.ret (.lst (.cons (.tup (.cons (.int 1) (.cons (.int 0) .nil))) .nil)))
  .nil)
   .nil)
 (.cons (.iff (.cmp .In (.v 1) (.tup (.cons (.str "left") (.cons (.str "right") (.cons (.str "never") .nil)))))
   (.cons (.ret (.lst (.cons (.tup (.cons (.int 2) (.cons (.int 0) .nil))) .nil)))
  .nil)
   .nil)
 (.cons (.iff (.cmp .Eq (.v 1) (.str "way"))
   (.cons (.ret (.lst (.cons (.tup (.cons (.int 2) (.cons (.int 1) .nil))) .nil)))
  .nil)
   .nil)
 (.cons (.iff (.cmp .Eq (.v 1) (.str "let"))
   (.cons (.ret (.lst (.cons (.tup (.cons (.int 1) (.cons (.int 0) .nil))) (.cons (.tup (.cons (.int 2) (.cons (.int 1) .nil))) .nil))))
  .nil)
   .nil)
 (.cons (.ret (.lst (.cons (.tup (.cons (.int 1) (.cons (.int 0) .nil))) (.cons (.tup (.cons (.int 2) (.cons (.int 1) .nil))) (.cons (.tup (.cons (.int 3) (.cons (.int 1) .nil))) .nil)))))
 .nil))))))))⟩
abbrev ai8:Def:=⟨3,["_law_program","_law_many_here","_law_least","_law_found","_law_at","_law_more"],
 (.cons (.iff (.cmp .Eq (.ix (.v 0) (.int 0)) (.str "name"))
   (.cons (.ret (.tup (.cons (.str "name") (.cons (.bin .Add (.ix (.v 0) (.int 1)) (.bin .Mult (.v 1) (.toInt (.cmp .GtE (.ix (.v 0) (.int 1)) (.v 2))))) .nil))))
  .nil)
   .nil)
 (.cons (.set 3 (.list (.v 0)))
 (.cons (.for (.tup [4,5]) (.seq (.call "_law_under" (.cons (.v 0) .nil)))
   (.cons (.put (.v 3) (.v 4) (.call "_law_lift" (.cons (.ix (.v 0) (.v 4)) (.cons (.v 1) (.cons (.bin .Add (.v 2) (.v 5)) .nil)))))
  .nil))
 (.cons (.ret (.tuple (.v 3)))
 .nil))))⟩
abbrev aj2:Def:=⟨3,["_law_program","_law_other","_law_deep","_law_found","_law_at","_law_more"],
 (.cons (.iff (.and (.cmp .Eq (.ix (.v 0) (.int 0)) (.str "name")) (.cmp .Eq (.ix (.v 0) (.int 1)) (.v 2)))
   (.cons (.ret (.call "_law_lift" (.cons (.v 1) (.cons (.v 2) (.cons (.int 0) .nil)))))
  .nil)
   .nil)
 (.cons (.iff (.cmp .Eq (.ix (.v 0) (.int 0)) (.str "name"))
   (.cons (.ret (.tup (.cons (.str "name") (.cons (.bin .Sub (.ix (.v 0) (.int 1)) (.toInt (.cmp .Gt (.ix (.v 0) (.int 1)) (.v 2)))) .nil))))
  .nil)
   .nil)
 (.cons (.set 3 (.list (.v 0)))
 (.cons (.for (.tup [4,5]) (.seq (.call "_law_under" (.cons (.v 0) .nil)))
   (.cons (.put (.v 3) (.v 4) (.call "_law_put" (.cons (.ix (.v 0) (.v 4)) (.cons (.v 1) (.cons (.bin .Add (.v 2) (.v 5)) .nil)))))
  .nil))
 (.cons (.ret (.tuple (.v 3)))
 .nil)))))⟩
abbrev aj4:Def:=⟨4,["_law_deck_here","_law_word_here","_law_kind_here","_law_names_here","_law_more","_law_under_here","_law_one","_law_body","_law_other","_law_next_kind","_law_yes","_law_no"],
 (.cons (.set 4 (.call "_law_kind" (.cons (.v 0) (.cons (.int 1) .nil))))
 (.cons (.set 5 (.bin .Add (.tup (.cons (.v 4) .nil)) (.v 3)))
 (.cons (.iff (.cmp .Eq (.v 1) (.str "let"))
   (.cons (.set 6 (.call "_law_term" (.cons (.v 0) (.cons (.v 4) (.cons (.v 3) (.cons (.int 5) .nil))))))
  (.cons (.set 7 (.call "_law_term" (.cons (.v 0) (.cons (.v 2) (.cons (.v 5) (.cons (.int 6) .nil))))))
  (.cons (.ret (.tup (.cons (.tup (.cons (.str "let") (.cons (.v 6) (.cons (.v 7) .nil)))) (.cons (.call "_law_put" (.cons (.v 7) (.cons (.v 6) (.cons (.int 0) .nil)))) (.cons .non .nil)))))
  .nil)))
   .nil)
 (.cons (.iff (.cmp .Eq (.v 1) (.str "give"))
   (.cons (.set 6 (.call "_law_term" (.cons (.v 0) (.cons (.v 4) (.cons (.v 3) (.cons (.int 5) .nil))))))
  (.cons (.set 7 (.call "_law_term" (.cons (.v 0) (.cons (.v 2) (.cons (.v 5) (.cons (.int 6) .nil))))))
  (.cons (.ret (.tup (.cons (.tup (.cons (.str "give") (.cons (.tup (.cons (.str "way") (.cons (.v 4) (.cons (.v 7) .nil)))) (.cons (.v 6) .nil)))) (.cons (.call "_law_put" (.cons (.v 7) (.cons (.v 6) (.cons (.int 0) .nil)))) (.cons .non .nil)))))
  .nil)))
   .nil)
 (.cons (.set 6 (.call "_law_term" (.cons (.v 0) (.cons (.v 2) (.cons (.v 3) (.cons (.int 7) .nil))))))
 (.cons (.set 8 (.call "_law_term" (.cons (.v 0) (.cons (.v 4) (.cons (.v 3) (.cons (.int 4) .nil))))))
 (.cons (.iff (.cmp .Eq (.v 1) (.str "first"))
   (.cons (.ret (.tup (.cons (.tup (.cons (.str "first") (.cons (.tup (.cons (.str "pair") (.cons (.v 6) (.cons (.v 8) .nil)))) .nil))) (.cons (.v 6) (.cons .non .nil)))))
  .nil)
   .nil)
 (.cons (.iff (.cmp .Eq (.v 1) (.str "second"))
   (.cons (.ret (.tup (.cons (.tup (.cons (.str "second") (.cons (.tup (.cons (.str "pair") (.cons (.v 8) (.cons (.v 6) .nil)))) .nil))) (.cons (.v 6) (.cons .non .nil)))))
  .nil)
   .nil)
 (.cons (.set 9 (.call "_law_kind" (.cons (.v 0) (.cons (.int 0) .nil))))
 (.cons (.set 10 (.call "_law_term" (.cons (.v 0) (.cons (.v 2) (.cons (.v 5) (.cons (.int 6) .nil))))))
 (.cons (.set 11 (.call "_law_term" (.cons (.v 0) (.cons (.v 2) (.cons (.bin .Add (.tup (.cons (.v 9) .nil)) (.v 3)) (.cons (.int 5) .nil))))))
 (.cons (.iff (.cmp .Eq (.v 1) (.str "left"))
   (.cons (.ret (.tup (.cons (.tup (.cons (.str "case") (.cons (.tup (.cons (.str "left") (.cons (.v 9) (.cons (.v 8) .nil)))) (.cons (.v 10) (.cons (.v 11) .nil))))) (.cons (.call "_law_put" (.cons (.v 10) (.cons (.v 8) (.cons (.int 0) .nil)))) (.cons .non .nil)))))
  .nil)
   .nil)
 (.cons (.ret (.tup (.cons (.tup (.cons (.str "case") (.cons (.tup (.cons (.str "right") (.cons (.v 9) (.cons (.v 8) .nil)))) (.cons (.v 11) (.cons (.v 10) .nil))))) (.cons (.call "_law_put" (.cons (.v 10) (.cons (.v 8) (.cons (.int 0) .nil)))) (.cons .non .nil)))))
 .nil)))))))))))))⟩
abbrev ai2:Def:=⟨1,["_law_deck_here","_law_two_here","_law_none","_law_some"],
 (.cons (.set 1 (.tup (.cons (.str "either") (.cons (.tup (.cons (.str "one") .nil)) (.cons (.tup (.cons (.str "one") .nil)) .nil)))))
 (.cons (.set 2 (.tup (.cons (.str "none") .nil)))
 (.cons (.set 3 (.lst (.cons (.v 2) (.cons (.v 2) (.cons (.tup (.cons (.str "both") (.cons (.v 1) (.cons (.v 2) .nil)))) (.cons (.tup (.cons (.str "either") (.cons (.v 2) (.cons (.v 2) .nil)))) (.cons (.tup (.cons (.str "way") (.cons (.v 1) (.cons (.v 2) .nil)))) .nil)))))))
 (.cons (.ret (.ix (.v 3) (.call "_law_next" (.cons (.v 0) (.cons (.int 5) .nil)))))
 .nil))))⟩
abbrev ae4:Def:=⟨2,["_law_kind_here","_law_one"],
 (.cons (.iff (.cmp .Eq (.ix (.v 0) (.int 0)) (.str "both"))
   (.cons (.ret (.tup (.cons (.str "second") (.cons (.v 1) .nil))))
  .nil)
   .nil)
 (.cons (.iff (.cmp .Eq (.ix (.v 0) (.int 0)) (.str "either"))
   (.cons (.ret (.tup (.cons (.str "case") (.cons (.v 1) (.cons (.tup (.cons (.str "name") (.cons (.int 0) .nil))) (.cons (.tup (.cons (.str "name") (.cons (.int 0) .nil))) .nil))))))
  .nil)
   .nil)
 (.cons (.iff (.cmp .Eq (.ix (.v 0) (.int 0)) (.str "way"))
   (.cons (.ret (.tup (.cons (.str "give") (.cons (.v 1) (.cons (.tup (.cons (.str "left") (.cons (.tup (.cons (.str "one") .nil)) (.cons (.tup (.cons (.str "star") .nil)) .nil)))) .nil)))))
  .nil)
   .nil)
 (.cons (.ret (.v 1))
 .nil))))⟩
abbrev af1:Def:=⟨4,["_law_deck_here","_law_word_here","_law_kind_here","_law_names_here","_law_one","_law_more","_law_at","_law_either","_law_asked","_law_through","_law_wide","_law_yes","_law_no"],
 (.cons (.iff (.cmp .Eq (.v 1) (.str "star"))
   (.cons (.ret (.tup (.cons (.call "_law_taken" (.cons (.v 0) (.cons (.tup (.cons (.str "one") .nil)) (.cons (.v 3) (.cons (.int 8) .nil))))) (.cons (.tup (.cons (.str "star") .nil)) (.cons .non .nil)))))
  .nil)
   .nil)
 (.cons (.iff (.cmp .Eq (.v 1) (.str "pair"))
   (.cons (.set 4 (.call "_law_term" (.cons (.v 0) (.cons (.tup (.cons (.str "both") (.cons (.v 2) (.cons (.call "_law_kind" (.cons (.v 0) (.cons (.int 0) .nil))) .nil)))) (.cons (.v 3) (.cons (.int 8) .nil))))))
  (.cons (.ret (.tup (.cons (.v 4) (.cons (.tup (.cons (.str "pair") (.cons (.tup (.cons (.str "first") (.cons (.v 4) .nil))) (.cons (.tup (.cons (.str "second") (.cons (.v 4) .nil))) .nil)))) (.cons .non .nil)))))
  .nil))
   .nil)
 (.cons (.iff (.cmp .Eq (.v 1) (.str "way"))
   (.cons (.set 5 (.call "_law_kind" (.cons (.v 0) (.cons (.int 1) .nil))))
  (.cons (.set 4 (.call "_law_term" (.cons (.v 0) (.cons (.tup (.cons (.str "way") (.cons (.v 5) (.cons (.v 2) .nil)))) (.cons (.v 3) (.cons (.int 8) .nil))))))
  (.cons (.ret (.tup (.cons (.v 4) (.cons (.tup (.cons (.str "way") (.cons (.v 5) (.cons (.tup (.cons (.str "give") (.cons (.call "_law_lift" (.cons (.v 4) (.cons (.int 1) (.cons (.int 0) .nil)))) (.cons (.tup (.cons (.str "name") (.cons (.int 0) .nil))) .nil)))) .nil)))) (.cons .non .nil)))))
  .nil)))
   .nil)
 (.cons (.iff (.cmp .Eq (.v 1) (.str "never"))
   (.cons (.set 6 (.ix (.comp ["_law_names_here","_law_k"] [3] 1 (.n 1) (.rng (.len (.v 3))) (.cmp .Eq (.call "_law_many" (.cons (.ix (.v 0) (.v 1)) .nil)) (.int 0)) (.v 1)) (.int 0)))
  (.cons (.set 4 (.call "_law_term" (.cons (.v 0) (.cons (.v 2) (.cons (.v 3) (.cons (.int 8) .nil))))))
  (.cons (.ret (.tup (.cons (.v 4) (.cons (.tup (.cons (.str "never") (.cons (.v 2) (.cons (.call "_law_nothing" (.cons (.ix (.v 3) (.v 6)) (.cons (.tup (.cons (.str "name") (.cons (.v 6) .nil))) .nil))) .nil)))) (.cons .non .nil)))))
  .nil)))
   .nil)
 (.cons (.set 7 (.tup (.cons (.str "either") (.cons (.call "_law_kind" (.cons (.v 0) (.cons (.int 1) .nil))) (.cons (.call "_law_kind" (.cons (.v 0) (.cons (.int 0) .nil))) .nil)))))
 (.cons (.set 8 (.call "_law_term" (.cons (.v 0) (.cons (.v 7) (.cons (.v 3) (.cons (.int 6) .nil))))))
 (.cons (.set 9 (.call "_law_term" (.cons (.v 0) (.cons (.v 2) (.cons (.bin .Add (.tup (.cons (.v 7) .nil)) (.v 3)) (.cons (.int 8) .nil))))))
 (.cons (.set 10 (.call "_law_lift" (.cons (.v 9) (.cons (.int 1) (.cons (.int 1) .nil)))))
 (.cons (.set 11 (.call "_law_put" (.cons (.v 10) (.cons (.tup (.cons (.str "left") (.cons (.ix (.v 7) (.int 2)) (.cons (.tup (.cons (.str "name") (.cons (.int 0) .nil))) .nil)))) (.cons (.int 0) .nil)))))
 (.cons (.set 12 (.call "_law_put" (.cons (.v 10) (.cons (.tup (.cons (.str "right") (.cons (.ix (.v 7) (.int 1)) (.cons (.tup (.cons (.str "name") (.cons (.int 0) .nil))) .nil)))) (.cons (.int 0) .nil)))))
 (.cons (.ret (.tup (.cons (.call "_law_put" (.cons (.v 9) (.cons (.v 8) (.cons (.int 0) .nil)))) (.cons (.tup (.cons (.str "case") (.cons (.v 8) (.cons (.v 11) (.cons (.v 12) .nil))))) (.cons (.v 9) .nil)))))
 .nil)))))))))))⟩
abbrev ah6:Def:=⟨4,["_law_deck_here","_law_word_here","_law_kind_here","_law_names_here"],
 (.cons (.iff (.cmp .In (.v 1) (.tup (.cons (.str "let") (.cons (.str "give") (.cons (.str "first") (.cons (.str "second") (.cons (.str "left") (.cons (.str "right") .nil))))))))
   (.cons (.ret (.call "_law_two" (.cons (.v 0) (.cons (.v 1) (.cons (.v 2) (.cons (.v 3) .nil))))))
  .nil)
   .nil)
 (.cons (.ret (.call "_law_spread" (.cons (.v 0) (.cons (.v 1) (.cons (.v 2) (.cons (.v 3) .nil))))))
 .nil))⟩
abbrev ai3:Def:=⟨1,["_law_deck_here","_law_words"],
 (.cons (.set 1 (.lst (.cons (.str "let") (.cons (.str "give") (.cons (.str "first") (.cons (.str "second") (.cons (.str "left") (.cons (.str "right") (.cons (.str "star") (.cons (.str "pair") (.cons (.str "way") (.cons (.str "split") (.cons (.str "never") (.cons (.str "split") .nil))))))))))))))
 (.cons (.ret (.ix (.v 1) (.call "_law_next" (.cons (.v 0) (.cons (.int 12) .nil)))))
 .nil))⟩
abbrev W0:Def:=⟨2,["_law_deck_here","_law_word_here","_law_names_here","_law_at"],
 (.cons (.set 2 (.tuple (.comp ["_law_deck_here","_law_k"] [0] 1 (.n 1) (.rng (.call "_law_next" (.cons (.v 0) (.cons (.int 3) .nil)))) .non (.call "_law_kind" (.cons (.v 0) (.cons (.int 1) .nil))))))
 (.cons (.iff (.cmp .Eq (.call "_law_next" (.cons (.v 0) (.cons (.int 8) .nil))) (.int 0))
   (.cons (.set 2 (.bin .Add (.bin .Mult (.tup (.cons (.tup (.cons (.str "one") .nil)) .nil)) (.bin .Add (.int 7) (.call "_law_next" (.cons (.v 0) (.cons (.int 3) .nil))))) (.v 2)))
  .nil)
   .nil)
 (.cons (.iff (.cmp .Eq (.v 1) (.str "never"))
   (.cons (.set 3 (.call "_law_next" (.cons (.v 0) (.cons (.bin .Add (.len (.v 2)) (.int 1)) .nil))))
  (.cons (.set 2 (.bin .Add (.bin .Add (.slw (.v 2) .non (.v 3)) (.tup (.cons (.call "_law_void" (.cons (.v 0) .nil)) .nil))) (.slw (.v 2) (.v 3) .non)))
  .nil))
   .nil)
 (.cons (.ret (.v 2))
 .nil))))⟩
abbrev aa9:Def:=⟨1,["_law_script","_law_deck_here","_law_word_here","_law_names_here","_law_one","_law_other","_law_through","_law_words","_law_turn"],
 (.cons (.set 1 (.call "_law_deck" (.cons (.v 0) .nil)))
 (.cons (.set 2 (.call "_law_word" (.cons (.v 1) .nil)))
 (.cons (.set 3 (.call "_law_names" (.cons (.v 1) (.cons (.v 2) .nil))))
 (.cons (.unp [4,5,6] (.call "_law_step" (.cons (.v 1) (.cons (.v 2) (.cons (.call "_law_kind" (.cons (.v 1) (.cons (.int 2) .nil))) (.cons (.v 3) .nil))))))
 (.cons (.set 7 (.tup (.cons (.str "let") (.cons (.str "give") (.cons (.str "first") (.cons (.str "second") (.cons (.str "left") (.cons (.str "right") (.cons (.str "star") (.cons (.str "pair") (.cons (.str "way") (.cons (.str "split") (.cons (.str "never") .nil)))))))))))))
 (.cons (.iff (.or (.cmpl AD (.gc "WORDS") (.v 7)) (.not (.isT "tuple" (.gc "WORDS"))))
   (.cons (.ret (.bl AE))
  .nil)
   .nil)
 (.cons (.iff (.cmp .NotEq (.call "kind_of" (.cons (.v 4) (.cons (.v 3) .nil))) (.call "kind_of" (.cons (.v 5) (.cons (.v 3) .nil))))
   (.cons (.ret (.bl AE))
  .nil)
   .nil)
 (.cons (.for (.n 8) (.rng (.int 2))
   (.cons (.iff (.cmp .IsNot (.call "is_step" (.cons (.v 2) (.cons (.v 4) (.cons (.v 5) (.cons (.v 3) (.cons (.v 6) .nil)))))) (.bl AD))
    (.cons (.ret (.bl AE))
   .nil)
    .nil)
  (.cons (.iff (.cmp .IsNot (.call "is_step" (.cons (.v 2) (.cons (.v 5) (.cons (.v 4) (.cons (.v 3) (.cons (.v 6) .nil)))))) (.bl AD))
    (.cons (.ret (.bl AE))
   .nil)
    .nil)
  .nil)))
 (.cons (.iff (.isN (.v 6))
   (.cons (.ret (.cmp .Is (.calln "is_step" (.cons (.v 2) (.cons (.v 4) (.cons (.v 5) (.cons (.v 3) .nil))))) (.bl AD)))
  .nil)
   .nil)
 (.cons (.ret (.bl AD))
 .nil))))))))))⟩
abbrev W6:List (Str×Def):=[(("Shelf.__init__":Str),af8),(("Shelf.laid_kind":Str),V9),(("Shelf.built":Str),aj1),(("Shelf.numbered":Str),af7),(("Shelf.put_by":Str),ai6),(("Shelf.taken_up":Str),af0),(("Shelf.tuple_at":Str),af4),(("Shelf.word_at":Str),ag3),(("Shelf.within":Str),ai7),(("Node.__init__":Str),ag4),(("made_of_parts":Str),ah0),(("order_of_few":Str),ai0),(("taken":Str),an8),(("are_alike":Str),aa1),(("inner":Str),an6),(("with_inner":Str),W3),(("names_more":Str),aj7),(("noded":Str),an5),(("folded":Str),M5),(("kind_of":Str),al3),(("shelved_names":Str),ag9),(("shelved_kind":Str),ai4),(("kind_of_node":Str),ai1),(("kind_by_parts":Str),ag5),(("new_name":Str),ak2),(("halves_of":Str),aj9),(("kind_of_name":Str),ah4),(("kind_of_star":Str),ah8),(("kind_of_pair":Str),ah5),(("kind_of_first":Str),ag7),(("kind_of_second":Str),af3),(("kind_of_left":Str),ah1),(("kind_of_right":Str),ag1),(("kind_of_case":Str),ai5),(("kind_of_way":Str),ai9),(("kind_of_give":Str),ah2),(("kind_of_let":Str),aj0),(("kind_of_never":Str),ag0),(("lifted":Str),al5),(("put_in":Str),am1),(("copy_under":Str),aj8),(("with_parts":Str),aj6),(("inner_under":Str),aj3),(("is_step":Str),aa3),(("is_step_over":Str),O3),(("forth_let":Str),ag8),(("forth_give":Str),af5),(("forth_first":Str),ae7),(("forth_second":Str),ae3),(("forth_left":Str),ae9),(("forth_right":Str),ae5),(("forth_star":Str),af6),(("forth_pair":Str),af2),(("forth_way":Str),ag6),(("forth_split":Str),ae6),(("split":Str),ak0),(("forth_never":Str),ae8),(("_law_deck":Str),F6),(("_law_next":Str),ah7),(("_law_kind":Str),ah3),(("_law_many":Str),aa2),(("_law_plain":Str),R4),(("_law_made":Str),ah9),(("_law_taken":Str),ag2),(("_law_term":Str),W2),(("_law_under":Str),af9),(("_law_lift":Str),ai8),(("_law_put":Str),aj2),(("_law_two":Str),aj4),(("_law_void":Str),ai2),(("_law_nothing":Str),ae4),(("_law_spread":Str),af1),(("_law_step":Str),ah6),(("_law_word":Str),ai3),(("_law_names":Str),W0),(("law":Str),aa9)]
abbrev P6:i8:=λf=>W6.lookup f
abbrev p9:Gs:=⟨λg=>if g="INNER_FROM" then [("name",.int 2),("star",.int 1),("pair",.int 1),("first",.int 1),("second",.int 1),("left",.int 2),("right",.int 2),("case",.int 1),("way",.int 2),("give",.int 1),("let",.int 1),("never",.int 2)]else if g="UNDER_ONE_MORE" then [("case",.ktup [.inl 1,.inl 2]),("way",.ktup [.inl 0]),("let",.ktup [.inl 1])]else if g="BY_WORD" then [("name",.fn "kind_of_name"),("star",.fn "kind_of_star"),("pair",.fn "kind_of_pair"),("first",.fn "kind_of_first"),("second",.fn "kind_of_second"),("left",.fn "kind_of_left"),("right",.fn "kind_of_right"),("case",.fn "kind_of_case"),("way",.fn "kind_of_way"),("give",.fn "kind_of_give"),("let",.fn "kind_of_let"),("never",.fn "kind_of_never")]else if g="FORTH" then [("let",.fn "forth_let"),("give",.fn "forth_give"),("first",.fn "forth_first"),("second",.fn "forth_second"),("left",.fn "forth_left"),("right",.fn "forth_right"),("star",.fn "forth_star"),("pair",.fn "forth_pair"),("way",.fn "forth_way"),("never",.fn "forth_never")]else [],λc=>if c="!kt" then ["n"]else if c="!Shelf.laid_kind" then ["d","d","d","d"]else if c="!is_step" then ["d"]else if c="Shelf" then ["numbers","stored","parts","waiting"]else if c="Node" then ["program","inside","number","holders","ways","used","kind"]else [],λg=>if g="FEW" then AA (.int 2000)else if g="WORDS" then AA (.ktup [.inr "let",.inr "give",.inr "first",.inr "second",.inr "left",.inr "right",.inr "star",.inr "pair",.inr "way",.inr "split",.inr "never"])else AF⟩
end Ek
namespace Ek
open PySem L2
variable{n:Nat}
@[reducible]noncomputable def bj6(K:AQ)(cd:AG)(ts:List AH):Prop:=∃c P,cd=.ref c/\CP K c P=AD/\P∈ts
abbrev FnA(K:AQ)(ts:List AH)(m:Bool)(f:Str)(st:BN):Prop:=∃(fa:AH)(od an:Option AH)(sl:Array (Option AG))(oc kV dc pm cd ct:AG),
 Ay K AO f=AA (AA (.ref fa))/\K.lookup fa=AA ⟨oc,od,.func (Co f f (v5 st) (u1 st) (o6 st) .none kV dc pm an cd ct),sl⟩/\Ct K cd f=AD/\Bh K (.ref fa)=AD/\(m=AD->bj6 K cd ts)
abbrev FnD(K:AQ)(f:Str)(st:BN):Prop:=∃(fa T:AH)(od an td:Option AH)(sl tsl:Array (Option AG))(oc kV dc pm cd ct tc:AG)(n:Nat),
 Ay K AO f=AA (AA (.ref fa))/\K.lookup fa=AA ⟨oc,od,.func (Co f f (v5 st) (u1 st) (o6 st) (.ref T) kV dc pm an cd ct),sl⟩/\Ct K cd f=AD/\Bh K (.ref fa)=AD/\K.lookup T=AA ⟨tc,td,.seq #[.none] n,tsl⟩
section
variable {K:AQ} {ts:List AH} {f c m:Str} {st:BN} {fa Ca:AH} {od an:Option AH} {sl:Array (Option AG)} {oc kV dc pm cd ct:AG} {hc hp:AH}
def fnA(d:Ay K AO f=AA (AA (.ref fa)))(a:K.lookup fa=AA ⟨oc,od,.func (Co f f (v5 st) (u1 st) (o6 st) .none kV dc pm an cd ct),sl⟩)(c:Ct K cd f=AD)(b:Bh K (.ref fa)=AD):FnA K ts AE f st:=
 ⟨_,_,_,_,_,_,_,_,_,_,d,a,c,b,nofun⟩
def fnM(h:Ay K AO f=AA (AA (.ref fa)))(a:K.lookup fa=AA ⟨oc,od,.func (Co f f (v5 st) (u1 st) (o6 st) .none kV dc pm an cd ct),sl⟩)(g:Ct K cd f=AD)(b:Bh K (.ref fa)=AD)
  (e:ar2 K cd=AA (hc,hp)) (d:CP K hc hp=AD) (c:ts.contains hp=AD):FnA K ts AD f st:=
 ⟨_,_,_,_,_,_,_,_,_,_,h,a,g,b,λ_=>cu9 e d c⟩
def fnD{T:AH}{b:Option AH}{a:Array (Option AG)}{c:AG}(i:Ay K AO f=AA (AA (.ref fa)))(e:K.lookup fa=AA ⟨oc,od,.func (Co f f (v5 st) (u1 st) (o6 st) (.ref T) kV dc pm an cd ct),sl⟩)(h:Ct K cd f=AD)(g:Bh K (.ref fa)=AD)(d:K.lookup T=AA ⟨c,b,.seq #[.none] n,a⟩):FnD K f st:=
 ⟨_,_,_,_,_,_,_,_,_,_,_,_,_,_,_,i,e,h,g,d⟩
structure ClA(K:AQ)(c:Str)(Ca:AH):Prop where
 a:Ay K AO c=AA (AA (.ref Ca))
 cl:Cls K Ca
 ms:IB K Ca=AD
 kp:Bh K (.ref Ca)=AD
def clA(h:Ay K AO c=AA (AA (.ref Ca)))(g:GB K Ca Str.empty=AD)(f:Gx K Ca=AD)(e:Ic K Ca=AD)(d:BW K (.ref Ca) "__setattr__"=AA (AA (.builtin "object.__setattr__")))(b:IB K Ca=AD)(a:Bh K (.ref Ca)=AD):ClA K c Ca:=⟨h,⟨g,f,e,d⟩,b,a⟩
abbrev MtA(K:AQ)(ts:List AH)(b:Bool)(c:Str)(Ca:AH)(m:Str)(st:BN):Prop:=∃(fa:AH)(od an:Option AH)(sl:Array (Option AG))(oc kV dc pm cd ct:AG),
 Ay K AO (f6 c m)=AA AF/\Meth K Ca m fa/\K.lookup fa=AA ⟨oc,od,.func (Co m (f6 c m) (v5 st) (u1 st) (o6 st) .none kV dc pm an cd ct),sl⟩/\Ct K cd (f6 c m)=AD/\(b=AD->bj6 K cd ts)
def mtA(g:Ay K AO (f6 c m)=AA AF)(f:BW K (.ref Ca) m=AA (AA (.ref fa)))(e:JH K (.ref fa)=AD)(d:Bh K (.ref fa)=AD)
  (a:K.lookup fa=AA ⟨oc,od,.func (Co m (f6 c m) (v5 st) (u1 st) (o6 st) .none kV dc pm an cd ct),sl⟩) (b:Ct K cd (f6 c m)=AD):MtA K ts AE c Ca m st:=⟨_,_,_,_,_,_,_,_,_,_,g,⟨f,e,d⟩,a,b,nofun⟩
abbrev MtD(K:AQ)(c:Str)(Ca:AH)(m:Str)(st:BN)(i:Int):Prop:=∃(fa T:AH)(od an td:Option AH)(sl tsl:Array (Option AG))(oc kV dc pm cd ct tc:AG)(tk:Tok)(n:Nat),
 Ay K AO (f6 c m)=AA AF/\Meth K Ca m fa/\K.lookup fa=AA ⟨oc,od,.func (Co m (f6 c m) (v5 st) (u1 st) (o6 st) (.ref T) kV dc pm an cd ct),sl⟩/\Ct K cd (f6 c m)=AD/\K.lookup T=AA ⟨tc,td,.seq #[.int i tk] n,tsl⟩
def mtD{T:AH}{b:Option AH}{a:Array (Option AG)}{d:AG}{tk:Tok}{i:Int}(l:Ay K AO (f6 c m)=AA AF)(k:BW K (.ref Ca) m=AA (AA (.ref fa)))(j:JH K (.ref fa)=AD)(h:Bh K (.ref fa)=AD)
  (f:K.lookup fa=AA ⟨oc,od,.func (Co m (f6 c m) (v5 st) (u1 st) (o6 st) (.ref T) kV dc pm an cd ct),sl⟩) (g:Ct K cd (f6 c m)=AD) (e:K.lookup T=AA ⟨d,b,.seq #[.int i tk] n,a⟩):MtD K c Ca m st i:=
 ⟨_,_,_,_,_,_,_,_,_,_,_,_,_,_,_,_,l,⟨k,j,h⟩,f,g,e⟩
end
def bdS{d:Type}{P:List d->Prop}(h:∀a us,us.length=n->P (a::us)):∀us,us.length=n+1->P us:=λus hl=>by
 cases us with
 |nil=>cases hl
 |cons a us=>exact h a us (Gy hl)
def bdZ{c:Type}{P:List c->Prop}(h:P []):∀us,us.length=0->P us:=λus hl=>by
 cases us with
 |nil=>exact h
 |cons=>cases hl
@[reducible]noncomputable def StF(st:BN)(d:Def)(f:Str):Prop:=Stat st d (d.N.take d.np) f f
@[reducible]noncomputable def StM(st:BN)(d:Def)(c m:Str):Prop:=Stat st d (d.N.take d.np) m (f6 c m)
section
variable [Tbs] {K:AQ} {mg:Str->Option AG} {h:BC} {f c m:Str} {d:Def} {st:BN} {Ca:AH} {b:Bool} {U:Str->List Str}
def FnA.ok(A:FnA K Tbs.ps b f st)(X:K.In h)(G:h.Ns AO mg)(S:StF st d f:=by exact⟨⟨⟨rfl,rfl,rfl,by decide+kernel,rfl,by decide+kernel,by decide+kernel⟩,rfl,by decide+kernel⟩,λ_ _ _ _ _ _=>by(repeat refine bdS λ_=>?_);exact bdZ rfl⟩)(i:(d.N.contains t5=AD->b=AD):=by decide+kernel)(a:t4 U f=AF:=by decide+kernel):DefOk K mg (t4 U f) f d:=by
 obtain⟨q,n,u,l,o,p,r,m,t,s,k,e,j,g,c⟩:=A;exact ck1 X G S k e j g (λz=>c (i z)) a
def FnD.ok{b:List Str}(A:FnD K f st)(X:K.In h)(G:h.Ns AO mg)(S:Stat0 st d b)
  (m:∀(T:AH)(g i c:AG)(l:Option AH)(k j:AG)(s:AK)(o:Obj)(n:Nat),s.heap.get? T=AA o->o.data=.seq #[.none] n->(∀a:List AG,a.length=b.length->FH s (Co f f (v5 st) (u1 st) (o6 st) (.ref T) g i c l k j) ⟨a,[]⟩ (b.zip a))/\∀a:List AG,a.length+1=b.length->FH s (Co f f (v5 st) (u1 st) (o6 st) (.ref T) g i c l k j) ⟨a,[]⟩ (b.zip (a++[.none])))
  (v:(d.N.contains t5=AE):=by decide+kernel):DefOk K mg (t4 U f) f d:=by
 obtain⟨w,T,D,l,y,C,q,E,g,i,c,k,j,B,n,p,t,x,u,r⟩:=A;have e:=λs(hK:K.In s.heap)=>m T g i c l k j s _ _ (hK _ _ r) rfl;exact⟨w,_,b,⟨⟨st,f,⟨⟨_,_,_,_,_,_,_,_,_,_,rfl,t,x⟩,u⟩,S⟩,λs a hK hl=>by
  rw[BZ]at hl ⊢;exact(e s hK).1 a hl,λz=>by rw[v]at z;cases z⟩,GW X G p,p,λ_ s a hK hl=>(e s hK).2 a (by simpa using hl)⟩
def MtA.ok(A:MtA K Tbs.ps b c Ca m st)(C:ClA K c Ca)(X:K.In h)(G:h.Ns AO mg)(S:StM st d c m:=by exact⟨⟨⟨rfl,rfl,rfl,by decide+kernel,rfl,by decide+kernel,by decide+kernel⟩,rfl,by decide+kernel⟩,λ_ _ _ _ _ _=>by(repeat refine bdS λ_=>?_);exact bdZ rfl⟩)(k:(d.N.contains t5=AD->b=AD):=by decide+kernel)(e:t4 U (f6 c m)=AF:=by decide+kernel)(n:isM c=AE:=by decide+kernel)(l:isM m=AE:=by decide+kernel)(j:f=f6 c m:=by decide+kernel):∃c m,f=f6 c m/\isM c=AE/\isM m=AE/\MthOk K mg (t4 U (f6 c m)) c m d:=by
 obtain⟨v,s,B,q,t,u,w,r,y,x,p,M,i,o,g⟩:=A;subst j;exact⟨c,m,rfl,n,l,co4 X G S p C.a C.cl M (λz=>by subst z;exact⟨C.ms,M.at_,M.fn,C.kp⟩) i o (λz=>g (k z)) e⟩
def MtD.ok{i:Int}{e:List Str}(A:MtD K c Ca m st i)(C:ClA K c Ca)(X:K.In h)(G:h.Ns AO mg)(S:Stat0 st d e)
  (u:∀(T:AH)(k l j:AG)(r:Option AH)(q p:AG)(g:Tok)(s:AK)(o:Obj)(n:Nat),s.heap.get? T=AA o->o.data=.seq #[.int i g] n->(∀b:List AG,b.length=e.length->FH s (Co m (f6 c m) (v5 st) (u1 st) (o6 st) (.ref T) k l j r q p) ⟨b,[]⟩ (e.zip b))/\∀b:List AG,b.length+1=e.length->FH s (Co m (f6 c m) (v5 st) (u1 st) (o6 st) (.ref T) k l j r q p) ⟨b,[]⟩ (e.zip (b++[.int i g])))
  (D:(d.N.contains t5=AE):=by decide+kernel) (t:t4 U (f6 c m)=AA i:=by decide+kernel) (F:isM c=AE:=by decide+kernel) (E:isM m=AE:=by decide+kernel) (y:m≠"__init__":=by decide+kernel) (B:f=f6 c m:=by decide+kernel):∃c m,f=f6 c m/\isM c=AE/\isM m=AE/\MthOk K mg (t4 U (f6 c m)) c m d:=by
 obtain⟨R,T,P,r,J,O,v,Q,k,l,j,q,p,L,g,n,I,M,x,H,w⟩:=A;subst B;exact⟨c,m,rfl,F,E,b66 X G S (λs o n=>u T k l j r q p g s o n) I C.a C.cl M (λz=>absurd z y) x H w (λz=>by rw[D]at z;cases z) t⟩
end
def i7{g c:Type}{P:g->c->Prop}{a:g}{b:c}{l:List (g×c)}(h:P a b)(t:∀f d,(f,d)∈l->P f d):∀f d,(f,d)∈(a,b)::l->P f d:=λf d hx=>(AN.1 hx).elim (λe=>by cases e;exact h) (t f d)
def bj7{b a:Type}{P:b->a->Prop}:∀f d,(f,d)∈([]:List (b×a))->P f d:=nofun
end Ek
namespace Ek
open PySem L2
local macro_rules|`(tactic|rfl')=>do
 let l:=("c16 cy9 cj9 cq2 cw8 cy8 dc4 c32 c03 ch2 cy3 b64 cv1 cs3 c80 c12 c50 c82 bj3 c20 e_v c31 c00 cx9 cx2 c02 cz6 cn5 c56 de2 c19 c49 c99 c84 cz2 c55 b57 ca9 cg1 cz1 b48 cf9 b75 ci2 b31 ca5 cg6 b58 cm7 b97 b42 cp3 c46 b62 ct9 ce6 c26 c52 cs4 ch1 b51 c91 b91 c41 co8 c68 b41 ay3 db0 ce3 cn1 cw5 cr3 cl4 cq9 ck6 cv9 cp6 c04 c09 b69 cw0 c40 cx7 b53 c44 cx1 cj5 cj3 cp1 b80 cx0 c43 cq4 cp4 cj2 c54 da4 dd0 c81 c89 dd4 da8 cw3 at8 cw9 cs0 cy2 cq8 dd7 db7 da1 or_false false_or ch6 ci5 cv4 cm1 bf0 cp9 cl6 c45 aq3 c23 cz8 cw1 cx4 aq6 X9 c35 cg0 c59 c01 c60 cw4 bk4 c10 dc6 cy7 as3 db5 c86 c94 c97 cy1 cu8 c08 c17 cr0 ce4 bx1 ck2 cd9 cn6 bf7 cq3 bo4 bq4 c67 ct1 List.set_cons_zero List.set_cons_succ List.getElem?_cons_zero List.getElem?_cons_succ decide_eq_true_eq not_eq_true' decide_eq_false_iff_not if_true if_false true_and and_true false_eq_true Bool.true_eq_false length_cons length_nil String.reduceEq decide_true decide_false Bool.not_true Bool.not_false".splitOn " ").toArray.map fun n=>Lean.mkIdent n.toName
 `(tactic|try simp only[↓dc0,↓db6,↓c93,↓de4,$[$l:ident],*])
set_option hygiene false
local macro_rules | `(tactic| ∎)=>`(tactic| ((try dsimp only);(first | refine c90 ?_ | rw [ci4]);rfl'))
set_option hygiene true
variable{n l r m i u m1:Nat}{P:i8}{G:Gs}{st st':Sto}{Q:DK}{x h h' w':Int}{p y o c:Pg}{L X R:List AH}{dn sh sa pa wa a ca ka la ba aa da:AH}{ds fr A:List D}{M kd' nd kd nm md tt:D}{f:Nat->Nat->Option Pg}{b:Kd}{ws ws':List (Kd×Bool)}{Γ ks Δ:List Kd}
structure PB0(P:i8):Prop where
 mixed:P "_law_mixed"=AA d_law_mixed
 deck:P "_law_deck"=AA d_law_deck
 next:P "_law_next"=AA d_law_next
 power:P "_law_power"=AA d_law_power
 count:P "_law_count"=AA d_law_count
 kind:P "_law_kind"=AA d_law_kind
structure PB(P:i8):Prop extends PB0 P where
 least:P "_law_least"=AA d_law_least
 made:P "_law_made"=AA d_law_made
 nest:P "_law_nest"=AA d_law_nest
 asked:P "_law_asked"=AA d_law_asked
 grown:P "_law_grown"=AA d_law_grown
 inner:P "_law_inner"=AA d_law_inner
 parts:P "_law_parts"=AA d_law_parts
 program:P "_law_program"=AA d_law_program
 names:P "_law_names"=AA d_law_names
def bw6{ns:List Int}{lo hi:Option Int}:∃a:List Int,z5 (ns.map D.int) lo hi=a.map D.int/\a.length<=ns.length:=by
 refine⟨(ns.drop (HT.sIx (ns.map D.int).length 0 lo)).take (HT.sIx (ns.map D.int).length (ns.map D.int).length hi-HT.sIx (ns.map D.int).length 0 lo),by unfold z5;rw[LX,LY],?_⟩;rw[Bn,Bo];lia
def C9{lo:Int}:(p5 lo n).length=n:=by simp[p5]
def ak1{b:Type}(l:List b):l=[]\/∃a c,l=a++[c]:=by
 rcases List.eq_nil_or_concat l with h|⟨a,c,h⟩
 ·exact .inl h
 ·exact .inr ⟨a,c,by rw[h,List.concat_eq_append]⟩
abbrev D5(P:i8)(G:Gs)(n:Nat):D->Spec
 |.fn f=>sem P G n f
 |.clo np N b cs=>L6 P G n np N b cs
 |_=>λ_ _ _=>False
abbrev Cok(P:i8):D->Prop
 |.fn f=>(P f).isSome=AD
 |.clo _ _ _ _=>True
 |_=>False
def S6{a:Sto->(List D->Sto->Prop)->Prop}{x:D}(h:Cok P x)(q:a st λds st1=>D5 P G n x ds st1 Q):V0 (Zg P G n) a st Q x:=by
 cases x<;>first|exact h.elim|exact⟨h,q⟩|exact q
section
variable {T:Type} (subs:T->List T)
inductive Ord:List T->List T->Prop where
 |nil:Ord [] []
 |cons {S l:List T} {c:T}:Ord (S++subs c) l->Ord (S++[c]) (c::l)
inductive Rn:List T->List T->T->Prop where
 |done (t:T):Rn [] [t] t
 |step {h r:T} {l S:List T}:Rn l (S++[h]) r->Rn (h::l) (S++subs h) r
def cq7{S l:List T}(h:Ord subs S l):∀{l' S0:List T}{r:T},Rn subs l' (S0++S) r->Rn subs (l.reverse++l') S0 r:=by
 induction h with
 |nil=>intro l' S0 r q;simpa using q
 |@cons S l c _ ih=>
  intro l' S0 r q;rw[Dc,Ch];refine ih ?_;rw[<-Ch];refine .step ?_;rw[Ch];exact q
end
def none_of{p:AH}(K:Kp [] st st')(h:st' p=AF):st p=AF:=by
 cases z:st p with
 |none=>rfl
 |some u=>rw[K.at' z ∎]at h;cases h
def a86{W:Type}{J:W->Sto->Prop}{p:AH}{s:W}(K:Kp L st st')(g:∀a∈L,∃o,st a=AA o)(h:st' p=AF)(f:J s st')(c:∀{s st},J s st->∀a∈L,∃o,st a=AA o):st p=AF:=by
 cases z:st p with
 |none=>rfl
 |some u=>
  by_cases d:p∈L
  ·obtain⟨o,e⟩:=c f p d;rw[h]at e;cases e
  ·rw[K.at' z d]at h;cases h
abbrev ac8(st st':Sto)(d:D)(xs:List D):Prop:=d=.tup xs\/∃a,d=.ref a/\st a=AF/\st' a=AA (.lst xs)
theorem ao4{T:Type}(f:T->Nat):∀{l:List T}{c:T},c∈l->f c<=(l.map f).sum
 |a::l,c,h=>by
  rw[As,DL]
  rcases AN.mp h with rfl|h
  ·lia
  ·have:=ao4 f h;lia
theorem an3{T:Type}{size:T->Nat}{subs:T->List T}(hsz:∀t,size t=1+((subs t).map size).sum):∀l:List T,l.length<=(l.map size).sum
 |[]=>by simp
 |a::l=>by have:=hsz a;have:=an3 hsz l;simp only[As,DL,AV];lia
def b99{T:Type}{subs:T->List T}{size:T->Nat}(hsz:∀t,size t=1+((subs t).map size).sum){l S:List T}{r:T}(h:Rn subs l S r):(S.map size).sum<=size r:=by
 induction h with
 |done t=>simp
 |@step h r l S _ a=>
  have:=hsz h;simp only[Ah,Cy,As,Eg,DL,Gu]at a ⊢;lia
structure PM(P:i8)(G:Gs):Prop where
 mop:P "made_of_parts"=AA ah0
 few:P "order_of_few"=AA ai0
 taken:P "taken"=AA an8
 cst:G.cst "FEW"=AA (.int 2000)
section
variable (T0:PM P G) {T:Type} {enc:T->D} {subs:T->List T} {size:T->Nat} {Di:T->Prop}
include T0
def cn3{J:Sto->Prop}(O:∀{H g i},J H->j i=AF->i∉L->Kp [i] H g->J g)(j0:J j)(hJL:∀{j},J j->∀a∈L,∃o,j a=AA o)(hsz:∀t,size t=1+((subs t).map size).sum)(hg:∀t,Di t->∀c∈subs t,Di c){F:D}(hF:Cok P F)(t:T)(hs:size t<=2000)(Z:Di t)
  (Y:∀c f Q,Di c->J f->Kp L j f->(∀d g,ac8 f g d ((subs c).map enc)->J g->Kp L f g->Q d g)->D5 P G n F [enc c] f Q)
  (q:∀a f l,j a=AF->Ord subs [t] l->(∀c∈l,Di c)->f a=AA (.lst (l.map λc=>.tup [enc c,.int (subs c).length]))->J f->Kp L j f->l.length<=size t->Q (.ref a) f):sem P G (n+1) "order_of_few" [enc t,F] j Q:=by
 have I:∀{p:AH},j p=AF->p∉L:=λ{p}Y z=>by
  obtain⟨o,e⟩:=hJL j0 p z;rw[Y]at e;cases e
 refine i5 T0.few rfl [AA (enc t),AA F,AF,AF,AF,AF] rfl ?_;unfold ai0;∎;intro o w;∎;intro h E;have s:o≠h:=j9 f8 E;have k:j h=AF:=by
  cases z:j h with
  |none=>rfl
  |some u=>rw[l5 z w]at E;cases E
 have B:=I w;have v:=I k;∎;refine bs5 (λm env f=>∃(i S:List T)(x y:Option D),env=[AA (enc t),AA F,AA (.ref o),AA (.ref h),x,y]/\f o=AA (.lst (i.map λc=>.tup [enc c,.int (subs c).length]))/\f h=AA (.lst (S.map enc))/\(∀l,Ord subs S l->Ord subs [t] (i++l))/\(∀c∈i,Di c)/\(∀c∈S,Di c)/\(S.map size).sum=m/\i.length+m=size t/\J f/\Kp L j f) ?_ _ _ _ ⟨[],[t],AF,AF,rfl,l5 f8 E,f8,λl z=>z,∎,by simpa using Z,rfl,∎,O (O j0 w B (Kp.refl.new w)) k v (Kp.refl.new E),(Kp.refl.new w).new E⟩;rintro m env f _ ⟨i,S,x,y,rfl,h1,h2,h3,gd,gS,h4,h5,Js,K⟩ ih;rw[cd6];rfl';rw[r8 (.inl h2)];rfl'
 rcases ak1 S with rfl|⟨S,c,rfl⟩
 ·rw[if_neg ∎];∎;refine c9 (q o f i w ?_ gd h1 Js K ⋯);have:=h3 [] .nil;simpa using this
 ·rw[if_pos (by simp only[Ah,As,Eg,Ad,AW,AV,Ao];lia)];rw[Ah,As,Eg]at h2;simp only[Ah,As,Eg,Cy,DL,Gu]at h4;have sc:=hsz c;have gc:Di c:=gS c ∎;have A:∀l:List T,l.length<=(l.map size).sum:=λl=>by
   induction l with
   |nil=>simp
   |cons a l ih=>have:=hsz a;simp only[As,DL,AV];lia
  have hl3:=A S;have hl4:=A (subs c);∎;rw[U5 h2];have U:b0 f h (.lst (S.map enc)) o=AA (.lst (i.map λc=>.tup [enc c,.int (subs c).length])):=f7 h1 s;∎;refine S6 hF ?_;rfl';have K1:Kp L j (b0 f h (.lst (S.map enc))):=λb u V e=>f7 (K b u V e) (λz=>by rw[z,k]at e;cases e);have J1:J (b0 f h (.lst (S.map enc))):=O Js k v (Kp.refl.put ∎);refine Y c _ _ gc J1 K1 λd g hd Js2 K2=>?_;have o2:=K2.at' U B;have s2:=K2.at' (f8 (st:=f) (a:=h) (o:=.lst (S.map enc))) v;∎;rw[A6 (.inl o2)];have C:∀{R:DK},R (.int (subs c).length) g->R1 d g R:=λ{R}z=>by
   rcases hd with rfl|⟨a,rfl,_,ha⟩
   ·show R _ g;simpa using z
   ·rw[r8 (.inl ha)];simpa using z
  refine⟨trivial,C ?_⟩;rw[B7 o2];refine⟨B3 (by simp only[AW];lia),?_⟩;∎;have W:b0 g o (.lst ((i.map λc=>D.tup [enc c,.int (subs c).length])++[.tup [enc c,.int (subs c).length]])) h=AA (.lst (S.map enc)):=f7 s2 s.symm;rw[A6 (.inl W)];have M:∀{R:DK},R .non (b0 (b0 g o (.lst ((i.map λc=>D.tup [enc c,.int (subs c).length])++[.tup [enc c,.int (subs c).length]]))) h (.lst (S.map enc++(subs c).map enc)))->V6 (.ref h) d (b0 g o (.lst ((i.map λc=>D.tup [enc c,.int (subs c).length])++[.tup [enc c,.int (subs c).length]]))) R:=λ{R}z=>by
   rcases hd with rfl|⟨a,rfl,N,ha⟩
   ·rw[c42 W];exact⟨B2 (by simp only[AW];lia),z⟩
   ·have X:a≠o:=λz=>by rw[z,U]at N;cases N
    rw[bi2 W (f7 ha X)];exact⟨B2 (by simp only[AW];lia),z⟩
  refine⟨trivial,M ?_⟩;∎;rw[r8 (.inl (f7 f8 s))];rfl';refine⟨.int 2000,T0.cst,?_⟩;rfl';rw[if_neg (by simp only[Ad,AW,AV,Ao];lia)];rfl';refine ih ((S++subs c).map size).sum _ _ (by simp only[Ah,Cy];lia) ⟨i++[c],S++subs c,_,_,rfl,?_,?_,?_,?_,?_,rfl,?_,O (O Js2 w B (Kp.refl.put ∎)) k v (Kp.refl.put ∎),?_⟩
  ·rw[Ah];exact f7 f8 s
  ·rw[Ah];exact f8
  ·intro l hl;have:=h3 (c::l) (.cons hl);simpa using this
  ·intro z r
   rcases BI.mp r with r|r
   ·exact gd z r
   ·simp at r;rw[r];exact gc
  ·intro z r
   rcases BI.mp r with r|r
   ·exact gS z (by simp[r])
   ·exact hg c gc z r
  ·simp only[Ad,AV,Ao,Ah,Cy];lia
  ·intro b u V e;have eh:b≠h:=λz=>by rw[z,k]at e;cases e
   have eo:b≠o:=λz=>by rw[z,w]at e;cases e
   exact f7 (f7 (K2.at' (K1 b u V e) V) eo) eh
def b36{j:List D}(t:j.length=m)(p:st dn=AA (.lst (ds++j)))(w:j.length<=2000)
  (q:∀a f,st a=AF->a≠dn->f a=AA (.lst j)->f dn=AA (.lst ds)->Kp [dn] st f->Q (.ref a) f):sem P G (n+1) "taken" [.ref dn,.int m] st Q:=by
 subst t;refine i5 T0.taken rfl [AA (.ref dn),AA (.int j.length),AF,AF] rfl ?_;unfold an8;∎;intro o r;have k:dn≠o:=j9 p r;∎;refine⟨⟨⋯,⋯⟩,?_⟩;refine E3 (λl env f=>∃(g h:List D)(x:Option D),j=g++h/\l.length=g.length/\(∀d∈l,∃i,d=.int i)/\env=[AA (.ref dn),AA (.int j.length),AA (.ref o),x]/\f dn=AA (.lst (ds++g))/\f o=AA (.lst h.reverse)/\Kp [dn] st f) ?_ ?_ _ _ _ ⟨j,[],AF,∎,by simp[p5],λd p=>by simp[p5]at p;obtain⟨i,_,rfl⟩:=p;exact⟨_,rfl⟩,rfl,by rw[l5 p r],f8,Kp.refl.new r⟩
 ·rintro env f ⟨g,h,x,e,hl,_,rfl,h1,h2,K⟩;have:g=[]:=by simpa using hl.symm
  subst this;simp only[DU]at e;subst e;refine⟨trivial,?_⟩;∎;rw[c14 h2];∎;refine c9 (q o _ r (λz=>k z.symm) ?_ (f7 (by simpa using h1) k) λb u nb e=>f7 (K b u nb e) (λz=>by rw[z,r]at e;cases e));rw[f8,IE]
 ·rintro d0 dl env f ih ⟨g,h,x,e,hl,hi,rfl,h1,h2,K⟩;obtain⟨i,rfl⟩:=hi d0 ∎
  rcases ak1 g with rfl|⟨g,c,rfl⟩
  ·simp at hl
  refine⟨trivial,?_⟩;rfl';∎;rw[A6 (.inl h2),U5 (by rw[h1,Ch]:f dn=AA (.lst ((ds++g)++[c])))];have s:b0 f dn (.lst (ds++g)) o=AA (.lst h.reverse):=f7 h2 k.symm;rw[B7 s];have v:h.length<=j.length:=by rw[e];simp;lia
  refine⟨trivial,B3 (by rw[IL];lia),?_⟩;rfl';refine ih _ _ ⟨g,c::h,_,by rw[e];simp,by simp at hl ⊢;lia,λd p=>hi d (by simp[p]),rfl,f7 f8 k,by rw[f8,Dc],λb u nb e=>f7 (f7 (K b u nb e) (λz=>nb (by simp[z]))) (λz=>by rw[z,r]at e;cases e)⟩
abbrev KpN(L:List AH)(st st':Sto):Prop:=∀b o,b∉L->(∀c fs,o≠.ins c fs)->st b=AA o->st' b=AA o
def a87{J:Sto->Prop}{L:List AH}(hJ:∀{s g i},J s->k i=AF->i∉L->Kp [i] s g->J g)(j0:J k)(E:∀{k},J k->∀a∈L,∃o,k a=AA o)(hsz:∀t,size t=1+((subs t).map size).sum)(hg:∀t,Di t->∀c∈subs t,Di c){F:D}(hF:Cok P F)(hM:Cok P M)(t:T)(hs:size t<=2000)(hgt:Di t){Y:AH->List T->List D->Sto->Prop}(hYL:∀{i S m s},Y i S m s->∀a∈L,∃o,s a=AA o)
  (hY0:∀i st',k i=AF->J st'->Kp L k st'->Y i [] [] st') (V:∀{i S m s g},k i=AF->Y i S m s->Kp [i] s g->Y i S m g)
  (I:∀c st' Q,Di c->J st'->Kp L k st'->(∀d g,ac8 st' g d ((subs c).map enc)->J g->Kp L st' g->Q d g)->D5 P G n F [enc c] st' Q)
  (hm:∀c i la st' Q S m A,Di c->Kp L k st'->k i=AF->la∉L->la≠i->k la=AF->st' la=AA (.lst A)->A.length=(subs c).length->m.length=S.length->Y i (S++subs c) (m++A) st'->st' i=AA (.lst m)->(S.map size).sum+size c<=size t->(∀d g,Y i (S++[c]) (m++[d]) g->KpN L st' g->Kp L k g->Q d g)->D5 P G (n+1) M [enc c,.ref la] st' Q)
  (q:∀i d st',k i=AF->Y i [t] [d] st'->Kp L k st'->Q d st'):sem P G (n+2) "made_of_parts" [enc t,F,M] k Q:=by
 refine i5 T0.mop rfl [AA (enc t),AA F,AA M,AF,AF,AF,AF] rfl ?_;unfold ah0;∎;refine⟨by rw[T0.few];rfl,cn3 T0 (Di:=λc=>Di c/\size c<=2000) (J:=J) (L:=L) hJ j0 E hsz (λc gc c' hc'=>⟨hg c gc.1 c' hc',BB (ao4 size hc') (by have:=hsz c;have:=gc.2;lia)⟩) hF t hs ⟨hgt,hs⟩ (λc st' Q gc=>I c st' Q gc.1) λoa s l hoa0 hord gl hoa Js1 K1 hl=>?_⟩;have hL:=E j0;∎;refine .inr ⟨nofun,?_⟩;rfl';∎;intro i w;have N:oa≠i:=j9 hoa w;have j:k i=AF:=by
  cases e:k i with
  |none=>rfl
  |some u=>
   by_cases z:i∈L
   ·obtain⟨o,e⟩:=E Js1 i z;rw[w]at e;cases e
   ·rw[K1.at' e z]at w;cases w
 have U:i∉L:=λz=>by obtain⟨o,e⟩:=hL i z;rw[j]at e;cases e
 have hoL:oa∉L:=λz=>by obtain⟨o,e⟩:=hL oa z;rw[hoa0]at e;cases e
 ∎;refine⟨_,.inl (l5 hoa w),?_⟩;rw[<-JE];have kdn:∀(u:Ob)(g:Sto),Kp L k g->Kp L k (b0 g i u):=λu g K b o nb e=>f7 (K b o nb e) (λz=>by rw[z,j]at e;cases e);refine E3 (λll env st'=>∃(y S:List T)(m:List D)(Z X:Option D),ll=y.map (λc=>D.tup [enc c,.int (subs c).length])/\(∀c∈y,Di c/\size c<=2000)/\Rn subs y S t/\env=[AA (enc t),AA F,AA M,AA (.ref oa),AA (.ref i),Z,X]/\st' i=AA (.lst m)/\m.length=S.length/\S.length+y.length<=100000/\Y i S m st'/\st' oa=AA (.lst (l.map λc=>.tup [enc c,.int (subs c).length]))/\Kp L k st') ?_ ?_ _ _ _ ⟨l.reverse,[],[],AF,AF,rfl,λc hc=>gl c (by simpa using hc),by simpa using cq7 subs hord (.done t) (S0:=[]) ,rfl,f8,rfl,by simp;lia,hY0 i _ j (hJ Js1 j U (Kp.refl.new w)) (K1.new w),l5 hoa w,(K1.new w).more ∎⟩
 ·rintro env st' ⟨y,S,m,Z,X,el,_,H,rfl,hd,hl',_,hv,hoa',K⟩;have es:y=[]:=by simpa using el.symm
  subst es;refine⟨.inl hoa',?_⟩;cases H;obtain⟨d,rfl⟩:∃d,m=[d]:=by match m,hl' with|[d],_=>exact⟨d,rfl⟩
  ∎;rw[l7 (.inl hd)];exact⟨d,rfl,c9 (q i d st' j hv K)⟩
 ·rintro d0 dl env st' ih ⟨y,S,m,Z,X,el,hin,H,rfl,hd,hl',hb,hv,hoa',K⟩;refine⟨.inl hoa',?_⟩;cases y with
  |nil=>simp at el
  |cons h y=>
   simp only[As,Aq]at el;obtain⟨rfl,rfl⟩:=el;simp only[AV]at hb;have gh:Di h:=(hin h ∎).1;cases H with
   |@step _ _ _ S H=>
   simp only[Ad]at hl' hb;obtain⟨m,A,rfl,R,O⟩:∃W A,m=W++A/\W.length=S.length/\A.length=(subs h).length:=⟨m.take S.length,m.drop S.length,(Ew _ _).symm,by rw[Bn];lia,by rw[Bo];lia⟩;have hss:(subs h).length<=2000:=by
    have h1:=(hin h ∎).2;have h2:=hsz h;have h3:=an3 hsz (subs h);lia
   have C:∀la g,la∉L->la≠i->k la=AF->g la=AA (.lst A)->g i=AA (.lst m)->Kp [i] st' g->D5 P G (n+1) M [enc h,.ref la] g λd st3=>Y9 (.ref i) d st3 λ_ st4=>y6 (λst'=>rdS st' oa (l.map λc=>.tup [enc c,.int (subs c).length])) (.tup [5,6]) (j7 (Zg P G (n+1)) (.cons (.ex (.app (.v 4) (.callv 2 (.cons (.v 5) (.cons (.ite (.cmp .Gt (.v 6) (.int 0)) (.call "taken" (.cons (.v 4) (.cons (.v 6) .nil))) (.lst .nil)) .nil))))) .nil)) ⟨j7 (Zg P G (n+1)) (.cons (.ret (.ix (.v 4) (.int 0))) .nil) (o0 Q),(o0 Q).rt,(o0 Q).bk,(o0 Q).ct⟩ (y.map λc=>D.tup [enc c,.int (subs c).length]) [AA (enc t),AA F,AA M,AA (.ref oa),AA (.ref i),AA (enc h),AA (.int (subs h).length)] st4:=λla g r hne hl0 hl2 hd2 K2=>by
    have KK:Kp L k g:=λb u nb e=>K2.at' (K b u nb e) (by simp;exact λz=>by rw[z,j]at e;cases e);refine hm h i la g _ S m A gh KK j r hne hl0 hl2 O R (V j hv K2) hd2 (by have:=b99 hsz H;simpa using this) λd st3 vd N3 K3=>?_;have hd3:=N3 i _ U (λ_ _ z=>by cases z) hd2;rw[B7 hd3];refine⟨B3 ⋯,?_⟩;exact ih _ _ ⟨y,S++[h],m++[d],_,_,rfl,λc hc=>hin c (by simp[hc]),H,rfl,f8,by simp[R],by simp;lia,V j vd (Kp.refl.put ∎),f7 (N3 oa _ hoL (λ_ _ z=>by cases z) (K2.at' hoa' (by simpa using N))) N,kdn _ _ K3⟩
   have B:∀{p:AH},st' p=AF->p∉L/\k p=AF:=λ{p}I=>by
    by_cases z:p∈L
    ·obtain⟨o,e⟩:=hYL hv p z;rw[I]at e;cases e
    ·refine⟨z,?_⟩;cases e:k p with
     |none=>rfl
     |some u=>rw[K.at' e z]at I;cases I
   rfl';∎;rw[A6 (.inl hd)];refine⟨trivial,S6 hM ?_⟩;rfl'
   by_cases h0:(subs h).length=0
   ·rw[if_neg ⋯];intro la r;have exs:A=[]:=Be ⋯;subst exs;exact C la _ (B r).1 (j9 hd r).symm (B r).2 f8 (l5 (by simpa using hd) r) (Kp.refl.new r)
   ·rw[if_pos ⋯];refine⟨by rw[T0.taken];rfl,?_⟩;exact b36 T0 O hd ⋯ λla g r hne hl2 hd2 K2=>C la g (B r).1 hne (B r).2 hl2 hd2 K2
def b87{W:Type}{J:W->Sto->Prop}{le:W->W->Prop}{L:List AH}(R:∀s,le s s)(O:∀{s t u},le s t->le t u->le s u)(hJ:∀{s st st' dn},J s st->dn∉L->Kp [dn] st st'->J s st')(hsz:∀t,size t=1+((subs t).map size).sum)(hg:∀t,Di t->∀c∈subs t,Di c){F:D}(hF:Cok P F)(hM:Cok P M)(t:T)(hs:size t<=2000)(N:Di t){V:AH->W->T->D->Sto->Prop}(Z:∀{dn s l k d st st'},V dn s k d st->le s l->Kp (dn::L) st st'->V dn l k d st')
  {s0:W} {μ:W->Nat} {B:Nat} (hB:μ s0+size t<=B) (U:J s0 st) (r:∀{s st},J s st->∀a∈L,∃o,st a=AA o)
  (hp:∀c st' Q s,Di c->μ s+1<=B->J s st'->Kp L st st'->(∀d l g,ac8 st' g d ((subs c).map enc)->le s l->μ l<=μ s->J l g->Kp L st' g->Q d g)->D5 P G n F [enc c] st' Q)
  (hm:∀c dn p st' Q C s,Di c->μ s+1<=B->J s st'->Kp L st st'->st dn=AF->p∉L->p≠dn->st p=AF->st' p=AA (.lst C)->C.length=(subs c).length->(∀(i:Nat)E d,(subs c)[i]?=AA E->C[i]?=AA d->V dn s E d st')->(∃H,st' dn=AA (.lst H))->(∀d l g,V dn l c d g->le s l->μ l<=μ s+1->J l g->Kp L st' g->Q d g)->D5 P G (n+1) M [enc c,.ref p] st' Q)
  (q:∀dn d l st',st dn=AF->V dn l t d st'->le s0 l->μ l<=B->J l st'->Kp L st st'->Q d st'):sem P G (n+2) "made_of_parts" [enc t,F,M] st Q:=by
 refine a87 T0 (J:=λst'=>∃s,J s st'/\le s0 s/\μ s<=μ s0) (L:=L) (λ⟨s,A,w⟩_ a b=>⟨s,hJ A a b,w⟩) ⟨s0,U,R s0,AS _⟩ (λ⟨s,h,_⟩=>r h) hsz hg hF hM t hs N (Y:=λdn S C st'=>∃s,J s st'/\le s0 s/\μ s<=μ s0+(S.map size).sum/\dn∉L/\∀(i:Nat)c d,S[i]?=AA c->C[i]?=AA d->V dn s c d st') (λ⟨s,h,_⟩=>r h)
  (λdn st' h⟨s,a,b,c⟩_=>⟨s,a,b,c,(λz=>by obtain⟨o,e⟩:=r U dn z;rw[h]at e;cases e),nofun⟩) (λ_⟨s,a,b,c,d,e⟩K=>⟨s,hJ a d K,b,c,d,λi x y A w=>Z (e i x y A w) (R s) (K.more ∎)⟩)
  (λc st' Q gc⟨s,a,b,e⟩K k=>hp c st' Q s gc (by have:=hsz t;lia) a K λd l g A w h3 h4=>k d g A ⟨l,h4,O b w,⋯⟩)
  (λc dn p st' Q S C H gc K h0 A w h3 h4 h5 h6 hY h7 h8 k=>?_) λdn d st' h0⟨s,a,b,e,_,v⟩K=>q dn d s st' h0 (v 0 t d rfl rfl) b (by simp at e;lia) a K
 obtain⟨s,a,b,e,dL,v⟩:=hY;have sc:=hsz c;rw[Ah,Cy]at e;refine hm c dn p st' Q H s gc ⋯ a K h0 A w h3 h4 h5 (λi E d e1 e2=>v (S.length+i) E d (by rw[Af ⋯,Hl];exact e1) (by rw[Af ⋯,h6,Hl];exact e2)) ⟨_,h7⟩ λd l g vd hle hμ Js K2=>k d g ⟨l,Js,O b hle,by simp only[Ah,As,Eg,Cy,DL,Gu];lia,dL,λi E d' e1 e2=>?_⟩ (λb o nb _ e=>K2 b o nb e) (K.trans K2)
 by_cases X:i<S.length
 ·rw[Ac X]at e1;rw[Ac ⋯]at e2;exact Z (v i E d' (by rw[Ac X];exact e1) (by rw[Ac ⋯];exact e2)) hle (K2.more (by intro x hx;simp[hx]))
 ·rw[Af ⋯]at e1;rw[Af ⋯]at e2;have I:i-S.length=0:=by
   have:=(AY.mp e1).1;simp at this;lia
  rw[I]at e1;rw[show i-C.length=0 by lia]at e2;cases e1;cases e2;exact vd
end
abbrev Kd.size:Kd->Nat
 |.non=>1|.one=>1
 |.eith a b=>1+a.size+b.size
 |.both a b=>1+a.size+b.size
 |.way a b=>1+a.size+b.size
def bw1(k:Kd):k.size+1<=2^(k.nest+1):=by
 have e:∀a b:Kd,a.size+1<=2^(a.nest+1)->b.size+1<=2^(b.nest+1)->1+a.size+b.size+1<=2^(1+max a.nest b.nest+1):=λa b ha hb=>by
  have n:2^(a.nest+1)<=2^(max a.nest b.nest+1):=FQ ∅ ⋯;have m:2^(b.nest+1)<=2^(max a.nest b.nest+1):=FQ ∅ ⋯;have l:2^(1+max a.nest b.nest+1)=2*2^(max a.nest b.nest+1):=by rw[show 1+max a.nest b.nest+1=(max a.nest b.nest+1)+1 by lia,Kk,JO]
  lia
 induction k with
 |non=>decide
 |one=>decide
 |eith a b d c=>exact e a b d c
 |both a b d c=>exact e a b d c
 |way a b d c=>exact e a b d c
structure PT0(P:i8)(G:Gs):Prop extends PM P G where
 bu:P "built_up"=AA d_built_up
mutual
noncomputable def D.lit:D->Bool
 |.int _=>AD
 |.str x=>Ep (.str x)
 |.tup ds=>D.lits ds
 |_=>AE
noncomputable def D.lits:List D->Bool
 |[]=>AD
 |d::r=>d.lit&&D.lits r
end
mutual
theorem al4:∀d:D,d.lit=AD->d.pure=AD
 |.int _,_=>rfl
 |.str _,h=>h
 |.tup ds,h=>by rw[O6];exact aw8 ds h
 |.non,h=>nomatch h
 |.bl _,h=>nomatch h
 |.ref _,h=>nomatch h
 |.fn _,h=>nomatch h
theorem aw8:∀ds:List D,D.lits ds=AD->D.pures ds=AD
 |[],_=>rfl
 |d::r,h=>by
  have h':d.lit=AD/\D.lits r=AD:=by simpa[D.lits]using h
  rw[D9,al4 d h'.1,aw8 r h'.2];rfl
end
mutual
theorem am5:∀x y:D,x.lit=AD->y.lit=AD->(deq x y=AD↔x=y)
 |.int i,y,hx,hy=>by
  cases y<;>first|(simp[D.lit]at hy;done)|skip
  ·rw[an1];simp
  ·constructor
   ·intro h;simp[deq,D.py,At]at h
   ·intro h;cases h
  ·constructor
   ·intro h;simp[deq,D.py,At]at h
   ·intro h;cases h
 |.str x,y,hx,hy=>by
  cases y<;>first|(simp[D.lit]at hy;done)|skip
  ·constructor
   ·intro h;simp[deq,D.py,At]at h
   ·intro h;cases h
  ·rw[J3];simp
  ·constructor
   ·intro h;simp[deq,D.py,At]at h
   ·intro h;cases h
 |.tup xs,y,hx,hy=>by
  cases y<;>first|(simp[D.lit]at hy;done)|skip
  ·constructor
   ·intro h;simp[deq,D.py,At]at h
   ·intro h;cases h
  ·constructor
   ·intro h;simp[deq,D.py,At]at h
   ·intro h;cases h
  ·rename_i ys;rw[S7,a85 xs ys hx hy];simp
 |.non,y,hx,hy=>nomatch hx
 |.bl _,y,hx,hy=>nomatch hx
 |.ref _,y,hx,hy=>nomatch hx
 |.fn _,y,hx,hy=>nomatch hx
theorem a85:∀xs ys:List D,D.lits xs=AD->D.lits ys=AD->(C5 xs ys=AD↔xs=ys)
 |[],[],_,_=>by simp[C5]
 |[],y::ys,_,_=>by simp[C5]
 |x::xs,[],_,_=>by simp[C5]
 |x::xs,y::ys,hx,hy=>by
  have h1:x.lit=AD/\D.lits xs=AD:=by simpa[D.lits]using hx
  have h2:y.lit=AD/\D.lits ys=AD:=by simpa[D.lits]using hy
  rw[C5,BJ,am5 x y h1.1 h2.1,a85 xs ys h1.2 h2.2,Aq]
end
def a70{x:D}(a:x.lit=AD):deq x x=AD:=(am5 x x a a).mpr rfl
def ab0:D.lits ds=AD↔∀d∈ds,d.lit=AD:=by
 induction ds with
 |nil=>simp[D.lits]
 |cons d r c=>simp[D.lits,c]
def bn8(s:String):(D.str (Aa s)).lit=AD:=r9 s
def an2:(D.tup ds).lit=D.lits ds:=rfl
def aa6{d:D}{r:List D}:D.lits (d::r)=(d.lit&&D.lits r):=rfl
def b06:D.lits []=AD:=rfl
theorem al1{g:Type}:∀{l:List g},l.Nodup->∀(i j:Nat)(x:g),l[i]?=AA x->l[j]?=AA x->i=j
 |[],_,i,j,x,h,_=>by simp at h
 |a::l,k,i,j,x,f,e=>by
  have d:=BP.mp k;cases i with
  |zero=>
   cases j with
   |zero=>rfl
   |succ j=>
    simp at f;subst f;exact absurd (BS (by simpa using e)) d.1
  |succ i=>
   cases j with
   |zero=>
    simp at e;subst e;exact absurd (BS (by simpa using f)) d.1
   |succ j=>rw[al1 d.2 i j x (by simpa using f) (by simpa using e)]
structure PSh(P:i8)(G:Gs):Prop extends PM P G where
 init:P (f6 "Shelf" "__init__")=AA af8
 numb:P (f6 "Shelf" "numbered")=AA af7
 tup:P (f6 "Shelf" "tuple_at")=AA af4
 word:P (f6 "Shelf" "word_at")=AA ag3
 wthn:P (f6 "Shelf" "within")=AA ai7
 cls:G.cls "Shelf"=[("numbers":Str),("stored":Str),("parts":Str),("waiting":Str)]
 kt:G.cls "!kt"≠[]
abbrev A8(ns:List Nat):D:=.tup (ns.map λ(n:Nat)=>D.int (n:Int))
structure It3 where
 fr:List D
 ns:List Nat
 t:D
variable{e:It3}{S':List It3}
abbrev It3.key(e:It3):D:=.tup [.tup e.fr,A8 e.ns]
structure Wf(S:List It3):Prop where
 wh:∀(i:Nat)(e:It3),S[i]?=AA e->(∀d∈e.fr,∃s:String,d=.str s)/\∃inn,e.t=.tup (e.fr++inn)/\inn.length=e.ns.length/\∀(j n:Nat),e.ns[j]?=AA n->n<i/\∃e',S[n]?=AA e'/\inn[j]?=AA e'.t
 nd:(S.map It3.key).Nodup
structure ShA(sh dn sa pa wa:AH)(S:List It3)(st:Sto):Prop where
 ins:st sh=AA (.ins "Shelf" [(("numbers":Str),D.ref dn),(("stored":Str),D.ref sa),(("parts":Str),D.ref pa),(("waiting":Str),D.ref wa)])
 num:st dn=AA (.dtt (S.mapIdx λi e=>(e.key.py,.int i)))
 sto:st sa=AA (.lst (S.map It3.t))
 par:st pa=AA (.lst (S.map λe=>A8 e.ns))
 wai:∃o,st wa=AA o
 wf:Wf S
 ml:S.length<=1000000
 fl:∀e∈S,e.fr.length<=10/\e.ns.length<=1000
def bb0{a inn b:List D}(j:∀d∈g,∃s:String,d=.str s)(i:∀d∈a,∃s:String,d=.str s)(n:∀d∈inn,∃l,d=.tup l)(m:∀d∈b,∃l,d=.tup l)(h:g++inn=a++b):g=a/\inn=b:=by
 induction g generalizing a with
 |nil=>
  cases a with
  |nil=>exact⟨rfl,h⟩
  |cons x a=>
   obtain⟨s,rfl⟩:=i x ∎;rw[DU,CM]at h;obtain⟨l,e⟩:=n (.str s) (by rw[h];simp);cases e
 |cons x g k=>
  cases a with
  |nil=>
   obtain⟨s,rfl⟩:=j x ∎;rw[DU,CM]at h;obtain⟨l,e⟩:=m (.str s) (by rw[<-h];simp);cases e
  |cons y a=>
   rw[CM,CM,Aq]at h;obtain⟨rfl,h⟩:=h;obtain⟨rfl,rfl⟩:=k (λd hd=>j d (by simp[hd])) (λd hd=>i d (by simp[hd])) h;exact⟨rfl,rfl⟩
theorem Wf.inn{S:List It3}(w:Wf S)(h:S[i]?=AA e):∃inn,e.t=.tup (e.fr++inn)/\inn.length=e.ns.length/\(∀d∈inn,∃l,d=.tup l)/\∀(j n:Nat),e.ns[j]?=AA n->n<i/\∃a,S[n]?=AA a/\inn[j]?=AA a.t:=by
 obtain⟨_,inn,q,p,o⟩:=w.wh i e h;refine⟨inn,q,p,λd hd=>?_,o⟩;obtain⟨j,k⟩:=Cd.mp hd;have b:j<e.ns.length:=by rw[<-p];exact(AY.mp k).1
 obtain⟨_,a,c,m⟩:=o j _ (AJ b);rw[k]at m;obtain⟨_,g,f,_⟩:=w.wh _ a c;cases m;exact⟨_,f⟩
def Wf.inj{S:List It3}(w:Wf S):∀(m:Nat){i j:Nat}{e a:It3},i<=m->S[i]?=AA e->S[j]?=AA a->e.t=a.t->i=j:=by
 intro m
 induction m using Gv with
 |ind m z=>
 intro i j e a A o n u;obtain⟨g,E,v,D,C⟩:=w.inn o;obtain⟨b,s,d,r,q⟩:=w.inn n;rw[E,s]at u;have h:e.fr++g=a.fr++b:=by injection u
 obtain⟨J,I⟩:=bb0 (w.wh i e o).1 (w.wh j a n).1 D r h;subst I;have G:e.ns=a.ns:=by
  refine EG λk=>?_
  by_cases l:k<e.ns.length
  ·have c:k<a.ns.length:=by rw[<-d,v];exact l
   obtain⟨L,f,B,F⟩:=C k _ (AJ l);obtain⟨K,M,p,x⟩:=q k _ (AJ c);rw[F]at x;have:=z e.ns[k] ⋯ (AS _) B p (by injection x);rw[AJ l,AJ c,this]
  ·rw[Bj ⋯,Bj (by rw[<-d,v];lia)]
 have H:e.key=a.key:=by unfold It3.key;rw[J,G]
 exact al1 w.nd i j e.key (by rw[Ag,o];rfl) (by rw[Ag,n,H];rfl)
mutual
theorem ac6:∀d:D,d.lit=AD->NK.lit d.py=AD
 |.int _,_=>rfl
 |.str _,h=>h
 |.tup ds,h=>a99 ds h
 |.non,h=>nomatch h
 |.bl _,h=>nomatch h
 |.ref _,h=>nomatch h
 |.fn _,h=>nomatch h
theorem a99:∀ds:List D,D.lits ds=AD->NK.lits (D.pys ds)=AD
 |[],_=>rfl
 |d::r,h=>by
  have h':d.lit=AD/\D.lits r=AD:=by simpa[D.lits]using h
  show(NK.lit d.py&&NK.lits (D.pys r))=AD;rw[ac6 d h'.1,a99 r h'.2];rfl
end
def be3{x y:D}(b:x.lit=AD)(a:y.lit=AD)(h:x.py=y.py):x=y:=by
 refine(am5 x y b a).mp ?_;unfold deq;rw[h];exact(NK.eqv_lit _ _ (ac6 y a) (ac6 y a)).mpr rfl
def bb5(h:∀d∈e.fr,∃s:String,d=.str s):e.key.lit=AD:=by
 have b:D.lits e.fr=AD:=ab0.mpr λd hd=>by obtain⟨s,rfl⟩:=h d hd;exact bn8 s
 have a:(A8 e.ns).lit=AD:=ab0.mpr λd hd=>by
  obtain⟨n,_,rfl⟩:=DF.mp hd;rfl
 show D.lits [.tup e.fr,A8 e.ns]=AD;rw[aa6,aa6,b06,an2,b,a];rfl
def cs9(h:∀d∈e.fr,∃s:String,d=.str s):l6 e.key<=2:=by
 unfold It3.key;rw[J4];have j:B9 e.fr<=0:=by
  generalize e.fr=l at h
  induction l with
  |nil=>exact AS _
  |cons d l f=>
   obtain⟨s,rfl⟩:=h d ∎;have:=f λd hd=>h d (by simp[hd]);show max (l6 (.str s)) (B9 l)<=0;rw[E6];lia
 have g:∀ns:List Nat,B9 (ns.map λ(n:Nat)=>D.int (n:Int))<=0:=λns=>by
  induction ns with
  |nil=>exact AS _
  |cons n ns f=>
   show max (l6 (.int n)) (B9 _)<=0;rw[X1];lia
 have i:=g e.ns;show max (l6 (.tup e.fr)) (max (l6 (A8 e.ns)) 0)+1<=2;unfold A8;rw[J4,J4];lia
theorem az3:∀(S:List It3)(k:D)(o:Nat),(∀e∈S,e.key.py≠k.py)->B6 (S.mapIdx λi e=>(e.key.py,D.int ((o+i:Nat):Int))) k.py=AF
 |[],k,o,_=>by simp[B6]
 |e::S,k,o,h=>by
  have:=az3 S k (o+1) λe' he=>h e' (by simp[he]);rw[JX];unfold B6 at this ⊢;rw[By,decide_eq_false (h e ∎)];simp only;simpa[EJ,LG 1]using this
theorem ax4:∀(S:List It3)(k:D)(o i:Nat)(e:It3),S[i]?=AA e->e.key.py=k.py->(∀j a,j<i->S[j]?=AA a->a.key.py≠k.py)->B6 (S.mapIdx λi e=>(e.key.py,D.int ((o+i:Nat):Int))) k.py=AA (.int ((o+i:Nat):Int))
 |[],k,o,i,e,h,_,_=>by simp at h
 |x::S,k,o,0,e,h,b,_=>by
  simp at h;subst h;rw[JX];unfold B6;rw[By,decide_eq_true b];rfl
 |x::S,k,o,i+1,e,h,b,c=>by
  have:=ax4 S k (o+1) i e (by simpa using h) b λj a hji he'=>c (j+1) a ⋯ (by simpa using he');rw[JX];unfold B6 at this ⊢;rw[By,decide_eq_false (c 0 x ⋯ rfl)];simp only;simpa[EJ,LG 1]using this
def by2:∀{a b:List Nat},A8 a=A8 b->a=b:=by
 intro a b h;unfold A8 at h;injection h with h
 induction a generalizing b with
 |nil=>cases b with
  |nil=>rfl
  |cons y b=>simp at h
 |cons x a f=>cases b with
  |nil=>simp at h
  |cons y b=>
   rw[As,As,Aq]at h;have g:x=y:=by have e:=h.1;injection e with e;lia
   rw[g,f h.2]
def ci8{S:List It3}{ns:List Nat}{x y:List D}(k:x.length=ns.length)(i:y.length=ns.length)(f:∀(j n:Nat),ns[j]?=AA n->∃e,S[n]?=AA e/\x[j]?=AA e.t)(d:∀(j n:Nat),ns[j]?=AA n->∃e,S[n]?=AA e/\y[j]?=AA e.t):x=y:=by
 refine EG λj=>?_
 by_cases b:j<ns.length
 ·obtain⟨e,c,h⟩:=f j _ (AJ b);obtain⟨l,a,g⟩:=d j _ (AJ b);rw[c]at a;cases a;rw[h,g]
 ·rw[Bj ⋯,Bj ⋯]
section
variable (T:PSh P G)
include T
def bp2{S:List It3}(A:ShA sh dn sa pa wa S st)(hd:[sh,dn,sa,pa].Nodup){inn:List D}{ns:List Nat}(R:∀d∈fr,∃s:String,d=.str s)(H:inn.length=ns.length)(M:∀(j n:Nat),ns[j]?=AA n->∃e,S[n]?=AA e/\inn[j]?=AA e.t)(b1:fr.length<=10)(b2:ns.length<=1000)(b3:S.length<1000000)
  (q:∀m S' h,ShA sh dn sa pa wa S' h->S <+: S'->S'.length<=S.length+1->S'[m]?=AA ⟨fr,ns,.tup (fr++inn)⟩->Kp [dn,sa,pa] st h->Q (.int (m:Nat)) h):sem P G (n+1) (f6 "Shelf" "numbered") [.ref sh,.tup fr,A8 ns] st Q:=by
 obtain⟨E,L⟩:∃E:It3,E=⟨fr,ns,.tup (fr++inn)⟩:=⟨_,rfl⟩;have Y:E.key=.tup [.tup fr,A8 ns]:=by rw[L];rfl
 have O:=bb5 (e:=E) (by rw[L];exact R);have hdE:=cs9 (e:=E) (by rw[L];exact R);have J:D.key (.tup [.tup fr,A8 ns]):=by
  rw[<-Y];exact⟨ac6 _ O,BB hdE ∅⟩
 have X:∀e∈S,e.key.lit=AD:=λe w=>by
  obtain⟨i,r⟩:=Cd.mp w;exact bb5 (A.wf.wh i e r).1
 have K:(S.mapIdx λi e=>(e.key.py,D.int i))=S.mapIdx λi e=>(e.key.py,D.int ((0+i:Nat):Int)):=by
  congr 1;funext i e;rw[Kl]
 refine i5 T.numb rfl [AA (.ref sh),AA (.tup fr),AA (A8 ns),AF,AF] rfl ?_;unfold af7;(iterate 2 ∎);refine⟨sh,"Shelf",_,.ref dn,rfl,A.ins,by show _∈G.cls "Shelf";rw[T.cls];simp,rfl,⟨_,A.num⟩,_,A.num,J,?_⟩;rw[<-Y]
 by_cases Z:∃(i:Nat)(e:It3),S[i]?=AA e/\e.key=E.key
 ·obtain⟨i,e,r,w⟩:=Z;have hl:B6 (S.mapIdx λi e=>(e.key.py,D.int i)) E.key.py=AA (.int i):=by
   rw[K,ax4 S E.key 0 i e r (by rw[w]) λj U hj k z=>?_,Kl];have hz:=be3 (X U (BS k)) O z;have:=al1 A.wf.nd j i E.key (by rw[Ag,k];exact congrArg AA hz) (by rw[Ag,r];exact congrArg AA w);lia
  rw[hl];∎;refine .inr ⟨nofun,?_⟩;rfl';∎;refine c9 (q i S st A (Cz S) ⋯ ?_ Kp.refl);rw[r];have I:e.key=.tup [.tup fr,A8 ns]:=by rw[w,Y]
  unfold It3.key at I;injection I with I
  simp only[Aq,and_true]at I;obtain⟨k1,k2⟩:=I;injection k1 with k1
  have k3:e.ns=ns:=by2 k2;obtain⟨F,h1,h2,_,h4⟩:=A.wf.inn r;have:F=inn:=ci8 h2 (by rw[k3];exact H) (λj n hj=>(h4 j n hj).2) (by rw[k3];exact M);obtain⟨a,b,c⟩:=e;simp only at k1 k3 h1;subst k1;subst k3;subst this;rw[h1]
 ·have N:∀e∈S,e.key.py≠E.key.py:=λe w z=>Z (by
   obtain⟨i,r⟩:=Cd.mp w;exact⟨i,e,r,be3 (X e w) O z⟩)
  have hl:B6 (S.mapIdx λi e=>(e.key.py,D.int i)) E.key.py=AF:=by rw[K];exact az3 S E.key 0 N
  rw[hl];∎;refine .inl ⟨rfl,?_⟩;rfl';∎;have hc:∀f∈[("numbers":Str),("stored":Str),("parts":Str),("waiting":Str)],f∈G.cls "Shelf":=λf hf=>by rw[T.cls];exact hf
  refine⟨sh,"Shelf",_,.ref sa,rfl,A.ins,hc _ ∎,rfl,?_⟩;rw[r8 (.inl A.sto),AW];∎;refine⟨sh,"Shelf",_,.ref dn,rfl,A.ins,hc _ ∎,rfl,?_⟩;rw[Y];refine⟨_,A.num,J,B3 (by rw[GR];lia),?_⟩;rw[<-Y];simp only[BP,AN,AZ,or_false,not_or]at hd;obtain⟨⟨d1,d2,d3⟩,⟨d4,d5⟩,d6,_⟩:=hd;have W:V5 (S.mapIdx λi e=>(e.key.py,D.int i)) E.key.py (.int S.length)=(S++[E]).mapIdx λi e=>(e.key.py,D.int i):=by
   unfold V5;rw[if_neg,IX]
   ·simp
   ·rw[Bool.not_eq_true,Gg];intro x hx;rw[List.mem_mapIdx]at hx;obtain⟨i,r,rfl⟩:=hx;simpa using N _ (Ei r)
  rw[W];have a1:∀u,b0 st dn u sh=AA (.ins "Shelf" [(("numbers":Str),D.ref dn),(("stored":Str),D.ref sa),(("parts":Str),D.ref pa),(("waiting":Str),D.ref wa)]):=λu=>f7 A.ins d1;∎;have V:=f7 (u:=.dtt ((S++[E]).mapIdx λi e=>(e.key.py,D.int i))) A.sto (λz=>d4 z.symm);have n2:=f7 (u:=.dtt ((S++[E]).mapIdx λi e=>(e.key.py,D.int i))) A.par (λz=>d5 z.symm);have n0:b0 st dn (.dtt ((S++[E]).mapIdx λi e=>(e.key.py,D.int i))) dn=_:=f8;have a0:=a1 (.dtt ((S++[E]).mapIdx λi e=>(e.key.py,D.int i)));have nw:∃o,b0 st dn (.dtt ((S++[E]).mapIdx λi e=>(e.key.py,D.int i))) wa=AA o:=by
   by_cases z:wa=dn
   ·exact⟨_,by rw[z];exact f8⟩
   ·obtain⟨o,e⟩:=A.wai;exact⟨o,f7 e z⟩
  have K0:Kp [dn,sa,pa] st (b0 st dn (.dtt ((S++[E]).mapIdx λi e=>(e.key.py,D.int i)))):=Kp.refl.put ∎;revert V n2 n0 a0 nw K0;generalize b0 st dn (.dtt ((S++[E]).mapIdx λi e=>(e.key.py,D.int i)))=st1;intro V n2 n0 a0 nw K0;refine⟨sh,"Shelf",_,.ref sa,rfl,a0,hc _ ∎,rfl,by rw[A6 (.inl V)];trivial,.inl ⟨_,rfl,by simp only[AW];lia,?_⟩⟩;refine O7 (λl acc env' h=>h=st1/\∃(B v:List Nat)(x:Option D),ns=B++v/\l=v.map (λ(n:Nat)=>D.int (n:Int))/\acc=inn.take B.length/\env'=[AA (.ref sh),x]) ?_ ?_ _ _ _ _ ⟨rfl,[],ns,AF,rfl,rfl,∎,rfl⟩
  ·rintro acc env' h ⟨rfl,B,v,x,e,el,rfl,rfl⟩;have:v=[]:=by simpa using el.symm
   subst this;rw[BZ]at e;subst e;rw[<-H,JV];refine⟨trivial,λp hp=>⟨B2 ⋯,?_⟩⟩;have g1:=l5 (u:=.lst inn) V hp;rw[B7 g1];refine⟨B3 (by rw[AW];lia),?_⟩;have g2:=f7 (u:=.lst (S.map It3.t++[.tup (fr++inn)])) (l5 (u:=.lst inn) n2 hp) (λz=>d6 z.symm);have g3:=f7 (u:=.lst (S.map It3.t++[.tup (fr++inn)])) (l5 (u:=.lst inn) n0 hp) d4;have g4:=f7 (u:=.lst (S.map It3.t++[.tup (fr++inn)])) (l5 (u:=.lst inn) a0 hp) d2;have g5:b0 (b0 h p (.lst inn)) sa (.lst (S.map It3.t++[.tup (fr++inn)])) sa=_:=f8;have gw:∃o,b0 (b0 h p (.lst inn)) sa (.lst (S.map It3.t++[.tup (fr++inn)])) wa=AA o:=by
    by_cases z:wa=sa
    ·exact⟨_,by rw[z];exact f8⟩
    ·obtain⟨o,e⟩:=nw;exact⟨o,f7 (l5 e hp) z⟩
   have K1:Kp [dn,sa,pa] st (b0 (b0 h p (.lst inn)) sa (.lst (S.map It3.t++[.tup (fr++inn)]))):=(K0.new hp).put ∎;revert g2 g3 g4 g5 gw K1;generalize b0 (b0 h p (.lst inn)) sa (.lst (S.map It3.t++[.tup (fr++inn)]))=st2;intro g2 g3 g4 g5 gw K1;∎;refine⟨sh,"Shelf",_,.ref pa,rfl,g4,hc _ ∎,rfl,by rw[A6 (.inl g2)];trivial,?_⟩;rw[B7 g2];refine⟨B3 (by rw[AW];lia),?_⟩;rfl';∎;refine c9 (q S.length (S++[E]) _ ⟨f7 g4 d3,f7 g3 d5,?_,?_,?_,⟨λi e r=>?_,?_⟩,by simp;lia,λe w=>?_⟩ (List.prefix_append S [E]) ∎ (by rw[Af (AS _),Km,L];rfl) (K1.put ∎))
   ·rw[Ah,L];exact f7 g5 d6
   ·rw[f8,Ah,L];rfl
   ·by_cases z:wa=pa
    ·exact⟨_,by rw[z];exact f8⟩
    ·obtain⟨o,e⟩:=gw;exact⟨o,f7 e z⟩
   ·by_cases hil:i<S.length
    ·rw[Ac hil]at r;obtain⟨h1,F,h2,h3,h4⟩:=A.wf.wh i e r;refine⟨h1,F,h2,h3,λj n hj=>?_⟩;obtain⟨l1,U,k,g⟩:=h4 j n hj;exact⟨l1,U,by rw[Ac ⋯];exact k,g⟩
    ·rw[Af ⋯]at r;have hi0:i-S.length=0:=by have:=(AY.mp r).1;simp at this;lia
     rw[hi0]at r;simp at r;subst r;rw[L];refine⟨R,inn,rfl,H,λj n hj=>?_⟩;obtain⟨U,k,g⟩:=M j n hj;have:=(AY.mp k).1;exact⟨⋯,U,by rw[Ac this];exact k,g⟩
   ·rw[Ah,EH];refine⟨A.wf.nd,∎,λx hx y hy z=>?_⟩;simp at hy;subst hy;obtain⟨e,w,rfl⟩:=DF.mp hx;exact N e w (by rw[z])
   ·rcases BI.mp w with w|w
    ·exact A.fl e w
    ·rw[BY]at w;subst w;rw[L];exact⟨b1,b2⟩
  ·rintro d ds acc env' h ih ⟨rfl,B,v,x,e,el,rfl,rfl⟩;refine⟨trivial,?_⟩;cases v with
   |nil=>simp at el
   |cons m v=>
    simp only[As,Aq]at el;obtain⟨rfl,rfl⟩:=el;obtain⟨U,k,g⟩:=M B.length m (by rw[e];simp);rfl';refine⟨sh,"Shelf",_,.ref sa,rfl,a0,hc _ ∎,rfl,?_⟩;rw[l7 (.inl V)];refine⟨U.t,by rw[v6,Ag,k];rfl,ih _ _ _ ⟨rfl,B++[m],v,_,by rw[e];simp,rfl,?_,rfl⟩⟩;rw[Ad,AV,Ao,List.take_add_one,g];rfl
end
section
variable (T:PSh P G)
include T
omit T in
theorem ShA.keepL{S:List It3}(A:ShA sh dn sa pa wa S st)(K:Kp L st st')(h:∀x∈L,x∉[sh,dn,sa,pa,wa]):ShA sh dn sa pa wa S st':=
 ⟨K.at' A.ins (λz=>h _ z ∎),K.at' A.num (λz=>h _ z ∎),K.at' A.sto (λz=>h _ z ∎),K.at' A.par (λz=>h _ z ∎),(by obtain⟨o,e⟩:=A.wai;exact⟨o,K.at' e (λz=>h _ z ∎)⟩),A.wf,A.ml,A.fl⟩
end
abbrev Has(S:List It3)(t:D):Prop:=∃(m:Nat)(e:It3),S[m]?=AA e/\e.t=t
open Classical in
abbrev nb(S:List It3)(t:D):Nat:=if h:Has S t then Classical.choose h else 0
def U3{S:List It3}{t:D}(h:Has S t):∃e,S[nb S t]?=AA e/\e.t=t:=by
 unfold nb;rw[dif_pos h];exact Classical.choose_spec h
def ap9{S:List It3}(w:Wf S){t:D}(h:S[m]?=AA e)(a:e.t=t):nb S t=m:=by
 obtain⟨d,c,b⟩:=U3 (S:=S) (t:=t) ⟨m,e,h,a⟩;exact w.inj _ (AS _) c h (b.trans a.symm)
def Has.mono{S:List It3}{t:D}(h:Has S t)(b:S <+: S'):Has S' t:=by
 obtain⟨m,e,a,c⟩:=h;obtain⟨r,rfl⟩:=b;exact⟨m,e,by rw[Ac (AY.mp a).1];exact a,c⟩
def bh2{S:List It3}(w:Wf S){inn:List D}(h:Has S (.tup (fr++inn)))(q:∀d∈fr,∃s:String,d=.str s)(p:∀d∈inn,∃l,d=.tup l):(∀d∈inn,Has S d)/\∃e,S[nb S (.tup (fr++inn))]?=AA e/\e.ns=inn.map (nb S):=by
 obtain⟨e,i,m⟩:=U3 h;obtain⟨b,v,u,r,n⟩:=w.inn i;have o:e.fr++b=fr++inn:=by rw[v]at m;injection m
 obtain⟨_,rfl⟩:=bb0 (w.wh _ e i).1 q r p o;refine⟨λd hd=>?_,e,i,?_⟩
 ·obtain⟨j,c⟩:=Cd.mp hd;have g:j<e.ns.length:=by rw[<-u];exact(AY.mp c).1
  obtain⟨_,k,a,f⟩:=n j _ (AJ g);rw[c]at f;cases f;exact⟨_,k,a,rfl⟩
 ·refine EG λj=>?_
  by_cases c:j<e.ns.length
  ·obtain⟨_,k,a,f⟩:=n j _ (AJ c);rw[AJ c,Ag,f];show AA _=AA (nb S k.t);rw[ap9 w a rfl]
  ·rw[Bj ⋯,Bj (by rw[AW];lia)]
def at0{w:String}:∀d∈([.str w]:List D),∃s:String,d=.str s:=λd hd=>by simp at hd;subst hd;exact⟨w,rfl⟩
def cr2:∀k:Kd,∃l,k.d=.tup l
 |.non=>⟨_,rfl⟩
 |.one=>⟨_,rfl⟩
 |.eith _ _=>⟨_,rfl⟩
 |.both _ _=>⟨_,rfl⟩
 |.way _ _=>⟨_,rfl⟩
section
variable (T:PSh P G)
include T
def bt2{S:List It3}(A:ShA sh dn sa pa wa S st){inn:List D}(h:Has S (.tup (fr++inn)))(f:∀d∈fr,∃s:String,d=.str s)(c:∀d∈inn,∃l,d=.tup l)(q:Q (A8 (inn.map (nb S))) st):sem P G (n+1) (f6 "Shelf" "within") [.ref sh,.int (nb S (.tup (fr++inn)):Nat)] st Q:=by
 obtain⟨_,e,b,a⟩:=bh2 A.wf h f c;refine i5 T.wthn rfl [AA (.ref sh),AA (.int (nb S (.tup (fr++inn)):Nat))] rfl ?_;unfold ai7;∎;refine⟨sh,"Shelf",_,.ref pa,rfl,A.ins,by show _∈G.cls "Shelf";rw[T.cls];simp,rfl,?_⟩;rw[l7 (.inl A.par)];refine⟨A8 e.ns,by rw[v6,Ag,b];rfl,c9 ?_⟩;rw[a];exact q
def a82{S:List It3}(A:ShA sh dn sa pa wa S st){t:D}(h:Has S t)(q:Q t st):sem P G (n+1) (f6 "Shelf" "tuple_at") [.ref sh,.int (nb S t:Nat)] st Q:=by
 obtain⟨e,b,a⟩:=U3 h;refine i5 T.tup rfl [AA (.ref sh),AA (.int (nb S t:Nat))] rfl ?_;unfold af4;∎;refine⟨sh,"Shelf",_,.ref sa,rfl,A.ins,by show _∈G.cls "Shelf";rw[T.cls];simp,rfl,?_⟩;rw[l7 (.inl A.sto)];exact⟨t,by rw[v6,Ag,b,<-a];rfl,c9 q⟩
def bb8{S:List It3}(A:ShA sh dn sa pa wa S st){d:D}{r:List D}(h:Has S (.tup (d::r)))(q:Q d st):sem P G (n+1) (f6 "Shelf" "word_at") [.ref sh,.int (nb S (.tup (d::r)):Nat)] st Q:=by
 obtain⟨e,b,a⟩:=U3 h;refine i5 T.word rfl [AA (.ref sh),AA (.int (nb S (.tup (d::r)):Nat))] rfl ?_;unfold ag3;∎;refine⟨sh,"Shelf",_,.ref sa,rfl,A.ins,by show _∈G.cls "Shelf";rw[T.cls];simp,rfl,?_⟩;rw[l7 (.inl A.sto)];refine⟨.tup (d::r),by rw[v6,Ag,b,<-a];rfl,?_⟩;rfl';exact c9 q
def ax5(J:st sh=AF)(q:∀dn sa pa wa i,ShA sh dn sa pa wa [] i->[sh,dn,sa,pa].Nodup->(∀a∈[sh,dn,sa,pa,wa],st a=AF)->wa∉[dn,sa,pa]->wa≠sh->i wa=AA (.lst [])->Kp [] st i->Q .non i):sem P G (n+1) (f6 "Shelf" "__init__") [.ref sh] (b0 st sh (.ins "Shelf" [])) Q:=by
 refine i5 T.init rfl [AA (.ref sh)] rfl ?_;unfold af8;have p:∀f∈([("numbers":Str),("stored":Str),("parts":Str),("waiting":Str)]:List Str),f∈G.cls "Shelf":=λf hf=>by rw[T.cls];exact hf
 ∎;refine⟨T.kt,λdn hdn=>⟨sh,"Shelf",[],rfl,l5 f8 hdn,p _ ∎,∅,?_⟩⟩;have k:sh≠dn:=j9 f8 hdn;have S:st dn=AF:=by rw[E2 k.symm]at hdn;exact hdn
 have l:∀{i:Sto}{u:Ob},Kp [] st i->Kp [] st (b0 i sh u):=λK b o nb e=>f7 (K b o nb e) (j9 e J);have A:b0 (b0 (b0 st sh (.ins "Shelf" [])) dn (.dtt [])) sh (.ins "Shelf" (l0 "numbers" (.ref dn) [])) sh=AA (.ins "Shelf" [(("numbers":Str),D.ref dn)]):=by rw[f8];rfl
 have z:b0 (b0 (b0 st sh (.ins "Shelf" [])) dn (.dtt [])) sh (.ins "Shelf" (l0 "numbers" (.ref dn) [])) dn=AA (.dtt []):=f7 f8 k.symm;have E:Kp [] st (b0 (b0 (b0 st sh (.ins "Shelf" [])) dn (.dtt [])) sh (.ins "Shelf" (l0 "numbers" (.ref dn) []))):=l ((l Kp.refl).new hdn);revert A z E;generalize b0 (b0 (b0 st sh (.ins "Shelf" [])) dn (.dtt [])) sh (.ins "Shelf" (l0 "numbers" (.ref dn) []))=s1;intro A z E;∎;refine λsa hsa=>⟨sh,"Shelf",_,rfl,l5 A hsa,p _ ∎,∎,?_⟩;have m:sh≠sa:=j9 A hsa;have R:dn≠sa:=j9 z hsa;have y:b0 (b0 s1 sa (.lst [])) sh (.ins "Shelf" (l0 "stored" (.ref sa) [(("numbers":Str),D.ref dn)])) sh=AA (.ins "Shelf" [(("numbers":Str),D.ref dn),(("stored":Str),D.ref sa)]):=by rw[f8];simp[l0,u6]
 have x:b0 (b0 s1 sa (.lst [])) sh (.ins "Shelf" (l0 "stored" (.ref sa) [(("numbers":Str),D.ref dn)])) dn=AA (.dtt []):=f7 (l5 z hsa) k.symm;have w:b0 (b0 s1 sa (.lst [])) sh (.ins "Shelf" (l0 "stored" (.ref sa) [(("numbers":Str),D.ref dn)])) sa=AA (.lst []):=f7 f8 m.symm;have C:Kp [] st (b0 (b0 s1 sa (.lst [])) sh (.ins "Shelf" (l0 "stored" (.ref sa) [(("numbers":Str),D.ref dn)]))):=l (E.new hsa);have L:st sa=AF:=none_of E hsa;revert y x w C;generalize b0 (b0 s1 sa (.lst [])) sh (.ins "Shelf" (l0 "stored" (.ref sa) [(("numbers":Str),D.ref dn)]))=s2;intro y x w C;∎;refine λpa hpa=>⟨sh,"Shelf",_,rfl,l5 y hpa,p _ ∎,∎,?_⟩;have H:sh≠pa:=j9 y hpa;have O:dn≠pa:=j9 x hpa;have N:sa≠pa:=j9 w hpa;have v:b0 (b0 s2 pa (.lst [])) sh (.ins "Shelf" (l0 "parts" (.ref pa) [(("numbers":Str),D.ref dn),(("stored":Str),D.ref sa)])) sh=AA (.ins "Shelf" [(("numbers":Str),D.ref dn),(("stored":Str),D.ref sa),(("parts":Str),D.ref pa)]):=by rw[f8];simp[l0,u6]
 have t:b0 (b0 s2 pa (.lst [])) sh (.ins "Shelf" (l0 "parts" (.ref pa) [(("numbers":Str),D.ref dn),(("stored":Str),D.ref sa)])) dn=AA (.dtt []):=f7 (l5 x hpa) k.symm;have s:b0 (b0 s2 pa (.lst [])) sh (.ins "Shelf" (l0 "parts" (.ref pa) [(("numbers":Str),D.ref dn),(("stored":Str),D.ref sa)])) sa=AA (.lst []):=f7 (l5 w hpa) m.symm;have r:b0 (b0 s2 pa (.lst [])) sh (.ins "Shelf" (l0 "parts" (.ref pa) [(("numbers":Str),D.ref dn),(("stored":Str),D.ref sa)])) pa=AA (.lst []):=f7 f8 H.symm;have B:Kp [] st (b0 (b0 s2 pa (.lst [])) sh (.ins "Shelf" (l0 "parts" (.ref pa) [(("numbers":Str),D.ref dn),(("stored":Str),D.ref sa)]))):=l (C.new hpa);have M:st pa=AF:=none_of C hpa;revert v t s r B;generalize b0 (b0 s2 pa (.lst [])) sh (.ins "Shelf" (l0 "parts" (.ref pa) [(("numbers":Str),D.ref dn),(("stored":Str),D.ref sa)]))=s3;intro v t s r B;∎;refine λwa hwa=>⟨sh,"Shelf",_,rfl,l5 v hwa,p _ ∎,∎,?_⟩;have F:sh≠wa:=j9 v hwa;rfl';refine bc1 (q dn sa pa wa _ ⟨by rw[f8];simp[l0,u6],f7 (l5 t hwa) k.symm,f7 (l5 s hwa) m.symm,f7 (l5 r hwa) H.symm,⟨_,f7 f8 F.symm⟩,⟨∎,∎⟩,∎,∎⟩ ?_ ?_ ?_ F.symm (f7 f8 F.symm) (l (B.new hwa)))
 ·simp[k,m,H,R,O,N]
 ·intro a I;simp only[AN,AZ,or_false]at I
  rcases I with rfl|rfl|rfl|rfl|rfl
  ·exact J
  ·exact S
  ·exact L
  ·exact M
  ·exact none_of B hwa
 ·simp only[AN,AZ,or_false,not_or];exact⟨(j9 t hwa).symm,(j9 s hwa).symm,(j9 r hwa).symm⟩
end
abbrev Pg.oc:Nat->Pg->Nat
 |i,.name n=>if n=i then 1 else 0
 |_,.star=>0
 |i,.pair t u=>t.oc i+u.oc i
 |i,.first t=>t.oc i
 |i,.second t=>t.oc i
 |i,.left _ t=>t.oc i
 |i,.right _ t=>t.oc i
 |i,.case t u v=>t.oc i+u.oc (i+1)+v.oc (i+1)
 |i,.way _ t=>t.oc (i+1)
 |i,.give t u=>t.oc i+u.oc i
 |i,.lets t u=>t.oc i+u.oc (i+1)
 |i,.never _ t=>t.oc i
abbrev Pg.withKids:Pg->List Pg->Pg
 |.pair a b,l=>match l with|[t,u]=>.pair t u|_=>.pair a b
 |.first a,l=>match l with|[t]=>.first t|_=>.first a
 |.second a,l=>match l with|[t]=>.second t|_=>.second a
 |.left b a,l=>match l with|[t]=>.left b t|_=>.left b a
 |.right b a,l=>match l with|[t]=>.right b t|_=>.right b a
 |.case a b c,l=>match l with|[t,u,v]=>.case t u v|_=>.case a b c
 |.way b a,l=>match l with|[t]=>.way b t|_=>.way b a
 |.give a b,l=>match l with|[t,u]=>.give t u|_=>.give a b
 |.lets a b,l=>match l with|[t,u]=>.lets t u|_=>.lets a b
 |.never b a,l=>match l with|[t]=>.never b t|_=>.never b a
 |.name n,_=>.name n
 |.star,_=>.star
def Pg.with_cases{motive:Pg->List Pg->Prop}(w:∀n,motive (.name n) [])(s:motive .star [])(r:∀a b t u,motive (.pair a b) [t,u])(q:∀a t,motive (.first a) [t])(o:∀a t,motive (.second a) [t])
  (m:∀k a t,motive (.left k a) [t]) (j:∀k a t,motive (.right k a) [t]) (i:∀a b c t u v,motive (.case a b c) [t,u,v]) (g:∀k a t,motive (.way k a) [t]) (f:∀a b t u,motive (.give a b) [t,u]) (e:∀a b t u,motive (.lets a b) [t,u]) (d:∀k a t,motive (.never k a) [t]) :
  ∀(p:Pg)(l:List Pg),l.length=p.kids.length->motive p l:=by
 intro p l h;cases p<;>simp only[Pg.kids,AV,Ao]at h
 case name=>have:l=[]:=HZ.mp h;subst this;exact w _
 case star=>have:l=[]:=HZ.mp h;subst this;exact s
 case pair=>
  obtain⟨a,b,rfl⟩:∃a b,l=[a,b]:=by match l,h with|[a,b],_=>exact⟨a,b,rfl⟩
  exact r _ _ _ _
 case give=>
  obtain⟨a,b,rfl⟩:∃a b,l=[a,b]:=by match l,h with|[a,b],_=>exact⟨a,b,rfl⟩
  exact f _ _ _ _
 case lets=>
  obtain⟨a,b,rfl⟩:∃a b,l=[a,b]:=by match l,h with|[a,b],_=>exact⟨a,b,rfl⟩
  exact e _ _ _ _
 case case=>
  obtain⟨a,b,c,rfl⟩:∃a b c,l=[a,b,c]:=by match l,h with|[a,b,c],_=>exact⟨a,b,c,rfl⟩
  exact i _ _ _ _ _ _
 case first=>
  obtain⟨a,rfl⟩:∃a,l=[a]:=by match l,h with|[a],_=>exact⟨a,rfl⟩
  exact q _ _
 case second=>
  obtain⟨a,rfl⟩:∃a,l=[a]:=by match l,h with|[a],_=>exact⟨a,rfl⟩
  exact o _ _
 case left=>
  obtain⟨a,rfl⟩:∃a,l=[a]:=by match l,h with|[a],_=>exact⟨a,rfl⟩
  exact m _ _ _
 case right=>
  obtain⟨a,rfl⟩:∃a,l=[a]:=by match l,h with|[a],_=>exact⟨a,rfl⟩
  exact j _ _ _
 case way=>
  obtain⟨a,rfl⟩:∃a,l=[a]:=by match l,h with|[a],_=>exact⟨a,rfl⟩
  exact g _ _ _
 case never=>
  obtain⟨a,rfl⟩:∃a,l=[a]:=by match l,h with|[a],_=>exact⟨a,rfl⟩
  exact d _ _ _
abbrev cy4:List (Str×D):=[("name",.int 2),("star",.int 1),("pair",.int 1),("first",.int 1),("second",.int 1),("left",.int 2),("right",.int 2),("case",.int 1),("way",.int 2),("give",.int 1),("let",.int 1),("never",.int 2)]
def ce8{lo hi:Option Int}:(z5 ds lo hi).length<=ds.length:=by
 unfold z5;rw[Bn,Bo];lia
abbrev cx6:List (Str×D):=[("case",.ktup [.inl 1,.inl 2]),("way",.ktup [.inl 0]),("let",.ktup [.inl 1])]
abbrev Pg.mp(f:Nat->Nat->Option Pg):Nat->Pg->Pg
 |u,.name n=>(f n u).getD (.name n)
 |_,.star=>.star
 |u,.pair t v=>.pair (t.mp f u) (v.mp f u)
 |u,.first t=>.first (t.mp f u)
 |u,.second t=>.second (t.mp f u)
 |u,.left b t=>.left b (t.mp f u)
 |u,.right b t=>.right b (t.mp f u)
 |u,.case t v w=>.case (t.mp f u) (v.mp f (u+1)) (w.mp f (u+1))
 |u,.way b t=>.way b (t.mp f (u+1))
 |u,.give t v=>.give (t.mp f u) (v.mp f u)
 |u,.lets t v=>.lets (t.mp f u) (v.mp f (u+1))
 |u,.never b t=>.never b (t.mp f u)
abbrev Pg.chd(f:Nat->Nat->Option Pg):Nat->Pg->Bool
 |u,.name n=>(f n u).isSome
 |_,.star=>AE
 |u,.pair t v=>t.chd f u||v.chd f u
 |u,.first t=>t.chd f u
 |u,.second t=>t.chd f u
 |u,.left _ t=>t.chd f u
 |u,.right _ t=>t.chd f u
 |u,.case t v w=>t.chd f u||(v.chd f (u+1)||w.chd f (u+1))
 |u,.way _ t=>t.chd f (u+1)
 |u,.give t v=>t.chd f u||v.chd f u
 |u,.lets t v=>t.chd f u||v.chd f (u+1)
 |u,.never _ t=>t.chd f u
def Pg.mp_same(p:Pg):∀{u:Nat},p.chd f u=AE->p.mp f u=p:=by
 induction p with
 |name n=>intro u h;simp only[Pg.chd]at h;simp only[Pg.mp];cases e:f n u with|none=>rfl|some r=>rw[e]at h;cases h
 |star=>intro u _;rfl
 |pair t v a c=>intro u h;simp only[Pg.chd,FX]at h;simp only[Pg.mp,a h.1,c h.2]
 |give t v a c=>intro u h;simp only[Pg.chd,FX]at h;simp only[Pg.mp,a h.1,c h.2]
 |lets t v a c=>intro u h;simp only[Pg.chd,FX]at h;simp only[Pg.mp,a h.1,c h.2]
 |case t v w a c i=>intro u h;simp only[Pg.chd,FX]at h;simp only[Pg.mp,a h.1,c h.2.1,i h.2.2]
 |first t a=>intro u h;simp only[Pg.mp,a h]
 |second t a=>intro u h;simp only[Pg.mp,a h]
 |left b t a=>intro u h;simp only[Pg.mp,a h]
 |right b t a=>intro u h;simp only[Pg.mp,a h]
 |way b t a=>intro u h;simp only[Pg.mp,a h]
 |never b t a=>intro u h;simp only[Pg.mp,a h]
abbrev Pg.more:Pg->Nat->Nat
 |.case _ _ _,i=>if i=1\/i=2 then 1 else 0
 |.way _ _,i=>if i=0 then 1 else 0
 |.lets _ _,i=>if i=1 then 1 else 0
 |_,_=>0
abbrev Pg.kidsU(u:Nat)(p:Pg):List (Pg×Nat):=p.kids.mapIdx λi c=>(c,u+p.more i)
def Pg.mp_kids(h:p.kids≠[]):p.mp f u=p.withKids ((p.kidsU u).map λc=>c.1.mp f c.2):=by
 cases p<;>first|rfl|exact absurd rfl h
def Pg.chd_kids(h:p.kids≠[]):p.chd f u=((p.kidsU u).map λc=>c.1.chd f c.2).any id:=by
 cases p<;>first|exact absurd rfl h|(simp[Pg.chd,Pg.kidsU,Pg.kids,Pg.more,EI,Dj])
def Pg.parts_U(p:Pg)(u:Nat):p.parts=1+((p.kidsU u).map λc=>c.1.parts).sum:=by
 cases p<;>simp[Pg.parts,Pg.kidsU,Pg.kids,Pg.more,EI,Dj]<;>lia
def Pg.hgt_U(p:Pg)(u:Nat):∀c∈p.kidsU u,c.2+c.1.hgt<=u+p.hgt:=by
 cases p<;>simp[Pg.hgt,Pg.kidsU,Pg.kids,Pg.more,EI,Dj]<;>lia
def Pg.mp_hgt(s:∀n u r,f n u=AA r->r.hgt<=m)(hm:1<=m)(p:Pg):∀{u:Nat},(p.mp f u).hgt+1<=p.hgt+m:=by
 induction p with
 |name n=>intro u;simp only[Pg.mp,Pg.hgt];cases e:f n u with|none=>simp only[Jq,Pg.hgt];lia|some r=>have:=s n u r e;simp only[Jq];lia
 |star=>intro u;simp only[Pg.mp,Pg.hgt];lia
 |pair t v a c=>intro u;have:=@a u;have:=@c u;simp only[Pg.mp,Pg.hgt];lia
 |give t v a c=>intro u;have:=@a u;have:=@c u;simp only[Pg.mp,Pg.hgt];lia
 |lets t v a c=>intro u;have:=@a u;have:=@c (u+1);simp only[Pg.mp,Pg.hgt];lia
 |case t v w a c h=>intro u;have:=@a u;have:=@c (u+1);have:=@h (u+1);simp only[Pg.mp,Pg.hgt];lia
 |first t a=>intro u;have:=@a u;simp only[Pg.mp,Pg.hgt];lia
 |second t a=>intro u;have:=@a u;simp only[Pg.mp,Pg.hgt];lia
 |left b t a=>intro u;have:=@a u;simp only[Pg.mp,Pg.hgt];lia
 |right b t a=>intro u;have:=@a u;simp only[Pg.mp,Pg.hgt];lia
 |way b t a=>intro u;have:=@a (u+1);simp only[Pg.mp,Pg.hgt];lia
 |never b t a=>intro u;have:=@a u;simp only[Pg.mp,Pg.hgt];lia
def Pg.mp_kn(x:∀n u r,f n u=AA r->r.kn m)(p:Pg):∀{u:Nat},p.kn m->(p.mp f u).kn m:=by
 induction p with
 |name n=>intro u _;simp only[Pg.mp];cases e:f n u with|none=>trivial|some r=>exact x n u r e
 |star=>intro u h;exact h
 |pair t v a c=>exact λh=>⟨a h.1,c h.2⟩
 |give t v a c=>exact λh=>⟨a h.1,c h.2⟩
 |lets t v a c=>exact λh=>⟨a h.1,c h.2⟩
 |case t v w a c i=>exact λh=>⟨a h.1,c h.2.1,i h.2.2⟩
 |first t a=>exact λh=>a h
 |second t a=>exact λh=>a h
 |left b t a=>exact λh=>⟨h.1,a h.2⟩
 |right b t a=>exact λh=>⟨h.1,a h.2⟩
 |way b t a=>exact λh=>⟨h.1,a h.2⟩
 |never b t a=>exact λh=>⟨h.1,a h.2⟩
abbrev lfF(m l n u:Nat):Option Pg:=if u+l<=n then AA (.name (n+m))else AF
abbrev Pg.lf(m l:Nat)(p:Pg):Pg:=p.mp (lfF m l) 0
abbrev sbF(o:Pg)(n u:Nat):Option Pg:=if n<u then AF else if n=u then AA (o.lf u 0)else AA (.name (n-1))
abbrev Pg.sb(p o:Pg):Pg:=p.mp (sbF o) 0
def bg2{m:Nat}:(p.lf m l).hgt<=p.hgt:=by
 have:=Pg.mp_hgt (f:=lfF m l) (m:=1) (λn u r h=>by unfold lfF at h;split at h<;>cases h;exact AS _) (AS _) p (u:=0);unfold Pg.lf;lia
def ar1{k:Nat}(h:p.kn k):(p.lf m l).kn k:=Pg.mp_kn (λn u r h=>by unfold lfF at h;split at h<;>cases h;trivial) p h
def bi4{k:Nat}(a:o.kn k)(h:p.kn k):(p.sb o).kn k:=Pg.mp_kn (λn u r h=>by
 unfold sbF at h
 split at h
 ·cases h
 ·split at h<;>cases h
  ·exact ar1 a
  ·trivial) p h
def by9(p:Pg):∀{u:Nat},(p.mp (lfF m l) u).parts=p.parts:=by
 induction p with
 |name n=>intro u;simp only[Pg.mp,lfF];split<;>rfl
 |star=>intro u;rfl
 |pair t v a c=>intro u;simp only[Pg.mp,Pg.parts,@a u,@c u]
 |give t v a c=>intro u;simp only[Pg.mp,Pg.parts,@a u,@c u]
 |lets t v a c=>intro u;simp only[Pg.mp,Pg.parts,@a u,@c (u+1)]
 |case t v w a c f=>intro u;simp only[Pg.mp,Pg.parts,@a u,@c (u+1),@f (u+1)]
 |first t a=>intro u;simp only[Pg.mp,Pg.parts,@a u]
 |second t a=>intro u;simp only[Pg.mp,Pg.parts,@a u]
 |left b t a=>intro u;simp only[Pg.mp,Pg.parts,@a u]
 |right b t a=>intro u;simp only[Pg.mp,Pg.parts,@a u]
 |way b t a=>intro u;simp only[Pg.mp,Pg.parts,@a (u+1)]
 |never b t a=>intro u;simp only[Pg.mp,Pg.parts,@a u]
def c18{g h:Nat->Nat->Option Pg}{a b c:Nat->Nat}(o:∀u,a (u+1)=a u+1)(m:∀u,b (u+1)=b u+1)(l:∀u,c (u+1)=c u+1)
  (H:∀n u,((Pg.name n).mp f (a u)).mp g (b u)=(Pg.name n).mp h (c u)) (p:Pg):∀u,(p.mp f (a u)).mp g (b u)=p.mp h (c u):=by
 induction p with
 |name n=>exact H n
 |star=>intro u;rfl
 |pair t v d e=>intro u;simp only[Pg.mp,d u,e u]
 |give t v d e=>intro u;simp only[Pg.mp,d u,e u]
 |lets t v d e=>intro u;simp only[Pg.mp,d u];rw[<-o,<-m,<-l,e]
 |case t v w d e k=>intro u;simp only[Pg.mp,d u];rw[<-o,<-m,<-l,e,k]
 |first t d=>intro u;simp only[Pg.mp,d u]
 |second t d=>intro u;simp only[Pg.mp,d u]
 |left b t d=>intro u;simp only[Pg.mp,d u]
 |right b t d=>intro u;simp only[Pg.mp,d u]
 |way b t d=>intro u;simp only[Pg.mp];rw[<-o,<-m,<-l,d]
 |never b t d=>intro u;simp only[Pg.mp,d u]
def c38(p:Pg)(u:Nat):p.mp (λ_ _=>AF) u=p:=Pg.mp_same p (by
 induction p generalizing u with
 |name n=>rfl
 |star=>rfl
 |_=>simp only[Pg.chd, *,Bool.or_self])
def a78:(Pg.name n).mp (lfF m l) u=.name (if u+l<=n then n+m else n):=by
 simp only[Pg.mp,lfF];split<;>rfl
theorem au9:∀(a:List D)(i:Nat),(r6 i a).length=a.length
 |[],_=>rfl
 |_::a,i=>by show(r6 (i+1) a).length+1=a.length+1;rw[au9 a]
def Pg.parts_kids(p:Pg):p.parts=1+(p.kids.map Pg.parts).sum:=by
 cases p<;>simp only[Pg.parts,Pg.kids,As,Eg,DL,Gu]<;>lia
def Pg.kn_kids(p:Pg)(h:p.kn m):∀c∈p.kids,c.kn m:=by
 cases p<;>simp only[Pg.kn,Pg.kids,AN,AZ,or_false,false_imp_iff,implies_true,forall_eq_or_imp,forall_eq]at h ⊢<;>first|exact h|exact h.2
structure PIn(P:i8)(G:Gs):Prop where
 inner:P "inner"=AA an6
 more:P "names_more"=AA aj7
 tab:G.tab "INNER_FROM"=cy4
 tab2:G.tab "UNDER_ONE_MORE"=cx6
structure PNm(P:i8)(G:Gs):Prop extends PM P G,PIn P G where
 winner:P "with_inner"=AA W3
 lift:P "lifted"=AA al5
 put:P "put_in"=AA am1
 copy:P "copy_under"=AA aj8
 wparts:P "with_parts"=AA aj6
 under:P "inner_under"=AA aj3
abbrev B4(c:Pg×Nat):D:=.tup [c.1.d,.int c.2]
abbrev O2(f:Nat->Nat->Option Pg):Pg->Nat->D
 |.name n,u=>match f n u with
  |some r=>r.d
  |none=>.non
 |_,_=>.non
def ao7:p.d≠.non:=by cases p<;>exact nofun
def b08(h:O2 f p u≠.non):p.kids=[]:=by
 cases p<;>first|rfl|exact absurd rfl h
def b26(h:p.kids=[]):(O2 f p u=.non/\p.mp f u=p/\p.chd f u=AE)\/(O2 f p u=(p.mp f u).d/\p.chd f u=AD):=by
 cases p<;>first|(cases h;done)|skip
 case name n=>
  simp only[O2,Pg.mp,Pg.chd];cases f n u with
  |none=>exact .inl ⟨rfl,rfl,rfl⟩
  |some r=>exact .inr ⟨rfl,rfl⟩
 case star=>exact .inl ⟨rfl,rfl,rfl⟩
section
variable (J:PIn P G) 
include J
def ay5(p:Pg)(q:∀a,st a=AF->Q (.ref a) (b0 st a (.lst (p.kids.map Pg.d)))):sem P G (n+1) "inner" [p.d] st Q:=by
 refine i5 J.inner rfl [AA p.d] rfl ?_;unfold an6;cases p<;>simp only[Pg.d]
 all_goals
  ∎;refine⟨by show G.tab "INNER_FROM"≠[];rw[J.tab];exact λz=>(by cases z),?_⟩;simp only[J.tab];refine⟨_,rfl,_,rfl,∅,λa ha=>c9 (q a ha)⟩
def am4(p:Pg)(i:Nat)(q:Q (.int (p.more i:Nat)) st):sem P G (n+1) "names_more" [p.d,.int i] st Q:=by
 refine i5 J.more rfl [AA p.d,AA (.int i)] rfl ?_;unfold aj7;cases p<;>simp only[Pg.d]
 all_goals
  ∎;refine⟨by show G.tab "UNDER_ONE_MORE"≠[];rw[J.tab2];exact λz=>(by cases z),?_⟩;simp only[J.tab2];refine⟨_,rfl,?_⟩
 case case=>
  show o9 .In (.int i) (.ktup [.inl 1,.inl 2]) _ _;rw[au2];rfl'
  by_cases h:i=1\/i=2
  ·rw[if_pos (by simp;lia)];simp only[Pg.more,if_pos h]at q;exact c9 q
  ·rw[if_neg (by simp;lia)];simp only[Pg.more,if_neg h]at q;exact c9 q
 case way=>
  show o9 .In (.int i) (.ktup [.inl 0]) _ _;rw[au2];rfl'
  by_cases h:i=0
  ·rw[if_pos (by simp;lia)];simp only[Pg.more,if_pos h]at q;exact c9 q
  ·rw[if_neg (by simp;lia)];simp only[Pg.more,if_neg h]at q;exact c9 q
 case lets=>
  show o9 .In (.int i) (.ktup [.inl 1]) _ _;rw[au2];rfl'
  by_cases h:i=1
  ·rw[if_pos (by simp;lia)];simp only[Pg.more,if_pos h]at q;exact c9 q
  ·rw[if_neg (by simp;lia)];simp only[Pg.more,if_neg h]at q;exact c9 q
 all_goals
  show o9 .In (.int i) (.tup []) _ _;rw[bk4];refine⟨rfl,rfl,BK _,?_⟩;rfl';exact c9 q
end
section
variable (J:PNm P G) 
include J
def bx8{l:List Pg}(h:rdS st a (l.map Pg.d))(c:l.length=p.kids.length)(b:p.kids≠[])(q:Q (p.withKids l).d st):sem P G (n+1) "with_inner" [p.d,.ref a] st Q:=by
 refine i5 J.winner rfl [AA p.d,AA (.ref a)] rfl ?_;unfold W3;revert b h q;refine Pg.with_cases (motive:=λp l=>rdS st a (l.map Pg.d)->p.kids≠[]->Q (p.withKids l).d st->j7 (Zg P G n) W3.body (o0 Q) [AA p.d,AA (.ref a)] st) ?_ ?_ ?_ ?_ ?_ ?_ ?_ ?_ ?_ ?_ ?_ ?_ p l c
 ·intro k h b q;exact absurd rfl b
 ·intro h b q;exact absurd rfl b
 all_goals
  intros
  rename_i h b q;simp only[Pg.d,W3];∎;refine⟨by show G.tab "INNER_FROM"≠[];rw[J.tab];exact λz=>(by cases z),?_⟩;simp only[J.tab];refine⟨_,rfl,_,rfl,∅,?_⟩;rw[bd1 h];rfl';exact⟨B2 (BB (Nat.add_le_add_right ce8 _) (by simp only[AV,Ao,AW];decide)),c9 q⟩
def b17(p:Pg)(u:Nat)(k:2<=n)(q:∀a f,st a=AF->f a=AA (.lst ((p.kidsU u).map B4))->Kp [] st f->Q (.ref a) f):sem P G n "inner_under" [B4 (p,u)] st Q:=by
 obtain⟨n,rfl⟩:∃m,n=m+2:=⟨n-2,⋯⟩;refine i5 J.under rfl [AA (B4 (p,u)),AF] rfl ?_;unfold aj3 B4;(iterate 2 ∎);refine⟨by rw[J.inner];rfl,ay5 J.toPIn p λa ha=>?_⟩;rfl';refine⟨_,.inl f8,by rw[au9,AW];cases p<;>simp only[Pg.kids,AV,Ao]<;>decide,?_⟩;refine O7 (λl acc env' f=>f=b0 st a (.lst (p.kids.map Pg.d))/\∃(g e:List Pg)(x y:Option D),p.kids=g++e/\l=r6 g.length (e.map Pg.d)/\env'=[AA (.tup [p.d,.int u]),AA p.d,x,y]/\acc=(g.mapIdx λi c=>B4 (c,u+p.more i))) ?_ ?_ _ _ _ _ ⟨rfl,[],p.kids,AF,AF,rfl,rfl,rfl,rfl⟩
 ·rintro acc env' f ⟨rfl,g,e,x,y,ek,el,rfl,rfl⟩;refine⟨.inl f8,λb hb=>c9 (q b _ ?_ ?_ ((Kp.refl.new ha).new hb))⟩
  ·exact none_of (Kp.refl.new ha) hb
  ·cases e with
   |cons c e=>simp[r6]at el
   |nil=>
    rw[BZ]at ek;rw[f8,<-ek];unfold Pg.kidsU;exact congrArg (λl=>AA (Ob.lst l)) (EG λi=>by simp only[Ag,List.getElem?_mapIdx,Option.map_map];rfl)
 ·rintro d ds acc env' f ih ⟨rfl,g,e,x,y,ek,el,rfl,rfl⟩;refine⟨.inl f8,?_⟩;cases e with
  |nil=>simp[r6]at el
  |cons c e=>
   simp only[As,r6,Aq]at el;obtain⟨rfl,rfl⟩:=el;rfl';refine⟨by rw[J.more];rfl,am4 J.toPIn p g.length ?_⟩;rfl';refine ih _ _ _ ⟨rfl,g++[c],e,_,_,by rw[ek];simp,∎,rfl,?_⟩;rw[IX];simp[B4]
end
structure PKd(P:i8)(G:Gs):Prop extends PSh P G where
 lkd:P (f6 "Shelf" "laid_kind")=AA V9
 blt:P (f6 "Shelf" "built")=AA aj1
 ptb:P (f6 "Shelf" "put_by")=AA ai6
 tku:P (f6 "Shelf" "taken_up")=AA af0
 dfl:t4 G.cls (f6 "Shelf" "laid_kind")=AA 3
structure ShD(sh dn sa pa wa:AH):Prop where
 nd:[sh,dn,sa,pa].Nodup
 wd:wa∉[dn,sa,pa]
 ws:wa≠sh
@[reducible]noncomputable def shL(sh dn sa pa wa:AH):List AH:=[sh,dn,sa,pa,wa]
def N8{S:List It3}{t:D}(w:Wf S')(h:Has S t)(b:S <+: S'):nb S' t=nb S t:=by
 obtain⟨e,a,c⟩:=U3 h;obtain⟨l,rfl⟩:=b;exact ap9 w (by rw[Ac (AY.mp a).1];exact a) c
section
variable (T:PKd P G) {S:List It3} {wo:Ob}
include T
def an4{w:String}{inn:List D}(A:ShA sh dn sa pa wa S st)(c:ShD sh dn sa pa wa)(f:st wa=AA wo)(hi:∀d∈inn,Has S d)(h:inn.length<=1000)(o:S.length<900000)
  (q:∀b a,Has b (.tup (.str w::inn))->S <+: b->b.length<=S.length+1->ShA sh dn sa pa wa b a->a wa=AA wo->Kp (shL sh dn sa pa wa) st a->Q (.int (nb b (.tup (.str w::inn)):Nat)) a):sem P G (n+1) (f6 "Shelf" "numbered") [.ref sh,.tup [.str w],A8 (inn.map (nb S))] st Q:=by
 refine bp2 T.toPSh A c.nd (fr:=[.str w]) (inn:=inn) (ns:=inn.map (nb S)) at0 ∎ (λj m hm=>?_) ∎ (by simpa using h) ⋯ λm b a A' hp hl' hm K=>?_
 ·rw[Ag]at hm;cases e:inn[j]? with
  |none=>rw[e]at hm;cases hm
  |some d=>
   rw[e]at hm;cases hm;obtain⟨l,k,i⟩:=U3 (hi d (BS e));exact⟨l,k,by rw[i]⟩
 ·have g:=ap9 A'.wf hm (t:=.tup (.str w::inn)) rfl;rw[<-g];exact q b a ⟨m,_,hm,rfl⟩ hp hl' A' (K.at' f c.wd) (K.more ∎)
def W4{w:String}{a:Kd}(A:ShA sh dn sa pa wa S st)(j:ShD sh dn sa pa wa)(f:st wa=AA wo)(h:Has S a.d)(g:Has S b.d)(i:S.length<900000)
  (q:∀S' c,Has S' (.tup [.str w,a.d,b.d])->S <+: S'->S'.length<=S.length+1->ShA sh dn sa pa wa S' c->c wa=AA wo->Kp (shL sh dn sa pa wa) st c->Q (.int (nb S' (.tup [.str w,a.d,b.d]):Nat)) c):sem P G (n+2) (f6 "Shelf" "built") [.ref sh,.str w,.int (nb S a.d:Nat),.int (nb S b.d:Nat)] st Q:=by
 refine i5 T.blt rfl [AA (.ref sh),AA (.str w),AA (.int (nb S a.d:Nat)),AA (.int (nb S b.d:Nat))] rfl ?_;unfold aj1;∎;refine⟨sh,"Shelf",_,rfl,A.ins,rfl,by rw[T.numb];rfl,?_⟩;exact an4 T (inn:=[a.d,b.d]) A j f (by simp[h,g]) ∎ i λS' c h1 h2 h3 h4 h5 h6=>c9 (q S' c h1 h2 h3 h4 h5 h6)
abbrev LdQ(sh dn sa pa wa:AH)(S:List It3)(wo:Ob)(st:Sto)(k:Kd)(Q:DK):Prop:=∀S' st',Has S' k.d->S <+: S'->S'.length<=S.length+k.size->ShA sh dn sa pa wa S' st'->st' wa=AA wo->Kp (shL sh dn sa pa wa) st st'->Q (.int (nb S' k.d:Nat)) st'
abbrev LkS(P:i8)(G:Gs)(sh dn sa pa wa:AH)(wo:Ob)(k:Kd):Prop:=∀(deep:Nat){n:Nat}{st:Sto}{Q:DK}{S:List It3},deep+8<=n->k.nest<=deep->ShA sh dn sa pa wa S st->ShD sh dn sa pa wa->st wa=AA wo->S.length+k.size<=900000->LdQ sh dn sa pa wa S wo st k Q->sem P G n (f6 "Shelf" "laid_kind") [.ref sh,k.d,.int deep] st Q
def bg8{w:String}{k:Kd}(c:k.d=.tup [.str w])(b:k.size=1):LkS P G sh dn sa pa wa wo k:=by
 intro a n g Q S h _ A f e i q;unfold LdQ at q;rw[c,b]at q;rw[c];obtain⟨n,rfl⟩:∃m,n=m+2:=⟨n-2,⋯⟩;refine i5 T.lkd rfl [AA (.ref sh),AA (.tup [.str w]),AA (.int a)] rfl ?_;unfold V9;∎;rw[if_pos ∅];∎;refine⟨sh,"Shelf",_,rfl,A.ins,rfl,by rw[T.numb];rfl,?_⟩;exact an4 T (inn:=[]) A f e ∎ ∎ ⋯ λS' st' b h2 h3 h4 h5 h6=>c9 (q S' st' b h2 h3 h4 h5 h6)
def cm2{w:String}{k a:Kd}(h:k.d=.tup [.str w,a.d,b.d])(u:k.nest=1+max a.nest b.nest)(j:k.size=1+(a.size+b.size))(f:LkS P G sh dn sa pa wa wo a)(e:LkS P G sh dn sa pa wa wo b):LkS P G sh dn sa pa wa wo k:=by
 intro c n p Q S r s A g i t q;unfold LdQ at q;rw[h,j]at q;rw[h];obtain⟨n,rfl⟩:∃m,n=m+3:=⟨n-3,⋯⟩;refine i5 T.lkd rfl [AA (.ref sh),AA (.tup [.str w,a.d,b.d]),AA (.int c)] rfl ?_;unfold V9;∎;rw[if_neg ∅];∎;have l:¬(c:Int)=0:=by lia
 simp only[l,if_false];obtain⟨c,rfl⟩:∃m,c=m+1:=⟨c-1,⋯⟩;have o:((c+1:Nat):Int)-1=(c:Nat):=by lia
 ∎;refine⟨sh,"Shelf",_,rfl,A.ins,rfl,by rw[T.blt];rfl,sh,"Shelf",_,rfl,A.ins,rfl,by rw[T.lkd];rfl,?_⟩;rw[o];refine f c ⋯ ⋯ A g i ⋯ λS1 st1 a1 a2 a3 A1 a5 a6=>?_;rfl';refine⟨sh,"Shelf",_,rfl,A1.ins,rfl,by rw[T.lkd];rfl,?_⟩;refine e c ⋯ ⋯ A1 g a5 ⋯ λS2 st2 b1 b2 b3 A2 b5 b6=>?_;rfl';rw[<-N8 A2.wf a1 b2];exact W4 T A2 g b5 (a1.mono b2) b1 ⋯ λS3 st3 c1 c2 c3 c4 c5 c6=>c9 (q S3 st3 c1 ((a2.trans b2).trans c2) ⋯ c4 c5 ((a6.trans b6).trans c6))
def bw9(k:Kd):LkS P G sh dn sa pa wa wo k:=by
 induction k with
 |non=>exact bg8 T rfl rfl
 |one=>exact bg8 T rfl rfl
 |eith a b d c|both a b d c|way a b d c=>exact cm2 T rfl rfl (EJ _ _ _) d c
end
def U9{k:Kd}(h:k.nest<=3):k.size<=127:=by
 have:=bw1 k;have:2^(k.nest+1)<=2^4:=FQ ∅ ⋯;lia
abbrev A9(S:List It3)(w:Kd×Bool):D:=.tup [w.1.d,if w.2=AD then .int (nb S w.1.d:Nat)else .non]
structure KA(sh dn sa pa wa:AH)(S:List It3)(ws:List (Kd×Bool))(st:Sto):Prop where
 A:ShA sh dn sa pa wa S st
 D0:ShD sh dn sa pa wa
 W:st wa=AA (.lst (ws.map (A9 S)))
 H:∀w∈ws,w.2=AD->Has S w.1.d
 N:∀w∈ws,w.1.nest<=3
 L:ws.length<=2000
section
variable {S:List It3} 
def cf2(b:Wf S')(c:S <+: S'){w:Kd×Bool}(h:w.2=AD->Has S w.1.d):A9 S' w=A9 S w:=by
 unfold A9
 by_cases a:w.2=AD
 ·rw[if_pos a,if_pos a,N8 b (h a) c]
 ·rw[if_neg a,if_neg a]
def KA.up(k:KA sh dn sa pa wa S ws st)(b:ShA sh dn sa pa wa S' st')(a:S <+: S')(c:st' wa=AA (.lst (ws.map (A9 S)))):KA sh dn sa pa wa S' ws st':=
 ⟨b,k.D0,by rw[c];exact congrArg (λl=>AA (Ob.lst l)) (IN λw hm=>(cf2 b.wf a (k.H w hm)).symm),λw hm hb=>(k.H w hm hb).mono a,k.N,k.L⟩
theorem KA.keepL(k:KA sh dn sa pa wa S ws st)(K:Kp L st st')(h:∀x∈L,x∉shL sh dn sa pa wa):KA sh dn sa pa wa S ws st':=
 ⟨k.A.keepL K h,k.D0,K.at' k.W (λz=>h wa z ∎),k.H,k.N,k.L⟩
def KA.keep(k:KA sh dn sa pa wa S ws st)(K:Kp [] st st'):KA sh dn sa pa wa S ws st':=k.keepL K ∎
abbrev En(S:List It3)(ws:List (Kd×Bool))(e:Int)(k:Kd):Prop:=(e=(nb S k.d:Nat)/\Has S k.d)\/∃(j:Nat)(b:Bool),e=-((j:Int)+1)/\ws[j]?=AA (k,b)
abbrev WUp(ws ws':List (Kd×Bool)):Prop:=ws'.map (·.1)=ws.map (·.1)
def En.up{e:Int}{k:Kd}(h:En S ws e k)(d:Wf S')(c:S <+: S')(f:WUp ws ws'):En S' ws' e k:=by
 rcases h with⟨rfl,h⟩|⟨j,b,rfl,h⟩
 ·exact .inl ⟨by rw[N8 d h c],h.mono c⟩
 ·have a:(ws'.map (·.1))[j]?=AA k:=by rw[f,Ag,h];rfl
  rw[Ag]at a;cases e2:ws'[j]? with
  |none=>rw[e2]at a;cases a
  |some x=>
   rw[e2]at a;cases a;exact .inr ⟨j,x.2,rfl,e2⟩
structure KnOk(S:List It3)(ws:List (Kd×Bool))(Γ:List Kd)(kn:List Int):Prop where
 len:kn.length=Γ.length
 at':∀(m:Nat)k,Γ[m]?=AA k->∃e,kn.reverse[m]?=AA e/\En S ws e k
theorem KnOk.up{a:List Int}(h:KnOk S ws Γ a)(b:Wf S')(d:S <+: S')(c:WUp ws ws'):KnOk S' ws' Γ a:=
 ⟨h.len,λm k hk=>let⟨e,g,f⟩:=h.at' m k hk;⟨e,g,f.up b d c⟩⟩
def KnOk.cons{d:List Int}{k:Kd}{e:Int}(h:KnOk S ws Γ d)(f:En S ws e k):KnOk S ws (k::Γ) (d++[e]):=
 ⟨by simp[h.len],λm c hc=>by
  rw[IP];cases m with
  |zero=>cases hc;exact⟨e,rfl,f⟩
  |succ m=>exact h.at' m c hc⟩
abbrev Up(S:List It3)(ws:List (Kd×Bool))(S':List It3)(ws':List (Kd×Bool))(p:Pg):Prop:=S <+: S'/\S'.length<=S.length+256*p.parts/\WUp ws ws'
theorem WUp.trans{e d c:List (Kd×Bool)}(a:WUp e d)(b:WUp d c):WUp e c:=KM b a
end
section
variable (T:PKd P G) {S:List It3} 
include T
def U4{k:Kd}(f:11<=n)(c:k.nest<=3)(K:KA sh dn sa pa wa S ws st)(e:S.length+k.size<=900000)
  (q:∀S' a,Has S' k.d->S <+: S'->S'.length<=S.length+k.size->KA sh dn sa pa wa S' ws a->Kp (shL sh dn sa pa wa) st a->Q (.int (nb S' k.d:Nat)) a):sem P G n (f6 "Shelf" "laid_kind") [.ref sh,k.d,.int 3] st Q:=
 bw9 T k 3 ⋯ c K.A K.D0 K.W e λS' a h1 h2 h3 h4 h5 h6=>q S' a h1 h2 h3 (K.up h4 h2 h5) h6
def b19{k:Kd}(K:KA sh dn sa pa wa S ws st)(h:k.nest<=3)(l:ws.length<2000)(q:∀b,KA sh dn sa pa wa S (ws++[(k,AE)]) b->Kp [wa] st b->Q (.int (-((ws.length:Int)+1))) b):sem P G (n+1) (f6 "Shelf" "put_by") [.ref sh,k.d] st Q:=by
 refine i5 T.ptb rfl [AA (.ref sh),AA k.d] rfl ?_;unfold ai6;have c:(("waiting":Str))∈G.cls "Shelf":=by rw[T.cls];simp
 ∎;refine⟨sh,"Shelf",_,.ref wa,rfl,K.A.ins,c,rfl,?_⟩;rw[A6 (.inl K.W)];refine⟨trivial,?_⟩;rw[B7 K.W];refine⟨B3 (by simp only[AW];lia),?_⟩;have j:Kp [wa] st (b0 st wa (.lst (ws.map (A9 S)++[.tup [k.d,.non]]))):=Kp.refl.put ∎;have f:b0 st wa (.lst (ws.map (A9 S)++[.tup [k.d,.non]])) wa=AA (.lst ((ws++[(k,AE)]).map (A9 S))):=by rw[f8,Ah];rfl
 have g:ShA sh dn sa pa wa S (b0 st wa (.lst (ws.map (A9 S)++[.tup [k.d,.non]]))):=by
  have d:=K.D0;have w:=d.wd;simp only[AN,AZ,or_false,not_or]at w;exact⟨f7 K.A.ins (λz=>d.ws z.symm),f7 K.A.num (λz=>w.1 z.symm),f7 K.A.sto (λz=>w.2.1 z.symm),f7 K.A.par (λz=>w.2.2 z.symm),⟨_,f8⟩,K.A.wf,K.A.ml,K.A.fl⟩
 have i:KA sh dn sa pa wa S (ws++[(k,AE)]) (b0 st wa (.lst (ws.map (A9 S)++[.tup [k.d,.non]]))):=by
  refine⟨g,K.D0,f,λw a hb=>?_,λw a=>?_,by simp;lia⟩
  ·rcases BI.mp a with a|a
   ·exact K.H w a hb
   ·simp at a;subst a;cases hb
  ·rcases BI.mp a with a|a
   ·exact K.N w a
   ·simp at a;subst a;exact h
 ∎;refine⟨sh,"Shelf",_,.ref wa,rfl,g.ins,c,rfl,?_⟩;rw[r8 (.inl f)];rfl';have e:-(((ws++[(k,AE)]).map (A9 S)).length:Int)=-((ws.length:Int)+1):=by simp
 rw[e];exact c9 (q _ i j)
def br7{k:Kd}{e:Int}(C:12<=n)(K:KA sh dn sa pa wa S ws st)(h:En S ws e k)(D:S.length+128<=900000)
  (q:∀S' g a,Has S' k.d->S <+: S'->S'.length<=S.length+128->KA sh dn sa pa wa S' g a->WUp ws g->Kp (shL sh dn sa pa wa) st a->Q (.int (nb S' k.d:Nat)) a):sem P G n (f6 "Shelf" "taken_up") [.ref sh,.int e] st Q:=by
 obtain⟨n,rfl⟩:∃m,n=m+1:=⟨n-1,⋯⟩;refine i5 T.tku rfl [AA (.ref sh),AA (.int e),AF] rfl ?_;unfold af0;have r:(("waiting":Str))∈G.cls "Shelf":=by rw[T.cls];simp
 ∎
 rcases h with⟨rfl,h⟩|⟨j,b,rfl,h⟩
 ·rw[if_pos ⋯];∎;exact c9 (q S ws st h (Cz _) ⋯ K rfl Kp.refl)
 rw[if_neg ⋯];∎;refine⟨sh,"Shelf",_,.ref wa,rfl,K.A.ins,r,rfl,?_⟩;have s:(-1:Int) - -((j:Int)+1)=(j:Nat):=by lia
 rw[s,l7 (.inl K.W)];refine⟨A9 S (k,b),by rw[v6,Ag,h];rfl,?_⟩;have l:=K.N _ (BS h);have t:=(AY.mp h).1;cases b with
 |true=>
  have p:A9 S (k,AD)=.tup [k.d,.int (nb S k.d:Nat)]:=rfl;have v:=K.H _ (BS h) rfl;rw[p];∎;refine .inr ⟨nofun,?_⟩;rfl';∎;exact c9 (q S ws st v (Cz _) ⋯ K rfl Kp.refl)
 |false=>
  have p:A9 S (k,AE)=.tup [k.d,.non]:=rfl;rw[p];∎;refine .inl ?_;∎;refine⟨sh,"Shelf",_,3,rfl,K.A.ins,rfl,by rw[T.lkd];rfl,T.dfl,?_⟩;have B:k.size<=127:=U9 (k:=k) l;refine U4 T ⋯ l K ⋯ λS' a h1 h2 h3 K' K2=>?_;rfl';∎;refine⟨sh,"Shelf",_,.ref wa,rfl,K'.A.ins,r,rfl,?_⟩;rw[s];refine⟨wa,(j:Nat),j,_,rfl,rfl,K'.W,?_,?_⟩
  ·unfold ixN;rw[if_pos ⋯,if_pos (by simp;lia)];simp
  have i:wa∉[dn,sa,pa]/\wa≠sh:=⟨K.D0.wd,K.D0.ws⟩;simp only[AN,AZ,or_false,not_or]at i;have y:∀o,ShA sh dn sa pa wa S' (b0 a wa o):=λo=>⟨f7 K'.A.ins (λz=>i.2 z.symm),f7 K'.A.num (λz=>i.1.1 z.symm),f7 K'.A.sto (λz=>i.1.2.1 z.symm),f7 K'.A.par (λz=>i.1.2.2 z.symm),⟨_,f8⟩,K'.A.wf,K'.A.ml,K'.A.fl⟩;have x:(ws.map (A9 S')).set j (.tup [k.d,.int (nb S' k.d:Nat)])=(ws.set j (k,AD)).map (A9 S'):=by rw[KN];rfl
  rw[x];∎;refine c9 (q S' (ws.set j (k,AD)) _ h1 h2 ⋯ ⟨y _,K.D0,f8,λw f hb=>?_,λw f=>?_,by simpa using K.L⟩ ?_ (K2.put ∎))
  ·rcases HJ f with f|rfl
   ·exact K'.H w f hb
   ·exact h1
  ·rcases HJ f with f|rfl
   ·exact K.N w f
   ·exact l
  ·unfold WUp;rw[KN];refine EG λi=>?_;rw[Fv]
   split
   ·rename_i u;subst u;rw[Ag,h,if_pos (by simpa using t)];rfl
   ·rfl
end
abbrev Pg.kk(Γ:List Kd):Pg->List Kd->Option Kd
 |.name n,[]=>Γ[n]?
 |.star,[]=>AA .one
 |.pair _ _,[a,b]=>AA (.both a b)
 |.first _,[.both a _]=>AA a
 |.second _,[.both _ b]=>AA b
 |.left b _,[a]=>AA (.eith a b)
 |.right a _,[b]=>AA (.eith a b)
 |.case _ _ _,[.eith _ _,k,l]=>if k=l then AA k else AF
 |.way a _,[b]=>AA (.way a b)
 |.give _ _,[.way a b,c]=>if a=c then AA b else AF
 |.lets _ _,[_,k]=>AA k
 |.never k _,[.non]=>AA k
 |_,_=>AF
abbrev Pg.nw:Pg->List Kd->Nat->Option Kd
 |.way a _,_,_=>AA a
 |.lets _ _,ks,_=>ks.head?
 |.case _ _ _,.eith a b::_,i=>AA (if i=1 then a else b)
 |_,_,_=>AF
abbrev Cxt(p:Pg)(ks:List Kd)(i:Nat)(Γ Δ:List Kd):Prop:=(p.more i=0/\Δ=Γ)\/(p.more i=1/\∃a,p.nw ks i=AA a/\Δ=a::Γ)
def Pg.kind_inv{k:Kd}(h:p.kind Γ=AA k):∃e:List Kd,e.length=p.kids.length/\p.kk Γ e=AA k/\∀(i:Nat)c,p.kids[i]?=AA c->∃a f,e[i]?=AA a/\Cxt p (e.take i) i Γ f/\c.kind f=AA a:=by
 cases Q2 h
 case name=>exact⟨[],rfl,h,λi c d=>nomatch d⟩
 case star=>exact⟨[],rfl,h,λi c d=>nomatch d⟩
 case first t b h1=>exact⟨[.both k b],rfl,rfl,λi c d=>match i,d with
  |0,d=>by cases d;exact⟨_,Γ,rfl,.inl ⟨rfl,rfl⟩,h1.kind⟩
  |i+1,d=>nomatch d⟩
 case second t a h1=>exact⟨[.both a k],rfl,rfl,λi c d=>match i,d with
  |0,d=>by cases d;exact⟨_,Γ,rfl,.inl ⟨rfl,rfl⟩,h1.kind⟩
  |i+1,d=>nomatch d⟩
 case left t a b h1=>exact⟨[a],rfl,rfl,λi c d=>match i,d with
  |0,d=>by cases d;exact⟨_,Γ,rfl,.inl ⟨rfl,rfl⟩,h1.kind⟩
  |i+1,d=>nomatch d⟩
 case right t a b h1=>exact⟨[b],rfl,rfl,λi c d=>match i,d with
  |0,d=>by cases d;exact⟨_,Γ,rfl,.inl ⟨rfl,rfl⟩,h1.kind⟩
  |i+1,d=>nomatch d⟩
 case never t h1=>exact⟨[.non],rfl,rfl,λi c d=>match i,d with
  |0,d=>by cases d;exact⟨_,Γ,rfl,.inl ⟨rfl,rfl⟩,h1.kind⟩
  |i+1,d=>nomatch d⟩
 case way t a b h1=>exact⟨[b],rfl,rfl,λi c d=>match i,d with
  |0,d=>by cases d;exact⟨_,a::Γ,rfl,.inr ⟨rfl,a,rfl,rfl⟩,h1.kind⟩
  |i+1,d=>nomatch d⟩
 case pair t u a b h1 h2=>exact⟨[a,b],rfl,rfl,λi c d=>match i,d with
  |0,d=>by cases d;exact⟨_,Γ,rfl,.inl ⟨rfl,rfl⟩,h1.kind⟩
  |1,d=>by cases d;exact⟨_,Γ,rfl,.inl ⟨rfl,rfl⟩,h2.kind⟩
  |i+2,d=>nomatch d⟩
 case give t u a h2 h1=>exact⟨[.way a k,a],rfl,if_pos rfl,λi c d=>match i,d with
  |0,d=>by cases d;exact⟨_,Γ,rfl,.inl ⟨rfl,rfl⟩,h1.kind⟩
  |1,d=>by cases d;exact⟨_,Γ,rfl,.inl ⟨rfl,rfl⟩,h2.kind⟩
  |i+2,d=>nomatch d⟩
 case lets t u a h1 h2=>exact⟨[a,k],rfl,rfl,λi c d=>match i,d with
  |0,d=>by cases d;exact⟨_,Γ,rfl,.inl ⟨rfl,rfl⟩,h1.kind⟩
  |1,d=>by cases d;exact⟨_,a::Γ,rfl,.inr ⟨rfl,a,rfl,rfl⟩,h2.kind⟩
  |i+2,d=>nomatch d⟩
 case case t u v a b h1 h2 h3=>exact⟨[.eith a b,k,k],rfl,if_pos rfl,λi c d=>match i,d with
  |0,d=>by cases d;exact⟨_,Γ,rfl,.inl ⟨rfl,rfl⟩,h1.kind⟩
  |1,d=>by cases d;exact⟨_,a::Γ,rfl,.inr ⟨rfl,a,rfl,rfl⟩,h2.kind⟩
  |2,d=>by cases d;exact⟨_,b::Γ,rfl,.inr ⟨rfl,b,rfl,rfl⟩,h3.kind⟩
  |i+3,d=>nomatch d⟩
abbrev cz9:List (Str×D):=[("name",.fn "kind_of_name"),("star",.fn "kind_of_star"),("pair",.fn "kind_of_pair"),("first",.fn "kind_of_first"),("second",.fn "kind_of_second"),("left",.fn "kind_of_left"),("right",.fn "kind_of_right"),("case",.fn "kind_of_case"),("way",.fn "kind_of_way"),("give",.fn "kind_of_give"),("let",.fn "kind_of_let"),("never",.fn "kind_of_never")]
structure PKo(P:i8)(G:Gs):Prop extends PKd P G,PIn P G where
 kbp:P "kind_by_parts"=AA ag5
 nnm:P "new_name"=AA ak2
 hvs:P "halves_of"=AA aj9
 k0:P "kind_of_name"=AA ah4
 k1:P "kind_of_star"=AA ah8
 k2:P "kind_of_pair"=AA ah5
 k3:P "kind_of_first"=AA ag7
 k4:P "kind_of_second"=AA af3
 k5:P "kind_of_left"=AA ah1
 k6:P "kind_of_right"=AA ag1
 k7:P "kind_of_case"=AA ai5
 k8:P "kind_of_way"=AA ai9
 k9:P "kind_of_give"=AA ah2
 k10:P "kind_of_let"=AA aj0
 k11:P "kind_of_never"=AA ag0
 tbw:G.tab "BY_WORD"=cz9
abbrev v0(S:List It3)(ks:List Kd):List D:=ks.map λk=>.int (nb S k.d:Nat)
section
variable (T:PKo P G) {S:List It3} 
include T
def aa8{w:String}{k a:Kd}(f:k.d=.tup [.str w,a.d,b.d])(K:KA sh dn sa pa wa S ws st)(h:Has S k.d)(q:Has S a.d->Has S b.d->Q (.tup [.int (nb S a.d:Nat),.int (nb S b.d:Nat)]) st):sem P G (n+2) "halves_of" [.str w,.int (nb S k.d:Nat),.ref sh] st Q:=by
 refine i5 T.hvs rfl [AA (.str w),AA (.int (nb S k.d:Nat)),AA (.ref sh)] rfl ?_;unfold aj9;rw[f]at h ⊢;have c:∀d∈[a.d,b.d],∃l,d=.tup l:=λd hd=>by simp at hd;rcases hd with rfl|rfl<;>exact cr2 _
 obtain⟨e,_⟩:=bh2 K.A.wf (fr:=[.str w]) (inn:=[a.d,b.d]) h at0 c;∎;refine⟨sh,"Shelf",_,rfl,K.A.ins,rfl,by rw[T.word];rfl,bb8 T.toPSh K.A h ?_⟩;rw[X9];rfl';∎;refine⟨sh,"Shelf",_,rfl,K.A.ins,rfl,by rw[T.wthn];rfl,bt2 T.toPSh K.A (fr:=[.str w]) (inn:=[a.d,b.d]) h at0 c ?_⟩;exact c9 (q (e _ ∎) (e _ ∎))
end
abbrev Pg.told(m:Nat):Pg->Prop
 |.left b _=>b.nest<=m
 |.right b _=>b.nest<=m
 |.way b _=>b.nest<=m
 |.never b _=>b.nest<=m
 |_=>True
def Pg.told_kn(h:p.kn m):p.told m:=by cases p<;>first|trivial|exact h.1
abbrev StQ(sh dn sa pa wa:AH)(S:List It3)(ws:List (Kd×Bool))(st:Sto)(k:Kd)(Q:DK):Prop:=∀S' ws' st',Has S' k.d->S <+: S'->S'.length<=S.length+128->KA sh dn sa pa wa S' ws' st'->WUp ws ws'->Kp (shL sh dn sa pa wa) st st'->Q (.int (nb S' k.d:Nat)) st'
section
variable (T:PKo P G) {S:List It3} 
include T
def bp9{a:Kd}(C:14<=n)(K:KA sh dn sa pa wa S ws st)(l:p.told 3)(h:p.more i=1)(c:p.nw ks i=AA a)(r:st ca=AA (.lst (v0 S ks)))(o:∀k∈ks,Has S k.d)(D:S.length+128<=900000)
  (q:StQ sh dn sa pa wa S ws st a Q):sem P G n "new_name" [p.d,.ref ca,.int i,.ref sh] st Q:=by
 obtain⟨n,rfl⟩:∃m,n=m+3:=⟨n-3,⋯⟩;refine i5 T.nnm rfl [AA p.d,AA (.ref ca),AA (.int i),AA (.ref sh)] rfl ?_;unfold ak2;cases p<;>first|(cases c;done)|skip
 case case t u v=>
  cases ks with
  |nil=>cases c
  |cons j ks=>
   cases j<;>first|(cases c;done)|skip
   rename_i x y;simp only[Pg.d];(iterate 3 ∎);refine⟨by rw[T.hvs];rfl,?_⟩;rw[l7 (.inl r)];refine⟨.int (nb S (Kd.eith x y).d:Nat),by rw[as3];rfl,?_⟩;refine aa8 T (w:="either") (k:=.eith x y) rfl K (o _ ∎) λh1 h2=>?_;rfl';simp only[Pg.more]at h;have z:i=1\/i=2:=by
    split at h
    ·assumption
    ·cases h
   rcases z with rfl|rfl
   ·cases c;exact⟨_,rfl,c9 (q S ws st h1 (Cz _) ⋯ K rfl Kp.refl)⟩
   ·cases c;exact⟨_,rfl,c9 (q S ws st h2 (Cz _) ⋯ K rfl Kp.refl)⟩
 case way b t=>
  cases c;simp only[Pg.d];(iterate 2 ∎);refine⟨sh,"Shelf",_,3,rfl,K.A.ins,rfl,by rw[T.lkd];rfl,T.dfl,?_⟩;have B:=U9 l;have s:a.nest<=3:=l;exact U4 T.toPKd ⋯ ⋯ K ⋯ λS' st' h1 h2 h3 h4 h5=>c9 (q S' ws st' h1 h2 ⋯ h4 rfl h5)
 case lets t u=>
  cases ks with
  |nil=>cases c
  |cons j ks=>
   cases c;simp only[Pg.d];(iterate 3 ∎);rw[l7 (.inl r)];exact⟨.int (nb S a.d:Nat),by rw[as3];rfl,c9 (q S ws st (o _ ∎) (Cz _) ⋯ K rfl Kp.refl)⟩
def cl9{k:Kd}{C:List Int}(N:16<=n)(K:KA sh dn sa pa wa S ws st)(E:p.told 3)(f:p.kk Γ ks=AA k)(l:st ca=AA (.lst (v0 S ks)))(j:∀k∈ks,Has S k.d)(o:st ka=AA (.lst (C.map D.int)))(x:KnOk S ws Γ C)(y:ca∉shL sh dn sa pa wa)(U:S.length+128<=900000)
  (q:StQ sh dn sa pa wa S ws st k Q):sem P G n "kind_by_parts" [p.d,.ref ca,.ref ka,.ref sh] st Q:=by
 obtain⟨n,rfl⟩:∃m,n=m+5:=⟨n-5,⋯⟩;have L:(Zg P G (n+4)).G "BY_WORD"≠[]:=by show G.tab "BY_WORD"≠[];rw[T.tbw];exact λz=>by cases z
 have g:∀{k:Kd},StQ sh dn sa pa wa S ws st k Q->Has S k.d->Q (.int (nb S k.d:Nat)) st:=λq h=>q S ws st h (Cz _) ⋯ K rfl Kp.refl;refine i5 T.kbp rfl [AA p.d,AA (.ref ca),AA (.ref ka),AA (.ref sh)] rfl ?_;unfold ag5;cases p<;>simp only[Pg.d]
 all_goals
  ∎;refine⟨L,?_⟩;simp only[T.tbw];refine⟨_,rfl,?_⟩
 case name m=>
  cases ks with
  |cons _ _=>cases f
  |nil=>
   refine⟨_,rfl,by rw[T.k0];rfl,?_⟩;refine i5 T.k0 rfl [AA (.tup [.str "name",.int m]),AA (.ref ca),AA (.ref ka),AA (.ref sh),AF] rfl ?_;unfold ah4;have f:Γ[m]?=AA k:=f;have O:=(AY.mp f).1;obtain⟨e,J,I⟩:=x.at' m k f;have R:=x.len;(iterate 2 ∎);rw[r8 (.inl o)];rfl';rw[if_neg ⋯,if_neg (by simp only[AW];lia)];∎;refine⟨sh,"Shelf",_,rfl,K.A.ins,rfl,by rw[T.tku];rfl,?_⟩;rw[r8 (.inl o)];rfl';rw[l7 (.inl o)];have M:(((C.map D.int).length:Nat):Int)-1-(m:Int)=((C.length-1-m:Nat):Int):=by rw[AW];lia
   rw[M];refine⟨.int e,by rw[v6,Ag];rw[Er ⋯]at J;rw[J];rfl,?_⟩;exact br7 T.toPKd ⋯ K I ⋯ λS' ws' st' h1 h2 h3 h4 h5 h6=>c9 (c9 (q S' ws' st' h1 h2 ⋯ h4 h5 h6))
 case star=>
  cases ks with
  |cons _ _=>cases f
  |nil=>
   cases f;refine⟨_,rfl,by rw[T.k1];rfl,?_⟩;refine i5 T.k1 rfl [AA (.tup [.str "star"]),AA (.ref ca),AA (.ref ka),AA (.ref sh)] rfl ?_;unfold ah8;∎;refine⟨sh,"Shelf",_,rfl,K.A.ins,rfl,by rw[T.numb];rfl,?_⟩;exact an4 T.toPKd (w:="one") (inn:=[]) K.A K.D0 K.W ∎ ∎ ⋯ λS' st' h1 h2 h3 h4 h5 h6=>c9 (c9 (q S' ws st' h1 h2 ⋯ (K.up h4 h2 h5) rfl h6))
 case pair t u=>
  match ks,f with
  |[a,b],f=>
   cases f;refine⟨_,rfl,by rw[T.k2];rfl,?_⟩;refine i5 T.k2 rfl [AA (.tup [.str "pair",t.d,u.d]),AA (.ref ca),AA (.ref ka),AA (.ref sh)] rfl ?_;unfold ah5;∎;refine⟨sh,"Shelf",_,rfl,K.A.ins,rfl,by rw[T.blt];rfl,?_⟩;rw[l7 (.inl l)];refine⟨_,rfl,?_⟩;rw[l7 (.inl l)];refine⟨_,rfl,?_⟩;exact W4 T.toPKd (w:="both") K.A K.D0 K.W (j _ ∎) (j _ ∎) ⋯ λS' st' h1 h2 h3 h4 h5 h6=>c9 (c9 (q S' ws st' h1 h2 ⋯ (K.up h4 h2 h5) rfl h6))
 case first t=>
  match ks,f with
  |[.both a b],f=>
   cases f;refine⟨_,rfl,by rw[T.k3];rfl,?_⟩;refine i5 T.k3 rfl [AA (.tup [.str "first",t.d]),AA (.ref ca),AA (.ref ka),AA (.ref sh)] rfl ?_;unfold ag7;∎;refine⟨by rw[T.hvs];rfl,?_⟩;rw[l7 (.inl l)];refine⟨_,rfl,aa8 T (w:="both") (k:=.both k b) rfl K (j _ ∎) λh1 h2=>?_⟩;rfl';exact c9 (c9 (g q h1))
 case second t=>
  match ks,f with
  |[.both a b],f=>
   cases f;refine⟨_,rfl,by rw[T.k4];rfl,?_⟩;refine i5 T.k4 rfl [AA (.tup [.str "second",t.d]),AA (.ref ca),AA (.ref ka),AA (.ref sh)] rfl ?_;unfold af3;∎;refine⟨by rw[T.hvs];rfl,?_⟩;rw[l7 (.inl l)];refine⟨_,rfl,aa8 T (w:="both") (k:=.both a k) rfl K (j _ ∎) λh1 h2=>?_⟩;rfl';exact c9 (c9 (g q h2))
 case case t u v=>
  match ks,f with
  |[.eith a b,c,d],f=>
   have f:(if c=d then AA c else AF)=AA k:=f
   split at f
   ·rename_i s;cases f;subst s;refine⟨_,rfl,by rw[T.k7];rfl,?_⟩;refine i5 T.k7 rfl [AA (.tup [.str "case",t.d,u.d,v.d]),AA (.ref ca),AA (.ref ka),AA (.ref sh)] rfl ?_;unfold ai5;∎;rw[l7 (.inl l)];refine⟨_,rfl,?_⟩;rw[l7 (.inl l)];refine⟨_,rfl,?_⟩;rw[aq3];rfl';∎;rw[l7 (.inl l)];exact⟨_,rfl,c9 (c9 (g q (j _ ∎)))⟩
   ·cases f
 case lets t u=>
  match ks,f with
  |[a,c],f=>
   cases f;refine⟨_,rfl,by rw[T.k10];rfl,?_⟩;refine i5 T.k10 rfl [AA (.tup [.str "let",t.d,u.d]),AA (.ref ca),AA (.ref ka),AA (.ref sh)] rfl ?_;unfold aj0;∎;rw[l7 (.inl l)];exact⟨_,rfl,c9 (c9 (g q (j _ ∎)))⟩
 case give t u=>
  match ks,f with
  |[.way a b,c],f=>
   have f:(if a=c then AA b else AF)=AA k:=f
   split at f
   ·rename_i s;cases f;subst s;refine⟨_,rfl,by rw[T.k9];rfl,?_⟩;refine i5 T.k9 rfl [AA (.tup [.str "give",t.d,u.d]),AA (.ref ca),AA (.ref ka),AA (.ref sh),AF] rfl ?_;unfold ah2;∎;refine⟨by rw[T.hvs];rfl,?_⟩;rw[l7 (.inl l)];refine⟨_,rfl,aa8 T (w:="way") (k:=.way a k) rfl K (j _ ∎) λh1 h2=>?_⟩;∎;rw[l7 (.inl l)];refine⟨_,rfl,?_⟩;rw[aq3];rfl';∎;exact c9 (c9 (g q h2))
   ·cases f
 case left b t=>
  match ks,f with
  |[a],f=>
   cases f;have i:b.nest<=3:=E;have H:=U9 i;refine⟨_,rfl,by rw[T.k5];rfl,?_⟩;refine i5 T.k5 rfl [AA (.tup [.str "left",b.d,t.d]),AA (.ref ca),AA (.ref ka),AA (.ref sh)] rfl ?_;unfold ah1;∎;refine⟨sh,"Shelf",_,rfl,K.A.ins,rfl,by rw[T.blt];rfl,?_⟩;rw[l7 (.inl l)];refine⟨_,rfl,sh,"Shelf",_,3,rfl,K.A.ins,rfl,by rw[T.lkd];rfl,T.dfl,?_⟩;refine U4 T.toPKd ⋯ ⋯ K ⋯ λS1 st1 a1 a2 a3 K1 a5=>?_;rfl';rw[<-N8 K1.A.wf (j a ∎) a2];exact W4 T.toPKd (w:="either") K1.A K1.D0 K1.W ((j _ ∎).mono a2) a1 ⋯ λS' st' h1 h2 h3 h4 h5 h6=>c9 (c9 (q S' ws st' h1 (a2.trans h2) ⋯ (K1.up h4 h2 h5) rfl (a5.trans h6)))
 case right b t=>
  match ks,f with
  |[a],f=>
   cases f;have i:b.nest<=3:=E;have H:=U9 i;refine⟨_,rfl,by rw[T.k6];rfl,?_⟩;refine i5 T.k6 rfl [AA (.tup [.str "right",b.d,t.d]),AA (.ref ca),AA (.ref ka),AA (.ref sh)] rfl ?_;unfold ag1;∎;refine⟨sh,"Shelf",_,rfl,K.A.ins,rfl,by rw[T.blt];rfl,sh,"Shelf",_,3,rfl,K.A.ins,rfl,by rw[T.lkd];rfl,T.dfl,?_⟩;refine U4 T.toPKd ⋯ ⋯ K ⋯ λS1 st1 a1 a2 a3 K1 a5=>?_;rfl';rw[l7 (.inl (a5.at' l y))];refine⟨.int (nb S a.d:Nat),rfl,?_⟩;rw[<-N8 K1.A.wf (j a ∎) a2];exact W4 T.toPKd (w:="either") K1.A K1.D0 K1.W a1 ((j _ ∎).mono a2) ⋯ λS' st' h1 h2 h3 h4 h5 h6=>c9 (c9 (q S' ws st' h1 (a2.trans h2) ⋯ (K1.up h4 h2 h5) rfl (a5.trans h6)))
 case way b t=>
  match ks,f with
  |[a],f=>
   cases f;have i:b.nest<=3:=E;have H:=U9 i;refine⟨_,rfl,by rw[T.k8];rfl,?_⟩;refine i5 T.k8 rfl [AA (.tup [.str "way",b.d,t.d]),AA (.ref ca),AA (.ref ka),AA (.ref sh)] rfl ?_;unfold ai9;∎;refine⟨sh,"Shelf",_,rfl,K.A.ins,rfl,by rw[T.blt];rfl,sh,"Shelf",_,3,rfl,K.A.ins,rfl,by rw[T.lkd];rfl,T.dfl,?_⟩;refine U4 T.toPKd ⋯ ⋯ K ⋯ λS1 st1 a1 a2 a3 K1 a5=>?_;rfl';rw[l7 (.inl (a5.at' l y))];refine⟨.int (nb S a.d:Nat),rfl,?_⟩;rw[<-N8 K1.A.wf (j a ∎) a2];exact W4 T.toPKd (w:="way") K1.A K1.D0 K1.W a1 ((j _ ∎).mono a2) ⋯ λS' st' h1 h2 h3 h4 h5 h6=>c9 (c9 (q S' ws st' h1 (a2.trans h2) ⋯ (K1.up h4 h2 h5) rfl (a5.trans h6)))
 case never b t=>
  match ks,f with
  |[.non],f=>
   cases f;have i:k.nest<=3:=E;have H:=U9 i;refine⟨_,rfl,by rw[T.k11];rfl,?_⟩;refine i5 T.k11 rfl [AA (.tup [.str "never",k.d,t.d]),AA (.ref ca),AA (.ref ka),AA (.ref sh)] rfl ?_;unfold ag0;∎;refine⟨sh,"Shelf",_,rfl,K.A.ins,rfl,by rw[T.word];rfl,?_⟩;rw[l7 (.inl l)];refine⟨.int (nb S (D.tup [.str "none"]):Nat),rfl,bb8 T.toPSh K.A (d:=.str "none") (r:=[]) (j .non ∎) ?_⟩;rw[X9];rfl';∎;refine⟨sh,"Shelf",_,3,rfl,K.A.ins,rfl,by rw[T.lkd];rfl,T.dfl,?_⟩;exact U4 T.toPKd ⋯ ⋯ K ⋯ λS' st' h1 h2 h3 h4 h5=>c9 (c9 (q S' ws st' h1 h2 ⋯ h4 rfl h5))
end
def aq5{f:Str}(h:sem P G n f ds st Q):(w8 P G (n+1)).2.1 f ds st Q:=h
section
variable (T0:PM P G) {T:Type} {enc:T->D} {subs:T->List T} {size:T->Nat} {Di:T->Prop}
include T0
def cg8{L:List AH}(hsz:∀t,size t=1+((subs t).map size).sum)(B:∀t,Di t->∀c∈subs t,Di c){F:D}(H:Cok P F)(C:Cok P M)(t:T)(x:size t<=2000)(s:Di t)(E:∀a∈L,∃o,st a=AA o){Y:AH->List T->List D->Sto->Prop}(v:∀{dn S m l},Y dn S m l->∀a∈L,∃o,l a=AA o)
  (w:∀dn st',st dn=AF->Kp [] st st'->Y dn [] [] st') (u:∀{dn S m l g},st dn=AF->Y dn S m l->Kp [dn] l g->Y dn S m g)
  (y:∀c st' Q,Di c->Kp [] st st'->(∀d g,ac8 st' g d ((subs c).map enc)->Kp [] st' g->Q d g)->D5 P G n F [enc c] st' Q)
  (A:∀c dn p st' Q S m r,Di c->Kp L st st'->st dn=AF->p∉L->p≠dn->st p=AF->st' p=AA (.lst r)->r.length=(subs c).length->m.length=S.length->Y dn (S++subs c) (m++r) st'->st' dn=AA (.lst m)->(S.map size).sum+size c<=size t->(∀d g,Y dn (S++[c]) (m++[d]) g->KpN L st' g->Kp L st g->Q d g)->D5 P G (n+1) M [enc c,.ref p] st' Q)
  (q:∀dn d st',st dn=AF->Y dn [t] [d] st'->Kp L st st'->Q d st'):sem P G (n+2) "made_of_parts" [enc t,F,M] st Q:=
 a87 T0 (J:=λst'=>Kp [] st st') (L:=L) (λa h0 _ K b o nb e=>K b o (by simp;exact λz=>by rw[z,h0]at e;cases e) (a b o nb e)) Kp.refl (λK a h=>(E a h).elim λo e=>⟨o,K a o ∎ e⟩) hsz B H C t x s (Y:=Y) v (λdn st' h j _=>w dn st' h j) u (λc st' Q gc j K k=>y c st' Q gc j λd g h K2=>k d g h (j.trans K2) (K2.more ∎)) A q
end
abbrev ndF(p:Pg)(la:AH)(x h w:Int)(kd:D):List (Str×D):=[(("program":Str),p.d),(("inside":Str),.ref la),(("number":Str),.int x),(("holders":Str),.int h),(("ways":Str),.int w),(("used":Str),.non),(("kind":Str),kd)]
abbrev ndO(p:Pg)(la:AH)(x h w:Int)(kd:D):Ob:=.ins "Node" (ndF p la x h w kd)
abbrev C7(d:D):Prop:=d=.non\/∃j:Int,d=.int j
inductive Nd(st0:Sto)(X:List AH)(st:Sto):Int->Pg->AH->List AH->Prop where
 |mk {h:Int} {p:Pg} {a la:AH} {x w:Int} {kd:D} {as:List AH} {fs:List (List AH)}:st a=AA (ndO p la x h w kd)->C7 kd->st la=AA (.lst (as.map D.ref))->la∉X->st0 la=AF->st0 a=AF->as.length=p.kids.length->fs.length=p.kids.length->(∀(i:Nat)c b f,p.kids[i]?=AA c->as[i]?=AA b->fs[i]?=AA f->Nd st0 X st 1 c b f)->Nd st0 X st h p a (a::fs.flatten)
section
variable {st0:Sto} {f:List AH}
def Nd.stay(n:Nd st0 X st h p a f)(hi:∀b∈f,∀o,st b=AA o->st' b=AA o)(j:KpN X st st'):Nd st0 X st' h p a f:=by
 induction n with
 |@mk h p a e x w u y v t s r d q m l k _ g=>
  refine .mk (hi a ∎ _ t) s (j e _ d (λ_ _ z=>by cases z) r) d q m l k λi c b f e1 e2 e3=>g i c b f e1 e2 e3 λb' hb o ho=>hi b' (Ar _ ?_) o ho;exact CQ.mpr ⟨f,BS e3,hb⟩
theorem Nd.ins(n:Nd st0 X st h p a f):∀b∈f,∃l,st b=AA (.ins "Node" l):=by
 induction n with
 |@mk h p a o x w q m k j A z y v u t s r d=>
  intro b c
  rcases AN.mp c with rfl|c
  ·exact⟨_,j⟩
  ·obtain⟨f,g,c⟩:=CQ.mp c;obtain⟨i,e,rfl⟩:=FE.mp g;exact d i p.kids[i] m[i] k[i] (AJ ⋯) (AJ ⋯) (AJ e) b c
def Nd.root(n:Nd st0 X st h p a f):∃c x w b,st a=AA (ndO p c x h w b)/\C7 b/\a∈f/\st0 a=AF:=by
 cases n with
 |mk g e q o m d l k j=>exact⟨_,_,_,_,g,e,∎,d⟩
def Nd.upd(n:Nd st0 X st h p a f)(m:f.Nodup){x w kd}(j:st a=AA (ndO p la x h w kd))(s:C7 kd'):Nd st0 X (b0 st a (ndO p la x h' w' kd')) h' p a f:=by
 cases n with
 |@mk _ _ _ q C E r H G l F k B A y v u g=>
  rw[j]at l;simp only[ndO,ndF,CA,Ob.ins.injEq,Aq,JF,D.ref.injEq,D.int.injEq,true_and,and_true]at l;obtain⟨rfl,rfl,rfl,rfl⟩:=l;have d:la≠a:=λz=>by rw[z,j]at k;cases k
  have t:KpN X st (b0 st a (ndO p la x h' w' kd')):=λb o _ ho e=>f7 e (λz=>by rw[z,j]at e;cases e;exact ho _ _ rfl);refine .mk f8 s (f7 k d) B A y v u λi c b f e1 e2 e3=>(g i c b f e1 e2 e3).stay (λb' hb o ho=>f7 ho (λz=>?_)) t;subst z;exact(BP.mp m).1 (CQ.mpr ⟨f,BS e3,hb⟩)
end
structure PNo(P:i8)(G:Gs):Prop extends PKo P G where
 nin:P (f6 "Node" "__init__")=AA ag4
 ncl:G.cls "Node"=[("program":Str),("inside":Str),("number":Str),("holders":Str),("ways":Str),("used":Str),("kind":Str)]
 nod:P "noded"=AA an5
 fol:P "folded"=AA M5
 kon:P "kind_of_node"=AA ai1
 ko:P "kind_of"=AA al3
 shn:P "shelved_names"=AA ag9
 shk:P "shelved_kind"=AA ai4
section
variable (T:PNo P G) 
include T
def cc7{a:AH}(q:Q .non (b0 st a (ndO p la x 0 0 .non))):sem P G (n+1) (f6 "Node" "__init__") [.ref a,p.d,.ref la,.int x] (b0 st a (.ins "Node" [])) Q:=by
 refine i5 T.nin rfl [AA (.ref a),AA p.d,AA (.ref la),AA (.int x)] rfl ?_;unfold ag4;have b:∀f∈([("program":Str),("inside":Str),("number":Str),("holders":Str),("ways":Str),("used":Str),("kind":Str)]:List Str),f∈G.cls "Node":=λf hf=>by rw[T.ncl];exact hf
 ∎;refine⟨a,"Node",_,rfl,f8,b _ ∎,∅,?_⟩;rw[O4];∎;refine⟨a,"Node",_,rfl,f8,b _ ∎,by simp[l0],?_⟩;rw[O4];∎;refine⟨a,"Node",_,rfl,f8,b _ ∎,by simp[l0,u6],?_⟩;rw[O4];∎;refine⟨a,"Node",_,rfl,f8,b _ ∎,by simp[l0,u6],?_⟩;rw[O4];∎;refine⟨a,"Node",_,rfl,f8,b _ ∎,by simp[l0,u6],?_⟩;rw[O4];∎;refine⟨a,"Node",_,rfl,f8,b _ ∎,by simp[l0,u6],?_⟩;rw[O4];∎;refine⟨a,"Node",_,rfl,f8,b _ ∎,by simp[l0,u6],?_⟩;rw[O4];rfl';refine bc1 ?_;have e:l0 "kind" .non (l0 "used" .non (l0 "ways" (.int 0) (l0 "holders" (.int 0) (l0 "number" (.int x) (l0 "inside" (.ref la) (l0 "program" p.d []))))))=ndF p la x 0 0 .non:=by simp[l0,u6,ndF]
 rw[e];exact q
end
@[reducible]noncomputable def Tre:=Int×Pg×AH×List AH
structure FO(st0:Sto)(X:List AH)(l:List Tre)(st:Sto):Prop where
 nd:∀e∈l,Nd st0 X st e.1 e.2.1 e.2.2.1 e.2.2.2
 dj:(l.map (·.2.2.2)).flatten.Nodup
section
variable {st0:Sto} {l l1 l2:List Tre}
theorem FO.stay(h:FO st0 X l st)(hi:∀b∈(l.map (·.2.2.2)).flatten,∀o,st b=AA o->st' b=AA o)(a:KpN X st st'):FO st0 X l st':=
 ⟨λe he=>(h.nd e he).stay (λb hb=>hi b (CQ.mpr ⟨_,DF.mpr ⟨e,he,rfl⟩,hb⟩)) a,h.dj⟩
theorem FO.upd{w:Int}{b g:AH}{f:List AH}(F:FO st0 X (l1++(h,c,b,f)::l2) st)(j:st b=AA (ndO c g x h w kd))(p:C7 kd'):FO st0 X (l1++(h',c,b,f)::l2) (b0 st b (ndO c g x h' w' kd')):=by
 have n:=F.nd (h,c,b,f) ∎;obtain⟨_,_,_,_,_,_,d,_⟩:=n.root;have i:=F.dj;simp only[Ah,As,Dk,Dd]at i;have m:=EH.mp i;have l:=EH.mp m.2.1;have k:KpN X st (b0 st b (ndO c g x h' w' kd')):=λb' o _ ho e=>f7 e (λz=>by rw[z,j]at e;cases e;exact ho _ _ rfl);refine⟨λe he=>?_,by simpa using i⟩
 rcases BI.mp he with a|a
 ·refine(F.nd e (by simp[a])).stay (λb' hb' o ho=>f7 ho (λz=>?_)) k;exact m.2.2 b' (CQ.mpr ⟨_,DF.mpr ⟨e,a,rfl⟩,hb'⟩) b (EB _ d) z
 ·rcases AN.mp a with rfl|a
  ·exact n.upd l.1 j p
  ·refine(F.nd e (by simp[a])).stay (λb' hb' o ho=>f7 ho (λz=>?_)) k;exact l.2.2 b d b' (CQ.mpr ⟨_,DF.mpr ⟨e,a,rfl⟩,hb'⟩) z.symm
def Nd.monoX{Y:List AH}{f:List AH}(n:Nd st0 X st h p a f)(c:∀y∈Y,y∈X):Nd st0 Y st h p a f:=by
 induction n with
 |mk m l k j i g e d _ b=>exact .mk m l k (λz=>j (c _ z)) i g e d b
end
def bw7{w:Int}:l0 "holders" (.int h') (ndF p la x h w kd)=ndF p la x h' w kd:=by simp[l0,u6,ndF]
def a72{w:Int}:l0 "ways" (.int w') (ndF p la x h w kd)=ndF p la x h w' kd:=by simp[l0,u6,ndF]
def b40{w:Int}:l0 "kind" kd' (ndF p la x h w kd)=ndF p la x h w kd':=by simp[l0,u6,ndF]
section
variable (T:PNo P G) 
include T
def b39{s:AH}(hn:5<=n)(hp:p.parts<=2000)(hna:st s=AA (.lst []))(hX:∀x∈X,∃o,st x=AA o)
  (q:∀a f j,Nd st X j 0 p a f->Kp [s] st j->Q (.ref a) j):sem P G n "noded" [p.d,.ref s] st Q:=by
 obtain⟨n,rfl⟩:∃m,n=m+5:=⟨n-5,⋯⟩;have hc:∀f∈([("program":Str),("inside":Str),("number":Str),("holders":Str),("ways":Str),("used":Str),("kind":Str)]:List Str),f∈G.cls "Node":=λf N=>by rw[T.ncl];exact N
 refine i5 T.nod rfl [AA p.d,AA (.ref s),AF,AF,AF] rfl ?_;unfold an5;(iterate 2 ∎);refine⟨by rw[T.mop];rfl,by rw[T.inner];rfl,?_⟩;refine cg8 T.toPM (n:=n+2) (T:=Pg) (enc:=Pg.d) (subs:=Pg.kids) (size:=Pg.parts) (Di:=λ_=>True) (L:=[s]) Pg.parts_kids (λ_ _ _ _=>trivial) (F:=.fn "inner") (show(P _).isSome=AD by rw[T.inner];rfl) (show Cok P (.clo _ _ _ _) from trivial) p hp trivial (by simp;exact⟨_,hna⟩)
  (Y:=λdn S ds j=>∃(l:List Tre)(B:List D),FO st (dn::s::X) l j/\l.map (·.2.1)=S/\ds=l.map (λe=>D.ref e.2.2.1)/\(∀e∈l,e.1=0)/\dn∉(l.map (·.2.2.2)).flatten/\j s=AA (.lst B)/\B.length=(S.map Pg.parts).sum) ?_ ?_ ?_ ?_ ?_ ?_
 ·rintro dn S ds st1 ⟨l,B,_,_,_,_,_,h,_⟩ a ha;simp at ha;subst ha;exact⟨_,h⟩
 ·intro dn j hdn K;exact⟨[],[],⟨∎,∎⟩,rfl,rfl,∎,∎,K.at' hna ∎,∎⟩
 ·rintro dn S ds st1 st2 hdn ⟨l,B,F,e1,e2,e3,e4,e5,e6⟩ K;refine⟨l,B,F.stay (λb t o ho=>K.at' ho (by simp;exact λz=>e4 (z▸t))) (λb o t _ ho=>K.at' ho (by simp at t ⊢;exact t.1)),e1,e2,e3,e4,K.at' e5 (by simp;exact λz=>by rw[z,hdn]at hna;cases hna),e6⟩
 ·intro c j Q _ K k;refine ay5 T.toPIn c λa ha=>k _ _ (.inr ⟨a,rfl,ha,f8⟩) (Kp.refl.new ha)
 ·rintro c dn la j Q S ds xs _ K hdn hlaL hne hl0 hla hlx hlS ⟨l,B,F,e1,e2,e3,e4,e5,e6⟩ hd hsum k;obtain⟨E,M,rfl,m1,m2⟩:∃E M:List Tre,l=E++M/\E.map (·.2.1)=S/\M.map (·.2.1)=c.kids:=by
   refine⟨l.take S.length,l.drop S.length,(Ew _ _).symm,?_,?_⟩
   ·rw[LX,e1,JQ];rfl
   ·rw[LY,e1,List.drop_left'];rfl
  rw[Ah]at e2;have hl1:E.length=S.length:=by rw[<-m1,AW]
  obtain⟨x1,x2⟩:=List.append_inj e2 (by rw[hlS,AW,hl1]);subst x1 x2;have hpc:=Pg.parts_kids c;rw[Ah,Cy]at e6;refine P1 rfl [AA c.d,AA (.ref la),AA (.ref s),AF,AF] rfl ?_;∎;refine⟨by show(AD&&_)=AD;rw[T.nin];rfl,?_⟩;rw[r8 (.inl e5)];intro r C;refine aq5 (n:=n+1) ?_;refine cc7 T ?_;refine⟨rfl,?_⟩;have H:s≠r:=j9 e5 C;have hnl:r≠la:=λz=>by rw[<-z,C]at hla;cases hla
  have W:st r=AF:=by
   cases z:st r with
   |none=>rfl
   |some u=>
    by_cases hz:r=s
    ·exact absurd hz.symm H
    ·rw[K.at' z (by simpa using hz)]at C;cases C
  have fr:∀b∈((E++M).map (·.2.2.2)).flatten,b≠r:=λb t z=>by
   obtain⟨f,N,t⟩:=CQ.mp t;obtain⟨e,v,rfl⟩:=DF.mp N;obtain⟨fl,h⟩:=(F.nd e v).ins b t;rw[z,C]at h;cases h
  have fna:∀b∈((E++M).map (·.2.2.2)).flatten,b≠s:=λb t z=>by
   obtain⟨f,N,t⟩:=CQ.mp t;obtain⟨e,v,rfl⟩:=DF.mp N;obtain⟨fl,h⟩:=(F.nd e v).ins b t;rw[z,e5]at h;cases h
  ∎;have e5':b0 j r (ndO c la B.length 0 0 .non) s=AA (.lst B):=l5 e5 C;rw[A6 (.inl e5'),B7 e5'];refine⟨trivial,B3 ⋯,?_⟩;have N1:KpN [s] j (b0 (b0 j r (ndO c la B.length 0 0 .non)) s (.lst (B++[.ref r]))):=λb o t _ ho=>f7 (l5 ho C) (by simpa using t);have K1:Kp [s] st (b0 (b0 j r (ndO c la B.length 0 0 .non)) s (.lst (B++[.ref r]))):=(K.new C).put ∎;have F1:FO st (dn::s::X) (E++M) (b0 (b0 j r (ndO c la B.length 0 0 .non)) s (.lst (B++[.ref r]))):=F.stay (λb t o ho=>f7 (l5 ho C) (fna b t)) (λb o t _ ho=>f7 (l5 ho C) (by simp at t;exact t.2.1));have d1:(b0 (b0 j r (ndO c la B.length 0 0 .non)) s (.lst (B++[.ref r]))) r=AA (ndO c la B.length 0 0 .non):=f7 f8 H.symm;have na1:(b0 (b0 j r (ndO c la B.length 0 0 .non)) s (.lst (B++[.ref r]))) s=AA (.lst (B++[.ref r])):=f8;have la1:=N1 la _ hlaL (λ_ _ z=>by cases z) hla;revert N1 K1 F1 d1 na1 la1;generalize b0 (b0 j r (ndO c la B.length 0 0 .non)) s (.lst (B++[.ref r]))=s1;intro N1 K1 F1 d1 na1 la1;have e3':∀e∈E,e.1=0:=λe v=>e3 e (by simp[v]);have e32:∀e∈M,e.1=0:=λe v=>e3 e (by simp[v]);∎;refine⟨_,.inl la1,?_⟩;refine E3 (λll env s2=>∃(g A:List Tre)(w:Int)(x4:Option D),ll=A.map (λe=>D.ref e.2.2.1)/\(g++A).map (·.2)=M.map (·.2)/\(∀e∈g,e.1=1)/\(∀e∈A,e.1=0)/\env=[AA c.d,AA (.ref la),AA (.ref s),AA (.ref r),x4]/\FO st (dn::s::X) (E++(g++A)) s2/\s2 r=AA (ndO c la B.length 0 w .non)/\KpN [s] j s2/\Kp [s] st s2/\s2 s=AA (.lst (B++[.ref r]))) ?_ ?_ _ _ _ ⟨[],M,0,AF,rfl,rfl,∎,e32,rfl,F1,d1,N1,K1,na1⟩
  ·rintro env s2 ⟨g,A,w,x4,el,em,hp1,_,rfl,F2,d2,N2,K2,na2⟩;have es:A=[]:=by simpa using el.symm
   subst es;rw[BZ]at em F2;refine⟨.inl (N2 la _ hlaL (λ_ _ z=>by cases z) hla),?_⟩;have fin:∀(w:Int)(U:Sto),FO st (dn::s::X) (E++g) U->U r=AA (ndO c la B.length 0 w .non)->KpN [s] j U->Kp [s] st U->U s=AA (.lst (B++[.ref r]))->Q (.ref r) U:=by
    intro w U F3 d3 N3 K3 V;have hk:g.map (·.2.1)=c.kids:=by
     have:=congrArg (FF (λz:Pg×AH×List AH=>z.1)) em;rw[Cj,Cj]at this;rw[<-m2];exact this
    have N:g.map (·.2.2.2)=M.map (·.2.2.2):=by
     have:=congrArg (FF (λz:Pg×AH×List AH=>z.2.2)) em;rw[Cj,Cj]at this;exact this
    have hr:g.map (λe=>D.ref e.2.2.1)=M.map (λe=>D.ref e.2.2.1):=by
     have:=congrArg (FF (λz:Pg×AH×List AH=>D.ref z.2.1)) em;rw[Cj,Cj]at this;exact this
    have hla3:U la=AA (.lst ((g.map (·.2.2.1)).map D.ref)):=by
     rw[N3 la _ hlaL (λ_ _ z=>by cases z) hla,Cj,<-hr];rfl
    have hkl:g.length=c.kids.length:=by rw[<-hk,AW]
    have hf2:((E++g).map (·.2.2.2)).flatten=((E++M).map (·.2.2.2)).flatten:=by rw[Ah,Ah,N]
    have hfl:((E++[((0:Int),c,r,r::(g.map (·.2.2.2)).flatten)]).map (·.2.2.2)).flatten=(E.map (·.2.2.2)).flatten++r::(g.map (·.2.2.2)).flatten:=by simp
    refine k (.ref r) U ⟨E++[(0,c,r,r::(g.map (·.2.2.2)).flatten)],B++[.ref r],⟨λe v=>?_,?_⟩,by rw[Ah,m1];rfl,by rw[Ah];rfl,λe v=>?_,?_,V,by simp only[Ad,AV,Ao,Ah,As,Eg,Cy,DL,Gu];lia⟩ N3 K3
    ·rcases BI.mp v with v|v
     ·exact F3.nd e (by simp[v])
     ·simp only[BY]at v;subst v;refine .mk d3 (.inl rfl) hla3 ?_ hl0 W (by rw[AW,hkl]) (by rw[AW,hkl]) λi c' b' f' x1 x2 x3=>?_
      ·simp only[AN,not_or];refine⟨hne,by simpa using hlaL,λz=>?_⟩;obtain⟨o,h⟩:=hX la z;rw[hl0]at h;cases h
      ·rw[Ag]at x2 x3;rw[<-hk,Ag]at x1;cases hi:g[i]? with
       |none=>rw[hi]at x1;cases x1
       |some e=>
        rw[hi]at x1 x2 x3;cases x1;cases x2;cases x3;have hm:=BS hi;have:=F3.nd e (by simp[hm]);rw[hp1 e hm]at this;exact this
    ·rw[hfl];have dj:=F3.dj;rw[Ah,Dk]at dj;obtain⟨g1,g2,g3⟩:=EH.mp dj;have gn:∀x∈((E++g).map (·.2.2.2)).flatten,x≠r:=λx hx=>fr x (by rw[<-hf2];exact hx);rw[EH];refine⟨g1,BP.mpr ⟨λz=>gn r (by rw[Ah,Dk];exact BF _ z) rfl,g2⟩,λx hx y hy=>?_⟩
     rcases AN.mp hy with rfl|hy
     ·exact gn x (by rw[Ah,Dk];exact EB _ hx)
     ·exact g3 x hx y hy
    ·rcases BI.mp v with v|v
     ·exact e3' e v
     ·simp only[BY]at v;subst v;rfl
    ·rw[hfl];intro z;have hdnd:dn≠r:=j9 hd C
     rcases BI.mp z with z|z
     ·exact e4 (by rw[Ah,Dk];exact EB _ z)
     ·rcases AN.mp z with z|z
      ·exact hdnd z
      ·exact e4 (by rw[Ah,Dk,<-N];exact BF _ z)
   obtain⟨w0,r0,hcd⟩:∃(w0:String)(r0:List D),c.d=.tup (.str w0::r0):=by cases c<;>exact⟨_,_,rfl⟩
   rw[hcd];∎
   by_cases hw:w0="way"
   ·simp only[hw,if_true];∎;refine⟨r,"Node",_,.int w,rfl,d2,hc _ ∎,rfl,?_⟩;rfl';refine⟨r,"Node",_,rfl,d2,hc _ ∎,by simp[ndF],?_⟩;rw[a72];∎;have hx:∀b∈((E++g).map (·.2.2.2)).flatten,b≠r:=λb t=>fr b (by
     have N:g.map (·.2.2.2)=M.map (·.2.2.2):=by
      have:=congrArg (FF (λz:Pg×AH×List AH=>z.2.2)) em;rw[Cj,Cj]at this;exact this
     rw[Ah,<-N,<-Ah];exact t)
    refine c9 (fin (w+1) _ (F2.stay (λb t o ho=>f7 ho (hx b t)) λb o _ ho h=>f7 h (λz=>by rw[z,d2]at h;cases h;exact ho _ _ rfl)) f8 (λb o t ho h=>f7 (N2 b o t ho h) (λz=>by rw[z,C]at h;cases h)) (λb o t h=>f7 (K2 b o t h) (λz=>by rw[z,W]at h;cases h)) (f7 na2 H))
   ·simp only[hw,if_false];∎;exact c9 (fin w s2 F2 d2 N2 K2 na2)
  ·rintro d0 dl env s2 ih ⟨g,A,w,x4,el,em,hp1,hs0,rfl,F2,d2,N2,K2,na2⟩;refine⟨.inl (N2 la _ hlaL (λ_ _ z=>by cases z) hla),?_⟩;cases A with
   |nil=>simp at el
   |cons e A=>
    simp only[As,Aq]at el;obtain⟨rfl,rfl⟩:=el;obtain⟨h0,J,b,f⟩:=e;have hh:h0=0:=hs0 (h0,J,b,f) ∎;subst hh;have ne:=F2.nd (0,J,b,f) ∎;obtain⟨lb,xb,R,Z,t,hkb,hbf,_⟩:=ne.root;have hbn:b≠r:=fr b (by
     have N:(g++(0,J,b,f)::A).map (·.2.2.2)=M.map (·.2.2.2):=by
      have:=congrArg (FF (λz:Pg×AH×List AH=>z.2.2)) em;rw[Cj,Cj]at this;exact this
     rw[Ah,<-N,<-Ah];exact CQ.mpr ⟨f,DF.mpr ⟨(0,J,b,f),∎,rfl⟩,hbf⟩)
    have hbna:b≠s:=λz=>by rw[z,na2]at t;cases t
    have hb0:st b=AF:=by
     obtain⟨_,_,_,_,_,_,_,h⟩:=ne.root;exact h
    have hbst:∀o,(∀c fs,o≠.ins c fs)->j b≠AA o:=λo ho h=>by
     have:=N2 b o (by simpa using hbna) ho h;rw[t]at this;cases this;exact ho _ _ rfl
    rfl';∎;refine⟨b,"Node",_,.int 0,rfl,t,hc _ ∎,rfl,?_⟩;rfl';refine⟨b,"Node",_,rfl,t,hc _ ∎,by simp[ndF],?_⟩;rw[bw7];have F3:FO st (dn::s::X) ((E++g)++(1,J,b,f)::A) (b0 s2 b (ndO J lb xb 1 R Z)):=FO.upd (h:=0) (w:=R) (kd:=Z) (by rw[Ch];exact F2) t hkb;have d3:(b0 s2 b (ndO J lb xb 1 R Z)) r=AA (ndO c la B.length 0 w .non):=f7 d2 hbn.symm;have b3:(b0 s2 b (ndO J lb xb 1 R Z)) b=AA (ndO J lb xb 1 R Z):=f8;have N3:KpN [s] j (b0 s2 b (ndO J lb xb 1 R Z)):=λb' o hb' ho h=>f7 (N2 b' o hb' ho h) (λz=>hbst o ho (z▸h));have K3:Kp [s] st (b0 s2 b (ndO J lb xb 1 R Z)):=λb' o hb' h=>f7 (K2 b' o hb' h) (λz=>by rw[z,hb0]at h;cases h);have V:=f7 (u:=ndO J lb xb 1 R Z) na2 hbna.symm;have e01:((0:Int)+1)=1:=by decide
    rw[e01];show j7 _ _ _ _ (b0 s2 b (ndO J lb xb 1 R Z));revert F3 d3 b3 N3 K3 V;generalize b0 s2 b (ndO J lb xb 1 R Z)=U;intro F3 d3 b3 N3 K3 V;∎;refine⟨r,"Node",_,.int w,rfl,d3,hc _ ∎,rfl,?_⟩;rfl';refine⟨b,"Node",_,.int R,rfl,b3,hc _ ∎,rfl,?_⟩;rfl';refine⟨r,"Node",_,rfl,d3,hc _ ∎,by simp[ndF],?_⟩;rw[a72];rfl';refine ih _ _ ⟨g++[(1,J,b,f)],A,_,_,rfl,by rw[<-em];simp,λe v=>?_,λe v=>hs0 e (by simp[v]),rfl,?_,f8,λb' o hb' ho h=>f7 (N3 b' o hb' ho h) (λz=>by rw[z,C]at h;cases h),λb' o hb' h=>f7 (K3 b' o hb' h) (λz=>by rw[z,W]at h;cases h),f7 V H⟩
    ·rcases BI.mp v with v|v
     ·exact hp1 e v
     ·simp only[BY]at v;subst v;rfl
    ·have F4:FO st (dn::s::X) (E++((g++[(1,J,b,f)])++A)) U:=by simpa using F3
     refine F4.stay (λb' hb' o ho=>f7 ho (fr b' ?_)) λb' o _ ho h=>f7 h (λz=>by rw[z,d3]at h;cases h;exact ho _ _ rfl);have N:((g++[((1:Int),J,b,f)])++A).map (·.2.2.2)=M.map (·.2.2.2):=by
      have:=congrArg (FF (λz:Pg×AH×List AH=>z.2.2)) em;rw[Cj,Cj]at this;refine KM ?_ this;simp[Function.comp_def]
     rw[Ah,<-N,<-Ah];exact hb'
 ·rintro dn d j hdn ⟨l,B,F,e1,e2,e3,e4,e5,e6⟩ K
  match l,e1 with
  |[e],e1=>
   have e1:e.2.1=p:=by simpa using e1
   have n:=F.nd e ∎;rw[e3 e ∎,e1]at n;have:d=.ref e.2.2.1:=by simpa using e2
   subst this;exact c9 (q _ _ j (n.monoX (by intro y hy;simp[hy])) K)
end
structure KpI(R L:List AH)(st st':Sto):Prop where
 n:KpN L st st'
 i:∀b c la x h w kd,st b=AA (ndO c la x h w kd)->C7 kd->∃kd',C7 kd'/\st' b=AA (ndO c la x h w kd')
 e:∀b,st' b=AF->st b=AF
 k:∀b o,b∉L->b∉R->st b=AA o->st' b=AA o
section
variable {M:List AH} {s1 s2 s3:Sto} {p:AH} {o:Ob} {es:List D}
def G9{q:AH}(h:b0 st p o q=AF):st q=AF:=by
 by_cases z:q=p
 ·rw[z,f8]at h;cases h
 ·cases e:st q with
  |none=>rfl
  |some u=>rw[f7 e z]at h;cases h
def KpI.refl:KpI R L st st:=⟨λ_ _ _ _ h=>h,λ_ _ _ _ _ _ kd h k=>⟨kd,k,h⟩,λ_ h=>h,λ_ _ _ _ h=>h⟩
def KpI.trans(a:KpI R L s1 s2)(b:KpI R L s2 s3):KpI R L s1 s3:=⟨λx o n ho h=>b.n x o n ho (a.n x o n ho h),λx c la y h w kd e k=>by
 obtain⟨d,f,g⟩:=a.i x c la y h w kd e k;exact b.i x c la y h w d g f,λx h=>a.e x (b.e x h),λx o n m h=>b.k x o n m (a.k x o n m h)⟩
def KpI.more(a:KpI R L s1 s2)(s:∀d∈L,d∈M):KpI R M s1 s2:=⟨λx o n ho h=>a.n x o (λz=>n (s x z)) ho h,a.i,a.e,λx o n m h=>a.k x o (λz=>n (s x z)) m h⟩
def KpI.new(a:KpI R L st st')(h:st' p=AF):KpI R L st (b0 st' p o):=a.trans ⟨λx o n ho e=>l5 e h,λx c la y h' w kd e k=>⟨kd,k,l5 e h⟩,λ_ h=>G9 h,λ_ _ _ _ e=>l5 e h⟩
def KpI.put(a:KpI R L st st')(h:p∈L)(b:st' p=AA (.lst ds)):KpI R L st (b0 st' p o):=a.trans ⟨λx o n ho e=>f7 e (λz=>n (z▸h)),λx c la y h' w kd e k=>⟨kd,k,f7 e (λz=>by rw[z,b]at e;cases e)⟩,λ_ h=>G9 h,λx o n _ e=>f7 e (λz=>n (z▸h))⟩
def KpI.drop(a:KpI R (p::L) st st')(h:st p=AF):KpI R L st st':=⟨λx o n ho e=>a.n x o (λz=>by rcases AN.mp z with z|z;exact j9 e h z;exact n z) ho e,a.i,a.e,λx o n m e=>a.k x o (λz=>by rcases AN.mp z with z|z;exact j9 e h z;exact n z) m e⟩
theorem KpI.lst(a:KpI R L st st')(h:st p=AA (.lst ds))(n:p∉L):st' p=AA (.lst ds):=a.n p _ n (λ_ _ z=>by cases z) h
def KA.noNode{b:AH}{S:List It3}(K:KA sh dn sa pa wa S ws st){a:List (Str×D)}(h:st b=AA (.ins "Node" a)):b∉shL sh dn sa pa wa:=by
 intro z;simp only[AN,AZ,or_false]at z
 rcases z with rfl|rfl|rfl|rfl|rfl
 ·have:=K.A.ins;rw[h]at this;simp[u6]at this
 ·have:=K.A.num;rw[h]at this;simp at this
 ·have:=K.A.sto;rw[h]at this;simp at this
 ·have:=K.A.par;rw[h]at this;simp at this
 ·have:=K.W;rw[h]at this;simp at this
def KpI.ofKp{S:List It3}(K:KA sh dn sa pa wa S ws st)(a:KA sh dn sa pa wa S' ws' st')(x:Kp (shL sh dn sa pa wa) st st'):KpI R (shL sh dn sa pa wa) st st':=⟨λb o n _ h=>x b o n h,λb c la y h w kd e k=>⟨kd,k,x b _ (K.noNode e) e⟩,λb hb=>(by
 by_cases z:b∈shL sh dn sa pa wa
 ·simp only[AN,AZ,or_false]at z
  rcases z with rfl|rfl|rfl|rfl|rfl
  ·have:=a.A.ins;rw[hb]at this;cases this
  ·have:=a.A.num;rw[hb]at this;cases this
  ·have:=a.A.sto;rw[hb]at this;cases this
  ·have:=a.A.par;rw[hb]at this;cases this
  ·have:=a.W;rw[hb]at this;cases this
 ·cases e:st b with
  |none=>rfl
  |some u=>rw[x b u z e]at hb;cases hb),λb o n _ h=>x b o n h⟩
def Nd.kpi{b:Sto}{p:Pg}{f:List AH}(n:Nd b X st h p a f)(K:KpI R L st st')(l:∀y∈L,y∈X):Nd b X st' h p a f:=by
 induction n with
 |@mk h p a d x w g B A u t s c r q o m _ k=>
  obtain⟨e,j,v⟩:=K.i a p d x h w g u t;exact .mk v j (K.lst s λz=>c (l _ z)) c r q o m k
def Nd.addX{b:Sto}{p:Pg}{f:List AH}{x:AH}(n:Nd b X st h p a f)(e:st x=AF):Nd b (x::X) st h p a f:=by
 induction n with
 |mk o m c l k j i g _ d=>exact .mk o m c (λz=>by rcases AN.mp z with z|z;exact j9 c e z;exact l z) k j i g d
end
abbrev at6(P:i8)(G:Gs)(n:Nat)(sh dn sa pa wa:AH)(nm:D):Prop:=∀(st:Sto)(S:List It3)(ws:List (Kd×Bool))(ca:AH)(p:Pg)(i:Nat)(a:Kd)(ks:List Kd)(Q:DK),KA sh dn sa pa wa S ws st->p.told 3->p.more i=1->p.nw ks i=AA a->st ca=AA (.lst (v0 S ks))->(∀k∈ks,Has S k.d)->S.length+128<=900000->StQ sh dn sa pa wa S ws st a Q->D5 P G n nm [p.d,.ref ca,.int i] st Q
abbrev as9(P:i8)(G:Gs)(n:Nat)(sh dn sa pa wa:AH)(md:D):Prop:=∀(st:Sto)(S:List It3)(ws:List (Kd×Bool))(ca ka b la:AH)(p:Pg)(Γ:List Kd)(k:Kd)(ks:List Kd)(kn:List Int)(x h w:Int)(kd:D)(Q:DK),KA sh dn sa pa wa S ws st->p.told 3->p.kk Γ ks=AA k->st ca=AA (.lst (v0 S ks))->(∀k∈ks,Has S k.d)->st ka=AA (.lst (kn.map D.int))->KnOk S ws Γ kn->ca∉shL sh dn sa pa wa->S.length+128<=900000->st b=AA (ndO p la x h w kd)->C7 kd->(∀S' ws' st' kd',Has S' k.d->S <+: S'->S'.length<=S.length+128->KA sh dn sa pa wa S' ws' st'->WUp ws ws'->Kp (b::shL sh dn sa pa wa) st st'->st' b=AA (ndO p la x h w kd')->C7 kd'->Q (.int (nb S' k.d:Nat)) st')->D5 P G n md [.ref b,.ref ca,.ref ka] st Q
structure FS(sh dn sa pa wa ka ba aa da:AH)(S:List It3)(ws:List (Kd×Bool))(kn:List Int)(B A:List D)(st:Sto):Prop where
 K:KA sh dn sa pa wa S ws st
 k:st ka=AA (.lst (kn.map D.int))
 b:st ba=AA (.lst B)
 a:st aa=AA (.lst A)
 d:st da=AA (.dtt [])
@[reducible]noncomputable def fL(sh dn sa pa wa ka ba aa:AH):List AH:=ka::ba::aa::shL sh dn sa pa wa
abbrev F0:Ss:=match M5.body with
 |.cons _ (.cons _ (.cons _ (.cons (.while _ b) _)))=>b
 |_=>.nil
def J5{b:Type}{a:List b}{x:b}:atI (a++[x]) (-1)=AA x:=by
 unfold atI ixN;rw[if_neg ∅,if_pos (by simp only[Ad,AV,Ao];lia)];have:(-1+((a.length:Int)+1)).toNat=a.length:=by lia
 simp[this]
section
variable (T:PNo P G) {S:List It3} 
include T
def bt1(Z:Cok P nm)(N:at6 P G (n+1) sh dn sa pa wa nm)(dj:(ka::ba::aa::da::shL sh dn sa pa wa).Nodup){F:DEnds}{r:List Int}{B:List D}{w:Int}{as:List AH}{x7 x8 x9 E:Option D}{b:AH}
  (H:FS sh dn sa pa wa ka ba aa da S ws r (B++[.ref a]) (A++[.ref ca]) st) (hc:st ca=AA (.lst (v0 S ks))) (hh:∀k∈ks,Has S k.d) (O:st a=AA (ndO p la x h w kd)) (hkd:C7 kd) (h1:h<=1) (hl:st la=AA (.lst (as.map D.ref))) (hi:p.kids[ks.length]?=AA c) (hb:as[ks.length]?=AA b) (ht:p.told 3) (hC:Cxt p ks ks.length Γ Δ) (J:KnOk S ws Γ r) (hS:S.length+128<=900000) (hB:B.length+1<100000) (hA:A.length+1<100000) (hK:r.length<100000) (M:ca∉ka::ba::aa::da::shL sh dn sa pa wa) (C:la∉ka::ba::aa::da::shL sh dn sa pa wa)
  (q:∀S' j g l cb y7 y8 y9 X,FS sh dn sa pa wa ka ba aa da S' j l (B++[.ref a]++[.ref b]) (A++[.ref ca]++[.ref cb]) g->g cb=AA (.lst [])->st cb=AF->S <+: S'->S'.length<=S.length+128->WUp ws j->KnOk S' j Δ l->l.take r.length=r->l.length=r.length+p.more ks.length->KpI R (fL sh dn sa pa wa ka ba aa) st g->F.ct [AA nd,AA (.ref ka),AA nm,AA md,AA (.ref ba),AA (.ref aa),AA (.ref da),y7,y8,y9,X] g) :
  j7 (Zg P G (n+1)) F0 F [AA nd,AA (.ref ka),AA nm,AA md,AA (.ref ba),AA (.ref aa),AA (.ref da),x7,x8,x9,E] st:=by
 have m:∀f∈([("program":Str),("inside":Str),("number":Str),("holders":Str),("ways":Str),("used":Str),("kind":Str)]:List Str),f∈G.cls "Node":=λf hf=>by rw[T.ncl];exact hf
 unfold F0 M5;simp only;∎;rw[l7 (.inl H.b)];refine⟨_,J5,?_⟩;∎;rw[l7 (.inl H.a)];refine⟨_,J5,?_⟩;rw[r8 (.inl hc)];∎;refine⟨a,"Node",_,.int h,rfl,O,m _ ∎,rfl,?_⟩;rfl';rw[if_neg ⋯];∎;refine⟨H.d,?_⟩;rfl';refine⟨a,"Node",_,.ref la,rfl,O,m _ ∎,rfl,?_⟩;rw[r8 (.inl hl)];rfl';have t:(v0 S ks).length=ks.length:=by simp[v0]
 have hlt:=(AY.mp hb).1;rw[if_pos (by rw[t,AW];lia),t];simp only[BP,AN,AZ,or_false,not_or]at dj;obtain⟨⟨d1,d2,d3,d4⟩,⟨W,d6,d7⟩,⟨d8,d9⟩,d10,_⟩:=dj;have hcl0:=M;have hll0:=C;simp only[AN,AZ,or_false,not_or]at M C;have j8:∀(F':DEnds)S' j g l,F'.ct=F.ct->FS sh dn sa pa wa ka ba aa da S' j l (B++[.ref a]) (A++[.ref ca]) g->S <+: S'->S'.length<=S.length+128->WUp ws j->KnOk S' j Δ l->l.take r.length=r->l.length=r.length+p.more ks.length->KpI R (fL sh dn sa pa wa ka ba aa) st g ->
   j7 (Zg P G (n+1)) (.cons (.ex (.app (.v 4) (.ix (.fld (.v 7) "inside") (.v 8)))) (.cons (.ex (.app (.v 5) (.lst .nil))) (.cons .cont .nil))) F' [AA nd,AA (.ref ka),AA nm,AA md,AA (.ref ba),AA (.ref aa),AA (.ref da),AA (.ref a),AA (.int ks.length),AA .non,E] g:=by
  intro F' S' j g l eF s e1 e2 e3 e4 e5 e6 V;obtain⟨kd',_,ha'⟩:=V.i a p la x h w kd O hkd;have hl':=V.lst hl (by simp[C]);∎;rw[A6 (.inl s.b)];refine⟨trivial,a,"Node",_,.ref la,rfl,ha',m _ ∎,rfl,?_⟩;rw[l7 (.inl hl')];refine⟨.ref b,by rw[v6,Ag,hb];rfl,?_⟩;rw[B7 s.b];refine⟨B3 (by simp;lia),?_⟩;∎;rw[A6 (.inl (f7 s.a (Aw W)))];refine⟨trivial,λcb hcb=>?_⟩;have z:=G9 hcb;have cbb:ba≠cb:=j9 s.b z;have cba:aa≠cb:=j9 s.a z;rw[B7 (l5 (f7 s.a (Aw W)) hcb)];refine⟨B3 (by simp;lia),?_⟩;∎;rw[eF];have U:Kp [ba,aa] g (b0 (b0 (b0 g ba (.lst (B++[.ref a]++[.ref b]))) cb (.lst [])) aa (.lst (A++[.ref ca]++[.ref cb]))):=((Kp.refl.put ∎).new hcb).put ∎;refine q S' j _ l cb _ _ _ _ ⟨s.K.keepL U ?_,U.at' s.k (by simp[d1,d2]),f7 (f7 f8 cbb) W,f8,U.at' s.d (by simp[Aw d6,Aw d8])⟩ (f7 f8 (Aw cba)) (V.e _ z) e1 e2 e3 e4 e5 e6 (((V.put ∎ s.b).new hcb).put ∎ (l5 (f7 s.a (Aw W)) hcb));intro y I;simp only[AN,AZ,or_false]at I ⊢
  rcases I with rfl|rfl
  ·simp[d7]
  ·simp[d9]
 ∎;refine⟨by rw[T.more];rfl,a,"Node",_,p.d,rfl,O,m _ ∎,rfl,am4 T.toPIn p ks.length ?_⟩;rfl'
 rcases hC with⟨m0,rfl⟩|⟨Y,Q,hw,rfl⟩
 ·simp only[m0];rw[if_neg ∅];exact j8 _ S ws st r rfl H (Cz _) ⋯ rfl J (JV ..) ⋯ KpI.refl
 ·simp only[Y];∎;rw[A6 (.inl H.k)];refine⟨trivial,S6 Z ?_⟩;rfl';refine⟨a,"Node",_,p.d,rfl,O,m _ ∎,rfl,?_⟩;rw[l7 (.inl H.a)];refine⟨_,J5,?_⟩;refine N st S ws ca p ks.length Q ks _ H.K ht Y hw hc hh hS λS' j g g1 g2 g3 g4 g5 g6=>?_;have L:=g6.at' H.k (by simp[d4]);rw[B7 L];refine⟨B3 (by simp;lia),?_⟩;have ek:r.map D.int++[D.int (nb S' Q.d:Nat)]=(r++[((nb S' Q.d:Nat):Int)]).map D.int:=by simp
  rw[ek];have U:Kp [ka] g (b0 g ka (.lst ((r++[((nb S' Q.d:Nat):Int)]).map D.int))):=Kp.refl.put ∎;refine j8 _ S' j _ (r++[((nb S' Q.d:Nat):Int)]) rfl ⟨g4.keepL U (by simp[d4]),f8,f7 (g6.at' H.b (by simp[d7])) (Aw d1),f7 (g6.at' H.a (by simp[d9])) (Aw d2),f7 (g6.at' H.d (by simp[d10])) (Aw d3)⟩ g2 g3 g5 ((J.up g4.A.wf g2 g5).cons (.inl ⟨rfl,g1⟩)) ∎ (by simp[Y]) (((KpI.ofKp H.K g4 g6).more (by intro y I;simp only[AN,AZ,or_false]at I ⊢;simp[I])).put ∎ L)
end
def KpI.ofMd{b:AH}{S:List It3}{w:Int}(K:KA sh dn sa pa wa S ws st)(d:KA sh dn sa pa wa S' ws' st')(y:Kp (b::shL sh dn sa pa wa) st st')(g:st b=AA (ndO c la x h w kd))(a:st' b=AA (ndO c la x h w kd'))(i:C7 kd')(f:b∈R):KpI R (shL sh dn sa pa wa) st st':=by
 refine⟨λz o n ho e=>y z o (λq=>?_) e,λz c2 la2 x2 h2 w2 kd2 e k=>?_,λz hz=>?_,λz o n m e=>y z o (λq=>by rcases AN.mp q with rfl|q;exact m f;exact n q) e⟩
 ·rcases AN.mp q with rfl|q
  ·rw[g]at e;cases e;exact ho _ _ rfl
  ·exact n q
 ·by_cases q:z=b
  ·subst q;rw[g]at e;refine⟨kd',i,?_⟩;rw[a];simp only[ndO,ndF,CA,Ob.ins.injEq,Aq,JF,true_and,and_true]at e ⊢;exact⟨e.1,e.2.1,e.2.2.1,e.2.2.2.1,e.2.2.2.2.1⟩
  ·refine⟨kd2,k,y z _ (λt=>?_) e⟩
   rcases AN.mp t with t|t
   ·exact q t
   ·exact K.noNode e t
 ·by_cases q:z∈shL sh dn sa pa wa
  ·exfalso;simp only[AN,AZ,or_false]at q
   rcases q with rfl|rfl|rfl|rfl|rfl
   ·have:=d.A.ins;rw[hz]at this;cases this
   ·have:=d.A.num;rw[hz]at this;cases this
   ·have:=d.A.sto;rw[hz]at this;cases this
   ·have:=d.A.par;rw[hz]at this;cases this
   ·have:=d.W;rw[hz]at this;cases this
  ·cases e:st z with
   |none=>rfl
   |some u=>
    by_cases t:z=b
    ·subst t;rw[a]at hz;cases hz
    ·rw[y z u (by simp only[AN,not_or];exact⟨t,by simpa using q⟩) e]at hz;cases hz
def ba7(p:Pg)(i:Nat):p.more i=0\/p.more i=1:=by
 cases p<;>first|exact .inl rfl|(simp only[Pg.more];split<;>simp)
abbrev Ss.tl:Ss->Ss
 |.cons _ r=>r
 |.nil=>.nil
abbrev X8:Ss:=F0.tl.tl.tl.tl.tl.tl.tl.tl
section
variable (T:PNo P G) {S:List It3} 
include T
def a81(E:Cok P md)(M:as9 P G (n+1) sh dn sa pa wa md)(Y:(ka::ba::aa::da::shL sh dn sa pa wa).Nodup){F:DEnds}{u:List Int}{B:List D}{b v:AH}{w:Int}{as:List AH}{x7 x8 x9 C:Option D}{k:Kd}
  (H:FS sh dn sa pa wa ka ba aa da S ws u (B++[.ref b]) (A++[.ref v]) st) (X:st v=AA (.lst (v0 S ks))) (hh:∀k∈ks,Has S k.d) (o:st b=AA (ndO c la x h w kd)) (J:C7 kd) (h1:h<=1) (hl:st la=AA (.lst (as.map D.ref))) (hn:as.length=ks.length) (ht:c.told 3) (hk:c.kk Δ ks=AA k) (I:KnOk S ws Δ u) (hS:S.length+128<=900000) (O:v∉shL sh dn sa pa wa) (Q:b∈R)
  (q:∀S' i g y7 y8,FS sh dn sa pa wa ka ba aa da S' i u B A g->Has S' k.d->S <+: S'->S'.length<=S.length+128->WUp ws i->KpI R (fL sh dn sa pa wa ka ba aa) st g->j7 (Zg P G (n+1)) X8 F [AA nd,AA (.ref ka),AA nm,AA md,AA (.ref ba),AA (.ref aa),AA (.ref da),y7,y8,AA .non,AA (.int (nb S' k.d:Nat))] g) :
  j7 (Zg P G (n+1)) F0 F [AA nd,AA (.ref ka),AA nm,AA md,AA (.ref ba),AA (.ref aa),AA (.ref da),x7,x8,x9,C] st:=by
 have l:∀f∈([("program":Str),("inside":Str),("number":Str),("holders":Str),("ways":Str),("used":Str),("kind":Str)]:List Str),f∈G.cls "Node":=λf hf=>by rw[T.ncl];exact hf
 unfold F0 M5;simp only;∎;rw[l7 (.inl H.b)];refine⟨_,J5,?_⟩;∎;rw[l7 (.inl H.a)];refine⟨_,J5,?_⟩;rw[r8 (.inl X)];∎;refine⟨b,"Node",_,.int h,rfl,o,l _ ∎,rfl,?_⟩;rfl';rw[if_neg ⋯];∎;refine⟨H.d,?_⟩;rfl';refine⟨b,"Node",_,.ref la,rfl,o,l _ ∎,rfl,?_⟩;rw[r8 (.inl hl)];rfl';have j:(v0 S ks).length=ks.length:=by simp[v0]
 rw[if_neg (by rw[j,AW];lia),j];simp only[BP,AN,AZ,or_false,not_or]at Y;obtain⟨⟨d1,d2,d3,d4⟩,⟨U,d6,d7⟩,⟨d8,Z⟩,V,_⟩:=Y;∎;refine⟨H.d,?_⟩;rfl';refine S6 E ?_;rfl';rw[l7 (.inl H.a)];refine⟨_,J5,?_⟩;refine M st S ws v ka b la c Δ k ks u x h w kd _ H.K ht hk X hh H.k I O hS o J λS' i g kd' g1 g2 g3 g4 g5 g6 g7 g8=>?_;have m:∀{y:AH}{ds:List D},st y=AA (.lst ds)->y≠b:=λe z=>by rw[z,o]at e;cases e
 have s:=g6.at' H.b (by simp only[AN,AZ,or_false,not_or];exact⟨m H.b,d7⟩);have t:=g6.at' H.a (by simp only[AN,AZ,or_false,not_or];exact⟨m H.a,Z⟩);have L:=g6.at' H.k (by simp only[AN,AZ,or_false,not_or];exact⟨m H.k,d4⟩);have N:=g6.at' H.d (by simp only[AN,AZ,or_false,not_or];exact⟨λz=>(by have:=H.d;rw[z,o]at this;cases this),V⟩);∎;refine .inl ?_;∎;rw[U5 s];∎;rw[U5 (f7 t (Aw U))];have W:Kp [ba,aa] g (b0 (b0 g ba (.lst B)) aa (.lst A)):=(Kp.refl.put ∎).put ∎;refine q S' i _ _ _ ⟨g4.keepL W ?_,W.at' L (by simp[d1,d2]),f7 f8 U,f8,W.at' N (by simp[Aw d6,Aw d8])⟩ g1 g2 g3 g5 ((((KpI.ofMd H.K g4 g6 o g7 g8 Q).more (by intro y r;simp only[AN,AZ,or_false]at r ⊢;simp[r])).put ∎ s).put ∎ (f7 t (Aw U)));intro y r;simp only[AN,AZ,or_false]at r ⊢
 rcases r with rfl|rfl
 ·simp[d7]
 ·simp[Z]
theorem by1{F:DEnds}{a:List Int}{y7 y8 y9:Option D}{r:D}(H:FS sh dn sa pa wa ka ba aa da S ws a [] A st)(q:F.rt r st):j7 (Zg P G (n+1)) X8 F [AA nd,AA (.ref ka),AA nm,AA md,AA (.ref ba),AA (.ref aa),AA (.ref da),y7,y8,y9,AA r] st:=by
 simp only[X8,F0,M5,Ss.tl];∎;rw[r8 (.inl H.b)];rfl';rw[if_pos ∅];∎;exact q
def b60(I:(ka::ba::aa::da::shL sh dn sa pa wa).Nodup){F:DEnds}{j kn0:List Int}{B:List D}{w:Int}{y7 y8 y9:Option D}{r:D}{i:List D}(H:FS sh dn sa pa wa ka ba aa da S ws j (B++[.ref a]) (A++[.ref ca]) st)(z:st ca=AA (.lst i))(hl:i.length<100000)(L:st a=AA (ndO p la x h w kd))(t:ca∉ka::ba::aa::da::shL sh dn sa pa wa)(u:j.take kn0.length=kn0)(C:j.length=kn0.length+p.more i.length)
  (q:∀c,FS sh dn sa pa wa ka ba aa da S ws kn0 (B++[.ref a]) (A++[.ref ca]) c->c ca=AA (.lst (i++[r]))->KpI R (ca::fL sh dn sa pa wa ka ba aa) st c->F.nx [AA nd,AA (.ref ka),AA nm,AA md,AA (.ref ba),AA (.ref aa),AA (.ref da),y7,y8,y9,AA r] c):j7 (Zg P G (n+1)) X8 F [AA nd,AA (.ref ka),AA nm,AA md,AA (.ref ba),AA (.ref aa),AA (.ref da),y7,y8,y9,AA r] st:=by
 have s:∀f∈([("program":Str),("inside":Str),("number":Str),("holders":Str),("ways":Str),("used":Str),("kind":Str)]:List Str),f∈G.cls "Node":=λf hf=>by rw[T.ncl];exact hf
 simp only[BP,AN,AZ,or_false,not_or]at I t;obtain⟨⟨V,Q,O,N⟩,⟨d5,d6,d7⟩,⟨d8,d9⟩,U,_⟩:=I;obtain⟨J,Z,Y,X,W⟩:=t;simp only[X8,F0,M5,Ss.tl];∎;rw[r8 (.inl H.b)];rfl';rw[if_neg (by simp only[Ad,AV,Ao];lia)];have E:∀c,FS sh dn sa pa wa ka ba aa da S ws kn0 (B++[.ref a]) (A++[.ref ca]) c->c ca=AA (.lst i)->KpI R (ca::fL sh dn sa pa wa ka ba aa) st c->j7 (Zg P G (n+1)) (.cons (.ex (.app (.ix (.v 5) (.neg (.int 1))) (.v 10))) .nil) F [AA nd,AA (.ref ka),AA nm,AA md,AA (.ref ba),AA (.ref aa),AA (.ref da),y7,y8,y9,AA r] c:=by
  intro c m l KI;∎;rw[l7 (.inl m.a)];refine⟨_,J5,?_⟩;rw[A6 (.inl l)];refine⟨trivial,?_⟩;rw[B7 l];refine⟨B3 ⋯,?_⟩;have g:Kp [ca] c (b0 c ca (.lst (i++[r]))):=Kp.refl.put ∎;exact q _ ⟨m.K.keepL g (by simp[W]),g.at' m.k (by simp[Aw J]),g.at' m.b (by simp[Aw Z]),g.at' m.a (by simp[Aw Y]),g.at' m.d (by simp[Aw X])⟩ f8 (KI.put ∎ l)
 ∎;refine⟨by rw[T.more];rfl,?_⟩;rw[l7 (.inl H.b)];refine⟨_,J5,a,"Node",_,p.d,rfl,L,s _ ∎,rfl,?_⟩;rw[l7 (.inl H.a)];refine⟨_,J5,?_⟩;rw[r8 (.inl z)];refine am4 T.toPIn p i.length ?_;rfl';have o:=ba7 p i.length
 rcases o with o|o
 ·rw[o]at C ⊢;rw[if_neg ∅];have e:j=kn0:=by rw[Dh ⋯]at u;exact u
  subst e;exact E st H z KpI.refl
 ·rw[o]at C ⊢;rw[if_pos ∅];obtain⟨e,rfl⟩:∃e,j=kn0++[e]:=by
   have M:(j.drop kn0.length).length=1:=by rw[Bo];lia
   match h4:j.drop kn0.length,M with
   |[e],_=>exact⟨e,by have:=Ew kn0.length j;rw[u,h4]at this;exact this.symm⟩
  have y:=H.k;rw[Ah]at y;∎;rw[U5 y];have g:Kp [ka] st (b0 st ka (.lst (kn0.map D.int))):=Kp.refl.put ∎;exact E _ ⟨H.K.keepL g (by simp[N]),f8,g.at' H.b (by simp[Aw V]),g.at' H.a (by simp[Aw Q]),g.at' H.d (by simp[Aw O])⟩ (g.at' z (by simp[J])) (KpI.refl.put ∎ y)
end
def FS.fresh{c:AH}{S:List It3}{e:List Int}{B:List D}(H:FS sh dn sa pa wa ka ba aa da S ws e B A st)(h:st c=AF):c∉ka::ba::aa::da::shL sh dn sa pa wa:=by
 intro z;simp only[AN,AZ,or_false]at z
 rcases z with rfl|rfl|rfl|rfl|rfl|rfl|rfl|rfl|rfl
 ·have:=H.k;rw[h]at this;cases this
 ·have:=H.b;rw[h]at this;cases this
 ·have:=H.a;rw[h]at this;cases this
 ·have:=H.d;rw[h]at this;cases this
 ·have:=H.K.A.ins;rw[h]at this;cases this
 ·have:=H.K.A.num;rw[h]at this;cases this
 ·have:=H.K.A.sto;rw[h]at this;cases this
 ·have:=H.K.A.par;rw[h]at this;cases this
 ·have:=H.K.W;rw[h]at this;cases this
def wl{Z:Sg}{a:DS}{F:DEnds}{t:Nat}{env:j6}(h:a {F with nx:=z8 (wpT Z (.bl AD)) a F t,ct:=z8 (wpT Z (.bl AD)) a F t,bk:=F.nx} env st):z8 (wpT Z (.bl AD)) a F (t+1) env st:=⟨AD,rfl,h⟩
def b50{S:List It3}(w:Wf S')(a:S <+: S')(h:∀k∈ks,Has S k.d):v0 S' ks=v0 S ks:=IN λk hk=>by rw[N8 w (h k hk) a]
section
variable (T:PNo P G) 
include T
def b02(hnm:Cok P nm)(N:at6 P G (n+1) sh dn sa pa wa nm)(hmd:Cok P md)(M:as9 P G (n+1) sh dn sa pa wa md)(dj:(ka::ba::aa::da::shL sh dn sa pa wa).Nodup){F:DEnds}:∀(z:Nat)(p:Pg),p.parts<=z->p.kn 3->∀{Γ:List Kd}{k:Kd}{h:Int}{st0 st:Sto}{X:List AH}{S:List It3}{ws:List (Kd×Bool)}{kn:List Int}{B A:List D}{a ca:AH}{f:List AH}{x7 x8 x9 x10:Option D}{m:Nat},
  p.kind Γ=AA k->h<=1->Nd st0 X st h p a f->(∀y∈f,y∈R)->(∀y∈ca::da::fL sh dn sa pa wa ka ba aa,y∈X)->FS sh dn sa pa wa ka ba aa da S ws kn (B++[.ref a]) (A++[.ref ca]) st->st ca=AA (.lst [])->KnOk S ws Γ kn->S.length+256*p.parts<=900000->B.length+p.parts<100000->A.length+p.parts<100000->kn.length+p.parts<100000->ca∉ka::ba::aa::da::shL sh dn sa pa wa ->
  (∀S' ws' st' ks y7 y8 y9 y10,FS sh dn sa pa wa ka ba aa da S' ws' kn (B++[.ref a]) (A++[.ref ca]) st'->st' ca=AA (.lst (v0 S' ks))->ks.length=p.kids.length->(∀k∈ks,Has S' k.d)->p.kk Γ ks=AA k->S <+: S'->S'.length+256<=S.length+256*p.parts->WUp ws ws'->KpI R (ca::fL sh dn sa pa wa ka ba aa) st st'->z8 (wpT (Zg P G (n+1)) (.bl AD)) (j7 (Zg P G (n+1)) F0) F m [AA nd,AA (.ref ka),AA nm,AA md,AA (.ref ba),AA (.ref aa),AA (.ref da),y7,y8,y9,y10] st') ->
  z8 (wpT (Zg P G (n+1)) (.bl AD)) (j7 (Zg P G (n+1)) F0) F (m+2*(p.parts-1)) [AA nd,AA (.ref ka),AA nm,AA md,AA (.ref ba),AA (.ref aa),AA (.ref da),x7,x8,x9,x10] st:=by
 intro z
 induction z with
 |zero=>intro p hz;have:=Pg.parts_kids p;lia
 |succ z ih=>
  intro p hz hkn7 Γ k h st0 st X S ws kn B A a ca f x7 x8 x9 x10 m hk h1 nd0 hR hX H hc hkn hS hB hA hK hcl q;obtain⟨ks,kl,hkk,hkid⟩:=Pg.kind_inv hk;have hpk:=Pg.parts_kids p;have inner:∀(j i:Nat),i+j=p.kids.length->∀{S1:List It3}{ws1:List (Kd×Bool)}{st1:Sto}{y7 y8 y9 y10:Option D},FS sh dn sa pa wa ka ba aa da S1 ws1 kn (B++[.ref a]) (A++[.ref ca]) st1->st1 ca=AA (.lst (v0 S1 (ks.take i)))->(∀k∈ks.take i,Has S1 k.d)->S <+: S1->S1.length+256*((p.kids.drop i).map Pg.parts).sum+256<=S.length+256*p.parts->WUp ws ws1->KpI R (ca::fL sh dn sa pa wa ka ba aa) st st1->z8 (wpT (Zg P G (n+1)) (.bl AD)) (j7 (Zg P G (n+1)) F0) F (m+2*((p.kids.drop i).map Pg.parts).sum) [AA nd,AA (.ref ka),AA nm,AA md,AA (.ref ba),AA (.ref aa),AA (.ref da),y7,y8,y9,y10] st1:=by
   intro j
   induction j with
   |zero=>
    intro i hi S1 ws1 st1 y7 y8 y9 y10 H1 hc1 hh1 p1 l1 w1 K1;rw[Eh ⋯]at l1 ⊢;rw[Dh ⋯]at hc1 hh1;simp only[Eg,Gu,Nat.mul_zero,Nat.add_zero]at l1 ⊢;exact q S1 ws1 st1 ks _ _ _ _ H1 hc1 kl hh1 hkk p1 l1 w1 K1
   |succ j ihj=>
    intro i hi S1 ws1 st1 y7 y8 y9 y10 H1 hc1 hh1 p1 l1 w1 K1;have hil:i<p.kids.length:=by lia
    obtain⟨c,hci⟩:∃c,p.kids[i]?=AA c:=⟨_,AJ hil⟩;obtain⟨a0,Δ,hai,hC,hck⟩:=hkid i c hci;have hdr:p.kids.drop i=c::p.kids.drop (i+1):=by
     rw[CO hil];rw[AJ hil]at hci;cases hci;rfl
    rw[hdr]at l1 ⊢;simp only[As,DL]at l1 ⊢;have cpos:=Pg.parts_kids c;have hcm:c∈p.kids:=BS hci;have hcs:=ao4 Pg.parts hcm;have htl:(ks.take i).length=i:=by rw[Bn];lia
    have n1:=nd0.kpi K1 (λy hy=>hX y (by simp only[AN]at hy ⊢;rcases hy with h|h;exact .inl h;exact .inr (.inr h)));obtain⟨hkX⟩:Nonempty (p.told 3):=⟨Pg.told_kn hkn7⟩;generalize hr:((p.kids.drop (i+1)).map Pg.parts).sum=r at l1 ⊢;rw[show m+2*(c.parts+r)=((m+2*r+1)+2*(c.parts-1))+1 by lia];refine wl ?_;cases n1 with
    |@mk _ _ _ la x w kd as fs e1 e2 e3 e4 e5 e6 e7 e8 e9=>
    obtain⟨b,hbi⟩:∃b,as[i]?=AA b:=⟨_,AJ ⋯⟩;obtain⟨fb,hfi⟩:∃b,fs[i]?=AA b:=⟨_,AJ ⋯⟩;have nb1:=e9 i c b fb hci hbi hfi;have hRb:∀y∈fb,y∈R:=λy hy=>hR y (Ar _ (CQ.mpr ⟨fb,BS hfi,hy⟩));have hla:la∉ka::ba::aa::da::shL sh dn sa pa wa:=λz=>e4 (hX _ (by simp only[AN,AZ,or_false]at z ⊢;rcases z with z|z|z|z|z|z|z|z|z<;>simp[z]));refine bt1 (R:=R) T hnm N dj (ks:=ks.take i) (Γ:=Γ) (Δ:=Δ) H1 hc1 hh1 e1 e2 h1 e3 (by rw[htl];exact hci) (by rw[htl];exact hbi) hkX (by rw[htl];exact hC) (hkn.up H1.K.A.wf p1 w1) ⋯ ⋯ ⋯ ⋯ hcl hla λS2 ws2 st2 kn2 cb v7 v8 v9 v10 H2 hcb hcb0 p2 l2 w2 k2 k3 k4 K2=>?_;rw[htl]at k4;have cbf:=H1.fresh hcb0;have hm01:=ba7 p i;have nb2:=(nb1.addX hcb0).kpi K2 (λy hy=>Ar _ (hX y (by simp only[AN]at hy ⊢;exact .inr (.inr hy))));refine ih c ⋯ (Pg.kn_kids p hkn7 c hcm) hck ∅ nb2 hRb (λy hy=>by
     rcases AN.mp hy with rfl|hy
     ·simp
     ·exact Ar _ (hX y (Ar _ hy))) H2 hcb k2 ⋯ (by simp;lia) (by simp;lia) ⋯ cbf λS3 ws3 st3 ks3 u7 u8 u9 u10 H3 hc3 kl3 hh3 hkk3 p3 l3 w3 K3=>?_
    refine wl ?_;have nb3:=nb2.kpi K3 (λy hy=>by
     rcases AN.mp hy with rfl|hy
     ·simp
     ·exact Ar _ (hX y (by simp only[AN]at hy ⊢;exact .inr (.inr hy))))
    cases nb3 with
    |@mk _ _ _ lb xb wb kdb asb fsb b1 b2 b3 b4 b5 b6 b7 b8 b9=>
    refine a81 (R:=R) T hmd M dj H3 hc3 hh3 b1 b2 ∅ b3 ⋯ (Pg.told_kn (Pg.kn_kids p hkn7 c hcm)) hkk3 (k2.up H3.K.A.wf p3 w3) ⋯ (by simp only[AN,AZ,or_false,not_or]at cbf ⊢;simp[cbf]) (hRb b (by obtain⟨_,_,_,_,_,_,h,_⟩:=nb1.root;exact h)) λS4 ws4 st4 t7 t8 H4 g1 p4 l4 w4 K4=>?_;have K14:KpI R (ca::fL sh dn sa pa wa ka ba aa) st1 st4:=by
     refine KpI.drop (p:=cb) ?_ hcb0;exact((K2.more (λd hd=>by simp only[AN]at hd ⊢;exact .inr (.inr hd))).trans (K3.more (λd hd=>by simp only[AN]at hd ⊢;rcases hd with h|h;exact .inl h;exact .inr (.inr h)))).trans (K4.more (λd hd=>by simp only[AN]at hd ⊢;exact .inr (.inr hd)))
    have hcaf:ca∉fL sh dn sa pa wa ka ba aa:=by simp only[AN,AZ,or_false,not_or]at hcl ⊢;simp[hcl]
    have hcab:ca≠cb:=j9 hc1 hcb0;have hca4:st4 ca=AA (.lst (v0 S1 (ks.take i))):=K4.lst (K3.lst (K2.lst hc1 hcaf) (by simp only[AN,not_or];simp only[AN,not_or]at hcaf;exact⟨hcab,hcaf⟩)) hcaf;obtain⟨kd4,_,ha4⟩:=K14.i a p la x h w kd e1 e2;have hp14:S1 <+: S4:=p2.trans (p3.trans p4);refine b60 (R:=R) T dj (p:=p) (kn0:=kn) H4 hca4 (by have:=an3 Pg.parts_kids p.kids;simp only[v0,AW,htl];lia) ha4 hcl k3 (by rw[k4];simp only[v0,AW,htl]) λst5 H5 hc5 K5=>?_;have ek:ks.take (i+1)=ks.take i++[a0]:=by rw[List.take_succ,hai];rfl
    rw[<-hr];refine ihj (i+1) ⋯ H5 ?_ ?_ (p1.trans hp14) (by rw[hr];lia) (w1.trans (w2.trans (w3.trans w4))) (K1.trans (K14.trans K5))
    ·rw[hc5,ek];have:v0 S4 (ks.take i++[a0])=v0 S4 (ks.take i)++[.int (nb S4 a0.d:Nat)]:=by simp[v0]
     rw[this,b50 H4.K.A.wf hp14 hh1]
    ·rw[ek];intro y hy
     rcases BI.mp hy with hy|hy
     ·exact(hh1 y hy).mono hp14
     ·simp only[BY]at hy;subst hy;exact g1
  have:=inner p.kids.length 0 ⋯ (y7:=x7) (y8:=x8) (y9:=x9) (y10:=x10) H (by simpa[v0]using hc) ∎ (Cz _) (by simp only[Kj];lia) rfl KpI.refl;simp only[Kj]at this;rw[show p.parts-1=(p.kids.map Pg.parts).sum by lia];exact this
end
def KA.fresh{x:AH}{S:List It3}(K:KA sh dn sa pa wa S ws st)(h:st x=AF):x∉shL sh dn sa pa wa:=by
 intro z;simp only[AN,AZ,or_false]at z
 rcases z with rfl|rfl|rfl|rfl|rfl
 ·have:=K.A.ins;rw[h]at this;cases this
 ·have:=K.A.num;rw[h]at this;cases this
 ·have:=K.A.sto;rw[h]at this;cases this
 ·have:=K.A.par;rw[h]at this;cases this
 ·have:=K.W;rw[h]at this;cases this
def ShD.all(h:ShD sh dn sa pa wa):(shL sh dn sa pa wa).Nodup:=by
 have b:=h.nd;have a:=h.wd;have c:=h.ws;simp only[BP,AN,AZ,or_false,not_or,Ke,and_true,not_false_eq_true]at b a ⊢;obtain⟨⟨m,l,k⟩,⟨j,i⟩,g⟩:=b;obtain⟨f,e,d⟩:=a;exact⟨⟨m,l,k,Aw c⟩,⟨j,i,Aw f⟩,⟨g,Aw e⟩,Aw d⟩
section
variable (T:PNo P G) {S:List It3} 
include T
def bv6(Y:Cok P nm)(N:at6 P G (n+1) sh dn sa pa wa nm)(E:Cok P md)(M:as9 P G (n+1) sh dn sa pa wa md){p:Pg}{k:Kd}{C:Sto}{f:List AH}{J:List Int}(Z:G.cls "!kt"≠[])(hk:p.kind Γ=AA k)(h7:p.kn 3)(nd:Nd C X st 0 p a f)(K:KA sh dn sa pa wa S ws st)(l:st ka=AA (.lst (J.map D.int)))(H:KnOk S ws Γ J)(hS:S.length+256*p.parts<=900000)(hkl:J.length<=50000)(F:ka∉shL sh dn sa pa wa)(hX:∀y∈ka::shL sh dn sa pa wa,y∈X)
  (q:∀O B u,Has O k.d->KA sh dn sa pa wa O B u->Up S ws O B p->KpI f (ka::shL sh dn sa pa wa) st u->Q (.int (nb O k.d:Nat)) u):sem P G (n+2) "folded" [.ref a,.ref ka,nm,md] st Q:=by
 refine i5 T.fol rfl [AA (.ref a),AA (.ref ka),AA nm,AA md,AF,AF,AF,AF,AF,AF,AF] rfl ?_;unfold M5;∎;intro g x;∎;intro c o;intro i m;∎;refine⟨Z,λda hda=>?_⟩;have s:st g=AF:=x;have r:st c=AF:=G9 o;have t:st i=AF:=G9 (G9 m);have z:st da=AF:=G9 (G9 (G9 hda));have L:g≠c:=j9 f8 o;have ab:g≠i:=j9 (f7 f8 L) m;have ac:c≠i:=j9 f8 m;have db:g≠da:=j9 (f7 (f7 f8 L) ab) hda;have dc:c≠da:=j9 (f7 f8 ac) hda;have dA:i≠da:=j9 f8 hda;have kb:ka≠g:=j9 l s;have kc:ka≠c:=j9 l r;have kA:ka≠i:=j9 l t;have kD:ka≠da:=j9 l z;have V:KpI f (ka::shL sh dn sa pa wa) st (b0 (b0 (b0 (b0 st g (.lst [.ref a])) c (.lst [])) i (.lst [.ref c])) da (.dtt [])):=((((KpI.refl.new x).new o).new m).new hda);have U:Kp [] st (b0 (b0 (b0 (b0 st g (.lst [.ref a])) c (.lst [])) i (.lst [.ref c])) da (.dtt [])):=((((Kp.refl.new x).new o).new m).new hda);have j:Nd C (da::i::c::g::X) (b0 (b0 (b0 (b0 st g (.lst [.ref a])) c (.lst [])) i (.lst [.ref c])) da (.dtt [])) 0 p a f:=(((nd.addX s).addX r).addX t |>.addX z).kpi V (λy b=>by simp[hX y b]);have H4:FS sh dn sa pa wa ka g i da S ws J ([]++[.ref a]) ([]++[.ref c]) (b0 (b0 (b0 (b0 st g (.lst [.ref a])) c (.lst [])) i (.lst [.ref c])) da (.dtt [])):=⟨K.keep U,U.at' l ∎,f7 (f7 (f7 f8 L) ab) db,f7 f8 dA,f8⟩;have w:(b0 (b0 (b0 (b0 st g (.lst [.ref a])) c (.lst [])) i (.lst [.ref c])) da (.dtt [])) c=AA (.lst []):=f7 (f7 f8 ac) dc;have dj:(ka::g::i::da::shL sh dn sa pa wa).Nodup:=by
  refine BP.mpr ⟨?_,BP.mpr ⟨?_,BP.mpr ⟨?_,BP.mpr ⟨K.fresh z,K.D0.all⟩⟩⟩⟩
  ·simp only[AN,not_or];simp only[AN,not_or]at F;exact⟨kb,kA,kD,F⟩
  ·have:=K.fresh s;simp only[AN,not_or]at this ⊢;exact⟨ab,db,this⟩
  ·have:=K.fresh t;simp only[AN,not_or]at this ⊢;exact⟨dA,this⟩
 have v:c∉ka::g::i::da::shL sh dn sa pa wa:=by
  have:=K.fresh r;simp only[AN,not_or]at this ⊢;exact⟨Aw kc,Aw L,ac,dc,this⟩
 have hpk:=Pg.parts_kids p;∎;refine⟨1+2*(p.parts-1),?_⟩;revert V U j H4 w;generalize b0 (b0 (b0 (b0 st g (.lst [.ref a])) c (.lst [])) i (.lst [.ref c])) da (.dtt [])=st4;intro V U j H4 w;show z8 (wpT (Zg P G (n+1)) (.bl AD)) (j7 (Zg P G (n+1)) F0) _ _ _ _;have I:∀y∈c::da::fL sh dn sa pa wa ka g i,y∈da::i::c::g::X:=by
  intro y b
  rcases AN.mp b with rfl|b
  ·simp
  rcases AN.mp b with rfl|b
  ·simp
  rcases AN.mp b with rfl|b
  ·simp[hX y ∎]
  rcases AN.mp b with rfl|b
  ·simp
  rcases AN.mp b with rfl|b
  ·simp
  ·simp[hX y (Ar _ b)]
 refine b02 (R:=f) T Y N E M dj p.parts p (AS _) h7 hk ∅ j (λy b=>b) I H4 w H hS (by simp;lia) (by simp;lia) ⋯ v λS1 ws1 st1 ks y7 y8 y9 y10 H1 hc1 kl hh1 hkk p1 l1 w1 K1=>?_;refine wl ?_;have W:=j.kpi K1 (λy b=>I y (by simp only[AN]at b ⊢;rcases b with h|h;exact .inl h;exact .inr (.inr h)));have har:a∈f:=by obtain⟨_,_,_,_,_,_,h,_⟩:=j.root;exact h
 cases W with
 |@mk _ _ _ lb xb wb kdb asb fsb b1 b2 b3 b4 b5 b6 b7 b8 b9=>
 refine a81 (R:=a::fsb.flatten) T E M dj H1 hc1 hh1 b1 b2 ∅ b3 ⋯ (Pg.told_kn h7) hkk (H.up H1.K.A.wf p1 w1) ⋯ (by simp only[AN,not_or]at v ⊢;exact v.2.2.2.2) har λS2 ws2 st2 t7 t8 H2 g1 p2 l2 w2 K2=>?_;refine by1 T H2 (c9 (q S2 ws2 st2 g1 H2.K ⟨p1.trans p2,⋯,w1.trans w2⟩ ?_));refine KpI.drop (p:=g) (KpI.drop (p:=i) (KpI.drop (p:=c) ?_ r) t) s;refine((V.more λy b=>?_).trans (K1.more λy b=>?_)).trans (K2.more λy b=>?_)
 ·simp only[AN]at b ⊢;exact .inr (.inr (.inr b))
 ·simp only[AN]at b ⊢
  rcases b with h|h|h|h|h
  ·exact .inl h
  ·exact .inr (.inr (.inr (.inl h)))
  ·exact .inr (.inr (.inl h))
  ·exact .inr (.inl h)
  ·exact .inr (.inr (.inr (.inr h)))
 ·simp only[AN]at b ⊢
  rcases b with h|h|h|h
  ·exact .inr (.inr (.inr (.inl h)))
  ·exact .inr (.inr (.inl h))
  ·exact .inr (.inl h)
  ·exact .inr (.inr (.inr (.inr h)))
end
def Nd.fresh{c:Sto}{f:List AH}(n:Nd c X st h p a f):∀b∈f,c b=AF:=by
 induction n with
 |@mk h p a o x w q m l A z y v u k t s r e=>
  intro b d
  rcases AN.mp d with rfl|d
  ·exact k
  ·obtain⟨f,j,d⟩:=CQ.mp d;obtain⟨i,g,rfl⟩:=FE.mp j;exact e i p.kids[i] m[i] l[i] (AJ ⋯) (AJ ⋯) (AJ g) b d
section
variable (T:PNo P G) {S:List It3} 
include T
def bs2(hn:19<=n){k:Kd}{N:Sto}{f:List AH}{H:List Int}(C:p.kind Γ=AA k)(h7:p.kn 3)(nd:Nd N X st 0 p a f)(K:KA sh dn sa pa wa S F st)(u:st s=AA (.lst (H.map D.int)))(t:KnOk S F Γ H)(E:S.length+256*p.parts<=900000)(U:H.length<=50000)(R:s∉shL sh dn sa pa wa)(hX:∀y∈s::shL sh dn sa pa wa,y∈X)
  (q:∀S' g e,Has S' k.d->KA sh dn sa pa wa S' g e->Up S F S' g p->KpI f (s::shL sh dn sa pa wa) st e->Q (.int (nb S' k.d:Nat)) e):sem P G n "kind_of_node" [.ref a,.ref s,.ref sh] st Q:=by
 obtain⟨n,rfl⟩:∃m,n=m+3:=⟨n-3,⋯⟩;have B:∀f∈([("program":Str),("inside":Str),("number":Str),("holders":Str),("ways":Str),("used":Str),("kind":Str)]:List Str),f∈G.cls "Node":=λf hf=>by rw[T.ncl];exact hf
 refine i5 T.kon rfl [AA (.ref a),AA (.ref s),AA (.ref sh),AF,AF,AF,AF] rfl ?_;unfold ai1;(iterate 3 ∎);refine⟨by rw[T.fol];rfl,bv6 T (show Cok P (.clo _ _ _ _) from trivial) ?_ (show Cok P (.clo _ _ _ _) from trivial) ?_ T.kt C h7 nd K u t E U R hX λS' g e h1 h2 h3 h4=>c9 (q S' g e h1 h2 h3 h4)⟩
 ·intro st S F M p i a ks Q K O hm C B W E q;refine P1 rfl [AA p.d,AA (.ref M),AA (.int i),AA (.ref sh)] rfl ?_;∎;exact⟨by rw[T.nnm];rfl,bp9 T.toPKo ⋯ K O hm C B W E λS' g e h1 h2 h3 h4 h5 h6=>c9 (q S' g e h1 h2 h3 h4 h5 h6)⟩
 ·intro st S F M s b la p Γ k ks H x h w kd Q K O C Z W u t Y E J V q;refine P1 rfl [AA (.ref b),AA (.ref M),AA (.ref s),AA (.ref sh),AF] rfl ?_;∎;refine⟨by rw[T.kbp];rfl,b,"Node",_,p.d,rfl,J,B _ ∎,rfl,?_⟩;refine cl9 T.toPKo ⋯ K O C Z W u t Y E λS' g e h1 h2 h3 h4 h5 h6=>?_;have z:=h6.at' J (K.noNode J);have fin:∀kd',C7 kd'->Q (.int (nb S' k.d:Nat)) (b0 e b (ndO p la x h w kd')):=λkd' hk'=>q S' g _ kd' h1 h2 h3 (h4.keepL (Kp.refl.put (L:=[b]) ∎) (by intro y I;simp only[BY]at I;subst I;exact K.noNode J)) h5 ((h6.more (by intro y I;exact Ar _ I)).put ∎) f8 hk';∎;refine⟨b,"Node",_,kd,rfl,z,B _ ∎,rfl,?_⟩;have o:∀kd',C7 kd'->∃p c fs,D.ref b=D.ref p/\e p=AA (.ins c fs)/\("kind":Str)∈G.cls c/\fs.length<1000/\j7 (Zg P G n) (.cons (.ret (.v 4)) .nil) (o0 Q) [AA (.ref b),AA (.ref M),AA (.ref s),AA (.ref sh),AA (.int (nb S' k.d:Nat))] (b0 e p (.ins c (l0 "kind" kd' fs))):=λkd' hk'=>⟨b,"Node",_,rfl,z,B _ ∎,by simp[ndF],by
   rw[b40];∎;exact c9 (fin kd' hk')⟩
  rcases V with rfl|⟨j,rfl⟩
  ·exact .inl ⟨rfl,o _ (.inr ⟨_,rfl⟩)⟩
  ·refine .inr ⟨nofun,b,"Node",_,.int j,rfl,z,B _ ∎,rfl,?_⟩;rfl'
   split
   ·exact o _ (.inr ⟨_,rfl⟩)
   ·exact o _ (.inr ⟨_,rfl⟩)
def ay2(M:20<=n){k:Kd}{t:List Int}(F:p.parts<=2000)(H:p.kind Γ=AA k)(J:p.kn 3)(K:KA sh dn sa pa wa S ws st)(i:st ka=AA (.lst (t.map D.int)))(B:KnOk S ws Γ t)(I:S.length+256*p.parts<=900000)(C:t.length<=50000)(w:ka∉shL sh dn sa pa wa)
  (q:∀S' g h,Has S' k.d->KA sh dn sa pa wa S' g h->Up S ws S' g p->Kp (ka::shL sh dn sa pa wa) st h->Q (.int (nb S' k.d:Nat)) h):sem P G n "shelved_kind" [p.d,.ref ka,.ref sh] st Q:=by
 obtain⟨n,rfl⟩:∃m,n=m+1:=⟨n-1,⋯⟩;refine i5 T.shk rfl [AA p.d,AA (.ref ka),AA (.ref sh)] rfl ?_;unfold ai4;∎;refine⟨by rw[T.kon];rfl,by rw[T.nod];rfl,?_⟩;rfl';intro s hna;have L:Kp [] st (b0 st s (.lst [])):=Kp.refl.new hna;have c:=K.keep L;have r:∀x∈ka::shL sh dn sa pa wa,∃o,b0 st s (.lst []) x=AA o:=by
  intro x r;simp only[AN,AZ,or_false]at r
  rcases r with rfl|rfl|rfl|rfl|rfl|rfl
  ·exact⟨_,l5 i hna⟩
  ·exact⟨_,c.A.ins⟩
  ·exact⟨_,c.A.num⟩
  ·exact⟨_,c.A.sto⟩
  ·exact⟨_,c.A.par⟩
  ·exact⟨_,c.W⟩
 refine b39 T (X:=ka::shL sh dn sa pa wa) ⋯ F f8 r λa f h nd K1=>?_;have v:ka≠s:=j9 i hna;refine bs2 T ⋯ H J nd (c.keepL K1 (by intro y l;simp only[BY]at l;subst l;exact K.fresh hna)) (K1.at' (l5 i hna) (by simpa using v)) B I C w (λy l=>l) λS' g st2 h1 h2 hu h3=>c9 (q S' g st2 h1 h2 hu λb o nb e=>?_);have E:=l5 (u:=.lst []) e hna;exact h3.k b o nb (λz=>by rw[nd.fresh b z]at E;cases E) (K1.at' E (by simpa using j9 e hna))
end
def En.app{S:List It3}{l:List (Kd×Bool)}{e:Int}{k:Kd}(h:En S ws e k):En S (ws++l) e k:=by
 rcases h with h|⟨j,b,e,h⟩
 ·exact .inl h
 ·exact .inr ⟨j,b,e,by rw[Ac (AY.mp h).1];exact h⟩
theorem KnOk.app{S:List It3}{l:List (Kd×Bool)}{a:List Int}(h:KnOk S ws Γ a):KnOk S (ws++l) Γ a:=
 ⟨h.len,λm k hk=>let⟨e,c,b⟩:=h.at' m k hk;⟨e,c,b.app⟩⟩
section
variable (T:PNo P G) {S:List It3}
include T
def aw9(hΓ:∀k∈Γ,k.nest<=3)(hl:Γ.length<2000)(K:KA sh dn sa pa wa S [] st)
  (q:∀ws' kn ka st',KA sh dn sa pa wa S ws' st'->st ka=AF->st' ka=AA (.lst (kn.map D.int))->KnOk S ws' Γ kn->kn.length=Γ.length->Kp [wa] st st'->Q (.ref ka) st'):sem P G (n+2) "shelved_names" [.tup (Γ.map Kd.d),.ref sh] st Q:=by
 refine i5 T.shn rfl [AA (.tup (Γ.map Kd.d)),AA (.ref sh)] rfl ?_;unfold ag9;∎;refine⟨by simp;lia,?_⟩;refine O7 (λl acc env' st'=>∃(pre suf:List Kd)(x:Option D)(kn:List Int),Γ.reverse=pre++suf/\l=suf.map Kd.d/\acc=kn.map D.int/\env'=[AA (.ref sh),x]/\KA sh dn sa pa wa S (pre.map λk=>(k,AE)) st'/\KnOk S (pre.map λk=>(k,AE)) pre.reverse kn/\Kp [wa] st st') ?_ ?_ _ _ _ _ ⟨[],Γ.reverse,AF,[],rfl,by rw[JE],rfl,rfl,K,⟨rfl,λm k hk=>(by simp at hk)⟩,Kp.refl⟩
 ·rintro acc env' st' ⟨pre,suf,x,kn,e1,e2,rfl,rfl,K1,k1,K2⟩;have es:suf=[]:=by simpa using e2.symm
  subst es;rw[BZ]at e1;refine⟨trivial,λka hka=>?_⟩;have eg:pre.reverse=Γ:=by rw[<-e1,IE]
  rw[eg]at k1;have hka0:st ka=AF:=by
   cases e:st ka with
   |none=>rfl
   |some o=>
    by_cases z:ka=wa
    ·have:=K1.W;rw[<-z,hka]at this;cases this
    ·rw[K2.at' e (by simpa using z)]at hka;cases hka
  exact c9 (q _ kn ka _ (K1.keep (Kp.refl.new hka)) hka0 f8 k1 k1.len (K2.new hka))
 ·rintro d ds acc env' st' ih ⟨pre,suf,x,kn,e1,e2,rfl,rfl,K1,k1,K2⟩;refine⟨trivial,?_⟩;cases suf with
  |nil=>simp at e2
  |cons k suf=>
   simp only[As,Aq]at e2;obtain⟨rfl,rfl⟩:=e2;have hkm:k∈Γ:=by
    have:k∈Γ.reverse:=by rw[e1];simp
    simpa using this
   have hpl:pre.length<2000:=by
    have:=congrArg CV e1;simp at this;lia
   refine⟨.ref sh,rfl,sh,"Shelf",_,rfl,K1.A.ins,rfl,by rw[T.ptb];rfl,k.d,rfl,?_⟩;refine b19 T.toPKd K1 (hΓ k hkm) (by simpa using hpl) λst2 K3 K4=>?_;refine ih _ _ _ ⟨pre++[k],suf,_,kn++[-(((pre.map λk=>(k,AE)).length:Int)+1)],by rw[e1];simp,rfl,∎,rfl,by simpa using K3,?_,K2.trans K4⟩;rw[IP,Ah];exact(k1.app).cons (.inr ⟨pre.length,AE,∎,∎⟩)
def ay8(u:24<=n){k:Kd}(t:p.parts<=2000)(f:∀k∈Γ,k.nest<=3)(j:Γ.length<2000)(l:p.kind Γ=AA k)(r:p.kn 3)(q:∀a,Kp [] st a->Q k.d a):sem P G n "kind_of" [p.d,.tup (Γ.map Kd.d)] st Q:=by
 obtain⟨n,rfl⟩:∃m,n=m+3:=⟨n-3,⋯⟩;refine i5 T.ko rfl [AA p.d,AA (.tup (Γ.map Kd.d)),AF] rfl ?_;unfold al3;∎;refine⟨by show(AD&&_)=AD;rw[T.init];rfl,λsh hsh=>?_⟩;refine aq5 (n:=n+1) ?_;refine ax5 T.toPSh hsh λdn sa pa wa s1 A1 hd hfr hw1 hw2 hw3 K1=>⟨rfl,?_⟩;have c:KA sh dn sa pa wa [] [] s1:=⟨A1,⟨hd,hw1,hw2⟩,hw3,∎,∎,∎⟩;∎;refine⟨sh,"Shelf",_,rfl,A1.ins,rfl,by rw[T.tup];rfl,by rw[T.shk];rfl,by rw[T.shn];rfl,?_⟩;refine aw9 T (n:=n) f j c λws2 kn ka s2 KA2 hka0 hka hkn hkl K2=>?_;have g:=c.fresh hka0;refine ay2 T ⋯ ⋯ l r KA2 hka hkn (by simp;lia) ⋯ g λS3 ws3 s3 h3 KA3 _ K3=>?_;refine a82 T.toPSh KA3.A h3 (c9 (q s3 λb o _ e=>?_));have i:=K1.at' e ∎;have h:b∉shL sh dn sa pa wa:=λz=>by rw[hfr b z]at e;cases e
 have s:=K2.at' i (by simp only[BY];exact λz=>h (by simp[z]));exact K3.at' s (by simp only[AN,not_or];exact⟨j9 i hka0,by simpa using h⟩)
end
theorem am2{j:Sto->Prop}{q:DB}{p:DT}{R:List D->Sto->Prop}{f:D->D}(k:j6->Prop){M:List D}(c:∀a d,k a->k (a.set i (AA d)))(g:∀a K,K AD st->q a st K)(e:∀a d K,d∈M->k a->K (f d) st->p (a.set i (AA d)) st K)(l:j st):
  ∀(h b:List D)(a:j6),(∀d∈h,d∈M)->k a->R (b++h.map f) st->A0 j (.n i) q p R h b a st
 |[],b,a,_,o,m=>by rw[a04];exact⟨l,by simpa using m⟩
 |d::h,b,a,r,o,m=>by
  rw[az1,bf7];refine⟨l,g _ _ ?_⟩;rw[if_pos rfl];exact e a d _ (r d ∎) o (am2 k c g e l h (b++[f d]) _ (λx hx=>r x (by simp[hx])) (c a d o) (by simpa using m))
def cv0{T:Type}{l:List T}{g:T->D}(b:ds.length=l.length)(a:∀(i:Nat)c d,l[i]?=AA c->ds[i]?=AA d->d=g c):ds=l.map g:=by
 refine EG λi=>?_;rw[Ag]
 by_cases h:i<l.length
 ·rw[AJ h,AJ (show i<ds.length by lia)];exact congrArg AA (a i _ _ (AJ h) (AJ ⋯))
 ·rw[Bj ⋯,Bj ⋯];rfl
section
variable (J:PNm P G) 
include J
def az4{C:D}{f:Nat->Nat->Option Pg}{L:List AH}{Jv:Sto->Prop}(hC:Cok P C)(hJ:∀{t e:Sto}{K:List AH},Jv t->(∀a∈L,a∉K)->Kp K t e->Jv e)(F:∀{t},Jv t->∀a∈L,∃o,t a=AA o){p:Pg}(hp:p.parts<=2000)(hm:p.hgt<=m)(hn:6<=n)(j0:Jv t)
  (hc:∀(k:Nat)(c:Pg)(u:Nat)e Q,n<=k+4->u+c.hgt<=m->Jv e->Kp L t e->(∀st2,Jv st2->Kp L e st2->Q (O2 f c u) st2)->D5 P G k C [c.d,.int u] e Q)
  (q:∀e,Jv e->Kp L t e->Q (p.mp f 0).d e):sem P G n "with_parts" [p.d,C] t Q:=by
 obtain⟨n,rfl⟩:∃m,n=m+4:=⟨n-4,⋯⟩;have X:∀{t:Sto}{a:AH}{o:Ob},Jv t->t a=AF->Jv (b0 t a o):=λh H=>hJ (K:=[]) h ∎ (Kp.refl.new H);refine i5 J.wparts rfl [AA p.d,AA C,AF,AF,AF,AF] rfl ?_;unfold aj6;(iterate 3 ∎);refine⟨by rw[J.mop];rfl,?_⟩;refine b87 J.toPM (n:=n+1) (T:=Pg×Nat) (enc:=B4) (subs:=λc=>c.1.kidsU c.2) (size:=λc=>c.1.parts) (Di:=λc=>c.2+c.1.hgt<=m) (W:=Unit) (J:=λ_=>Jv) (le:=λ_ _=>True) (L:=L) (λ_=>trivial) (λ_ _=>trivial) (λ{_ _ _ dn}h M K=>hJ h (λa H z=>by simp at z;subst z;exact M H) K) (λc=>Pg.parts_U c.1 c.2) (λc gc c' hc'=>BB (Pg.hgt_U c.1 c.2 c' hc') gc) (show Cok P (.clo _ _ _ _) from trivial) (show Cok P (.clo _ _ _ _) from trivial) (p,0) hp (by show 0+p.hgt<=m;lia) (V:=λ_ _ c d _=>d=.tup [(c.1.mp f c.2).d,.bl (c.1.chd f c.2)]) (λv _ _=>v) (s0:=()) (μ:=λ_=>0) (B:=2000) (by show 0+p.parts<=2000;lia) j0 F ?_ ?_ ?_
 ·rintro⟨c,u⟩ e Q _ gc _ N K k;refine P1 rfl [AA (B4 (c,u)),AA C] rfl ?_;∎;refine S6 hC ?_;unfold B4;rfl';refine hc n c u e _ ⋯ gc N K λst2 A r=>?_
  by_cases hz:O2 f c u=.non
  ·refine .inl ⟨hz,?_⟩;rfl';refine⟨by rw[J.under];rfl,b17 J c u ⋯ λa st3 H h3 K3=>c9 (k _ () _ (.inr ⟨a,rfl,?_,h3⟩) trivial (AS _) (hJ (K:=[]) A ∎ K3) (r.trans (K3.more ∎)))⟩;exact a86 (J:=λ(_:Unit)=>Jv) (s:=()) r (F N) H A F
  ·refine .inr ⟨hz,?_⟩;rfl';intro a H;have hk:c.kidsU u=[]:=by unfold Pg.kidsU;rw[b08 hz];rfl
   refine c9 (k _ () _ (.inr ⟨a,rfl,a86 (J:=λ(_:Unit)=>Jv) (s:=()) r (F N) H A F,?_⟩) trivial (AS _) (X A H) (r.new H));rw[f8,hk];rfl
 ·rintro⟨c,u⟩ dn la e Q ds _ gc _ N K hdn hlaL hne hl0 hla hlen hv hx k;have R:ds=(c.kidsU u).map λc=>D.tup [(c.1.mp f c.2).d,.bl (c.1.chd f c.2)]:=cv0 hlen hv;refine P1 rfl [AA (B4 (c,u)),AA (.ref la),AA C,AF] rfl ?_;have O:∀(x:D)(st2:Sto),(x=.non/\c.mp f u=c/\c.chd f u=AE\/x=(c.mp f u).d/\c.chd f u=AD)->Jv st2->Kp L e st2->j7 (Zg P G (n+1)) (.cons (.ret (.ite (.isN (.v 3)) (.tup (.cons (.ix (.v 0) (.int 0)) (.cons (.bl AE) .nil))) (.tup (.cons (.v 3) (.cons (.bl AD) .nil))))) .nil) (o0 Q) [AA (B4 (c,u)),AA (.ref la),AA C,AA x] st2:=by
   intro x st2 hx2 A r;unfold B4;∎
   rcases hx2 with⟨rfl,e1,e2⟩|⟨rfl,e2⟩
   ·refine .inl ⟨rfl,?_⟩;rfl';exact c9 (k _ () _ (by simp only[e1,e2]) trivial (BK _) A r)
   ·refine .inr ⟨ao7,?_⟩;rfl';exact c9 (k _ () _ (by simp only[e2]) trivial (BK _) A r)
  have U:∀(x:D)(st2:Sto),Jv st2->Kp L e st2->(c.kids=[]->(x=.non/\c.mp f u=c/\c.chd f u=AE\/x=(c.mp f u).d/\c.chd f u=AD))->(c.kids≠[]->x=.non)->j7 (Zg P G (n+1)) (.cons (.iff (.any (.comp ["part"] [] 1 (.n 0) (.seq (.v 1)) .non (.ix (.v 0) (.int 1))))
    (.cons (.set 3 (.call "with_inner" (.cons (.ix (.v 0) (.int 0)) (.cons (.comp ["part"] [] 1 (.n 0) (.seq (.v 1)) .non (.ix (.v 0) (.int 0))) .nil))))
   .nil)
    .nil)
  (.cons (.ret (.ite (.isN (.v 3)) (.tup (.cons (.ix (.v 0) (.int 0)) (.cons (.bl AE) .nil))) (.tup (.cons (.v 3) (.cons (.bl AD) .nil)))))
  .nil)) (o0 Q) [AA (B4 (c,u)),AA (.ref la),AA C,AA x] st2:=by
   intro x st2 A r hx0 hx1;have E:st2 la=AA (.lst ds):=r.at' hla hlaL;have hds:ds.length<=3:=by
    rw[hlen];show(c.kidsU u).length<=3;unfold Pg.kidsU;rw[GR];cases c<;>simp only[Pg.kids,AV,Ao]<;>lia
   ∎;refine⟨_,.inl E,⋯,?_⟩
   let sn:D->D:=λd=>match d with|.tup [_,b]=>b|_=>.non
   let fs:D->D:=λd=>match d with|.tup [a,_]=>a|_=>.non
   have e1:ds.map sn=((c.kidsU u).map λc=>c.1.chd f c.2).map D.bl:=by rw[R,Cj,Cj];rfl
   have e2:ds.map fs=((c.kidsU u).map λc=>c.1.mp f c.2).map Pg.d:=by rw[R,Cj,Cj];rfl
   have S:∀d∈ds,∃a b,d=.tup [a,b]:=λd M=>by
    rw[R]at M;obtain⟨c',_,rfl⟩:=DF.mp M;exact⟨_,_,rfl⟩
   refine am2 (f:=sn) (λenv=>env.length=1) (λenv d h=>by simpa using h) (λenv K hK=>hK) (λenv d K M hE hK=>?_) (.inl E) ds [] [AF] (λ_ h=>h) rfl ?_
   ·obtain⟨a,b,rfl⟩:=S d M
    match env,hE with
    |[y],_=>
     rfl';exact hK
   intro fa i;rw[DU,e1];refine⟨_,.inl f8,?_⟩;rfl'
   by_cases w:c.kids=[]
   ·have hk:c.kidsU u=[]:=by unfold Pg.kidsU;rw[w];rfl
    rw[hk,if_neg ∎];rfl';exact O x _ (hx0 w) (X A i) (r.new i)
   ·have hxn:=hx1 w;subst hxn
    by_cases j:((c.kidsU u).map λc=>c.1.chd f c.2).any id=AD
    ·rw[if_pos j];∎;refine⟨by rw[J.winner];rfl,?_⟩;unfold B4;rfl';have I:=l5 (u:=.lst (((c.kidsU u).map λc=>c.1.chd f c.2).map D.bl)) E i;refine⟨_,.inl I,⋯,?_⟩;refine am2 (f:=fs) (λenv=>env.length=1) (λenv d h=>by simpa using h) (λenv K hK=>hK) (λenv d K M hE hK=>?_) (.inl I) ds [] [AF] (λ_ h=>h) rfl ?_
     ·obtain⟨a,b,rfl⟩:=S d M
      match env,hE with
      |[y],_=>
       rfl';exact hK
     intro ga Z;rw[DU,e2];refine bx8 J (p:=c) (l:=(c.kidsU u).map λc=>c.1.mp f c.2) (.inl f8) (by unfold Pg.kidsU;rw[AW,GR]) w ?_;rw[<-Pg.mp_kids w];rfl';exact O _ _ (.inr ⟨rfl,(Pg.chd_kids w).trans j⟩) (X (X A i) Z) ((r.new i).new Z)
    ·rw[if_neg j];rfl';have hc0:c.chd f u=AE:=by rw[Pg.chd_kids w];simpa using j
     exact O .non _ (.inl ⟨rfl,Pg.mp_same c hc0,hc0⟩) (X A i) (r.new i)
  ∎;rw[r8 (.inl hla)];rfl';have Y:ds.length=c.kids.length:=by rw[hlen];show(c.kidsU u).length=_;unfold Pg.kidsU;rw[GR]
  by_cases w:c.kids=[]
  ·rw[if_pos (by rw[Y,w];rfl)];refine S6 hC ?_;unfold B4;rfl';refine hc (n+1) c u e _ ⋯ gc N K λst2 A r=>?_;exact U _ st2 A r (λ_=>(b26 w).elim (λ⟨a,b,d⟩=>.inl ⟨a,b,d⟩) .inr) (λh=>absurd w h)
  ·rw[if_neg (by rw[Y];have:=List.length_pos_iff.mpr w;lia)];exact U .non e N Kp.refl (λh=>absurd h w) λ_=>rfl
 ·intro dn d _ e _ v _ _ N K;subst v;rfl';exact c9 (q e N K)
end
def cc8(p:Pg)(l:Nat):p.lf 0 l=p:=by
 have:=c18 (f:=λ_ _=>AF) (g:=lfF 0 l) (h:=λ_ _=>AF) (a:=id) (b:=id) (c:=id) (λ_=>rfl) (λ_=>rfl) (λ_=>rfl) (λn u=>by
  show(Pg.name n).mp (lfF 0 l) u=.name n;rw[a78];congr 1;split<;>lia) p 0
 rw[c38]at this;exact this
section
variable (J:PNm P G) 
include J
def ak7(i:p.parts<=2000)(r:7<=n)(q:∀st',Kp [] st st'->Q (p.lf m l).d st'):sem P G n "lifted" [p.d,.int m,.int l] st Q:=by
 obtain⟨n,rfl⟩:∃k,n=k+1:=⟨n-1,⋯⟩;refine i5 J.lift rfl [AA p.d,AA (.int m),AA (.int l),AF,AF,AF,AF] rfl ?_;unfold al5;∎
 by_cases h:(m:Int)=0
 ·simp only[h,if_true];∎;obtain rfl:m=0:=by lia
  have:=q st Kp.refl;rw[cc8]at this;exact c9 this
 simp only[h,if_false];(iterate 2 ∎);refine⟨by rw[J.wparts];rfl,az4 J (f:=lfF m l) (L:=[]) (Jv:=λ_=>True) (show Cok P (.clo _ _ _ _) from trivial) (λ_ _ _=>trivial) (λ_=>∎) i (AS _) ⋯ trivial ?_ λst' _ K=>c9 (q st' K)⟩;intro k c u st' Q s o _ K b;obtain⟨k,rfl⟩:∃j,k=j+1:=⟨k-1,⋯⟩;refine P1 rfl [AA c.d,AA (.int u),AA (.int l),AA (.int m)] rfl ?_;replace b:=b st' trivial Kp.refl;cases c<;>simp only[Pg.d]
 case name x=>
  ∎;simp only[O2,lfF]at b
  by_cases g:(u:Int)<=(x:Int)
  ·simp only[g,if_true]
   by_cases e:(l:Int)<=(x:Int)-(u:Int)
   ·simp only[e,if_true];∎;rw[if_pos ⋯]at b;exact c9 b
   ·simp only[e,if_false];∎;rw[if_neg ⋯]at b;exact c9 b
  ·simp only[g,if_false];∎;rw[if_neg ⋯]at b;exact c9 b
 all_goals
  (iterate 2 ∎);exact c9 b
abbrev V7(o:Pg)(us:List Nat):List (Key×D):=us.map λ(u:Nat)=>(.inl (u:Int),(o.lf u 0).d)
abbrev Cps(o:Pg)(m:Nat)(a:AH)(st:Sto):Prop:=∃us:List Nat,us.Nodup/\(∀u∈us,u<=m)/\st a=AA (.dct (V7 o us))
omit J in
theorem ab3{o:Pg}(u:Nat):∀(us:List Nat),D4 (V7 o us) (.inl (u:Int))=if u∈us then AA (o.lf u 0).d else AF
 |[]=>rfl
 |v::us=>by
  have ih:=ab3 (o:=o) u us;unfold D4 V7 at ih ⊢;rw[As,By]
  by_cases h:v=u
  ·subst h;simp
  ·have e:AB ((FT (v:Int):Key)=.inl (u:Int))=AE:=by simp;lia
   simp only[e];rw[ih]
   by_cases h2:u∈us
   ·rw[if_pos h2,if_pos (by simp[h2])]
   ·rw[if_neg h2,if_neg (by simp[h2];lia)]
omit J in
theorem ay6:∀(m:Nat){us:List Nat},us.Nodup->(∀u∈us,u<m)->us.length<=m
 |0,us,_,h=>by
  cases us with
  |nil=>exact AS _
  |cons a us=>exact absurd (h a ∎) ⋯
 |m+1,us,hn,h=>by
  have h1:=ay6 m (hn.erase m) (λu hu=>by
   obtain⟨a,b⟩:=hn.mem_erase_iff.mp hu;have:=h u b;lia)
  have h2:=List.length_erase (a:=m) (l:=us)
  split at h2<;>lia
def cd4(t:o.parts<=2000)(y:8<=n)(s:u<=m)(A:m<=1000)(C:Cps o m a st)(q:∀f,Cps o m a f->Kp [a] st f->Q (o.lf u 0).d f):sem P G n "copy_under" [.ref a,o.d,.int u] st Q:=by
 obtain⟨n,rfl⟩:∃k,n=k+1:=⟨n-1,⋯⟩;refine i5 J.copy rfl [AA (.ref a),AA o.d,AA (.int u)] rfl ?_;unfold aj8;have r:∀(e:List Nat)(c:Sto),u∈e->e.Nodup->(∀u∈e,u<=m)->c a=AA (.dct (V7 o e))->Kp [a] st c->j7 (Zg P G n) (.cons (.ret (.ix (.v 0) (.v 2))) .nil) (o0 Q) [AA (.ref a),AA o.d,AA (.int u)] c:=by
  intro e c b j i h p;∎;refine .inr ⟨_,(o.lf u 0).d,h,?_,c9 (q c ⟨e,j,i,h⟩ p)⟩;rw[ab3,if_pos b]
 obtain⟨e,j,i,h⟩:=C;∎;refine⟨_,h,?_⟩;rw[ab3];rfl'
 by_cases b:u∈e
 ·rw[if_pos b];simp only[JY,EK,BE,if_false];exact r e st b j i h Kp.refl
 ·rw[if_neg b];simp only[JY,Bool.not_false,if_true];∎;refine⟨by rw[J.lift];rfl,?_⟩;refine ak7 J (l:=0) t ⋯ λst2 p=>?_;have w:=p.at' h ∎;refine⟨_,w,by rw[ab3,if_neg b],B3 (by unfold V7;rw[AW];have:=ay6 (m+1) j (λu s=>by have:=i u s;lia);lia),?_⟩;refine r (e++[u]) _ ∎ ?_ ?_ ?_ ((p.more ∎).put ∎)
  ·rw[EH];exact⟨j,∎,by simp;exact λx g z=>b (z▸g)⟩
  ·intro x g
   rcases BI.mp g with g|g
   ·exact i x g
   ·simp at g;lia
  ·rw[f8];unfold V7;rw[Ah];rfl
def O5(hp:p.parts<=2000)(ho:o.parts<=2000)(hh:p.hgt<=1000)(hn:14<=n)(q:∀st',Kp [] st st'->Q (p.sb o).d st'):sem P G n "put_in" [p.d,o.d] st Q:=by
 obtain⟨n,rfl⟩:∃k,n=k+1:=⟨n-1,⋯⟩;refine i5 J.put rfl [AA p.d,AA o.d,AF,AF,AF,AF,AF] rfl ?_;unfold am1;∎;intro cp hcp;(iterate 2 ∎);refine⟨by rw[J.wparts];rfl,az4 J (f:=sbF o) (L:=[cp]) (Jv:=Cps o 1000 cp) (show Cok P (.clo _ _ _ _) from trivial) ?_ ?_ hp hh ⋯ ⟨[],Ke,∎,f8⟩ ?_ λst' _ K=>c9 (q st' ?_)⟩
 ·rintro st st' K ⟨us,h1,h2,h3⟩ hK K1;exact⟨us,h1,h2,K1.at' h3 (hK cp ∎)⟩
 ·rintro st ⟨us,h1,h2,h3⟩ a ha;simp at ha;subst ha;exact⟨_,h3⟩
 ·intro k c u st' Q hk hu C K kk;obtain⟨k,rfl⟩:∃j,k=j+1:=⟨k-1,⋯⟩;have h1:∀q:Pg,1<=q.hgt:=λq=>by cases q<;>simp only[Pg.hgt]<;>lia
  have:=h1 c;refine P1 rfl [AA c.d,AA (.int u),AA (.ref cp),AA o.d] rfl ?_;have k0:=kk st' C Kp.refl;cases c<;>simp only[Pg.d]
  case name x=>
   simp only[O2,sbF]at kk k0;∎
   by_cases h1:(x:Int)<(u:Int)
   ·simp only[h1,if_true];∎;rw[if_pos ⋯]at k0;exact c9 k0
   ·simp only[h1,if_false];∎
    by_cases h2:(x:Int)=(u:Int)
    ·simp only[h2,if_true];∎;rw[if_neg ⋯,if_pos ⋯]at kk;exact⟨by rw[J.copy];rfl,cd4 J ho ⋯ ⋯ (AS _) C λst2 C2 K2=>c9 (kk st2 C2 K2)⟩
    ·simp only[h2,if_false];∎;rw[if_neg ⋯,if_neg ⋯]at k0;have e:(x:Int)-1=((x-1:Nat):Int):=by lia
     rw[e];exact c9 k0
  all_goals
   (iterate 2 ∎);exact c9 k0
 ·intro b u nb e;refine K b u (by simp;exact λz=>by rw[z,hcp]at e;cases e) ?_;exact l5 e hcp
end
def mp_kn{Γ':List Kd}(t:∀(Δ:List Kd)(n:Nat)(k:Kd),(Δ++Γ)[n]?=AA k->((Pg.name n).mp f Δ.length).kind (Δ++Γ')=AA k){d:List Kd}{k:Kd}(h:Kn d p k):∀Δ,d=Δ++Γ->Kn (Δ++Γ') (p.mp f Δ.length) k:=by
 induction h with
 |name h=>intro Δ e;subst e;exact Q2 (t Δ _ _ h)
 |star=>intro Δ e;exact .star
 |pair _ _ i j=>exact λΔ e=>.pair (i Δ e) (j Δ e)
 |first _ i=>exact λΔ e=>.first (i Δ e)
 |second _ i=>exact λΔ e=>.second (i Δ e)
 |left _ i=>exact λΔ e=>.left (i Δ e)
 |right _ i=>exact λΔ e=>.right (i Δ e)
 |case _ _ _ i j l=>exact λΔ e=>.case (i Δ e) (j (_::Δ) (congrArg _ e)) (l (_::Δ) (congrArg _ e))
 |way _ i=>exact λΔ e=>.way (i (_::Δ) (congrArg _ e))
 |give _ _ i j=>exact λΔ e=>.give (i Δ e) (j Δ e)
 |lets _ _ i j=>exact λΔ e=>.lets (i Δ e) (j (_::Δ) (congrArg _ e))
 |never _ i=>exact λΔ e=>.never (i Δ e)
def bc2{Γ':List Kd}(b:∀(Δ:List Kd)(n:Nat)(k:Kd),(Δ++Γ)[n]?=AA k->((Pg.name n).mp f Δ.length).kind (Δ++Γ')=AA k)(p:Pg){k:Kd}(h:p.kind (Δ++Γ)=AA k):(p.mp f Δ.length).kind (Δ++Γ')=AA k:=(mp_kn b (Q2 h) Δ rfl).kind
def al9{Γ₁ Γ₂ M:List Kd}{k:Kd}(h:p.kind (Γ₁++Γ₂)=AA k):(p.lf M.length Γ₁.length).kind (Γ₁++(M++Γ₂))=AA k:=by
 refine bc2 (f:=lfF M.length Γ₁.length) (Γ:=Γ₁++Γ₂) (Γ':=Γ₁++(M++Γ₂)) (λΔ n k h=>?_) p (Δ:=[]) h;rw[a78];simp only[Pg.kind];rw[<-Ch]at h ⊢
 split
 ·rename_i a;rw[Af (by rw[Ad];lia)]at h ⊢;rw[Af (by rw[Ad];lia)];rw[<-h]
  congr 1
  rw[Ad];lia
 ·rename_i a;rw[Ac (by rw[Ad];lia)]at h ⊢;exact h
def az7{Γ:List Kd}{a k:Kd}(h:p.kind (a::Γ)=AA k)(d:o.kind Γ=AA a):(p.sb o).kind Γ=AA k:=by
 refine bc2 (f:=sbF o) (Γ:=a::Γ) (Γ':=Γ) (λΔ n k h=>?_) p (Δ:=[]) h;simp only[Pg.mp,sbF]
 by_cases b:n<Δ.length
 ·rw[if_pos b];rw[Ac b]at h;simp only[Fu,Pg.kind];rw[Ac b];exact h
 ·rw[if_neg b];rw[Af ⋯]at h
  by_cases c:n=Δ.length
  ·rw[if_pos c];rw[c,Km]at h;cases h;exact al9 (Γ₁:=[]) (M:=Δ) (Γ₂:=Γ) d
  ·rw[if_neg c];simp only[IY,Pg.kind];rw[Af ⋯];rw[show n-Δ.length=(n-1-Δ.length)+1 by lia,HY]at h;exact h
structure P41(P:i8)(G:Gs):Prop where
 deck:P "_law_deck"=AA F6
 next:P "_law_next"=AA ah7
 kind:P "_law_kind"=AA ah3
 many:P "_law_many"=AA aa2
 plain:P "_law_plain"=AA R4
 made:P "_law_made"=AA ah9
 taken:P "_law_taken"=AA ag2
 term:P "_law_term"=AA W2
 under:P "_law_under"=AA af9
 lift:P "_law_lift"=AA ai8
 put:P "_law_put"=AA aj2
 two:P "_law_two"=AA aj4
 void:P "_law_void"=AA ai2
 nothing:P "_law_nothing"=AA ae4
 spread:P "_law_spread"=AA af1
 step:P "_law_step"=AA ah6
 word:P "_law_word"=AA ai3
 names:P "_law_names"=AA W0
abbrev Kd.gd:Kd->Prop
 |.non=>False|.one=>True
 |.eith a b=>(a=.non\/a.gd)/\b.gd
 |.both a b=>a.gd/\b.gd
 |.way a b=>(a=.non\/a.gd)/\b.gd
theorem Kd.gd_pos:∀{k:Kd},k.gd->0<k.cnt
 |.one,_=>Nat.one_pos
 |.eith a b,h=>Aj (gd_pos h.2) (Jg _ _)
 |.both a b,h=>Nat.mul_pos (gd_pos h.1) (gd_pos h.2)
 |.way a b,h=>Nat.pow_pos (gd_pos h.2)
@[reducible]noncomputable def Kd.sm(k:Kd):Prop:=k.gd/\k.nest<=2
@[reducible]noncomputable def Kd.smn(k:Kd):Prop:=k=.non\/k.sm
abbrev Kd.gw:Kd->Prop
 |.non=>False|.one=>True
 |.eith a b=>a.smn/\b.sm
 |.both a b=>a.gw/\b.gw
 |.way a b=>a.smn/\(a=.non->b.nest<=3)/\b.gw
def X2{a:Kd}(h:1+max a.nest b.nest<=m+1):a.nest<=m:=BB (Nat.le_max_left a.nest b.nest) ⋯
def T9{a:Kd}(h:1+max a.nest b.nest<=m+1):b.nest<=m:=BB (Nat.le_max_right a.nest b.nest) ⋯
theorem Kd.gd_gw:∀{k:Kd},k.gd->k.nest<=3->k.gw
 |.one,_,_=>trivial
 |.eith a b,h,c=>⟨h.1.imp_right λz=>⟨z,X2 c⟩,h.2,T9 c⟩
 |.both a b,h,c=>⟨gd_gw h.1 (Bt (X2 c)),gd_gw h.2 (Bt (T9 c))⟩
 |.way a b,h,c=>⟨h.1.imp_right λz=>⟨z,X2 c⟩,λ_=>Bt (T9 c),gd_gw h.2 (Bt (T9 c))⟩
theorem Kd.sm.gw{k:Kd}(h:k.sm):k.gw:=gd_gw h.1 (Bt h.2)
theorem Kd.few:∀(m:Nat){k:Kd},k.nest<=m->m<=2->k.cnt<=2^m/\k.bd 4
 |_,.non,_,_=>⟨BK _,trivial⟩
 |m,.one,_,_=>⟨Nat.one_le_two_pow,by show 1<=4;decide⟩
 |0,.eith a b,h,_|0,.both a b,h,_|0,.way a b,h,_=>by simp only[Kd.nest]at h;lia
 |1,.eith a b,h,_|1,.both a b,h,_|1,.way a b,h,_=>by
  obtain⟨l,i⟩:=few 0 (X2 h) ∅;obtain⟨j,g⟩:=few 0 (T9 h) ∅;have d:a.cnt=0\/a.cnt=1:=by lia
  have c:b.cnt=0\/b.cnt=1:=by lia
  refine⟨?_,i,g,?_⟩<;>(try simp only[Kd.cnt])<;>(rcases d with e|e<;>rcases c with f|f<;>rw[e,f]<;>decide)
 |2,.eith a b,h,_|2,.both a b,h,_|2,.way a b,h,_=>by
  obtain⟨l,i⟩:=few 1 (X2 h) ∅;obtain⟨j,g⟩:=few 1 (T9 h) ∅;have d:a.cnt=0\/a.cnt=1\/a.cnt=2:=by lia
  have c:b.cnt=0\/b.cnt=1\/b.cnt=2:=by lia
  refine⟨?_,i,g,?_⟩<;>(try simp only[Kd.cnt])<;>(rcases d with e|e|e<;>rcases c with f|f|f<;>rw[e,f]<;>decide)
 |m+3,_,_,h=>by lia
abbrev Kd.ms:Kd->Nat
 |.non=>7|.one=>3
 |.eith a b=>2+a.ms+b.ms
 |.both a b=>2+a.ms+b.ms
 |.way a b=>2+a.ms+b.ms
abbrev Kd.pl:Kd->Pg
 |.non=>.star|.one=>.star
 |.eith a b=>if 0<a.cnt then .left b a.pl else .right a b.pl
 |.both a b=>.pair a.pl b.pl
 |.way a b=>if a.cnt=0 then .way a (.never b (.name 0))else .way a b.pl
section
variable (T:P41 P G)
include T
def E1{m:Int}(hm:0<m)(h:o8 st a)(q:∀r st',0<=r->r<m->o8 st' a->Kp [a] st st'->Q (.int r) st'):sem P G (n+1) "_law_next" [.ref a,.int m] st Q:=by
 obtain⟨l,h⟩:=h;refine i5 T.next rfl [AA (.ref a),AA (.int m)] rfl ?_;unfold ah7;dsimp only;∎;rw[r8 (.inl h)];rfl';cases l with
 |nil=>
  rw[if_pos ∎];∎;exact c9 (q 0 st (LA _) hm ⟨[],h⟩ Kp.refl)
 |cons x l=>
  rw[if_neg (by simp only[As,AV];lia)];∎;rw[A6 (.inl h)];refine⟨trivial,⟨∅,∅⟩,_,0,.int x,h,by simp[ixN],rfl,?_⟩;simp only[bf0];refine⟨hm,c9 (q _ _ (Gw _ ⋯) (Fs _ hm) ⟨l,?_⟩ (Kp.refl.put ∎))⟩;rw[f8];rfl
def R7:∀(k:Kd){n:Nat}{c:Sto}{Q:DK},k.nest+1<=n->k.bd 4->Q (.int k.cnt) c->sem P G n "_law_many" [k.d] c Q:=by
 have g:∀(w:String)(n:Nat)(c:Sto)(Q:DK),(w="none"\/w="one")->Q (.int (if w="one" then 1 else 0)) c->sem P G (n+1) "_law_many" [.tup [.str w]] c Q:=λw n c Q hw q=>by
  refine i5 T.many rfl [AA (.tup [.str w]),AF,AF,AF,AF] rfl ?_;unfold aa2;∎;refine⟨r9 _,by simp only[D9,J0,r9,Bp],BK _,?_⟩;rw[if_pos (by rcases hw with rfl|rfl<;>decide)];∎
  rcases hw with rfl|rfl<;>exact c9 q
 have m:∀(w:String)(a b:Kd)(n:Nat)(c:Sto)(Q:DK)(v:Nat),(∀Q:DK,Q (.int a.cnt) c->sem P G n "_law_many" [a.d] c Q)->(∀Q:DK,Q (.int b.cnt) c->sem P G n "_law_many" [b.d] c Q)->a.cnt<=4->b.cnt<=4 ->
   ((w="either"/\v=a.cnt+b.cnt)\/(w="both"/\v=a.cnt*b.cnt)\/(w="way"/\v=b.cnt^a.cnt))->Q (.int v) c->sem P G (n+1) "_law_many" [.tup [.str w,a.d,b.d]] c Q:=λw a b n c Q v ha j la lb hw q=>by
  refine i5 T.many rfl [AA (.tup [.str w,a.d,b.d]),AF,AF,AF,AF] rfl ?_;unfold aa2;∎;refine⟨r9 _,by simp only[D9,J0,r9,Bp],BK _,?_⟩;rw[if_neg (by rcases hw with⟨rfl,_⟩|⟨rfl,_⟩|⟨rfl,_⟩<;>decide)];∎;refine⟨by rw[T.many];rfl,ha _ ?_⟩;∎;refine⟨by rw[T.many];rfl,j _ ?_⟩
  rcases hw with⟨rfl,rfl⟩|⟨rfl,rfl⟩|⟨rfl,rfl⟩
  ·(iterate 2 ∎);exact c9 (by simpa using q)
  ·(iterate 3 ∎);exact⟨P9 ⟨⋯,⋯⟩,c9 (by simpa using q)⟩
  ·(iterate 4 ∎);refine⟨⋯,?_⟩;refine E3 (λl env st'=>st'=c/\∃(f:Nat)(x:Option D),env=[AA (.tup [.str "way",a.d,b.d]),AA (.int a.cnt),AA (.int b.cnt),AA (.int f),x]/\f*b.cnt^l.length=b.cnt^a.cnt) ?_ ?_ _ _ _ ⟨rfl,1,AF,rfl,by simp[p5]⟩
   ·rintro env st' ⟨rfl,f,x,rfl,e⟩;refine⟨trivial,?_⟩;∎;have:f=b.cnt^a.cnt:=by rw[<-e];simp
    rw[this];exact c9 q
   ·rintro d ds env st' ih ⟨rfl,f,x,rfl,e⟩;refine⟨trivial,?_⟩;rfl';∎;refine⟨P9 ⟨⋯,⋯⟩,ih _ _ ⟨rfl,f*b.cnt,_,by rw[Jc],?_⟩⟩;rw[<-e,AV,Kk,Nat.mul_assoc,JO b.cnt]
 intro k
 induction k with
 |non=>intro n c Q o _ q;obtain⟨n,rfl⟩:∃k,n=k+1:=⟨n-1,⋯⟩;exact g "none" n c Q (.inl rfl) q
 |one=>intro n c Q o _ q;obtain⟨n,rfl⟩:∃k,n=k+1:=⟨n-1,⋯⟩;exact g "one" n c Q (.inr rfl) q
 |eith a b i h|both a b i h|way a b i h=>
  intro n c Q o j q;obtain⟨n,rfl⟩:∃k,n=k+1:=⟨n-1,⋯⟩;simp only[Kd.nest]at o;exact m _ a b n c Q _ (λQ q=>i ⋯ j.1 q) (λQ q=>h ⋯ j.2.1 q) (Kd.bd_le j.1) (Kd.bd_le j.2.1) (by first|exact .inl ⟨rfl,rfl⟩|exact .inr (.inl ⟨rfl,rfl⟩)|exact .inr (.inr ⟨rfl,rfl⟩)) q
end
mutual
noncomputable def D.sz:D->Nat
 |.tup ds=>1+D.szs ds
 |_=>1
noncomputable def D.szs:List D->Nat
 |[]=>0
 |d::r=>d.sz+D.szs r
end
def l9:(D.tup ds).sz=1+D.szs ds:=rfl
def n8:D.szs []=0:=rfl
def l8{d:D}{r:List D}:D.szs (d::r)=d.sz+D.szs r:=rfl
theorem ba9:∀(a b:List D),D.szs (a++b)=D.szs a+D.szs b
 |[],b=>by simp[n8]
 |d::a,b=>by rw[CM,l8,l8,ba9 a b];lia
def be2(d:D):1<=d.sz:=by cases d<;>first|exact AS _|(rw[l9];lia)
def c96{a b:D}{S0:Sto}{A E:Sto->Prop}(u:a.lit=AD)(t:b.lit=AD)(w:∀h g,a=.tup h->b=.tup g->A S0)(n:(¬∃h g,a=.tup h/\b=.tup g)->E S0):
  Y0 "tuple" a S0 λx st1=>∃c,x=D.bl c/\if c=AD then Y0 "tuple" b st1 λd st1=>∃k,d=D.bl k/\if k=AD then A st1 else E st1 else E st1:=by
 have e:∀x:D,x.lit=AD->(∃j,x=.tup j)\/((∀j,x≠.tup j)/\∃f,(f=="tuple"||(f=="bool"&&"tuple"=="int"))=AE/\∀s,tyD x s=AA f):=λx hx=>by
  cases x with
  |tup j=>exact .inl ⟨j,rfl⟩
  |int i=>exact .inr ⟨λ_=>nofun,"int",∅,λ_=>rfl⟩
  |str y=>exact .inr ⟨λ_=>nofun,"str",∅,λ_=>rfl⟩
  |_=>simp[D.lit]at hx
 rcases e a u with⟨h,rfl⟩|⟨r,f,m,l⟩
 ·refine .inl ⟨"tuple",rfl,AD,rfl,?_⟩;rw[if_pos rfl]
  rcases e b t with⟨g,rfl⟩|⟨q,f,m,l⟩
  ·exact .inl ⟨"tuple",rfl,AD,rfl,by rw[if_pos rfl];exact w h g rfl rfl⟩
  ·refine .inl ⟨f,l _,AE,by rw[m],?_⟩;rw[if_neg ∅];exact n λ⟨_,g,_,z⟩=>q g z
 ·refine .inl ⟨f,l _,AE,by rw[m],?_⟩;rw[if_neg ∅];exact n λ⟨h,_,z,_⟩=>r h z
abbrev pd(l:List (D×D)):List D:=l.map λp=>.tup [p.1,p.2]
def ba2{x:String}:(D.str (Aa x)).lit=AD:=r9 x
def cf4{i:Int}:(D.int i).lit=AD:=rfl
def cr4(k:Kd):k.d.lit=AD:=by
 induction k<;>simp only[Kd.d,an2,aa6,D.lits,ba2,Bp, *]
def ap5(p:Pg):p.d.lit=AD:=by
 induction p<;>simp only[Pg.d,an2,aa6,D.lits,ba2,cr4,cf4,Bp, *]
def b01{l:List D}:∀p∈l.zip l,p.1=p.2:=by
 induction l with
 |nil=>nofun
 |cons d l e=>
  intro p a
  rcases AN.mp a with rfl|a
  ·rfl
  ·exact e p a
theorem bg3:∀(a b:List D),a.length=b.length->((a.zip b).map λp=>p.1.sz).sum=D.szs a
 |[],_,_=>by simp[n8]
 |d::a,e::b,c=>by simp only[GP,As,DL,l8];rw[bg3 a b (by simpa using c)]
def bg0(l:List (D×D)):l.length<=(l.map λp=>p.1.sz).sum:=by
 induction l with
 |nil=>exact AS _
 |cons p l c=>have:=be2 p.1;simp only[As,DL,AV];lia
def bs4(T:P "are_alike"=AA aa1)(S:G.cst "FEW"=AA (.int 2000)){st:Sto}{t u:D}(M:t.lit=AD)(L:u.lit=AD)(W:t.sz<=1990)(q:∀b c,(t=u->b=AD)->Kp [] st c->Q (.bl b) c):sem P G (n+1) "are_alike" [t,u] st Q:=by
 refine i5 T rfl [AA t,AA u,AF,AF,AF,AF] rfl ?_;unfold aa1;∎;intro h C;∎;refine⟨.int 2000,S,?_⟩;rfl';refine⟨⟨∅,∅⟩,?_⟩;refine E3 (λl env c=>∃(d:List (D×D))(x y:Option D),(t=u->∀p∈d,p.1=p.2)/\(∀p∈d,p.1.lit=AD/\p.2.lit=AD)/\(d.map λp=>p.1.sz).sum+1<=l.length/\l.length<=2000/\env=[AA t,AA u,AA (.ref h),x,y,AF]/\c h=AA (.lst (pd d))/\Kp [] st c) ?_ ?_ _ _ _ ⟨[(t,u)],AF,AF,λe p hp=>by cases BY.mp hp;exact e,λp hp=>by cases BY.mp hp;exact⟨M,L⟩,by simp[p5];lia,by simp[p5],rfl,f8,Kp.refl.new C⟩
 ·rintro env c ⟨d,x,y,_,_,hl,_⟩;simp at hl
 ·rintro d0 dl env c ih ⟨d,x,y,he,hp,hl,hz,rfl,hs',K⟩;refine⟨trivial,?_⟩;simp only[AV]at hl hz;rfl';∎;rw[r8 (.inl hs')];rfl'
  rcases ak1 d with rfl|⟨d,⟨a,b⟩,rfl⟩
  ·rw[if_pos (by simp[pd])];∎;exact c9 (q AD c (λ_=>rfl) K)
  ·rw[if_neg (by simp[pd];lia)];obtain⟨s,i⟩:=hp (a,b) ∎;have r:t=u->a=b:=λe=>he e (a,b) ∎;have j:∀p∈d,p.1.lit=AD/\p.2.lit=AD:=λp z=>hp p (by simp[z]);have m:t=u->∀p∈d,p.1=p.2:=λe p z=>he e p (by simp[z]);simp only[Ah,As,Eg,Cy,DL,Gu]at hl;have V:=be2 a;have A:c h=AA (.lst (pd d++[.tup [a,b]])):=by rw[hs'];simp[pd]
   have R:=bg0 d;∎;rw[U5 A];∎;have v:∀u:Ob,Kp [] st (b0 c h u):=λu b o nb e=>f7 (K b o nb e) (j9 e C);have E:∀{g},Kp [] st g->¬(a=b)->(o0 Q).rt (.bl AE) g:=λK2 hne=>c9 (q AE _ (λe=>absurd (r e) hne) K2);refine c96 s i (λas bs ea eb=>?_) λhno=>?_
   ·subst ea eb;∎
    by_cases k:as.length=bs.length
    ·rw[if_neg ⋯];∎;rw[l9]at hl;have w:=bg3 as bs k;have N:=bg0 (as.zip bs);have O:(as.zip bs).length=as.length:=by rw[JT];lia
     refine⟨_,_,rfl,rfl,⋯,λpz hpz=>?_⟩;have B:=l5 (u:=.lst (F5 as bs)) (f8 (st:=c) (a:=h) (o:=.lst (pd d))) hpz;rw[bi2 B f8];have H:F5 as bs=pd (as.zip bs):=rfl;refine⟨B2 (by rw[H];simp only[pd,AW];lia),?_⟩;rfl';refine ih _ _ ⟨d++as.zip bs,_,_,λe p hpz=>?_,λp hpz=>?_,?_,⋯,rfl,?_,λb o nb e=>f7 (l5 (v _ b o nb e) hpz) (j9 e C)⟩
     ·rcases BI.mp hpz with z|z
      ·exact m e p z
      ·cases r e;exact b01 p z
     ·rcases BI.mp hpz with z|z
      ·exact j p z
      ·obtain⟨J,I⟩:=FI z;exact⟨ab0.mp s _ J,ab0.mp i _ I⟩
     ·rw[Ah,Cy,w];lia
     ·rw[f8,H];simp[pd]
    ·rw[if_pos ⋯];∎;exact E (v _) λz=>k (by cases z;rfl)
   ·∎;rw[bj8];refine⟨al4 _ s,al4 _ i,?_,?_⟩
    ·have z:∀x:D,x.lit=AD->(∀U,x≠.tup U)->l6 x=0:=λx hx n=>by
      cases x<;>first|rfl|exact absurd rfl (n _)
     by_cases F:∃as,a=.tup as
     ·obtain⟨as,rfl⟩:=F;exact BB (FJ _ _) (by rw[z b i λbs e=>hno ⟨as,bs,rfl,e⟩];lia)
     ·exact BB (Ef _ _) (by rw[z a s λas e=>F ⟨as,e⟩];lia)
    cases hde:deq a b with
    |false=>
     rfl';∎;exact E (v _) λz=>by rw[z,a70 i]at hde;cases hde
    |true=>
     rfl';exact ih _ _ ⟨d,_,_,m,j,⋯,⋯,rfl,f8,v _⟩
def T2{k:Kd}(h:k.smn):(0<k.cnt/\k.sm)\/(k.cnt=0/\k=.non):=by
 rcases h with rfl|h
 ·exact .inr ⟨rfl,rfl⟩
 ·exact .inl ⟨Kd.gd_pos h.1,h⟩
def R6{k:Kd}(h:k.smn):k.nest<=2:=by
 rcases h with rfl|h
 ·exact BK _
 ·exact h.2
theorem B5:∀k:Kd,k.d.sz<=k.ms
 |.non=>by simp only[Kd.d,l9,l8,n8,D.sz,Kd.ms];decide
 |.one=>by simp only[Kd.d,l9,l8,n8,D.sz,Kd.ms];decide
 |.eith a b|.both a b|.way a b=>by have:=B5 a;have:=B5 b;simp only[Kd.d,l9,l8,n8,D.sz,Kd.ms];lia
structure Gr(Γ:List Kd)(k:Kd)(o m h:Nat)(p:Pg):Prop where
 kn:Kn Γ p k
 told:p.kn 3
 oc:∀u,p.oc u<=o
 sz:p.d.sz<=m
 hg:p.hgt<=h
theorem U7:∀{k:Kd}{Γ:List Kd},k.gw->Gr Γ k 0 k.ms (k.nest+2) k.pl
 |.one,Γ,_=>⟨.star,trivial,λ_=>AS _,by show 2<=3;decide,by show 1<=2;decide⟩
 |.both a b,Γ,h=>by
  have x:=U7 (Γ:=Γ) h.1;have y:=U7 (Γ:=Γ) h.2;refine⟨.pair x.kn y.kn,⟨x.told,y.told⟩,λu=>?_,?_,?_⟩
  ·have:=x.oc u;have:=y.oc u;simp only[Kd.pl,Pg.oc];lia
  ·have:=x.sz;have:=y.sz;simp only[Kd.pl,Pg.d,l9,l8,n8,D.sz,Kd.ms];lia
  ·have:=x.hg;have:=y.hg;simp only[Kd.pl,Pg.hgt,Kd.nest];lia
 |.eith a b,Γ,h=>by
  have sa:=B5 a;have sb:=B5 b;have na:=R6 h.1;unfold Kd.pl
  rcases T2 h.1 with⟨h1,h2⟩|⟨h1,h2⟩
  ·rw[if_pos h1];have x:=U7 (Γ:=Γ) h2.gw;have:=x.sz;have:=x.hg;exact⟨.left x.kn,⟨Bt h.2.2,x.told⟩,x.oc,by simp only[Pg.d,l9,l8,n8,D.sz,Kd.ms];lia,by simp only[Pg.hgt,Kd.nest];lia⟩
  ·rw[if_neg ⋯];have x:=U7 (Γ:=Γ) (Kd.sm.gw h.2);have:=x.sz;have:=x.hg;exact⟨.right x.kn,⟨Bt na,x.told⟩,x.oc,by simp only[Pg.d,l9,l8,n8,D.sz,Kd.ms];lia,by simp only[Pg.hgt,Kd.nest];lia⟩
 |.way a b,Γ,h=>by
  have sa:=B5 a;have sb:=B5 b;have na:=R6 h.1;unfold Kd.pl
  rcases T2 h.1 with⟨h1,h2⟩|⟨h1,h2⟩
  ·rw[if_neg ⋯];have x:=U7 (Γ:=a::Γ) h.2.2;have:=x.sz;have:=x.hg;exact⟨.way x.kn,⟨Bt na,x.told⟩,λu=>x.oc (u+1),by simp only[Pg.d,l9,l8,n8,D.sz,Kd.ms];lia,by simp only[Pg.hgt,Kd.nest];lia⟩
  ·rw[if_pos h1];subst h2;exact⟨.way (.never (.name rfl)),⟨BK _,h.2.1 rfl,trivial⟩,λu=>by simp[Pg.oc],by simp only[Pg.d,Kd.d,l9,l8,n8,D.sz,Kd.ms];lia,by simp only[Pg.hgt,Kd.nest];lia⟩
section
variable (T:P41 P G)
include T
theorem R5:∀{k:Kd}{n:Nat}{c:Sto}{Q:DK},k.gw->k.nest+4<=n->Q k.pl.d c->sem P G n "_law_plain" [k.d] c Q
 |.one,n,c,Q,_,e,q=>by
  obtain⟨n,rfl⟩:∃k,n=k+1:=⟨n-1,⋯⟩;refine i5 T.plain rfl [AA Kd.one.d] rfl ?_;unfold R4;simp only[Kd.d];(iterate 2 ∎);exact c9 q
 |.both a b,n,c,Q,h,e,q=>by
  obtain⟨n,rfl⟩:∃k,n=k+1:=⟨n-1,⋯⟩;simp only[Kd.nest]at e;refine i5 T.plain rfl [AA (Kd.both a b).d] rfl ?_;unfold R4;simp only[Kd.d];(iterate 3 ∎);exact⟨by rw[T.plain];rfl,R5 h.1 ⋯ ⟨by rw[T.plain];rfl,R5 h.2 ⋯ (c9 q)⟩⟩
 |.eith a b,n,c,Q,h,e,q=>by
  obtain⟨n,rfl⟩:∃k,n=k+1:=⟨n-1,⋯⟩;simp only[Kd.nest]at e;have i:=R6 h.1;unfold Kd.pl at q;refine i5 T.plain rfl [AA (Kd.eith a b).d] rfl ?_;unfold R4;simp only[Kd.d];(iterate 3 ∎);refine⟨by rw[T.many];rfl,R7 T a ⋯ (Kd.few 2 i (AS _)).2 ?_⟩;rfl'
  rcases T2 h.1 with⟨f,g⟩|⟨f,g⟩
  ·rw[if_pos ⋯];rw[if_pos f]at q;∎;exact⟨by rw[T.plain];rfl,R5 g.gw ⋯ (c9 q)⟩
  ·rw[if_neg ⋯];rw[if_neg ⋯]at q;(iterate 2 ∎);exact⟨by rw[T.plain];rfl,R5 (Kd.sm.gw h.2) ⋯ (c9 q)⟩
 |.way a b,n,c,Q,h,e,q=>by
  obtain⟨n,rfl⟩:∃k,n=k+1:=⟨n-1,⋯⟩;simp only[Kd.nest]at e;have i:=R6 h.1;unfold Kd.pl at q;refine i5 T.plain rfl [AA (Kd.way a b).d] rfl ?_;unfold R4;simp only[Kd.d];(iterate 5 ∎);refine⟨by rw[T.many];rfl,R7 T a ⋯ (Kd.few 2 i (AS _)).2 ?_⟩;rfl'
  rcases T2 h.1 with⟨f,g⟩|⟨f,g⟩
  ·rw[if_neg ⋯];rw[if_neg ⋯]at q;∎;exact⟨by rw[T.plain];rfl,R5 h.2.2 ⋯ (c9 q)⟩
  ·rw[if_pos ⋯];rw[if_pos f]at q;∎;exact c9 q
def F8(d:Nat):∀{n:Nat}{o:Sto}{Q:DK}{a:AH},d<=2->d+2<=n->o8 o a->(∀(k:Kd)f,k.gd->k.nest<=d+1->k.ms<=8+10*d->o8 f a->Kp [a] o f->Q k.d f)->sem P G n "_law_kind" [.ref a,.int d] o Q:=by
 induction d using Gv with
 |_ d ih=>
 intro n o Q a J I h q;obtain⟨n,rfl⟩:∃k,n=k+2:=⟨n-2,⋯⟩;refine i5 T.kind rfl [AA (.ref a),AA (.int d),AF,AF,AF] rfl ?_;unfold ah3;(iterate 2 ∎);refine⟨by rw[T.next];rfl,λp hp=>?_⟩;obtain⟨m,e,y,H,x⟩:∃m:Int,atI [D.int 3,D.int 9] (if 0<(d:Int)then 1 else 0)=AA (.int m)/\0<m/\m<=9/\(d=0->m=3):=by
  by_cases B:d=0
  ·rw[if_neg ⋯];exact⟨3,rfl,∅,∅,λ_=>rfl⟩
  ·rw[if_pos ⋯];exact⟨9,rfl,∅,∅,λz=>absurd z B⟩
 refine⟨_,e,E1 T y (h.new hp) λr st1 r0 r1 I1 i=>?_⟩;have i:Kp [a] o st1:=(Kp.refl.new hp).trans i;∎
 by_cases v:r<3
 ·rw[if_pos v];∎;intro s b;have g:∀k:Kd,k.gd->k.nest<=1->k.ms<=8->(o0 Q).rt k.d (b0 st1 s (.lst [Kd.one.d,(Kd.eith .one .one).d,(Kd.eith .one .one).d])):=λk g1 g2 g3=>c9 (q k _ g1 ⋯ ⋯ (I1.new b) (i.new b));obtain rfl|rfl|rfl:r=0\/r=1\/r=2:=by lia
  ·exact⟨_,rfl,g .one trivial ∅ ∅⟩
  ·exact⟨_,rfl,g (.eith .one .one) ⟨.inr trivial,trivial⟩ ∅ ∅⟩
  ·exact⟨_,rfl,g (.eith .one .one) ⟨.inr trivial,trivial⟩ ∅ ∅⟩
 rw[if_neg v];have K:d≠0:=λz=>by have:=x z;lia
 have j:((d:Int)-1)=((d-1:Nat):Int):=by lia
 ∎
 by_cases u:r=3
 ·rw[if_pos u];∎;exact c9 (q (.way .non (.eith .one .one)) _ ⟨.inl rfl,.inr trivial,trivial⟩ (by simp only[Kd.nest];lia) (by simp only[Kd.ms];lia) I1 i)
 rw[if_neg u];∎
 by_cases t:r=8
 ·rw[if_pos t];∎;rw[j];exact⟨by rw[T.kind];rfl,ih (d-1) ⋯ ⋯ ⋯ I1 λk st2 g1 g2 g3 I2 K2=>c9 (q (.eith .non k) _ ⟨.inl rfl,g1⟩ (by simp only[Kd.nest];lia) (by simp only[Kd.ms];lia) I2 (i.trans K2))⟩
 rw[if_neg t];∎;rw[j];refine⟨by rw[T.kind];rfl,ih (d-1) ⋯ ⋯ ⋯ I1 λk st2 g1 g2 g3 I2 K2=>?_⟩;∎;intro s b;obtain⟨w,C,A⟩:∃w:String,atI [D.str "either",D.str "both",D.str "way",D.str "both"] (r-4)=AA (.str w)/\∀l:Kd,l.gd->∃c:Kd,c.d=.tup [.str w,k.d,l.d]/\c.gd/\c.nest=1+max k.nest l.nest/\c.ms=2+k.ms+l.ms:=by
  obtain rfl|rfl|rfl|rfl:r=4\/r=5\/r=6\/r=7:=by lia
  ·exact⟨"either",rfl,λl gl=>⟨.eith k l,rfl,⟨.inr g1,gl⟩,rfl,rfl⟩⟩
  ·exact⟨"both",rfl,λl gl=>⟨.both k l,rfl,⟨g1,gl⟩,rfl,rfl⟩⟩
  ·exact⟨"way",rfl,λl gl=>⟨.way k l,rfl,⟨.inr g1,gl⟩,rfl,rfl⟩⟩
  ·exact⟨"both",rfl,λl gl=>⟨.both k l,rfl,⟨g1,gl⟩,rfl,rfl⟩⟩
 refine⟨_,C,by rw[T.kind];rfl,ih 0 ⋯ ⋯ ⋯ (I2.new b) λl st3 l1 l2 l3 I3 K3=>?_⟩;obtain⟨c,E,F,M,L⟩:=A l l1;have:=c9 (Q:=Q) (q c st3 F ⋯ ⋯ I3 ((i.trans K2).trans ((Kp.refl.new b).trans K3)));rw[E]at this;exact this
def b11{ns:List Int}(U:ns.length<=63)(h:rdS st a (ns.map D.int))(q:∀p f,o8 f p->Kp [] st f->Q (.ref p) f):sem P G (n+1) "_law_deck" [.ref a] st Q:=by
 refine i5 T.deck rfl [AA (.ref a),AF,AF,AF,AF,AF] rfl ?_;unfold F6;∎;intro p A;have B:a≠p:=h.elim (λh=>j9 h A) (λh=>j9 h A);have I:rdS (b0 st p (.lst [])) a (ns.map D.int):=h.elim (λh=>.inl (l5 h A)) (λh=>.inr (l5 h A));have m:∀{f:Sto}{u:Ob},rdS f a (ns.map D.int)->rdS (b0 f p u) a (ns.map D.int):=λh=>h.elim (λh=>.inl (f7 h B)) (λh=>.inr (f7 h B));have k:∀{f:Sto}{u:Ob},Kp [] st f->Kp [] st (b0 f p u):=λK b o nb e=>f7 (K b o nb e) (j9 e A);∎;rw[r8 I];rfl';rw[AW];have w:(if(ns.length:Int)<63 then(ns.length:Int)else 63)=(ns.length:Int):=by split<;>lia
 rw[w];have J:∀z:Int,0<=z % 2147483629/\z % 2147483629<2147483629:=λz=>⟨Gw _ ∅,Fs _ ∅⟩;refine⟨⋯,?_⟩;refine E3 (λl env f=>∃(g:List Int)(x v s t:Option D),(∀d∈l,∃i:Nat,d=.int i/\i<ns.length)/\env=[AA (.ref a),AA (.ref p),x,v,s,t]/\f p=AA (.lst (g.map D.int))/\g.length+60*l.length<=3780/\rdS f a (ns.map D.int)/\Kp [] st f) ?_ ?_ _ _ _ ⟨[],AF,AF,AF,AF,λd hd=>by simp only[p5,DF,mem_range]at hd;obtain⟨i,H,rfl⟩:=hd;exact⟨i,∎,by simpa using H⟩,rfl,f8,by rw[C9];simp only[Ao,Bk];lia,I,Kp.refl.new A⟩
 ·rintro env f ⟨g,x,v,s,t,el,rfl,hd,hb,hra,K⟩;refine⟨trivial,?_⟩;∎;rw[r8 (.inl hd)];rfl';rw[AW];simp only[Ao]at hb;refine⟨⋯,?_⟩;refine E3 (λl env f=>∃(g:List Int)(x v s t:Option D),(∀d∈l,∃i:Int,d=.int i/\0<=i)/\env=[AA (.ref a),AA (.ref p),x,v,s,t]/\f p=AA (.lst (g.map D.int))/\g.length+l.length<=10000/\rdS f a (ns.map D.int)/\Kp [] st f) ?_ ?_ _ _ _ ⟨g,_,_,_,_,λd hd=>by simp only[p5,DF]at hd;obtain⟨i,_,rfl⟩:=hd;exact⟨_,rfl,⋯⟩,rfl,hd,by rw[C9];lia,hra,K⟩
  ·rintro env f ⟨g,x,v,s,t,el,rfl,hd,hb,hra,K⟩;refine⟨trivial,?_⟩;∎;rw[db9 (.inl hd)];intro r M;obtain⟨L,S,_⟩:=bw6 (ns:=g) (lo:=AF) (hi:=AA 150);rw[S];exact c9 (q r _ ⟨L,f8⟩ (K.new M))
  ·rintro d ds env f ih ⟨g,x,v,s,t,el,rfl,hd,hb,hra,K⟩;obtain⟨i,rfl,R⟩:=el d ∎;simp only[AV]at hb;refine⟨trivial,?_⟩;rfl';(iterate 2 ∎);rw[r8 hra];rfl';rw[AW];have C:∀y:Int,j7 (Zg P G n) (match F6.body.drop 2 with|.cons (.for _ _ b) _=>b.drop 2|_=>.nil) ⟨y6 (λ_=>True) (.n 2) (j7 (Zg P G n) (match F6.body.drop 2 with|.cons (.for _ _ b) _=>b|_=>.nil)) ⟨j7 (Zg P G n) (F6.body.drop 3) (o0 Q),(o0 Q).rt,(o0 Q).bk,(o0 Q).ct⟩ ds,(o0 Q).rt,j7 (Zg P G n) (F6.body.drop 3) (o0 Q),y6 (λ_=>True) (.n 2) (j7 (Zg P G n) (match F6.body.drop 2 with|.cons (.for _ _ b) _=>b|_=>.nil)) ⟨j7 (Zg P G n) (F6.body.drop 3) (o0 Q),(o0 Q).rt,(o0 Q).bk,(o0 Q).ct⟩ ds⟩ [AA (.ref a),AA (.ref p),AA (.int i),v,s,AA (.int y)] f:=by
    intro y;simp only[F6,Ss.drop];∎;refine⟨P9 ⟨∅,∅⟩,U2 ⟨∅,∅⟩,∅,?_⟩;∎;refine⟨⟨∅,∅⟩,U2 (by have:=J (y*48271+7919*i+13);lia),U2 ⟨∅,∅⟩,∅,?_⟩;∎;rw[A6 (.inl hd)];refine⟨trivial,P9 ⟨∅,∅⟩,∅,∅,?_⟩;rw[B7 hd];refine⟨B3 (by simp only[AW];lia),?_⟩;exact ih _ _ ⟨g++[_],_,_,_,_,λd hd=>el d (by simp[hd]),rfl,by rw[f8,Ah];rfl,by simp only[Ad,AV,Ao];lia,m hra,k K⟩
   by_cases E:(0:Int)<(ns.length:Int)
   ·rw[if_pos E];∎;rw[r8 hra];rfl';rw[AW,w];refine⟨E,?_⟩;rw[l7 hra];obtain⟨j,O⟩:=Bu (Gw i (show(ns.length:Int)≠0 by lia));have F:j<ns.length:=by have:=Fs i E;lia
    rw[O];refine⟨.int ns[j],by rw[v6,Ag,AJ F];rfl,?_⟩;rfl';exact⟨∅,C _⟩
   ·rw[if_neg E];rfl';exact C _
 ·rintro d ds env f ih ⟨g,x,v,s,t,el,rfl,hd,hb,hra,K⟩;obtain⟨i,rfl,H⟩:=el d ∎;simp only[AV]at hb;refine⟨trivial,?_⟩;rfl';∎;rw[l7 hra];refine⟨.int ns[i],by rw[v6,Ag,AJ H];rfl,?_⟩;∎;refine⟨⟨∅,∅,∅⟩,?_⟩;generalize ns[i]=c
  split
  ·∎;refine⟨∅,?_⟩;refine E3 (λl env f=>∃(g:List Int)(c:Int)(s:Option D),env=[AA (.ref a),AA (.ref p),AA (.int i),AA (.int c),s,t]/\f p=AA (.lst (g.map D.int))/\g.length+l.length+60*ds.length<=3780/\rdS f a (ns.map D.int)/\Kp [] st f) ?_ ?_ _ _ _ ⟨g,c,_,rfl,hd,by rw[C9];have:JS 60=60:=rfl;lia,hra,K⟩
   ·rintro env f ⟨g,c,s,rfl,hd,hb,hra,K⟩;refine⟨trivial,?_⟩;rfl';exact ih _ _ ⟨g,_,_,_,_,λd hd=>el d (by simp[hd]),rfl,hd,by simpa using hb,hra,K⟩
   ·rintro d' ds' env f ih2 ⟨g,c,s,rfl,hd,hb,hra,K⟩;simp only[AV]at hb;refine⟨trivial,?_⟩;rfl';∎
    split
    ·∎;rw[A6 (.inl hd)];refine⟨trivial,∅,?_⟩;rw[B7 hd];refine⟨B3 (by simp only[AW];lia),?_⟩;∎;exact⟨⟨∅,∅⟩,ih2 _ _ ⟨g++[_],_,_,rfl,by rw[f8,Ah];rfl,by simp only[Ad,AV,Ao];lia,m hra,k K⟩⟩
    ·rfl';exact ih2 _ _ ⟨g,_,_,rfl,hd,⋯,hra,K⟩
  ·∎;refine⟨∅,P9 ⟨∅,∅⟩,U2 ⟨∅,∅⟩,∅,?_⟩;∎;refine⟨⟨∅,∅⟩,U2 (by have:=J (c % 2147483629*48271+7919*i+13);lia),U2 ⟨∅,∅⟩,∅,?_⟩;∎;rw[A6 (.inl hd)];refine⟨trivial,∅,P9 ⟨∅,∅⟩,∅,∅,λp2 hp2=>?_⟩;have N:p≠p2:=j9 hd hp2;refine⟨g.map D.int,_,l5 hd hp2,f8,B2 (by simp only[AW,AV,Ao];lia),?_⟩;exact ih _ _ ⟨g++[_,_],_,_,_,_,λd hd=>el d (by simp[hd]),rfl,by rw[f8,Ah];rfl,by simp only[Ad,AV,Ao];lia,m (hra.elim (λh=>.inl (l5 h hp2)) (λh=>.inr (l5 h hp2))),k (K.new hp2)⟩
end
section
variable {a c k:Kd} {t u v:Pg} {o o1 o2 m2 o3 m3 h h':Nat}
def Gr.mono(g:Gr Γ k o m h t)(c:o<=o1)(b:m<=m1)(a:h<=h'):Gr Γ k o1 m1 h' t:=⟨g.kn,g.told,λu=>BB (g.oc u) c,BB g.sz b,BB g.hg a⟩
theorem Gr.pair(x:Gr Γ a o1 m1 h t)(y:Gr Γ b o2 m2 h u):Gr Γ (.both a b) (o1+o2) (2+m1+m2) (h+1) (.pair t u):=
 ⟨.pair x.kn y.kn,⟨x.told,y.told⟩,λi=>FR (x.oc i) (y.oc i),by have:=x.sz;have:=y.sz;simp only[Pg.d,l9,l8,n8,D.sz];lia,by have:=x.hg;have:=y.hg;simp only[Pg.hgt];lia⟩
theorem Gr.give(x:Gr Γ (.way a b) o1 m1 h t)(y:Gr Γ a o2 m2 h u):Gr Γ b (o1+o2) (2+m1+m2) (h+1) (.give t u):=
 ⟨.give x.kn y.kn,⟨x.told,y.told⟩,λi=>FR (x.oc i) (y.oc i),by have:=x.sz;have:=y.sz;simp only[Pg.d,l9,l8,n8,D.sz];lia,by have:=x.hg;have:=y.hg;simp only[Pg.hgt];lia⟩
theorem Gr.lets(x:Gr Γ a o1 m1 h t)(y:Gr (a::Γ) b o2 m2 h u):Gr Γ b (o1+o2) (2+m1+m2) (h+1) (.lets t u):=
 ⟨.lets x.kn y.kn,⟨x.told,y.told⟩,λi=>FR (x.oc i) (y.oc (i+1)),by have:=x.sz;have:=y.sz;simp only[Pg.d,l9,l8,n8,D.sz];lia,by have:=x.hg;have:=y.hg;simp only[Pg.hgt];lia⟩
theorem Gr.case(x:Gr Γ (.eith a b) o1 m1 h t)(y:Gr (a::Γ) c o2 m2 h u)(z:Gr (b::Γ) c o3 m3 h v):Gr Γ c (o1+o2+o3) (2+m1+m2+m3) (h+1) (.case t u v):=
 ⟨.case x.kn y.kn z.kn,⟨x.told,y.told,z.told⟩,λi=>FR (FR (x.oc i) (y.oc (i+1))) (z.oc (i+1)),by have:=x.sz;have:=y.sz;have:=z.sz;simp only[Pg.d,l9,l8,n8,D.sz];lia,by have:=x.hg;have:=y.hg;have:=z.hg;simp only[Pg.hgt];lia⟩
theorem Gr.first(x:Gr Γ (.both a b) o m h t):Gr Γ a o (2+m) (h+1) (.first t):=⟨.first x.kn,x.told,x.oc,by have:=x.sz;simp only[Pg.d,l9,l8,n8,D.sz];lia,by have:=x.hg;simp only[Pg.hgt];lia⟩
theorem Gr.second(x:Gr Γ (.both a b) o m h t):Gr Γ b o (2+m) (h+1) (.second t):=⟨.second x.kn,x.told,x.oc,by have:=x.sz;simp only[Pg.d,l9,l8,n8,D.sz];lia,by have:=x.hg;simp only[Pg.hgt];lia⟩
theorem Gr.left(x:Gr Γ a o m h t)(c:b.nest<=3):Gr Γ (.eith a b) o (2+b.ms+m) (h+1) (.left b t):=⟨.left x.kn,⟨c,x.told⟩,x.oc,by have:=x.sz;have:=B5 b;simp only[Pg.d,l9,l8,n8,D.sz];lia,by have:=x.hg;simp only[Pg.hgt];lia⟩
theorem Gr.right(x:Gr Γ b o m h t)(c:a.nest<=3):Gr Γ (.eith a b) o (2+a.ms+m) (h+1) (.right a t):=⟨.right x.kn,⟨c,x.told⟩,x.oc,by have:=x.sz;have:=B5 a;simp only[Pg.d,l9,l8,n8,D.sz];lia,by have:=x.hg;simp only[Pg.hgt];lia⟩
theorem Gr.way(x:Gr (a::Γ) b o m h t)(ha:a.nest<=3):Gr Γ (.way a b) o (2+a.ms+m) (h+1) (.way a t):=⟨.way x.kn,⟨ha,x.told⟩,λi=>x.oc (i+1),by have:=x.sz;have:=B5 a;simp only[Pg.d,l9,l8,n8,D.sz];lia,by have:=x.hg;simp only[Pg.hgt];lia⟩
theorem Gr.never(x:Gr Γ .non o m h t)(a:k.nest<=3):Gr Γ k o (2+k.ms+m) (h+1) (.never k t):=⟨.never x.kn,⟨a,x.told⟩,x.oc,by have:=x.sz;have:=B5 k;simp only[Pg.d,l9,l8,n8,D.sz];lia,by have:=x.hg;simp only[Pg.hgt];lia⟩
theorem Gr.star:Gr Γ .one 0 2 1 .star:=⟨.star,trivial,λ_=>AS _,AS _,AS _⟩
theorem Gr.name(e:Γ[n]?=AA k):Gr Γ k 1 3 1 (.name n):=⟨.name e,trivial,λi=>by simp only[Pg.oc];split<;>lia,AS _,AS _⟩
end
abbrev Tr(r m:Nat):Nat:=if r<3 then m else 2*m+42*(r-2)
abbrev Lr(r:Nat):Nat:=if r<3 then 1 else if r<6 then 3 else 6
def Q4(h:r<3):Tr r m=m:=if_pos h
def E8(h:3<=r):Tr r m=2*m+42*(r-2):=if_neg ⋯
def Q6:Tr r m<=2*m+42*(r-2):=by unfold Tr;split<;>lia
def bi5(h:3<=r)(a:r<=8):2*Lr (r / 2)<=Lr r/\2*Lr ((r-1) / 2)<=Lr r/\3*Lr ((r-1) / 3)<=Lr r/\Lr (r-1)<=Lr r/\3<=Lr r:=by
 obtain rfl|rfl|rfl|rfl|rfl|rfl:r=3\/r=4\/r=5\/r=6\/r=7\/r=8:=by lia
 all_goals decide
structure Ask(k:Kd)(Γ:List Kd)(r:Nat):Prop where
 gw:k.gw
 nest:k.nest+r<=16
 all:∀l∈Γ,l.nest<=3
 len:Γ.length+r<=40
abbrev ac9(P:i8)(G:Gs)(r:Nat):Prop:=∀{n:Nat}{st:Sto}{Q:DK}{a:AH}{k:Kd}{Γ:List Kd},3*r+30<=n->Ask k Γ r->o8 st a->(∀(p:Pg)st',Gr Γ k (Lr r) (Tr r k.ms) (18+r) p->o8 st' a->Kp [a] st st'->Q p.d st')->sem P G n "_law_term" [.ref a,k.d,.tup (Γ.map Kd.d),.int r] st Q
section
variable (T:P41 P G) 
include T
def b13(j:3<=r)(V:r<=8)(w:∀s,s<r->ac9 P G s):∀{k:Kd},3*r+29<=n->Ask k Γ r->o8 st da->(∀(p:Pg)h,Gr Γ k (Lr r) (Tr r k.ms) (18+r) p->o8 h da->Kp [da] st h->Q p.d h)->sem P G n "_law_made" [.ref da,k.d,.tup (Γ.map Kd.d),.int r] st Q:=by
 intro k X A I q;obtain⟨n,rfl⟩:∃k,n=k+1:=⟨n-1,⋯⟩;obtain⟨L1,L2,Z,F,Y⟩:=bi5 j V;have S:=A.len;have i:=A.nest;have g:((r:Int)-1)=((r-1:Nat):Int):=by lia
 have y:((r:Int) / 2)=((r / 2:Nat):Int):=by lia
 refine i5 T.made rfl [AA (.ref da),AA k.d,AA (.tup (Γ.map Kd.d)),AA (.int r),AF] rfl ?_;unfold ah9;cases k with
 |non=>exact A.gw.elim
 |one=>
  simp only[Kd.d];(iterate 2 ∎);exact c9 (q .star _ (Gr.star.mono (BK _) (by rw[E8 j];lia) ⋯) I Kp.refl)
 |both a b=>
  simp only[Kd.nest]at i;simp only[Kd.d];(iterate 3 ∎);rw[y];refine⟨by rw[T.term];rfl,⟨∅,∅⟩,w (r / 2) ⋯ ⋯ ⟨A.gw.1,⋯,A.all,⋯⟩ I λt s1 g1 e f=>?_⟩;∎;rw[y];refine⟨by rw[T.term];rfl,⟨∅,∅⟩,w (r / 2) ⋯ ⋯ ⟨A.gw.2,⋯,A.all,⋯⟩ e λu s2 g2 I2 K2=>?_⟩;have z:Tr (r / 2) a.ms<=_:=Q6;have W:Tr (r / 2) b.ms<=_:=Q6;exact c9 (q (.pair t u) _ ((g1.pair g2).mono ⋯ (by rw[E8 j];simp only[Kd.ms];lia) ⋯) I2 (f.trans K2))
 |way a b=>
  simp only[Kd.nest]at i;simp only[Kd.d];have B:=R6 A.gw.1;have U:=A.gw.2.2;(iterate 3 ∎);refine⟨by rw[T.many];rfl,R7 T a ⋯ (Kd.few 2 B (AS _)).2 ?_⟩;rfl'
  rcases T2 A.gw.1 with⟨E,m⟩|⟨E,m⟩
  ·rw[if_pos ⋯];∎;rw[g];refine⟨by rw[T.term];rfl,B2 (by simp only[AW,AV,Ao];lia),w (r-1) ⋯ ⋯ (Γ:=a::Γ) ⟨U,⋯,λl D=>?_,by simp only[AV];lia⟩ I λt s1 g1 e f=>?_⟩
   ·rcases AN.mp D with rfl|D
    ·lia
    ·exact A.all l D
   have z:Tr (r-1) b.ms<=_:=Q6;exact c9 (q (.way a t) _ ((g1.way ⋯).mono F (by rw[E8 j];simp only[Kd.ms];lia) ⋯) e f)
  ·rw[if_neg ⋯];(iterate 2 ∎);subst m;have J:=A.gw.2.1 rfl;exact c9 (q (.way .non (.never b (.name 0))) _ (((Gr.name (k:=.non) rfl).never J).way (BK _) |>.mono ⋯ (by rw[E8 j];simp only[Kd.ms];lia) ⋯) I Kp.refl)
 |eith a b=>
  simp only[Kd.nest]at i;simp only[Kd.d];have B:=R6 A.gw.1;have R:=A.gw.2.2;have J:=Kd.gd_pos A.gw.2.1;have C:∀(c:Sto),a.sm->o8 c da->Kp [da] st c->j7 (Zg P G n) (.cons (.ret (.tup (.cons (.str "left") (.cons (.ix (.v 1) (.int 2)) (.cons (.call "_law_term" (.cons (.v 0) (.cons (.ix (.v 1) (.int 1)) (.cons (.v 2) (.cons (.bin .Sub (.v 3) (.int 1)) .nil))))) .nil))))) .nil) (o0 Q) [AA (.ref da),AA (.tup [.str "either",a.d,b.d]),AA (.tup (Γ.map Kd.d)),AA (.int r),AF] c:=by
   intro c m e f;∎;rw[g];refine⟨by rw[T.term];rfl,w (r-1) ⋯ ⋯ ⟨m.gw,⋯,A.all,⋯⟩ e λt s1 g1 e K2=>?_⟩;have z:Tr (r-1) a.ms<=_:=Q6;exact c9 (q (.left b t) _ ((g1.left ⋯).mono F (by rw[E8 j];simp only[Kd.ms];lia) ⋯) e (f.trans K2))
  have o:∀(c:Sto),o8 c da->Kp [da] st c->j7 (Zg P G n) (.cons (.ret (.tup (.cons (.str "right") (.cons (.ix (.v 1) (.int 1)) (.cons (.call "_law_term" (.cons (.v 0) (.cons (.ix (.v 1) (.int 2)) (.cons (.v 2) (.cons (.bin .Sub (.v 3) (.int 1)) .nil))))) .nil))))) .nil) (o0 Q) [AA (.ref da),AA (.tup [.str "either",a.d,b.d]),AA (.tup (Γ.map Kd.d)),AA (.int r),AF] c:=by
   intro c e f;∎;rw[g];refine⟨by rw[T.term];rfl,w (r-1) ⋯ ⋯ ⟨Kd.sm.gw A.gw.2,⋯,A.all,⋯⟩ e λt s1 g1 e K2=>?_⟩;have z:Tr (r-1) b.ms<=_:=Q6;exact c9 (q (.right a t) _ ((g1.right ⋯).mono F (by rw[E8 j];simp only[Kd.ms];lia) ⋯) e (f.trans K2))
  (iterate 5 ∎);refine⟨by rw[T.many];rfl,R7 T b ⋯ (Kd.few 2 R (AS _)).2 ?_⟩;rfl';rw[if_neg ⋯];refine⟨by rw[T.many];rfl,R7 T a ⋯ (Kd.few 2 B (AS _)).2 ?_⟩;rfl'
  rcases T2 A.gw.1 with⟨E,m⟩|⟨E,m⟩
  ·rw[if_pos ⋯];obtain⟨n,rfl⟩:∃k,n=k+1:=⟨n-1,⋯⟩;refine⟨by rw[T.next];rfl,E1 T ∅ I λx s1 x0 x1 e f=>?_⟩;rfl'
   by_cases H:x=0
   ·rw[if_pos H];exact C s1 m e f
   ·rw[if_neg H];rfl';exact o s1 e f
  ·rw[if_neg ⋯];rfl';exact o st I Kp.refl
end
theorem bl7:∀k:Kd,3<=k.ms
 |.non|.one=>by decide
 |.eith a b|.both a b|.way a b=>by have:=bl7 a;simp only[Kd.ms];lia
def Ask.cons{k a:Kd}{s:Nat}(A:Ask k Γ r)(c:a.nest<=3)(d:s<r):Ask k (a::Γ) s:=
 ⟨A.gw,by have:=A.nest;lia,λl b=>by
  rcases AN.mp b with rfl|b
  ·exact c
  ·exact A.all l b,by have:=A.len;simp only[AV];lia⟩
def Ask.sub{k l:Kd}{s:Nat}(A:Ask k Γ r)(g:l.gw)(a:l.nest+s<=16)(b:s<=r):Ask l Γ s:=⟨g,a,A.all,by have:=A.len;lia⟩
section
variable (T:P41 P G) 
include T
def ax9(B:3<=r)(L:r<=8)(b:∀s,s<r->ac9 P G s){k:Kd}(N:3*r+29<=n)(A:Ask k Γ r)(I:o8 st da)(q:∀(p:Pg)f,Gr Γ k (Lr r) (Tr r k.ms) (18+r) p->o8 f da->Kp [da] st f->Q p.d f):sem P G n "_law_taken" [.ref da,k.d,.tup (Γ.map Kd.d),.int r] st Q:=by
 obtain⟨n,rfl⟩:∃k,n=k+2:=⟨n-2,⋯⟩;obtain⟨V,U,S,F,R⟩:=bi5 B L;have J:=A.len;have H:=A.nest;have a:((r:Int)-1)=((r-1:Nat):Int):=by lia
 have y:(((r-1:Nat):Int) / 2)=(((r-1) / 2:Nat):Int):=by lia
 have o:(((r-1:Nat):Int) / 3)=(((r-1) / 3:Nat):Int):=by lia
 have O:=E8 (m:=k.ms) B;have e:∀x:Kd,[x.d].length+(Γ.map Kd.d).length<=sizeLine:=λx=>B2 (by simp only[AW,AV,Ao];lia);refine i5 T.taken rfl [AA (.ref da),AA k.d,AA (.tup (Γ.map Kd.d)),AA (.int r),AF,AF,AF,AF,AF,AF,AF] rfl ?_;unfold ag2;∎;refine⟨by rw[T.next];rfl,E1 T ∅ I λx s1 x0 x5 I1 K1=>?_⟩;∎;obtain⟨d,M,K⟩:∃d:Nat,((1:Int)-if(r:Int)<6 then 1 else 0)=(d:Int)/\d<=1:=by
  split
  ·exact⟨0,rfl,∅⟩
  ·exact⟨1,rfl,∅⟩
 rw[M];refine⟨by rw[T.kind];rfl,F8 T d ⋯ ⋯ I1 λm s2 g1 g2 g3 I2 h=>?_⟩;have i:m.sm:=⟨g1,⋯⟩;have h:=K1.trans h;∎;rw[a,y];refine⟨⟨∅,∅⟩,?_⟩;∎
 by_cases E:x=0
 ·rw[if_pos E];∎;rw[a];refine⟨by rw[T.term];rfl,b (r-1) ⋯ ⋯ (k:=.both k m) (A.sub ⟨A.gw,i.gw⟩ (by simp only[Kd.nest];lia) ⋯) I2 λt s3 g I3 K3=>?_⟩;have w:Tr (r-1) (Kd.both k m).ms<=_:=Q6;simp only[Kd.ms]at w;exact c9 (q (.first t) _ (g.first.mono F (by simp only[Kd.ms];lia) ⋯) I3 (h.trans K3))
 rw[if_neg E];∎
 by_cases D:x=1
 ·rw[if_pos D];∎;rw[a];refine⟨by rw[T.term];rfl,b (r-1) ⋯ ⋯ (k:=.both m k) (A.sub ⟨i.gw,A.gw⟩ (by simp only[Kd.nest];lia) ⋯) I2 λt s3 g I3 K3=>?_⟩;have w:Tr (r-1) (Kd.both m k).ms<=_:=Q6;simp only[Kd.ms]at w;exact c9 (q (.second t) _ (g.second.mono F (by simp only[Kd.ms];lia) ⋯) I3 (h.trans K3))
 rw[if_neg D];∎
 by_cases C:x=2
 ·rw[if_pos C];∎;refine⟨by rw[T.term];rfl,b ((r-1) / 2) ⋯ ⋯ (k:=.way m k) (A.sub ⟨.inr i,λz=>by rw[z]at g1;exact g1.elim,A.gw⟩ (by simp only[Kd.nest];lia) ⋯) I2 λt s3 gt I3 K3=>?_⟩;∎;refine⟨by rw[T.term];rfl,b ((r-1) / 2) ⋯ ⋯ (A.sub i.gw ⋯ ⋯) I3 λu s4 gu I4 K4=>?_⟩;refine c9 (q (.give t u) _ ((gt.give gu).mono ⋯ ?_ ⋯) I4 ((h.trans K3).trans K4))
  by_cases c:(r-1) / 2<3
  ·rw[Q4 c,Q4 c];simp only[Kd.ms];lia
  ·rw[E8 ⋯,E8 ⋯];simp only[Kd.ms];lia
 rw[if_neg C];∎
 by_cases j:x=3
 ·rw[if_pos j];∎;refine⟨by rw[T.term];rfl,b ((r-1) / 2) ⋯ ⋯ (A.sub i.gw ⋯ ⋯) I2 λt s3 gt I3 K3=>?_⟩;∎;refine⟨by rw[T.term];rfl,e m,b ((r-1) / 2) ⋯ ⋯ (Γ:=m::Γ) (A.cons ⋯ ⋯) I3 λu s4 gu I4 K4=>?_⟩;refine c9 (q (.lets t u) _ ((gt.lets gu).mono ⋯ ?_ ⋯) I4 ((h.trans K3).trans K4))
  by_cases c:(r-1) / 2<3
  ·rw[Q4 c,Q4 c];lia
  ·rw[E8 ⋯,E8 ⋯];lia
 rw[if_neg j];∎;refine⟨by rw[T.kind];rfl,F8 T 0 ⋯ ⋯ I2 λl s3 l1 l2 l3 I3 K3=>?_⟩;∎;rw[a,o];refine⟨⟨∅,∅⟩,?_⟩;have c:(r-1) / 3<3:=by lia
 ∎;refine⟨by rw[T.term];rfl,b ((r-1) / 3) ⋯ ⋯ (k:=.eith m l) (A.sub ⟨.inr i,l1,⋯⟩ (by simp only[Kd.nest];lia) ⋯) I3 λt s4 gt I4 K4=>?_⟩;∎;refine⟨by rw[T.term];rfl,e m,b ((r-1) / 3) ⋯ ⋯ (Γ:=m::Γ) (A.cons ⋯ ⋯) I4 λu s5 gu I5 K5=>?_⟩;∎;refine⟨by rw[T.term];rfl,e l,b ((r-1) / 3) ⋯ ⋯ (Γ:=l::Γ) (A.cons ⋯ ⋯) I5 λv s6 gv I6 K6=>?_⟩;refine c9 (q (.case t u v) _ ((gt.case gu gv).mono ⋯ ?_ ⋯) I6 ((((h.trans K3).trans K4).trans K5).trans K6));rw[Q4 c,Q4 c];simp only[Kd.ms];lia
def a68(r:Nat)(h8:r<=8):ac9 P G r:=by
 induction r using Gv with
 |_ r ih=>
 intro n st Q da k Γ hn A I q;have ih:∀s,s<r->ac9 P G s:=λs hs=>ih s hs ⋯;obtain⟨n,rfl⟩:∃k,n=k+2:=⟨n-2,⋯⟩;have len:=A.len;have nst:=A.nest;refine i5 T.term rfl [AA (.ref da),AA k.d,AA (.tup (Γ.map Kd.d)),AA (.int r),AF,AF] rfl ?_;unfold W2;∎;simp only[AW];refine⟨⟨⋯,⋯⟩,by rw[C9];lia,?_⟩;refine O7 (λl acc env st'=>st'=st/\(∀d∈l,∃i:Nat,d=.int i/\i<Γ.length)/\∃(js:List Nat)(x:Option D),acc=js.map (λj:Nat=>D.int j)/\(∀j∈js,Γ[j]?=AA k)/\env=[AA k.d,AA (.tup (Γ.map Kd.d)),x]/\js.length+l.length<=40) ?_ ?_ _ _ _ _ ⟨rfl,λd hd=>by simp only[p5,DF,mem_range]at hd;obtain⟨i,hi,rfl⟩:=hd;exact⟨i,∎,by simpa using hi⟩,[],AF,rfl,nofun,rfl,by rw[C9];simp only[Ao,Bk];lia⟩
 ·rintro acc env st' ⟨rfl,_,js,x,rfl,hj,_,hl⟩;refine⟨trivial,λp hp=>?_⟩;simp only[Ao]at hl;∎;refine⟨by rw[T.next];rfl,E1 T ∅ (I.new hp) λx s1 x0 x4 I1 K1=>?_⟩;have hp1:s1 p=AA (.lst (js.map λj:Nat=>D.int j)):=K1.at' f8 (by simpa using(I.ne hp).symm);have K1:Kp [da] st' s1:=(Kp.refl.new hp).trans K1;∎;rw[r8 (.inl hp1)];rfl';rw[AW];have j8:j7 (Zg P G (n+1)) (W2.body.drop 3) (o0 Q) [AA (.ref da),AA k.d,AA (.tup (Γ.map Kd.d)),AA (.int r),AA (.ref p),AA (.int x)] s1:=by
   simp only[W2,Ss.drop];∎
   by_cases h3:r<3
   ·rw[if_pos ⋯];∎;exact⟨by rw[T.plain];rfl,R5 T A.gw ⋯ (c9 (q _ _ ((U7 A.gw).mono (BK _) (by rw[Q4 h3];lia) ⋯) I1 K1))⟩
   ·rw[if_neg ⋯];∎
    by_cases hx:x=3
    ·rw[if_pos hx];∎;exact⟨by rw[T.taken];rfl,ax9 T ⋯ h8 ih ⋯ A I1 λp s2 g I2 K2=>c9 (q p s2 g I2 (K1.trans K2))⟩
    ·rw[if_neg hx];∎;exact⟨by rw[T.made];rfl,b13 T ⋯ h8 ih ⋯ A I1 λp s2 g I2 K2=>c9 (q p s2 g I2 (K1.trans K2))⟩
  have nam:0<js.length->j7 (Zg P G (n+1)) (.cons (.ret (.tup (.cons (.str "name") (.cons (.ix (.v 4) (.call "_law_next" (.cons (.v 0) (.cons (.len (.v 4)) .nil)))) .nil)))) .nil) (o0 Q) [AA (.ref da),AA k.d,AA (.tup (Γ.map Kd.d)),AA (.int r),AA (.ref p),AA (.int x)] s1:=by
   intro h0;∎;rw[r8 (.inl hp1)];rfl';rw[AW];refine⟨by rw[T.next];rfl,E1 T ⋯ I1 λy s2 y0 y1 I2 K2=>?_⟩;have hp2:s2 p=AA (.lst (js.map λj:Nat=>D.int j)):=K2.at' hp1 (by simpa using(I.ne hp).symm);rw[l7 (.inl hp2)];obtain⟨j,rfl⟩:=Bu y0;have hjl:j<js.length:=by lia
   refine⟨.int js[j],by rw[v6,Ag,AJ hjl];rfl,c9 (q (.name js[j]) _ ((Gr.name (hj _ (Ei hjl))).mono ?_ ?_ ⋯) I2 (K1.trans K2))⟩
   ·unfold Lr;split
    ·exact AS _
    ·split<;>decide
   ·have:=bl7 k;unfold Tr;split<;>lia
  by_cases h0:0<js.length
  ·rw[if_pos ⋯]
   by_cases h2:x<2
   ·rw[if_pos h2];exact nam h0
   ·rw[if_neg h2]
    by_cases h3:r<3
    ·rw[if_pos ⋯];exact nam h0
    ·rw[if_neg ⋯];rfl';exact j8
  ·rw[if_neg ⋯];rfl';exact j8
 ·rintro d ds acc env st' ih2 ⟨rfl,hd,js,x,rfl,hj,rfl,hl⟩;obtain⟨i,rfl,hi⟩:=hd d ∎;simp only[AV]at hl;refine⟨trivial,?_⟩;rfl';refine⟨Γ[i].d,by rw[v6,Ag,AJ hi];rfl,?_⟩;rw[bj0];refine⟨E4 _,E4 _,?_,?_⟩
  ·have:=A.all _ (Ei hi);exact BB (Ef _ _) (by rw[O0];lia)
  rw[bd5]
  by_cases e:Γ[i]=k
  ·simp only[e,decide_true,at8,if_true];exact ih2 _ _ _ ⟨rfl,λd h=>hd d (by simp[h]),js++[i],_,∎,λj hj'=>by
    rcases BI.mp hj' with z|z
    ·exact hj j z
    ·rw[BY.mp z,AJ hi,e],rfl,by simp only[Ad,AV,Ao];lia⟩
  ·simp only[e,decide_false,at8,if_false,BE];exact ih2 _ _ _ ⟨rfl,λd h=>hd d (by simp[h]),js,_,rfl,hj,rfl,⋯⟩
end
abbrev Pg.w:Pg->String
 |.name _=>"name"|.star=>"star"|.pair _ _=>"pair"|.first _=>"first"|.second _=>"second"|.left _ _=>"left"|.right _ _=>"right"
 |.case _ _ _=>"case"|.way _ _=>"way"|.give _ _=>"give"|.lets _ _=>"let"|.never _ _=>"never"
abbrev Pg.frt:Pg->List D
 |.name n=>[.int n]|.left b _=>[b.d]|.right b _=>[b.d]|.way b _=>[b.d]|.never b _=>[b.d]|_=>[]
def Pg.d_w(p:Pg)(u:Nat):p.d=.tup (.str p.w::(p.frt++(p.kidsU u).map λc=>c.1.d)):=by cases p<;>rfl
def Pg.mp_w(u:Nat)(h:p.w≠"name"):(p.mp f u).d=.tup (.str p.w::(p.frt++(p.kidsU u).map λc=>(c.1.mp f c.2).d)):=by cases p<;>first|rfl|exact absurd rfl h
@[reducible]noncomputable def isW(w:String)(l:List D):Prop:=(l.any λy=>deq y (.str w))=AD
abbrev as7(w:String):List (Nat×Nat):=
 if isW w [.str "name",.str "star"]then []else if isW w [.str "pair",.str "give"]then [(1,0),(2,0)]else if isW w [.str "first",.str "second"]then [(1,0)]
 else if isW w [.str "left",.str "right",.str "never"]then [(2,0)]else if w="way" then [(2,1)]else if w="let" then [(1,0),(2,1)]else [(1,0),(2,1),(3,1)]
@[reducible]noncomputable def at5(x:Nat×Nat):D:=.tup [.int x.1,.int x.2]
def cs5(p:Pg)(u:Nat):as7 p.w=(p.kidsU u).mapIdx λi c=>(1+p.frt.length+i,c.2-u):=by
 cases p<;>simp[Pg.kidsU,Pg.kids,Pg.more,Pg.frt,EI,Dj,Pg.w]<;>decide
section
variable (T:P41 P G) 
include T
def bs1{w:String}{c:List D}(q:∀a,st a=AF->Q (.ref a) (b0 st a (.lst ((as7 w).map at5)))):sem P G (n+1) "_law_under" [.tup (.str w::c)] st Q:=by
 have b:∀l:List String,D.pures (l.map λx=>D.str (Aa x))=AD:=λl=>by
  induction l with
  |nil=>rfl
  |cons x l m=>rw[As,D9,r9,m];rfl
 unfold as7 at q;refine i5 T.under rfl [AA (.tup (.str w::c)),AF] rfl ?_;unfold af9;(iterate 2 ∎);refine⟨r9 _,b ["name","star"],BK _,?_⟩
 by_cases i:isW w [.str "name",.str "star"]
 ·rw[if_pos i]at q ⊢;∎;exact λa ha=>c9 (q a ha)
 rw[if_neg i]at q ⊢;∎;refine⟨r9 _,b ["pair","give"],BK _,?_⟩
 by_cases h:isW w [.str "pair",.str "give"]
 ·rw[if_pos h]at q ⊢;∎;exact λa ha=>c9 (q a ha)
 rw[if_neg h]at q ⊢;∎;refine⟨r9 _,b ["first","second"],BK _,?_⟩
 by_cases g:isW w [.str "first",.str "second"]
 ·rw[if_pos g]at q ⊢;∎;exact λa ha=>c9 (q a ha)
 rw[if_neg g]at q ⊢;∎;refine⟨r9 _,b ["left","right","never"],BK _,?_⟩
 by_cases f:isW w [.str "left",.str "right",.str "never"]
 ·rw[if_pos f]at q ⊢;∎;exact λa ha=>c9 (q a ha)
 rw[if_neg f]at q ⊢;∎
 by_cases e:w="way"
 ·rw[if_pos e]at q ⊢;∎;exact λa ha=>c9 (q a ha)
 rw[if_neg e]at q ⊢;∎
 by_cases d:w="let"
 ·rw[if_pos d]at q ⊢;∎;exact λa ha=>c9 (q a ha)
 rw[if_neg d]at q ⊢;∎;exact λa ha=>c9 (q a ha)
end
def Pg.w_name(h:p.w="name"):∃n,p=.name n:=by cases p<;>simp[Pg.w]at h ⊢
def Pg.hgt_lt(p:Pg)(u:Nat):∀c∈p.kidsU u,c.1.hgt<p.hgt/\u<=c.2:=by
 cases p<;>simp[Pg.hgt,Pg.kidsU,Pg.kids,Pg.more,EI,Dj]<;>lia
@[reducible]noncomputable def lpB(F:Str):Ss:=.cons (.set 3 (.list (.v 0))) (.cons (.for (.tup [4,5]) (.seq (.call "_law_under" (.cons (.v 0) .nil))) (.cons (.put (.v 3) (.v 4) (.call F (.cons (.ix (.v 0) (.v 4)) (.cons (.v 1) (.cons (.bin .Add (.v 2) (.v 5)) .nil))))) .nil)) (.cons (.ret (.tuple (.v 3))) .nil))
section
variable (T:P41 P G) 
include T
def a93{F:Str}(M:(P F).isSome=AD){x:D}{y:Int}(I:p.w≠"name")
  (E:∀c∈p.kidsU u,∀(st:Sto)(Q:DK),(∀b,Kp [] st b->Q (c.1.mp f c.2).d b)->sem P G (n+1) F [c.1.d,x,.int (y+((c.2-u:Nat):Int))] st Q) (q:∀b,Kp [] st b->Q (p.mp f u).d b) :
  j7 (Zg P G (n+1)) (lpB F) (o0 Q) [AA p.d,AA x,AA (.int y),AF,AF,AF] st:=by
 rw[Pg.mp_w u I]at q;rw[Pg.d_w p u];generalize J:p.kidsU u=ks at E q;have B:=cs5 p u;rw[J]at B;∎;intro h C;∎;refine⟨by rw[T.under];rfl,bs1 T λa ha=>?_⟩;rw[B];rfl';have s:h≠a:=j9 f8 ha;refine⟨_,.inl f8,?_⟩;generalize H:FF at5 (EI (λi c=>(1+p.frt.length+i,c.2-u)) ks)=L;have R:L.length=ks.length:=by rw[<-H];simp
 have O:∀(i:Nat)(t:i<ks.length),L[i]?=AA (at5 (1+p.frt.length+i,ks[i].2-u)):=λi t=>by rw[<-H];simp[t]
 have k:∀{b:Sto}{v:Ob},rdS b a L->rdS (b0 b h v) a L:=λr=>r.elim (λr=>.inl (f7 r s.symm)) (λr=>.inr (f7 r s.symm));refine E3 (λl env b=>∃(i:Nat)(A z:Option D),i<=ks.length/\l=L.drop i/\env=[AA (.tup (.str p.w::(p.frt++ks.map λc=>c.1.d))),AA x,AA (.int y),AA (.ref h),A,z]/\b h=AA (.lst ((.str p.w::p.frt)++((ks.take i).map (λc=>(c.1.mp f c.2).d)++(ks.drop i).map λc=>c.1.d)))/\rdS b a L/\Kp [] st b) ?_ ?_ _ _ _ ⟨0,AF,AF,BK _,rfl,rfl,l5 f8 ha,.inl f8,(Kp.refl.new C).new ha⟩
 ·rintro env b ⟨i,A,z,t,el,rfl,h1,h2,K⟩;have e:i=ks.length:=by have:=congrArg CV el;rw[Bo]at this;simp only[Ao]at this;lia
  subst e;refine⟨h2,?_⟩;∎;refine⟨_,.inl h1,c9 ?_⟩;have:=q b K;simpa using this
 ·rintro d ds env b ih ⟨i,A,z,t,el,rfl,h1,h2,K⟩;refine⟨h2,?_⟩;have j:i<ks.length:=by
   have:=congrArg CV el;rw[Bo,AV]at this;lia
  rw[CO ⋯]at el;obtain⟨rfl,rfl⟩:=IZ el;have g:=O i j;rw[AJ ⋯]at g;rw[Av g];rfl';∎;refine⟨M,ks[i].1.d,?_,E ks[i] (Ei j) b _ λs2 K2=>?_⟩
  ·rw[v6,<-CM,Af (by simp only[AV];lia),Ag];rw[show 1+p.frt.length+i-(D.str p.w::p.frt).length=i by simp only[AV];lia,AJ j];rfl
  have N:=K2.at' h1 ∎;rfl';refine⟨h,_,1+p.frt.length+i,_,rfl,rfl,N,?_,?_⟩
  ·simp only[Ad,AV,AW,Bn,Bo];unfold ixN;rw[if_pos ⋯,if_pos ⋯,Bk]
  refine ih _ _ ⟨i+1,_,_,j,rfl,rfl,?_,?_,λb o nb e=>f7 (K2.at' (K.at' e ∎) ∎) (j9 e C)⟩
  ·rw[f8]
   congr 2
   rw[Hy _ _ (by simp only[AV];lia),Hy _ _ (by simp only[AV,AW,Bn];lia)];rw[CO j,As,show 1+p.frt.length+i-(D.str p.w::p.frt).length-((ks.take i).map λc=>(c.1.mp f c.2).d).length=0 by simp only[AV,AW,Bn];lia,List.set_cons_zero];rw[List.take_succ_eq_append_getElem j,Ah,Ch];rfl
  ·exact k (h2.elim (λr=>.inl (K2.at' r ∎)) (λr=>.inr (K2.at' r ∎)))
theorem ab1:∀(n:Nat)(p:Pg)(u:Nat){a:Sto}{Q:DK},p.hgt+2<=n->(∀b,Kp [] a b->Q (p.mp (lfF m l) u).d b)->sem P G n "_law_lift" [p.d,.int m,.int (u+l:Nat)] a Q
 |0,p,u,a,Q,i,q=>by lia
 |1,p,u,a,Q,i,q=>by lia
 |n+2,p,u,a,Q,i,q=>by
  refine i5 T.lift rfl [AA p.d,AA (.int m),AA (.int (u+l:Nat)),AF,AF,AF] rfl ?_;unfold ai8
  by_cases g:p.w="name"
  ·obtain⟨k,rfl⟩:=Pg.w_name g;simp only[Pg.d];(iterate 2 ∎);refine⟨P9 (by split<;>decide),?_⟩;have:=q a Kp.refl;simp only[Pg.mp,lfF]at this
   by_cases h:u+l<=k
   ·rw[if_pos h]at this;rw[if_pos ⋯];exact c9 (by simpa[Pg.d]using this)
   ·rw[if_neg h]at this;rw[if_neg ⋯];exact c9 (by simpa[Pg.d]using this)
  ·have:=a93 T (n:=n) (F:="_law_lift") (by rw[T.lift];rfl) (x:=.int m) (y:=(u+l:Nat)) (f:=lfF m l) (u:=u) g (λc hc a Q k=>by
    have z:=Pg.hgt_lt p u c hc;have e:(((u+l:Nat):Int)+((c.2-u:Nat):Int))=((c.2+l:Nat):Int):=by lia
    rw[e];exact ab1 (n+1) c.1 c.2 ⋯ k) q
   rw[Pg.d_w p u]at this ⊢;∎;rw[if_neg g];exact this
theorem M7:∀(n:Nat)(p:Pg)(u:Nat){b:Sto}{Q:DK},p.hgt+o.hgt+3<=n->(∀st',Kp [] b st'->Q (p.mp (sbF o) u).d st')->sem P G n "_law_put" [p.d,o.d,.int u] b Q
 |0,p,u,b,Q,i,q=>by lia
 |1,p,u,b,Q,i,q=>by lia
 |n+2,p,u,b,Q,i,q=>by
  refine i5 T.put rfl [AA p.d,AA o.d,AA (.int u),AF,AF,AF] rfl ?_;unfold aj2
  by_cases g:p.w="name"
  ·obtain⟨k,rfl⟩:=Pg.w_name g;simp only[Pg.hgt]at i;simp only[Pg.mp,sbF]at q;simp only[Pg.d];∎
   by_cases h:k=u
   ·rw[if_neg ⋯,if_pos h]at q;rw[if_pos ⋯];∎;exact⟨by rw[T.lift];rfl,ab1 T (m:=u) (l:=0) (n+1) o 0 ⋯ λst' K=>c9 (q st' K)⟩
   ·rw[if_neg ⋯];(iterate 2 ∎);have:=q b Kp.refl
    by_cases j:k<u
    ·rw[if_pos j]at this;rw[if_neg ⋯];exact c9 (by simpa[Pg.d]using this)
    ·rw[if_neg j,if_neg h]at this;rw[if_pos ⋯];have e:(k:Int)-1=((k-1:Nat):Int):=by lia
     rw[e];exact c9 this
  ·have:=a93 T (n:=n) (F:="_law_put") (by rw[T.put];rfl) (x:=o.d) (y:=u) (f:=sbF o) (u:=u) g (λc hc b Q k=>by
    have z:=Pg.hgt_lt p u c hc;have e:((u:Int)+((c.2-u:Nat):Int))=((c.2:Nat):Int):=by lia
    rw[e];exact M7 (n+1) c.1 c.2 ⋯ k) q
   rw[Pg.d_w p u]at this ⊢;∎;rw[if_neg g];∎;rw[if_neg g];exact this
end
abbrev ap8:List (Str×D):=[("let",.fn "forth_let"),("give",.fn "forth_give"),("first",.fn "forth_first"),("second",.fn "forth_second"),("left",.fn "forth_left"),("right",.fn "forth_right"),("star",.fn "forth_star"),("pair",.fn "forth_pair"),("way",.fn "forth_way"),("never",.fn "forth_never")]
abbrev X0:List Key:=[.inr "let",.inr "give",.inr "first",.inr "second",.inr "left",.inr "right",.inr "star",.inr "pair",.inr "way",.inr "split",.inr "never"]
structure PBk(P:i8)(G:Gs):Prop where
 alike:P "are_alike"=AA aa1
 few:G.cst "FEW"=AA (.int 2000)
 words:G.cst "WORDS"=AA (.ktup X0)
 forth:G.tab "FORTH"=ap8
 is:P "is_step"=AA aa3
 over:P "is_step_over"=AA O3
 flet:P "forth_let"=AA ag8
 fgive:P "forth_give"=AA af5
 ffirst:P "forth_first"=AA ae7
 fsecond:P "forth_second"=AA ae3
 fleft:P "forth_left"=AA ae9
 fright:P "forth_right"=AA ae5
 fstar:P "forth_star"=AA af6
 fpair:P "forth_pair"=AA af2
 fway:P "forth_way"=AA ag6
 fsplit:P "forth_split"=AA ae6
 split:P "split"=AA ak0
 fnever:P "forth_never"=AA ae8
section
def ck7(h:p.w="let"):∃t u,p=.lets t u:=by cases p<;>first|exact⟨_,_,rfl⟩|exact absurd h (of_decide_eq_false rfl)
def co3(h:p.w="give"):∃t u,p=.give t u:=by cases p<;>first|exact⟨_,_,rfl⟩|exact absurd h (of_decide_eq_false rfl)
def bh0(h:p.w="pair"):∃t u,p=.pair t u:=by cases p<;>first|exact⟨_,_,rfl⟩|exact absurd h (of_decide_eq_false rfl)
def bj2(h:p.w="way"):∃t u,p=.way t u:=by cases p<;>first|exact⟨_,_,rfl⟩|exact absurd h (of_decide_eq_false rfl)
def ct5(h:p.w="left"):∃t u,p=.left t u:=by cases p<;>first|exact⟨_,_,rfl⟩|exact absurd h (of_decide_eq_false rfl)
def cg5(h:p.w="right"):∃t u,p=.right t u:=by cases p<;>first|exact⟨_,_,rfl⟩|exact absurd h (of_decide_eq_false rfl)
def b72(h:p.w="first"):∃t,p=.first t:=by cases p<;>first|exact⟨_,rfl⟩|exact absurd h (of_decide_eq_false rfl)
def bz5(h:p.w="second"):∃t,p=.second t:=by cases p<;>first|exact⟨_,rfl⟩|exact absurd h (of_decide_eq_false rfl)
def ap2(h:p.w="case"):∃t u v,p=.case t u v:=by cases p<;>first|exact⟨_,_,_,rfl⟩|exact absurd h (of_decide_eq_false rfl)
structure Ft(p:Pg):Prop where
 kn:p.kn 3
 sz:p.d.sz<=1700
theorem bc4{d:D}:∀{l:List D},d∈l->d.sz<=D.szs l
 |e::l,h=>by
  rw[l8]
  rcases AN.mp h with rfl|h
  ·lia
  ·have:=bc4 h;lia
def Pg.kn_kid(h:p.kn m)(a:c∈p.kids):c.kn m:=by
 cases p<;>simp only[Pg.kids,AN,AZ,or_false]at a
 all_goals first|exact a.elim|(subst a;first|exact h|exact h.2)|(rcases a with rfl|rfl;exact h.1;exact h.2)|(rcases a with rfl|rfl|rfl;exact h.1;exact h.2.1;exact h.2.2)
def Ft.kid(h:Ft p)(a:c∈p.kids):Ft c:=by
 refine⟨Pg.kn_kid h.kn a,BB ?_ h.sz⟩;rw[Pg.d_w p 0,l9,l8,ba9];have b:c.d∈(p.kidsU 0).map λc=>c.1.d:=by
  have e:((p.kidsU 0).map λc=>c.1.d)=p.kids.map Pg.d:=by cases p<;>rfl
  rw[e];exact List.mem_map_of_mem a
 have:=bc4 b;lia
def b15(p:Pg):2*p.parts<=p.d.sz/\p.hgt<=p.parts:=by
 induction p<;>simp only[Pg.parts,Pg.d,Pg.hgt,l9,l8,n8,D.sz]<;>lia
theorem Ft.parts(h:Ft p):p.parts<=850/\p.hgt<=850:=by
 have:=b15 p;have:=h.sz;lia
end
abbrev Fok(P:i8)(G:Gs)(n:Nat)(f:Str)(W:Pg->Pg->Prop):Prop:=∀{x y:Pg}{st:Sto}{Q:DK},Ft x->Ft y->(∀b st',(W x y->b=AD)->Kp [] st st'->Q (.bl b) st')->sem P G n f [x.d,y.d] st Q
section
variable (B:PBk P G) (J:PNm P G) 
include B
def F7{x:Pg}(hx:Ft x)(q:∀b st',(x=y->b=AD)->Kp [] st st'->Q (.bl b) st'):sem P G (n+1) "are_alike" [x.d,y.d] st Q:=
 bs4 B.alike B.few (ap5 x) (ap5 y) (BB hx.sz ∅) λb st' h K=>q b st' (λe=>h (e▸rfl)) K
include J
def cq5(i:14<=n):Fok P G (n+1) "forth_let" λx y=>∃t u,x=.lets t u/\y=u.sb t:=by
 intro x y f Q a g q;refine i5 B.flet rfl [AA x.d,AA y.d] rfl ?_;unfold ag8
 by_cases h:x.w="let"
 ·obtain⟨t,u,rfl⟩:=ck7 h;have r:=(a.kid (c:=t) (by simp[Pg.kids])).parts;have p:=(a.kid (c:=u) (by simp[Pg.kids])).parts;obtain⟨n,rfl⟩:∃k,n=k+1:=⟨n-1,⋯⟩;simp only[Pg.d];∎;exact⟨by rw[B.alike];rfl,by rw[J.put];rfl,O5 J ⋯ ⋯ ⋯ i λs1 K1=>F7 B g λb s2 hb K2=>c9 (q b s2 (λ⟨o,m,l,j⟩=>hb (by cases l;exact j)) (K1.trans K2))⟩
 ·rw[Pg.d_w x 0];∎;rw[if_neg h];exact c9 (q AE f (λ⟨t,u,e,_⟩=>absurd (by rw[e];rfl) h) Kp.refl)
def ca3(m:14<=n):Fok P G (n+1) "forth_give" λx y=>∃a t u,x=.give (.way a u) t/\y=u.sb t:=by
 intro x y g Q i l q;refine i5 B.fgive rfl [AA x.d,AA y.d] rfl ?_;unfold af5
 by_cases h:x.w="give"
 ·obtain⟨z,t,rfl⟩:=co3 h;have j:=i.kid (c:=z) (by simp[Pg.kids]);have A:=(i.kid (c:=t) (by simp[Pg.kids])).parts
  by_cases f:z.w="way"
  ·obtain⟨a,u,rfl⟩:=bj2 f;have v:=(j.kid (c:=u) (by simp[Pg.kids])).parts;obtain⟨n,rfl⟩:∃k,n=k+1:=⟨n-1,⋯⟩;simp only[Pg.d];∎;exact⟨by rw[B.alike];rfl,by rw[J.put];rfl,O5 J ⋯ ⋯ ⋯ m λs1 K1=>F7 B l λb s2 hb K2=>c9 (q b s2 (λ⟨C,s,r,p,o⟩=>hb (by cases p;exact o)) (K1.trans K2))⟩
  ·simp only[Pg.d];rw[Pg.d_w z 0];∎;rw[if_neg f];exact c9 (q AE g (λ⟨a,t,u,e,_⟩=>absurd (by cases e;rfl) f) Kp.refl)
 ·rw[Pg.d_w x 0];∎;rw[if_neg h];exact c9 (q AE g (λ⟨a,t,u,e,_⟩=>absurd (by rw[e];rfl) h) Kp.refl)
def b68(m:14<=n):Fok P G (n+1) "forth_left" λx y=>∃c t u v,x=.case (.left c t) u v/\y=u.sb t:=by
 intro x y g Q i l q;refine i5 B.fleft rfl [AA x.d,AA y.d] rfl ?_;unfold ae9
 by_cases h:x.w="case"
 ·obtain⟨z,u,v,rfl⟩:=ap2 h;have j:=i.kid (c:=z) (by simp[Pg.kids]);have C:=(i.kid (c:=u) (by simp[Pg.kids])).parts
  by_cases f:z.w="left"
  ·obtain⟨a,t,rfl⟩:=ct5 f;have D:=(j.kid (c:=t) (by simp[Pg.kids])).parts;obtain⟨n,rfl⟩:∃k,n=k+1:=⟨n-1,⋯⟩;simp only[Pg.d];∎;exact⟨by rw[B.alike];rfl,by rw[J.put];rfl,O5 J ⋯ ⋯ ⋯ m λs1 K1=>F7 B l λb s2 hb K2=>c9 (q b s2 (λ⟨E,A,s,r,p,o⟩=>hb (by cases p;exact o)) (K1.trans K2))⟩
  ·simp only[Pg.d];rw[Pg.d_w z 0];∎;rw[if_neg f];exact c9 (q AE g (λ⟨a,t,u,v,e,_⟩=>absurd (by cases e;rfl) f) Kp.refl)
 ·rw[Pg.d_w x 0];∎;rw[if_neg h];exact c9 (q AE g (λ⟨a,t,u,v,e,_⟩=>absurd (by rw[e];rfl) h) Kp.refl)
def b24(m:14<=n):Fok P G (n+1) "forth_right" λx y=>∃c t u v,x=.case (.right c t) u v/\y=v.sb t:=by
 intro x y g Q i l q;refine i5 B.fright rfl [AA x.d,AA y.d] rfl ?_;unfold ae5
 by_cases h:x.w="case"
 ·obtain⟨z,u,v,rfl⟩:=ap2 h;have j:=i.kid (c:=z) (by simp[Pg.kids]);have C:=(i.kid (c:=v) (by simp[Pg.kids])).parts
  by_cases f:z.w="right"
  ·obtain⟨a,t,rfl⟩:=cg5 f;have D:=(j.kid (c:=t) (by simp[Pg.kids])).parts;obtain⟨n,rfl⟩:∃k,n=k+1:=⟨n-1,⋯⟩;simp only[Pg.d];∎;exact⟨by rw[B.alike];rfl,by rw[J.put];rfl,O5 J ⋯ ⋯ ⋯ m λs1 K1=>F7 B l λb s2 hb K2=>c9 (q b s2 (λ⟨E,A,s,r,p,o⟩=>hb (by cases p;exact o)) (K1.trans K2))⟩
  ·simp only[Pg.d];rw[Pg.d_w z 0];∎;rw[if_neg f];exact c9 (q AE g (λ⟨a,t,u,v,e,_⟩=>absurd (by cases e;rfl) f) Kp.refl)
 ·rw[Pg.d_w x 0];∎;rw[if_neg h];exact c9 (q AE g (λ⟨a,t,u,v,e,_⟩=>absurd (by rw[e];rfl) h) Kp.refl)
def ch8(s:14<=n):Fok P G (n+1) "forth_way" λx y=>∃a,y=.way a (.give (x.lf 1 0) (.name 0)):=by
 intro x y f Q i g q;refine i5 B.fway rfl [AA x.d,AA y.d] rfl ?_;unfold ag6
 by_cases h:y.w="way"
 ·obtain⟨a,u,rfl⟩:=bj2 h;have j:=g.kid (c:=u) (by simp[Pg.kids]);have r:=i.parts;obtain⟨n,rfl⟩:∃k,n=k+1:=⟨n-1,⋯⟩;simp only[Pg.d];∎;exact⟨by rw[B.alike];rfl,by rw[J.lift];rfl,ak7 J (p:=x) (m:=1) (l:=0) ⋯ ⋯ λs1 K1=>F7 B (y:=.give (x.lf 1 0) (.name 0)) j λb s2 hb K2=>c9 (q b s2 (λ⟨t,o⟩=>hb (by cases o;rfl)) (K1.trans K2))⟩
 ·rw[Pg.d_w y 0];∎;rw[if_neg h];exact c9 (q AE f (λ⟨a,e⟩=>absurd (by rw[e];rfl) h) Kp.refl)
omit J
theorem by7:Fok P G (n+2) "forth_first" λx y=>∃t u,x=.first (.pair t u)/\y=t:=by
 intro x y c Q l f q;refine i5 B.ffirst rfl [AA x.d,AA y.d] rfl ?_;unfold ae7
 by_cases h:x.w="first"
 ·obtain⟨z,rfl⟩:=b72 h
  by_cases a:z.w="pair"
  ·obtain⟨t,u,rfl⟩:=bh0 a;simp only[Pg.d];∎;exact⟨by rw[B.alike];rfl,F7 B f λb s2 hb K2=>c9 (q b s2 (λ⟨k,j,i,g⟩=>hb (by cases i;exact g)) K2)⟩
  ·simp only[Pg.d];rw[Pg.d_w z 0];∎;rw[if_neg a];exact c9 (q AE c (λ⟨t,u,e,_⟩=>absurd (by cases e;rfl) a) Kp.refl)
 ·rw[Pg.d_w x 0];∎;rw[if_neg h];exact c9 (q AE c (λ⟨t,u,e,_⟩=>absurd (by rw[e];rfl) h) Kp.refl)
theorem bt9:Fok P G (n+2) "forth_second" λx y=>∃t u,x=.second (.pair u t)/\y=t:=by
 intro x y st Q hx hy q;refine i5 B.fsecond rfl [AA x.d,AA y.d] rfl ?_;unfold ae3
 by_cases h:x.w="second"
 ·obtain⟨z,rfl⟩:=bz5 h
  by_cases h2:z.w="pair"
  ·obtain⟨t,u,rfl⟩:=bh0 h2;simp only[Pg.d];∎;exact⟨by rw[B.alike];rfl,F7 B hy λb s2 hb K2=>c9 (q b s2 (λ⟨t',u',e1,e2⟩=>hb (by cases e1;exact e2)) K2)⟩
  ·simp only[Pg.d];rw[Pg.d_w z 0];∎;rw[if_neg h2];exact c9 (q AE st (λ⟨t,u,e,_⟩=>absurd (by cases e;rfl) h2) Kp.refl)
 ·rw[Pg.d_w x 0];∎;rw[if_neg h];exact c9 (q AE st (λ⟨t,u,e,_⟩=>absurd (by rw[e];rfl) h) Kp.refl)
theorem ca8:Fok P G (n+1) "forth_star" λx y=>y=.star:=by
 intro x y a Q c b q;refine i5 B.fstar rfl [AA x.d,AA y.d] rfl ?_;unfold af6;∎;rw[bj0];exact⟨bb7 y,bb7 .star,BB (FJ _ _) (by simp only[J4,B9,E6];decide),c9 (q _ a (λe=>by rw[e];exact a70 (ap5 .star)) Kp.refl)⟩
theorem cb9:Fok P G (n+2) "forth_pair" λx y=>y=.pair (.first x) (.second x):=by
 intro x y a Q f c q;refine i5 B.fpair rfl [AA x.d,AA y.d] rfl ?_;unfold af2;rw[Pg.d_w y 0];∎;rw[<-Pg.d_w y 0]
 by_cases h:y.w="pair"
 ·rw[if_pos h];exact⟨by rw[B.alike];rfl,F7 B (y:=.pair (.first x) (.second x)) c λb s2 hb K2=>c9 (q b s2 hb K2)⟩
 ·rw[if_neg h];exact c9 (q AE a (λe=>absurd (by rw[e];rfl) h) Kp.refl)
theorem bz7:Fok P G (n+1) "forth_never" λx y=>∃k t,y=.never k t:=by
 intro x y a Q c b q;refine i5 B.fnever rfl [AA x.d,AA y.d] rfl ?_;unfold ae8;rw[Pg.d_w y 0];∎;exact c9 (q _ a (λ⟨k,t,e⟩=>by rw[e];rfl) Kp.refl)
end
structure Kw(sh dn sa pa wa ka:AH)(Γ:List Kd)(S:List It3)(st:Sto):Prop where
 ex:∃(ws:List (Kd×Bool))(kn:List Int),KA sh dn sa pa wa S ws st/\st ka=AA (.lst (kn.map D.int))/\KnOk S ws Γ kn/\kn.length<=2000
 out:ka∉shL sh dn sa pa wa
theorem Kw.keep{S:List It3}(h:Kw sh dn sa pa wa ka Γ S st)(K:Kp [] st st'):Kw sh dn sa pa wa ka Γ S st':=by
 obtain⟨a,b,f,e,d,c⟩:=h.ex;exact⟨⟨a,b,f.keep K,K.at' e ∎,d,c⟩,h.out⟩
section
variable (B:PBk P G) (J:PNm P G) (T:PNo P G) {S:List It3}
include T
def ap3(j:20<=n){k:Kd}(f:Ft p)(m:p.kind Γ=AA k)(C:Kw sh dn sa pa wa ka Γ S st)(t:S.length<=660000)(q:∀S' a,Has S' k.d->Kw sh dn sa pa wa ka Γ S' a->Wf S'->S <+: S'->S'.length<=S.length+217600->Q (.int (nb S' k.d:Nat)) a):
  X7 (.ref ka) st λl st1=>sem P G n "shelved_kind" [p.d,l,.ref sh] st1 Q:=by
 obtain⟨s,e,h,c,g,o⟩:=C.ex;refine⟨_,.inl c,λl hl=>?_⟩;have i:=f.parts;have r:Kp [] st (b0 st l (.lst (e.map D.int))):=Kp.refl.new hl;refine ay2 T j ⋯ m f.kn (h.keep r) f8 g ⋯ ⋯ (h.fresh hl) λS' ws' a g1 g2 g3 K=>?_;refine q S' a g1 ⟨⟨ws',e,g2,K.at' (l5 c hl) ?_,g.up g2.A.wf g3.1 g3.2.2,o⟩,C.out⟩ g2.A.wf g3.1 (by have:=g3.2.1;lia);simp only[AN,not_or];exact⟨j9 c hl,by simpa using C.out⟩
omit T
include B J
theorem b20{t:Pg}{a:Kd}(h:16<=n)(f:Ft c)(q:∀e,Kp [] st e->Q (Pg.case t ((c.lf 1 1).sb (.left b (.name 0))) ((c.lf 1 1).sb (.right a (.name 0)))).d e):sem P G n "split" [c.d,t.d,(Kd.eith a b).d] st Q:=by
 obtain⟨n,rfl⟩:∃k,n=k+1:=⟨n-1,⋯⟩;have g:=f.parts;have j:(c.lf 1 1).parts=c.parts:=by9 c;have i:(c.lf 1 1).hgt<=c.hgt:=bg2;refine i5 B.split rfl [AA c.d,AA t.d,AA (Kd.eith a b).d,AF,AF] rfl ?_;unfold ak0;simp only[Kd.d];∎;refine⟨by rw[J.lift];rfl,ak7 J (p:=c) (m:=1) (l:=1) ⋯ ⋯ λs1 K1=>?_⟩;∎;refine⟨by rw[J.put];rfl,O5 J (o:=.left b (.name 0)) ⋯ (by simp only[Pg.parts];lia) ⋯ ⋯ λs2 K2=>?_⟩;∎;exact⟨by rw[J.put];rfl,O5 J (o:=.right a (.name 0)) ⋯ (by simp only[Pg.parts];lia) ⋯ ⋯ λs3 K3=>c9 (q s3 ((K1.trans K2).trans K3))⟩
include T
@[reducible]noncomputable def Sp(Γ:List Kd)(c x y:Pg):Prop:=∃t a b,t.kind Γ=AA (.eith a b)/\x=c.sb t/\y=.case t ((c.lf 1 1).sb (.left b (.name 0))) ((c.lf 1 1).sb (.right a (.name 0)))
def az9{c x:Pg}{k:Kd}(hn:24<=n)(hc:Ft c)(hx:Ft x)(hy:Ft y)(ky:y.kind Γ=AA k)(C:Kw sh dn sa pa wa ka Γ S st)(hS:S.length<=660000)(q:∀b S' st',(Sp Γ c x y->b=AD)->Kw sh dn sa pa wa ka Γ S' st'->S'.length<=S.length+217600->Q (.bl b) st'):
  sem P G n "forth_split" [x.d,y.d,.ref ka,.ref sh,c.d] st Q:=by
 obtain⟨n,rfl⟩:∃k,n=k+2:=⟨n-2,⋯⟩;have hp:=hc.parts;refine i5 B.fsplit rfl [AA x.d,AA y.d,AA (.ref ka),AA (.ref sh),AA c.d,AF] rfl ?_;unfold ae6
 by_cases h:y.w="case"
 ·obtain⟨t,u,v,rfl⟩:=ap2 h;have ht:=hy.kid (c:=t) (by simp[Pg.kids]);have hpt:=ht.parts;obtain⟨a,b,kt⟩:∃a b,t.kind Γ=AA (.eith a b):=by
   cases Q2 ky with
   |case h1 _ _=>exact⟨_,_,h1.kind⟩
  simp only[Pg.d];∎;refine .inr ⟨ao7,?_⟩;rfl';refine⟨by rw[B.alike];rfl,by rw[J.put];rfl,O5 J ⋯ ⋯ ⋯ ⋯ λs1 K1=>F7 B hx λb1 s2 hb K2=>?_⟩;rfl';cases b1 with
  |false=>
   rw[if_pos ∅];∎;exact c9 (q AE S s2 (λ⟨t',a',b',_,e,e2⟩=>by cases e2;exact hb e) ((C.keep K1).keep K2) ⋯)
  |true=>
   rw[if_neg ∅];∎;obtain⟨ws,kn,g1,_⟩:=((C.keep K1).keep K2).ex;refine⟨sh,"Shelf",_,rfl,g1.A.ins,rfl,by rw[T.tup];rfl,by rw[T.shk];rfl,?_⟩;refine ap3 T ⋯ ht kt ((C.keep K1).keep K2) hS λS' s3 h1 C3 w3 p3 l3=>?_;obtain⟨ws',kn',g2,_⟩:=C3.ex;refine a82 T.toPSh g2.A h1 ?_;∎;refine⟨by rw[B.alike];rfl,by rw[B.split];rfl,b20 B J (t:=t) ⋯ hc λs4 K4=>?_⟩;refine F7 B (x:=.case t u v) hy λb2 s5 hb2 K5=>c9 (q b2 S' s5 (λ⟨t',a',b',k',_,e2⟩=>hb2 (by cases e2;rw[k']at kt;cases kt;rfl)) ((C3.keep K4).keep K5) l3)
 ·rw[Pg.d_w y 0];∎;refine .inr ⟨ao7,?_⟩;rfl';rw[if_pos (by simpa using h)];∎;exact c9 (q AE S st (λ⟨t,a,b,_,_,e⟩=>absurd (by rw[e];rfl) h) C ⋯)
end
section
variable (B:PBk P G) (J:PNm P G) (T:PNo P G) {S:List It3}
include B T
def a88{w:String}{x:Pg}{k:Kd}(b:20<=n)(i:(X0.any λk=>AB (k=.inr (Aa w)))=AD)(h:Ft x)(g:Ft y)(f:x.kind Γ=AA k)(e:y.kind Γ=AA k)(C:Kw sh dn sa pa wa ka Γ S st)(j:S.length<=440000)
  (q:∀c a,Kw sh dn sa pa wa ka Γ c a->c.length<=S.length+435200->j7 (Zg P G n) (O3.body.drop 5) (o0 Q) [AA (.ref ka),AA (.ref sh),AA (.tup [.str w,x.d,y.d,tt]),AA (.str w),AA x.d,AA y.d] a) :
  sem P G (n+1) "is_step_over" [.ref ka,.ref sh,.tup [.str w,x.d,y.d,tt]] st Q:=by
 refine i5 B.over rfl [AA (.ref ka),AA (.ref sh),AA (.tup [.str w,x.d,y.d,tt]),AF,AF,AF] rfl ?_;unfold O3;simp only[O3,Ss.drop]at q;(iterate 4 ∎);refine⟨_,B.words,r9 _,?_⟩;rw[i];rfl';(iterate 2 ∎);refine⟨by rw[T.shk];rfl,ap3 T b h f C ⋯ λS1 s1 h1 C1 w1 p1 l1=>?_⟩;rfl';refine⟨by rw[T.shk];rfl,ap3 T b g e C1 ⋯ λS2 s2 h2 C2 w2 p2 l2=>?_⟩;rw[N8 w2 h1 p2];rfl';exact q S2 s2 C2 ⋯
def bx2{w:String}{x:Pg}{k:Kd}{f:Str}{W:Pg->Pg->Prop}(p:20<=n)(m:(X0.any λk=>AB (k=.inr (Aa w)))=AD)(o:w≠"split")(h:u3 ap8 w=AA (.fn f))(i:(P f).isSome=AD)(F:Fok P G n f W)(r:W x y\/W y x)(g:Ft x)(c:Ft y)(l:x.kind Γ=AA k)(j:y.kind Γ=AA k)(C:Kw sh dn sa pa wa ka Γ S st)(s:S.length<=440000)
  (q:∀a,Q (.bl AD) a):sem P G (n+1) "is_step_over" [.ref ka,.ref sh,.tup [.str w,x.d,y.d,tt]] st Q:=by
 refine a88 B T p m g c l j C s λS' s1 C1 _=>?_;have t:G.tab "FORTH"≠[]:=by rw[B.forth];exact λz=>(by cases z)
 simp only[O3,Ss.drop];∎;rw[if_neg o];∎;simp only[B.forth];refine⟨λz=>(by cases z),_,h,f,rfl,i,F g c λb s2 hb K2=>?_⟩;rfl';cases b with
 |true=>rw[if_pos rfl];exact c9 (q s2)
 |false=>
  rw[if_neg ∅];refine⟨λz=>(by cases z),_,h,f,rfl,i,F c g λb s3 hb3 K3=>?_⟩;have e:b=AD:=hb3 (r.resolve_left λz=>AI (hb z));rw[e];exact c9 (q s3)
include J
def b47{x:Pg}{k:Kd}(o:26<=n)(j:Ft c)(l:Sp Γ c x y\/Sp Γ c y x)(g:Ft x)(f:Ft y)(i:x.kind Γ=AA k)(h:y.kind Γ=AA k)(C:Kw sh dn sa pa wa ka Γ S st)(m:S=[])
  (q:∀a,Q (.bl AD) a):sem P G (n+1) "is_step_over" [.ref ka,.ref sh,.tup [.str "split",x.d,y.d,c.d]] st Q:=by
 subst m;refine a88 B T ⋯ ∅ g f i h C ∅ λS' s1 C1 l1=>?_;simp only[Ao]at l1;simp only[O3,Ss.drop];(iterate 2 ∎);refine⟨by rw[B.fsplit];rfl,az9 B J T ⋯ j g f h C1 ⋯ λb S2 s2 hb C2 l2=>?_⟩;rfl';cases b with
 |true=>rw[if_pos rfl];exact c9 (q s2)
 |false=>
  rw[if_neg ∅];refine⟨by rw[B.fsplit];rfl,az9 B J T ⋯ j f g i C2 ⋯ λb S3 s3 hb3 C3 l3=>?_⟩;have e:b=AD:=hb3 (l.resolve_left λz=>AI (hb z));rw[e];exact c9 (q s3)
omit J
theorem bw5{x y w:D}(l:3<=n)(i:∀k∈Γ,k.nest<=3)(o:Γ.length<2000)(q:∀sh dn f g c h a,Kw sh dn f g c h Γ [] a->sem P G n "is_step_over" [.ref h,.ref sh,.tup [w,x,y,tt]] a (o0 Q).rt):sem P G (n+1) "is_step" [w,x,y,.tup (Γ.map Kd.d),tt] st Q:=by
 obtain⟨n,rfl⟩:∃m,n=m+2:=⟨n-2,⋯⟩;refine i5 B.is rfl [AA w,AA x,AA y,AA (.tup (Γ.map Kd.d)),AA tt,AF] rfl ?_;unfold aa3;∎;refine⟨by show(AD&&_)=AD;rw[T.init];rfl,λsh hsh=>?_⟩;refine aq5 (n:=n+1) ?_;refine ax5 T.toPSh hsh λdn f g c s1 A1 hd hfr hw1 hw2 hw3 K1=>⟨rfl,?_⟩;have b:KA sh dn f g c [] [] s1:=⟨A1,⟨hd,hw1,hw2⟩,hw3,∎,∎,∎⟩;∎;refine⟨by rw[B.over];rfl,by rw[T.shn];rfl,aw9 T (n:=n) i ⋯ b λws2 kn h s2 KA2 hka0 hka hkn hkl K2=>?_⟩;exact q sh dn f g c h s2 ⟨⟨ws2,kn,KA2,hka,hkn,⋯⟩,b.fresh hka0⟩
end
def ar9(p:Pg):∀{u:Nat},(p.mp (lfF m l) u).d.sz=p.d.sz:=by
 induction p with
 |name n=>intro u;simp only[Pg.mp,lfF];split<;>rfl
 |star=>intro u;rfl
 |pair t v a c|give t v a c=>intro u;simp only[Pg.mp,Pg.d,l9,l8,n8,@a u,@c u]
 |lets t v a c=>intro u;simp only[Pg.mp,Pg.d,l9,l8,n8,@a u,@c (u+1)]
 |case t v w a c g=>intro u;simp only[Pg.mp,Pg.d,l9,l8,n8,@a u,@c (u+1),@g (u+1)]
 |first t a|second t a|left b t a|right b t a|never b t a=>intro u;simp only[Pg.mp,Pg.d,l9,l8,n8,@a u]
 |way b t a=>intro u;simp only[Pg.mp,Pg.d,l9,l8,n8,@a (u+1)]
def c48(p:Pg):∀{u:Nat},(p.mp (lfF 1 1) u).oc u=p.oc u:=by
 induction p with
 |name n=>
  intro u;simp only[Pg.mp,lfF]
  split
  ·simp only[IY,Pg.oc];rw[if_neg ⋯,if_neg ⋯]
  ·rfl
 |star=>intro u;rfl
 |pair t v a c|give t v a c=>intro u;simp only[Pg.mp,Pg.oc,@a u,@c u]
 |lets t v a c=>intro u;simp only[Pg.mp,Pg.oc,@a u,@c (u+1)]
 |case t v w a c f=>intro u;simp only[Pg.mp,Pg.oc,@a u,@c (u+1),@f (u+1)]
 |first t a|second t a|left b t a|right b t a|never b t a=>intro u;simp only[Pg.mp,Pg.oc,@a u]
 |way b t a=>intro u;simp only[Pg.mp,Pg.oc,@a (u+1)]
def bk1(p:Pg):∀{u:Nat},(p.mp (sbF o) u).d.sz<=p.d.sz+p.oc u*o.d.sz:=by
 induction p with
 |name n=>
  intro u;simp only[Pg.mp,sbF,Pg.oc]
  by_cases h1:n<u
  ·rw[if_pos h1];exact DG _ _
  ·rw[if_neg h1]
   by_cases h2:n=u
   ·rw[if_pos h2,if_pos h2,Nat.one_mul];show(o.mp (lfF u 0) 0).d.sz<=_;rw[ar9];exact Jg _ _
   ·rw[if_neg h2];exact DG 3 _
 |star=>intro u;exact DG _ _
 |pair t v iht ihv|give t v iht ihv=>intro u;have:=@iht u;have:=@ihv u;simp only[Pg.mp,Pg.d,l9,l8,n8,Pg.oc,add_mul];lia
 |lets t v iht ihv=>intro u;have:=@iht u;have:=@ihv (u+1);simp only[Pg.mp,Pg.d,l9,l8,n8,Pg.oc,add_mul];lia
 |case t v w iht ihv ihw=>intro u;have:=@iht u;have:=@ihv (u+1);have:=@ihw (u+1);simp only[Pg.mp,Pg.d,l9,l8,n8,Pg.oc,add_mul];lia
 |first t iht|second t iht|left b t iht|right b t iht|never b t iht=>intro u;have:=@iht u;simp only[Pg.mp,Pg.d,l9,l8,n8,Pg.oc];lia
 |way b t iht=>intro u;have:=@iht (u+1);simp only[Pg.mp,Pg.d,l9,l8,n8,Pg.oc];lia
structure Okp(Γ:List Kd)(k:Kd)(m:Nat)(p:Pg):Prop where
 kd:p.kind Γ=AA k
 kn:p.kn 3
 sz:p.d.sz<=m
section
variable {a k:Kd} {t u v:Pg} {o o1 o2 m2 h h':Nat}
def Gr.ok(g:Gr Γ k o m h t):Okp Γ k m t:=⟨g.kn.kind,g.told,g.sz⟩
def Okp.ft(g:Okp Γ k m t)(a:m<=1700):Ft t:=⟨g.kn,BB g.sz a⟩
theorem Gr.sb(g:Gr (a::Γ) k o m h t)(x:Okp Γ a m1 u):Okp Γ k (m+o*m1) (t.sb u):=
 ⟨az7 g.kn.kind x.kd,bi4 x.kn g.told,BB (bk1 t) (FR g.sz (Jr (g.oc 0) x.sz))⟩
def Gr.wide(g:Gr (a::Γ) k o m h t):Okp (a::b::Γ) k m (t.lf 1 1)/\(t.lf 1 1).oc 0<=o:=
 ⟨⟨al9 (Γ₁:=[a]) (M:=[b]) (Γ₂:=Γ) g.kn.kind,ar1 g.told,by have e:(t.lf 1 1).d.sz=t.d.sz:=ar9 t;rw[e];exact g.sz⟩,by have e:(t.lf 1 1).oc 0=t.oc 0:=c48 t;rw[e];exact g.oc 0⟩
end
inductive Ste(Γ:List Kd):String->Pg->Pg->D->Prop
 |lets (t u:Pg):Ste Γ "let" (.lets t u) (u.sb t) .non
 |give (a:Kd) (t u:Pg):Ste Γ "give" (.give (.way a u) t) (u.sb t) .non
 |first (t u:Pg):Ste Γ "first" (.first (.pair t u)) t .non
 |second (t u:Pg):Ste Γ "second" (.second (.pair u t)) t .non
 |left (c:Kd) (t u v:Pg):Ste Γ "left" (.case (.left c t) u v) (u.sb t) .non
 |right (c:Kd) (t u v:Pg):Ste Γ "right" (.case (.right c t) u v) (v.sb t) .non
 |star (x:Pg):Ste Γ "star" x .star .non
 |pair (x:Pg):Ste Γ "pair" x (.pair (.first x) (.second x)) .non
 |way (a:Kd) (x:Pg):Ste Γ "way" x (.way a (.give (x.lf 1 0) (.name 0))) .non
 |never (k:Kd) (t x:Pg):Ste Γ "never" x (.never k t) .non
 |split {c x y:Pg}:Ft c->Sp Γ c x y->Ste Γ "split" x y c.d
structure Stk(Γ:List Kd)(w:String)(x y:Pg)(tt:D):Prop where
 st:Ste Γ w x y tt
 fx:Ft x
 fy:Ft y
 kd:∃k:Kd,x.kind Γ=AA k/\y.kind Γ=AA k/\k.nest<=10
def Stk.mk'{w:String}{x:Pg}{k:Kd}(h:Ste Γ w x y tt)(d:k.nest<=10)(g:Okp Γ k m x)(b:Okp Γ k m1 y)(c:m<=1700)(a:m1<=1700):Stk Γ w x y tt:=⟨h,g.ft c,b.ft a,k,g.kd,b.kd,d⟩
section
variable (B:PBk P G) (J:PNm P G) (T:PNo P G) 
include B J T
def an7{w:String}{x q:Pg}(hn:30<=n)(j:∀k∈Γ,k.nest<=3)(hl:Γ.length<2000)(h:Stk Γ w x y tt)(o:(p=x/\q=y)\/(p=y/\q=x))(k:∀g,Q (.bl AD) g):sem P G n "is_step" [.str w,p.d,q.d,.tup (Γ.map Kd.d),tt] st Q:=by
 obtain⟨n,rfl⟩:∃m,n=m+4:=⟨n-4,⋯⟩;obtain⟨hs,fx,fy,c,kx,ky,_⟩:=h;have fp:Ft p:=by rcases o with⟨rfl,rfl⟩|⟨rfl,rfl⟩<;>assumption
 have fq:Ft q:=by rcases o with⟨rfl,rfl⟩|⟨rfl,rfl⟩<;>assumption
 have H:p.kind Γ=AA c:=by rcases o with⟨rfl,rfl⟩|⟨rfl,rfl⟩<;>assumption
 have E:q.kind Γ=AA c:=by rcases o with⟨rfl,rfl⟩|⟨rfl,rfl⟩<;>assumption
 have l:∀{W:Pg->Pg->Prop},W x y->W p q\/W q p:=λz=>by
  rcases o with⟨rfl,rfl⟩|⟨rfl,rfl⟩
  ·exact .inl z
  ·exact .inr z
 refine bw5 B T ⋯ j hl λsh dn sa pa wa ka s1 C=>?_;have b:∀{w:String}{f:Str}{W:Pg->Pg->Prop},Fok P G (n+2) f W->W x y->(X0.any λk=>AB (k=.inr (Aa w)))=AD->w≠"split"->u3 ap8 w=AA (.fn f)->(P f).isSome=AD->sem P G (n+3) "is_step_over" [.ref ka,.ref sh,.tup [.str w,p.d,q.d,tt]] s1 (o0 Q).rt:=
  λF z h1 h2 h3 h4=>bx2 B T ⋯ h1 h2 h3 h4 F (l z) fp fq H E C ∅ λs=>c9 (k s)
 cases hs with
 |lets t u=>exact b (cq5 B J ⋯) ⟨t,u,rfl,rfl⟩ ∅ ∅ rfl (by rw[B.flet];rfl)
 |give a t u=>exact b (ca3 B J ⋯) ⟨a,t,u,rfl,rfl⟩ ∅ ∅ rfl (by rw[B.fgive];rfl)
 |first t u=>exact b (by7 B) ⟨_,u,rfl,rfl⟩ ∅ ∅ rfl (by rw[B.ffirst];rfl)
 |second t u=>exact b (bt9 B) ⟨_,u,rfl,rfl⟩ ∅ ∅ rfl (by rw[B.fsecond];rfl)
 |left c t u v=>exact b (b68 B J ⋯) ⟨c,t,u,v,rfl,rfl⟩ ∅ ∅ rfl (by rw[B.fleft];rfl)
 |right c t u v=>exact b (b24 B J ⋯) ⟨c,t,u,v,rfl,rfl⟩ ∅ ∅ rfl (by rw[B.fright];rfl)
 |star=>exact b (ca8 B) rfl ∅ ∅ rfl (by rw[B.fstar];rfl)
 |pair=>exact b (cb9 B) rfl ∅ ∅ rfl (by rw[B.fpair];rfl)
 |way a=>exact b (ch8 B J ⋯) ⟨a,rfl⟩ ∅ ∅ rfl (by rw[B.fway];rfl)
 |never k' t=>exact b (bz7 B) ⟨k',t,rfl⟩ ∅ ∅ rfl (by rw[B.fnever];rfl)
 |split fc h=>exact b47 B J T ⋯ fc (l (W:=Sp Γ _) h) fp fq H E C rfl λs=>c9 (k s)
end
def b93{a b:Nat}(h:a<=b):Tr r a<=Tr r b:=by unfold Tr;split<;>lia
abbrev Kd.vd(k:Kd):Prop:=k=.non\/k=.both (.eith .one .one) .non\/k=.eith .non .non\/k=.way (.eith .one .one) .non
structure Nmk(Γ:List Kd):Prop where
 all:∀l∈Γ,(l.gd\/l.vd)/\l.nest<=2
 len:Γ.length<=20
structure Drw(k:Kd)(c:Nat):Prop where
 gd:k.gd
 nest:k.nest<=3
 ms:k.ms<=c
def Nmk.ask{k:Kd}(h:Nmk Γ)(g:k.gw)(b:k.nest<=5)(a:r<=8):Ask k Γ r:=⟨g,⋯,λl hl=>Bt (h.all l hl).2,by have:=h.len;lia⟩
def Nmk.askC{k a:Kd}(h:Nmk Γ)(g:k.gw)(e:k.nest<=5)(d:r<=8)(c:a.nest<=3):Ask k (a::Γ) r:=⟨g,⋯,λl b=>by
 rcases AN.mp b with rfl|b
 ·exact c
 ·exact Bt (h.all l b).2,by have:=h.len;simp only[AV];lia⟩
section
variable (T:P41 P G) 
include T
def B8(r:Nat)(e:r<=8){k:Kd}{c:Nat}(f:54<=n)(A:Ask k Γ r)(b:k.ms<=c)(I:o8 st da)(q:∀(p:Pg)a,Gr Γ k (Lr r) (Tr r c) (18+r) p->o8 a da->Kp [da] st a->Q p.d a):sem P G n "_law_term" [.ref da,k.d,.tup (Γ.map Kd.d),.int r] st Q:=
 a68 T r e ⋯ A I λp s g=>q p s (g.mono (AS _) (b93 b) (AS _))
def cu4{w:String}{k:Kd}(hn:60<=n)(hw:w∈["let","give","first","second","left","right"])(N:Nmk Γ)(D:Drw k 28)(I:o8 st da)(q:∀x y st',Stk Γ w x y .non->Q (.tup [x.d,y.d,.non]) st'):sem P G n "_law_two" [.ref da,.str w,k.d,.tup (Γ.map Kd.d)] st Q:=by
 obtain⟨n,rfl⟩:∃m,n=m+1:=⟨n-1,⋯⟩;have g:=Kd.gd_gw D.gd D.nest;have hk:=D.nest;have len:=N.len;refine i5 T.two rfl [AA (.ref da),AA (.str w),AA k.d,AA (.tup (Γ.map Kd.d)),AF,AF,AF,AF,AF,AF,AF,AF] rfl ?_;unfold aj4;∎;refine⟨by rw[T.kind];rfl,F8 T 1 ⋯ ⋯ I λm s1 m1 m2 m3 I1 K1=>?_⟩;have gm:=Kd.gd_gw m1 ⋯;∎;refine⟨B2 (by simp only[AW];lia),?_⟩;∎
 by_cases h1:w="let"
 ·rw[if_pos h1];subst h1;∎;refine⟨by rw[T.term];rfl,B8 T 5 ∅ (c:=18) ⋯ (N.ask gm ⋯ ∅) m3 I1 λt s2 gt I2 K2=>?_⟩;∎;refine⟨by rw[T.term];rfl,B8 T 6 ∅ ⋯ (Γ:=m::Γ) (N.askC g ⋯ ∅ ⋯) D.ms I2 λu s3 gu I3 K3=>?_⟩;∎;refine⟨by rw[T.put];rfl,M7 T n u 0 (by have:=gt.hg;have:=gu.hg;lia) λs4 K4=>?_⟩;exact c9 (q (.lets t u) (u.sb t) s4 (.mk' (.lets t u) ⋯ ((gt.mono (AS _) (AS _) ∅).lets gu).ok (gu.sb gt.ok) ∅ ∅))
 rw[if_neg h1];∎
 by_cases h2:w="give"
 ·rw[if_pos h2];subst h2;∎;refine⟨by rw[T.term];rfl,B8 T 5 ∅ (c:=18) ⋯ (N.ask gm ⋯ ∅) m3 I1 λt s2 gt I2 K2=>?_⟩;∎;refine⟨by rw[T.term];rfl,B8 T 6 ∅ ⋯ (Γ:=m::Γ) (N.askC g ⋯ ∅ ⋯) D.ms I2 λu s3 gu I3 K3=>?_⟩;∎;refine⟨by rw[T.put];rfl,M7 T n u 0 (by have:=gt.hg;have:=gu.hg;lia) λs4 K4=>?_⟩;exact c9 (q (.give (.way m u) t) (u.sb t) s4 (.mk' (m:=1600) (.give m t u) ⋯ ((gu.way ⋯).give (gt.mono (AS _) (AS _) ∅) |>.mono (AS _) (by have:Tr 6 28=224:=rfl;have:Tr 5 18=162:=rfl;lia) (AS _)).ok (gu.sb gt.ok) ∅ ∅))
 rw[if_neg h2];∎;refine⟨by rw[T.term];rfl,B8 T 7 ∅ ⋯ (N.ask g ⋯ ∅) D.ms I1 λt s2 gt I2 K2=>?_⟩;∎;refine⟨by rw[T.term];rfl,B8 T 4 ∅ (c:=18) ⋯ (N.ask gm ⋯ ∅) m3 I2 λu s3 gu I3 K3=>?_⟩;have gu':=gu.mono (h':=18+7) (AS _) (AS _) ∅;∎
 by_cases h3:w="first"
 ·rw[if_pos h3];subst h3;∎;exact c9 (q (.first (.pair t u)) t s3 (.mk' (.first t u) ⋯ (gt.pair gu').first.ok gt.ok ∅ ∅))
 rw[if_neg h3];∎
 by_cases h4:w="second"
 ·rw[if_pos h4];subst h4;∎;exact c9 (q (.second (.pair u t)) t s3 (.mk' (.second t u) ⋯ (gu'.pair gt).second.ok gt.ok ∅ ∅))
 rw[if_neg h4];∎;refine⟨by rw[T.kind];rfl,F8 T 0 ⋯ ⋯ I3 λl s4 l1 l2 l3 I4 K4=>?_⟩;∎;refine⟨by rw[T.term];rfl,B8 T 6 ∅ ⋯ (Γ:=m::Γ) (N.askC g ⋯ ∅ ⋯) D.ms I4 λy s5 gy I5 K5=>?_⟩;∎;refine⟨by rw[T.term];rfl,B2 (by simp only[AW];lia),B8 T 5 ∅ ⋯ (Γ:=l::Γ) (N.askC g ⋯ ∅ ⋯) D.ms I5 λv s6 gv I6 K6=>?_⟩;have gy':=gy.mono (h':=18+6) (AS _) (AS _) ∅;have gv':=gv.mono (h':=18+6) (AS _) (AS _) ∅;have e1:Tr 6 28=224:=rfl;have e2:Tr 5 28=182:=rfl;have e3:Tr 4 18=120:=rfl;have hg:u.hgt<=22:=gu.hg;have hy:=gy.hg;∎
 by_cases h5:w="left"
 ·rw[if_pos h5];subst h5;∎;refine⟨by rw[T.put];rfl,M7 T n y 0 ⋯ λs7 K7=>?_⟩;exact c9 (q (.case (.left l u) y v) (y.sb u) s7 (.mk' (m:=1600) (.left l u y v) ⋯ (((gu.left ⋯).mono (h':=18+6) (AS _) (AS _) ∅).case gy' gv' |>.mono (AS _) ⋯ (AS _)).ok (gy.sb gu.ok) ∅ ∅))
 rw[if_neg h5];have h6:w="right":=by simpa[h1,h2,h3,h4,h5]using hw
 subst h6;∎;refine⟨by rw[T.put];rfl,M7 T n y 0 ⋯ λs7 K7=>?_⟩;exact c9 (q (.case (.right l u) v y) (y.sb u) s7 (.mk' (m:=1600) (.right l u v y) ⋯ (((gu.right ⋯).mono (h':=18+6) (AS _) (AS _) ∅).case gv' gy' |>.mono (AS _) ⋯ (AS _)).ok (gy.sb gu.ok) ∅ ∅))
def bp5{k:Kd}{t:Pg}(a:k.vd)(g:Gr Γ k 1 3 1 t)(q:∀u:Pg,Gr Γ .non 3 20 3 u->Q u.d st):sem P G (n+1) "_law_nothing" [k.d,t.d] st Q:=by
 refine i5 T.nothing rfl [AA k.d,AA t.d] rfl ?_;unfold ae4
 rcases a with rfl|rfl|rfl|rfl<;>simp only[Kd.d]
 ·(iterate 4 ∎);exact c9 (q t (g.mono ∅ ∅ ∅))
 ·(iterate 2 ∎);exact c9 (q (.second t) (g.second.mono ∅ ∅ ∅))
 ·(iterate 3 ∎);exact c9 (q (.case t (.name 0) (.name 0)) ((g.case (Gr.name rfl) (Gr.name rfl)).mono ∅ ∅ ∅))
 ·(iterate 4 ∎);exact c9 (q (.give t (.left .one .star)) (((g.mono (o1:=1) (m1:=3) (h':=2) ∅ ∅ ∅).give ((Gr.star (Γ:=Γ)).left (b:=.one) ∅)).mono ∅ ∅ ∅))
end
section
variable (T:P41 P G) 
include T
def bs7{w:String}{k:Kd}(hn:60<=n)(hw:w∈["star","pair","way","split","never"])(N:Nmk Γ)(hv:w="never"->∃l∈Γ,l.vd)(J:Drw k 28)(I:o8 st da)(q:∀x y W p,Stk Γ w x y W->Q (.tup [x.d,y.d,W]) p):sem P G n "_law_spread" [.ref da,.str w,k.d,.tup (Γ.map Kd.d)] st Q:=by
 obtain⟨n,rfl⟩:∃m,n=m+1:=⟨n-1,⋯⟩;have g:=Kd.gd_gw J.gd J.nest;have X:=J.nest;have F:=J.ms;have len:=N.len;refine i5 T.spread rfl [AA (.ref da),AA (.str w),AA k.d,AA (.tup (Γ.map Kd.d)),AF,AF,AF,AF,AF,AF,AF,AF,AF] rfl ?_;unfold af1;∎
 by_cases C:w="star"
 ·rw[if_pos C];subst C;∎;refine⟨by rw[T.taken];rfl,ax9 T (r:=8) (k:=.one) ∅ ∅ (λs hs=>a68 T s ⋯) ⋯ (N.ask trivial ∅ ∅) I λx s1 gx I1 K1=>?_⟩;exact c9 (q x .star _ s1 (.mk' (.star x) ∅ gx.ok Gr.star.ok ∅ ∅))
 rw[if_neg C];∎
 by_cases B:w="pair"
 ·rw[if_pos B];subst B;∎;refine⟨by rw[T.term];rfl,by rw[T.kind];rfl,F8 T 0 ⋯ ⋯ I λm s1 m1 m2 m3 I1 K1=>?_⟩;have gm:=Kd.gd_gw m1 ⋯;refine B8 T 8 ∅ (c:=38) (k:=.both k m) ⋯ (N.ask ⟨g,gm⟩ (by simp only[Kd.nest];lia) ∅) (by simp only[Kd.ms];lia) I1 λx s2 gx I2 K2=>?_;∎;exact c9 (q x (.pair (.first x) (.second x)) _ s2 (.mk' (.pair x) (by simp only[Kd.nest];lia) gx.ok (gx.first.pair gx.second).ok ∅ ∅))
 rw[if_neg B];∎
 by_cases A:w="way"
 ·rw[if_pos A];subst A;∎;refine⟨by rw[T.kind];rfl,F8 T 1 ⋯ ⋯ I λm s1 m1 m2 m3 I1 K1=>?_⟩;∎;refine⟨by rw[T.term];rfl,B8 T 8 ∅ (c:=48) (k:=.way m k) ⋯ (N.ask ⟨.inr ⟨m1,⋯⟩,λ_=>X,g⟩ (by simp only[Kd.nest];lia) ∅) (by simp only[Kd.ms];lia) I1 λx s2 gx I2 K2=>?_⟩;∎;refine⟨by rw[T.lift];rfl,ab1 T (m:=1) (l:=0) n x 0 (by have:=gx.hg;lia) λs3 K3=>?_⟩;have R:(x.lf 1 0).kind (m::Γ)=AA (.way m k):=al9 (Γ₁:=[]) (M:=[m]) (Γ₂:=Γ) gx.kn.kind;refine c9 (q x (.way m (.give (x.lf 1 0) (.name 0))) _ s3 (.mk' (m1:=1000) (.way m x) (by simp only[Kd.nest];lia) gx.ok ⟨(Kn.way (.give (Q2 R) (.name rfl))).kind,⟨⋯,ar1 gx.told,trivial⟩,?_⟩ ∅ ∅));have e:(x.lf 1 0).d.sz=x.d.sz:=ar9 x;have e2:x.d.sz<=348:=gx.sz;have e3:=B5 m;simp only[Pg.d,l9,l8,n8,D.sz,e];lia
 rw[if_neg A];∎
 by_cases H:w="never"
 ·rw[if_pos H];obtain⟨l,hl,O⟩:=hv H;subst H;∎;simp only[AW];refine⟨⟨⋯,⋯⟩,by rw[C9];lia,?_⟩;refine O7 (λL acc env p=>p=st/\∃(i:Nat)(v:List Nat)(x:Option D),L=(p5 0 Γ.length).drop i/\i<=Γ.length/\acc=v.map (λj:Nat=>D.int j)/\(∀j∈v,∃l,Γ[j]?=AA l/\l.vd)/\(∀(j:Nat)l,j<i->Γ[j]?=AA l->l.vd->v≠[])/\env=[AA (.tup (Γ.map Kd.d)),x]) ?_ ?_ _ _ _ _ ⟨rfl,0,[],AF,∎,BK _,rfl,nofun,λj l h=>⋯,rfl⟩
  ·rintro acc env p ⟨rfl,i,v,x,el,hi,rfl,hj,hne,_⟩;refine⟨trivial,λp hp=>?_⟩;have ei:i=Γ.length:=by have:=congrArg CV el;rw[Bo,C9]at this;simp only[Ao]at this;lia
   obtain⟨j0,U,e0⟩:=FE.mp hl;have S:=hne j0 l ⋯ (by rw[AJ U,e0]) O;obtain⟨j,v,rfl⟩:=List.exists_cons_of_ne_nil S;obtain⟨c,V,vc⟩:=hj j ∎;refine⟨.int j,rfl,?_⟩;∎;refine⟨by rw[T.term];rfl,B8 T 8 ∅ (c:=28) ⋯ (N.ask g ⋯ ∅) F (I.new hp) λx s2 gx I2 K2=>?_⟩;∎;obtain⟨n,rfl⟩:∃m,n=m+1:=⟨n-1,⋯⟩;refine⟨by rw[T.nothing];rfl,c.d,by rw[v6,Ag,V];rfl,bp5 T (t:=.name j) vc (Gr.name V) λu gu=>?_⟩;have gy:=gu.never (k:=k) X;exact c9 (q x (.never k u) _ s2 (.mk' (m1:=1000) (.never k u x) ⋯ gx.ok (gy.mono (AS _) ⋯ (AS _)).ok ∅ ∅))
  ·rintro d ds acc env p ih ⟨rfl,i,v,x,el,hi,rfl,hj,hne,rfl⟩;have f:i<Γ.length:=by
    have:=congrArg CV el;rw[Bo,C9,AV]at this;lia
   rw[CO (by rw[C9];lia)]at el;obtain⟨rfl,rfl⟩:=IZ el;have ed:(p5 0 Γ.length)[i]'(by rw[C9];lia)=.int i:=by simp[p5]
   rw[ed];refine⟨trivial,?_⟩;rfl';have Y:=N.all _ (Ei f);refine⟨by rw[T.many];rfl,Γ[i].d,by rw[v6,Ag,AJ f];rfl,R7 T Γ[i] ⋯ (Kd.few 2 Y.2 (AS _)).2 ?_⟩;rfl'
   by_cases Z:Γ[i].cnt=0
   ·rw[if_pos ⋯];have vi:Γ[i].vd:=Y.1.resolve_left λz=>by have:=Kd.gd_pos z;lia
    exact ih _ _ _ ⟨rfl,i+1,v++[i],_,rfl,f,∎,λj z=>by
     rcases BI.mp z with z|z
     ·exact hj j z
     ·rw[BY.mp z];exact⟨_,AJ f,vi⟩,λ_ _ _ _ _=>∎,rfl⟩
   ·rw[if_neg ⋯];refine ih _ _ _ ⟨rfl,i+1,v,_,rfl,f,rfl,hj,λj l hji hjl vl=>?_,rfl⟩
    by_cases e:j=i
    ·subst e;rw[AJ f]at hjl;cases hjl
     rcases vl with z|z|z|z<;>(rw[z]at Z;exact absurd rfl Z)
    ·exact hne j l ⋯ hjl vl
 rw[if_neg H];have h5:w="split":=by simpa[C,B,A,H]using hw
 subst h5;∎;refine⟨by rw[T.kind];rfl,F8 T 1 ⋯ ⋯ I λa s1 a1 a2 a3 I1 K1=>?_⟩;refine⟨by rw[T.kind];rfl,F8 T 0 ⋯ ⋯ I1 λb s2 b1 b2 b3 I2 K2=>?_⟩;have ge:(Kd.eith a b).gw:=⟨.inr ⟨a1,⋯⟩,b1,⋯⟩;have ne:(Kd.eith a b).nest<=3:=by simp only[Kd.nest];lia
 ∎;refine⟨by rw[T.term];rfl,B8 T 6 ∅ (c:=28) (k:=.eith a b) ⋯ (N.ask ge ⋯ ∅) (by simp only[Kd.ms];lia) I2 λt s3 gt I3 K3=>?_⟩;∎;refine⟨by rw[T.term];rfl,B2 (by simp only[AW];lia),B8 T 8 ∅ (c:=28) (Γ:=.eith a b::Γ) ⋯ (N.askC g ⋯ ∅ ne) F I3 λc s4 gc I4 K4=>?_⟩;have V:=gc.hg;have ht:=gt.hg;have hlc:(c.lf 1 1).hgt<=c.hgt:=bg2;∎;refine⟨by rw[T.lift];rfl,ab1 T (m:=1) (l:=1) n c 0 ⋯ λs5 K5=>?_⟩;∎;refine⟨by rw[T.put];rfl,M7 T (o:=.left b (.name 0)) n (c.lf 1 1) 0 (by simp only[Pg.hgt];lia) λs6 K6=>?_⟩;∎;refine⟨by rw[T.put];rfl,M7 T (o:=.right a (.name 0)) n (c.lf 1 1) 0 (by simp only[Pg.hgt];lia) λs7 K7=>?_⟩;∎;refine⟨by rw[T.put];rfl,M7 T n c 0 ⋯ λs8 K8=>?_⟩;have E:∀{m:Kd}{o:Pg}{z:Nat},o.kind (m::Γ)=AA (.eith a b)->o.kn 3->o.d.sz<=23->((c.lf 1 1).sb o).kind (m::Γ)=AA k/\((c.lf 1 1).sb o).kn 3/\((c.lf 1 1).sb o).d.sz<=446:=λ{m o z}C B A=>by
  obtain⟨K,w2⟩:=gc.wide (b:=m);refine⟨az7 K.kd C,bi4 B K.kn,BB (bk1 _) ?_⟩;have:(c.lf 1 1).oc 0*o.d.sz<=6*23:=Jr w2 A;have:(c.lf 1 1).d.sz<=308:=K.sz;lia
 have za:=B5 a;have zb:=B5 b;obtain⟨y1,y2,y3⟩:=E (m:=a) (o:=.left b (.name 0)) (z:=0) (Kn.left (.name rfl)).kind ⟨⋯,trivial⟩ (by simp only[Pg.d,l9,l8,n8,D.sz];lia);obtain⟨v1,v2,v3⟩:=E (m:=b) (o:=.right a (.name 0)) (z:=0) (Kn.right (.name rfl)).kind ⟨⋯,trivial⟩ (by simp only[Pg.d,l9,l8,n8,D.sz];lia);have gts:t.d.sz<=224:=gt.sz;refine c9 (q (c.sb t) (.case t ((c.lf 1 1).sb (.left b (.name 0))) ((c.lf 1 1).sb (.right a (.name 0)))) c.d s8 (.mk' (m1:=1600) (.split (gc.ok.ft ∅) ⟨t,a,b,gt.kn.kind,rfl,rfl⟩) ⋯ (gc.sb gt.ok) ⟨(Kn.case gt.kn (Q2 y1) (Q2 v1)).kind,⟨gt.told,y2,v2⟩,?_⟩ ∅ ∅));simp only[Pg.d,l9,l8,n8,D.sz];lia
def bz0{w:String}{k:Kd}(g:61<=n)(e:w∈["let","give","first","second","left","right"]\/w∈["star","pair","way","split","never"])(N:Nmk Γ)(f:w="never"->∃l∈Γ,l.vd)(c:Drw k 28)(I:o8 st da)(q:∀x y a b,Stk Γ w x y a->Q (.tup [x.d,y.d,a]) b):sem P G n "_law_step" [.ref da,.str w,k.d,.tup (Γ.map Kd.d)] st Q:=by
 obtain⟨n,rfl⟩:∃m,n=m+1:=⟨n-1,⋯⟩;refine i5 T.step rfl [AA (.ref da),AA (.str w),AA k.d,AA (.tup (Γ.map Kd.d))] rfl ?_;unfold ah6;∎;refine⟨r9 _,by simp only[D9,J0,r9,Bp],BK _,?_⟩;simp only[Gj,List.any_nil,J3,u6,JU,decide_eq_true_eq,HN]
 split
 ·rename_i h;∎;refine⟨by rw[T.two];rfl,cu4 T ⋯ ?_ N c I λx y s h=>c9 (q x y _ s h)⟩;simp only[AN,AZ,or_false]
  rcases h with h|h|h|h|h|h<;>simp[<-h]
 ·rename_i h;∎;refine⟨by rw[T.spread];rfl,bs7 T ⋯ (e.resolve_left λz=>h ?_) N f c I λx y a s h=>c9 (q x y a s h)⟩;simp only[AN,AZ,or_false]at z
  rcases z with z|z|z|z|z|z<;>simp[z]
end
def cd7{k:Kd}(h:k.vd):k.nest<=2:=by rcases h with rfl|rfl|rfl|rfl<;>decide
section
variable (T:P41 P G) 
include T
@[reducible]noncomputable def as8:List String:=["let","give","first","second","left","right"]
@[reducible]noncomputable def at9:List String:=["star","pair","way","split","never"]
def b38(I:o8 st da)(q:∀w a,w∈as8\/w∈at9->o8 a da->Kp [da] st a->Q (.str w) a):sem P G (n+2) "_law_word" [.ref da] st Q:=by
 refine i5 T.word rfl [AA (.ref da),AF] rfl ?_;unfold ai3;∎;intro p e;∎;refine⟨by rw[T.next];rfl,E1 T ∅ (I.new e) λr s1 r0 r1 I1 b=>?_⟩;rw[l7 (.inl (b.at' f8 (by simpa using(I.ne e).symm)))];have b:Kp [da] st s1:=(Kp.refl.new e).trans b;obtain⟨r,rfl⟩:=Bu r0;have c:∀r:Nat,r<12->∃w:String,(["let","give","first","second","left","right","star","pair","way","split","never","split"]:List String)[r]?=AA w/\(w∈as8\/w∈at9):=λr hr=>by
  have f:∀w∈(["let","give","first","second","left","right","star","pair","way","split","never","split"]:List String),w∈as8\/w∈at9:=by decide
  exact⟨_,AJ hr,f _ (Ei hr)⟩
 obtain⟨w,g,d⟩:=c r ⋯;refine⟨.str w,?_,c9 (q w s1 d I1 b)⟩;rw[v6];show((["let","give","first","second","left","right","star","pair","way","split","never","split"]:List String).map λw=>D.str (Aa w))[r]?=_;rw[Ag,g];rfl
def bz9(I:o8 st da)(q:∀(k:Kd)b,k.vd->o8 b da->Kp [da] st b->Q k.d b):sem P G (n+2) "_law_void" [.ref da] st Q:=by
 refine i5 T.void rfl [AA (.ref da),AF,AF,AF] rfl ?_;unfold ai2;(iterate 3 ∎);intro p c;∎;refine⟨by rw[T.next];rfl,E1 T ∅ (I.new c) λr s1 r0 r1 I1 a=>?_⟩;rw[l7 (.inl (a.at' f8 (by simpa using(I.ne c).symm)))];have a:Kp [da] st s1:=(Kp.refl.new c).trans a;obtain rfl|rfl|rfl|rfl|rfl:r=0\/r=1\/r=2\/r=3\/r=4:=by lia
 ·exact⟨_,rfl,c9 (q .non s1 (.inl rfl) I1 a)⟩
 ·exact⟨_,rfl,c9 (q .non s1 (.inl rfl) I1 a)⟩
 ·exact⟨_,rfl,c9 (q (.both (.eith .one .one) .non) s1 (.inr (.inl rfl)) I1 a)⟩
 ·exact⟨_,rfl,c9 (q (.eith .non .non) s1 (.inr (.inr (.inl rfl))) I1 a)⟩
 ·exact⟨_,rfl,c9 (q (.way (.eith .one .one) .non) s1 (.inr (.inr (.inr rfl))) I1 a)⟩
def bw3{w:String}(i:6<=n)(I:o8 st da)(q:∀(a:List Kd)b,Nmk a->(w="never"->∃l∈a,l.vd)->o8 b da->Q (.tup (a.map Kd.d)) b):sem P G n "_law_names" [.ref da,.str w] st Q:=by
 obtain⟨n,rfl⟩:∃m,n=m+3:=⟨n-3,⋯⟩;refine i5 T.names rfl [AA (.ref da),AA (.str w),AF,AF] rfl ?_;unfold W0;have c:∀(a:List Kd)(s:Sto),Nmk a->a.length<=12->o8 s da->j7 (Zg P G (n+2)) (W0.body.drop 2) (o0 Q) [AA (.ref da),AA (.str w),AA (.tup (a.map Kd.d)),AF] s:=by
  intro a s N f I;simp only[W0,Ss.drop];∎
  by_cases h:w="never"
  ·rw[if_pos h];∎;simp only[AW];refine⟨by rw[T.next];rfl,E1 T ⋯ I λr s1 r0 r1 I1 K1=>?_⟩;obtain⟨r,rfl⟩:=Bu r0;∎;simp only[cv6,b00];refine⟨by rw[T.void];rfl,bz9 T I1 λk s2 vk I2 K2=>?_⟩;refine⟨B2 (by simp only[Bn,AW,AV,Ao];lia),B2 (by simp only[Ad,Bn,Bo,AW,AV,Ao];lia),?_⟩;∎;have e:(a.map Kd.d).take r++[k.d]++(a.map Kd.d).drop r=(a.take r++[k]++a.drop r).map Kd.d:=by simp[LX,LY]
   rw[e];refine c9 (q _ s2 ⟨λl f=>?_,by simp only[Ad,Bn,Bo,AV,Ao];lia⟩ (λ_=>⟨k,∎,vk⟩) I2)
   rcases BI.mp f with z|z
   ·rcases BI.mp z with z|z
    ·exact N.all l (List.mem_of_mem_take z)
    ·rw[BY.mp z];exact⟨.inr vk,cd7 vk⟩
   ·exact N.all l (List.mem_of_mem_drop z)
  ·rw[if_neg h];∎;exact c9 (q a s N (λz=>absurd z h) I)
 ∎;refine⟨by rw[T.next];rfl,E1 T ∅ I λr s1 r0 r1 I1 K1=>?_⟩;obtain⟨r,rfl⟩:=Bu r0;rfl';refine⟨⟨⋯,⋯⟩,by rw[C9];lia,?_⟩;refine O7 (λl acc env b=>∃(a:List Kd)(x:Option D),acc=a.map Kd.d/\Nmk a/\a.length+l.length<=3/\env=[AA (.ref da),x]/\o8 b da) ?_ ?_ _ _ _ _ ⟨[],AF,rfl,⟨nofun,BK _⟩,by rw[C9];simp only[Ao];lia,rfl,I1⟩
 ·rintro acc env b ⟨a,x,rfl,N,f,_,I2⟩;refine⟨trivial,λp hp=>?_⟩;∎;simp only[Ao]at f;refine⟨by rw[T.next];rfl,E1 T ∅ (I2.new hp) λy s3 y0 y1 I3 K3=>?_⟩;rfl'
  by_cases h:y=0
  ·rw[if_pos h];∎;refine⟨by rw[T.next];rfl,E1 T ∅ I3 λz s4 z0 z1 I4 K4=>?_⟩;obtain⟨z,rfl⟩:=Bu z0;have g:(7+(z:Int)).toNat=7+z:=by lia
   refine⟨∎,⋯,⋯,B2 (by simp only[AV,Ao];lia),?_⟩;rfl';have e:(Al (7+(z:Int)).toNat [D.tup [.str "one"]]).flatten++a.map Kd.d=(Al (7+z) Kd.one++a).map Kd.d:=by rw[g,Fy,Ah,List.map_replicate];rfl
   refine⟨B2 (by rw[g,Fy,DD,AW];lia),?_⟩;rw[e];refine c _ s4 ⟨λl hl'=>?_,by simp only[Ad,DD];lia⟩ (by simp only[Ad,DD];lia) I4
   rcases BI.mp hl' with z|z
   ·rw[(List.mem_replicate.mp z).2];exact⟨.inl trivial,∅⟩
   ·exact N.all l z
  ·rw[if_neg h];rfl';exact c a s3 N ⋯ I3
 ·rintro d ds acc env b ih ⟨a,x,rfl,N,f,rfl,I2⟩;simp only[AV]at f;refine⟨trivial,?_⟩;rfl';refine⟨by rw[T.kind];rfl,F8 T 1 ⋯ ⋯ I2 λk s3 k1 k2 k3 I3 K3=>?_⟩;refine ih _ _ _ ⟨a++[k],_,∎,⟨λl hl'=>?_,by simp only[Ad,AV,Ao];lia⟩,by simp only[Ad,AV,Ao];lia,rfl,I3⟩
  rcases BI.mp hl' with z|z
  ·exact N.all l z
  ·rw[BY.mp z];exact⟨.inl k1,⋯⟩
end
def cj0(T:P41 P G)(B:PBk P G)(J:PNm P G)(O:PNo P G)(hl:P "law"=AA aa9)(hd:t4 G.cls "is_step"=AA 0){ns:List Int}(hn:70<=n)(hns:ns.length<=63)(h:rdS st a (ns.map D.int)):sem P G n "law" [.ref a] st λd _=>d=.bl AD:=by
 obtain⟨n,rfl⟩:∃m,n=m+3:=⟨n-3,⋯⟩;refine i5 hl rfl [AA (.ref a),AF,AF,AF,AF,AF,AF,AF,AF] rfl ?_;unfold aa9;∎;refine⟨by rw[T.deck];rfl,b11 T hns h λda s1 I1 K1=>?_⟩;∎;refine⟨by rw[T.word];rfl,b38 T I1 λw s2 hw I2 K2=>?_⟩;∎;refine⟨by rw[T.names];rfl,bw3 T ⋯ I2 λΓ s3 N hv I3=>?_⟩;∎;refine⟨by rw[T.step];rfl,by rw[T.kind];rfl,F8 T 2 ⋯ ⋯ I3 λk s4 k1 k2 k3 I4 K4=>?_⟩;refine bz0 T ⋯ hw N hv ⟨k1,⋯,⋯⟩ I4 λx y tt s5 S=>?_;have hΓ:∀k∈Γ,k.nest<=3:=λl hl=>Bt (N.all l hl).2;have hlen:Γ.length<2000:=by have:=N.len;lia
 obtain⟨c,kx,ky,hc⟩:=S.kd;have px:=S.fx.parts;have py:=S.fy.parts;rfl';(iterate 2 ∎);refine⟨_,B.words,rfl,?_⟩;rfl';refine⟨_,B.words,.inl ⟨"tuple",rfl,?_⟩⟩;simp only[beq_self_eq_true,KB];rfl';∎;refine⟨by rw[O.ko];rfl,ay8 O ⋯ ⋯ hΓ hlen kx S.fx.kn λs6 _=>?_⟩;refine⟨by rw[O.ko];rfl,ay8 O ⋯ ⋯ hΓ hlen ky S.fy.kn λs7 _=>?_⟩;rw[bj8,bd5];refine⟨E4 _,E4 _,BB (Ef _ _) (by rw[O0];lia),?_⟩;rfl';∎;refine⟨∅,?_⟩;have pi:(P "is_step").isSome=AD:=by rw[B.is];rfl
 refine E3 (λl env st'=>∃x8:Option D,env=[AA (.ref a),AA (.ref da),AA (.str w),AA (.tup (Γ.map Kd.d)),AA x.d,AA y.d,AA tt,AA (.tup (X0.map kD)),x8]) ?_ ?_ _ _ _ ⟨AF,rfl⟩
 ·rintro env st' ⟨x8,rfl⟩;refine⟨trivial,?_⟩;∎
  by_cases ht:tt=.non
  ·refine .inl ⟨ht,?_⟩;subst ht;∎;refine⟨pi,hd,an7 B J O ⋯ hΓ hlen S (.inl ⟨rfl,rfl⟩) λs=>?_⟩;rfl';exact c9 rfl
  ·refine .inr ⟨ht,?_⟩;∎;exact c9 rfl
 ·rintro d ds env st' ih ⟨x8,rfl⟩;refine⟨trivial,?_⟩;rfl';∎;refine⟨pi,an7 B J O ⋯ hΓ hlen S (.inl ⟨rfl,rfl⟩) λs=>?_⟩;rfl';simp only[bne_self_eq_false,BE,if_false];∎;refine⟨pi,an7 B J O ⋯ hΓ hlen S (.inr ⟨rfl,rfl⟩) λs=>?_⟩;rfl';simp only[bne_self_eq_false,BE,if_false];exact ih _ _ ⟨_,rfl⟩
def c79:P41 P6 p9:=by constructor<;>rfl
def dc3:PBk P6 p9:=by constructor<;>rfl
def db3:PNm P6 p9:=by
 repeat' (first|rfl|(intro z;cases z;done)|constructor)
def dd9:PNo P6 p9:=by
 repeat' (first|rfl|(intro z;cases z;done)|constructor)
def bt3(a:AH)(ns:List Int)(h:ns.length<=63):sem P6 p9 100 "law" [.ref a] (st0 a ns) λd _=>d=.bl AD:=
 cj0 c79 dc3 db3 dd9 rfl rfl ∅ h (.inr (by unfold st0;rw[if_pos rfl]))
end Ek
namespace Ek
open PySem L2
abbrev top(i:Nat):BN:=PySem.Challenge.pw_evenkinds_k41_steps_of_the_book.main.body.getD i (.Pass ⟨0,0,0,0⟩)
abbrev mth(i k:Nat):BN:=match top i with|.ClassDef _ _ _ b _ _ _ _ _ _ _=>b.getD k (.Pass ⟨0,0,0,0⟩)|_=>.Pass ⟨0,0,0,0⟩
def bm5:Stat0 (top 57) aa3 ["word","one","other","names","through"]:=⟨⟨rfl,rfl,rfl,by decide+kernel,rfl,by decide+kernel,by decide+kernel⟩,rfl,by decide+kernel⟩
def bm1:Stat0 (mth 15 2) V9 ["self","kind","deep"]:=⟨⟨rfl,rfl,rfl,by decide+kernel,rfl,by decide+kernel,by decide+kernel⟩,rfl,by decide+kernel⟩
def cr8{pr:An}{w:Ax}{K:AQ}{h:BC}{mg:Str->Option AG}{ts:List AH}(X:K.In h)(G:h.Ns AO mg){g0:AH}{g1:AH}{g2:AH}{g3:AH}{ku0:AG}{ku1:AG}{C0:AH}{C1:AH}
  (a0:FnA K ts AE "made_of_parts" (top 7))
  (a1:FnA K ts AE "order_of_few" (top 8))
  (a2:FnA K ts AE "taken" (top 10))
  (a3:FnA K ts AE "are_alike" (top 16))
  (a4:FnA K ts AE "inner" (top 20))
  (a5:FnA K ts AE "with_inner" (top 21))
  (a6:FnA K ts AE "names_more" (top 22))
  (a7:FnA K ts AD "noded" (top 24))
  (a8:FnA K ts AE "folded" (top 27))
  (a9:FnA K ts AE "kind_of" (top 29))
  (a10:FnA K ts AE "shelved_names" (top 30))
  (a11:FnA K ts AE "shelved_kind" (top 31))
  (a12:FnA K ts AD "kind_of_node" (top 32))
  (a13:FnA K ts AE "kind_by_parts" (top 33))
  (a14:FnA K ts AE "new_name" (top 34))
  (a15:FnA K ts AE "halves_of" (top 35))
  (a16:FnA K ts AE "kind_of_name" (top 36))
  (a17:FnA K ts AE "kind_of_star" (top 37))
  (a18:FnA K ts AE "kind_of_pair" (top 38))
  (a19:FnA K ts AE "kind_of_first" (top 39))
  (a20:FnA K ts AE "kind_of_second" (top 40))
  (a21:FnA K ts AE "kind_of_left" (top 41))
  (a22:FnA K ts AE "kind_of_right" (top 42))
  (a23:FnA K ts AE "kind_of_case" (top 43))
  (a24:FnA K ts AE "kind_of_way" (top 44))
  (a25:FnA K ts AE "kind_of_give" (top 45))
  (a26:FnA K ts AE "kind_of_let" (top 46))
  (a27:FnA K ts AE "kind_of_never" (top 47))
  (a28:FnA K ts AD "lifted" (top 50))
  (a29:FnA K ts AD "put_in" (top 51))
  (a30:FnA K ts AE "copy_under" (top 52))
  (a31:FnA K ts AD "with_parts" (top 53))
  (a32:FnA K ts AE "inner_under" (top 54))
  (a33:FnD K "is_step" (top 57))
  (a34:FnA K ts AE "is_step_over" (top 58))
  (a35:FnA K ts AE "forth_let" (top 59))
  (a36:FnA K ts AE "forth_give" (top 60))
  (a37:FnA K ts AE "forth_first" (top 61))
  (a38:FnA K ts AE "forth_second" (top 62))
  (a39:FnA K ts AE "forth_left" (top 63))
  (a40:FnA K ts AE "forth_right" (top 64))
  (a41:FnA K ts AE "forth_star" (top 65))
  (a42:FnA K ts AE "forth_pair" (top 66))
  (a43:FnA K ts AE "forth_way" (top 67))
  (a44:FnA K ts AE "forth_split" (top 68))
  (a45:FnA K ts AE "split" (top 69))
  (a46:FnA K ts AE "forth_never" (top 70))
  (a47:FnA K ts AE "_law_deck" (top 73))
  (a48:FnA K ts AE "_law_next" (top 74))
  (a49:FnA K ts AE "_law_kind" (top 75))
  (a50:FnA K ts AE "_law_many" (top 76))
  (a51:FnA K ts AE "_law_plain" (top 77))
  (a52:FnA K ts AE "_law_made" (top 78))
  (a53:FnA K ts AE "_law_taken" (top 79))
  (a54:FnA K ts AE "_law_term" (top 80))
  (a55:FnA K ts AE "_law_under" (top 81))
  (a56:FnA K ts AE "_law_lift" (top 82))
  (a57:FnA K ts AE "_law_put" (top 83))
  (a58:FnA K ts AE "_law_two" (top 84))
  (a59:FnA K ts AE "_law_void" (top 85))
  (a60:FnA K ts AE "_law_nothing" (top 86))
  (a61:FnA K ts AE "_law_spread" (top 87))
  (a62:FnA K ts AE "_law_step" (top 88))
  (a63:FnA K ts AE "_law_word" (top 89))
  (a64:FnA K ts AE "_law_names" (top 90))
  (a65:FnA K ts AE "law" (top 91))
  (bb:∀b∈S5,Ay K AO b=AA AF)
  (ga0:Ay K AO "INNER_FROM"=AA (AA (.ref g0))) (gt0:(letI:Tbs:=⟨ts,mFB,(p9.cls "!kt").isEmpty⟩;U8 K g0 (p9.tab "INNER_FROM"))=AD)
  (ga1:Ay K AO "UNDER_ONE_MORE"=AA (AA (.ref g1))) (gt1:(letI:Tbs:=⟨ts,mFB,(p9.cls "!kt").isEmpty⟩;U8 K g1 (p9.tab "UNDER_ONE_MORE"))=AD)
  (ga2:Ay K AO "BY_WORD"=AA (AA (.ref g2))) (gt2:(letI:Tbs:=⟨ts,mFB,(p9.cls "!kt").isEmpty⟩;U8 K g2 (p9.tab "BY_WORD"))=AD)
  (ga3:Ay K AO "FORTH"=AA (AA (.ref g3))) (gt3:(letI:Tbs:=⟨ts,mFB,(p9.cls "!kt").isEmpty⟩;U8 K g3 (p9.tab "FORTH"))=AD)
  (kc0:Ay K AO "FEW"=AA (AA ku0)) (kv0:(letI:Tbs:=⟨ts,mFB,(p9.cls "!kt").isEmpty⟩;J7 K (.int 2000) ku0)=AD)
  (kc1:Ay K AO "WORDS"=AA (AA ku1)) (kv1:(letI:Tbs:=⟨ts,mFB,(p9.cls "!kt").isEmpty⟩;J7 K (.ktup [.inr "let",.inr "give",.inr "first",.inr "second",.inr "left",.inr "right",.inr "star",.inr "pair",.inr "way",.inr "split",.inr "never"]) ku1)=AD)
  (kx0:Ay K AO "!kt"=AA AF)
  (ky0:Ay K AO "!Shelf.laid_kind"=AA AF)
  (ky1:Ay K AO "!is_step"=AA AF)
  (ca0:ClA K "Shelf" C0)
  (ca1:ClA K "Node" C1) (cf0_0:BW K (.ref C0) "numbers"=AA AF) (cf0_1:BW K (.ref C0) "stored"=AA AF) (cf0_2:BW K (.ref C0) "parts"=AA AF) (cf0_3:BW K (.ref C0) "waiting"=AA AF) (cf1_0:BW K (.ref C1) "program"=AA AF) (cf1_1:BW K (.ref C1) "inside"=AA AF) (cf1_2:BW K (.ref C1) "number"=AA AF) (cf1_3:BW K (.ref C1) "holders"=AA AF) (cf1_4:BW K (.ref C1) "ways"=AA AF) (cf1_5:BW K (.ref C1) "used"=AA AF) (cf1_6:BW K (.ref C1) "kind"=AA AF)
  (m0:MtA K ts AE "Shelf" C0 "__init__" (mth 15 0))
  (m1:MtD K "Shelf" C0 "laid_kind" (mth 15 2) 3)
  (m2:MtA K ts AE "Shelf" C0 "built" (mth 15 3))
  (m3:MtA K ts AE "Shelf" C0 "numbered" (mth 15 4))
  (m4:MtA K ts AE "Shelf" C0 "put_by" (mth 15 5))
  (m5:MtA K ts AE "Shelf" C0 "taken_up" (mth 15 6))
  (m6:MtA K ts AE "Shelf" C0 "tuple_at" (mth 15 7))
  (m7:MtA K ts AE "Shelf" C0 "word_at" (mth 15 8))
  (m8:MtA K ts AE "Shelf" C0 "within" (mth 15 9))
  (m9:MtA K ts AE "Node" C1 "__init__" (mth 23 0)) (nl:S9 K=AD) (nt:Ir K=AD) (tso:as0 K ts=AD) :
  (letI:Tbs:=⟨ts,mFB,(p9.cls "!kt").isEmpty⟩;AllOk pr w K mg P6 p9)/\S9 K=AD/\Ir K=AD/\∀P∈ts,∃c,CP K c P=AD:=by
 letI:Tbs:=⟨ts,mFB,(p9.cls "!kt").isEmpty⟩
 refine⟨⟨λf d hf hi=>?_,λf d hf hi=>?_,λf c Ca hn hf=>?_,λb hb=>W.mg_none_of X G (bb b hb),λg hg=>?_,λg i hg=>?_,λc hc=>?_,rfl⟩,nl,nt,b96 tso⟩
 ·
  refine(?_:∀f d,(f,d)∈W6->isM f=AE->DefOk K mg (t4 p9.cls f) f d) f d (PySem.mem_of_lookup hf) hi;unfold W6
  iterate 10 refine i7 (λhi=>absurd hi (by decide+kernel)) ?_
  refine i7 (λ_=>a0.ok X G) ?_;refine i7 (λ_=>a1.ok X G) ?_;refine i7 (λ_=>a2.ok X G) ?_;refine i7 (λ_=>a3.ok X G) ?_;refine i7 (λ_=>a4.ok X G) ?_;refine i7 (λ_=>a5.ok X G) ?_;refine i7 (λ_=>a6.ok X G) ?_;refine i7 (λ_=>a7.ok X G) ?_;refine i7 (λ_=>a8.ok X G) ?_;refine i7 (λ_=>a9.ok X G) ?_;refine i7 (λ_=>a10.ok X G) ?_;refine i7 (λ_=>a11.ok X G) ?_;refine i7 (λ_=>a12.ok X G) ?_;refine i7 (λ_=>a13.ok X G) ?_;refine i7 (λ_=>a14.ok X G) ?_;refine i7 (λ_=>a15.ok X G) ?_;refine i7 (λ_=>a16.ok X G) ?_;refine i7 (λ_=>a17.ok X G) ?_;refine i7 (λ_=>a18.ok X G) ?_;refine i7 (λ_=>a19.ok X G) ?_;refine i7 (λ_=>a20.ok X G) ?_;refine i7 (λ_=>a21.ok X G) ?_;refine i7 (λ_=>a22.ok X G) ?_;refine i7 (λ_=>a23.ok X G) ?_;refine i7 (λ_=>a24.ok X G) ?_;refine i7 (λ_=>a25.ok X G) ?_;refine i7 (λ_=>a26.ok X G) ?_;refine i7 (λ_=>a27.ok X G) ?_;refine i7 (λ_=>a28.ok X G) ?_;refine i7 (λ_=>a29.ok X G) ?_;refine i7 (λ_=>a30.ok X G) ?_;refine i7 (λ_=>a31.ok X G) ?_;refine i7 (λ_=>a32.ok X G) ?_;refine i7 (λ_=>a33.ok X G bm5 (λ_ _ _ _ _ _ _ _ _ _ hT hS=>⟨bdS λ_=>bdS λ_=>bdS λ_=>bdS λ_=>bdS λ_=>bdZ (Dl rfl hT hS rfl rfl),λus hl=>match us,hl with|[_,_,_,_],_=>Dl rfl hT hS rfl rfl⟩)) ?_;refine i7 (λ_=>a34.ok X G) ?_;refine i7 (λ_=>a35.ok X G) ?_;refine i7 (λ_=>a36.ok X G) ?_;refine i7 (λ_=>a37.ok X G) ?_;refine i7 (λ_=>a38.ok X G) ?_;refine i7 (λ_=>a39.ok X G) ?_;refine i7 (λ_=>a40.ok X G) ?_;refine i7 (λ_=>a41.ok X G) ?_;refine i7 (λ_=>a42.ok X G) ?_;refine i7 (λ_=>a43.ok X G) ?_;refine i7 (λ_=>a44.ok X G) ?_;refine i7 (λ_=>a45.ok X G) ?_;refine i7 (λ_=>a46.ok X G) ?_;refine i7 (λ_=>a47.ok X G) ?_;refine i7 (λ_=>a48.ok X G) ?_;refine i7 (λ_=>a49.ok X G) ?_;refine i7 (λ_=>a50.ok X G) ?_;refine i7 (λ_=>a51.ok X G) ?_;refine i7 (λ_=>a52.ok X G) ?_;refine i7 (λ_=>a53.ok X G) ?_;refine i7 (λ_=>a54.ok X G) ?_;refine i7 (λ_=>a55.ok X G) ?_;refine i7 (λ_=>a56.ok X G) ?_;refine i7 (λ_=>a57.ok X G) ?_;refine i7 (λ_=>a58.ok X G) ?_;refine i7 (λ_=>a59.ok X G) ?_;refine i7 (λ_=>a60.ok X G) ?_;refine i7 (λ_=>a61.ok X G) ?_;refine i7 (λ_=>a62.ok X G) ?_;refine i7 (λ_=>a63.ok X G) ?_;refine i7 (λ_=>a64.ok X G) ?_;refine i7 (λ_=>a65.ok X G) ?_;exact bj7
 ·
  refine(?_:∀f d,(f,d)∈W6->isM f=AD->∃c m,f=f6 c m/\isM c=AE/\isM m=AE/\MthOk K mg (t4 p9.cls (f6 c m)) c m d) f d (PySem.mem_of_lookup hf) hi;unfold W6;refine i7 (λ_=>m0.ok ca0 X G) ?_;refine i7 (λ_=>m1.ok ca0 X G bm1 (λ_ _ _ _ _ _ _ _ _ _ _ hT hS=>⟨bdS λ_=>bdS λ_=>bdS λ_=>bdZ (Dl rfl hT hS rfl rfl),λus hl=>match us,hl with|[_,_],_=>Dl rfl hT hS rfl rfl⟩)) ?_;refine i7 (λ_=>m2.ok ca0 X G) ?_;refine i7 (λ_=>m3.ok ca0 X G) ?_;refine i7 (λ_=>m4.ok ca0 X G) ?_;refine i7 (λ_=>m5.ok ca0 X G) ?_;refine i7 (λ_=>m6.ok ca0 X G) ?_;refine i7 (λ_=>m7.ok ca0 X G) ?_;refine i7 (λ_=>m8.ok ca0 X G) ?_;refine i7 (λ_=>m9.ok ca1 X G) ?_
  iterate 66 refine i7 (λhi=>absurd hi (by decide+kernel)) ?_
  exact bj7
 ·
  unfold p9 at hf;simp only at hf
  by_cases hck:c="!kt"
  ·subst hck;rw[kx0]at hn;cases hn
  rw[if_neg hck]at hf
  by_cases hdk0:c="!Shelf.laid_kind"
  ·subst hdk0;rw[ky0]at hn;cases hn
  rw[if_neg hdk0]at hf
  by_cases hdk1:c="!is_step"
  ·subst hdk1;rw[ky1]at hn;cases hn
  rw[if_neg hdk1]at hf
  by_cases hc0:c="Shelf"
  ·subst hc0;rw[ca0.a]at hn;cases hn;rw[if_pos rfl]at hf;simp only[AN,AZ,or_false]at hf;refine⟨ca0.cl,?_⟩
   rcases hf with rfl|rfl|rfl|rfl
   ·exact cf0_0
   ·exact cf0_1
   ·exact cf0_2
   ·exact cf0_3
  rw[if_neg hc0]at hf
  by_cases hc1:c="Node"
  ·subst hc1;rw[ca1.a]at hn;cases hn;rw[if_pos rfl]at hf;simp only[AN,AZ,or_false]at hf;refine⟨ca1.cl,?_⟩
   rcases hf with rfl|rfl|rfl|rfl|rfl|rfl|rfl
   ·exact cf1_0
   ·exact cf1_1
   ·exact cf1_2
   ·exact cf1_3
   ·exact cf1_4
   ·exact cf1_5
   ·exact cf1_6
  rw[if_neg hc1]at hf;exact absurd hf AZ
 ·unfold p9 at hg ⊢;simp only at hg ⊢
  by_cases hg0:g="INNER_FROM"
  ·subst hg0;exact ab8 X G ga0 gt0
  rw[if_neg hg0]at hg
  by_cases hg1:g="UNDER_ONE_MORE"
  ·subst hg1;exact ab8 X G ga1 gt1
  rw[if_neg hg1]at hg
  by_cases hg2:g="BY_WORD"
  ·subst hg2;exact ab8 X G ga2 gt2
  rw[if_neg hg2]at hg
  by_cases hg3:g="FORTH"
  ·subst hg3;exact ab8 X G ga3 gt3
  rw[if_neg hg3]at hg;exact absurd rfl hg
 ·unfold p9 at hg;simp only at hg
  by_cases hg0:g="FEW"
  ·subst hg0;rw[if_pos rfl]at hg;cases hg;exact⟨_,GW X G kc0,kv0⟩
  rw[if_neg hg0]at hg
  by_cases hg1:g="WORDS"
  ·subst hg1;rw[if_pos rfl]at hg;cases hg;exact⟨_,GW X G kc1,kv1⟩
  rw[if_neg hg1]at hg;cases hg
 ·
  rw[(by decide+kernel:p9.cls "!is"=([]:List Str))]at hc;cases hc
end Ek
namespace PySem.W.Fast
local macro_rules|`(command|include $x*)=>do return Lean.mkNullNode (← x.mapM fun i=>Lean.MonadRef.withRef .missing `(command|theorem $i:ident:True:=⟨⟩))
include tw13132724226096488273 tw7098206315640128500 tw2839165427000861175 tw11489586007776505261 tw5093562777822583653 tw7766682499455897008 tw12673597078962478046 tw1419237075711893817 tw16600113826262123492 tw17907329863687760998 tw16583210852555778222 tw13348937346686773838 tw11690702476888210403 tw2280391575258723134 tw7071486520958808439 tw10040898520051188147 tw14207492017115349253 tw7780997949134869347 tw10344814160326765094 tw5095189161383619894 tw17478888674609340662 tw18298587470655838893 tw14283635087867835707 tw5659662309328645134 tw9369423509703028069 tw15088260762352462255 tw578557809199233364 tw15811789142714740013 tw2089757676952195078 tw16765626093171118009 tw9682347240624587770 tw11262130725016028346 tw15874818187396288176 tw16142001713110319202 tw3997032396870475897 tw8741569202258770948 tw7745080253566912866 tw8669131019168740726 tw8334130993294074865 tw12995847755979073869 tw3931470831431672581 tw11379033408204661369 tw10769267472796465014 tw530702115693709146 tw11523038712076665384 tw15936572769230866522 tw5955726895440103478 tw7137844095082708472 tw11030385618688402768 tw4094158737073427290 tw8626130562304949155 tw17105179162295204874 tw16482972516623991945 tw7821284933602465423 tw12464122622312059118 tw15395552773882145734 tw4010536699211556274 tw11793668075225608384 tw15618401672311130235 tw6051089351746465151 tw8667731467402337936 tw15577768153904503725 tw11889242878045527242 tw1756944575664902251 tw6154047717436231889 tw3881800160731788335 tw18194494315561981534 tw7453249832561863364 tw6311157078458632597 tw18051226520266204455 tw175325551825378414 tw6231548485309047840 tw16487571240785871149 tw14675248283538552512 tw13559266642607148999 tw17220524498018868429 tw7923982965873805787 tw9171063475364725463 tw218233319330287568 tw1727686931641355523 tw14470592746335619445 tw16241321858360509549 tw11101695991149538495 tw9915166872834412266 tw13803598194409446758 tw12637356467603309634 tw10802267417627014061 tw4999535612091816572 tw4055972856773957320 tw10083748936629260973 tw4592138628046762724 tw13197122543681379113 tw4661922712312483167 tw6089181114662738209 tw8713456050518056641 tw10494407110035891243 tw2552312013490027273 tw6919256891679282733 tw16714383051770013875 tw2511674255328532971 tw11854465910314395054 tw6935342635053769136 tw7247280692535821137 tw18000192047984067558 tw16852194662459704599 tw5414441092827629220 tw2555792232446194088 tw7937858767646142587 tw10470281335561781296 tw4678174808752188735 tw8293013965803181174 tw12037604958174427284 tw12895973743351413244 tw11482236306421630671 tw8892887811864749825 tw4441455885247071228 tw1369481792420919316 tw3438359039928472663 tw12064849655272683267 tw12069545093701458901 tw9146061856935501745 tw6685214801739432927 tw13021891488568160111 tw5453657773553856001 tw10774429137920117248 tw17184014610397072498 tw2238261642090189247 tw12746365757088339495 tw5176782360555236608 tw17679489769808615014 tw16079734288872860567 tw3655806051884328516 tw563448608144903590 tw16409071260966856585 tw5315609475908765354 tw1415774414822656164 tw1250484259502457540 tw3167150526689316488 tw10215999301161235371 tw10187024043673483456 tw578709875989302503 tw17605951091220216295 tw9303581022832346732 tw14727032700583218583 tw9211415153372907632 tw12847377871369027646 tw1390241757737950513 tw6469011275651426505 tw18353210280165898321 tw3066561977829687563 tw18118118807172666352 tw10649529648103842606 tw14767526622686086134 tw3885653244061254885 tw7066328138802537735 tw9269880857414346725 tw16740809303113765222 tw1299181623982294990 tw2707614205432360430 tw7183711483156144498 tw988017902066501493 tw6855582290346434569 tw9356996758529197133 tw6572872398118466306 tw13173052199260393355 tw16767395685176705711 tw8116297708196722677 tw12054104219541051554 tw3941800854629670488 tw12364354489478202050 tw15511692759986793909 tw6888635938572200467 tw14039541028083392618 tw6098107091612818365 tw13958708042511788560 tw17870505184191630663 tw18035131256977141395 tw11051940692265698377 tw18125039203305405593 tw11940453306944108928 tw15185500788850133579 tw12399681163151440870 tw11501697887345496659 tw14864135184115960696 tw6293060870833901204 tw9852995152816227745 tw15524935604585904756 tw10643556638269042177 tw13347263729072274672 tw13467957919587426454 tw17346041263373689619 tw13336991060604434268 tw6878957593161558257 tw11348446839942340426 tw6297771027919647273 tw17481694693494595444 tw14696095554020031377 tw13133712624695158073 tw15340951198423731753 tw14671109624238673699
end PySem.W.Fast
open PySem PySem.W PyProof.Rows
set_option maxRecDepth 100000 in
set_option maxHeartbeats 0 in
theorem PySem.Challenge.cw_evenkinds_k41_steps_of_the_book_holds : PySem.Challenge.rw_evenkinds_k41_steps_of_the_book.Holds := by
 w_on;o_law;k_head;(case hw=>w_witness2)
 k_fill
 refine Ek.cb6 (l:=PySem.Challenge.rw_evenkinds_k41_steps_of_the_book) (P:=Ek.P6) (G:=Ek.p9) (n:=100) (x:="_law_script") (dl:=Ek.aa9) rfl rfl rfl ⟨rfl,∅,∅⟩ (λw h Y=>⟨W.km_in_of Y,W.km_tabs_of Y⟩) rfl ?hst ?F Ek.bt3
 case hst=>
  intro st ps S;have e:=S.sc.pre;have e2:=S.np;rw[e2]at e;exact e.symm
 case F=>
  intro w mg h KX G
  refine' Ek.cr8 KX G ?_ ?_ ?_ ?_ ?_ ?_ ?_ ?_ ?_ ?_ ?_ ?_ ?_ ?_ ?_ ?_ ?_ ?_ ?_ ?_ ?_ ?_ ?_ ?_ ?_ ?_ ?_ ?_ ?_ ?_ ?_ ?_ ?_ ?_ ?_ ?_ ?_ ?_ ?_ ?_ ?_ ?_ ?_ ?_ ?_ ?_ ?_ ?_ ?_ ?_ ?_ ?_ ?_ ?_ ?_ ?_ ?_ ?_ ?_ ?_ ?_ ?_ ?_ ?_ ?_ ?_ ?_ ?_ ?_ ?_ ?_ ?_ ?_ ?_ ?_ ?_ ?_ ?_ ?_ ?_ ?_ ?_ ?_ ?_ ?_ ?_ ?_ ?_ ?_ ?_ ?_ ?_ ?_ ?_ ?_ ?_ ?_ ?_ ?_ ?_ ?_ ?_ ?_ ?_ ?_ ?_ ?_ ?_
  rotate_left 8
  iterate 7 (refine' Ek.fnA ?a ?b ?c ?d;(case a=>k_is);(case b=>k_is);(case c=>k_is);(case d=>k_is))
  (refine' Ek.fnM ?a ?b ?c ?d ?e ?f ?g;(case a=>k_is);(case b=>k_is);(case c=>k_is);(case d=>k_is);(case e=>rfl);(case f=>kernel_rfl);(case g=>decide))
  iterate 4 (refine' Ek.fnA ?a ?b ?c ?d;(case a=>k_is);(case b=>k_is);(case c=>k_is);(case d=>k_is))
  (refine' Ek.fnM ?a ?b ?c ?d ?e ?f ?g;(case a=>k_is);(case b=>k_is);(case c=>k_is);(case d=>k_is);(case e=>rfl);(case f=>kernel_rfl);(case g=>decide))
  iterate 15 (refine' Ek.fnA ?a ?b ?c ?d;(case a=>k_is);(case b=>k_is);(case c=>k_is);(case d=>k_is))
  iterate 2 (refine' Ek.fnM ?a ?b ?c ?d ?e ?f ?g;(case a=>k_is);(case b=>k_is);(case c=>k_is);(case d=>k_is);(case e=>rfl);(case f=>kernel_rfl);(case g=>decide))
  (refine' Ek.fnA ?a ?b ?c ?d;(case a=>k_is);(case b=>k_is);(case c=>k_is);(case d=>k_is))
  (refine' Ek.fnM ?a ?b ?c ?d ?e ?f ?g;(case a=>k_is);(case b=>k_is);(case c=>k_is);(case d=>k_is);(case e=>rfl);(case f=>kernel_rfl);(case g=>decide))
  (refine' Ek.fnA ?a ?b ?c ?d;(case a=>k_is);(case b=>k_is);(case c=>k_is);(case d=>k_is))
  (refine' Ek.fnD ?a ?b ?c ?d ?e;(case a=>k_is);(case b=>k_is);(case c=>k_is);(case d=>k_is);(case e=>k_is))
  iterate 32 (refine' Ek.fnA ?a ?b ?c ?d;(case a=>k_is);(case b=>k_is);(case c=>k_is);(case d=>k_is))
  (intro b hb;simp only[Ek.S5,AN]at hb;(repeat' (rcases hb with rfl|hb))<;>k_is)
  k_is
  rfl
  k_is
  rfl
  k_is
  rfl
  k_is
  rfl
  k_is
  kernel_rfl
  k_is
  kernel_rfl
  iterate 3 k_is
  iterate 2 (refine' Ek.clA ?a ?b ?c ?d ?e ?f ?g;(case a=>k_is);(case b=>k_is);(case c=>k_is);(case d=>k_is);(case e=>k_is);(case f=>k_is);(case g=>k_is))
  iterate 11 k_is
  (refine' Ek.mtA ?a ?b ?c ?d ?e ?f;(case a=>k_is);(case b=>k_is);(case c=>k_is);(case d=>k_is);(case e=>k_is);(case f=>k_is))
  (refine' Ek.mtD ?a ?b ?c ?d ?e ?f ?g;(case a=>k_is);(case b=>k_is);(case c=>k_is);(case d=>k_is);(case e=>k_is);(case f=>k_is);(case g=>k_is))
  iterate 8 (refine' Ek.mtA ?a ?b ?c ?d ?e ?f;(case a=>k_is);(case b=>k_is);(case c=>k_is);(case d=>k_is);(case e=>k_is);(case f=>k_is))
  iterate 3 rfl
#print axioms PySem.Challenge.cw_evenkinds_k41_steps_of_the_book_holds
